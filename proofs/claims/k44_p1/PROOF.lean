import PyProof.Rows.All
import Wide.All
import OpenK.AllK
import Wide.FinOn
import Lean
import PyProof.EqAt
import PyProof.EqKinds
import PyProof.TupleCall
import PyProof.CompFree
import PyProof.NeKinds
import KE.KSortTup
import KE.KRevSl
import KE.KDictSum
import KE.KEqDict
import PyProof.Conv_int_bool
import PyProof.AttrMissHeap
import KE.KLam
import KE.KRevIter
import KE.KTryMore
import PyProof.ExcArgsOwn
import PySem.Challenge.RW_talkmarks_k44_rooms_for_members_alone
open PySem renaming wpAny_bind->r9,wpAny_pure->t6,Spec->AAB,wpAny_holding->E4,wpAny_newObj_type->J6,wpAny_call_entry->Ks,wpAny_callSpecial?_slot->Lz,wpAny_mono->E1,wpAny_setState_of->Lo,wpAny_forIn_list->Lm,mem_of_lookup->Md,wpAny_dictEpoch->Ll,wpAny_fieldsOf->Lk,wpAny_dictEntries->Mb,wpAny_ite_split->LM,wpAny_rule->KA,wpAny_truthy_bool->Mx,eqIsQuiet_byValue->Mv,wpAny_setField->LK,wpAny_specialOf->L8,codeAny_builtin->L6,wpAny_Call_Name_kw->M7,wpAny_typeNameOfWhole_keyiter->Py,wpAny_typeNameOfWhole_valiter->Px,wpAny_attempt->LJ,wpAny_askSetting->MX,wpAny_isInstance->MW,wpAny_notOrdered_dict->Ot,wpAny_execs_nil->MV,wpAny_passesOwn->MU,wpAny_typeNameOf_keyiter->Ps,wpAny_typeNameOf_valiter->Pq,codeAny_mono->LY,sizeLine_eq->LG,wpAny_setEntries_of->Op,Value->ACz,wpAny_seqItems->MS,wpAny_Call_method_late->Pn,wpAny_callSpecialIfBoundUnlessNone?_slot->Qu,wpAny_typeOf->Mq,builtinLookup_eq_fast->Pk,plainId_quiet->MQ,codeAny_call_builtin->Pi,wpAny_pyHash_int->Of,wpAny_pyHash_str->Oe,wpAny_comprehension_free->Qf,wpAny_loadPart'->Qt,codeAny_compStart_list->P7,wpAny_pyIter_list->Pa,wpAny_pyIter_slot->O8,atKey_none_of_get->O7,call_meetsIn->Nn,wpAny_isOneOf_valiter->P2,wpAny_execs_cons->O4,typeIs_str->ML,typeLookup_type->OV
open PySem.Str renaming ofString->t5
open List renaming getElem?_eq_getElem->v9,length_map->u8,getElem?_eq_some_iff->z6,length_append->A1,mem_cons_of_mem->A8,size_toArray->A3,mem_map->w9,mem_cons_self->C9,mem_cons->A0,length_cons->B9,getElem?_map->D5,getElem?_append_left->Ko,mem_append_right->F9,length_singleton->F8,length_nil->D3,getD_eq_getElem?_getD->Kx,map_cons->B8,mem_of_getElem?->J1,all_eq_true->F0,mem_filter->E6,getElem?_append_right->K0,nil_append->Fn,append_assoc->G5,mem_append->F3,range->A7,mem_singleton->J7,length_filter_le->KZ,getElem?_set_ne->KY,prefix_append->KH,map_map->E7,length_take->Kt,mem_range->J0,getElem?_set_self->Lp,map_append->Kr,mem_append_left->Ld,length_drop->KD,getElem?_of_mem->Lc,mem_map_of_mem->Lb,nodup_cons->KC,append_nil->KO,nodup_iff_pairwise_ne->Mz,cons_lt_cons_iff->LQ,find?_cons->K7,getElem?_eq_none->Mf,getElem_mem->Ln,all_cons->KT,getElem?_take_of_lt->Nb,filterMap_cons->Me,any_eq_true->Lx,length->KB,take_length->LO,length_range->Mc,take_add_one->Ma,lookup_cons->L9,take_of_length_le->NC,map_congr_left->M9,drop_eq_getElem_cons->Oy,pairwise_iff_getElem->Ox,prefix_rfl->L7,mem_filterMap->M8,zip_cons_cons->MZ,getElem?_cons_succ->Ov,length_set->Mu,getElem?_drop->Nz,find?_some->MT,getElem?_replicate->Pp,length_reverse->ACy,not_mem_nil->Nx,filter_cons->Nw,length_replicate->Pl,take_sublist->Ol,pairwise_map->Oh,lt_irrefl->Nv,mem_of_find?_eq_some->Qi,cons_append->Od,range'->Mo,filter_sublist->Ph,filter_cons_of_neg->Qd,pairwise_singleton->Qc,filter_append->Pd,getElem?_cons_zero->Qa,drop_of_length_le->P6,map_id->MN,nodup_append->O6,find?_append->O5,replicate->Ob,nodup_nil->N9,set_append_right->P3,nodup_range->O3,map_drop->N7,of_mem_zip->O1,toArray->N5,find?_map->OO,getD->MK
open PySem.W renaming Frag->t8,kitOne->KU,keepIn->LL,kas_desc->I9,fnOf->Lv,nsIn->LH,findIn->Mt,kas_rev->Kz,kas_place->Lu,hideAll->Oc,excIn->Np,cellsFrom_some->P9,kas_asc->K4,codeIn->Oa,kas_descPart->No,of_hideAll->PZ,callWith_K->PU,kas_sort->LV,exmOne->OP,methodObj->PQ,mg_of->ON
open PySem.Heap renaming get?_push_of_some->w6,get?_push_size->A9,lt_size->x3,get?_update_self->KI,size_push->K6,get?_update_other->NF,SameBut->Li,get?_update_ne->Oq,MadeExcOf->OQ
open Nat renaming le_refl->u6,ne_of_lt->x9,zero_le->z5,lt_of_lt_of_le->G8,lt_succ_self->Kw,lt_irrefl->G4,le_trans->J4,lt_or_ge->KR,not_lt_zero->LN,lt_succ_of_lt->Mw,le_of_lt->LZ,sub_self->LX,not_lt->LF,lt_trichotomy->Oj,add_sub_cancel->Pe,le_of_ble_eq_true->P4,le_succ->Nm
open Bool renaming false_eq_true->A4,and_eq_true->D6,eq_false_iff->Ly,false_ne_true->LP,not_true->Lj,or_eq_true->OZ,false_and->OU,and_false->OT
open Array renaming length_toList->D7,getElem?_eq_getElem->Kn,getElem?_toList->G6,getElem?_eq_some_iff->LA,getD_eq_getD_getElem?->MA,getElem?_eq_none->Ou,getD->La,forIn_toList->Ny,toList_push->Oi
open Option.some renaming inj->B5
open Classical renaming propDecidable->J2,byContradiction->Mg
open PySem.SetTable renaming below->E5,runEnd->J5,bits->Lw,leap->L5,Probe->Ms,grown->MR,turns->Nt,fits->Nr,insertAt->O9,sizeAbove->PR,fill->OM
open PySem.Heap.SameBut renaming update->KW
open Int renaming toNat_natCast->KG,zero_add->Mp,le_refl->N4
open PySem.Value renaming ref->ABF,none->ABh,builtin->Nq,type->MM,bool->Nl
open False renaming elim->F7
open PyProof.Rows renaming slot_tuple_getitem->NI,callWith_type1->Qk,get?_update_seq->OW,envOfC->P0
open PySem.Builtin.Str renaming strKind->My,strSliceIndices->NH,occurrences->NG
open PySem.NameKind renaming free->KN,cell->Mr
open PySem.Builtin.Tuple renaming tupleHashOf->Nc,tupleItemsOf->Pv,tupleExact->Pt
open Ne renaming symm->D2
open Sum renaming inr->ABe
open PySem.Builtin.Dict_items renaming ownsTuple->Oz
open PySem.Around renaming under_plainId->Na
open PySem.Calls renaming callWith_builtin->NE,evalArgs_plain->Os,spliced_cons->PY
open Option renaming map_eq_some_iff->ND,isSome_iff_exists->Ow
open PySem.Txt renaming split->Kq,slice->Kv,startswith->OS
open PySem.Obj renaming mapSeq->KM,data_mapDictKeys->NA,isFreed_of_dict->Oo,mapFields->MP,data_mapFields->Pc,data_mapDict->O2,putSet->Nk
open PySem.F renaming slot_dict_get->NB,slot_list_getattribute->Pz,slot_dict_setdefault->Pw,plainAttrs_dict->Po,args_tuple_add_2->Qh,entry_tuple_add->Qe,args_dict_get_3->Qb,slot_tuple_add->P8,entry_dict_get->P5,type_dict_get->P1
open PySem.SeqAt renaming EqAt->K5
open PySem.SetTable.below renaming go->MY
open PySem.Builtin.Slice renaming slicePlaces->Pu,sliceAdjust->Qj,sliceApplied->Qq
open PySem.SetTable.layClean renaming free->Pm
open PySem.SeqAt.EqAt renaming int_str->On,str_int->Om,int_int->Pg,str_str->Pf,same->OY
open PySem.Builtin.Dict renaming showsAll->Pj
open List.Sublist renaming refl->Og
open List.Perm renaming refl->Nu,cons->OR
open PySem.Builtin.List renaming listTooLong->Qg,listLengthHint->Qs,listExtendWith->Qr
open List.Pairwise renaming nil->Pb
open True renaming intro->Mn
open List.cons renaming inj->N8,injEq->OX
open PySem.Shared renaming TypeIs->N6
open ForInStep renaming yield->O0
open PySem.SetTable.probe renaming go->PP
open Option renaming some->a7,none->a8
open Bool renaming true->a9,false->bt
open PySem renaming Value->b7,Str->b9,World->c3,Program->c5,Addr->c6,Obj->c7,Heap->c8,sysModules->c9,entryOfKey->d5,mainGlobals->d6,bootBuiltins->d7,Around->d8,Shared->d9,Scope->e6,wpAny->e8,Expr->f6,model->f7,Pos->f8,backTo->f9,starEach->ge,Stmt->g7,holding->g8,swapsWith->g9,assign->i3,assignEach->i5,pyNext->i6,letOwnedTupleGo->i7,pyIter->i8,rawInt->i9,foldedSetIterable->j0,binaryOp->j1,compareOp->j2,behindInMarks->j3,cLine->j4,FuncData->j5,codeAny->j6,Keyword->j7,NameKind->j8,IsPart->j9,getItem->k7,sliceBounds->k9,typeOf->l7,attributeBase->l8,backToKw->m3,keywordEach->m5,call_meets->m6,DictEntry->m7,reduceHash->m8,pickOrder->n5,SetTable->n6,firstArgMember->n9,eqIsQuiet->o0,placesWithHash->o4
open PyProof.Rows renaming envOfC->b8,AllBare->e7,seqObj->m9
set_option autoImplicit true
set_option relaxedAutoImplicit true
set_option compiler.extract_closed false
set_option Elab.async false
set_option linter.all false
set_option maxRecDepth 100000
def o5:=@if_pos
def o6:=@if_neg
def o7:=@absurd
def o8:=@decide_eq_true_eq
def p5:=@beq_iff_eq
def p6:=@if_false
def p7:=@if_true
def p8:=@congrArg
def p9:=@beq_self_eq_true
-- CHANGE: your row's module here,as the last of these rows
theorem dF_{p:Prop}[Decidable p](h:¬p):decide p=bt:=decide_eq_false h
theorem dT_{p:Prop}[Decidable p](h:p):decide p=a9:=decide_eq_true h
theorem oT_{p:Prop}[Decidable p](h:decide p=a9):p:=of_decide_eq_true h
namespace L2
open PySem PySem.Spec PyProof.Rows
noncomputable abbrev G0:=Sum Int b9
noncomputable def xB:G0->b7->Bool
 |.inl k,v=>Value.isInt k v
 |.inr x,v=>Value.isStrOf x v
noncomputable def keyH(w:c3):G0->Int
 |.inl k=>hashInt k
 |.inr x=>hashStr w x
theorem bc:∀{k:G0}{v:b7},xB k v=a9->(∃i t,k=Sum.inl i/\v=Value.int i t)\/(∃x t,k=ABe x/\v=Value.str x t)
 |.inl i,v,h=>by obtain⟨t,e⟩:=Value.isInt_shape (k:=i) (v:=v) h;exact .inl ⟨i,t,rfl,e⟩
 |.inr x,v,h=>by obtain⟨t,e⟩:=Value.isStrOf_shape (x:=x) (v:=v) h;exact .inr ⟨x,t,rfl,e⟩
theorem zU(i:Int)(t:Tok):xB (.inl i) (.int i t)=a9:=by simp[xB,Value.isInt]
theorem zT(x:b9)(t:Tok):xB (.inr x) (.str x t)=a9:=by simp[xB,Value.isStrOf]
theorem IR(a b:Int):decide ((Sum.inl a:G0)=Sum.inl b)=(a==b):=by by_cases e:a=b;subst e;simp;have h:¬(Sum.inl a:G0)=Sum.inl b:=λq=>e<|Sum.inl.inj q;rw[dF_ h];exact(beq_eq_false_iff_ne.mpr e).symm
theorem DH(a b:b9):decide ((ABe a:G0)=ABe b)=decide (a=b):=by by_cases e:a=b;subst e;simp;have h:¬(ABe a:G0)=ABe b:=λq=>e<|Sum.inr.inj q;rw[dF_ h,dF_ e]
theorem IP(a:Int)(b:b9):decide ((Sum.inl a:G0)=ABe b)=bt:=dF_<|λq=>nomatch q
theorem IN(a:b9)(b:Int):decide ((ABe a:G0)=Sum.inl b)=bt:=dF_<|λq=>nomatch q
noncomputable def dZ(prog:c5)(w:c3):PySem.KeyKind prog w G0 where
 is:=xB
 hash:=keyH w
 inj:=λv a b f d=>by
  rcases bc f with⟨i,t,rfl,rfl⟩|⟨x,t,rfl,rfl⟩
  rcases bc d with⟨j,u,rfl,e⟩|⟨y,u,rfl,e⟩
  injection e with e1 _;rw[e1];exact nomatch e
  rcases bc d with⟨j,u,rfl,e⟩|⟨y,u,rfl,e⟩
  exact nomatch e
  injection e with e1 _;rw[e1]
 byValue:=λk v h=>by rcases bc h with⟨i,t,rfl,rfl⟩|⟨x,t,rfl,rfl⟩<;>rfl
 pyHash:=λc h=>by
  rcases bc c with⟨i,t,rfl,rfl⟩|⟨x,t,rfl,rfl⟩
  exact Of h;exact Oe h
 eqBool:=λg c h=>by
  rcases bc g with⟨i,t,rfl,rfl⟩|⟨x,t,rfl,rfl⟩
  rcases bc c with⟨j,u,rfl,rfl⟩|⟨y,u,rfl,rfl⟩
  rw[IR]at h;exact wpAny_eqBool_int h;rw[IP]at h;exact On i t y u _ _ _ _ h;rcases bc c with⟨j,u,rfl,rfl⟩|⟨y,u,rfl,rfl⟩
  rw[IN]at h;exact Om x t j u _ _ _ _ h;rw[DH]at h;exact wpAny_eqBool_str h
 «strs»:=λk x t v h=>by
  rcases bc h with⟨i,u,rfl,e⟩|⟨y,u,rfl,e⟩
  exact nomatch e
  injection e with e1 _;subst e1;cases v<;>rfl
theorem uu(prog:c5)(w:c3)(i:Int)(t:Tok):(dZ prog w).is (.inl i) (.int i t)=a9:=zU i t
theorem ut(prog:c5)(w:c3)(x:b9)(t:Tok):(dZ prog w).is (.inr x) (.str x t)=a9:=zT x t
inductive V where
 |non|bl (b:Bool)|int (i:Int)|str (x:b9)|byt (b:Array UInt8)|flt (b:UInt64)|ref (a:c6)|ty (n:String)
 deriving DecidableEq
def aH:V->b7->Prop
 |.non,u=>u=ABh
 |.bl b,u=>u=Nl b
 |.int i,u=>∃t,u=Value.int i t
 |.str x,u=>∃t,u=Value.str x t
 |.byt b,u=>∃t,u=Value.bytes b t
 |.flt b,u=>∃t,u=Value.float b t
 |.ref a,u=>u=ABF a
 |.ty n,u=>u=MM n
abbrev ar:List V->List b7->Prop:=Paired aH
theorem ar.length(r:ar xs us):xs.length=us.length:=Paired.length r
theorem ar.get:∀{xs:List V}{us:List b7}{i:Nat}{x:V},ar xs us->xs[i]?=a7 x->∃u,us[i]?=a7 u/\aH x u
 |_,_,_,_,.nil,e=>by simp at e
 |_,_,0,_,.cons r _,e=>by simp at e;subst e;exact⟨_,rfl,r⟩
 |_,_,i+1,x,.cons _ t,e=>by obtain⟨u,h1,h2⟩:=ar.get (i:=i) (x:=x) t (by simpa using e);exact⟨u,by simpa using h1,h2⟩
theorem ar.set(r:aH x u):∀{xs:List V}{us:List b7} (i:Nat),ar xs us->ar (xs.set i x) (us.set i u)
 |_,_,_,.nil=>.nil
 |_,_,0,.cons _ t=>.cons r t
 |_,_,i+1,.cons q t=>.cons q<|ar.set r i t
theorem ar.append(h:ar xs us)(s:ar ys ws):ar (xs++ys) (us++ws):=by
 induction h with
 |nil=>exact s
 |cons r t i=>exact .cons r i
theorem ar.take:∀{xs:List V}{us:List b7} (n:Nat),ar xs us->ar (xs.take n) (us.take n)
 |_,_,0,_=>.nil
 |_,_,_+1,.nil=>.nil
 |_,_,n+1,.cons r t=>.cons r<|ar.take n t
theorem ar.drop:∀{xs:List V}{us:List b7} (n:Nat),ar xs us->ar (xs.drop n) (us.drop n)
 |_,_,0,r=>r
 |_,_,_+1,.nil=>.nil
 |_,_,n+1,.cons _ t=>ar.drop n t
def Kk:Option V->Option b7->Prop
 |some v,a7 u=>aH v u
 |none,a8=>True
 |_,_=>False
def KV{κ:Type}:List (κ×V)->List (κ×b7)->Prop:=Paired λ(p:κ×V) (q:κ×b7)=>p.1=q.1/\aH p.2 q.2
noncomputable def kV:G0->V
 |.inl i=>.int i
 |.inr x=>.str x
inductive HO where
 |lst (xs:List V)
 |tup (xs:List V)
 |dK (kvs:List (G0×V))|dT (kvs:List (List G0×V))
 |set (S:Int->Bool) (n:Nat)
 |ins (C dx:c6) (fs:List (b9×V))
 |own (x:c6)
 |xd (fs:List (b9×V))
 |met (f x:c6)
 |rng (lo hi:Int)
 |frz (o:c7) (u:HO)
 |tbl (ps:Array b7)
 |ext (φ:c5->c3->c8->Prop)
abbrev Hp:=c6->Option HO
noncomputable def v8(H:Hp)(a:c6)(o:HO):Hp:=λb=>if b=a then a7 o else H b
theorem aZ:v8 H a o a=a7 o:=by unfold v8;rw[o5 rfl]
theorem au(h:b≠a):v8 H a o b=H b:=by unfold v8;rw[o6 h]
theorem xo{H:Hp}{a b:c6}{o u:HO}(h:H a=a7 o)(h':H b=a7 u)(d:o≠u):a≠b:=by intro e;subst e;rw[h]at h';exact d<|B5 h'
theorem ak{H:Hp}{a b:c6}{o:HO}(h:H a=a7 o)(h':H b=a8):a≠b:=by intro e;subst e;rw[h]at h';cases h'
section
variable(P:c5)(w:c3)
def DQ(h:c8)(a:c6)(s:Array b7):Prop:=∃o,h.get? a=a7 o/\o.cls=.type "tuple"/\(∃n,o.data=.seq s n)/\o.dict=a8
theorem DQ.tup:DQ h a items->IsTup h a items:=λ⟨o,e,c,⟨n,d⟩,_⟩=>⟨o,e,c,n,d⟩
theorem DQ.new(h:c8)(s:Array b7):DQ (h.push { cls:=.type "tuple",data:=.seq s }) h.objs.size s:=⟨_,A9 _ rfl,rfl,⟨_,rfl⟩,rfl⟩
def cj(H:Hp)(h:c8)(a:c6):HO->Prop
 |.lst xs=>xs.length<=sizeLine/\∃(its:List b7) (n:Nat),ar xs its/\h.get? a=a7 { cls:=.type "list",data:=.seq its.toArray n }
 |.tup xs=>xs.length<=sizeLine/\∃its:List b7,ar xs its/\DQ h a its.toArray
 |.dK kvs=>kvs.length<=sizeLine/\(a==c9)=bt/\∃vs,KV kvs vs/\h.DictOf (dZ P w) a vs
 |.dT kvs=>kvs.length<=sizeLine/\(a==c9)=bt/\∃xs:List (List G0×c6×b7),Paired (λ(p:List G0×V) (q:List G0×c6×b7)=>p.1=q.1/\H q.2.1=a7 (.tup<|p.1.map kV)/\aH p.2 q.2.2) kvs xs /\∃o es ep,h.get? a=a7 o/\o.ExactDict/\o.data=.dict es ep/\es.toList=xs.map (d5<|tupleKind<|dZ P w)/\(xs.map (·.1)).Nodup
 |.set S n=>h.SetOf (intKind P w) a S n
 |.ins C dx fs=>H dx=a7 (.own a)/\fs.length<=1000/\dx≠a/\h.get? a=a7 (PySem.W.instObj C dx) /\∃mA,h.Ns1 dx mA/\(∀f,Kk (fs.lookup f)<|mA f)/\PySem.Within mA (fs.map (·.1))
 |.own _=>∃o,h.get? a=a7 o
 |.xd fs=>∃mA,h.Ns1 a mA/\∀f,Kk (fs.lookup f)<|mA f
 |.rng lo hi=>∃t u v,h.get? a=a7 { cls:=.type "range",data:=.fields #[.int lo t,.int hi u,.int 1 v] }
 |.frz o u=>h.get? a=a7 o/\cj H h a u
 |.tbl ps=>h.get? a=a7 { cls:=.none,data:=.fields ps }
 |.met f x=>h.get? a=a7 (PQ (.ref f)<|.ref x)
 |.ext φ=>φ P w h/\(∃o,h.get? a=a7 o)/\∀h1 h2:c8,φ P w h1->(∀o,h1.get? a=a7 o->h2.get? a=a7 o)->φ P w h2
def C7(H:Hp)(h:c8):Prop:=∀a o,H a=a7 o->cj P w H h a o
end
section
variable{P:c5}{w:c3}{H H':Hp}{h h':c8}{a:c6}{o:HO}
theorem cj.lt(x:cj P w H h a o):a<h.objs.size:=by
 cases o with
 |lst xs=>obtain⟨_,_,_,_,e⟩:=x;exact x3 e
 |tup xs=>obtain⟨_,_,_,p⟩:=x;exact p.tup.lt
 |dK s=>obtain⟨_,_,_,_,o,_,_,e,_⟩:=x;exact x3 e
 |dT s=>obtain⟨_,_,_,_,o,_,_,e,_⟩:=x;exact x3 e
 |set S n=>obtain⟨o,_,_,_,e,_⟩:=x;exact x3 e
 |ins C d b=>obtain⟨_,_,_,e,_⟩:=x;exact x3 e
 |own y=>obtain⟨_,e⟩:=x;exact x3 e
 |xd b=>obtain⟨_,⟨_,_,_,e,_⟩,_⟩:=x;exact x3 e
 |rng l hi=>obtain⟨_,_,_,e⟩:=x;exact x3 e
 |frz c u=>obtain⟨e,_⟩:=x;exact x3 e
 |tbl ps=>exact x3<|show h.get? a=a7 _ from x
 |met f y=>exact x3<|show h.get? a=a7 _ from x
 |ext φ=>obtain⟨_,⟨_,e⟩,_⟩:=x;exact x3 e
theorem Paired.mapP{α β:Type}{F G:α->β->Prop}:∀{l₁:List α}{l₂:List β},Paired F l₁ l₂->(∀a b,F a b->G a b)->Paired G l₁ l₂
 |_,_,.nil,_=>.nil
 |_,_,.cons r t,f=>.cons (f _ _ r)<|Paired.mapP t f
theorem cj.stay(x:cj P w H h a o)(k:∀b u,(b=a\/H b=a7 (.own a))->h.get? b=a7 u->h'.get? b=a7 u)(B:∀b,H b=a7 (.own a)->H' b=a7 (.own a)) (D:∀b xs,H b=a7 (.tup xs)->H' b=a7 (.tup xs)):cj P w H' h' a o:=by
 induction o with
 |lst xs=>obtain⟨z,its,n,r,e⟩:=x;exact⟨z,its,n,r,k _ _ (.inl rfl) e⟩
 |tup xs=>obtain⟨z,its,r,g,e,c⟩:=x;exact⟨z,its,r,g,k _ _ (.inl rfl) e,c⟩
 |dK s=>obtain⟨z,y,vs,r,g,es,i,e,c⟩:=x;exact⟨z,y,vs,r,g,es,i,k _ _ (.inl rfl) e,c⟩
 |dT s=>obtain⟨z,y,xs,r,g,es,i,e,c⟩:=x;exact⟨z,y,xs,Paired.mapP r λp q z=>⟨z.1,D _ _ z.2.1,z.2.2⟩,g,es,i,k _ _ (.inl rfl) e,c⟩
 |set S n=>obtain⟨g,es,i,t,e,c⟩:=x;exact⟨g,es,i,t,k _ _ (.inl rfl) e,c⟩
 |ins C G m=>obtain⟨d,z,F,e,A,⟨j,es,i,l,c⟩,r⟩:=x;exact⟨B _ d,z,F,k _ _ (.inl rfl) e,A,⟨j,es,i,k _ _ (.inr d) l,c⟩,r⟩
 |own y=>obtain⟨g,e⟩:=x;exact⟨g,k _ _ (.inl rfl) e⟩
 |xd m=>obtain⟨A,⟨j,es,i,e,c⟩,r⟩:=x;exact⟨A,⟨j,es,i,k _ _ (.inl rfl) e,c⟩,r⟩
 |rng I hi=>obtain⟨t,u,v,e⟩:=x;exact⟨t,u,v,k _ _ (.inl rfl) e⟩
 |frz g u E=>obtain⟨e,q⟩:=x;exact⟨k _ _ (.inl rfl) e,E q⟩
 |tbl ps=>have e:h.get? a=a7 { cls:=.none,data:=.fields ps }:=x;show h'.get? a=a7 { cls:=.none,data:=.fields ps };exact k a _ (.inl rfl) e
 |met f y=>have e:h.get? a=a7 (PQ (.ref f)<|.ref y):=x;show h'.get? a=a7 (PQ (.ref f)<|.ref y);exact k a _ (.inl rfl) e
 |ext φ=>obtain⟨p,⟨o,e⟩,st⟩:=x;exact⟨st _ _ p λo q=>k _ _ (.inl rfl) q,⟨o,k _ _ (.inl rfl) e⟩,st⟩
theorem C7.lt(x:C7 P w H h)(e:H a=a7 o):a<h.objs.size:=(x a o e).lt
theorem C7.fresh(x:C7 P w H h)(e:h.objs.size<=a):H a=a8:=by
 cases q:H a with
 |none=>rfl
 |some u=>exact o7 (G8 (x.lt q) e)<|G4 _
theorem C7.kept(x:C7 P w H h)(k:∀b u,h.get? b=a7 u->h'.get? b=a7 u):C7 P w H h':=λa o e =>
 (x a o e).stay (λb u _ q=>k b u q) (λ_ q=>q) λ_ _ q=>q
theorem C7.laid(x:C7 P w H h)(k:∀b u,h.get? b=a7 u->h'.get? b=a7 u)(p:h.objs.size<=a)(n:cj P w (v8 H a o) h' a o):C7 P w (v8 H a o) h':=λb u e=>by have f:=x.fresh p;by_cases d:b=a;subst d;rw[aZ]at e;cases e;exact n;rw[au d]at e;exact(x b u e).stay (λc v _ q=>k c v q) (λc q=>by rw[au<|ak q f];exact q) λc xs q=>by rw[au<|ak q f];exact q
end
def Rd(H:Hp)(a:c6)(u:HO):Prop:=H a=a7 u\/∃o,H a=a7 (.frz o u)
theorem Rd.ok(r:Rd H a u)(x:C7 P w H h):cj P w H h a u:=by
 rcases r with r|⟨o,r⟩
 exact x a u r;obtain⟨_,q⟩:=x a _ r;exact q
def NZ:Option HO->Prop
 |some (.lst _)=>True
 |some (.dK _)=>True
 |some (.dT _)=>True
 |some (.set _ _)=>True
 |some (.ins _ _ _)=>True
 |some (.ext _)=>True
 |_=>False
section
variable{P:c5}{w:c3}{H:Hp}{h h':c8}{x e:c6}{o':HO}
theorem C7.write(ok:C7 P w H h)(m:NZ (H x))(i:e=x\/H e=a7 (.own x))(k:∀b u,b≠e->h.get? b=a7 u->h'.get? b=a7 u)(o:∃u,h'.get? e=a7 u)(g:cj P w (v8 H x o') h' x o'):C7 P w (v8 H x o') h':=λb u q=>by
 have n:∀c y,H c=a7 (.own y)->c≠x:=λc y r z=>by subst z;rw[r]at m;exact m
 have p:∀c xs,H c=a7 (.tup xs)->c≠x:=λc xs r z=>by subst z;rw[r]at m;exact m
 by_cases d:b=x;subst d;rw[aZ]at q;cases q;exact g;rw[au d]at q;by_cases a:b=e;have j:H b=a7 (.own x):=by rcases i with z|z;exact o7 (a.trans z) d;rw[a];exact z
 rw[q]at j;cases j;obtain⟨v,l⟩:=o;exact⟨v,by rw[a];exact l⟩;refine(ok b u q).stay (λc v f r=>k c v ?_ r) (λc r=>by rw[au<|n c b r];exact r) λc xs r=>by rw[au<|p c xs r];exact r
 rcases f with rfl|f;exact a;rintro rfl;rcases i with z|z;exact n c b f z;rw[f]at z;cases z;exact d rfl
end
structure Un(fs ex:List c6)(H H':Hp)(h h':c8):Prop where
 keep:∀b o,h.get? b=a7 o->H b=a8->b∉fs->b∉ex->h'.get? b=a7 o
 slot:∀b o,h.get? b=a7 o->H b=a8->b∈fs->b∉ex->∃sl,h'.get? b=a7 { o with slots:=sl }
 free:∀b o,h.get? b=a7 o->H b=a8->b∉ex->H' b=a8
 there:∀b o,h.get? b=a7 o->b∉ex->∃o',h'.get? b=a7 o'
 tups:∀b xs,H b=a7 (.tup xs)->H' b=a7 (.tup xs)
 frzs:∀b o u,H b=a7 (.frz o u)->H' b=a7 (.frz o u)
 tbls:∀b ps,H b=a7 (.tbl ps)->∃more,H' b=a7 (.tbl<|ps++more)
section
variable{fs fs' ex ex':List c6}{H H1 H2:Hp}{h h1 h2 h':c8}{a x e:c6}{o:HO}
theorem Un.any(u:Un fs ex H H1 h h1)(q:h.get? b=a7 ob)(n:H b=a8)(x:b∉ex):∃sl,h1.get? b=a7 { ob with slots:=sl }:=by by_cases d:b∈fs;exact u.slot b ob q n d x;exact⟨ob.slots,u.keep b ob q n d x⟩
theorem Un.kept(k:∀b u,h.get? b=a7 u->h'.get? b=a7 u):Un fs ex H H h h':=⟨λb c q _ _ _=>k b c q,λb c q _ _ _=>⟨c.slots,k b c q⟩,λ_ _ _ n _=>n,λb c q _=>⟨c,k b c q⟩,λ_ _ q=>q,λ_ _ _ q=>q,λ_ ps q=>⟨#[],by rw[q];simp⟩⟩
theorem Un.refl:Un fs ex H H h h:=Un.kept λ_ _ q=>q
theorem Un.laid(k:∀b u,h.get? b=a7 u->h'.get? b=a7 u)(p:h.objs.size<=a)(f:H a=a8):Un fs ex H (v8 H a o) h h' where
 keep:=λb u q _ _ _=>k b u q
 slot:=λb u q _ _ _=>⟨u.slots,k b u q⟩
 free:=λb u q n _=>by rw[au<|x9<|G8 (x3 q) p];exact n
 there:=λb u q _=>⟨u,k b u q⟩
 tups:=λb xs q=>by rw[au<|ak q f];exact q
 frzs:=λb u xs q=>by rw[au<|ak q f];exact q
 tbls:=λb ps q=>⟨#[],by rw[au<|ak q f,q];simp⟩
theorem Un.write(m:NZ (H x))(i:e=x\/H e=a7 (.own x))(k:∀b u,b≠e->h.get? b=a7 u->h'.get? b=a7 u)(c:∃u,h'.get? e=a7 u):Un fs ex H (v8 H x o) h h':=by
 have g:∀b,H b=a8->b≠x:=λb n z=>by subst z;rw[n]at m;exact m
 have f:∀b,H b=a8->b≠e:=λb n z=>by subst z;rcases i with r|r;exact g b n r;rw[n]at r;cases r
 have d:∀b u,H b=a7 u->¬NZ (a7 u)->b≠x:=λb u q j z=>by subst z;rw[q]at m;exact j m
 refine⟨λb u q n _ _=>k b u (f b n) q,λb u q n _ _=>⟨u.slots,k b u (f b n) q⟩,λb u q n _=>by rw[au<|g b n];exact n,λb u q _=>?_,λb xs q=>by rw[au<|d b _ q λz=>z];exact q,λb u xs q=>by rw[au<|d b _ q λz=>z];exact q,λb ps q=>⟨#[],by rw[au<|d b _ q λz=>z,q];simp⟩⟩;by_cases a:b=e;subst a;exact c;exact⟨u,k b u a q⟩
end
noncomputable def trk(h:c8)(H:Hp):List c6:=(A7 h.objs.size).filter λa=>(H a).isSome
noncomputable def Cy(h:c8)(H:Hp):c8:=Oc h<|trk h H
theorem Ad(h:c8)(H:Hp):(Cy h H).objs.size=h.objs.size:=PySem.W.hideAll_size _ _
theorem Cw(e:h.get? b=a7 o)(n:H b=a8):(Cy h H).get? b=a7 o:=PySem.W.hideAll_get _ e λd=>by have q:(H b).isSome=a9:=(E6.mp d).2;rw[n]at q;simp at q
theorem EU(e:(Cy h H).get? b=a7 o):h.get? b=a7 o/\H b=a8:=by
 have a:h.get? b=a7 o:=PZ (trk h H) e;refine⟨a,?_⟩;cases q:H b with
 |none=>rfl
 |some x=>have d:b∈trk h H:=E6.mpr ⟨J0.mpr<|x3 a,by simp[q]⟩;have z:(Cy h H).get? b=a8:=PySem.W.hideAll_none (trk h H) d;rw[z]at e;cases e
noncomputable def GC(g h:c8)(L:c6):List (c6×c7):=(A7 h.objs.size).filterMap λa=>if a=L\/(g.get? a).isSome=a9 then a8 else(h.get? a).map λo=>(a,o)
noncomputable def aF(g h:c8)(L d:c6):List (c6×c7):=(GC g h L).filter λp=>decide<|p.1≠d
structure Mod(K:t8)(mg:b9->Option b7)(base:c8):Prop where
 kin:K.In base
 glob:base.Ns d6 mg
 blt:∃mb,base.Ns builtinsNs mb/\∀x:b9,x≠"__name__"->mb x=d7 x
 nolimit:base.NoLimit
/-- the context: a def's body (or a comprehension's block) running. base: fixed through the whole law;s₀,H₀: the entry;outer: the frames whose slots others may change (a def's callers);stack: all frames that run;
  ex: iterators that were made fh of the entry and are walked here (a comprehension's);fn: the names whose cells were made at the entry (a def: all;a comprehension's block: its own);calm: not fj an except suite;pn: pins that every state bears;xe: what is wanted of an exception that leaves the code -/
structure Cx where
 prog:c5
 w:c3
 K:t8
 mg:b9->Option b7
 base:c8
 A:d8
 N:List b9
 s₀:d9
 H₀:Hp
 env:Env
 outer:List Env
 stack:List Env
 ex:List c6
 fn:b9->Bool
 calm:Bool
 pn:List (c6×c7)
 xe:b7->d9->Prop
noncomputable def frs(l:List Env):List c6:=l.filterMap (·.frame)
noncomputable abbrev Cx.fs(X:Cx):List c6:=frs X.outer
def MD(c:e6)(x:b9):Prop:=c.names.lookup x=a7 .local\/c.names.lookup x=a7 .cell\/c.names.lookup x=a7 .free
def Mm(c:e6)(x:b9):Prop:=c.names.lookup x=a7 .local\/c.names.lookup x=a7 .cell
def Look(env:Env)(h:c8)(m:b9->Option b7)(x:b9)(u:b7):Prop:=(env.kindOf x=a7 .local/\m x=a7 u)\/((env.kindOf x=a7 .cell\/env.kindOf x=a7 .free)/\∃c,env.cells.lookup x=a7 c/\h.IsCell c (a7 u))
structure Cx.Ok(X:Cx):Prop where
 mod:Mod X.K X.mg X.base
 kind:X.env.scope.kind=.function
 glob:X.env.globals=d6
 blt:X.env.builtins=builtinsNs
 above:X.s₀.heap.objs.size<=X.env.locals
 inj:∀x y c,X.env.cells.lookup x=a7 c->X.env.cells.lookup y=a7 c->x=y
 has:∀x,(X.env.kindOf x=a7 .cell\/X.env.kindOf x=a7 .free)->∃c,X.env.cells.lookup x=a7 c
 cab:∀x c,X.fn x=a9->X.env.cells.lookup x=a7 c->X.s₀.heap.objs.size<=c
 hd:X.calm=a9->X.A.handled=a8
 frames:X.A.frames=a7 X.stack
 stk:X.stack=X.outer\/(X.stack=X.env::X.outer/\X.env.frame=a7 X.env.locals)
 exf:∀b∈X.ex,b≠X.env.locals/\∀x c,X.env.cells.lookup x=a7 c->c≠b
 bs:∀b o,X.base.get? b=a7 o->X.s₀.heap.get? b=a7 o/\X.H₀ b=a8
 bsz:X.base.objs.size<=X.s₀.heap.objs.size
 noex:∀b o,X.base.get? b=a7 o->b∉X.ex
 exfs:∀b∈X.ex,b∉X.fs
 funs:X.s₀.heap.FunFrames X.base X.outer
 frf:∀b∈X.fs,X.H₀ b=a8
structure t4(X:Cx)(pins:List (c6×c7))(σ:List (Option V))(H:Hp)(s:d9):Prop where
 ok:X.Ok
 os:s.os=X.s₀.os
 bare:e7 s.gens
 base:Un X.fs X.ex X.H₀ H X.s₀.heap s.heap
 loc:∃m,s.heap.Ns X.env.locals m/\∀(i:Nat) (x:b9) (v:V),X.N[i]?=a7 x->σ[i]?=a7 (a7 v)->MD X.env.scope x->∃u,aH v u/\Look X.env s.heap m x u
 cell:∀x c,X.env.cells.lookup x=a7 c->∃v,s.heap.IsCell c v
 free:H X.env.locals=a8
 freeC:∀x c,X.env.cells.lookup x=a7 c->H c=a8
 pin:∀p∈X.pn++pins,s.heap.get? p.1=a7 p.2/\H p.1=a8/\p.1≠X.env.locals/\p.1∉X.fs/\∀v,p.2.data≠.cell v
 hok:C7 X.prog X.w H s.heap
 len:σ.length=X.N.length
section
variable{X:Cx}{pins:List (c6×c7)}{σ:List (Option V)}{H H':Hp}{s:d9}{h':c8}
theorem Cx.Ok.nofr(ok:X.Ok)(e:X.base.get? b=a7 o):b∉X.fs:=λd=>by have:=(ok.funs.mem d).1;rw[e]at this;cases this
theorem t4.bs(I:t4 X pins σ H s):∀b o,X.base.get? b=a7 o->s.heap.get? b=a7 o/\H b=a8:=λb o e =>
 ⟨I.base.keep b o (I.ok.bs b o e).1 (I.ok.bs b o e).2 (I.ok.nofr e)<|I.ok.noex b o e,I.base.free b o (I.ok.bs b o e).1 (I.ok.bs b o e).2<|I.ok.noex b o e⟩
theorem t4.bk(I:t4 X pins σ H s):∀b o,X.base.get? b=a7 o->s.heap.get? b=a7 o:=λb o e=>(I.bs b o e).1
theorem t4.mod(I:t4 X pins σ H s):Mod X.K X.mg X.base:=I.ok.mod
theorem t4.kIn(I:t4 X pins σ H s):X.K.In s.heap:=I.ok.mod.kin.keeps I.bk
theorem t4.lt(I:t4 X pins σ H s):X.env.locals<s.heap.objs.size:=let ⟨_,hn,_⟩:=I.loc;hn.lt
theorem t4.sz(I:t4 X pins σ H s):X.s₀.heap.objs.size<=s.heap.objs.size:=J4 I.ok.above<|LZ I.lt
theorem t4.nofs(I:t4 X pins σ H s)(h:s.heap.objs.size<=a):a∉X.fs:=λd=>by obtain⟨_,o,B,_⟩:=I.ok.funs.mem d;exact o7 (G8 (x3 B)<|J4 I.sz h)<|G4 _
theorem t4.cne(I:t4 X pins σ H s):∀x c,X.env.cells.lookup x=a7 c->c≠X.env.locals:=λx c e z=>by obtain⟨v,o,B,d⟩:=I.cell x c e;obtain⟨m,⟨o',es,i,a,h,_⟩,_⟩:=I.loc;rw[z,a]at B;cases B;rw[h]at d;cases d
theorem t4.funs(I:t4 X pins σ H s):s.heap.FunFrames X.base X.outer:=by
 have a:∀(l:List Env),(∀b∈frs l,b∈X.fs)->X.s₀.heap.FunFrames X.base l->s.heap.FunFrames X.base l:=by
  intro l;induction l with
  |nil=>intro _ _;trivial
  |cons env r j=>intro hs g;obtain⟨k,⟨L,o,f,n,B,c⟩,i⟩:=g;have h:L∈X.fs:=hs L (by unfold frs;rw[Me,f];exact C9);obtain⟨m,e⟩:=I.base.slot L o B (I.ok.frf L h) h λz=>I.ok.exfs L z h;exact⟨k,⟨L,_,f,n,e,c⟩,j (λb d=>hs b<|by unfold frs;rw[Me,f];exact A8 _ d) i⟩
 exact a X.outer (λ_ d=>d) I.ok.funs
theorem t4.stack(I:t4 X pins σ H s):s.heap.FunFrames X.base X.stack:=by
 rcases I.ok.stk with e|⟨e,f⟩
 rw[e];exact I.funs;rw[e];obtain⟨m,n,_⟩:=I.loc;refine .cons (by rw[I.ok.kind];decide) f n ?_ I.funs;exact Heap.get?_none_of_le<|J4 I.ok.bsz I.ok.above
theorem t4.stkSub(I:t4 X pins σ H s):∀b∈frs X.stack,b∈X.env.locals::X.fs:=λb d=>by
 rcases I.ok.stk with e|⟨e,f⟩
 rw[e]at d;exact A8 _ d;rw[e]at d;unfold frs at d;rw[Me,f]at d;exact d
theorem t4.stkFree(I:t4 X pins σ H s):∀b∈frs X.stack,H b=a8:=λb d=>by rcases A0.mp (I.stkSub b d)with e|d;rw[e];exact I.free;obtain⟨_,o,B,_⟩:=I.ok.funs.mem d;exact I.base.free b o B (I.ok.frf b d) λz=>I.ok.exfs b z d
theorem t4.step{g':Array GenState}{t':Nat}{d':Drawn}{ch:List c6}(I:t4 X pins σ H s)(a:∀b∈ch,(b∈X.ex\/X.s₀.heap.objs.size<=b)/\b≠X.env.locals/\(∀x c,X.env.cells.lookup x=a7 c->c≠b)/\∀p∈X.pn++pins,p.1≠b)(g:∀b o,b≠X.env.locals->b∉X.fs->b∉ch->s.heap.get? b=a7 o->H b=a8->h'.get? b=a7 o)(slot:∀b o,b≠X.env.locals->b∈X.fs->b∉ch->s.heap.get? b=a7 o->H b=a8->∃sl,h'.get? b=a7 { o with slots:=sl }) (f:∀b o,b∉ch->s.heap.get? b=a7 o->H b=a8->H' b=a8)(A:∀b o,b∉ch->s.heap.get? b=a7 o->∃o',h'.get? b=a7 o')(G:∀b xs,H b=a7 (.tup xs)->H' b=a7 (.tup xs)) (E:∀b o u,H b=a7 (.frz o u)->H' b=a7 (.frz o u)) (F:∀b ps,H b=a7 (.tbl ps)->∃more,H' b=a7 (.tbl<|ps++more))(ns:∀m,s.heap.Ns X.env.locals m->h'.Ns X.env.locals m) (K:C7 X.prog X.w H' h') (S:e7 g') :
  t4 X pins σ H' { s with heap:=h',gens:=g',drawn:=d',toks:=t' }:=by
 have L:∀b o,X.s₀.heap.get? b=a7 o->b≠X.env.locals:=λb o e=>x9<|G8 (x3 e) I.ok.above;have C:∀b o,X.s₀.heap.get? b=a7 o->b∉X.ex->b∉ch:=λb o e h y=>by rcases(a b y).1 with z|z;exact h z;exact o7 (G8 (x3 e) z)<|G4 _
 have cellK:∀x c,X.env.cells.lookup x=a7 c->∀v,s.heap.IsCell c v->h'.IsCell c v:=λx c e v ⟨o,B,J⟩=>by have j:c∉ch:=λz=>(a c z).2.2.1 x c e rfl;by_cases N:c∈X.fs;obtain⟨sl,q⟩:=slot c o (I.cne x c e) N j B<|I.freeC x c e;exact⟨_,q,J⟩;exact⟨o,g c o (I.cne x c e) N j B<|I.freeC x c e,J⟩
 refine⟨I.ok,I.os,S,⟨λb o e n y h=>?_,λb o e n y h=>?_,λb o e n h=>?_,λb o e h=>?_,λb xs e=>G b xs<|I.base.tups b xs e,λb o xs e=>E b o xs<|I.base.frzs b o xs e,λb ps e=>?_⟩,?_,λx c e=>?_,?_,λx c e=>?_,λp O=>?_,K,I.len⟩;exact g b o (L b o e) y (C b o e h) (I.base.keep b o e n y h)<|I.base.free b o e n h;obtain⟨sl,t⟩:=I.base.slot b o e n y h;obtain⟨M,D⟩:=slot b _ (L b o e) y (C b o e h) t<|I.base.free b o e n h;exact⟨M,D⟩;obtain⟨o',t⟩:=I.base.there b o e h;exact f b o' (C b o e h) t<|I.base.free b o e n h;obtain⟨o',t⟩:=I.base.there b o e h;exact A b o' (C b o e h) t;obtain⟨V,t⟩:=I.base.tbls b ps e;obtain⟨W,D⟩:=F b _ t;exact⟨V++W,by rw[D,Array.append_assoc]⟩;obtain⟨m,U,T⟩:=I.loc;refine⟨m,ns m U,λi x v t D R=>?_⟩;obtain⟨u,r,l⟩:=T i x v t D R;refine⟨u,r,?_⟩;rcases l with l|⟨k,c,e,z⟩
 exact .inl l;exact .inr ⟨k,c,e,cellK x c e _ z⟩;obtain⟨v,z⟩:=I.cell x c e;exact⟨v,cellK x c e v z⟩;obtain⟨m,⟨o,_,_,B,_⟩,_⟩:=I.loc;exact f _ o (λz=>(a _ z).2.1 rfl) B I.free;obtain⟨v,o,B,J⟩:=I.cell x c e;exact f c o (λz=>(a c z).2.2.1 x c e rfl) B<|I.freeC x c e;obtain⟨e,n,P,Q,d⟩:=I.pin p O;have j:p.1∉ch:=λz=>(a p.1 z).2.2.2 p O rfl;exact⟨g p.1 p.2 P Q j e n,f p.1 p.2 j e n,P,Q,d⟩
theorem t4.un{t':Nat}(I:t4 X pins σ H s)(u:Un X.fs [] H H' s.heap h')(K:C7 X.prog X.w H' h'):t4 X pins σ H' { s with heap:=h',toks:=t' }:=by obtain⟨m,⟨o,es,i,B,r⟩,_⟩:=id I.loc;obtain⟨l,L⟩:=u.any B I.free (by simp);exact I.step (g':=s.gens) (d':=s.drawn) (ch:=[]) (λ_ z=>nomatch z) (λb o _ h _ e n=>u.keep b o e n h<|by simp) (λb o _ h _ e n=>u.slot b o e n h<|by simp) (λb o _ e n=>u.free b o e n<|by simp) (λb o _ e=>u.there b o e<|by simp) u.tups u.frzs u.tbls (λg f=>by obtain⟨o',d,c,a,r'⟩:=f;rw[B]at a;cases a;exact⟨_,d,c,L,r'⟩) K I.bare
theorem t4.call{g':Array GenState}{t':Nat}{d':Drawn}{ch:List c6}(I:t4 X pins σ H s)(u:Un (frs X.stack) ch H H' s.heap h')(K:C7 X.prog X.w H' h')(S:e7 g')(a:∀b∈ch,(b∈X.ex\/X.s₀.heap.objs.size<=b)/\b≠X.env.locals/\(∀x c,X.env.cells.lookup x=a7 c->c≠b)/\∀p∈X.pn++pins,p.1≠b):t4 X pins σ H' { s with heap:=h',gens:=g',drawn:=d',toks:=t' }:=by obtain⟨m,⟨o,es,k,B,r⟩,_⟩:=id I.loc;obtain⟨q,L⟩:=u.any B I.free λz=>(a _ z).2.1 rfl;exact I.step (ch:=ch) a (λb o L i f e n=>u.keep b o e n (λz=>(A0.mp<|I.stkSub b z).elim L i) f) (λb o _ _ f e n=>u.any e n f) (λb o f e n=>u.free b o e n f) (λb o f e=>u.there b o e f) u.tups u.frzs u.tbls (λl j=>by obtain⟨o',g,d,h,r'⟩:=j;rw[B]at h;cases h;exact⟨_,g,d,L,r'⟩) K S
theorem t4.turned{t':Nat}{it:c6}(I:t4 X pins σ H s)(k:∀b o,b≠it->s.heap.get? b=a7 o->h'.get? b=a7 o)(j:H it=a8)(h:it≠X.env.locals)(h1:it∈X.ex\/X.s₀.heap.objs.size<=it) (h2:∀x c,X.env.cells.lookup x=a7 c->c≠it) (a:∀p∈X.pn++pins,p.1≠it):t4 X pins σ H { s with heap:=h',toks:=t' }:=by
 have t:∀b u,H b=a7 u->b≠it:=λb u e z=>by rw[z,j]at e;cases e
 refine I.step (g':=s.gens) (d':=s.drawn) (ch:=[it]) (λb d=>?_) (λb o _ _ f e _=>k b o (λz=>f<|by simp[z]) e) (λb o _ _ f e _=>⟨o.slots,k b o (λz=>f<|by simp[z]) e⟩) (λ_ _ _ _ n=>n) (λb o f e=>⟨o,k b o (λz=>f<|by simp[z]) e⟩) (λ_ _ e=>e) (λ_ _ _ e=>e) (λb ps e=>⟨#[],by rw[e];simp⟩) (λm g=>?_) (λb u e=>?_) I.bare;have e:b=it:=by simpa using d
 subst e;exact⟨h1,h,h2,a⟩;obtain⟨o,es,i,B,r⟩:=g;exact⟨o,es,i,k _ o (D2 h) B,r⟩;refine(I.hok b u e).stay (λc v f q=>k c v ?_ q) (λ_ q=>q) λ_ _ q=>q;rcases f with z|z;rw[z];exact t b u e;exact t c _ z
theorem t4.tok(I:t4 X pins σ H s)(t:Nat):t4 X pins σ H { s with toks:=t }:=I.un (h':=s.heap) (t':=t) Un.refl I.hok
theorem t4.kept(I:t4 X pins σ H s)(k:∀b u,s.heap.get? b=a7 u->h'.get? b=a7 u):t4 X pins σ H { s with heap:=h',toks:=t' }:=I.un (Un.kept k)<|I.hok.kept k
theorem t4.laid(I:t4 X pins σ H s)(k:∀b u,s.heap.get? b=a7 u->h'.get? b=a7 u)(p:s.heap.objs.size<=a)(n:cj X.prog X.w (v8 H a o) h' a o):t4 X pins σ (v8 H a o) { s with heap:=h',toks:=t' }:=I.un (Un.laid k p<|I.hok.fresh p)<|I.hok.laid k p n
theorem t4.write(I:t4 X pins σ H s)(m:NZ (H x))(i:e=x\/H e=a7 (.own x))(k:∀b u,b≠e->s.heap.get? b=a7 u->h'.get? b=a7 u)(h:∃u,h'.get? e=a7 u)(n:cj X.prog X.w (v8 H x o) h' x o):t4 X pins σ (v8 H x o) { s with heap:=h',toks:=t' }:=I.un (Un.write m i k h)<|I.hok.write m i k h n
theorem t4.pins_of(I:t4 X pins σ H s)(h:∀p∈pins',s.heap.get? p.1=a7 p.2/\H p.1=a8/\p.1≠X.env.locals/\p.1∉X.fs/\∀v,p.2.data≠.cell v):t4 X pins' σ H s:=⟨I.ok,I.os,I.bare,I.base,I.loc,I.cell,I.free,I.freeC,λp a=>(F3.mp a).elim (λz=>I.pin p<|Ld _ z)<|h p,I.hok,I.len⟩
theorem pI{N:List b9}(h:N.Nodup){i j:Nat}{x:b9}(a:N[i]?=a7 x)(b:N[j]?=a7 x):i=j:=by obtain⟨h1,t⟩:=z6.mp a;obtain⟨h2,l⟩:=z6.mp b;exact(List.getElem_inj h).mp<|t.trans l.symm
theorem yN{M:Model}{A:d8}{E:b7->d9->Prop}{i:Nat}{x:b9}{v:V}{u:b7}{Q:Unit->d9->Prop}(I:t4 X pins σ H s)(hN:X.N.Nodup)(hi:X.N[i]?=a7 x)(l:Mm X.env.scope x)(r:aH v u)(h:∀s',t4 X pins (σ.set i<|a7 v) H s'->(∃a,Li a s.heap s'.heap/\(a=X.env.locals\/X.env.cells.lookup x=a7 a))->Q () s') (hf:X.fn x=a9\/X.env.scope.names.lookup x=a7 .local:=by first|exact .inl rfl|exact .inr rfl|assumption):e8 M A (storeName X.env x u) Q E s:=by
 obtain⟨m,hn,hl⟩:=id I.loc;have R:(X.env.scope.kind==.class||(X.env.scope.kind==.module&&X.env.locals != X.env.globals))=bt:=by rw[I.ok.kind];rfl
 have D:i<σ.length:=by rw[I.len];exact(z6.mp hi).1
 have G:=I.cne;have f:∀{a:c6}{h':c8},(∃o,s.heap.get? a=a7 o/\H a=a8)->Li a s.heap h'->C7 X.prog X.w H h':=λ{a h'} ha hs b ob e=>by obtain⟨_,_,B⟩:=ha;refine(I.hok b ob e).stay (λc Y g q=>(hs.2 c ?_).trans q) (λ_ q=>q) λ_ _ q=>q;rintro rfl;rcases g with rfl|g;rw[B]at e;cases e;rw[B]at g;cases g
 rcases l with F|F;refine wpAny_storeName_local F hn (λh' ab hs=>?_) R;obtain⟨oL,_,_,ai,_⟩:=id hn;refine h _ ⟨I.ok,I.os,I.bare,⟨λb o e n J l=>?_,λb o e n J l=>?_,I.base.free,λb o e l=>?_,I.base.tups,I.base.frzs,I.base.tbls⟩,⟨_,ab,λj y v' t C Z=>?_⟩,λy c e=>?_,I.free,I.freeC,λp hp=>?_,f ⟨oL,ai,I.free⟩ hs,by simpa using I.len⟩ ⟨_,hs,.inl rfl⟩;exact(hs.2 b<|x9<|G8 (x3 e) I.ok.above).trans<|I.base.keep b o e n J l;obtain⟨sl,t⟩:=I.base.slot b o e n J l;exact⟨sl,(hs.2 b<|x9<|G8 (x3 e) I.ok.above).trans t⟩;obtain⟨o',t⟩:=I.base.there b o e l;exact⟨o',(hs.2 b<|x9<|G8 (x3 e) I.ok.above).trans t⟩;by_cases L:j=i;subst L;rw[hi]at t;cases t;rw[Lp D]at C;cases C;exact⟨u,r,.inl ⟨F,by simp⟩⟩;rw[KY<|D2 L]at C;obtain⟨u',r',q⟩:=hl j y v' t C Z;refine⟨u',r',?_⟩;rcases q with⟨k,e⟩|⟨k,c,e,z⟩
 refine .inl ⟨k,?_⟩;have:y≠x:=λe=>L<|pI hN t<|e ▸ hi;simp[this,e];exact .inr ⟨k,c,e,z.sameBut hs<|G y c e⟩;obtain⟨Y,z⟩:=I.cell y c e;exact⟨Y,z.sameBut hs<|G y c e⟩;obtain⟨e,n,W,nf,d⟩:=I.pin p hp;exact⟨(hs.2 p.1 W).trans e,n,W,nf,d⟩;have K:X.fn x=a9:=by rcases hf with z|z;exact z;rw[z]at F;cases F
 obtain⟨c,g⟩:=I.ok.has x<|.inl F;obtain⟨Y,z⟩:=I.cell x c g;refine wpAny_storeName_cell I.ok.kind F g z<|λh' O hs=>?_;obtain⟨oc,S,T⟩:=id z;refine h { s with heap:=h' } ⟨I.ok,I.os,I.bare,⟨λb o e n J l=>?_,λb o e n J l=>?_,I.base.free,λb o e l=>?_,I.base.tups,I.base.frzs,I.base.tbls⟩,⟨m,hn.sameBut hs<|D2<|G x c g,λj y v' t C Z=>?_⟩,λy U e=>?_,I.free,I.freeC,λp hp=>?_,f ⟨oc,S,I.freeC x c g⟩ hs,by simpa using I.len⟩ ⟨c,hs,.inr g⟩;exact(hs.2 b<|x9<|G8 (x3 e)<|I.ok.cab x c K g).trans<|I.base.keep b o e n J l;obtain⟨sl,t⟩:=I.base.slot b o e n J l;exact⟨sl,(hs.2 b<|x9<|G8 (x3 e)<|I.ok.cab x c K g).trans t⟩;obtain⟨o',t⟩:=I.base.there b o e l;exact⟨o',(hs.2 b<|x9<|G8 (x3 e)<|I.ok.cab x c K g).trans t⟩;by_cases L:j=i;subst L;rw[hi]at t;cases t;rw[Lp D]at C;cases C;exact⟨u,r,.inr ⟨.inl F,c,g,O⟩⟩;rw[KY<|D2 L]at C;obtain⟨u',r',q⟩:=hl j y v' t C Z;refine⟨u',r',?_⟩;rcases q with q|⟨k,U,e,z'⟩
 exact .inl q;refine .inr ⟨k,U,e,z'.sameBut hs ?_⟩;rintro rfl;exact L<|pI hN t<|I.ok.inj _ _ _ e g ▸ hi;by_cases P:U=c;subst P;exact⟨_,O⟩;obtain⟨w2,z2⟩:=I.cell y U e;exact⟨w2,z2.sameBut hs P⟩;obtain⟨e,n,W,nf,d⟩:=I.pin p hp;refine⟨(hs.2 p.1 ?_).trans e,n,W,nf,d⟩;intro q;rw[q,S]at e;have q':oc=p.2:=B5 e;exact d Y<|by rw[<-q'];exact T
theorem jg(I:t4 X pins σ H s)(b:X.N.Nodup)(hi:X.N[i]?=a7 x)(c:Mm X.env.scope x)(r:aH v u)(h:∀s',t4 X pins (σ.set i<|a7 v) H s'->Q () s') (f:X.fn x=a9\/X.env.scope.names.lookup x=a7 .local:=by first|exact .inl rfl|exact .inr rfl|assumption):e8 M A (storeName X.env x u) Q E s:=yN I b hi c r (λs' a _=>h s' a) f
theorem t4.call'(I:t4 X pins σ H s)(B:s'.os=s.os)(u:Un (frs X.stack) ch H H' s.heap s'.heap)(K:C7 X.prog X.w H' s'.heap)(S:e7 s'.gens)(a:∀b∈ch,(b∈X.ex\/X.s₀.heap.objs.size<=b)/\b≠X.env.locals/\(∀x c,X.env.cells.lookup x=a7 c->c≠b)/\∀p∈X.pn++pins,p.1≠b):t4 X pins σ H' s':=by obtain⟨h',g',d',t',o'⟩:=s';have e:o'=s.os:=B;subst e;exact I.call (g':=g') (t':=t') (d':=d') u K S a
end
abbrev XK:=b7->Option c6->Hp->Prop
noncomputable abbrev St:=List<|Option V
abbrev VK:=V->Hp->Prop
abbrev TE:=St->Hp->VK->Prop
abbrev TT:=St->Hp->(Bool->Hp->Prop)->Prop
abbrev TA:=St->Hp->(List V->Hp->Prop)->Prop
structure Ends where
 nx:St->Hp->Prop
 rt:VK
 bk:St->Hp->Prop:=λ_ _=>False
 ct:St->Hp->Prop:=λ_ _=>False
abbrev TS:=Ends->St->Hp->Prop
inductive EP(X:Cx)(pins:List (c6×c7))(σ:St)(Q:VK)(u:b7)(s':d9):Prop
 |mk (v:_) (H':_) (f0:t4 X pins σ H' s') (f1:aH v u) (f2:Q v H')
inductive TP(X:Cx)(pins:List (c6×c7))(σ:St)(Q:Bool->Hp->Prop)(b:Bool)(s':d9):Prop
 |mk (H':_) (f0:t4 X pins σ H' s') (f1:Q b H')
inductive AP(X:Cx)(pins:List (c6×c7))(σ:St)(Q:List V->Hp->Prop)(us:List b7)(s':d9):Prop
 |mk (vs:_) (H':_) (f0:t4 X pins σ H' s') (f1:ar vs us) (f2:Q vs H')
def SP(X:Cx)(pins:List (c6×c7))(D:Ends)(f:Flow)(s':d9):Prop:=match f with
 |.next=>∃a H',t4 X pins a H' s'/\D.nx a H'
 |.brk=>∃a H',t4 X pins a H' s'/\D.bk a H'
 |.cont=>∃a H',t4 X pins a H' s'/\D.ct a H'
 |.ret u=>∃v a H',t4 X pins a H' s'/\aH v u/\D.rt v H'
def PE(X:Cx)(e:f6)(t:TE):Prop:=∀(p:List (c6×c7)) (s:d9) (σ:St) (H:Hp) (Q:VK),t4 X p σ H s->t σ H Q->e8 (f7 X.prog X.w) X.A (eval e X.env) (EP X p σ Q) X.xe s
def PT(X:Cx)(e:f6)(t:TT):Prop:=∀(p:List (c6×c7)) (s:d9) (σ:St) (H:Hp) (Q:Bool->Hp->Prop),t4 X p σ H s->t σ H Q->e8 (f7 X.prog X.w) X.A (isTrue e X.env<|eval e X.env) (TP X p σ Q) X.xe s
def PW(X:Cx)(e:f6)(t:TT):Prop:=∀(a:Sem b7) (p:List (c6×c7)) (s:d9) (σ:St) (H:Hp) (Q:Bool->Hp->Prop),t4 X p σ H s->t σ H Q->e8 (f7 X.prog X.w) X.A (isTrue e X.env a) (TP X p σ Q) X.xe s
theorem PW.pt(h:PW X e t):PT X e t:=h _
def PA(X:Cx)(es:List f6)(t:TA):Prop:=∀(a:f8) (p:List (c6×c7)) (s:d9) (σ:St) (H:Hp) (Q:List V->Hp->Prop),t4 X p σ H s->t σ H Q->e8 (f7 X.prog X.w) X.A (spliced<|f9 a<|ge es X.env) (AP X p σ Q) X.xe s
def PS(X:Cx)(st:g7)(t:TS):Prop:=∀(p:List (c6×c7)) (s:d9) (σ:St) (H:Hp) (D:Ends),t4 X p σ H s->t D σ H->e8 (f7 X.prog X.w) X.A (exec st X.env) (SP X p D) X.xe s
def G9(X:Cx)(st:List g7)(t:TS):Prop:=∀(p:List (c6×c7)) (s:d9) (σ:St) (H:Hp) (D:Ends),t4 X p σ H s->t D σ H->e8 (f7 X.prog X.w) X.A (execs st X.env) (SP X p D) X.xe s
theorem v6{α:Type}{t:Sem α}{Q Q':α->d9->Prop}{M:Model}{A:d8}{E:b7->d9->Prop}{s:d9}(h:e8 M A t Q E s)(b:∀a s,Q a s->Q' a s):e8 M A t Q' E s:=E1 h b λ_ _ x=>x
section
variable{X:Cx}
def tVar(i:Nat):TE:=λσ H Q=>∃v,σ[i]?=a7 (a7 v)/\Q v H
def tC(v:V):TE:=λ_ H Q=>Q v H
theorem Dm(g:X.N[i]?=a7 x)(t:MD X.env.scope x)(b:(x==("__debug__":b9))=bt:=by decide)(d:(x==("__classdict__":b9))=bt:=by decide):PE X (.Name x pos) (tVar i):=by
 intro p s σ H Q I h;obtain⟨v,e,h⟩:=h;obtain⟨m,q,j⟩:=I.loc;obtain⟨u,r,l⟩:=j i x v g e t;have n:EP X p σ Q u s:=⟨v,H,I,r,h⟩
 rcases l with⟨k,o⟩|⟨k,c,f,a⟩
 exact wpAny_Name (wpAny_loadName_local I.ok.kind k q o n) b;rcases k with k|k;exact wpAny_Name (wpAny_loadName_cell I.ok.kind k f a n) b;exact wpAny_Name (wpAny_loadName_free I.ok.kind k f a n d) b
theorem HN{i j pos}:PE X (.Constant (.int i) j pos) (tC<|.int i):=λ_ _ _ H _ I h=>wpAny_Constant_int ⟨.int i,H,I.tok _,⟨_,rfl⟩,h⟩
theorem pe_bl{b j pos}:PE X (.Constant (.bool b) j pos) (tC<|.bl b):=λ_ _ _ H _ I h=>Constant_bool ⟨.bl b,H,I,rfl,h⟩
theorem HL{j pos}:PE X (.Constant .none j pos) (tC .non):=λ_ _ _ H _ I h=>Constant_none ⟨.non,H,I,rfl,h⟩
theorem HH{x j pos}:PE X (.Constant (.str x) j pos) (tC<|.str x):=λ_ _ _ H _ I h=>Calls.Constant_str ⟨.str x,H,I.tok _,⟨_,rfl⟩,h⟩
def Gl(X:Cx)(x:b9):Prop:=X.env.kindOf x=a7 .globalImplicit
theorem jT(I:t4 X pins σ H s)(S:Gl X x)(m:X.mg x=a7 u)(h:Q u s)(d:(x==("__debug__":b9))=bt:=by decide):e8 (f7 X.prog X.w) X.A (eval (.Name x pos) X.env) Q E s:=Calls.Name_function_global I.ok.kind S (Calls.loadGlobal_global (by rw[I.ok.glob];exact I.mod.glob.keeps I.bk) m h) d
theorem mS(I:t4 X pins σ H s)(S:Gl X x)(m:X.mg x=a8)(c:d7 x=a7 u)(h:Q u s)(f:x≠"__name__":=by decide) (d:(x==("__debug__":b9))=bt:=by decide):e8 (f7 X.prog X.w) X.A (eval (.Name x pos) X.env) Q E s:=by obtain⟨mb,h1,h2⟩:=I.mod.blt;exact Calls.Name_function_global I.ok.kind S (Calls.loadGlobal_builtin (by rw[I.ok.glob];exact I.mod.glob.keeps I.bk) m (by rw[I.ok.blt];exact h1.keeps I.bk) ((h2 x f).trans c) h) d
theorem EH(S:Gl X x)(m:X.mg x=a7 u)(r:aH v u)(d:(x==("__debug__":b9))=bt:=by decide):PE X (.Name x pos) (tC v):=λ_ _ _ H _ I h=>jT I S m ⟨v,H,I,r,h⟩ d
theorem zc(S:Gl X x)(m:X.mg x=a8)(c:d7 x=a7 u)(r:aH v u)(f:x≠"__name__":=by decide)(d:(x==("__debug__":b9))=bt:=by decide):PE X (.Name x pos) (tC v):=λ_ _ _ H _ I h=>mS I S m c ⟨v,H,I,r,h⟩ f d
variable{a b:f6}{ta tb:TE}{pos:f8}
theorem aH.none_iff(r:aH x v):(v==ABh)=decide (x=.non):=by
 cases x with
 |non=>cases r;rfl
 |bl _=>cases r;rfl
 |int _=>obtain⟨t,rfl⟩:=r;rfl
 |str _=>obtain⟨t,rfl⟩:=r;rfl
 |byt _=>obtain⟨t,rfl⟩:=r;rfl
 |flt _=>obtain⟨t,rfl⟩:=r;rfl
 |ref _=>cases r;rfl
 |ty _=>cases r;rfl
def tB(t:TE):TT:=λσ H Q=>t σ H λx H1=>∃c,x=.bl c/\Q c H1
theorem Hr(h:PE X e t)(i:∀whole,isTrue e X.env whole=(do let v <-whole;standAt e.pos;g8 [v] (truthy v)):=by intro _;rfl):PT X e (tB t):=by intro p s σ H Q I w;refine isTrue_plain (v6 (h p s σ H _ I w) ?_)<|i _;rintro v c ⟨x,H1,a,r,b⟩;obtain⟨d,rfl,q⟩:=b;cases r;exact Mx ⟨H1,a,q⟩
variable{tA tB':TT}{aF:List f6}
def tAnd(t u:TT):TT:=λσ H Q=>t σ H λc H1=>if c=a9 then u σ H1 Q else Q bt H1
def tOr(t u:TT):TT:=λσ H Q=>t σ H λc H1=>if c=a9 then Q a9 H1 else u σ H1 Q
def tNot(t:TT):TT:=λσ H Q=>t σ H λc H1=>Q (!c) H1
theorem Er(f:PT X a tA):PW X (.BoolOp .And [a] pos) tA:=by
 intro w p s σ H Q I h;refine isTrue_and<|v6 (f p s σ H Q I h) λc b e=>?_;cases c with
 |true=>exact isTrue_and_nil e
 |false=>exact e
theorem Hn(f:PT X a tA):PW X (.BoolOp .Or [a] pos) tA:=by
 intro w p s σ H Q I h;refine isTrue_or<|v6 (f p s σ H Q I h) λc b e=>?_;cases c with
 |false=>exact isTrue_or_nil e
 |true=>exact e
theorem Hq(f:PT X a tA)(e:PW X (.BoolOp .And (b::aF) pos) tB'):PW X (.BoolOp .And (a::b::aF) pos) (tAnd tA tB'):=by
 intro w p s σ H Q I h;refine isTrue_and<|v6 (f p s σ H _ I h) ?_;rintro c g ⟨H1,d,q⟩;cases c with
 |true=>exact e w p g σ H1 Q d q
 |false=>exact⟨H1,d,q⟩
theorem pw_or(f:PT X a tA)(e:PW X (.BoolOp .Or (b::aF) pos) tB'):PW X (.BoolOp .Or (a::b::aF) pos) (tOr tA tB'):=by
 intro w p s σ H Q I h;refine isTrue_or<|v6 (f p s σ H _ I h) ?_;rintro c g ⟨H1,d,q⟩;cases c with
 |true=>exact⟨H1,d,q⟩
 |false=>exact e w p g σ H1 Q d q
theorem Hs(f:PT X a tA):PT X (.UnaryOp .Not a pos) (tNot tA):=by intro p s σ H Q I h;refine isTrue_not<|v6 (f p s σ H (λc H1=>Q (!c) H1) I h) ?_;rintro c d ⟨H1,b,q⟩;exact⟨H1,b,q⟩
def tAndV(a b:TE):TE:=λσ H Q=>a σ H λx H1=>∃c,x=.bl c/\if c=a9 then b σ H1 Q else Q (.bl bt) H1
def tOrV(a b:TE):TE:=λσ H Q=>a σ H λx H1=>∃c,x=.bl c/\if c=a9 then Q (.bl a9) H1 else b σ H1 Q
def tNotV(a:TE):TE:=λσ H Q=>a σ H λx H1=>∃c,x=.bl c/\Q (.bl<|!c) H1
theorem HJ{op}(h:PE X a t):PE X (.BoolOp op [a] pos) t:=λp s σ H Q I w=>BoolOp_one<|h p s σ H Q I w
theorem HR(f:PE X a ta)(e:PE X (.BoolOp .And (b::aF) pos) tb):PE X (.BoolOp .And (a::b::aF) pos) (tAndV ta tb):=by
 intro p s σ H Q I h;refine BoolOp_and<|v6 (f p s σ H _ I h) ?_;rintro v g ⟨x,H1,d,r,q⟩;obtain⟨c,rfl,q⟩:=q;cases r;refine Mx ?_;cases c with
 |true=>exact e p g σ H1 Q d q
 |false=>exact⟨.bl bt,H1,d,rfl,q⟩
theorem pe_or(f:PE X a ta)(e:PE X (.BoolOp .Or (b::aF) pos) tb):PE X (.BoolOp .Or (a::b::aF) pos) (tOrV ta tb):=by
 intro p s σ H Q I h;refine BoolOp_or<|v6 (f p s σ H _ I h) ?_;rintro v g ⟨x,H1,d,r,q⟩;obtain⟨c,rfl,q⟩:=q;cases r;refine Mx ?_;cases c with
 |false=>exact e p g σ H1 Q d q
 |true=>exact⟨.bl a9,H1,d,rfl,q⟩
theorem HK(f:PE X a ta):PE X (.UnaryOp .Not a pos) (tNotV ta):=by intro p s σ H Q I h;refine UnaryOp_<|v6 (f p s σ H _ I h) ?_;rintro v e ⟨x,H1,d,r,b⟩;obtain⟨c,rfl,b⟩:=b;cases r;exact not_of<|Mx ⟨.bl<|!c,H1,d,rfl,b⟩
def tIf(t:TT)(a b:TE):TE:=λσ H Q=>t σ H λc H1=>if c=a9 then a σ H1 Q else b σ H1 Q
theorem Bz(j:PT X c tA)(g:PE X a ta)(i:PE X b tb):PE X (.IfExp c a b pos) (tIf tA ta tb):=by
 intro p s σ H Q I h;refine wpAny_IfExp<|v6 (j p s σ H _ I h) ?_;rintro d f ⟨H1,e,q⟩;cases d with
 |true=>exact g p f σ H1 Q e q
 |false=>exact i p f σ H1 Q e q
end
def G7(K:t8)(H:Hp)(a:c6)(xs:List V):Prop:=Rd H a (.lst xs) \/∃(o:c7) (its:Array b7) (n:Nat),K.lookup a=a7 o/\o.cls=.type "list"/\o.dict=a8/\o.data=.seq its n/\its.size<=sizeLine/\ar xs its.toList
def A6(K:t8)(H:Hp)(a:c6)(xs:List V):Prop:=Rd H a (.tup xs) \/∃(o:c7) (its:Array b7) (n:Nat),K.lookup a=a7 o/\o.cls=.type "tuple"/\o.dict=a8/\o.data=.seq its n/\its.size<=sizeLine/\ar xs its.toList
noncomputable def absV:b7->Option V
 |.none=>a7 .non
 |.bool b=>a7<|.bl b
 |.int i _=>a7<|.int i
 |.str x _=>a7<|.str x
 |.bytes b _=>a7<|.byt b
 |.float b _=>a7<|.flt b
 |.ref a=>a7<|.ref a
 |.type n=>a7<|.ty n
 |_=>a8
theorem aH.abs(r:aH x u):absV u=a7 x:=by
 cases x with
 |non=>cases r;rfl
 |bl _=>cases r;rfl
 |int _=>obtain⟨t,rfl⟩:=r;rfl
 |str _=>obtain⟨t,rfl⟩:=r;rfl
 |byt _=>obtain⟨t,rfl⟩:=r;rfl
 |flt _=>obtain⟨t,rfl⟩:=r;rfl
 |ref _=>cases r;rfl
 |ty _=>cases r;rfl
theorem aH.inj(r:aH x u)(q:aH y u):x=y:=B5<|r.abs.symm.trans q.abs
theorem ar.inj(h:ar xs us)(h':ar ys us):xs=ys:=by
 induction h generalizing ys with
 |nil=>cases h';rfl
 |cons r t i=>cases h' with
  |cons r' t'=>rw[r.inj r',i t']
section
variable{X:Cx}{pins:List (c6×c7)}{σ:St}{H:Hp}{s:d9}{a:c6}{xs ys:List V}
theorem A6.of{K:t8}(h:H a=a7 (.tup xs)):A6 K H a xs:=.inl<|.inl h
theorem t4.list(I:t4 X pins σ H s)(h:G7 X.K H a xs):∃its:List b7,ar xs its/\PlainL s.heap a its.toArray/\xs.length<=sizeLine:=by
 rcases h with h|⟨o,its,n,k,f,d,hs,b,r⟩
 obtain⟨z,its,n,r,e⟩:=h.ok I.hok;exact⟨its,r,⟨_,n,e,rfl,rfl,rfl⟩,z⟩;refine⟨its.toList,r,⟨o,n,I.kIn a o k,f,d,by simpa using hs⟩,?_⟩;have e:=r.length;simp only[D7]at e;lia
theorem t4.tuple(I:t4 X pins σ H s)(h:A6 X.K H a xs):∃its:List b7,ar xs its/\IsTup s.heap a its.toArray/\xs.length<=sizeLine:=by
 rcases h with h|⟨o,its,n,k,f,_,hs,b,r⟩
 obtain⟨z,its,r,p⟩:=h.ok I.hok;exact⟨its,r,p.tup,z⟩;refine⟨its.toList,r,⟨o,I.kIn a o k,f,n,by simpa using hs⟩,?_⟩;have e:=r.length;simp only[D7]at e;lia
theorem t4.list_inj(I:t4 X pins σ H s)(h:G7 X.K H a xs)(h':G7 X.K H a ys):xs=ys:=by
 obtain⟨its,r,⟨o,n,e,_,_,d⟩,_⟩:=I.list h;obtain⟨i,r',⟨o',f,c,_,_,b⟩,_⟩:=I.list h';rw[e]at c;cases c;rw[d]at b;injection b with d1 _;have:its=i:=by simpa using p8 Array.toList d1
 subst this;exact r.inj r'
theorem t4.tuple_inj(I:t4 X pins σ H s)(h:A6 X.K H a xs)(h':A6 X.K H a ys):xs=ys:=by
 obtain⟨its,r,⟨o,e,_,n,d⟩,_⟩:=I.tuple h;obtain⟨i,r',⟨o',c,_,f,b⟩,_⟩:=I.tuple h';rw[e]at c;cases c;rw[d]at b;injection b with d1 _;have:its=i:=by simpa using p8 Array.toList d1
 subst this;exact r.inj r'
end
noncomputable abbrev Cx.wish(X:Cx)(E:b7->d9->Prop):Cx:={ X with xe:=E }
noncomputable abbrev Cx.nox(X:Cx):Cx:=X.wish λ_ _=>False
theorem Cx.Ok.wish{X:Cx}(ok:X.Ok)(E:b7->d9->Prop):(X.wish E).Ok:=⟨ok.mod,ok.kind,ok.glob,ok.blt,ok.above,ok.inj,ok.has,ok.cab,ok.hd,ok.frames,ok.stk,ok.exf,ok.bs,ok.bsz,ok.noex,ok.exfs,ok.funs,ok.frf⟩
theorem Cx.Ok.unwish{X:Cx}{E:b7->d9->Prop}(ok:(X.wish E).Ok):X.Ok:=⟨ok.mod,ok.kind,ok.glob,ok.blt,ok.above,ok.inj,ok.has,ok.cab,ok.hd,ok.frames,ok.stk,ok.exf,ok.bs,ok.bsz,ok.noex,ok.exfs,ok.funs,ok.frf⟩
section
variable{X:Cx}{pins:List (c6×c7)}{σ:St}{H:Hp}{s:d9}{E:b7->d9->Prop}
theorem t4.wish(I:t4 X pins σ H s)(E:b7->d9->Prop):t4 (X.wish E) pins σ H s:=⟨I.ok.wish E,I.os,I.bare,I.base,I.loc,I.cell,I.free,I.freeC,I.pin,I.hok,I.len⟩
theorem t4.unwish(I:t4 (X.wish E) pins σ H s):t4 X pins σ H s:=⟨I.ok.unwish,I.os,I.bare,I.base,I.loc,I.cell,I.free,I.freeC,I.pin,I.hok,I.len⟩
theorem SP.unwish(h:SP (X.wish E) pins D f s'):SP X pins D f s':=by
 cases f with
 |next=>obtain⟨a,H',I,q⟩:=h;exact⟨a,H',I.unwish,q⟩
 |brk=>obtain⟨a,H',I,q⟩:=h;exact⟨a,H',I.unwish,q⟩
 |cont=>obtain⟨a,H',I,q⟩:=h;exact⟨a,H',I.unwish,q⟩
 |ret u=>obtain⟨v,a,H',I,r,q⟩:=h;exact⟨v,a,H',I.unwish,r,q⟩
theorem G9.nox{st:List g7}{t:TS}(h:G9 X.nox st t):G9 X st t:=λp s σ H D I w =>
 E1 (h p s σ H D (I.wish _) w) (λ_ _ q=>q.unwish) λ_ _ z=>F7 z
end
section
variable{X:Cx}{st:g7}{aF:List g7}{t u:TS}{e:f6}{te:TE}{pos:f8}
def tNext:TS:=λD σ H=>D.nx σ H
def tSeq(t u:TS):TS:=λD σ H=>t { D with nx:=u D } σ H
theorem Ez:G9 X [] tNext:=λ_ _ σ H _ I h=>MV ⟨σ,H,I,h⟩
theorem Bt(h1:PS X st t)(h2:G9 X aF u):G9 X (st::aF) (tSeq t u):=by
 intro p s σ H D I h;refine O4<|v6 (h1 p s σ H { D with nx:=u D } I h) λf c q=>?_;cases f with
 |next=>obtain⟨a,H',b,q⟩:=q;exact h2 p c a H' D b q
 |ret v=>exact q
 |brk=>exact q
 |cont=>exact q
theorem Ey(h1:PS X st t):G9 X [st] t:=by
 intro p s σ H D I h;refine O4<|v6 (h1 p s σ H D I h) λf c q=>?_;cases f with
 |next=>exact MV q
 |ret v=>exact q
 |brk=>exact q
 |cont=>exact q
theorem t4.quiet(I:t4 X pins σ H s):interactive X.env=bt:=by simp[interactive,I.ok.kind]
def tDrop(te:TE):TS:=λD σ H=>te σ H λ_ H1=>D.nx σ H1
theorem EA(i:PE X e te)(hs:g9 e a8 pos.line X.env=pure bt:=by rfl):PS X (.Expr e pos) (tDrop te):=by intro p s σ H D I h;exact wpAny_Expr_any (v6 (i p s σ H _ I h) λv c ⟨x,H1,a,r,b⟩=>⟨σ,H1,a,b⟩) I.quiet hs
def tRet(te:TE):TS:=λD σ H=>te σ H D.rt
theorem Hv(i:PE X e te):PS X (.Return (a7 e) pos) (tRet te):=by intro p s σ H D I h;refine wpAny_Return_some<|v6 (i p s σ H _ I h) ?_;rintro v c ⟨x,H1,a,r,b⟩;exact⟨x,σ,H1,a,r,b⟩
def tIfS(c:TT)(t u:TS):TS:=λD σ H=>c σ H λb H1=>if b=a9 then t D σ H1 else u D σ H1
theorem ps_if(j:PT X c tc)(g:G9 X a t)(i:G9 X b u):PS X (.If c a b pos) (tIfS tc t u):=by
 intro p s σ H D I h;refine wpAny_If<|v6 (j p s σ H _ I h) ?_;rintro d f ⟨H1,e,q⟩;cases d with
 |true=>exact g p f σ H1 D e q
 |false=>exact i p f σ H1 D e q
end
abbrev TG:=V->St->Hp->(St->Hp->Prop)->Prop
abbrev NU:=List V->St->Hp->(St->Hp->Prop)->Prop
def PG(X:Cx)(a:f6)(t:TG):Prop:=∀(p:List (c6×c7)) (s:d9) (σ:St) (H:Hp) (v:V) (u:b7) (Q:St->Hp->Prop),t4 X p σ H s->aH v u->t v σ H Q ->e8 (f7 X.prog X.w) X.A (i3 a X.env u) (λ_ s'=>∃b H',t4 X p b H' s'/\Q b H') X.xe s
def NX(X:Cx)(b:List f6)(t:NU):Prop:=∀(p:List (c6×c7)) (s:d9) (σ:St) (H:Hp) (vs:List V) (us:List b7) (Q:St->Hp->Prop),t4 X p σ H s->ar vs us->t vs σ H Q ->e8 (f7 X.prog X.w) X.A (assignInOrder ((i5 b X.env).map (·.2)) us) (λ_ s'=>∃a H',t4 X p a H' s'/\Q a H') X.xe s
abbrev TSet:=V->V->V->Hp->(Hp->Prop)->Prop
def PSet(X:Cx)(t:TSet):Prop:=∀(p:List (c6×c7)) (s:d9) (σ:St) (H:Hp) (o i v:V) (b a u:b7) (Q:Hp->Prop),t4 X p σ H s->aH o b->aH i a->aH v u->t o i v H Q ->e8 (f7 X.prog X.w) X.A (setItem b a u) (λ_ s'=>∃H',t4 X p σ H' s'/\Q H') X.xe s
section
variable{X:Cx}{pos:f8}
def Jv(i:Nat):TG:=λv σ H Q=>Q (σ.set i<|a7 v) H
theorem EG(b:X.N.Nodup)(hi:X.N[i]?=a7 x)(c:Mm X.env.scope x)(f:X.fn x=a9\/X.env.scope.names.lookup x=a7 .local:=by first|exact .inl rfl|exact .inr rfl|assumption):PG X (.Name x pos) (Jv i):=by intro p s σ H v u Q I r h;exact wpAny_assign_Name<|jg I b hi c r (λs' a=>⟨_,H,a,h⟩) f
def gNil:NU:=λvs σ H Q=>vs=[]/\Q σ H
def gCons(t:TG)(u:NU):NU:=λvs σ H Q=>∃v r,vs=v::r/\t v σ H λa H'=>u r a H' Q
theorem EF:NX X [] gNil:=by intro p s σ H vs us Q I r h;obtain⟨e,h⟩:=h;subst e;cases r;exact assignInOrder_nil ⟨σ,H,I,h⟩
theorem Bx(h1:PG X e t)(h2:NX X es u)(hs:(i5 (e::es) X.env).map (·.2)=i3 e X.env::(i5 es X.env).map (·.2):=by rfl):NX X (e::es) (gCons t u):=by
 intro p s σ H vs us Q I r h;obtain⟨v,g,c,h⟩:=h;subst c;cases r with
 |cons r d=>rw[hs];refine assignInOrder_cons<|v6 (h1 p s σ H _ _ _ I r h) ?_;rintro _ f ⟨a,H1,b,q⟩;exact h2 p f a H1 _ _ Q b d q
def gTup(K:t8)(n:Nat)(t:NU):TG:=λv σ H Q=>∃a xs,v=.ref a/\A6 K H a xs/\xs.length=n/\t xs σ H Q
theorem Hz(i:X.calm=a9)(h:NX X es t)(j:(i5 es X.env).length=n:=by rfl) (c:(i5 es X.env).findIdx? (·.1)=a8:=by rfl):PG X (.Tuple es k pos) (gTup X.K n t):=by intro p s σ H v u Q I r w;obtain⟨a,xs,g,q,l,w⟩:=w;subst g;cases r;obtain⟨its,d,D,z⟩:=I.tuple q;refine assign_Tuple_tuple (I.ok.hd i) D (by simp[j,<-l,d.length]) c λh' x=>?_;have f:t4 X p σ H { s with heap:=h' }:=I.kept (t':=s.toks) λb o e=>x b o (x9<|x3 e) e;exact h p _ σ H xs _ Q f (by simpa using d) w
def gSub(d c:TE)(t:TSet):TG:=λv σ H Q=>d σ H λo H1=>c σ H1 λi a=>t o i v a λb=>Q σ b
theorem HD(B:PE X o to)(hi:PE X i ti)(hs:PSet X t)(f:∀v,i3 (.Subscript o i pos) X.env v=(do
   let ov <-g8 [v] (eval o X.env)
   let iv <-g8 [v,ov] (eval i X.env)
   standAt pos
   g8 [v,ov,iv] (setItem ov iv v)
   release [v,ov,iv] []):=by intro _;rfl):PG X (.Subscript o i pos) (gSub to ti t):=by intro p s σ H v u Q I r h;rw[f];refine r9<|E4<|v6 (B p s σ H _ I h) ?_;rintro ov m ⟨x,H1,c,k,q⟩;refine r9<|E4<|v6 (hi p m σ H1 _ c q) ?_;rintro iv n ⟨y,a,d,l,g⟩;refine r9<|wpAny_standAt<|r9<|E4<|v6 (hs p n σ a x y v ov iv u _ d k l r g) ?_;rintro _ w ⟨b,e,j⟩;exact wpAny_release ⟨σ,b,e,j⟩
def tAsg(te:TE)(g:TG):TS:=λD σ H=>te σ H λx H1=>g x σ H1 D.nx
theorem Hy(i:PE X e te)(S:PG X tg g)(hs:swapsWithSole [tg] e pos.line X.env=pure bt:=by rfl)(w:swappedStores [tg] e X.env=pure a8:=by rfl)(h1:(i5 [tg] X.env).map (·.2)=[i3 tg X.env]:=by rfl):PS X (.Assign [tg] e pos) (tAsg te g):=by intro p s σ H D I h;refine wpAny_Assign_stores (v6 (i p s σ H _ I h) ?_) hs w;rintro v c ⟨x,H1,a,r,b⟩;rw[h1];exact v6 (S p c σ H1 x v _ a r b) λ_ n q=>q
theorem Hu(b:X.N.Nodup)(hi:X.N[i]?=a7 x)(g:Mm X.env.scope x)(c:PE X e te)(hs:g9 e (a7<|.Name x pos') pos.line X.env=pure bt:=by rfl)(f:X.fn x=a9\/X.env.scope.names.lookup x=a7 .local:=by first|exact .inl rfl|exact .inr rfl|assumption):PS X (.Assign [.Name x pos'] e pos) (tAsg te<|Jv i):=by intro p s σ H D I h;refine wpAny_Assign_Name (v6 (c p s σ H _ I h) ?_) hs;rintro v j ⟨y,H1,a,r,q⟩;exact jg a b hi g r (λn d=>⟨_,H1,d,q⟩) f
end
section
variable{X:Cx}{pos:f8}
def Dj(c:TT)(t:TS):TS:=λD σ H=>∃W:Nat->St->Hp->Prop,(∃m,W m σ H)/\∀m σ H,W m σ H ->c σ H λb H1=>if b=a9 then ∃N:St->Hp->Prop,(∀a H',N a H'->∃g,g < m/\W g a H')/\t { D with nx:=N,ct:=N,bk:=D.nx } σ H1 else D.nx σ H1
theorem Bu(y:PassesOwn (f7 X.prog X.w) X.A X.env X.xe)(C:PT X c tc)(B:G9 X body tb):PS X (.While c body [] pos) (Dj tc tb):=by
 intro p s σ H D I h;obtain⟨W,⟨E,J⟩,t⟩:=h;refine wpAny_While<|codeAny_whileLoop (λn s'=>∃g H',t4 X p g H' s'/\W n g H') ?_ E ⟨σ,H,I,J⟩;rintro n F ⟨d,H1,z,K⟩;refine MU y<|v6 (C p F d H1 _ z<|t n d H1 K) ?_;rintro b G ⟨r,u,q⟩;cases b with
 |true =>
  obtain⟨N,x,q⟩:=q;rw[o5 rfl];refine MU y<|v6 (B p G d r _ u q) λf L j=>?_;cases f with
  |next=>obtain⟨a,e,i,l⟩:=j;obtain⟨k,m,o⟩:=x a e l;exact⟨k,m,a,e,i,o⟩
  |cont=>obtain⟨a,e,i,l⟩:=j;obtain⟨k,m,o⟩:=x a e l;exact⟨k,m,a,e,i,o⟩
  |brk=>exact j
  |ret v=>exact j
 |false=>rw[o6 LP];exact MV ⟨d,r,u,q⟩
end
structure It where
 go:Nat->Hp->Prop
 yld:Nat->Hp->V->Hp->Prop
 stop:Nat->Hp->Prop
def xZ(X:Cx)(pins:List (c6×c7))(H:Hp)(b:c6):Prop:=H b=a8/\b≠X.env.locals/\b∉X.fs/\(b∈X.ex\/X.s₀.heap.objs.size<=b)/\(∀x c,X.env.cells.lookup x=a7 c->c≠b)/\∀p∈X.pn++pins,p.1≠b
theorem t4.fpOk(I:t4 X pins σ H s)(d:s.heap.objs.size<=b)(f:H' b=a8):xZ X pins H' b:=by refine⟨f,Nat.ne_of_gt<|G8 I.lt d,I.nofs d,.inr<|J4 I.sz d,λx c e z=>?_,λp h z=>?_⟩;obtain⟨v,q⟩:=I.cell x c e;exact o7 (G8 q.lt<|by rw[z];exact d)<|G4 _;exact o7 (G8 (x3 (I.pin p h).1)<|by rw[z];exact d)<|G4 _
structure Turn(P:c5)(w:c3)(K:t8)(tg:f6)(J:It)(fp:List c6)(it:c6)(tn:Nat->c8->Prop):Prop where
 mem:it∈fp
 obj:∀i h,tn i h->∀b∈fp,∃o,h.get? b=a7 o/\∀v,o.data≠.cell v
 keep:∀i h h',tn i h->(∀b∈fp,∀o,h.get? b=a7 o->h'.get? b=a7 o)->tn i h'
 item:∀(X:Cx),X.prog=P->X.w=w->X.K=K->X.calm=a9->∀(i:Nat) (pins:List (c6×c7)) (s:d9) (σ:St) (H:Hp) (E:b7->d9->Prop),t4 X pins σ H s->(∀b∈fp,xZ X pins H b)->tn i s.heap->J.go i H ->e8 (f7 P w) X.A (i6<|.ref it) (λr s1=>∃u,r=a7 u /\ e8 (f7 P w) X.A (i7 tg (.ref it) u) (λ_ s2=>∃x H',t4 X pins σ H' s2/\aH x u/\J.yld i H x H'/\tn (i+1) s2.heap/\∀b∈fp,H' b=a8) E s1) E s
 done:∀(X:Cx),X.prog=P->X.w=w->X.K=K->X.calm=a9->∀(i:Nat) (pins:List (c6×c7)) (s:d9) (σ:St) (H:Hp) (E:b7->d9->Prop),t4 X pins σ H s->(∀b∈fp,xZ X pins H b)->tn i s.heap->J.stop i H ->e8 (f7 P w) X.A (i6<|.ref it) (λr s1=>r=a8/\t4 X pins σ H s1) E s
 self:∀(A:d8) (i:Nat) (s:d9) (Q:b7->d9->Prop) (E:b7->d9->Prop),tn i s.heap->Q (.ref it) s->e8 (f7 P w) A (i8<|.ref it) Q E s
abbrev TI:=St->Hp->(It->Hp->Prop)->Prop
inductive NW(X:Cx)(pins:List (c6×c7))(σ:St)(tg:f6)(R:It->Hp->Prop)(itv:b7)(s2:d9):Prop
 |mk (it:c6) (fp:List c6) (tn:Nat->c8->Prop) (J:It) (H':Hp) (f0:itv=.ref it) (f1:t4 X pins σ H' s2) (f2:Turn X.prog X.w X.K tg J fp it tn) (f3:tn 0 s2.heap) (f4:(∀b∈fp,xZ X pins H' b)) (f5:R J H')
def PI(X:Cx)(g r:f6)(wi:TI):Prop:=∀(p:List (c6×c7)) (s:d9) (σ:St) (H:Hp) (R:It->Hp->Prop),t4 X p σ H s->wi σ H R ->e8 (f7 X.prog X.w) X.A (eval r X.env) (λv c=>e8 (f7 X.prog X.w) X.A (i8 v) (NW X p σ g R) X.xe c) X.xe s
theorem uM(B:s.heap.get? it=a7 o)(f:o.cls=.type n)(d:o.data=.fields vs)(a:["enumerate","zip","dict_itemiterator","dict_reverseitemiterator","odict_iterator","itertools.zip_longest","itertools.pairwise"].contains n=bt) (b:Q () s):e8 M A (i7 tg (.ref it) u) Q E s:=by
 unfold i7;cases tg<;>first
  |exact t6 b
  |(cases u<;>first
    |exact t6 b
    |(refine r9 (wpAny_load B ?_);rw[f,d];show e8 M A (if (["enumerate","zip","dict_itemiterator","dict_reverseitemiterator","odict_iterator","itertools.zip_longest","itertools.pairwise"].contains n&&vs[0]?==a7 (i9 _))=a9 then _ else _) Q E s;rw[o6 (by intro h;rw[a,OU]at h;cases h)];exact t6 b))
noncomputable def Qp(K:t8)(a:c6):It:=⟨λi H=>∃xs x,G7 K H a xs/\xs[i]?=a7 x,λi H x H'=>H'=H/\∀xs,G7 K H a xs->xs[i]?=a7 x,λi H=>∃xs,G7 K H a xs/\xs.length<=i⟩
noncomputable def Qo(K:t8)(a:c6):It:=⟨λi H=>∃xs x,A6 K H a xs/\xs[i]?=a7 x,λi H x H'=>H'=H/\∀xs,A6 K H a xs->xs[i]?=a7 x,λi H=>∃xs,A6 K H a xs/\xs.length<=i⟩
noncomputable def OJ(lo:Int)(n:Nat):It:=⟨λi _=>i<n,λi H x H'=>H'=H/\x=.int (lo+i),λi _=>n<=i⟩
theorem qH{P:c5}{w:c3}{K:t8}{U:f6}(a it:c6):Turn P w K U (Qp K a) [it] it (λi h=>h.IsListIter it a i) where
 mem:=by simp
 obj:=λi h st b g=>by
  have e:b=it:=by simpa using g
  subst e;obtain⟨o,e,c,d⟩:=st;exact⟨o,e,λv z=>by rw[d]at z;cases z⟩
 keep:=λi h h' st k=>st.at λo e=>k it (by simp) o e
 item:=by intro X B C A G i f s σ H E I l st S;subst B C A;obtain⟨xs,x,q,D⟩:=S;obtain⟨its,F,p,Q⟩:=I.list q;obtain⟨u,N,R⟩:=F.get D;obtain⟨m,n,M,r,t,y⟩:=l it (by simp);refine wpAny_pyNext_list_item st p.isList (x:=u) (by simpa using N) λh' j T=>?_;have J:t4 X f σ H { s with heap:=h' }:=I.turned (t':=s.toks) (λb o g e=>(T.2 b g).trans e) m n r t y;obtain⟨o,e,c,d⟩:=id j;exact⟨u,rfl,uM (s:={ s with heap:=h' }) e c d (by decide) ⟨x,H,J,R,⟨rfl,λys O=>by rw[I.list_inj O q];exact D⟩,j,λb g=>(l b g).1⟩⟩
 done:=by intro X B C A G i f s σ H E I l st S;subst B C A;obtain⟨xs,q,D⟩:=S;obtain⟨its,F,p,Q⟩:=I.list q;obtain⟨m,n,M,r,t,y⟩:=l it (by simp);have V:=F.length;exact wpAny_pyNext_list_end (I.ok.hd G) st p.isList (by simp;lia) λh' L=>⟨rfl,I.turned (t':=s.toks) (λb o g e=>L b o g e) m n r t y⟩
 self:=λ_ _ _ _ _ st h=>wpAny_pyIter_listiter st h
theorem wU{P:c5}{w:c3}{K:t8}{U:f6}(a it:c6):Turn P w K U (Qo K a) [it] it (λi h=>h.IsTupleIter it a i) where
 mem:=by simp
 obj:=λi h st b g=>by
  have e:b=it:=by simpa using g
  subst e;obtain⟨o,e,c,d⟩:=st;exact⟨o,e,λv z=>by rw[d]at z;cases z⟩
 keep:=λi h h' st k=>st.at λo e=>k it (by simp) o e
 item:=by intro X B C A G i f s σ H E I l st S;subst B C A;obtain⟨xs,x,q,D⟩:=S;obtain⟨its,F,p,Q⟩:=I.tuple q;obtain⟨u,N,R⟩:=F.get D;obtain⟨m,n,M,r,t,y⟩:=l it (by simp);refine wpAny_pyNext_tuple_item st (show s.heap.IsTuple a its.toArray from p) (x:=u) (by simpa using N) λh' j T=>?_;have J:t4 X f σ H { s with heap:=h' }:=I.turned (t':=s.toks) (λb o g e=>(T.2 b g).trans e) m n r t y;obtain⟨o,e,c,d⟩:=id j;exact⟨u,rfl,uM (s:={ s with heap:=h' }) e c d (by decide) ⟨x,H,J,R,⟨rfl,λys O=>by rw[I.tuple_inj O q];exact D⟩,j,λb g=>(l b g).1⟩⟩
 done:=by intro X B C A G i f s σ H E I l st S;subst B C A;obtain⟨xs,q,D⟩:=S;obtain⟨its,F,p,Q⟩:=I.tuple q;obtain⟨m,n,M,r,t,y⟩:=l it (by simp);have V:=F.length;exact wpAny_pyNext_tuple_end (I.ok.hd G) st (show s.heap.IsTuple a its.toArray from p) (by simp;lia) λh' L=>⟨rfl,I.turned (t':=s.toks) (λb o g e=>L b o g e) m n r t y⟩
 self:=λ_ _ _ _ _ st h=>wpAny_pyIter_tupleiter st h
theorem wV{P:c5}{w:c3}{K:t8}{D:f6}(it:c6)(lo:Int)(n:Nat):Turn P w K D (OJ lo n) [it] it (λi h=>IsRangeIter h it (lo+(i:Nat)*1) ((n:Int)-(i:Nat)) 1) where
 mem:=by simp
 obj:=λi h st b d=>by
  have e:b=it:=by simpa using d
  subst e;exact⟨_,st,λv z=>by have F:Data.fields _=Data.cell v:=z;cases F⟩
 keep:=λi h h' st k=>k it (by simp) _ st
 item:=by intro X B l A g i p s σ H E I f st S;subst B l A;obtain⟨m,a,M,r,c,y⟩:=f it (by simp);have W:=Walks.range (prog:=X.prog) (w:=X.w) (I.ok.hd g) it lo 1 n;refine W.item i s _ _ S st λv h' q x j C=>?_;obtain⟨t,rfl⟩:=x;have u:t4 X p σ H { s with heap:=h',toks:=q }:=I.turned (λb o d e=>C b o (by simpa using d) e) m a r c y;refine⟨_,rfl,uM (s:={ s with heap:=h',toks:=q }) (n:="range_iterator") j rfl rfl (by decide) ⟨.int<|lo+i,H,u,⟨t,?_⟩,⟨rfl,rfl⟩,j,λb d=>(f b d).1⟩⟩;rw[Int.mul_one]
 done:=by intro X B l A g i p s σ H E I f st S;subst B l A;obtain⟨m,a,M,r,c,y⟩:=f it (by simp);exact wpAny_pyNext_range_end (I.ok.hd g) st (by have:n<=i:=S;lia) λh' L=>⟨rfl,I.turned (t':=s.toks) (λb o d e=>L b o d e) m a r c y⟩
 self:=λ_ _ _ _ _ st h=>wpAny_pyIter_rangeiter st h
section
variable{X:Cx}{tg:f6}
theorem Bp{pins:List (c6×c7)}{σ:St}{H:Hp}{s:d9}{R:It->Hp->Prop}{E:b7->d9->Prop}{lo hi:Int}{t u v:Tok}{tk:Nat}(I:t4 X pins σ H s)(h1:-(2 ^ 62)<=lo)(h2:lo<2 ^ 62)(h:-(2 ^ 62)<=hi)(d:hi<2 ^ 62)(q:R (OJ lo (hi-lo).toNat) H):e8 (f7 X.prog X.w) X.A (i8<|.ref s.heap.objs.size) (NW X pins σ tg R) E { s with heap:=s.heap.push { cls:=.type "range",data:=.fields #[.int lo t,.int hi u,.int 1 v] },toks:=tk }:=by
 refine wpAny_pyIter_range (IsRange.new ..) (small_one h1 h2 h d) ?_;have a:t4 X pins σ H { s with heap:=s.heap.push { cls:=.type "range",data:=.fields #[.int lo t,.int hi u,.int 1 v] },toks:=tk }:=I.kept λb o e=>w6 _ e;refine⟨(s.heap.push { cls:=.type "range",data:=.fields #[.int lo t,.int hi u,.int 1 v] }).objs.size,[(s.heap.push { cls:=.type "range",data:=.fields #[.int lo t,.int hi u,.int 1 v] }).objs.size],_,_,H,rfl,a.kept (t':=tk) λb o e=>w6 _ e,wV _ lo (hi-lo).toNat,?_,λb f=>?_,q⟩;have c:lo+((0:Nat):Int)*1=lo:=by simp
 have l:(((hi-lo).toNat:Nat):Int)-((0:Nat):Int)=Builtin.Range.rangeSize lo hi 1:=by rw[rangeSize_one];split<;>lia
 show IsRangeIter _ _ (lo+((0:Nat):Int)*1) ((((hi-lo).toNat:Nat):Int)-((0:Nat):Int)) 1;rw[c,l];exact A9 _ rfl;have e:b=(s.heap.push { cls:=.type "range",data:=.fields #[.int lo t,.int hi u,.int 1 v] }).objs.size:=by simpa using f
 subst e;exact a.fpOk (u6 _)<|a.hok.fresh<|u6 _
def iRng1(a:TA):TI:=λσ H R=>a σ H λvs H1=>∃j:Int,vs=[.int j]/\-(2 ^ 62)<=j/\j<2 ^ 62/\R (OJ 0 j.toNat) H1
theorem yY{a:f6}{d:TA}{p pos:f8}(S:Gl X "range")(m:X.mg "range" = a8)(g:PA X [a] d)(hs:ge [a] X.env=[(bt,eval a X.env)]:=by rfl):PI X tg (.Call (.Name "range" p) [a] [] pos) (iRng1 d):=by
 intro b s σ H R I h;refine Call_<|mS I S m boot_range<|Qk (v6 (g pos b s σ H _ I h) ?_) hs rfl;rintro us n ⟨vs,H1,f,k,c⟩;obtain⟨j,e,c,i,q⟩:=c;subst e;cases k with
 |cons r l=>cases l;obtain⟨t,rfl⟩:=r;exact call_range_1<|Bp f (by lia) (by lia) c i<|by simpa using q
def tFor(wi:TI)(g:TG)(t:TS):TS:=λD σ H=>wi σ H λJ H1=>∃W:Nat->Nat->St->Hp->Prop,(∃m,W 0 m σ H1)/\∀i m σ H,W i m σ H ->(J.stop i H/\D.nx σ H)\/(J.go i H/\∃N:St->Hp->Prop,(∀a H',N a H'->∃c,c < m/\W (i+1) c a H')/\∀x H',J.yld i H x H'->g x σ H' λb d=>t { D with nx:=N,ct:=N,bk:=D.nx } b d)
noncomputable def jn(fp:List c6)(h:c8):List (c6×c7):=fp.filterMap λb=>(h.get? b).map λo=>(b,o)
theorem gH(d:b∈fp)(e:h.get? b=a7 o):(b,o)∈jn fp h:=M8.mpr ⟨b,d,by rw[e];rfl⟩
theorem su(c:p∈jn fp h):p.1∈fp/\h.get? p.1=a7 p.2:=by
 obtain⟨b,d,e⟩:=M8.mp c;cases q:h.get? b with
 |none=>rw[q]at e;cases e
 |some o=>rw[q]at e;have a:(b,o)=p:=B5 e;subst a;exact⟨d,q⟩
theorem t4.pinned(I:t4 X pins σ H s)(f:∀b∈fp,xZ X pins H b)(B:∀b∈fp,∃o,s.heap.get? b=a7 o/\∀v,o.data≠.cell v):t4 X (pins++jn fp s.heap) σ H s:=I.pins_of λp c=>(F3.mp c).elim (λz=>I.pin p<|F9 _ z) λz=>by obtain⟨h,e⟩:=su z;obtain⟨m,n,M,_⟩:=f p.1 h;obtain⟨o,a,d⟩:=B p.1 h;rw[e]at a;cases a;exact⟨e,m,n,M,d⟩
theorem t4.unpinned(I:t4 X (pins++pl) σ H s):t4 X pins σ H s:=I.pins_of λp h=>I.pin p<|F9 _<|Ld _ h
theorem Hw(F:PassesOwn (f7 X.prog X.w) X.A X.env X.xe)(hc:X.calm=a9)(hi:PI X tg iter wi)(hg:PG X tg g)(l:G9 X body tb)(hs:∀x,j0 iter X.env x=pure x:=by intro _;rfl):PS X (.For tg iter body [] pos) (tFor wi g tb):=by
 intro p s σ H D I h;refine wpAny_For (v6 (hi p s σ H _ I h) λv s1 h1=>v6 h1 λab s2 h2=>?_) hs;obtain⟨it,C,tn,J,H2,e,I2,T,U,f2,W,⟨m0,w0⟩,M⟩:=h2;subst e
 -- what stays a9 of the iterator's objects through the loop
 have t:∀{H':Hp},(∀b∈C,H' b=a8)->∀b∈C,xZ X p H' b:=λhn b l=>⟨hn b l,(f2 b l).2⟩
 refine codeAny_forLoop_any (λn s'=>∃i q H',t4 X p q H' s'/\tn i s'.heap/\(∀b∈C,H' b=a8)/\W i n q H') ?_ m0 ⟨0,σ,H2,I2,U,λb l=>(f2 b l).1,w0⟩;rintro n s3 ⟨i,y,O,Z,K,E,w3⟩;rcases M i n y O w3 with⟨stop,qn⟩|⟨go,N,hN,L⟩
 refine MU F<|v6 (T.done X rfl rfl rfl hc i p s3 y O X.xe Z (t E) K stop) ?_;rintro r s4 ⟨R,I4⟩;subst R;exact MV ⟨y,O,I4,qn⟩
 ·refine MU F (v6 (T.item X rfl rfl rfl hc i p s3 y O X.xe Z (t E) K go) ?_)
  rintro r s4 ⟨u,R,h4⟩;subst R;refine MU F<|v6 h4 ?_;rintro _ s5 ⟨x,Y,I5,r5,y5,B,Q⟩;have P:=I5.pinned (t Q)<|T.obj _ _ B;refine MU F<|v6 (hg _ s5 y Y x u _ P r5<|L x Y y5) ?_;rintro _ s6 ⟨V,H6,I6,q6⟩;refine MU F<|v6 (l _ s6 V H6 _ I6 q6) λf S z=>?_;have k:∀{a:St}{c:Hp},t4 X (p++jn C s5.heap) a c S->N a c->∃m,m<n/\∃i q H',t4 X p q H' S/\tn i S.heap/\(∀b∈C,H' b=a8)/\W i m q H':=λ{a c} j G=>by obtain⟨m',hm,w7⟩:=hN a c G;refine⟨m',hm,i+1,a,c,j.unpinned,T.keep _ _ _ B λb l o e=>(j.pin (b,o)<|F9 _<|F9 _<|gH l e).1,λb l=>?_,w7⟩;obtain⟨o,e,d⟩:=T.obj _ _ B b l;exact(j.pin (b,o)<|F9 _<|F9 _<|gH l e).2.1
  cases f with
  |next=>obtain⟨a,c,j,G⟩:=z;exact k j G
  |cont=>obtain⟨a,c,j,G⟩:=z;exact k j G
  |brk=>obtain⟨a,c,j,z⟩:=z;exact⟨a,c,j.unpinned,z⟩
  |ret v=>obtain⟨x7,a,c,j,r7,z⟩:=z;exact⟨x7,a,c,j.unpinned,r7,z⟩
end
abbrev R2:=V->V->Hp->VK->Prop
def C6(X:Cx)(f:b7->b7->Sem b7)(r:R2):Prop:=∀(p:List (c6×c7)) (s:d9) (σ:St) (H:Hp) (x y:V) (v u:b7) (Q:VK),t4 X p σ H s->aH x v->aH y u->r x y H Q ->e8 (f7 X.prog X.w) X.A (f v u) (EP X p σ Q) X.xe s
def UnR(X:Cx)(f:b7->Sem b7)(r:V->Hp->VK->Prop):Prop:=∀(p:List (c6×c7)) (s:d9) (σ:St) (H:Hp) (x:V) (v:b7) (Q:VK),t4 X p σ H s->aH x v->r x H Q ->e8 (f7 X.prog X.w) X.A (f v) (EP X p σ Q) X.xe s
def eH(X:Cx)(f:b7)(r:List V->Hp->VK->Prop):Prop:=∀(p:List (c6×c7)) (s:d9) (σ:St) (H:Hp) (xs:List V) (us:List b7) (Q:VK),t4 X p σ H s->ar xs us->r xs H Q ->e8 (f7 X.prog X.w) X.A (call f us) (EP X p σ Q) X.xe s
def NK(r:R2)(t b:TE):TE:=λσ H Q=>t σ H λx H1=>b σ H1 λy a=>r x y a Q
def rI(C:Int->Int->Prop)(g:Int->Int->V):R2:=λx y H Q=>∃i j,x=.int i/\y=.int j/\C i j/\Q (g i j) H
def MB(g:Int->Int->V):R2:=λx y H Q=>∃i j,x=.int i/\y=.int j/\Q (g i j) H
section
variable{X:Cx}{a b c:f6}{ta tb tc:TE}{pos:f8}
theorem binT(e:PE X a ta)(g:PE X b tb){pins:List (c6×c7)}{s:d9}{σ:St}{H:Hp}{R:V->V->Hp->Prop}(I:t4 X pins σ H s)(h:ta σ H λx H1=>tb σ H1 λy H2=>R x y H2) {Q:b7->d9->Prop}{f:b7->b7->Sem b7}(i:∀v u s2 x y H2,t4 X pins σ H2 s2->aH x v->aH y u->R x y H2->e8 (f7 X.prog X.w) X.A (f v u) Q X.xe s2):e8 (f7 X.prog X.w) X.A (eval a X.env) (λv s₁=>e8 (f7 X.prog X.w) X.A (eval b X.env) (λu s₂=>e8 (f7 X.prog X.w) X.A (f v u) Q X.xe s₂) X.xe s₁) X.xe s:=by refine v6 (e pins s σ H _ I h) ?_;rintro v k ⟨x,H1,c,r,q⟩;refine v6 (g pins k σ H1 _ c q) ?_;rintro u s2 ⟨y,H2,d,l,j⟩;exact i v u s2 x y H2 d r l j
theorem pe_op{op:Operator}{r:R2}(B:C6 X (j1 op) r)(f:PE X a ta)(e:PE X b tb):PE X (.BinOp a op b pos) (NK r ta tb):=by intro p s σ H Q I h;exact wpAny_BinOp<|binT f e I h λv u n x y c d g i q=>B p n σ c x y v u Q d g i q
theorem NN{f:b7->b7->Sem b7}{C:Int->Int->Prop}{g:Int->Int->Int}(e:∀(i j:Int) (t u:Tok) (s:d9) (Q:b7->d9->Prop) (E:b7->d9->Prop),C i j->Q (.int (g i j) s.toks) { s with toks:=s.toks+1 }->e8 (f7 X.prog X.w) X.A (f (.int i t)<|.int j u) Q E s):C6 X f (rI C λi j=>.int<|g i j):=by intro p s σ H x y v u Q I r a h;obtain⟨i,j,rfl,rfl,c,q⟩:=h;obtain⟨t,rfl⟩:=r;obtain⟨t',rfl⟩:=a;exact e i j t t' s _ _ c ⟨.int<|g i j,H,I.tok _,⟨_,rfl⟩,q⟩
theorem opI0{f:b7->b7->Sem b7}{g:Int->Int->Int}(e:∀(i j:Int) (t u:Tok) (s:d9) (Q:b7->d9->Prop) (E:b7->d9->Prop),Q (.int (g i j) s.toks) { s with toks:=s.toks+1 }->e8 (f7 X.prog X.w) X.A (f (.int i t)<|.int j u) Q E s):C6 X f (MB λi j=>.int<|g i j):=by intro p s σ H x y v u Q I r a h;obtain⟨i,j,rfl,rfl,q⟩:=h;obtain⟨t,rfl⟩:=r;obtain⟨t',rfl⟩:=a;exact e i j t t' s _ _ ⟨.int<|g i j,H,I.tok _,⟨_,rfl⟩,q⟩
theorem opB0{f:b7->b7->Sem b7}{g:Int->Int->Bool}(e:∀(i j:Int) (t u:Tok) (s:d9) (Q:b7->d9->Prop) (E:b7->d9->Prop),Q (.bool<|g i j) s->e8 (f7 X.prog X.w) X.A (f (.int i t)<|.int j u) Q E s):C6 X f (MB λi j=>.bl<|g i j):=by intro p s σ H x y v u Q I r a h;obtain⟨i,j,rfl,rfl,q⟩:=h;obtain⟨t,rfl⟩:=r;obtain⟨t',rfl⟩:=a;exact e i j t t' s _ _ ⟨.bl<|g i j,H,I,rfl,q⟩
def CPow(i j:Int):Prop:=0<=j/\j<=1000000/\i.natAbs<2 ^ 64
def CMul(i j:Int):Prop:=(-(2 ^ 64)<i/\i<2 ^ 64)\/(-(2 ^ 64)<j/\j<2 ^ 64)
theorem CMul.ok(h:CMul i j):IntMulOk i j:=by
 rcases h with⟨h1,h2⟩|⟨h1,h2⟩
 exact .of_left<|intBits_le_64 h1 h2;exact .of_right<|intBits_le_64 h1 h2
theorem Ie:C6 X (j1 .Add) (MB λi j=>.int<|i+j):=opI0 λ_ _ _ _ _ _ _ q=>add_int q
theorem HV:C6 X (j1 .Sub) (MB λi j=>.int<|i-j):=opI0 λ_ _ _ _ _ _ _ q=>sub_int q
theorem Ia:C6 X (j1 .Mult) (rI CMul λi j=>.int<|i*j):=NN λ_ _ _ _ _ _ _ f q=>mul_int q f.ok
theorem Ib:C6 X (j1 .Mod) (rI (λ_ j=>0<j) λi j=>.int<|i % j):=NN λi j _ _ _ _ _ f q=>by have h1:(0:Int)<j:=f;exact mod_int' (by lia)<|by rw[Int.fmod_eq_emod_of_nonneg i<|by lia];exact q
theorem HZ:C6 X (j1 .Pow) (rI CPow λi j=>.int<|i ^ j.toNat):=NN λ_ _ _ _ _ _ _ f q=>pow_int_small f.1 f.2.1 f.2.2 q
theorem HY:C6 X (j1 .LShift) (rI CPow λi j=>.int<|i*2 ^ j.toNat):=NN λ_ _ _ _ _ _ _ f q=>lshift_int_small f.1 f.2.1 f.2.2 q
end
section
variable{X:Cx}{a b c:f6}{ta tb tc:TE}{pos:f8}
theorem op_lt:C6 X (j2 .Lt) (MB λi j=>.bl<|decide<|i<j):=opB0 λ_ _ _ _ _ _ _ q=>lt_int q
theorem op_le:C6 X (j2 .LtE) (MB λi j=>.bl<|decide<|i<=j):=opB0 λ_ _ _ _ _ _ _ q=>le_int q
theorem op_gt:C6 X (j2 .Gt) (MB λi j=>.bl<|decide<|j<i):=opB0 λ_ _ _ _ _ _ _ q=>gt_int q
theorem C6.or(h:C6 X f r)(h':C6 X f r'):C6 X f (λx y H Q=>r x y H Q\/r' x y H Q):=by intro p s σ H x y v u Q I g i q;rcases q with q|q;exact h p s σ H x y v u Q I g i q;exact h' p s σ H x y v u Q I g i q
theorem EI(B:C6 X (j2 op) r)(f:PE X a ta)(e:PE X b tb)(m:j3 op b=bt):PE X (.Compare a [op] [b] pos) (NK r ta tb):=by intro p s σ H Q I h;exact wpAny_Compare1 (binT f e I h λv u n x y c d g i q=>B p n σ c x y v u Q d g i q) m
def GY(t:TE):TT:=λσ H Q=>t σ H λx H'=>∃k,x=.bl k/\Q k H'
theorem Ew(B:C6 X (j2 op) r)(l:PE X a ta)(m:PE X b tb)(n:j3 op b=bt):PT X (.Compare a [op] [b] pos) (GY<|NK r ta tb):=by
 intro p s σ H Q I h;refine wpAny_isTrue_Compare1 (v6 (l p s σ H _ I h) λv D ⟨x,H1,g,w,q⟩=>v6 (m p D σ H1 _ g q) λu E ⟨y,d,i,A,o⟩ =>
  v6 (B p E σ d x y v u _ i w A o) λc F ⟨z,f,j,C,k,e,t⟩=>?_) n
 subst e;cases C;exact Mx ⟨f,j,t⟩
def Dk(r r':R2)(t d e:TE):TE:=λσ H Q=>t σ H λx H1=>d σ H1 λy a=>r x y a λz b=>∃k,z=.bl k /\(if k=a9 then e σ b λY c=>r' y Y c Q else Q (.bl bt) b)
theorem BB(D:C6 X (j2 op) r)(f:C6 X (j2 op') r')(w:PE X a ta)(A:PE X b tb)(B:PE X c tc)(C:lastMarks [op,op'] [b,c]=bt:=by with_unfolding_all rfl):PE X (.Compare a [op,op'] [b,c] pos) (Dk r r' ta tb tc):=by
 intro p s σ H Q I h;refine Compare_chain (v6 (w p s σ H _ I h) λv M ⟨x,H1,o,J,E⟩=>chain_link (v6 (A p M σ H1 _ o E) λu N ⟨y,m,q,l,F⟩ =>
  v6 (D p N σ m x y v u _ q J l F) λd O ⟨z,g,i,K,k,e,j⟩=>?_)) C
 subst e;cases K;refine Mx ?_;cases k with
 |false=>exact ite_ff ⟨.bl bt,g,i,rfl,j⟩
 |true=>exact ite_tt<|chain_last<|v6 (B p O σ g _ i j) λY P ⟨R,n,t,L,G⟩=>f p P σ n y R u Y Q t l L G
theorem oP:(sizeLine:Nat)<2 ^ 63:=by rw[LG];decide
theorem xg:C6 X (j1 .Add) (λx y H Q=>∃i j,x=.str i/\y=.str j/\i.length+j.length<=sizeLine/\Q (.str<|i++j) H):=by intro p s σ H x y v u Q I g r h;obtain⟨i,j,rfl,rfl,b,q⟩:=h;obtain⟨t,rfl⟩:=g;obtain⟨t',rfl⟩:=r;exact add_str (λt' k=>⟨.str<|i++j,H,I.tok _,⟨_,rfl⟩,q⟩) b
theorem AZ(r:ar [x] us):∃u,us=[u]/\aH x u:=by
 cases r with
 |cons a l=>cases l;exact⟨_,rfl,a⟩
theorem vals2(r:ar [x,y] us):∃u w',us=[u,w']/\aH x u/\aH y w':=by
 cases r with
 |cons a l =>
  cases l with
  |cons C L=>cases L;exact⟨_,_,rfl,a,C⟩
theorem AC(f:X.calm=a9):eH X (.builtin "max") (λxs H Q=>∃i j,xs=[.int i,.int j]/\Q (.int<|if j > i then j else i) H):=by
 intro p s σ H xs us Q I r h;obtain⟨i,j,rfl,q⟩:=h;obtain⟨u,Y,rfl,⟨t,rfl⟩,⟨t',rfl⟩⟩:=vals2 r;refine max_two_ints (I.ok.hd f) λh' a k=>⟨_,H,I.kept k,?_,q⟩
 by_cases L:j > i;rw[o5 L,o5 L];exact⟨_,rfl⟩;rw[o6 L,o6 L];exact⟨_,rfl⟩
end
structure ObjM(h:c8)(x dx C:c6)(mA:b9->Option b7):Prop where
 obj:h.get? x=a7 (PySem.W.instObj C dx)
 ns:h.Ns1 dx mA
 ne:dx≠x
structure Cls(K:t8)(C:c6):Prop where
 pg:PySem.W.plainGet K C Str.empty=a9
 hd:PySem.W.hasDictIn K C=a9
 po:PySem.W.plainOver K C=a9
 sa:Mt K (.ref C) "__setattr__" = a7 (a7<|.builtin "object.__setattr__")
structure Con(K:t8)(C:c6)(f:b9)(v:V)(u:b7):Prop where
 at_:Mt K (.ref C) f=a7 (a7 u)
 rel:aH v u
 get:PySem.W.specialIn K u "__get__" = a7 a8
 cp:PySem.W.copiedNames.contains f=bt
structure Meth(K:t8)(C:c6)(m:b9)(f:c6):Prop where
 at_:Mt K (.ref C) m=a7 (a7<|.ref f)
 fn:PySem.W.isFn K (.ref f)=a9
 kp:LL K (.ref f)=a9
section
variable{X:Cx}{pins:List (c6×c7)}{σ:St}{H:Hp}{s:d9}{A:d8}{E:b7->d9->Prop}{Q:b7->d9->Prop}{c:b7}{b:Bool}
inductive TyOf(K:t8)(H:Hp):V->b7->Prop where
 |non:TyOf K H .non (.type "NoneType")
 |bl (x:Bool):TyOf K H (.bl x) (.type "bool")
 |int (i:Int):TyOf K H (.int i) (.type "int")
 |str (x:b9):TyOf K H (.str x) (.type "str")
 |flt (x:UInt64):TyOf K H (.flt x) (.type "float")
 |lst {a:c6}{xs:List V} (e:H a=a7 (.lst xs)):TyOf K H (.ref a) (.type "list")
 |frz {a:c6}{o:c7}{xs:List V} (e:H a=a7 (.frz o (.lst xs))):TyOf K H (.ref a) (.type "list")
 |tup {a:c6}{xs:List V} (e:H a=a7 (.tup xs)):TyOf K H (.ref a) (.type "tuple")
 |dK {a:c6}{kvs:List (G0×V)} (e:H a=a7 (.dK kvs)):TyOf K H (.ref a) (.type "dict")
 |dT {a:c6}{kvs:List (List G0×V)} (e:H a=a7 (.dT kvs)):TyOf K H (.ref a) (.type "dict")
 |ins {a C dx:c6}{fs:List (b9×V)} (e:H a=a7 (.ins C dx fs)) (cl:Cls K C) (ha:Mt K (.ref C) "__class__" = a7 (a7 (.builtin "object.__class__")))
   (hn:PySem.W.specialIn K (.builtin "object.__class__") "__get__" = a7 (a7<|.builtin "getset_descriptor.__get__")) (htk:PySem.W.takesIn K (.builtin "object.__class__")=a7 a9)
   (hm:PySem.W.mroIn K C (.type "object")=a7 a9):TyOf K H (.ref a) (.ref C)
end
structure Room(k:Nat)(A:d8):Prop where
 hd:A.handled=a8
 dp:A.depth+3*k+5<recursionLimit
 un:A.units+16*k+200<j4
theorem Room.mono(r:Room k A)(h:j<=k):Room j A:=⟨r.hd,by have:=r.dp;lia,by have:=r.un;lia⟩
theorem Room.deeper(r:Room (k+1) A)(env:Env):Room k (A.deeper env):=⟨r.hd,by have:=r.dp;show A.depth+1+3*k+5<_;lia,by have:=r.un;show A.units+3+16*k+200<_;lia⟩
theorem Room.depth(r:Room k A):A.depth<recursionLimit:=by have:=r.dp;lia
def tNil:TA:=λ_ H Q=>Q [] H
def tCons(t:TE)(tr:TA):TA:=λσ H Q=>t σ H λx H1=>tr σ H1 λxs a=>Q (x::xs) a
section
variable{X:Cx}{e:f6}{es:List f6}{te:TE}{t:TA}{pos:f8}
theorem ze:PA X [] tNil:=λ_ _ _ _ H Q I h=>Calls.spliced_nil ⟨[],H,I,.nil,h⟩
theorem mq(f:PE X e te)(i:PA X es t)(hs:ge (e::es) X.env=(bt,eval e X.env)::ge es X.env:=by rfl):PA X (e::es) (tCons te t):=by intro a p s σ H Q I h;rw[hs];show e8 _ _ (spliced<|(bt,eval e X.env)::f9 a (ge es X.env)) _ _ s;refine PY<|v6 (f p s σ H _ I h) ?_;rintro u j ⟨x,H1,c,r,q⟩;refine v6 (i a p j σ H1 _ c q) ?_;rintro us n ⟨xs,b,d,l,g⟩;exact⟨x::xs,b,d,.cons r l,g⟩
def tTup(t:TA):TE:=λσ H Q=>t σ H λxs H1=>xs.length<=sizeLine/\∀p,H1 p=a8->Q (.ref p) (v8 H1 p<|.tup xs)
def tLst(t:TA):TE:=λσ H Q=>t σ H λxs H1=>xs.length<=sizeLine/\∀p,H1 p=a8->Q (.ref p) (v8 H1 p<|.lst xs)
theorem HF{x1}(h:PA X es t):PE X (.Tuple es x1 pos) (tTup t):=by intro p s σ H Q I d;refine wpAny_Tuple_spliced<|v6 (h pos p s σ H _ I d) λus c ⟨xs,H1,a,r,z,q⟩=>⟨by rw[<-r.length];exact z,?_⟩;have f:H1 c.heap.objs.size=a8:=a.hok.fresh<|u6 _;refine⟨.ref c.heap.objs.size,v8 H1 c.heap.objs.size<|.tup xs,a.laid (t':=c.toks) (λb u e=>w6 _ e) (u6 _) ?_,rfl,q _ f⟩;exact⟨z,us,r,⟨_,A9 _ rfl,rfl,⟨_,rfl⟩,rfl⟩⟩
theorem HM(h:PA X es t):PE X (.List es pos) (tLst t):=by intro p s σ H Q I d;refine wpAny_List_spliced<|v6 (h pos p s σ H _ I d) λus c ⟨xs,H1,a,r,z,q⟩=>⟨by rw[<-r.length];exact z,?_⟩;have f:H1 c.heap.objs.size=a8:=a.hok.fresh<|u6 _;refine⟨.ref c.heap.objs.size,v8 H1 c.heap.objs.size<|.lst xs,a.laid (t':=c.toks) (λb u e=>w6 _ e) (u6 _) ?_,rfl,q _ f⟩;exact⟨z,us,0,r,A9 _ rfl⟩
end
abbrev Sp:=List V->Hp->VK->XK->Prop
abbrev K9:=List Env->Hp->d9->XK->b7->d9->Prop
structure Env0(P:c5)(w:c3)(K:t8)(mg:b9->Option b7)(base:c8)(A:d8)(outer:List Env)(s:d9)(H:Hp):Prop where
 frames:A.frames=a7 outer
 mod:Mod K mg base
 bs:∀b o,base.get? b=a7 o->s.heap.get? b=a7 o/\H b=a8
 bsz:base.objs.size<=s.heap.objs.size
 funs:s.heap.FunFrames base outer
 frf:∀b∈frs outer,H b=a8
 hok:C7 P w H s.heap
 bare:e7 s.gens
inductive CE(outer:List Env)(P:c5)(w:c3)(H:Hp)(s:d9)(Q:VK)(u:b7)(s':d9):Prop
 |mk (v:_) (H':_) (f0:s'.os=s.os) (f1:e7 s'.gens) (f2:Un (frs outer) [] H H' s.heap s'.heap) (f3:C7 P w H' s'.heap) (f4:aH v u) (f5:Q v H')
def CR(CX:K9)(o:List Env)(P:c5)(w:c3)(H:Hp)(s:d9)(Q:VK)(E:XK)(r:Result)(s':d9):Prop:=match r with
 |.ok (.ret u)=>CE o P w H s Q u s'
 |.ok _=>False
 |.error e=>CX o H s E e s'
structure FnOk(P:c5)(w:c3)(K:t8)(mg:b9->Option b7)(base:c8)(CX:K9)(k:Nat)(f:c6)(fd:j5)(ps:List b9)(sp:Sp):Prop where
 len:∀vs H Q E,sp vs H Q E->vs.length=ps.length
 run:∀(A:d8) (outer:List Env) (s:d9) (H:Hp) (args:Args) (us:List b7) (vs:List V) (Q:VK) (E:XK),Room k A->Env0 P w K mg base A outer s H->BindsTo s fd args (ps.zip us)->ar vs us->sp vs H Q E ->j6 (f7 P w) A (.call (.ref f) args) (CR CX outer P w H s Q E) s
section
variable{X:Cx}{pins:List (c6×c7)}{σ:St}{H:Hp}{s s':d9}
theorem t4.env0(I:t4 X pins σ H s):Env0 X.prog X.w X.K X.mg X.base X.A X.stack s H:=⟨I.ok.frames,I.ok.mod,I.bs,J4 I.ok.bsz I.sz,I.stack,I.stkFree,I.hok,I.bare⟩
theorem t4.after(I:t4 X pins σ H s)(h:CE X.stack X.prog X.w H s Q u s'):EP X pins σ Q u s':=by obtain⟨v,H',c,e,n,K,r,q⟩:=h;obtain⟨a,g,d,t,o⟩:=s';obtain rfl:o=s.os:=c;exact⟨v,H',I.call (h':=a) (g':=g) (d':=d) (t':=t) (ch:=[]) n K e (λb z=>o7 z<|by simp),r,q⟩
end
def Hb(sp:Sp)(s:List V)(E:XK)(t:TA):TE:=λσ H Q=>t σ H λvs H1=>sp (vs++s) H1 Q E
def nU(K:t8)(d:j5)(ps:List b9)(ds:List b7):Prop:=∀(s:d9) (us:List b7),K.In s.heap->(us++ds).length=ps.length->BindsTo s d ⟨us,[]⟩ (ps.zip<|us++ds)
theorem nU.all{K:t8}{d:j5}{ps:List b9}(h:∀us:List b7,us.length=ps.length->bindArgs d ⟨us,[]⟩=pure (ps.zip us)):nU K d ps []:=λs us _ g=>by rw[KO]at g ⊢;exact .of_eq<|h us g
def wG(CX:K9)(X:Cx)(E:XK):Prop:=∀(p:List (c6×c7)) (σ:St) (H:Hp) (s:d9) (e:b7) (s':d9),t4 X p σ H s->CX X.stack H s E e s'->X.xe e s'
section
variable{X:Cx}{CX:K9}{k:Nat}{f C:c6}{fd:j5}{ps:List b9}{sp:Sp}{dvs:List V}{ds:List b7}{E:XK}{x m:b9}{p pos apos:f8}{e o:f6}{es:List f6}{ta:TE}{t:TA}
theorem Hj(F:FnOk X.prog X.w X.K X.mg X.base CX k f fd ps sp)(i:Room k X.A)(d:nU X.K fd ps ds)(b:ar dvs ds)(x:wG CX X E)(I:t4 X pins σ H s) (r:ar vs us) (h:sp (vs++dvs) H Q E):e8 (f7 X.prog X.w) X.A (call (.ref f) us) (EP X pins σ Q) X.xe s:=by
 have l:ar (vs++dvs) (us++ds):=r.append b;have g:(us++ds).length=ps.length:=by rw[<-l.length];exact F.len _ _ _ _ h
 refine wpAny_call<|LY (F.run X.A X.stack s H ⟨us,[]⟩ (us++ds) (vs++dvs) Q E i I.env0 (d s us I.kIn g) l h) λr s' q=>?_;cases r with
 |error e=>exact x pins σ H s e s' I q
 |ok a =>
  cases a with
  |ret u=>exact I.after q
  |next=>exact F7 q
  |brk=>exact F7 q
  |cont=>exact F7 q
theorem EJ(F:FnOk X.prog X.w X.K X.mg X.base CX k f fd ps sp)(o:Room k X.A)(S:Gl X x)(n:X.mg x=a7 (.ref f))(m:LL X.K (.ref f)=a9)(g:nU X.K fd ps ds)(i:ar dvs ds)(u:wG CX X E)(d:PA X (e::es) t) (b:(x==("__debug__":b9))=bt:=by decide) (j:ge (e::es) X.env=(bt,eval e X.env)::ge es X.env:=by rfl) (l:(f9 pos<|ge es X.env).any (·.1)=bt:=by rfl):PE X (.Call (.Name x p) (e::es) [] pos) (Hb sp dvs E t):=by intro a s σ H Q I h;refine M7<|jT I S n ?_ b;refine PU (h₀:=X.base) I.ok.mod.kin m (v6 (d pos a s σ H _ I h) λus v ⟨vs,H1,c,r,q⟩=>⟨c.kIn,?_⟩) j l;exact Hj F o g i u c r q
structure Mk(K:t8)(C f:c6):Prop where
 makes:PySem.W.makesIn K C=a9
 init:Mt K (.ref C) "__init__" = a7 (a7<|.ref f)
 fn:PySem.W.isFn K (.ref f)=a9
 kp:LL K (.ref C)=a9
end
section
variable{X:Cx}{CX:K9}{k:Nat}{f C:c6}{fd:j5}{ps ks:List b9}{sp:Sp}{E:XK}{x m:b9}{p pos apos kpos:f8}{e o:f6}{es:List f6}{kws:List j7}{te ta:TE}{t tk:TA}{nm:Option b9}
structure KBinds(K:t8)(fd:j5)(ps ks:List b9)(g:List b7->List b7->List b7)(gV:List V->List V->List V):Prop where
 to:∀(s:d9) (us ws:List b7),K.In s.heap->(g us ws).length=ps.length->BindsTo s fd ⟨us,ks.zip ws⟩ (ps.zip<|g us ws)
 rel:∀{vs:List V}{us:List b7}{zs:List V}{ws:List b7},ar vs us->ar zs ws->ar (gV vs zs) (g us ws)
variable{g:List b7->List b7->List b7}{gV:List V->List V->List V}
end
structure FnScope(N P:List b9)(sc:e6):Prop where
 kind:sc.kind=.function
 co:sc.isCoroutine=bt
 gen:sc.isGenerator=bt
 nd:N.Nodup
 pre:N.take P.length=P
 par:∀x∈P,sc.names.lookup x=a7 .local\/sc.names.lookup x=a7 .cell
 nofree:∀y∈sc.names,y.2≠.free
theorem tG{kindOf:b9->Option j8}{x:b9}:∀{binds:List (b9×b7)}{m:b9->Option b7},(∀v,(x,v)∉binds)->bindL kindOf binds m x=m x
 | [],_,_=>rfl
 |(n,v)::r,m,h=>by
  unfold bindL;rw[tG λw hw=>h w<|A8 _ hw];split;have:x≠n:=by rintro rfl;exact h v C9
  simp[this];rfl
theorem tI{kindOf:b9->Option j8}{x:b9}:∀{binds:List (b9×b7)}{m:b9->Option b7},(∀v,(x,v)∉binds)->bindC kindOf binds m x=m x
 | [],_,_=>rfl
 |(n,v)::r,m,h=>by
  unfold bindC;rw[tI λw hw=>h w<|A8 _ hw];split;rfl;have:x≠n:=by rintro rfl;exact h v C9
  simp[this]
theorem tH{kindOf:b9->Option j8}{x:b9}{v:b7}:∀{P:List b9}{vs:List b7}{i:Nat}{m:b9->Option b7},P.Nodup->P[i]?=a7 x->vs[i]?=a7 v->kindOf x=a7 .local ->bindL kindOf (P.zip vs) m x=a7 v
 | [],_,_,_,_,h,_,_=>by simp at h
 |_::_,[],_,_,_,_,h,_=>by simp at h
 |p::P,w::vs,0,m,nd,h1,h2,hk=>by simp at h1 h2;subst h1;subst h2;show bindL kindOf ((p,w)::P.zip vs) m p=_;unfold bindL;rw[tG λv hv=>(KC.mp nd).1 (O1 hv).1,o5 hk];simp
 |p::P,w::vs,i+1,m,nd,h1,h2,hk=>by show bindL kindOf ((p,w)::P.zip vs) m x=_;unfold bindL;exact tH (i:=i) (KC.mp nd).2 (by simpa using h1) (by simpa using h2) hk
theorem tJ{kindOf:b9->Option j8}{x:b9}{v:b7}:∀{P:List b9}{vs:List b7}{i:Nat}{m:b9->Option b7},P.Nodup->P[i]?=a7 x->vs[i]?=a7 v->kindOf x≠a7 .local ->bindC kindOf (P.zip vs) m x=a7 v
 | [],_,_,_,_,h,_,_=>by simp at h
 |_::_,[],_,_,_,_,h,_=>by simp at h
 |p::P,w::vs,0,m,nd,h1,h2,hk=>by simp at h1 h2;subst h1;subst h2;show bindC kindOf ((p,w)::P.zip vs) m p=_;unfold bindC;rw[tI λv hv=>(KC.mp nd).1 (O1 hv).1,o6 hk];simp
 |p::P,w::vs,i+1,m,nd,h1,h2,hk=>by show bindC kindOf ((p,w)::P.zip vs) m x=_;unfold bindC;exact tJ (i:=i) (KC.mp nd).2 (by simpa using h1) (by simpa using h2) hk
noncomputable def start(N:List b9)(vs:List V):St:=vs.map a7++Ob (N.length-vs.length) a8
noncomputable def qg(CX:K9)(P:c5)(w:c3)(K:t8)(mg:b9->Option b7)(base:c8)(N:List b9)(l:b9)(scope:e6)(f:c6)(d:b7)(A:d8)(outer:List Env)(s:d9)(H:Hp)(E:XK):Cx where
 prog:=P
 w:=w
 K:=K
 mg:=mg
 base:=base
 A:=A.deeper<|b8 l scope s.heap.objs.size f d
 N:=N
 s₀:=s
 H₀:=H
 env:=b8 l scope s.heap.objs.size f d
 outer:=outer
 stack:=b8 l scope s.heap.objs.size f d::outer
 ex:=[]
 calm:=a9
 fn:=λ_=>a9
 pn:=[]
 xe:=λe s'=>e8 (f7 P w) (A.deeper<|b8 l scope s.heap.objs.size f d) (leaving (b8 l scope s.heap.objs.size f d) e) (λ_ a=>CX outer H s E e a) (λb a=>CX outer H s E b a) s'
theorem wy{s:e6}{n:Nat}{x:b9}(h:s.names.lookup x=a7 .cell):∃c,(cellsFrom n s.names []).lookup x=a7 c:=by have q:=P9 s.names n []<|.inl h;exact Ow.mp q
theorem sQ{CX:K9}{P:c5}{w:c3}{K:t8}{mg:b9->Option b7}{base:c8}{N ps:List b9}{l:b9}{scope:e6}{f:c6}{t:b7}{A:d8}{o:List Env}{s D:d9}{H:Hp}{E:XK}{us:List b7}{vs:List V}(S:FnScope N ps scope) (G:A.handled=a8) (d:Env0 P w K mg base A o s H) (M:vs.length=ps.length) (r:ar vs us)(x:InCallC s s.heap.objs.size (bindL (b8 l scope s.heap.objs.size f t).kindOf (ps.zip us) λ_=>a8) (cellsFrom (s.heap.objs.size+1) scope.names []) (bindC (b8 l scope s.heap.objs.size f t).kindOf (ps.zip us) λ_=>a8) D):t4 (qg CX P w K mg base N l scope f t A o s H E) [] (start N vs) H D:=by
 have I:ps.length<=N.length:=by have:=p8 KB S.pre;rw[Kt]at this;lia
 obtain⟨h1,Q,rfl,B⟩:=x.done;have g:∀b:c6,b∉(qg CX P w K mg base N l scope f t A o s H E).ex:=λb z=>o7 (show b∈([]:List c6)from z) (by simp);refine⟨⟨d.mod,S.kind,rfl,rfl,u6 _,λy z c h1 h2=>?_,λy O=>?_,λy c _ h=>?_,λ_=>G,Around.frames_deeper d.frames,.inr ⟨rfl,rfl⟩,λb z=>o7 z<|g b,d.bs,d.bsz,λb _ _=>g b,λb z=>o7 z<|g b,d.funs,d.frf⟩,rfl,d.bare,Un.kept B,⟨_,x.toInCall.ns,λi y v h1 h2 L=>?_⟩,λy c h=>⟨_,x.cell y c h⟩,d.hok.fresh<|u6 _,λy c h=>?_,λp j=>o7 (show p∈([]:List (c6×c7))from j) (by simp),d.hok.kept B,?_⟩;exact name_of_addr x.apart (Md h1)<|Md h2;have O:scope.names.lookup y=a7 .cell\/scope.names.lookup y=a7 .free:=O;rcases O with O|O;exact wy O;exact o7 rfl<|S.nofree _<|Md O;exact LZ<|x.above y c<|Md h;have hi:i<vs.length:=by unfold start at h2;by_cases hi:i<vs.length;exact hi;rw[K0<|by simpa using hi]at h2;rw[Pp]at h2;split at h2<;>cases h2
 have F:vs[i]?=a7 v:=by
  unfold start at h2;rw[Ko (by simpa using hi),D5]at h2;cases e:vs[i]? with
  |none=>rw[e]at h2;cases h2
  |some a=>rw[e]at h2;cases h2;rfl
 obtain⟨u,C,J⟩:=r.get F;have j:ps[i]?=a7 y:=by rw[<-S.pre,Nb<|by lia];exact h1
 have m:ps.Nodup:=by rw[<-S.pre];exact S.nd.sublist<|Ol _ _
 refine⟨u,J,?_⟩;rcases S.par y (J1 j)with k|k;exact .inl ⟨k,tH m j C k⟩;obtain⟨c,e⟩:=wy (n:=s.heap.objs.size+1) k;refine .inr ⟨.inl k,c,e,?_⟩;have q:=x.cell y c e;rw[tJ m j C<|by show scope.names.lookup y≠_;rw[k];decide]at q;exact q;exact d.hok.fresh<|LZ<|x.above y c<|Md h;unfold start;show _=N.length;rw[A1,u8,Pl];lia
theorem JA{CX:K9}{P:c5}{w:c3}{K:t8}{mg:b9->Option b7}{base:c8}{k:Nat}{f:c6}{name l:b9}{p:Arguments}{a:List g7}{scope:e6}{T kV i U c R oc:b7}{M od:Option c6}{G:Array (Option b7)}{N ps:List b9}{sp:Sp} (lk:K.lookup f=a7 ⟨oc,od,.func<|Lv name l p a scope T kV i U M c R,G⟩) (C:Oa K c l=a9) (S:FnScope N ps scope)(B:∀vs H Q E,sp vs H Q E->vs.length=ps.length)(h:∀(A:d8) (outer:List Env) (s:d9) (H:Hp) (vs:List V) (Q:VK) (E:XK),Room k (A.deeper<|b8 l scope s.heap.objs.size f c)->sp vs H Q E -> ∃t,G9 (qg CX P w K mg base N l scope f c A outer s H E) a t/\t { nx:=λ_ H'=>Q .non H',rt:=Q } (start N vs) H):FnOk P w K mg base CX (k+1) f (Lv name l p a scope T kV i U M c R) ps sp:=by
 refine⟨B,λA outer s H O us vs Q E D j hb r z=>?_⟩;have hl:=B _ _ _ _ z;have X:K.In s.heap:=j.mod.kin.keeps λb o e=>(j.bs b o e).1;have F:s.heap.NoLimit:=j.mod.nolimit.keeps λb o e=>(j.bs b o e).1;have g:∀y∈ps.zip us,scope.names.lookup y.1=a7 .local\/(scope.names.lookup y.1=a7 .cell/\((cellsFrom (s.heap.objs.size+1) scope.names []).lookup y.1).isSome=a9):=λ⟨n,v⟩ hy=>by rcases S.par n (O1 hy).1 with q|q;exact .inl q;exact .inr ⟨q,P9 _ _ _<|.inl q⟩
 refine codeAny_call_function D.depth (X _ _ lk) rfl S.co S.gen rfl (PySem.W.codeRec_of X C)<|hb _ _ _ _ ?_;refine wpAny_newFunctionEnv_cells S.kind g λenv he Y x=>?_;subst he;refine⟨F.keeps x.toInCall.keep,codeAny_func ?_⟩;obtain⟨t,ht,hq⟩:=h A outer s H vs Q E (D.deeper _) z;have I:t4 (qg CX P w K mg base N l scope f c A outer s H E) [] (start N vs) H Y:=sQ S D.hd j hl r x;refine E1 (ht [] Y (start N vs) H _ I hq) (λZ s' hs=>?_) λe s' hs=>hs;have m:∀{d:St}{H':Hp}{v:V}{u:b7},t4 (qg CX P w K mg base N l scope f c A outer s H E) [] d H' s'->aH v u->Q v H'->CE outer P w H s Q u s':=λ{d H' v u} J L q=>⟨v,H',J.os,J.bare,J.base,J.hok,L,q⟩
 cases Z with
 |ret u=>obtain⟨v,d,H',J,L,q⟩:=hs;exact m J L q
 |next=>obtain⟨d,H',J,q⟩:=hs;exact m (v:=V.non) (u:=ABh) J rfl q
 |brk=>obtain⟨_,_,_,q⟩:=hs;exact F7 q
 |cont=>obtain⟨_,_,_,q⟩:=hs;exact F7 q
section
variable{X:Cx}{x:b9}{p pos:f8}{e:f6}{es:List f6}{t:TA}{id T:String}{r:List V->Hp->VK->Prop}
def PC(r:List V->Hp->VK->Prop)(t:TA):TE:=λσ H Q=>t σ H λvs H1=>r vs H1 Q
theorem pA(d:eH X (.builtin id) r)(S:Gl X x)(m:X.mg x=a8)(v:d7 x=a7 (.builtin id))(f:PA X (e::es) t)(n:x≠"__name__":=by decide)(b:(x==("__debug__":b9))=bt:=by decide)(i:ge (e::es) X.env=(bt,eval e X.env)::ge es X.env:=by rfl) (l:(f9 pos<|ge es X.env).any (·.1)=bt:=by rfl):PE X (.Call (.Name x p) (e::es) [] pos) (PC r t):=by intro a s σ H Q I h;refine M7<|mS I S m v ?_ n b;exact PyProof.Rows.callWith_builtin1 (v6 (f pos a s σ H _ I h) λus j ⟨vs,H1,c,g,q⟩=>d a j σ H1 vs us Q c g q) i l
theorem zb(d:eH X (.type T) r)(S:Gl X x)(m:X.mg x=a8)(v:d7 x=a7 (.type T))(f:PA X (e::es) t)(n:x≠"__name__":=by decide)(b:(x==("__debug__":b9))=bt:=by decide)(i:ge (e::es) X.env=(bt,eval e X.env)::ge es X.env:=by rfl) (l:(f9 pos<|ge es X.env).any (·.1)=bt:=by rfl):PE X (.Call (.Name x p) (e::es) [] pos) (PC r t):=by intro a s σ H Q I h;refine M7<|mS I S m v ?_ n b;exact Qk (v6 (f pos a s σ H _ I h) λus j ⟨vs,H1,c,g,q⟩=>d a j σ H1 vs us Q c g q) i l
end
end L2
namespace HT
open PySem PyProof.Rows
theorem rcLt_int(A:d8)(s:d9)(a:Int)(t:Tok)(c:Int)(u:Tok)(prog:c5)(w:c3)(E:b7->d9->Prop)(Q:b7->d9->Prop)(h:Q (.bool<|decide<|a<c) s):e8 (f7 prog w) A (richCompare .Lt (.int a t)<|.int c u) Q E s:=(PyProof.Rows.lt_int h:e8 (f7 prog w) A (j2 .Lt (.int a t)<|.int c u) Q E s)
section
variable{prog:c5}{w:c3}{A:d8}{E:b7->d9->Prop}{s:d9}
theorem cat_tup(D:IsTup s.heap t vs.toArray)(q:IsTup s.heap b ws.toArray)(v:vs≠[])(h1:ws=[]->Q (.ref t) s) (h2:ws≠[]->Q (.ref s.heap.objs.size) { s with heap:=s.heap.push { cls:=.type "tuple",data:=.seq (vs++ws).toArray } })(z:vs.length+ws.length<=sizeLine):e8 (f7 prog w) A (j1 .Add (.ref t)<|.ref b) Q E s:=by
 obtain⟨⟨cls,k,data,p⟩,B,l,n,m⟩:=id D;obtain⟨⟨j,d,i,f⟩,h,a,o,c⟩:=id q;simp only at l m a c;subst l m a c;have e:vs.toArray++ws.toArray=(vs++ws).toArray:=by simp
 by_cases g:ws=[]
 exact concat_meets ⟨_,B,rfl⟩ ⟨_,h,rfl⟩ noFill_tuple_add seq_tuple_add P8 Qe (Qh _ _) (tuple_addW1 t b vs.toArray ws.toArray n o k d p f (by simpa using v)<|by simp[g]) ⟨B,h,h1 g⟩;refine concat_meets ⟨_,B,rfl⟩ ⟨_,h,rfl⟩ noFill_tuple_add seq_tuple_add P8 Qe (Qh _ _) (tuple_addW2 t b vs.toArray ws.toArray n o k d p f (by simpa using v) (by simpa using g)<|by rw[A3,A3];exact z) ⟨B,h,?_⟩;rw[e];exact h2 g
noncomputable def sIx(n d:Nat):Option Int->Nat
 |none=>d
 |some v=>if v<0 then(v+(n:Int)).toNat else min v.toNat n
theorem sIx_none(n d:Nat):sIx n d a8=d:=rfl
theorem sIx_nat(n d k:Nat):sIx n d (a7 (k:Int))=min k n:=by show (if (k:Int)<0 then((k:Int)+(n:Int)).toNat else min (k:Int).toNat n)=min k n;rw[o6 (by lia),KG]
theorem Hh(n d:Nat)(h:d<=n)(o:Option Int):sIx n d o<=n:=by
 cases o with
 |none=>exact h
 |some v=>show (if v<0 then(v+(n:Int)).toNat else min v.toNat n)<=n;by_cases c:v<0;rw[o5 c];lia;rw[o6 c];exact Nat.min_le_right _ _
theorem Ax(v:Int)(n d:Nat):(if v<0 then max (v+(n:Int)) 0 else min v (n:Int))=((sIx n d (a7 v):Nat):Int):=by
 show (if v<0 then max (v+(n:Int)) 0 else min v (n:Int))=(((if v<0 then(v+(n:Int)).toNat else min v.toNat n):Nat):Int)
 by_cases c:v<0;simp only[o5 c];lia;simp only[o6 c];lia
theorem xT(lo hi:Option Int)(n:Nat):Qj lo hi 1 (n:Int)=(((sIx n 0 lo:Nat):Int),((sIx n n hi:Nat):Int)):=by
 have h1:¬((1:Int)<0):=by lia
 unfold Qj;simp only[h1,p6];refine Prod.ext ?_ ?_;cases lo with
 |none=>rfl
 |some v=>exact Ax v n 0
 cases hi with
 |none=>rfl
 |some v=>exact Ax v n n
theorem xf(i j:Nat):Pu (i:Int) (j:Int) 1=j-i:=by
 unfold Pu;have h1:(1:Int) > 0:=by lia
 simp only[h1,p7,Int.ediv_one];split<;>lia
theorem oH(p:j9 v o)(h:Q o s):e8 (f7 prog w) A (Builtin.Slice.slicePartIndex v) Q E s:=by
 cases p with
 |none=>exact slicePart_none h
 |int i t=>exact slicePart_int h
theorem fG{m:c6}{l u:b7}{lo hi:Option Int}{n:Nat}{Q:Int×Int×Nat->d9->Prop}(hs:s.heap.IsSliceOf m l u .none)(p:j9 l lo)(d:j9 u hi)(h:Q (((sIx n 0 lo:Nat):Int),1,sIx n n hi-sIx n 0 lo) s):e8 (f7 prog w) A (Qq (.ref m)<|pure (n:Int)) Q E s:=by obtain⟨o,b,c,a⟩:=id hs;unfold Qq Builtin.Slice.sliceFields;refine r9<|r9<|wpAny_field b a (x:=l) rfl<|r9<|wpAny_field b a (x:=u) rfl<|r9<|wpAny_field b a (x:=.none) rfl<|t6 ?_;refine r9<|slicePart_none ?_;show e8 _ _ (if ((1:Int)==0)=a9 then _ else _) _ _ s;rw[o6<|by decide];refine r9<|oH p<|r9<|oH d<|r9<|t6 ?_;show e8 _ _ (match Qj lo hi 1 (n:Int)with|(lo,hi)=>pure (lo,(1:Int),Pu lo hi 1)) _ _ s;rw[xT lo hi n];show e8 _ _ (pure (((sIx n 0 lo:Nat):Int),(1:Int),Pu ((sIx n 0 lo:Nat):Int) ((sIx n n hi:Nat):Int) 1)) _ _ s;rw[xf];exact t6 h
theorem Bw(xs:Array b7)(i k:Nat):((A7 k).filterMap λ(m:Nat)=>xs[((i:Int)+(m:Int)*1).toNat]?).toArray=((xs.toList.drop i).take k).toArray:=by
 have e:(λ(m:Nat)=>xs[((i:Int)+(m:Int)*1).toNat]?)=λm=>xs[i+m]?:=by
  funext m;have:((i:Int)+(m:Int)*1).toNat=i+m:=by lia
  rw[this]
 rw[e];have:=pick_run xs i k;rw[List.filterMap_map]at this;have l:((λx=>xs[x]?) ∘ λx=>i+x)=λm=>xs[i+m]?:=rfl;rw[l]at this;rw[this]
theorem getItem_tuple_cut{t l:c6}{i:Array b7}{v u:b7}{lo hi:Option Int}{Q:b7->d9->Prop}(D:IsTup s.heap t i)(hs:s.heap.IsSliceOf l v u .none)(p:j9 v lo)(j:j9 u hi)(f:¬(sIx i.size 0 lo=0/\sIx i.size i.size hi=i.size))(h:Q (.ref s.heap.objs.size) { s with heap:=s.heap.push { cls:=.type "tuple",data:=.seq ((i.toList.drop<|sIx i.size 0 lo).take<|sIx i.size i.size hi-sIx i.size 0 lo).toArray } })(z:i.size<=sizeLine):e8 (f7 prog w) A (k7 (.ref t)<|.ref l) Q E s:=by
 have e:sizeOk (.seq ((i.toList.drop<|sIx i.size 0 lo).take<|sIx i.size i.size hi-sIx i.size 0 lo).toArray):=by show ((i.toList.drop<|sIx i.size 0 lo).take<|sIx i.size i.size hi-sIx i.size 0 lo).toArray.size<=sizeLine;rw[A3,Kt,KD,D7];lia
 have L:sIx i.size i.size hi<=i.size:=Hh _ _ (u6 _) hi;obtain⟨g,b,c,d⟩:=id hs;have a:s.TypeIs (.ref l) "slice":=⟨g,b,c⟩
 unfold k7
 try with_reducible refine E4 ?_
 first|refine r9 (t6 ?_)|skip
 refine r9<|wpAny_sequenceKey D.typeIs (by decide) ?_;refine r9<|Lz (name:=t5 "__getitem__") D.typeIs NI<|Ks NI D.typeIs entry_tuple_getitem ?_<|args_tuple_getitem _ _;show e8 _ _ (Pv (.ref t) >>= _) _ _ s;refine r9<|tupleItemsOf_ D ?_;refine r9<|Mq a ?_;rw[o5<|by decide];refine r9<|fG hs p j ?_;have o:¬((((sIx i.size 0 lo:Nat):Int)==0&&(1:Int)==1&&(sIx i.size i.size hi-sIx i.size 0 lo)==i.size)=a9):=by intro q;rw[D6,D6]at q;have k:((sIx i.size 0 lo:Nat):Int)=0:=eq_of_beq q.1.1;have n:sIx i.size i.size hi-sIx i.size 0 lo=i.size:=eq_of_beq q.2;exact f ⟨by lia,by lia⟩
 show e8 _ _ (if (((sIx i.size 0 lo:Nat):Int)==0&&(1:Int)==1&&(sIx i.size i.size hi-sIx i.size 0 lo)==i.size)=a9 then _ else _) _ _ s;rw[o6 o,Bw]
 first
  |exact r9 (m:=Pt _) (J6 (t6 ⟨_,rfl,t6 h⟩) e)
  |exact r9 (m:=Pt _) (J6 (r9 (t6 (t6 ⟨_,rfl,t6 h⟩))) e)
  |exact r9 (r9 (m:=Pt _) (J6 (t6 (t6 ⟨_,rfl,t6 h⟩)) e))
  |exact r9 (r9 (m:=Pt _) (J6 (t6 ⟨_,rfl,t6 h⟩) e))
end
end HT
namespace L2
open PySem PySem.Spec PyProof.Rows
abbrev TO:=St->Hp->(Option Int->Hp->Prop)->Prop
def PO(X:Cx)(e:Option f6)(t:TO):Prop:=∀(p:List (c6×c7)) (s:d9) (σ:St) (H:Hp) (Q:Option Int->Hp->Prop),t4 X p σ H s->t σ H Q ->e8 (f7 X.prog X.w) X.A (evalPart e X.env) (λu s'=>∃o H',t4 X p σ H' s'/\j9 u o/\Q o H') X.xe s
def Eb:TO:=λ_ H Q=>Q a8 H
def tPart(t:TE):TO:=λσ H Q=>t σ H λx H1=>∃i,x=.int i/\Q (a7 i) H1
section
variable{X:Cx}{e:f6}{te:TE}{lo hi:Option f6}{tl th:TO}{pos p2:f8}
theorem ED:PO X a8 Eb:=by intro p s σ H Q I h;rw[evalPart_none];exact t6 ⟨a8,H,I,.none,h⟩
theorem EC(h:PE X e te):PO X (a7 e) (tPart te):=by intro p s σ H Q I w;rw[evalPart_some];refine v6 (h p s σ H _ I w) ?_;rintro u c ⟨x,H1,a,r,b⟩;obtain⟨i,rfl,q⟩:=b;obtain⟨t,rfl⟩:=r;exact⟨a7 i,H1,a,.int i t,q⟩
def NV(X:Cx)(r:V->Option Int->Option Int->Hp->VK->Prop):Prop:=∀(p:List (c6×c7)) (s:d9) (σ:St) (H:Hp) (x:V) (v a u:b7) (l hi:Option Int) (m:c6) (Q:VK),t4 X p σ H s->aH x v->s.heap.IsSliceOf m a u .none->j9 a l->j9 u hi->r x l hi H Q ->∃T id,typeLookup (.type T) "__getitem__" = pure (a7<|.builtin id)/\s.TypeIs v T/\e8 (f7 X.prog X.w) X.A (k7 v<|.ref m) (EP X p σ Q) X.xe s
def tSl(r:V->Option Int->Option Int->Hp->VK->Prop)(te:TE)(t h:TO):TE:=λσ H Q=>te σ H λx H1=>t σ H1 λl a=>h σ a λu b=>r x l u b Q
theorem By(y:NV X r)(n:PE X e te)(o:PO X lo tl)(z:PO X hi th):PE X (.Subscript e (.Slice lo hi a8 p2) pos) (tSl r te tl th):=by intro p s σ H Q I h;refine Subscript_<|v6 (n p s σ H _ I h) ?_;rintro v K ⟨x,H1,i,J,E⟩;refine wpAny_Slice<|v6 (o p K σ H1 _ i E) ?_;rintro c L ⟨l,g,j,B,F⟩;refine v6 (z p L σ g _ j F) ?_;rintro d a ⟨u,f,k,C,G⟩;rw[evalPart_none];refine t6 ?_;have t:t4 X p σ f { a with heap:=a.heap.push { cls:=.type "slice",data:=.fields #[c,d,.none] } }:=k.kept (t':=a.toks) λb M q=>w6 _ q;obtain⟨T,id,m,D,S⟩:=y p { a with heap:=a.heap.push { cls:=.type "slice",data:=.fields #[c,d,.none] } } σ f x v c d l u a.heap.objs.size Q t J (Heap.IsSliceOf.new ..) B C G;show e8 (f7 X.prog X.w) X.A (subscriptTail e (.Slice lo hi a8 p2) v<|.ref a.heap.objs.size) (EP X p σ Q) X.xe { a with heap:=a.heap.push { cls:=.type "slice",data:=.fields #[c,d,.none] } };exact tail_any (ops:=[.ref a.heap.objs.size,v]) D m S<|by with_unfolding_all rfl
noncomputable def DO(xs:List V)(lo hi:Option Int):List V:=(xs.drop<|HT.sIx xs.length 0 lo).take<|HT.sIx xs.length xs.length hi-HT.sIx xs.length 0 lo
theorem nk(xs:List V)(lo hi:Option Int):(DO xs lo hi).length<=xs.length:=by unfold DO;rw[Kt,KD];lia
def rSlT(K:t8):V->Option Int->Option Int->Hp->VK->Prop:=λx l hi H Q=>∃a xs,x=.ref a/\A6 K H a xs /\¬(HT.sIx xs.length 0 l=0/\HT.sIx xs.length xs.length hi=xs.length)/\∀p,H p=a8->Q (.ref p) (v8 H p<|.tup<|DO xs l hi)
theorem Hf:NV X (rSlT X.K):=by
 intro p s σ H x v f i l hi m Q I g hs d u h;obtain⟨a,xs,rfl,c,w,q⟩:=h;cases g;obtain⟨its,r,D,z⟩:=I.tuple c;have n:its.toArray.size=xs.length:=by rw[A3];exact r.length.symm
 refine⟨"tuple",_,NI.lookup,D.typeIs,?_⟩;refine HT.getItem_tuple_cut D hs d u (by rw[n];exact w) ?_ (by rw[n];exact z);rw[n];refine⟨.ref s.heap.objs.size,_,I.laid (t':=s.toks) (o:=.tup<|DO xs l hi) (λb e q=>w6 _ q) (u6 _) ?_,rfl,q _<|I.hok.fresh<|u6 _⟩;exact⟨J4 (nk xs l hi) z,_,(r.drop<|HT.sIx xs.length 0 l).take<|HT.sIx xs.length xs.length hi-HT.sIx xs.length 0 l,DQ.new _ _⟩
def rCatT(K:t8):R2:=λx y H Q=>∃a b xs ys,x=.ref a/\y=.ref b/\A6 K H a xs/\A6 K H b ys/\xs≠[]/\xs.length+ys.length<=sizeLine /\(ys=[]->Q (.ref a) H)/\(ys≠[]->∀p,H p=a8->Q (.ref p) (v8 H p<|.tup<|xs++ys))
theorem ar.nil_iff(r:ar xs us):us=[]↔xs=[]:=by
 cases r with
 |nil=>simp
 |cons _ _=>simp
theorem EQ:C6 X (j1 .Add) (rCatT X.K):=by intro p s σ H x y v u Q I n t h;obtain⟨a,b,xs,ys,rfl,rfl,f,d,e,c,k,m⟩:=h;cases n;cases t;obtain⟨its,r,g,_⟩:=I.tuple f;obtain⟨i,l,j,_⟩:=I.tuple d;refine HT.cat_tup g j (λz=>e<|r.nil_iff.mp z) (λz=>⟨.ref a,H,I,rfl,k<|l.nil_iff.mp z⟩) (λz=>?_) (by rw[<-r.length,<-l.length];exact c);refine⟨.ref s.heap.objs.size,_,I.laid (t':=s.toks) (o:=.tup<|xs++ys) (λb A q=>w6 _ q) (u6 _) ?_,rfl,m (λw=>z<|l.nil_iff.mpr w) _<|I.hok.fresh<|u6 _⟩;exact⟨by rw[A1];exact c,_,r.append l,DQ.new _ _⟩
end
noncomputable def Lq(n:Nat)(i:Int):Option Nat:=if 0<=i then(if i<n then a7 i.toNat else a8)else if -(n:Int)<=i then a7 (i+n).toNat else a8
noncomputable def atI{α:Type}(xs:List α)(i:Int):Option α:=(Lq xs.length i).bind λj=>xs[j]?
theorem zW(h:Lq n i=a7 j):seqIndex? i n=a7 j/\j<n/\-(n:Int)<=i/\i<n:=by unfold Lq at h;by_cases a:0<=i;rw[o5 a]at h;by_cases h1:i<n;rw[o5 h1]at h;have e:i.toNat=j:=B5 h;exact⟨by rw[seqIndex_of a h1,e],by lia,by lia,h1⟩;rw[o6 h1]at h;cases h;rw[o6 a]at h;by_cases h1:-(n:Int)<=i;rw[o5 h1]at h;have e:(i+n).toNat=j:=B5 h;exact⟨by rw[seqIndex_neg (by lia) h1,e],by lia,h1,by lia⟩;rw[o6 h1]at h;cases h
theorem uT{α:Type}{xs:List α}{i:Int}{v:α}(h:atI xs i=a7 v):∃j,seqIndex? i xs.length=a7 j/\xs[j]?=a7 v/\j<xs.length/\-(xs.length:Int)<=i/\i<xs.length:=by
 unfold atI at h;cases e:Lq xs.length i with
 |none=>rw[e]at h;cases h
 |some j=>rw[e]at h;obtain⟨h1,h2,a,d⟩:=zW e;exact⟨j,h1,h,h2,a,d⟩
theorem ap{α:Type}{xs:List α}{j:Nat}{v:α}(h:xs[j]?=a7 v):atI xs (j:Int)=a7 v:=by
 have L:j<xs.length:=(z6.mp h).1;have e:Lq xs.length (j:Int)=a7 j:=by unfold Lq;rw[o5 (by lia),o5<|by lia];simp
 unfold atI;rw[e];exact h
def uV(b:f6):Prop:=∀o i,subscripted b bt o i=operate [o,i] (k7 o i)
def K3(X:Cx)(r:R2):Prop:=∀(a e:f6) (p:List (c6×c7)) (s:d9) (σ:St) (H:Hp) (x y:V) (v u:b7) (Q:VK),t4 X p σ H s->aH x v->aH y u->r x y H Q ->subscripted e bt v u=operate [v,u] (k7 v u)->e8 (f7 X.prog X.w) X.A (subscriptTail a e v u) (EP X p σ Q) X.xe s
def H9(X:Cx)(id:String)(r:V->List V->Hp->VK->Prop):Prop:=∀(p:List (c6×c7)) (s:d9) (σ:St) (H:Hp) (x:V) (xs:List V) (v:b7) (us:List b7) (Q:VK),t4 X p σ H s->aH x v->ar xs us->r x xs H Q ->e8 (f7 X.prog X.w) X.A (call (.builtin id)<|v::us) (EP X p σ Q) X.xe s
section
variable{X:Cx}{a b:f6}{ta tb:TE}{pos:f8}
theorem K3.or(h:K3 X r)(h':K3 X r'):K3 X (λx y H Q=>r x y H Q\/r' x y H Q):=by intro a e p s σ H x y v u Q I g i q hs;rcases q with q|q;exact h a e p s σ H x y v u Q I g i q hs;exact h' a e p s σ H x y v u Q I g i q hs
theorem pe_ix(i:K3 X r)(f:PE X a ta)(e:PE X b tb)(hs:uV b):PE X (.Subscript a b pos) (NK r ta tb):=by intro p s σ H Q I h;exact Subscript_<|binT f e I h λv u n x y c d g j q=>i a b p n σ c x y v u Q d g j q<|hs _ _
def rIxL(K:t8):R2:=λx y H Q=>∃p xs i v,x=.ref p/\y=.int i/\G7 K H p xs/\atI xs i=a7 v/\Q v H
def rIxT(K:t8):R2:=λx y H Q=>∃p xs i v,x=.ref p/\y=.int i/\A6 K H p xs/\atI xs i=a7 v/\Q v H
def rIxS:R2:=λx y H Q=>∃z i c,x=.str z/\y=.int i/\z.length<=sizeLine/\atI z.cps.toList i=a7 c/\Q (.str ⟨#[c]⟩) H
theorem FK:K3 X (rIxL X.K):=by
 intro c e a s σ H x y v u Q I B C h hs;obtain⟨p,xs,i,z,rfl,rfl,A,m,q⟩:=h;cases B;obtain⟨t,rfl⟩:=C;obtain⟨its,r,l,F⟩:=I.list A;obtain⟨j,h1,h2,D,g,k⟩:=uT m;obtain⟨w,d,b⟩:=r.get h2;have o:=r.length;have E:=oP;have n:EP X a σ Q w s:=⟨z,H,I,b,q⟩
 by_cases f:0<=i;have L:i.toNat=j:=by rw[seqIndex_of f k]at h1;exact B5 h1
 exact item_listR l.isList f (by lia) (by rw[L];simpa using d) n hs;have L:(i+(its.toArray.size:Int)).toNat=j:=by rw[seqIndex_neg (by lia) g]at h1;rw[A3,<-o];exact B5 h1
 exact subscriptTail_builtinR (x:=w) l.isList.typeIs slot_list_getitem.lookup (wpAny_getItem_list_neg (Q:=λr s'=>r=w/\EP X a σ Q r s') l.isList (by lia) (by rw[A3]<;>lia) (by lia) (by rw[L];simpa using d) ⟨rfl,n⟩) hs
theorem Je:K3 X (rIxT X.K):=by
 intro c e a s σ H x y v u Q I m o h hs;obtain⟨p,xs,i,z,rfl,rfl,k,f,q⟩:=h;cases m;obtain⟨t,rfl⟩:=o;obtain⟨its,r,l,E⟩:=I.tuple k;obtain⟨j,h1,h2,A,B,C⟩:=uT f;obtain⟨w,d,b⟩:=r.get h2;have g:=r.length;have D:=oP;have n:EP X a σ Q w s:=⟨z,H,I,b,q⟩
 exact subscriptTail_builtinR (x:=w) l.typeIs slot_tuple_getitem.lookup (getItem_tuple (j:=j) (Q:=λr s'=>r=w/\EP X a σ Q r s') l (by lia) (by lia) (by rw[A3,<-g];exact h1) (by simpa using d) ⟨rfl,n⟩) hs
theorem Jf:K3 X rIxS:=by
 intro a e p s σ H x y v u Q I r m h hs;obtain⟨z,i,c,rfl,rfl,w,f,q⟩:=h;obtain⟨t,rfl⟩:=r;obtain⟨t',rfl⟩:=m;obtain⟨j,h1,h2,n,d,k⟩:=uT f;have g:z.cps.toList.length=z.length:=by simp[Str.length]
 rw[g]at h1 d k;have o:=oP;exact tail_any (ML s z t) slot_str_getitem.lookup (getItem_str (c:=c) (by have b:decide (i < -(2 ^ 63:Int))=bt:=dF_ (by lia);have l:decide (i ≥ 2 ^ 63)=bt:=dF_ (by lia);rw[b,l,Bool.or_false]) (by rw[h1];simpa using h2) ⟨.str ⟨#[c]⟩,H,I.tok _,⟨_,rfl⟩,q⟩) hs
def rIx(K:t8):R2:=λx y H Q=>rIxL K x y H Q\/rIxT K x y H Q\/rIxS x y H Q
theorem Jg:K3 X (rIx X.K):=FK.or<|Je.or Jf
theorem xt(its:List b7)(n j:Nat)(u:b7):KM (·.setIfInBounds j u) { cls:=.type "list",data:=.seq its.toArray n }={ cls:=.type "list",data:=.seq (its.set j u).toArray n }:=by simp[KM]
theorem t4.lst(I:t4 X pins σ H s)(h:H p=a7 (.lst xs)):∃(its:List b7) (n:Nat),ar xs its/\s.heap.get? p=a7 { cls:=.type "list",data:=.seq its.toArray n }/\xs.length<=sizeLine:=by obtain⟨z,its,n,r,e⟩:=I.hok p _ h;exact⟨its,n,r,e,z⟩
theorem t4.lstUpd{pins:List (c6×c7)}{σ:St}{H:Hp}{s:d9}{p:c6}{xs ys:List V}{its its':List b7}{n a:Nat}{f:c7->c7}(I:t4 X pins σ H s)(h:H p=a7 (.lst xs))(B:s.heap.get? p=a7 { cls:=.type "list",data:=.seq its.toArray n }) (c:f { cls:=.type "list",data:=.seq its.toArray n }={ cls:=.type "list",data:=.seq its'.toArray a }) (r:ar ys its') (hz:ys.length<=sizeLine) (t:Nat):t4 X pins σ (v8 H p<|.lst ys) { s with heap:=s.heap.update p f,toks:=t }:=by
 have e:(s.heap.update p f).get? p=a7 { cls:=.type "list",data:=.seq its'.toArray a }:=by rw[KI f B (by rw[c]<;>rfl),c]
 refine I.write (x:=p) (e:=p) (by rw[h];trivial) (.inl rfl) (λb u d q=>(NF _ _<|D2 d).trans q) ⟨_,e⟩ ?_;exact⟨hz,its',a,r,e⟩
def rSetL:V->V->V->Hp->(Hp->Prop)->Prop:=λo i v H Q=>∃p xs k j,o=.ref p/\i=.int k/\H p=a7 (.lst xs)/\Lq xs.length k=a7 j/\Q (v8 H p<|.lst<|xs.set j v)
theorem Bm:PSet X rSetL:=by
 intro a s σ H o i v C A u Q I w m x h;obtain⟨p,xs,k,j,rfl,rfl,l,L,q⟩:=h;cases w;obtain⟨t,rfl⟩:=m;obtain⟨its,n,r,B,z⟩:=I.lst l;obtain⟨h1,h2,e,f⟩:=zW L;have g:=r.length;have y:=oP;have c:t4 X a σ (v8 H p<|.lst<|xs.set j v) { s with heap:=s.heap.update p (KM (·.setIfInBounds j u)) }:=I.lstUpd l B (xt its n j u) (r.set x j) (by rw[Mu];exact z) s.toks;by_cases d:0<=k;have b:k.toNat=j:=by rw[seqIndex_of d f]at h1;exact B5 h1
 exact PySem.W.ki_setAt B d (by lia) (by rw[A3,<-g];exact f) (by rw[b];exact⟨_,c,q⟩);have b:(k+(its.toArray.size:Int)).toNat=j:=by rw[seqIndex_neg (by lia) e]at h1;rw[A3,<-g];exact B5 h1
 exact PySem.W.ki_setBack B (by lia) (by rw[A3,<-g];exact e) (by lia)<|by rw[b];exact⟨_,c,q⟩
theorem rT(lo hi:Option Int)(n:Nat):(k9 lo hi a8 n).1=((HT.sIx n 0 lo:Nat):Int)/\(k9 lo hi a8 n).2.1=((HT.sIx n n hi:Nat):Int)/\(k9 lo hi a8 n).2.2=1:=by
 refine⟨?_,?_,rfl⟩;cases lo with
 |none=>simp[k9,HT.sIx]
 |some i=>simp only[k9,HT.sIx,Option.getD_none,show (1:Int) > 0 by decide,p7];by_cases h:i<0;simp only[h,p7]<;>lia;simp only[h,p6]<;>lia
 cases hi with
 |none=>simp[k9,HT.sIx]
 |some i=>simp only[k9,HT.sIx,Option.getD_none,show (1:Int) > 0 by decide,p7];by_cases h:i<0;simp only[h,p7]<;>lia;simp only[h,p6]<;>lia
theorem pj(its:List b7)(lo hi:Option Int):slicePick its.toArray lo hi a8=((its.drop<|HT.sIx its.length 0 lo).take<|HT.sIx its.length its.length hi-HT.sIx its.length 0 lo).toArray:=by obtain⟨h1,h2,a⟩:=rT lo hi its.toArray.size;unfold slicePick;rw[h1,h2,a];simp only[sliceRange_one,pick_run,A3]<;>rfl
def rSlL(K:t8):V->Option Int->Option Int->Hp->VK->Prop:=λx l hi H Q=>∃a xs,x=.ref a/\G7 K H a xs/\∀p,H p=a8->Q (.ref p) (v8 H p<|.lst<|DO xs l hi)
theorem Ei:NV X (rSlL X.K):=by intro p s σ H x v f i l hi m Q I g hs d u h;obtain⟨a,xs,rfl,c,q⟩:=h;cases g;obtain⟨its,r,D,z⟩:=I.list c;have n:=r.length;refine⟨"list",_,slot_list_getitem.lookup,D.isList.typeIs,?_⟩;refine wpAny_getItem_list_slice D.isList hs d u .none (by simp) ?_ (by rw[A3]<;>lia);rw[pj,<-n];refine⟨.ref s.heap.objs.size,_,I.laid (t':=s.toks) (o:=.lst<|DO xs l hi) (λb e q=>w6 _ q) (u6 _) ?_,rfl,q _<|I.hok.fresh<|u6 _⟩;exact⟨J4 (nk xs l hi) z,_,0,(r.drop<|HT.sIx xs.length 0 l).take<|HT.sIx xs.length xs.length hi-HT.sIx xs.length 0 l,A9 _ rfl⟩
theorem tF:eH X (.builtin "len") (λxs H Q=>∃p ys,xs=[.ref p]/\(G7 X.K H p ys\/A6 X.K H p ys)/\Q (.int ys.length) H):=by intro b s σ H xs us Q I r h;obtain⟨p,ys,rfl,a,q⟩:=h;obtain⟨u,rfl,g⟩:=AZ r;cases g;have f:=oP;rcases a with a|a;obtain⟨its,r',l,z⟩:=I.list a;have n:=r'.length;exact Calls.call_len_list l.isList (by simp only[A3]<;>lia) ⟨.int ys.length,H,I.tok _,⟨s.toks+1,by rw[A3,n]⟩,q⟩;obtain⟨its,r',l,z⟩:=I.tuple a;have n:=r'.length;exact len_tuple l (by simp only[A3]<;>lia) ⟨.int ys.length,H,I.tok _,⟨s.toks+1,by rw[A3,n]⟩,q⟩
theorem tE:eH X (.builtin "len") (λxs H Q=>∃z,xs=[.str z]/\z.length<=sizeLine/\Q (.int z.length) H):=by intro p s σ H xs us Q I r h;obtain⟨z,rfl,b,q⟩:=h;obtain⟨u,rfl,t,rfl⟩:=AZ r;have f:=oP;exact len_str (by lia) ⟨.int z.length,H,I.tok _,⟨_,rfl⟩,q⟩
theorem eH.or(h:eH X f r)(h':eH X f r'):eH X f (λxs H Q=>r xs H Q\/r' xs H Q):=by intro p s σ H xs us Q I a q;rcases q with q|q;exact h p s σ H xs us Q I a q;exact h' p s σ H xs us Q I a q
theorem tD:eH X (.type "list") (λxs H Q=>∃p ys,xs=[.ref p]/\(G7 X.K H p ys\/A6 X.K H p ys)/\∀l,H l=a8->Q (.ref l) (v8 H l<|.lst ys)):=by
 intro d s σ H xs us Q I r h;obtain⟨p,ys,rfl,c,q⟩:=h;obtain⟨u,rfl,x⟩:=AZ r;cases x;have f:∀(its:List b7),ar ys its->ys.length<=sizeLine->∀(h':c8) (U:Nat),(∀b o',s.heap.get? b=a7 o'->h'.get? b=a7 o') -> h'.get? s.heap.objs.size=a7 { cls:=.type "list",dict:=a8,data:=.seq its.toArray U,slots:=#[] }->EP X d σ Q (.ref s.heap.objs.size) { s with heap:=h' }:=λits r' z h' U k e =>
  ⟨.ref s.heap.objs.size,_,I.laid (t':=s.toks) k (u6 _)<|show cj X.prog X.w _ h' _ (.lst ys)from⟨z,its,U,r',e⟩,rfl,q _<|I.hok.fresh<|u6 _⟩
 rcases c with c|c;obtain⟨its,r',j,z⟩:=I.list c;have a:=r'.length;obtain⟨o,B,g,n,i⟩:=j.isList;exact call_list_seq p (.inl rfl) B g i (λh' U k e=>f its r' z h' U k e) (by simp only[A3]<;>lia);obtain⟨its,r',j,z⟩:=I.tuple c;have a:=r'.length;obtain⟨o,B,g,n,i⟩:=j;exact call_list_seq p (.inr rfl) B g i (λh' U k e=>f its r' z h' U k e)<|by simp only[A3]<;>lia
theorem qh:eH X (.type "tuple") (λxs H Q=>∃p ys,xs=[.ref p]/\((G7 X.K H p ys/\∀l,H l=a8->Q (.ref l) (v8 H l<|.tup ys))\/(A6 X.K H p ys/\Q (.ref p) H))):=by
 intro a s σ H xs us Q I r h;obtain⟨p,ys,rfl,h⟩:=h;obtain⟨u,rfl,x⟩:=AZ r;cases x;rcases h with⟨c,q⟩|⟨c,q⟩
 obtain⟨its,r',d,z⟩:=I.list c;have n:=r'.length;refine call_tuple_list d.isList (λh' k=>?_) (by simp only[A3]<;>lia);have f:t4 X a σ H { s with heap:=h' }:=I.kept (t':=s.toks) k;have g:t4 X a σ (v8 H h'.objs.size<|.tup ys) { s with heap:=h'.push { cls:=.type "tuple",data:=.seq its.toArray } }:=f.laid (t':=s.toks) (λb o e=>w6 _ e) (u6 _)<|show cj X.prog X.w _ _ _ (.tup ys)from⟨z,its,r',DQ.new _ _⟩;exact⟨.ref h'.objs.size,_,g,rfl,q _<|f.hok.fresh<|u6 _⟩;obtain⟨its,r',d,z⟩:=I.tuple c;exact call_tuple_same d ⟨.ref p,H,I,rfl,q⟩
def PB(K:t8)(T:String)(x:V)(H:Hp):Prop:=match x with
 |.str _=>T = "str"
 |.int _=>T = "int"
 |.ref p=>(T = "list"/\∃xs,G7 K H p xs)\/(T = "tuple"/\∃o,K.lookup p=a7 o/\o.cls=.type "tuple"/\o.dict=a8) \/(T = "dict"/\((∃s,H p=a7 (.dK s))\/∃s,H p=a7 (.dT s)))\/(T = "set"/\∃S n,H p=a7 (.set S n))
 |_=>False
theorem Df(I:t4 X pins σ H s)(r:aH x v)(y:PB X.K T x H):s.TypeIs v T/\∀a,v=.ref a->∃ob,s.heap.get? a=a7 ob/\ob.dict=a8:=by
 cases x with
 |str z=>obtain⟨t,rfl⟩:=r;cases (show T = "str" from y);exact⟨ML s z t,λ_ e=>nomatch e⟩
 |int i=>obtain⟨t,rfl⟩:=r;cases (show T = "int" from y);exact⟨typeIs_int s i t,λ_ e=>nomatch e⟩
 |ref p =>
  cases r;rcases y with⟨rfl,xs,q⟩|⟨rfl,o,k,h,d⟩|⟨rfl,k⟩|⟨rfl,S,n,k⟩
  obtain⟨its,_,g,_⟩:=I.list q;refine⟨g.isList.typeIs,λa e=>?_⟩;cases e;obtain⟨o,n,e,c,d,_⟩:=g;exact⟨o,e,d⟩;refine⟨⟨o,I.kIn p o k,h⟩,λa e=>?_⟩;cases e;exact⟨o,I.kIn _ o k,d⟩;have z:∃o,s.heap.get? p=a7 o/\o.ExactDict:=by
   rcases k with⟨f,k⟩|⟨f,k⟩
   obtain⟨_,_,_,_,o,_,_,e,b,_⟩:=I.hok p _ k;exact⟨o,e,b⟩;obtain⟨_,_,_,_,o,_,_,e,b,_⟩:=I.hok p _ k;exact⟨o,e,b⟩
  obtain⟨o,e,b⟩:=z;refine⟨⟨o,e,b.1⟩,λa l=>?_⟩;cases l;exact⟨o,e,b.2.1⟩;obtain⟨o,_,_,_,e,b,_⟩:=I.hok p _ k;refine⟨⟨o,e,b.1⟩,λa l=>?_⟩;cases l;exact⟨o,e,b.2.1⟩
 |_=>exact F7 y
def tBM0(K:t8)(T:String)(r:V->List V->Hp->VK->Prop)(d:TE):TE:=λσ H Q=>d σ H λx H1=>PB K T x H1/\r x [] H1 Q
def tBM(K:t8)(T:String)(r:V->List V->Hp->VK->Prop)(d:TE)(t:TA):TE:=λσ H Q=>d σ H λx H1=>PB K T x H1/\t σ H1 λxs a=>r x xs a Q
variable{o e:f6}{es:List f6}{to:TE}{t:TA}{name:b9}{apos cpos:f8}{T id:String}{r:V->List V->Hp->VK->Prop}
theorem HP(f:PlainAttrs T)(slot:Slot T name id)(y:l7 (.builtin id)=pure (.type "method_descriptor"))(d:H9 X id r)(B:PE X o to)(e:l8 o name X.env (eval o X.env)=eval o X.env:=by rfl) (a:(apos.endLine==cpos.line)=a9:=by rfl):PE X (.Call (.Attribute o name apos) [] [] cpos) (tBM0 X.K T r to):=by intro p s σ H Q I h;refine wpAny_Call_method0_late e a<|v6 (B p s σ H _ I h) ?_;rintro v g ⟨x,H1,b,c,t,q⟩;obtain⟨h1,h2⟩:=Df b c t;exact⟨T,id,f,slot,y,h1,h2,NE rfl<|PySem.evalArgs_none<|d p g σ H1 x [] v [] Q b c .nil q⟩
theorem HQ(l:PlainAttrs T)(slot:Slot T name id)(y:l7 (.builtin id)=pure (.type "method_descriptor"))(k:H9 X id r)(B:PE X o to)(j:PA X (e::es) t)(b:l8 o name X.env (eval o X.env)=eval o X.env:=by rfl)(w:((f9 cpos<|ge (e::es) X.env).all (λx=>!x.1)&&(m3 cpos<|m5 [] X.env).all (λx=>x.1.isSome) && decide ((e::es).length+([]:List j7).length+(if ([]:List j7).isEmpty then 0 else 1)<30))=a9:=by rfl)(c:(apos.endLine==cpos.line)=a9:=by rfl) (hs:ge (e::es) X.env=(bt,eval e X.env)::ge es X.env:=by rfl) (n:(f9 cpos<|ge es X.env).any (·.1)=bt:=by rfl):PE X (.Call (.Attribute o name apos) (e::es) [] cpos) (tBM X.K T r to t):=by intro p s σ H Q I h;refine Pn b w c rfl<|v6 (B p s σ H _ I h) ?_;rintro v C ⟨x,H1,d,f,E,q⟩;obtain⟨h1,h2⟩:=Df d f E;refine⟨T,id,l,slot,y,h1,h2,?_⟩;have A:=j cpos p C σ H1 _ d q;rw[hs]at A ⊢;refine NE (by show (bt||(f9 cpos<|ge es X.env).any (·.1))=bt;rw[n]<;>rfl)<|Os ?_;refine v6 A ?_;rintro us D ⟨vs,g,i,z,u⟩;exact k p D σ g x vs v us Q i f z u
/- xs.append(e),list.index on a module's tuple .. are H9 facts of 06m -/
end
def PL(X:Cx)(id:String)(r:V->List V->Hp->VK->Prop):Prop:=∀(p:List (c6×c7)) (s:d9) (σ:St) (H:Hp) (x:V) (xs:List V) (v:b7) (us:List b7) (Q:VK),t4 X p σ H s->aH x v->ar xs us->r x xs H Q ->e8 (f7 X.prog X.w) X.A (call (.builtin id)<|v::us) (EP X p σ Q) X.xe s
theorem ar.one(h:ar [x] us):∃u,us=[u]/\aH x u:=by
 cases h with
 |cons r t=>cases t;exact⟨_,rfl,r⟩
theorem ar.two(h:ar [x,y] us):∃u v,us=[u,v]/\aH x u/\aH y v:=by
 cases h with
 |cons r t=>obtain⟨v,e,q⟩:=ar.one t;subst e;exact⟨_,v,rfl,r,q⟩
theorem ar.zero:∀{us:List b7},ar [] us->us=[]
 |_,.nil=>rfl
theorem ar.dropLast(h:ar xs us):ar xs.dropLast us.dropLast:=by
 induction h with
 |nil=>exact .nil
 |cons r t i =>
  cases t with
  |nil=>exact .nil
  |cons q t'=>exact .cons r i
theorem xJ{α:Type}(l:List α):l.eraseIdx (l.length-1)=l.dropLast:=by
 induction l with
 |nil=>rfl
 |cons a r i =>
  cases r with
  |nil=>rfl
  |cons b r =>
   have e:(a::b::r).length-1=((b::r).length-1)+1:=by have h1:(a::b::r).length=r.length+2:=rfl;have h2:(b::r).length=r.length+1:=rfl;lia
   rw[e,List.eraseIdx_cons_succ,i]
   all_goals rfl
section
variable{X:Cx}{pins:List (c6×c7)}{σ:St}{H:Hp}{s:d9}{l b:c6}{xs ys zs:List V}
theorem t4.lset{its its':List b7}{n:Nat}{f:Array b7->Array b7}{t':Nat}(I:t4 X pins σ H s)(h:H l=a7 (.lst xs))(e:s.heap.get? l=a7 { cls:=.type "list",data:=.seq its.toArray n }) (a:f its.toArray=its'.toArray) (c:ar ys its') (hz:ys.length<=sizeLine):t4 X pins σ (v8 H l<|.lst ys) { s with heap:=s.heap.update l<|KM f,toks:=t' }:=by have q:=PySem.IsL.update e f;rw[a]at q;refine I.write (x:=l) (e:=l) (by rw[h];exact trivial) (.inl rfl) (λb u d g=>(NF s.heap (KM f)<|D2 d).trans g) ⟨_,q⟩ ?_;exact⟨hz,its',_,c,q⟩
theorem t4.lnew(I:t4 X pins σ H s)(c:ar ys its)(hz:ys.length<=sizeLine):t4 X pins σ (v8 H s.heap.objs.size<|.lst ys) { s with heap:=s.heap.push { cls:=.type "list",data:=.seq its.toArray },toks:=t' }:=I.laid (λ_ _ q=>w6 _ q) (u6 _) ⟨hz,its,0,c,A9 _ rfl⟩
theorem t4.fresh(I:t4 X pins σ H s):H s.heap.objs.size=a8:=I.hok.fresh<|u6 _
theorem t4.lstM(I:t4 X pins σ H s)(h:H l=a7 (.lst xs)):xs.length<=sizeLine/\∃(its:List b7) (n:Nat),ar xs its/\xs.length=its.length/\s.heap.get? l=a7 { cls:=.type "list",data:=.seq its.toArray n }:=by obtain⟨z,its,n,r,e⟩:=I.hok l _ h;exact⟨z,its,n,r,r.length,e⟩
theorem BK(h:n<=sizeLine):Qg n=bt:=by unfold Qg;exact dF_<|by lia
end
section
variable{X:Cx}
def Eo:V->List V->Hp->VK->Prop:=λx vs H Q=>∃l xs y,x=.ref l/\vs=[y]/\H l=a7 (.lst xs)/\xs.length<sizeLine/\Q .non (v8 H l<|.lst<|xs++[y])
theorem zv:PL X "list.append" Eo:=by intro p s σ H x vs v us Q I g d h;obtain⟨l,xs,y,rfl,rfl,a,c,q⟩:=h;cases g;obtain⟨u,rfl,R⟩:=d.one;obtain⟨z,its,n,r,b,e⟩:=I.lstM a;refine m6 F.slot_list_append ⟨_,e,rfl⟩ F.entry_list_append (F.args_list_append_2 _ _) (PySem.list_append l its.toArray n u<|by rw[A3];lia) ⟨e,?_⟩;refine⟨.non,_,I.lset (its':=its++[u]) a e (by simp) (r.append<|.cons R .nil) ?_,rfl,q⟩;rw[A1,F8];lia
def En:V->List V->Hp->VK->Prop:=λx vs H Q=>∃l b xs s,x=.ref l/\vs=[.ref b]/\H l=a7 (.lst xs)/\H b=a7 (.lst s)/\xs.length+s.length<=sizeLine/\Q .non (v8 H l<|.lst<|xs++s)
theorem zu:PL X "list.extend" En:=by
 intro p s σ H x vs v us Q I m k h;obtain⟨l,b,xs,A,rfl,rfl,c,B,w,q⟩:=h;cases m;obtain⟨u,rfl,R⟩:=k.one;cases R;obtain⟨z,its,n,r,t,e⟩:=I.lstM c;obtain⟨y,i,o,j,f,d⟩:=I.lstM B;have a:its.toArray.size+i.toArray.size<=sizeLine:=by rw[A3,A3];lia
 have g:¬(!its.toArray.isEmpty&&Qg (its.toArray.size+i.toArray.size))=a9:=by rw[BK a,OT];exact LP
 refine m6 F.slot_list_extend ⟨_,e,rfl⟩ F.entry_list_extend (F.args_list_extend_2 _ _) (AutoSeq1.list_extend_list_list_0 l its.toArray n b i.toArray o g (by rw[A3];lia)<|by lia) ⟨e,d,?_⟩;refine⟨.non,_,I.lset (its':=its++i) c e (by simp) (r.append j) ?_,rfl,q⟩;rw[A1];lia
def rPop:V->List V->Hp->VK->Prop:=λx vs H Q=>∃l xs y,x=.ref l/\vs=[]/\H l=a7 (.lst xs)/\xs[xs.length-1]?=a7 y/\Q y (v8 H l<|.lst xs.dropLast)
theorem Ir:PL X "list.pop" rPop:=by
 intro p s σ H x vs v us Q I i f h;obtain⟨l,xs,y,rfl,rfl,c,O,q⟩:=h;cases i;have a:=f.zero;subst a;obtain⟨z,its,n,r,g,e⟩:=I.lstM c;obtain⟨u,d,R⟩:=r.get O;have b:its.toArray[its.toArray.size-1]?=a7 u:=by show its.toArray[its.length-1]?=a7 u;rw[<-G6,<-g];exact d
 refine m6 F.slot_list_pop ⟨_,e,rfl⟩ F.entry_list_pop (F.args_list_pop_1 _) (MeetsSeq.list_pop_last l its.toArray n u b<|by rw[A3];lia) ⟨e,?_⟩;refine⟨y,_,I.lset (its':=its.dropLast) c e ?_ r.dropLast ?_,R,q⟩;show its.toArray.eraseIdxIfInBounds (its.toArray.size-1)=its.dropLast.toArray;rw[A3,List.eraseIdxIfInBounds_toArray,xJ];rw[List.length_dropLast];lia
def rCat:R2:=λx y H Q=>∃l b xs s,x=.ref l/\y=.ref b/\H l=a7 (.lst xs)/\H b=a7 (.lst s)/\xs.length+s.length<=sizeLine/\∀p,H p=a8->Q (.ref p) (v8 H p<|.lst<|xs++s)
theorem Ic:C6 X (j1 .Add) rCat:=by
 intro p s σ H x y v u Q I j k h;obtain⟨l,b,xs,A,rfl,rfl,d,B,o,q⟩:=h;cases j;cases k;obtain⟨z,its,n,r,m,e⟩:=I.lstM d;obtain⟨w,i,t,g,f,a⟩:=I.lstM B;refine PySem.P.add_list e a ?_ (by rw[A3,A3];lia);have c:its.toArray++i.toArray=(its++i).toArray:=by simp
 rw[c];exact⟨.ref _,_,I.lnew (t':=s.toks) (r.append g) (by rw[A1];lia),rfl,q _ I.fresh⟩
end
end L2
namespace Att
open PySem PySem.W PySem.Calls PyProof.Rows
theorem mW:∀(ns:List Int) (vs:List b7),WellAll P h vs (ns.map WData.int)->IntsAre vs ns:=by
 intro ns;induction ns with
 |nil=>intro vs w;rw[List.map_nil]at w;cases w;exact .nil
 |cons n ns i =>
  intro vs w;rw[B8]at w;cases w with
  |cons a b=>cases a;exact .cons _ _<|i _ b
theorem yS{l:OpenLaw}{n:Nat}(o:l.most=a7 n){P:Params}{h:c8}{args:List WData}{s:List b7}(e:l.row.toRowW.claim.pre args=a9) (i:WellAll P h s args):∃a vs ns,s=[ABF a]/\args=[WData.list<|ns.map WData.int]/\h.get? a=a7 { cls:=.type "list",data:=.seq vs.toArray }/\IntsAre vs ns/\ns.length<=n:=by
 have g:WShape.hasAll [] args [.list .int]=a9:=(pre_splitW e).1;have j:l.pre.holds [] { args:=args }=a9:=(pre_splitW e).2;obtain⟨d,r,rfl,h1,h2⟩:=hasAllW_cons g;obtain rfl:=hasAllW_nil h2;obtain⟨xs,rfl,m⟩:=hasW_list h1;obtain⟨ns,rfl⟩:=items_int m;have c:ns.length<=n:=by
  unfold OpenLaw.pre at j;have f:(WTm.not<|.lt (.lit<|.int (n:Int))<|.len<|.arg 0).holds [] { args:=[.list<|ns.map .int] }=a9:=by have f:=(holds_andW j).1;rw[o]at f;exact f
  have k:=condW_of f<|w_not<|w_lt w_lit<|w_len_list<|w_arg rfl;rw[u8]at k;refine Nat.le_of_not_lt λq=>?_;have p:(n:Int)<((ns.length:Nat):Int):=by lia
  first
   |(rw[dT_ p]at k;exact o7 k (by decide))
   |(simp at k;lia)
 cases i with
 |cons K w =>
  cases w;cases K with
  |list B b=>exact⟨_,_,ns,rfl,rfl,B,mW ns _ b,c⟩
theorem yX(l:OpenLaw)(args:List WData):l.row.toRowW.claim.post args (.bool a9) args=a9:=postW_of (r:=l.row.toRowW) (X:=(a9==a9))
  (show WShape.has [] (.bool a9) .bool=a9 by first|rfl|decide|simp[WShape.has,WShape.arms,WShape.armsAll])
  (show (WTm.eq .res<|.lit<|.bool a9).value [] { args:=args,res:=a7<|.bool a9,after:=args }=a7 (.bool<|a9==a9)from w_eq_bool (w_res rfl) w_lit) rfl
theorem attach_call{l:OpenLaw}{n:Nat}{q:c5}{e:List b9}{P:(b9->Option b7)->c8->Prop}{YP:c3->c8->Prop}{d:DefRec}(A:l.most=a7 n) (i:d.params.defaults=[])(c:∀(w:c3) (s₀ s₁:d9) (mg mb:b9->Option b7) (fa:c6) (o:c7) (pm cd doc:b7) (a:c6) (vs:List b7) (ns:List Int),Ground q e [] P w s₀ mg mb s₁.heap->YP w s₁.heap -> s₁.heap.get? fa=a7 o->o.data=.func (docDef d.name d.params d.body d.scope pm cd doc)->s₁.heap.CodeRec cd d.name->mg d.name=a7 (.ref fa) ->s₁.heap.get? a=a7 { cls:=.type "list",data:=.seq vs.toArray }->IntsAre vs ns->ns.length<=n->s₁.gens = #[] ->j6 (f7 l.prog w) callerA (.call (.ref fa) ⟨[.ref a],[]⟩) (λr s'=>r=.ok (.ret<|.bool a9)/\OldK s₁.heap s'.heap/\s'.os=s₁.os/\e7 s'.gens) s₁):WalkO q e P YP l.row.toRowW d [] (λf vs=>PySem.call f vs):=by intro w s₀ s₁ mg mb G Y fa o pm cd doc T kV B u g D k S O v F b y E m x;obtain rfl:T=.none:=Dflts.none D i;obtain rfl:kV=.none:=Dflts.noKw D;obtain⟨a,vs,ns,rfl,rfl,j,s,h⟩:=yS A b m;refine enter_call<|LY (c w s₀ s₁ mg mb fa o pm cd doc a vs ns G Y B (fd_plain u) g k j s h S) λr s' C=>?_;obtain⟨rfl,h2,p,t⟩:=C;exact⟨.inl ⟨.bool a9,.bool a9,[],rfl,λ_=>rfl,.bool a9,yX l _,λ_=>⟨Pb,λ_ z=>(nomatch z)⟩⟩,h2,p,t⟩
section
variable{prog:c5}{w:c3}{A:d8}{E:b7->d9->Prop}{s:d9}{K:Frag}
noncomputable def vU(h:c8):c8:={ h with objs:=#[] }
theorem jO(h:c8)(b:c6):(vU h).get? b=a8:=by
 cases e:(vU h).get? b with
 |none=>rfl
 |some o=>exact o7 (x3 e)<|LN _
noncomputable def ledger(h:c8)(L d:c6):List (c6×c7):=(A7 h.objs.size).filterMap λa=>if a=L\/a=d then a8 else(h.get? a).map λo=>(a,o)
theorem mem_ledger:(a,o)∈ledger h L d↔a≠L/\a≠d/\h.get? a=a7 o:=by unfold ledger;rw[M8];constructor;rintro⟨b,_,e⟩;split at e;cases e;rename_i c;obtain⟨o',B,f⟩:=ND.mp e;cases f;exact⟨λq=>c<|.inl q,λq=>c<|.inr q,B⟩;rintro⟨n1,n2,B⟩;refine⟨a,J0.mpr<|x3 B,?_⟩;rw[o6<|show ¬(a=L\/a=d)from λq=>q.elim n1 n2,B]<;>rfl
theorem news_ledger(b:d≠L)(B:h.get? d=a7 od):News (vU h) L h ([]++(d,od)::ledger h L d):=by rintro⟨a,o⟩ p;rcases A0.mp p with e|p;cases e;exact⟨B,b,jO _ _⟩;obtain⟨n,c,e⟩:=mem_ledger.mp p;exact⟨e,n,jO _ _⟩
theorem fr_all(n:h.Ns L m):Fr (vU h) L h m:=⟨n,λb o e=>(by rw[jO]at e;cases e),z5 _⟩
end
end Att
namespace L2
open PySem PySem.Spec PyProof.Rows
theorem qG:∀{vs:List b7}{ns:List Int},IntsAre vs ns->ar (ns.map V.int) vs
 |_,_,.nil=>.nil
 |_,_,.cons n t h=>.cons ⟨t,rfl⟩<|qG h
def Only(H:Hp):Prop:=∀b,H b=a8\/∃o xs,H b=a7 (.frz o<|.lst xs)
theorem Ca{P:c5}{w:c3}{K:t8}{mg mb:b9->Option b7}{CX:K9}{k:Nat}{I a:c6}{R:j5}{x:b9}{sp:Sp}{s₁:d9}{vs:List b7}{ns:List Int}(O:K.In s₁.heap) (y:s₁.heap.Ns d6 mg) (c:s₁.heap.Ns builtinsNs mb) (J:∀x:b9,x≠"__name__"->mb x=d7 x) (t:s₁.heap.NoLimit) (hg:s₁.gens = #[])(E:s₁.heap.get? a=a7 { cls:=.type "list",data:=.seq vs.toArray }) (hi:IntsAre vs ns) (U:ns.length<=sizeLine) (hr:Room k callerA)(F:∀base:c8,K.In base->base.Ns d6 mg->FnOk P w K mg base CX k I R [x] sp) (j:∀(s:d9) (u:b7),BindsTo s R ⟨[u],[]⟩ [(x,u)])(M:∀H:Hp,Only H->G7 K H a (ns.map V.int)->sp [.ref a] H (λv _=>v=.bl a9) λ_ _ _=>False)(X:∀H e s',CX [] H s₁ (λ_ _ _=>False) e s'->False):j6 (f7 P w) callerA (.call (.ref I) ⟨[.ref a],[]⟩) (λr s'=>r=.ok (.ret<|.bool a9)/\OldK s₁.heap s'.heap/\s'.os=s₁.os/\e7 s'.gens) s₁:=by
 have W:=qG hi;have C:=hi.length
 -- from an abstract heap in which nothing but the script may be tracked
 have i:∀H:Hp,Only H->G7 K H a (ns.map V.int)->C7 P w H s₁.heap->(∀b,H b≠a8->b=a)->(H a≠a8->K.lookup a=a8) -> j6 (f7 P w) callerA (.call (.ref I) ⟨[.ref a],[]⟩) (λr s'=>r=.ok (.ret<|.bool a9)/\OldK s₁.heap s'.heap/\s'.os=s₁.os/\e7 s'.gens) s₁:=by
  intro H T hS A S hK;have f:∀{b:c6}{o:c7},s₁.heap.get? b=a7 o->H b=a8->(Cy s₁.heap H).get? b=a7 o:=λe n=>Cw e n;have N:∀{b:c6}{o:c7}{es:Array m7}{ep:Nat},s₁.heap.get? b=a7 o->o.data=.dict es ep->H b=a8:=λ{b o es ep} e d=>by
   cases q:H b with
   |none=>rfl
   |some u=>have G:b=a:=S b (by rw[q];simp);subst G;rw[E]at e;cases e;have Z:Data.seq vs.toArray _=Data.dict es ep:=d;cases Z
  have g:∀{b:c6}{m:b9->Option b7},s₁.heap.Ns b m->(Cy s₁.heap H).Ns b m:=λ{b m} ⟨o,es,ep,e,d,r⟩=>⟨o,es,ep,f e<|N e d,d,r⟩
  have p:K.In (Cy s₁.heap H):=λb o e=>f (O b o e) (by
   cases q:H b with
   |none=>rfl
   |some u=>have G:b=a:=S b (by rw[q];simp);subst G;rw[hK<|by rw[q];simp]at e;cases e)
  have hM:Mod K mg (Cy s₁.heap H):=⟨p,g y,⟨mb,g c,J⟩,let ⟨mc,h1,h2⟩:=t;⟨mc,g h1,h2⟩⟩
  have e0:Env0 P w K mg (Cy s₁.heap H) callerA [] s₁ H:=⟨rfl,hM,λb o e=>EU e,Nat.le_of_eq<|Ad _ _,trivial,λb c=>o7 (show b∈([]:List c6)from c) (by simp),A,.of_eq hg⟩
  refine LY ((F _ p<|g y).run callerA [] s₁ H ⟨[.ref a],[]⟩ [.ref a] [.ref a] _ _ hr e0 (j s₁<|.ref a) (.cons rfl .nil)<|M H T hS) λr s' h=>?_;cases r with
  |error e=>exact(X H e s' h).elim
  |ok fl =>
   cases fl with
   |next=>exact F7 h
   |brk=>exact F7 h
   |cont=>exact F7 h
   |ret u =>
    obtain⟨v,H',os,l,Y,B,r',q⟩:=h;have q':v=.bl a9:=q;subst q';obtain rfl:u=Nl a9:=r';refine⟨rfl,OldK.of_keep λb o e=>?_,os,l⟩;cases q:H b with
    |none=>exact Y.keep b o e q (by intro z;exact o7 (show b∈([]:List c6)from z)<|by simp)<|by simp
    |some u =>
     rcases T b with z|⟨ob,xs,z⟩
     rw[q]at z;cases z;have z2:=Y.frzs b ob _ z;obtain⟨Q,_⟩:=A b _ z;obtain⟨e2,_⟩:=B b _ z2;rw[e]at Q;cases Q;exact e2
 cases L:K.lookup a with
 |some o =>
  -- the script is one of the module's own objects
  have e:=O a o L;rw[E]at e;cases e;refine i (λ_=>a8) (λ_=>.inl rfl) (.inr ⟨_,vs.toArray,_,L,rfl,rfl,rfl,by rw[A3,C];exact U,by simpa using W⟩) (λb u z=>by have D:(a8:Option HO)=a7 u:=z;cases D) (λb z=>o7 rfl z) λz=>o7 rfl z
 |none=>refine i (λb=>if b=a then a7 (.frz { cls:=.type "list",data:=.seq vs.toArray }<|.lst<|ns.map V.int)else a8) (λb=>?_) (.inl<|.inr ⟨{ cls:=.type "list",data:=.seq vs.toArray },o5 rfl⟩) (λb u z=>?_) (λb z=>?_) λ_=>L;by_cases c:b=a;exact .inr ⟨_,_,o5 c⟩;exact .inl<|o6 c;by_cases c:b=a;have D:=(o5 c).symm.trans z;cases D;subst c;exact⟨E,by rw[u8];exact U,vs,_,W,E⟩;have D:=(o6 c).symm.trans z;cases D;by_cases c:b=a;exact c;exact o7 (o6 c) z
noncomputable abbrev KOf{K:t8}{h:c8}(_:K.In h):t8:=K
theorem walk_of{l:PySem.W.OpenLaw}{n k:Nat}{q:c5}{j:List b9}{P:(b9->Option b7)->c8->Prop}{YP:c3->c8->Prop}{d:DefRec}{K:Params->t8}{CX:c3->K9}{sp:c3->Sp}{x:b9}(L:l.most=a7 n) (t:n<=sizeLine) (p:d.params.defaults=[]) (M:Room k callerA)(D:∀(w:c3) (h:c8),YP w h->(K w.params).In h)(F:∀(w:c3) (mg:b9->Option b7) (fa:c6) (h:c8),(K w.params).In h->h.Ns d6 mg->mg d.name=a7 (.ref fa) -> ∃fd:j5,(∀(s:d9) (u:b7),BindsTo s fd ⟨[u],[]⟩ [(x,u)]) /\∀base:c8,(K w.params).In base->base.Ns d6 mg->FnOk l.prog w (K w.params) mg base (CX w) k fa fd [x] (sp w))(z:∀(w:c3) (H:Hp) (a:c6) (ns:List Int),ns.length<=n->Only H->G7 (K w.params) H a (ns.map V.int)->sp w [.ref a] H (λv _=>v=.bl a9) λ_ _ _=>False)(X:∀(w:c3) (H:Hp) (s:d9) (e:b7) (s':d9),CX w [] H s (λ_ _ _=>False) e s'->False):PySem.W.WalkO q j P YP l.row.toRowW d [] (λf vs=>PySem.call f vs):=by refine Att.attach_call L p λw A s₁ mg mb fa o U N B a vs ns G Y R Q I r m i c J=>?_;have y:=D w _ Y;obtain⟨fd,E,C⟩:=F w mg fa _ y G.T.g r;exact Ca y G.T.g G.T.b G.T.builtins G.T.nolimit J m i (J4 c t) M C E (λH O S=>z w H a ns c O S) λH e s'=>X w H s₁ e s'
noncomputable def iQ(s:g7):Arguments:=match s with
 |.FunctionDef _ a _ _ _ _ _ _ _ _=>a
 |_=>{ posonlyargs:=[],args:=[],vararg:=a8,kwonlyargs:=[],kw_defaults:=[],kwarg:=a8,defaults:=[] }
noncomputable def bB(s:g7):List g7:=match s with
 |.FunctionDef _ _ b _ _ _ _ _ _ _=>b
 |_=>[]
noncomputable def ao(s:g7):e6:=match s with
 |.FunctionDef _ _ _ _ _ _ sc _ _ _=>sc
 |_=>{ kind:=.function,names:=[],isGenerator:=bt,isCoroutine:=bt }
abbrev Ix:K9:=λ_ _ _ _ _ _=>False
abbrev E0:XK:=λ_ _ _=>False
theorem pass0:wG Ix X E0:=λ_ _ _ _ _ _ _ h=>h.elim
structure Lh(K:t8)(x qual:b9)(st:g7)(f:c6)(fd:j5):Prop where
 ex:∃(oc:b7) (od:Option c6) (kV doc pm:b7) (an:Option c6) (cdv ct:b7) (osl:Array (Option b7)),fd=Lv x qual (iQ st) (bB st) (ao st) .none kV doc pm an cdv ct/\K.lookup f=a7 ⟨oc,od,.func fd,osl⟩/\Oa K cdv qual=a9
 kp:LL K (.ref f)=a9
section
variable{P:c5}{w:c3}{K:t8}{mg:b9->Option b7}{base:c8}
theorem Lh.ok{x l:b9}{st:g7}{f:c6}{a:j5}{N ps:List b9}{k:Nat}{sp:Sp}(F:Lh K x l st f a)(S:FnScope N ps (ao st))(B:∀vs H Q E,sp vs H Q E->vs.length=ps.length)(y:∀(cdv:b7) (A:d8) (outer:List Env) (s:d9) (H:Hp) (vs:List V) (Q:VK) (E:XK),Room k (A.deeper<|b8 l (ao st) s.heap.objs.size f cdv)->sp vs H Q E -> ∃t,G9 (qg Ix P w K mg base N l (ao st) f cdv A outer s H E).nox (bB st) t/\t { nx:=λ_ H'=>Q .non H',rt:=Q } (start N vs) H):FnOk P w K mg base Ix (k+1) f a ps sp:=by obtain⟨c,j,kV,i,U,M,cdv,R,G,rfl,b,d⟩:=F.ex;refine JA b d S B λA outer s H vs Q E r z=>?_;obtain⟨t,h,q⟩:=y cdv A outer s H vs Q E r z;exact⟨t,h.nox,q⟩
theorem Lh.binds{x l:b9}{st:g7}{f:c6}{d:j5}{ps:List b9}(F:Lh K x l st f d)(h:∀(kV doc pm:b7) (an:Option c6) (cdv ct:b7) (us:List b7),us.length=ps.length->bindArgs (Lv x l (iQ st) (bB st) (ao st) .none kV doc pm an cdv ct) ⟨us,[]⟩=pure (ps.zip us)):nU K d ps []:=by obtain⟨c,j,kV,doc,pm,an,cdv,ct,G,rfl,b,a⟩:=F.ex;exact .all<|h kV doc pm an cdv ct
theorem Jx{x q:b9}{st:g7}{f:c6}{o:b7}{j M:Option c6}{G:Array (Option b7)}{kV i U v R:b7}(l:K.lookup f=a7 ⟨o,j,.func<|Lv x q (iQ st) (bB st) (ao st) .none kV i U M v R,G⟩)(c:Oa K v q=a9) (k:LL K (.ref f)=a9):Lh K x q st f (Lv x q (iQ st) (bB st) (ao st) .none kV i U M v R):=⟨⟨o,j,kV,i,U,M,v,R,G,rfl,l,c⟩,k⟩
end
theorem av(h:n<=1000):n<sizeLine:=Nat.lt_of_le_of_lt h<|by decide
section
variable{X:Cx}
theorem pv(i:Nat)(h:X.N[i]?=a7 x:=by rfl)(c:MD X.env.scope x:=by first|exact Or.inl rfl|exact Or.inr (Or.inl rfl)|exact Or.inr<|Or.inr rfl)(a:(x==("__debug__":b9))=bt:=by decide)(d:(x==("__classdict__":b9))=bt:=by decide):PE X (.Name x pos) (tVar i):=Dm h c a d
end
theorem dz{A B:Prop}(h:B):if bt=a9 then A else B:=by rw[o6 LP];exact h
theorem dB{A B:Prop}(h:A):if a9=a9 then A else B:=by rw[o5 rfl];exact h
section
variable{κ:Type}[DecidableEq κ]
noncomputable def yd(kvs:List (κ×V))(k:κ):Option V:=(kvs.find? λv=>decide<|v.1=k).map (·.2)
noncomputable def putK(kvs:List (κ×V))(k:κ)(v:V):List (κ×V):=if (kvs.any λa=>decide<|a.1=k)=a9 then kvs.map (λa=>if a.1=k then(a.1,v)else a)else kvs++[(k,v)]
theorem Ba{p:κ×V}{r:List (κ×V)}{k:κ}(e:p.1=k):yd (p::r) k=a7 p.2:=by simp[yd,K7,e]
theorem va{p:κ×V}{r:List (κ×V)}{k:κ}(e:¬p.1=k):yd (p::r) k=yd r k:=by simp[yd,K7,e]
theorem Kk.getD(r:Kk o u)(a:aH d d'):aH (o.getD d) (u.getD d'):=by
 cases o with
 |none=>cases u with
  |none=>exact a
  |some _=>exact(show False from r).elim
 |some _=>cases u with
  |none=>exact(show False from r).elim
  |some _=>exact r
theorem KV.val{kvs:List (κ×V)}{vs:List (κ×b7)}(r:KV kvs vs)(k:κ):Kk (yd kvs k) (valueAt vs k):=by
 unfold KV at r;induction r with
 |nil=>exact Mn
 |@cons p q ps qs h t i =>
  obtain⟨h1,h2⟩:=h;by_cases e:p.1=k;have a:q.1=k:=h1.symm.trans e;have b:valueAt (q::qs) k=a7 q.2:=by simp[valueAt,K7,a]
  rw[Ba e,b];exact h2;have a:¬q.1=k:=λz=>e<|h1.trans z;have b:valueAt (q::qs) k=valueAt qs k:=by simp[valueAt,K7,a]
  rw[va e,b];exact i
theorem KV.any(r:KV kvs vs)(k:κ):(kvs.any λkv=>decide<|kv.1=k)=vs.any λkv=>decide (kv.1=k):=by
 unfold KV at r;induction r with
 |nil=>rfl
 |cons h t i=>rw[List.any_cons,List.any_cons,i,h.1]
theorem KV.repl(r:KV kvs vs)(k:κ)(a:aH y u):KV (kvs.map λkv=>if kv.1=k then(kv.1,y)else kv) (vs.map λkv=>if kv.1=k then(kv.1,u)else kv):=by
 unfold KV at r ⊢;induction r with
 |nil=>exact .nil
 |@cons p q ps qs h t i=>rw[B8,B8];refine .cons ?_ i;obtain⟨h1,h2⟩:=h;by_cases e:p.1=k;rw[o5 e,o5<|h1.symm.trans e];exact⟨h1,a⟩;rw[o6 e,o6<|λz=>e<|h1.trans z];exact⟨h1,h2⟩
theorem KV.put(r:KV kvs vs)(k:κ)(i:aH y u):KV (putK kvs k y) (stored vs k u):=by unfold putK stored;rw[r.any k];by_cases e:(vs.any λv=>decide<|v.1=k)=a9;rw[o5 e,o5 e];exact r.repl k i;rw[o6 e,o6 e];exact Paired.snoc r ⟨rfl,i⟩
theorem KV.length(r:KV kvs vs):kvs.length=vs.length:=Paired.length r
end
theorem Jd(r:aH (kV k) u):(dZ P w).is k u=a9:=by
 cases k with
 |inl i=>obtain⟨t,e⟩:=(show ∃t,u=Value.int i t from r);subst e;exact uu P w i t
 |inr x=>obtain⟨t,e⟩:=(show ∃t,u=Value.str x t from r);subst e;exact ut P w x t
section
variable{P:c5}{w:c3}{H:Hp}{h:c8}{a:c6}
theorem rd_of(ok:C7 P w H h)(e:Rd H a u):cj P w H h a u:=e.ok ok
theorem dk_rd(ok:C7 P w H h)(e:Rd H a (.dK kvs)):kvs.length<=sizeLine/\(a==c9)=bt/\∃vs,KV kvs vs/\h.DictOf (dZ P w) a vs:=show cj P w H h a (.dK kvs)from rd_of ok e
theorem Gi(ok:C7 P w H h)(e:H a=a7 (.dK kvs)):kvs.length<=sizeLine/\(a==c9)=bt/\∃vs,KV kvs vs/\h.DictOf (dZ P w) a vs:=dk_rd ok<|.inl e
end
section
variable{X:Cx}{pins:List (c6×c7)}{σ:St}{H:Hp}{s:d9}{a:c6}{y v:V}{u r:b7}{o:Option V}{A:d8}{E:b7->d9->Prop}
theorem t4.big(I:t4 X pins σ H s):c9<s.heap.objs.size:=by have h:d6<s.heap.objs.size:=(I.mod.glob.keeps I.bk).lt;exact Nat.lt_trans (by decide) h
theorem uR(I:t4 X pins σ H s)(m:NZ (H a))(hs:Li a s.heap h')(i:∃q,h'.get? a=a7 q)(n:cj X.prog X.w (v8 H a ob) h' a ob):t4 X pins σ (v8 H a ob) { s with heap:=h',toks:=t' }:=I.write (x:=a) (e:=a) m (.inl rfl) (λb q d z=>(hs.2 b d).trans z) i n
theorem JP(z:kvs.length<=sizeLine)(d:(a==c9)=bt)(l:KV kvs vs)(dd:h'.DictOf (dZ P w) a vs):cj P w H' h' a (.dK kvs):=⟨z,d,vs,l,dd⟩
end
def NoSl(i:f6):Prop:=∀b a,subscripted i bt b a=operate [b,a] (k7 b a)
theorem Ec{prog:c5}{w:c3}{A:d8}{E:b7->d9->Prop}{s:d9}{env:Env}{a e:f6}{pos:f8}{T id:String}{Q:b7->d9->Prop}(g:typeLookup (.type T) "__getitem__" = pure (a7<|.builtin id)) (hs:NoSl e)(h:e8 (f7 prog w) A (eval a env) (λo s₁=>e8 (f7 prog w) A (eval e env) (λi s₂=>s₂.TypeIs o T/\e8 (f7 prog w) A (k7 o i) Q E s₂) E s₁) E s):e8 (f7 prog w) A (eval (.Subscript a e pos) env) Q E s:=by
 refine Subscript_<|E1 h (λo s₁ d=>E1 d (λi s₂ b=>?_) λ_ _ x=>x) λ_ _ x=>x;obtain⟨m,b⟩:=b;unfold subscriptTail;refine r9 ?_;rw[getitemInPython_of_ne m.not_modules];refine r9<|L8 m g ?_;have n:e8 (f7 prog w) A (subscripted e bt o i) (λr c=>e8 (f7 prog w) A (letTemporaryGo a o r >>= λ_=>pure r) Q E c) E s₂:=by rw[hs o i];exact wpAny_operating<|E1 b (λr c f=>r9<|wpAny_letTemporaryGo<|t6 f) λ_ _ x=>x
 first
  |exact t6 (r9 n)
  |exact r9 (t6 (r9 n))
  |exact r9 n
theorem CN(h:c8)(d:c9<h.objs.size):cj P w H (h.push { cls:=.type "dict",data:=.dict #[] }) h.objs.size (.dK []):=⟨z5 _,beq_eq_false_iff_ne.mpr<|D2<|x9 d,[],.nil,Heap.DictOf.new h⟩
def Ha:TE:=λ_ H Q=>∀p,H p=a8->Q (.ref p) (v8 H p<|.dK [])
section
variable{X:Cx}{pos:f8}
theorem BA:PE X (.Dict [] [] pos) Ha:=λp s σ H Q I h =>
 wpAny_Dict_empty ⟨.ref s.heap.objs.size,_,I.laid (a:=s.heap.objs.size) (o:=.dK []) (t':=s.toks) (λ_ _ q=>w6 _ q) (u6 _)<|CN s.heap I.big,rfl,h _<|I.hok.fresh<|u6 _⟩
end
end L2
namespace DL
open PySem
theorem iS(env:Env):∀(names:List (b9×j8)) (acc:List (b9×c6)),(∀p∈names,p.2=KN->∃c,env.cells.lookup p.1=a7 c) ->∃cl,(forIn (m:=Sem) names acc λ(p:b9×j8) (r:List (b9×c6)) =>
    if (p.2==KN)=a9 then(do let a <-cellOf env p.1;pure (O0<|(p.1,a)::r))else pure (O0 r))=pure cl /\
   (∀z c,cl.lookup z=a7 c->acc.lookup z=a7 c\/env.cells.lookup z=a7 c) /\
   (∀z c,acc.lookup z=a7 c->∃c',cl.lookup z=a7 c') /\
   (∀p∈names,p.2=KN->∃c,cl.lookup p.1=a7 c)
 | [],acc,_=>⟨acc,rfl,λ_ _ h=>.inl h,λz c h=>⟨c,h⟩,λ_ h=>nomatch h⟩
 |(n,k)::aF,acc,hyp=>by
  by_cases hk:k=KN;subst hk;obtain⟨c0,hc0⟩:=hyp (n,.free) C9 rfl;obtain⟨cl,e,h1,h2,h3⟩:=iS env aF ((n,c0)::acc) λp hp=>hyp p<|A8 _ hp;have ce:cellOf env n=pure c0:=by unfold cellOf;rw[hc0]
  have own:∃c',cl.lookup n=a7 c':=h2 n c0 (by simp[L9]);refine⟨cl,?_,λz c hz=>?_,λz c hz=>?_,λp hp hf=>?_⟩;rw[List.forIn_cons];simp only[p9,p7,ce,pure_bind];exact e;rcases h1 z c hz with q|q;rw[L9]at q;by_cases hz':(z==n)=a9;rw[hz']at q;have:z=n:=by simpa using hz'
  subst this;cases q;exact .inr hc0;have hz'':(z==n)=bt:=by simpa using hz'
  rw[hz'']at q;exact .inl q;exact .inr q;by_cases hz':z=n;subst hz';exact own;refine h2 z c ?_;rw[L9];have hz'':(z==n)=bt:=by simpa using hz'
  rw[hz''];exact hz;rcases A0.mp hp with rfl|hp;exact own;exact h3 p hp hf;have hb:(k==KN)=bt:=by simpa using hk
  obtain⟨cl,e,h1,h2,h3⟩:=iS env aF acc λp hp=>hyp p<|A8 _ hp;refine⟨cl,?_,h1,h2,λp hp hf=>?_⟩;rw[List.forIn_cons];simp only[hb,A4,p6,pure_bind];exact e;rcases A0.mp hp with rfl|hp;exact o7 hf hk;exact h3 p hp hf
theorem gj(h:∀p∈scope.names,p.2=KN->∃c,env.cells.lookup p.1=a7 c):∃cl,closureFor scope env=pure cl/\(∀z c,cl.lookup z=a7 c->env.cells.lookup z=a7 c)/\(∀p∈scope.names,p.2=KN->∃c,cl.lookup p.1=a7 c):=by obtain⟨cl,e,h1,h2,a⟩:=iS env scope.names [] h;refine⟨cl,?_,λz c b=>?_,a⟩;unfold closureFor;simp only[bind_pure];exact e;rcases h1 z c b with q|q;simp at q;exact q
theorem fX{env:Env}:∀{names:List (b9×j8)}{x:b9}{k:j8},(names.map λ(p:b9×j8)=>if (p.2==KN&&env.scope.kind==.function&&env.kindOf p.1==a7 .cell)=a9 then(p.1,Mr)else(p.1,p.2)).lookup x=a7 k ->(names.lookup x=a7 k\/(k=Mr/\names.lookup x=a7 .free))
 | [],_,_,h=>by simp at h
 |(n,j)::aF,x,k,h=>by
  have ih:=@fX env aF x k;rw[B8,L9]at h;by_cases hx:(x==n)=a9;have hl:List.lookup x ((n,j)::aF)=a7 j:=by rw[L9,hx]
  rw[hl];by_cases hc:(j==KN&&env.scope.kind==.function&&env.kindOf n==a7 .cell)=a9;simp only[hc,p7,hx]at h;cases h;have:j=KN:=by simp only[D6]at hc;simpa using hc.1.1
  exact .inr ⟨rfl,by rw[this]⟩;simp only[hc,A4,p6,hx]at h;exact .inl h;have hx':(x==n)=bt:=by simpa using hx
  have hl:List.lookup x ((n,j)::aF)=List.lookup x aF:=by rw[L9,hx']
  rw[hl];refine ih ?_;by_cases hc:(j==KN&&env.scope.kind==.function&&env.kindOf n==a7 .cell)=a9;simp only[hc,p7,hx']at h;exact h;simp only[hc,A4,p6,hx']at h;exact h
section
variable{prog:c5}{w:c3}{A:d8}{R:Result->d9->Prop}{s:d9}
theorem pe(s:List f6)(env:Env):compTests s env =
  (forIn s a9 λc r=>if r=a9 then do let ok <-isTrue c env (eval c env);pure (O0 ok)else pure (O0 r)):=by unfold compTests;simp only[bind_pure]
theorem xN(J:Nat->d9->Prop)(F:b7->d9->Prop)(b:∀e s',F e s'->notedBy (f7 prog w) A env (λe s'=>R (.error e) s') e s')(t:∀n s,J n s->e8 (f7 prog w) A (i6 it) (λr s1=>match r with
   |none=>R (.ok .next) s1
   |some v=>e8 (f7 prog w) A (i7 target it v) (λ_ s2=>e8 (f7 prog w) A (i3 target env v) (λ_ s3 =>
     e8 (f7 prog w) A (compTests ifs env) (λok s4 =>
      if ok=a9 then e8 (f7 prog w) A (eval elt env) (λy s5=>e8 (f7 prog w) A (call (.builtin "list.append") [acc,y]) (λ_ s6=>∃m,m<n/\J m s6) F s5) F s4
      else ∃m,m<n/\J m s4) F s3) F s2) F s1) F s)
  (n:Nat) (h:J n s):j6 (f7 prog w) A (.compLoop (.ListComp elt [⟨target,iter,ifs,0⟩] scope pos) 0 it acc env) R s:=by
 refine codeAny_loop rfl J (λn s f=>?_) n h;show e8 _ A ((compTurn (.ListComp elt [⟨target,iter,ifs,0⟩] scope pos) 0 it acc env).onRaise<|λx=>do noteFrame x env;theTreesLotGoes x) _ _ s;refine wpAny_noted ?_;rw[compTurn_list];refine r9<|wpAny_standAt<|r9<|E1 (t n s f) (λr s1 h1=>?_) b;cases r with
 |none=>exact t6 h1
 |some v =>
  refine r9<|E1 h1 (λ_ s2 h2=>?_) b;refine r9<|E1 h2 (λ_ s3 a=>?_) b;rw[pe]at a;refine r9<|E1 a (λok s4 d=>?_) b;cases ok with
  |false=>exact t6 ⟨rfl,d⟩
  |true=>exact r9<|r9<|E1 d (λy s5 k=>r9<|E1 k (λ_ s6 c=>t6<|t6 ⟨rfl,c⟩) b) b
end
end DL
namespace L2
open PySem PySem.Spec PyProof.Rows DL
theorem kj{env:Env}:∀{names:List (b9×j8)}{x:b9},names.lookup x=a7 .free ->((names.map λ(p:b9×j8)=>if (p.2==KN&&env.scope.kind==.function&&env.kindOf p.1==a7 .cell)=a9 then(p.1,Mr)else(p.1,p.2)).lookup x=a7 .cell \/ (names.map λ(p:b9×j8)=>if (p.2==KN&&env.scope.kind==.function&&env.kindOf p.1==a7 .cell)=a9 then(p.1,Mr)else(p.1,p.2)).lookup x=a7 .free)
 | [],_,h=>by simp at h
 |(n,j)::aF,x,h=>by
  have ih:=@kj env aF x;rw[B8,L9];rw[L9]at h;by_cases hc:(j==KN&&env.scope.kind==.function&&env.kindOf n==a7 .cell)=a9;by_cases hx:(x==n)=a9;simp[hc,hx];have hx':(x==n)=bt:=by simpa using hx
  rw[hx']at h;simp only[hc,p7,hx'];exact ih h;by_cases hx:(x==n)=a9;rw[hx]at h;cases h;right;simp only[hc,A4,p6,hx];have hx':(x==n)=bt:=by simpa using hx
  rw[hx']at h;simp only[hc,A4,p6,hx'];exact ih h
noncomputable def z9(X:Cx)(N':List b9)(scope:e6)(l:List (b9×c6))(s₀:d9)(H₀:Hp)(ex:List c6):Cx:={ X with N:=N',s₀:=s₀,H₀:=H₀,env:=compEnvC scope l s₀.heap.objs.size X.env,outer:=X.stack,ex:=ex,fn:=λx=>scope.names.lookup x==a7 .cell,pn:=[],xe:=λ_ _=>False }
structure BlkSc(X:Cx)(N':List b9)(nt:Nat)(js:List Nat)(scope:e6):Prop where
 kind:scope.kind=.function
 nocell:∀y∈scope.names,y.2≠.cell
 loc:∀y∈scope.names,y.2=.local->scope.names.lookup y.1=a7 .local
 free:∀y∈scope.names,y.2=.free->(X.env.kindOf y.1=a7 .cell\/X.env.kindOf y.1=a7 .free)
 len:N'.length=nt+js.length
 fr:∀(k j:Nat),js[k]?=a7 j->∃x,N'[nt+k]?=a7 x/\X.N[j]?=a7 x/\scope.names.lookup x=a7 .free/\(X.env.kindOf x=a7 .cell\/X.env.kindOf x=a7 .free)
noncomputable def bst(t:Nat)(s:List Nat)(σ:St):St:=Ob t a8++s.map λj=>(σ[j]?).join
theorem AF(t:Nat)(s:List Nat)(σ:St):(bst t s σ).length=t+s.length:=by simp[bst]
theorem Gy(h:(bst nt js σ)[i]?=a7 (a7 v)):∃k j,i=nt+k/\js[k]?=a7 j/\σ[j]?=a7 (a7 v):=by
 unfold bst at h;by_cases hi:i<nt;rw[Ko (by simpa using hi),Pp]at h;simp[hi]at h;rw[K0 (by simpa using LF.mp hi),Pl,D5]at h;cases e:js[i-nt]? with
 |none=>rw[e]at h;cases h
 |some j =>
  rw[e]at h;refine⟨i-nt,j,by lia,e,?_⟩;have h':(σ[j]?).join=a7 v:=by simpa using h
  cases q:σ[j]? with
  |none=>rw[q]at h';cases h'
  |some o=>rw[q]at h';exact p8 a7 h'
def Lr(X:Cx)(i:List f6)(t:TT):Prop:=∀(p:List (c6×c7)) (s:d9) (σ:St) (H:Hp) (Q:Bool->Hp->Prop),t4 X p σ H s->t σ H Q->e8 (f7 X.prog X.w) X.A (compTests i X.env) (TP X p σ Q) X.xe s
def ttNil:TT:=λ_ H Q=>Q a9 H
theorem Ev:Lr X [] ttNil:=λp s σ H Q I h=>by rw[pe];exact wpAny_tests_nil ⟨H,I,h⟩
theorem Eu(h:PT X c t):Lr X [c] t:=λp s σ H Q I q=>by rw[pe];exact wpAny_tests_one<|h p s σ H Q I q
def OC(t:Nat)(s:List Nat)(wi:TI)(g:TG)(tt:TT)(te:TE):TE:=λσ H Q=>wi σ H λJ H1=>∃W:Nat->Nat->List V->St->Hp->Prop,(∃m,W 0 m [] (bst t s σ) H1) /\∀i m vs τ H,W i m vs τ H->(J.stop i H/\∀p,H p=a8->Q (.ref p) (v8 H p<|.lst vs)) \/(J.go i H/\∀x H',J.yld i H x H'->g x τ H' λa e=>tt a e λb d=>if b=a9 then te a d λy f=>vs.length<sizeLine/\∃c,c < m/\W (i+1) c (vs++[y]) a f else ∃c,c < m/\W (i+1) c vs a d)
noncomputable abbrev ci(its:List b7)(k:Nat):c7:={ cls:=.type "list",data:=.seq its.toArray k }
section
variable{X:Cx}{pins:List (c6×c7)}{σ:St}{H:Hp}{s:d9}
theorem t4.blkOk(B:BlkSc X N' nt js scope)(I:t4 X pins σ H s)(a:∀z c,cl.lookup z=a7 c->X.env.cells.lookup z=a7 c) (f:∀p∈scope.names,p.2=KN->∃c,cl.lookup p.1=a7 c) (i:∀b∈fp,xZ X pins H b) (j:∀b∈fp,b<s.heap.objs.size):(z9 X N' scope cl { s with heap:=s.heap.push ob } H<|s.heap.objs.size::fp).Ok:=by
 have J:t4 X pins σ H { s with heap:=s.heap.push ob }:=I.kept (t':=s.toks) λb o e=>w6 _ e;have ltc:∀z c,cl.lookup z=a7 c->c<s.heap.objs.size:=λz c e=>by obtain⟨v,q⟩:=I.cell z c<|a z c e;exact q.lt
 have C:(s.heap.push ob).objs.size=s.heap.objs.size+1:=K6 ..;refine⟨I.ok.mod,B.kind,I.ok.glob,I.ok.blt,u6 _,λy z c h1 h2=>I.ok.inj y z c (a y c h1)<|a z c h2,λy O=>?_,λy c h=>?_,I.ok.hd,I.ok.frames,.inl rfl,λb d=>?_,λb o e=>?_,?_,λb o e d=>?_,λb d=>?_,J.stack,I.stkFree⟩;have l:scope.names.lookup y=a7 .free:=by
  rcases O with O|O;rcases fX (env:=X.env) (names:=scope.names) (x:=y) (k:=.cell) O with q|⟨_,q⟩
  exact o7 rfl<|B.nocell _<|Md q;exact q;rcases fX (env:=X.env) (names:=scope.names) (x:=y) (k:=.free) O with q|⟨q,_⟩
  exact q;cases q
 exact f (y,.free) (Md l) rfl;exact o7 rfl<|B.nocell _<|Md<|beq_iff_eq.mp<|show (scope.names.lookup y==a7 Mr)=a9 from h;show b≠(s.heap.push ob).objs.size/\∀x c,cl.lookup x=a7 c->c≠b;rw[C];rcases A0.mp d with rfl|d;exact⟨x9<|Kw _,λx c e=>x9<|ltc x c e⟩;exact⟨x9<|Mw<|j b d,λx c e=>(i b d).2.2.2.2.1 x c<|a x c e⟩;exact⟨w6 _ (I.bs b o e).1,(I.bs b o e).2⟩;show X.base.objs.size<=(s.heap.push ob).objs.size;rw[C];exact Nat.le_succ_of_le<|J4 I.ok.bsz I.sz;rcases A0.mp d with rfl|d;exact o7 (x3 (I.bs _ o e).1)<|G4 _;rcases(i b d).2.2.2.1 with z|z;exact I.ok.noex b o e z;exact o7 (G8 (x3 (I.ok.bs b o e).1) z)<|G4 _;intro m;have g:=I.stkSub b m;rcases A0.mp d with rfl|d;rcases A0.mp g with q|q;exact o7 I.lt (by rw[<-q];exact G4 _);exact I.nofs (u6 _) q;rcases A0.mp g with q|q;exact(i b d).2.1 q;exact(i b d).2.2.1 q
theorem t4.blkStart(B:BlkSc X N' nt js scope)(I:t4 X pins σ H s)(a:∀z c,cl.lookup z=a7 c->X.env.cells.lookup z=a7 c) (f:∀p∈scope.names,p.2=KN->∃c,cl.lookup p.1=a7 c) (J:∀b∈fp,xZ X pins H b) (m:∀b∈fp,b<s.heap.objs.size)(g:∀b o,(s.heap.push<|ci [] 0).get? b=a7 o->h1.get? b=a7 o) (K:h1.Ns (s.heap.push<|ci [] 0).objs.size mm):t4 (z9 X N' scope cl { s with heap:=s.heap.push (ci [] 0) } H<|s.heap.objs.size::fp) [(s.heap.objs.size,ci [] 0)] (bst nt js σ) H { s with heap:=h1,toks:=tk }:=by
 have d:∀b o,s.heap.get? b=a7 o->h1.get? b=a7 o:=λb o e=>g b o<|w6 _ e;have C:(s.heap.push<|ci [] 0).objs.size=s.heap.objs.size+1:=K6 ..;refine⟨I.blkOk B a f J m,rfl,I.bare,Un.kept g,⟨mm,K,λi x v D E T=>?_⟩,λx c e=>?_,?_,λx c e=>I.freeC x c<|a x c e,λp N=>?_,I.hok.kept d,?_⟩;obtain⟨k,j,rfl,L,t⟩:=Gy E;obtain⟨S,Q,R,A,y⟩:=B.fr k j L;have F:x=S:=B5<|D.symm.trans Q;subst F;obtain⟨W,M,n⟩:=I.loc;have w:MD X.env.scope x:=y.elim (λz=>.inr<|.inl z) λz=>.inr<|.inr z;obtain⟨u,r,h⟩:=n j x v R t w;refine⟨u,r,?_⟩;rcases h with⟨q,_⟩|⟨q,c,G,l⟩
 rcases y with z|z<;>(rw[q]at z;cases z)
 obtain⟨U,O⟩:=f (x,.free) (Md A) rfl;have:U=c:=B5<|(a x U O).symm.trans G;subst this;exact .inr ⟨kj (env:=X.env) A,U,O,l.keeps d⟩;obtain⟨v,q⟩:=I.cell x c<|a x c e;exact⟨v,q.keeps d⟩;exact I.hok.fresh (by show s.heap.objs.size<=(s.heap.push<|ci [] 0).objs.size;rw[C];exact Nm _);have e:p=(s.heap.objs.size,ci [] 0):=by simpa [z9]using N
 subst e;refine⟨g _ _<|A9 _ rfl,I.hok.fresh<|u6 _,?_,?_,λv z=>by cases z⟩;show s.heap.objs.size≠(s.heap.push<|ci [] 0).objs.size;rw[C];exact x9<|Kw _;intro P;rcases A0.mp (I.stkSub _ P)with q|q;exact o7 I.lt (by rw[<-q];exact G4 _);exact I.nofs (u6 _) q;rw[AF];exact B.len.symm
theorem t4.blkEnd(I:t4 X pins σ H s)(E:∀b∈fp,xZ X pins H b)(t:t4 (z9 X N' scope cl { s with heap:=s.heap.push (ci [] 0) } H<|s.heap.objs.size::fp) [(s.heap.objs.size,ci its k)] τ H' s')(L:ar vs its) (G:vs.length<=sizeLine) (T:Li (s.heap.push<|ci [] 0).objs.size s'.heap h'):t4 X pins σ (v8 H' s.heap.objs.size<|.lst vs) { s' with heap:=h' }:=by
 have j:(s.heap.push<|ci [] 0).objs.size=s.heap.objs.size+1:=K6 ..;have C:s.heap.objs.size≠(s.heap.push<|ci [] 0).objs.size:=by rw[j];exact x9<|Kw _
 obtain⟨K,D,_⟩:=t.pin (s.heap.objs.size,ci its k) (by simp[z9]);have g:s'.heap.get? s.heap.objs.size=a7 (ci its k):=K;have f:H' s.heap.objs.size=a8:=D;have i:H' (s.heap.push<|ci [] 0).objs.size=a8:=t.free;have u:Un (frs X.stack) (s.heap.objs.size::fp) H H' (s.heap.push<|ci [] 0) s'.heap:=t.base;have F:∀b o,s.heap.get? b=a7 o->b≠s.heap.objs.size/\b≠(s.heap.push<|ci [] 0).objs.size:=λb o e=>by have:=x3 e;exact⟨x9 this,by rw[j];exact x9<|Mw this⟩
 have p:∀b o,s.heap.get? b=a7 o->(s.heap.push<|ci [] 0).get? b=a7 o:=λb o e=>w6 _ e;have a:∀b o,s.heap.get? b=a7 o->b∉fp->b∉s.heap.objs.size::fp:=λb o e x J=>by rcases A0.mp J with q|q;exact(F b o e).1 q;exact x q
 refine I.call' (s':={ s' with heap:=h' }) (ch:=fp) t.os ⟨λb o e n d x=>?_,λb o e n d x=>?_,λb o e n x=>?_,λb o e x=>?_,λb xs e=>?_,λb o w e=>?_,λb ps e=>?_⟩ (λb w q=>?_) t.bare λb d=>?_;exact(T.2 b (F b o e).2).trans<|u.keep b o (p b o e) n d<|a b o e x;obtain⟨M,z⟩:=u.slot b o (p b o e) n d<|a b o e x;exact⟨M,(T.2 b (F b o e).2).trans z⟩;rw[au (F b o e).1];exact u.free b o (p b o e) n<|a b o e x;obtain⟨o',z⟩:=u.there b o (p b o e)<|a b o e x;exact⟨o',(T.2 b (F b o e).2).trans z⟩;have z:=u.tups b xs e;rw[au<|ak z f];exact z;have z:=u.frzs b o w e;rw[au<|ak z f];exact z;obtain⟨m,z⟩:=u.tbls b ps e;exact⟨m,by rw[au<|ak z f];exact z⟩;by_cases d:b=s.heap.objs.size;subst d;rw[aZ]at q;cases q;exact⟨G,its,k,L,(T.2 _ C).trans g⟩;rw[au d]at q;refine(t.hok b w q).stay (λc v h r=>(T.2 c ?_).trans r) (λc z=>by rw[au<|ak z f];exact z) λc xs z=>by rw[au<|ak z f];exact z
 rcases h with rfl|h;exact ak q i;exact ak h i;obtain⟨_,l,_,y,A,B⟩:=E b d;exact⟨y,l,A,B⟩
theorem uI{C tg O:f6}{N:List f6}{scope:e6}{pos:f8}{N':List b9}{l:List (b9×c6)}{J:It}{fp:List c6}{it:c6}{tn:Nat->c8->Prop}{g:TG}{tt:TT}{te:TE}{Q:VK}{W:Nat->Nat->List V->St->Hp->Prop}{R:Result->d9->Prop}{s0:d9}{H0:Hp}{D:c6} (hc:X.calm=a9)(hg:PG (z9 X N' scope l s0 H0<|D::fp) tg g) (ht:Lr (z9 X N' scope l s0 H0<|D::fp) N tt) (he:PE (z9 X N' scope l s0 H0<|D::fp) C te)(T:Turn X.prog X.w X.K tg J fp it tn) (M:D∉fp)(U:∀i m vs τ H,W i m vs τ H->(J.stop i H/\∀p,H p=a8->Q (.ref p) (v8 H p<|.lst vs)) \/ (J.go i H/\∀x H',J.yld i H x H'->g x τ H' λτ2 H2=>tt τ2 H2 λb f=>if b=a9 then te τ2 f λy H4=>vs.length<sizeLine/\∃m',m' < m/\W (i+1) m' (vs++[y]) τ2 H4 else ∃m',m' < m/\W (i+1) m' vs τ2 f))(t:∀b∈fp,b≠s0.heap.objs.size/\b∉frs X.stack/\∀x c,l.lookup x=a7 c->c≠b) (L:D≠s0.heap.objs.size) (aD:D∉frs X.stack) (as:∀x c,l.lookup x=a7 c->c≠D)(ai:∀τ H' s' vs its k,t4 (z9 X N' scope l s0 H0<|D::fp) [(D,ci its k)] τ H' s'->ar vs its->vs.length<=sizeLine->Q (.ref D) (v8 H' D<|.lst vs)->R (.ok .next) s')
  (m0:Nat) {s:St}{s3:d9}{f:Hp} (I3:t4 (z9 X N' scope l s0 H0<|D::fp) [(D,ci [] 0)] s f s3) (bk:tn 0 s3.heap) (aj:∀b∈fp,f b=a8) (w0:W 0 m0 [] s f) :
  j6 (f7 X.prog X.w) X.A (.compLoop (.ListComp C [⟨tg,O,N,0⟩] scope pos) 0 (.ref it) (.ref D)<|compEnvC scope l s0.heap.objs.size X.env) R s3:=by
 have h:∀{ob:c7}{H':Hp},(∀b∈fp,H' b=a8)->∀b∈fp,xZ (z9 X N' scope l s0 H0<|D::fp) [(D,ob)] H' b:=λ{ob H'} hn b d=>by
  obtain⟨a1,a2,a3⟩:=t b d;refine⟨hn b d,a1,a2,.inl<|A8 _ d,a3,λp j z=>?_⟩;have e:p=(D,ob):=by simpa [z9]using j
  subst e;exact M<|by rw[show D=b from z];exact d
 refine xN (λn s'=>∃i τ H' vs its k,t4 (z9 X N' scope l s0 H0<|D::fp) [(D,ci its k)] τ H' s'/\tn i s'.heap/\(∀b∈fp,H' b=a8)/\ar vs its/\vs.length<=sizeLine/\W i n vs τ H') (λ_ _=>False) (λ_ _ z=>z.elim) ?_ m0 ⟨0,s,f,[],[],0,I3,bk,aj,.nil,z5 _,w0⟩;rintro n s' ⟨i,τ,H',vs,its,k,I',P,I,rv,hl,w'⟩;rcases U i n vs τ H' w' with⟨stop,q⟩|⟨go,S⟩
 refine v6 (T.done (z9 X N' scope l s0 H0<|D::fp) rfl rfl rfl hc i _ s' τ H' (λ_ _=>False) I' (h I) P stop) ?_;rintro r s4 ⟨hr,I4⟩;subst hr;exact ai τ H' s4 vs its k I4 rv hl<|q D (I'.pin (D,ci its k)<|by simp[z9]).2.1;refine v6 (T.item (z9 X N' scope l s0 H0<|D::fp) rfl rfl rfl hc i _ s' τ H' (λ_ _=>False) I' (h I) P go) ?_;rintro r s4 ⟨u,hr,h4⟩;subst hr;refine v6 h4 ?_;rintro _ s5 ⟨x,H5,I5,r5,y5,B,an⟩;have ab:=I5.pinned (h an)<|T.obj _ _ B;refine v6 (hg _ s5 τ H5 x u _ ab r5<|S x H5 y5) ?_;rintro _ s6 ⟨a,H6,I6,q6⟩;refine v6 (ht _ s6 a H6 _ I6 q6) ?_;rintro ok s7 ⟨H7,Z,q7⟩;have F:∀{b:c6}{o:c7},b∈fp->s5.heap.get? b=a7 o->(b,o)∈(z9 X N' scope l s0 H0<|D::fp).pn++([(D,ci its k)]++jn fp s5.heap):=λd e=>F9 _<|F9 _<|gH d e;cases ok with
 |false =>
  obtain⟨m',hm,w7⟩:=(show ∃m',m' < n/\W (i+1) m' vs a H7 from q7)
  refine⟨m',hm,i+1,a,H7,vs,its,k,Z.unpinned,T.keep _ _ _ B λb d o e=>(Z.pin (b,o)<|F d e).1,λb d=>?_,rv,hl,w7⟩;obtain⟨o,e,_⟩:=T.obj _ _ B b d;exact(Z.pin (b,o)<|F d e).2.1
 |true =>
  refine v6 (he _ s7 a H7 _ Z q7) ?_;rintro yv s8 ⟨y,Y,I8,r8,q8⟩;obtain⟨bd,m',hm,w8⟩:=q8;obtain⟨oD,fD,_⟩:=I8.pin (D,ci its k) (F9 _<|Ld _<|by simp);have E:Y D=a8:=fD;refine append_at (its:=its.toArray) (n:=k) oD (λh9 be o9=>?_) (by rw[A3,<-rv.length];exact hl);have J8:t4 (z9 X N' scope l s0 H0<|D::fp) (jn fp s5.heap) a Y s8:=I8.pins_of λp j=>I8.pin p<|F9 _<|F9 _ j;have J9:t4 (z9 X N' scope l s0 H0<|D::fp) (jn fp s5.heap) a Y { s8 with heap:=h9 }:=J8.turned (t':=s8.toks) (it:=D) (λb o d e=>(be.2 b d).trans e) E L (.inl C9) as λp j z=>by
   have aS:p∈jn fp s5.heap:=by simpa [z9]using j
   exact M<|by rw[<-z];exact(su aS).1
  have G:∀{b:c6}{o:c7},b∈fp->s5.heap.get? b=a7 o->(b,o)∈(z9 X N' scope l s0 H0<|D::fp).pn++jn fp s5.heap:=λd e=>F9 _<|gH d e;refine⟨m',hm,i+1,a,Y,vs++[y],its++[yv],k+1,J9.pins_of λp j=>?_,T.keep _ _ _ B λb d o e=>(J9.pin (b,o)<|G d e).1,λb d=>?_,rv.append<|.cons r8 .nil,?_,w8⟩;have e:p=(D,ci (its++[yv])<|k+1):=by simpa using j
  subst e;refine⟨?_,E,L,aD,λv z=>by cases z⟩;rw[show ci (its++[yv]) (k+1)=({ cls:=.type "list",data:=.seq (its.toArray.push yv) (k+1) }:c7) by rw[List.push_toArray]];exact o9;obtain⟨o,e,_⟩:=T.obj _ _ B b d;exact(J9.pin (b,o)<|G d e).2.1;rw[A1];exact bd
end
section
variable{X:Cx}
theorem pe_lc{C L r:f6}{m:List f6}{scope:e6}{pos:f8}{N':List b9}{nt:Nat}{Z:List Nat}{wi:TI}{g:TG}{tt:TT}{te:TE}(B:BlkSc X N' nt Z scope)(hc:X.calm=a9)(hi:PI X L r wi)(hg:∀cl s0 H0 ex,PG (z9 X N' scope cl s0 H0 ex) L g) (ht:∀cl s0 H0 ex,Lr (z9 X N' scope cl s0 H0 ex) m tt) (he:∀cl s0 H0 ex,PE (z9 X N' scope cl s0 H0 ex) C te)(hs:∀x,j0 r X.env x=pure x:=by intro _;rfl):PE X (.ListComp C [⟨L,r,m,0⟩] scope pos) (OC nt Z wi g tt te):=by
 intro f s σ H Q I h;rw[eval_ListComp];obtain⟨cl,N,a,u⟩:=gj (scope:=scope) (env:=X.env) λp hp hf=>I.ok.has p.1<|B.free p hp hf;refine Qf (use:=a8) rfl hs N B.kind B.loc ?_;refine v6 (hi f s σ H _ I h) λv s1 h1=>v6 h1 λab n h2=>?_;obtain⟨it,O,tn,J,H2,e,i,T,U,M,W,⟨m0,w0⟩,G⟩:=h2;subst e;refine J6<|wpAny_newFunctionEnv B.nocell (by intro y hy;simp at hy) (λh1 D E=>?_) B.kind;have j:∀b∈O,b<n.heap.objs.size:=λb d=>by obtain⟨o,e,_⟩:=T.obj _ _ U b d;exact x3 e
 have Y:(n.heap.push<|ci [] 0).objs.size=n.heap.objs.size+1:=K6 ..;have F:∀b o,(n.heap.push<|ci [] 0).get? b=a7 o->h1.get? b=a7 o:=λb o e=>(E.2 b<|x9<|x3 e).trans<|w6 _ e;have I3:=i.blkStart (tk:=n.toks+([]:List (b9×b7)).length) B a u M j F D;have K:tn 0 h1:=T.keep _ _ _ U λb _ o e=>F b o<|w6 _ e;have R:n.heap.objs.size∉O:=λz=>G4 _<|j _ z;have S:n.heap.objs.size∉frs X.stack:=λz=>by rcases A0.mp (i.stkSub _ z)with q|q;exact o7 i.lt (by rw[<-q];exact G4 _);exact i.nofs (u6 _) q
 have P:n.heap.objs.size≠(n.heap.push<|ci [] 0).objs.size:=by rw[Y];exact x9<|Kw _
 have ltc:∀z c,cl.lookup z=a7 c->c<n.heap.objs.size:=λz c e=>by obtain⟨v,q⟩:=i.cell z c<|a z c e;exact q.lt
 have t:∀b∈O,b≠(n.heap.push<|ci [] 0).objs.size/\b∉frs X.stack/\∀x c,cl.lookup x=a7 c->c≠b:=λb d=>by refine⟨by rw[Y];exact x9<|Mw<|j b d,λz=>?_,λx c e=>(M b d).2.2.2.2.1 x c<|a x c e⟩;rcases A0.mp (i.stkSub b z)with q|q;exact(M b d).2.1 q;exact(M b d).2.2.1 q
 have l:j6 (f7 X.prog X.w) X.A (.compLoop (.ListComp C [⟨L,r,m,0⟩] scope pos) 0 (.ref it) (.ref n.heap.objs.size)<|compEnvC scope cl (n.heap.push<|ci [] 0).objs.size X.env) (compPost (f7 X.prog X.w) X.A X.xe a8 (EP X f σ Q) (.ref n.heap.objs.size) (n.heap.push<|ci [] 0).objs.size) { n with heap:=h1,toks:=n.toks+([]:List (b9×b7)).length }:=by refine uI (s0:={ n with heap:=n.heap.push (ci [] 0) }) (H0:=H2) (N':=N') (Q:=Q) hc (hg _ _ _ _) (ht _ _ _ _) (he _ _ _ _) T R G t P S (λx c e=>x9<|ltc x c e) ?_ m0 I3 K (λb d=>(M b d).1) w0;intro τ H' s' vs its k V rv hl q;obtain⟨mm,hn,_⟩:=id V.loc;exact⟨mm,hn,λh' sb=>⟨.ref n.heap.objs.size,_,i.blkEnd M V rv hl sb,rfl,q⟩⟩
 exact P7 l<|T.self _ 0 _ _ _ K l
end
section
inductive D where
 |non|bl (b:Bool)|int (i:Int)|str (x:b9)|ty (n:String)|tup (ds:List D)|ref (n:Nat)
inductive MO where
 |lst (xs:List D)
 |fz (xs:List D)
 |kl (xs:List D)
 |dct (kvs:List (b9×D))
 |dkt (kvs:List (D×D))
 |dkq (e:Nat) (kvs:List (D×D))
 |dkm (kvs:List (D×D))
 |fdc (o:c7) (kvs:List (b9×D))
 |tb (x:b9) (b:Bool)
 |exc (x:b9)
noncomputable abbrev t9:=List MO
noncomputable def MO.isL:MO->Bool
 |.dct _=>bt
 |.dkt _=>bt
 |.dkq _ _=>bt
 |.fdc _ _=>bt
 |.dkm _=>bt
 |.tb _ _=>bt
 |.exc _=>bt
 |_=>a9
noncomputable def kM(s:List b9)(vs:List V):List (G0×V):=(s.zip vs).map λp=>(ABe p.1,p.2)
mutual
inductive u4(K:t8)(ρ:List c6)(H:Hp):D->V->Prop
 |non:u4 K ρ H .non .non
 |bl (b:Bool):u4 K ρ H (.bl b) (.bl b)
 |int (i:Int):u4 K ρ H (.int i) (.int i)
 |str (x:b9):u4 K ρ H (.str x) (.str x)
 |ty (n:String):u4 K ρ H (.ty n) (.ty n)
 |tup {a:c6}{vs:List V}{ds:List D} (h:A6 K H a vs) (r:Reps K ρ H ds vs):u4 K ρ H (.tup ds) (.ref a)
 |ref {n:Nat}{a:c6} (h:ρ[n]?=a7 a):u4 K ρ H (.ref n) (.ref a)
inductive Reps(K:t8)(ρ:List c6)(H:Hp):List D->List V->Prop
 |nil:Reps K ρ H [] []
 |cons {d:D}{v:V}{ds:List D}{vs:List V} (h:u4 K ρ H d v) (t:Reps K ρ H ds vs):Reps K ρ H (d::ds) (v::vs)
end
def KList(K:t8)(a:c6)(xs:List V):Prop:=∃(o:c7) (its:Array b7) (n:Nat),K.lookup a=a7 o/\o.cls=.type "list"/\o.dict=a8/\o.data=.seq its n/\its.size<=sizeLine/\ar xs its.toList
noncomputable def dw:Nat->D->Bool
 |_,.str _=>a9
 |_,.int _=>a9
 |n+1,.tup ds=>ds.all<|dw n
 |_,_=>bt
noncomputable def A2(w:c3):Nat->D->Int
 |_,.str x=>hashStr w x
 |_,.int i=>hashInt i
 |n+1,.tup ds=>m8<|Nc<|ds.map<|A2 w n
 |_,_=>0
def dX(a:c6)(xs:List (D×c6×b7)):c5->c3->c8->Prop:=λ_ w h =>
 ∃(o:c7) (es:Array m7),h.get? a=a7 o/\o.ExactDict/\o.data=.dict es xs.length/\es.toList=xs.map λx=>⟨A2 w 8 x.1,.ref x.2.1,x.2.2⟩
def dQ(a:c6)(e:Nat)(xs:List (D×c6×b7)):c5->c3->c8->Prop:=λ_ w h =>
 ∃(o:c7) (es:Array m7),h.get? a=a7 o/\o.ExactDict/\o.data=.dict es e/\es.toList=xs.map λx=>⟨A2 w 8 x.1,.ref x.2.1,x.2.2⟩
noncomputable def xA:D->Bool
 |.non=>a9
 |.tup ks=>dw 8<|.tup ks
 |_=>bt
noncomputable def Mi(w:c3):D->Int
 |.non=>m8 0xFCA86420
 |d=>A2 w 8 d
noncomputable def Ar(hs:D->Int)(x:D×b7×b7):m7:=⟨hs x.1,x.2.1,x.2.2⟩
def dM(a:c6)(xs:List (D×b7×b7)):c5->c3->c8->Prop:=λ_ w h =>
 ∃(o:c7) (es:Array m7),h.get? a=a7 o/\o.ExactDict/\o.data=.dict es xs.length/\es.toList=xs.map (Ar<|Mi w)
def K2(K:t8)(ρ:List c6)(H:Hp)(p:D×D)(q:D×b7×b7):Prop:=p.1=q.1/\xA p.1=a9/\(∃u,u4 K ρ H p.1 u/\aH u q.2.1)/\∃v,u4 K ρ H p.2 v/\aH v q.2.2
def xY(K:t8)(ρ:List c6)(H:Hp)(p:D×D)(q:D×c6×b7):Prop:=p.1=q.1/\dw 8 p.1=a9/\u4 K ρ H p.1 (.ref q.2.1)/\∃v,u4 K ρ H p.2 v/\aH v q.2.2
def GK(a:c6)(C:b7):c5->c3->c8->Prop:=λ_ _ h=>∃o vs,h.get? a=a7 o/\o.cls=C/\o.data=.fields vs
def xX(K:t8)(ρ:List c6)(H:Hp)(a:c6):MO->Prop
 |.lst ds=>∃vs,H a=a7 (.lst vs)/\Reps K ρ H ds vs
 |.fz ds=>∃o vs,H a=a7 (.frz o<|.lst vs)/\Reps K ρ H ds vs
 |.kl ds=>∃vs,KList K a vs/\Reps K ρ H ds vs
 |.dct kvs=>∃vs,H a=a7 (.dK (kM (kvs.map (·.1)) vs))/\Reps K ρ H (kvs.map (·.2)) vs
 |.dkt kvs=>kvs.length<=sizeLine/\(a==c9)=bt/\(kvs.map (·.1)).Nodup/\∃xs,H a=a7 (.ext<|dX a xs)/\Paired (xY K ρ H) kvs xs
 |.dkq e kvs=>kvs.length<=sizeLine/\(a==c9)=bt/\(kvs.map (·.1)).Nodup/\∃xs,H a=a7 (.ext<|dQ a e xs)/\Paired (xY K ρ H) kvs xs
 |.dkm kvs=>kvs.length<=sizeLine/\(a==c9)=bt/\(kvs.map (·.1)).Nodup/\∃xs,H a=a7 (.ext<|dM a xs)/\Paired (K2 K ρ H) kvs xs
 |.fdc o kvs=>∃vs,H a=a7 (.frz o (.dK (kM (kvs.map (·.1)) vs)))/\Reps K ρ H (kvs.map (·.2)) vs
 |.tb x b=>(∃c,PySem.W.tabIn K x=a7 (c,a)/\∀h:c8,K.In h->PySem.W.CodeHd h c a)/\∃ps,H a=a7 (.tbl ps)/\(b=bt->ps = #[])
 |.exc x=>∃C,LH K d6 x=a7 (a7<|.ref C)/\H a=a7 (.ext<|GK a<|.ref C)
def KP(mo:Option MO):Prop:=∃ds,mo=a7 (.kl ds)
def al(M:t9)(n:Nat)(xs:List D):Prop:=M[n]?=a7 (.lst xs)\/M[n]?=a7 (.fz xs)\/M[n]?=a7 (.kl xs)
structure u9(K:t8)(ρ:List c6)(M:t9)(H:Hp):Prop where
 nd:∀(n m:Nat) (a:c6),n≠m->ρ[n]?=a7 a->ρ[m]?=a7 a->KP M[n]?\/KP M[m]?
 len:ρ.length=M.length
 obj:∀(n:Nat) (a:c6) (mo:MO),ρ[n]?=a7 a->M[n]?=a7 mo->xX K ρ H a mo
structure Grow(K:t8)(ρ:List c6)(H:Hp)(ρ':List c6)(H':Hp):Prop where
 pre:ρ <+: ρ'
 tup:∀a xs,A6 K H a xs->A6 K H' a xs
theorem Grow.refl{K:t8}{ρ:List c6}{H:Hp}:Grow K ρ H ρ H:=⟨L7,λ_ _ h=>h⟩
theorem Grow.trans{K:t8}{ρ c d:List c6}{H H1 e:Hp}(a:Grow K ρ H c H1)(b:Grow K c H1 d e):Grow K ρ H d e:=⟨a.pre.trans b.pre,λx xs h=>b.tup x xs<|a.tup x xs h⟩
theorem aq{α:Type}{l l':List α}(h:l <+: l'){n:Nat}{a:α}(e:l[n]?=a7 a):l'[n]?=a7 a:=by obtain⟨t,rfl⟩:=h;rw[Ko (z6.mp e).1];exact e
theorem u4.grow{K:t8}{ρ a:List c6}{H H':Hp}(g:Grow K ρ H a H'){d:D}{v:V}(h:u4 K ρ H d v):u4 K a H' d v:=u4.rec (motive_1:=λd v _=>u4 K a H' d v) (motive_2:=λds vs _=>Reps K a H' ds vs) .non .bl .int .str .ty (λh _ r=>.tup (g.tup _ _ h) r) (λh=>.ref<|aq g.pre h) .nil (λ_ _ h t=>.cons h t) h
theorem Reps.grow{K:t8}{ρ a:List c6}{H H':Hp}(g:Grow K ρ H a H'){ds:List D}{vs:List V}(h:Reps K ρ H ds vs):Reps K a H' ds vs:=Reps.rec (motive_1:=λd v _=>u4 K a H' d v) (motive_2:=λds vs _=>Reps K a H' ds vs) .non .bl .int .str .ty (λh _ r=>.tup (g.tup _ _ h) r) (λh=>.ref<|aq g.pre h) .nil (λ_ _ h t=>.cons h t) h
section
variable{K:t8}{ρ ρ':List c6}{H H':Hp}{M:t9}
theorem Reps.length(h:Reps K ρ H ds vs):ds.length=vs.length:=Reps.rec (motive_1:=λ_ _ _=>True) (motive_2:=λds vs _=>ds.length=vs.length) trivial (λ_=>trivial) (λ_=>trivial) (λ_=>trivial) (λ_=>trivial) (λ_ _ _=>trivial) (λ_=>trivial) rfl (λ_ _ _ t=>p8 Nat.succ t) h
theorem Reps.append(h:Reps K ρ H ds vs)(s:Reps K ρ H es ws):Reps K ρ H (ds++es) (vs++ws):=Reps.rec (motive_1:=λ_ _ _=>True) (motive_2:=λds vs _=>Reps K ρ H (ds++es)<|vs++ws) trivial (λ_=>trivial) (λ_=>trivial) (λ_=>trivial) (λ_=>trivial) (λ_ _ _=>trivial) (λ_=>trivial) s (λh _ _ t=>.cons h t) h
theorem Reps.get:∀{ds:List D}{vs:List V}{i:Nat}{d:D},Reps K ρ H ds vs->ds[i]?=a7 d->∃v,vs[i]?=a7 v/\u4 K ρ H d v
 |_,_,_,_,.nil,e=>by simp at e
 |_,_,0,_,.cons r _,e=>by simp at e;subst e;exact⟨_,rfl,r⟩
 |_,_,i+1,d,.cons _ t,e=>by obtain⟨v,h1,h2⟩:=Reps.get (i:=i) (d:=d) t (by simpa using e);exact⟨v,by simpa using h1,h2⟩
theorem Reps.getV:∀{ds:List D}{vs:List V}{i:Nat}{v:V},Reps K ρ H ds vs->vs[i]?=a7 v->∃d,ds[i]?=a7 d/\u4 K ρ H d v
 |_,_,_,_,.nil,e=>by simp at e
 |_,_,0,_,.cons r _,e=>by simp at e;subst e;exact⟨_,rfl,r⟩
 |_,_,i+1,d,.cons _ t,e=>by obtain⟨v,h1,h2⟩:=Reps.getV (i:=i) (v:=d) t (by simpa using e);exact⟨v,by simpa using h1,h2⟩
theorem Reps.take:∀{ds:List D}{vs:List V} (n:Nat),Reps K ρ H ds vs->Reps K ρ H (ds.take n) (vs.take n)
 |_,_,0,_=>by simpa using .nil
 |_,_,_+1,.nil=>.nil
 |_,_,n+1,.cons r t=>.cons r<|Reps.take n t
theorem Reps.drop:∀{ds:List D}{vs:List V} (n:Nat),Reps K ρ H ds vs->Reps K ρ H (ds.drop n) (vs.drop n)
 |_,_,0,r=>r
 |_,_,_+1,.nil=>.nil
 |_,_,n+1,.cons _ t=>Reps.drop n t
theorem A6.laid(b:H p=a8)(h:A6 K H a xs):A6 K (v8 H p o) a xs:=by
 rcases h with h|h;rcases h with h|⟨c,h⟩
 exact .inl (.inl<|by rw[au<|ak h b];exact h);exact .inl<|.inr ⟨c,by rw[au<|ak h b];exact h⟩;exact .inr h
theorem A6.written(b:H p=a7 (.lst vs))(h:A6 K H a xs):A6 K (v8 H p o) a xs:=by
 rcases h with h|h;rcases h with h|⟨c,h⟩
 exact .inl (.inl<|by rw[au<|xo h b<|by intro z;cases z];exact h);exact .inl<|.inr ⟨c,by rw[au<|xo h b<|by intro z;cases z];exact h⟩;exact .inr h
theorem Grow.laid(a:H p=a8):Grow K ρ H ρ (v8 H p o):=⟨L7,λ_ _ h=>A6.laid a h⟩
theorem Grow.laidR(a:H p=a8):Grow K ρ H (ρ++[p]) (v8 H p o):=⟨KH _ _,λ_ _ h=>A6.laid a h⟩
theorem u9.tracked(S:u9 K ρ M H){n:Nat}{a:c6}(e:ρ[n]?=a7 a):(∃o,H a=a7 o)\/KP M[n]?:=by
 have f:n<M.length:=by rw[<-S.len];exact(z6.mp e).1
 have d:M[n]?=a7 M[n]:=v9 f;have h:=S.obj n a _ e d;rw[d];cases c:M[n] with
 |lst ds=>rw[c]at h;obtain⟨vs,h,_⟩:=h;exact .inl ⟨_,h⟩
 |fz ds=>rw[c]at h;obtain⟨o,vs,h,_⟩:=h;exact .inl ⟨_,h⟩
 |kl ds=>exact .inr ⟨ds,rfl⟩
 |dct s=>rw[c]at h;obtain⟨vs,h,_⟩:=h;exact .inl ⟨_,h⟩
 |dkt s=>rw[c]at h;obtain⟨_,_,_,xs,h,_⟩:=h;exact .inl ⟨_,h⟩
 |dkq _ s=>rw[c]at h;obtain⟨_,_,_,xs,h,_⟩:=h;exact .inl ⟨_,h⟩
 |fdc o s=>rw[c]at h;obtain⟨vs,h,_⟩:=h;exact .inl ⟨_,h⟩
 |dkm s=>rw[c]at h;obtain⟨_,_,_,xs,h,_⟩:=h;exact .inl ⟨_,h⟩
 |tb x b=>rw[c]at h;obtain⟨_,ps,h,_⟩:=h;exact .inl ⟨_,h⟩
 |exc x=>rw[c]at h;obtain⟨_,_,h⟩:=h;exact .inl ⟨_,h⟩
theorem xX.grow(g:Grow K ρ H ρ' H')(hs:H' a=H a\/KP (a7 mo))(h:xX K ρ H a mo):xX K ρ' H' a mo:=by
 cases mo with
 |lst ds =>
  obtain⟨vs,e,r⟩:=h;rcases hs with hs|⟨_,z⟩
  exact⟨vs,by rw[hs];exact e,r.grow g⟩;cases z
 |fz ds =>
  obtain⟨o,vs,e,r⟩:=h;rcases hs with hs|⟨_,z⟩
  exact⟨o,vs,by rw[hs];exact e,r.grow g⟩;cases z
 |fdc o s =>
  obtain⟨vs,e,r⟩:=h;rcases hs with hs|⟨_,z⟩
  exact⟨vs,by rw[hs];exact e,r.grow g⟩;cases z
 |tb x b =>
  obtain⟨c,ps,e,q⟩:=h;rcases hs with hs|⟨_,z⟩
  exact⟨c,ps,by rw[hs];exact e,q⟩;cases z
 |exc x =>
  obtain⟨C,e,q⟩:=h;rcases hs with hs|⟨_,z⟩
  exact⟨C,e,by rw[hs];exact q⟩;cases z
 |kl ds=>obtain⟨vs,e,r⟩:=h;exact⟨vs,e,r.grow g⟩
 |dkm s =>
  obtain⟨h1,h2,d,xs,e,r⟩:=h;rcases hs with hs|⟨_,z⟩
  exact⟨h1,h2,d,xs,by rw[hs];exact e,Paired.mapP r λ_ _ ⟨f,i,⟨u,j,l⟩,v,G,k⟩=>⟨f,i,⟨u,j.grow g,l⟩,v,G.grow g,k⟩⟩;cases z
 |dct s =>
  obtain⟨vs,e,r⟩:=h;rcases hs with hs|⟨_,z⟩
  exact⟨vs,by rw[hs];exact e,r.grow g⟩;cases z
 |dkt s =>
  obtain⟨h1,h2,d,xs,e,r⟩:=h;rcases hs with hs|⟨_,z⟩
  exact⟨h1,h2,d,xs,by rw[hs];exact e,Paired.mapP r λ_ _ ⟨f,i,j,v,G,k⟩=>⟨f,i,j.grow g,v,G.grow g,k⟩⟩;cases z
 |dkq _ s =>
  obtain⟨h1,h2,d,xs,e,r⟩:=h;rcases hs with hs|⟨_,z⟩
  exact⟨h1,h2,d,xs,by rw[hs];exact e,Paired.mapP r λ_ _ ⟨f,i,j,v,G,k⟩=>⟨f,i,j.grow g,v,G.grow g,k⟩⟩;cases z
theorem u9.keeps{p:c6}{o:HO}(S:u9 K ρ M H)(h:H p=a8){n:Nat}{a:c6}{mo:MO}(t:ρ[n]?=a7 a)(l:M[n]?=a7 mo):v8 H p o a=H a\/KP (a7 mo):=by rcases S.tracked t with⟨c,b⟩|q;exact .inl<|au<|ak b h;rw[l]at q;exact .inr q
theorem u9.laid{p:c6}{o:HO}(S:u9 K ρ M H)(h:H p=a8):u9 K ρ M (v8 H p o):=⟨S.nd,S.len,λn a m t l=>(S.obj n a m t l).grow (Grow.laid h)<|S.keeps h t l⟩
theorem aN{α:Type}{l:List α}{x y:α}{n:Nat}(h:(l++[x])[n]?=a7 y):l[n]?=a7 y\/(n=l.length/\y=x):=by
 by_cases f:n<l.length;rw[Ko f]at h;exact .inl h;have a:n=l.length:=by have:=(z6.mp h).1;rw[A1,F8]at this;lia
 subst a;rw[K0<|u6 _,LX]at h;simp at h;exact .inr ⟨rfl,h.symm⟩
theorem KP.more{mo:MO}{n:Nat}(h:KP M[n]?):KP (M++[mo])[n]?:=by obtain⟨ds,e⟩:=h;exact⟨ds,by rw[Ko (z6.mp e).1];exact e⟩
theorem u9.laidL{p:c6}{ds:List D}{vs:List V}(S:u9 K ρ M H)(c:H p=a8)(r:Reps K ρ H ds vs):u9 K (ρ++[p]) (M++[.lst ds]) (v8 H p<|.lst vs):=by
 have g:Grow K ρ H (ρ++[p]) (v8 H p<|.lst vs):=Grow.laidR c;have d:∀(n:Nat),ρ[n]?=a7 p->KP M[n]?:=λn e=>by rcases S.tracked e with⟨o,q⟩|q;rw[c]at q;cases q;exact q
 refine⟨λn m a h t l=>?_,by rw[A1,A1,S.len];rfl,λn a k t l=>?_⟩;rcases aN t with f|⟨f,g1⟩
 rcases aN l with b|⟨b,i⟩
 exact(S.nd n m a h f b).elim (λz=>.inl z.more) λz=>.inr z.more;subst i;exact .inl (d n f).more;rcases aN l with b|⟨b,i⟩
 subst g1;exact .inr (d m b).more;exact o7 (f.trans b.symm) h;rcases aN t with f|⟨f,g1⟩
 have j:n<M.length:=by rw[<-S.len];exact(z6.mp f).1
 rw[Ko j]at l;exact(S.obj n a k f l).grow g<|S.keeps c f l;subst g1 f;rw[S.len,K0<|u6 _,LX]at l;simp at l;subst l;exact⟨vs,aZ,r.grow g⟩
theorem u9.last(S:u9 K ρ M H):(ρ++[p])[M.length]?=a7 p:=by rw[<-S.len,K0<|u6 _,LX];rfl
theorem u9.write(S:u9 K ρ M H)(t:ρ[n]?=a7 a)(u:M[n]?=a7 (.lst ds))(s:H a=a7 (.lst vs))(r:Reps K ρ H ds' vs'):u9 K ρ (M.set n<|.lst ds') (v8 H a<|.lst vs')/\Grow K ρ H ρ (v8 H a<|.lst vs'):=by
 have g:Grow K ρ H ρ (v8 H a<|.lst vs'):=⟨L7,λ_ _ h=>A6.written s h⟩
 have k:∀m,m≠n->(M.set n<|.lst ds')[m]?=M[m]?:=λm e=>KY<|D2 e;have c:¬KP M[n]?:=λ⟨_,z⟩=>by rw[u]at z;cases z
 refine⟨⟨λm l b i d f=>?_,by rw[Mu];exact S.len,λm b o d f=>?_⟩,g⟩;have q:=S.nd m l b i d f;by_cases h1:m=n;subst h1;rw[k l<|D2 i];exact .inr<|q.resolve_left c;rw[k m h1];by_cases h2:l=n;subst h2;exact .inl<|q.resolve_right c;rw[k l h2];exact q;by_cases e:m=n;subst e;have j:b=a:=B5<|d.symm.trans t;subst j;rw[Lp<|by rw[<-S.len];exact(z6.mp t).1]at f;cases f;exact⟨vs',aZ,r.grow g⟩;rw[k m e]at f;by_cases j:b=a;subst j;have q:=S.nd m n b e d t;have p:=q.resolve_right c;rw[f]at p;exact(S.obj m b o d f).grow g<|.inr p;exact(S.obj m b o d f).grow g<|.inl<|au j
theorem al.seq(S:u9 K ρ M H)(h:al M n xs)(e:ρ[n]?=a7 a):∃vs,G7 K H a vs/\Reps K ρ H xs vs:=by rcases h with h|h|h;obtain⟨vs,q,r⟩:=S.obj n a _ e h;exact⟨vs,.inl<|.inl q,r⟩;obtain⟨o,vs,q,r⟩:=S.obj n a _ e h;exact⟨vs,.inl<|.inr ⟨o,q⟩,r⟩;obtain⟨vs,q,r⟩:=S.obj n a _ e h;exact⟨vs,.inr q,r⟩
theorem u9.get(S:u9 K ρ M H){n:Nat}{mo:MO}(e:M[n]?=a7 mo):∃a,ρ[n]?=a7 a/\xX K ρ H a mo:=by
 have f:n<ρ.length:=by rw[S.len];exact(z6.mp e).1
 exact⟨ρ[n],v9 f,S.obj n _ mo (v9 f) e⟩
end
noncomputable abbrev SD:=List<|Option D
structure SRep(K:t8)(ρ:List c6)(H:Hp)(S:SD)(σ:St):Prop where
 len:S.length=σ.length
 get:∀(i:Nat) (d:D),S[i]?=a7 (a7 d)->∃v,σ[i]?=a7 (a7 v)/\u4 K ρ H d v
theorem SRep.grow{K:t8}{ρ a:List c6}{H H':Hp}{S:SD}{σ:St}(r:SRep K ρ H S σ)(g:Grow K ρ H a H'):SRep K a H' S σ:=⟨r.len,λi d e=>let ⟨v,h1,h2⟩:=r.get i d e;⟨v,h1,h2.grow g⟩⟩
theorem SRep.set{K:t8}{ρ:List c6}{H:Hp}{S:SD}{σ:St}(r:SRep K ρ H S σ)(i:Nat){d:D}{v:V}(h:u4 K ρ H d v):SRep K ρ H (S.set i<|a7 d) (σ.set i<|a7 v):=by refine⟨by rw[Mu,Mu];exact r.len,λj e L=>?_⟩;by_cases a:i=j;subst a;by_cases g:i<S.length;rw[Lp g]at L;cases L;exact⟨v,by rw[Lp<|by rw[<-r.len];exact g],h⟩;rw[Mf<|by rw[Mu];lia]at L;cases L;rw[KY a]at L;rw[KY a];exact r.get j e L
abbrev DK:=D->t9->Prop
abbrev v5:=SD->t9->DK->Prop
abbrev D9:=SD->t9->(Bool->t9->Prop)->Prop
abbrev D4:=SD->t9->(List D->t9->Prop)->Prop
structure DEnds where
 nx:SD->t9->Prop
 rt:DK
 bk:SD->t9->Prop:=λ_ _=>False
 ct:SD->t9->Prop:=λ_ _=>False
abbrev t7:=DEnds->SD->t9->Prop
abbrev G1:=D->SD->t9->(SD->t9->Prop)->Prop
abbrev DR:=List D->SD->t9->(SD->t9->Prop)->Prop
abbrev E9:=D->D->t9->DK->Prop
abbrev PN:=D->t9->DK->Prop
abbrev B7:=List D->t9->DK->Prop
section
variable(K:t8)
inductive VQ(ρ:List c6)(H:Hp)(Q:DK)(v:V)(H':Hp):Prop
 |mk (d:D) (M':t9) (ρ':List c6) (s:u9 K ρ' M' H') (g:Grow K ρ H ρ' H') (r:u4 K ρ' H' d v) (q:Q d M')
inductive BQ(ρ:List c6)(H:Hp)(Q:Bool->t9->Prop)(b:Bool)(H':Hp):Prop
 |mk (M':t9) (ρ':List c6) (s:u9 K ρ' M' H') (g:Grow K ρ H ρ' H') (q:Q b M')
inductive AQ(ρ:List c6)(H:Hp)(Q:List D->t9->Prop)(vs:List V)(H':Hp):Prop
 |mk (ds:List D) (M':t9) (ρ':List c6) (s:u9 K ρ' M' H') (g:Grow K ρ H ρ' H') (r:Reps K ρ' H' ds vs) (q:Q ds M')
inductive SQ(ρ:List c6)(H:Hp)(Q:SD->t9->Prop)(σ':St)(H':Hp):Prop
 |mk (S':SD) (M':t9) (ρ':List c6) (s:u9 K ρ' M' H') (g:Grow K ρ H ρ' H') (r:SRep K ρ' H' S' σ') (q:Q S' M')
structure NT(ρ:List c6)(H:Hp)(F:DEnds)(E:Ends):Prop where
 nx:∀σ' H',SQ K ρ H F.nx σ' H'->E.nx σ' H'
 rt:∀v H',VQ K ρ H F.rt v H'->E.rt v H'
 bk:∀σ' H',SQ K ρ H F.bk σ' H'->E.bk σ' H'
 ct:∀σ' H',SQ K ρ H F.ct σ' H'->E.ct σ' H'
inductive lowE(t:v5)(σ:St)(H:Hp)(R:VK):Prop
 |mk (S:SD) (M:t9) (ρ:List c6) (Q:DK) (s:u9 K ρ M H) (sr:SRep K ρ H S σ) (q:t S M Q) (k:∀v H',VQ K ρ H Q v H'->R v H')
inductive lowT(t:D9)(σ:St)(H:Hp)(R:Bool->Hp->Prop):Prop
 |mk (S:SD) (M:t9) (ρ:List c6) (Q:Bool->t9->Prop) (s:u9 K ρ M H) (sr:SRep K ρ H S σ) (q:t S M Q) (k:∀v H',BQ K ρ H Q v H'->R v H')
inductive lowA(t:D4)(σ:St)(H:Hp)(R:List V->Hp->Prop):Prop
 |mk (S:SD) (M:t9) (ρ:List c6) (Q:List D->t9->Prop) (s:u9 K ρ M H) (sr:SRep K ρ H S σ) (q:t S M Q) (k:∀v H',AQ K ρ H Q v H'->R v H')
inductive lowS(t:t7)(E:Ends)(σ:St)(H:Hp):Prop
 |mk (S:SD) (M:t9) (ρ:List c6) (F:DEnds) (s:u9 K ρ M H) (sr:SRep K ρ H S σ) (q:t F S M) (k:NT K ρ H F E)
inductive lowG(g:G1)(v:V)(σ:St)(H:Hp)(R:St->Hp->Prop):Prop
 |mk (d:D) (S:SD) (M:t9) (ρ:List c6) (Q:SD->t9->Prop) (s:u9 K ρ M H) (sr:SRep K ρ H S σ) (r:u4 K ρ H d v) (q:g d S M Q) (k:∀σ' H',SQ K ρ H Q σ' H'->R σ' H')
inductive lowGs(g:DR)(vs:List V)(σ:St)(H:Hp)(R:St->Hp->Prop):Prop
 |mk (ds:List D) (S:SD) (M:t9) (ρ:List c6) (Q:SD->t9->Prop) (s:u9 K ρ M H) (sr:SRep K ρ H S σ) (r:Reps K ρ H ds vs) (q:g ds S M Q) (k:∀σ' H',SQ K ρ H Q σ' H'->R σ' H')
inductive lowR(r:E9)(vx vy:V)(H:Hp)(R:VK):Prop
 |mk (x y:D) (M:t9) (ρ:List c6) (Q:DK) (s:u9 K ρ M H) (r1:u4 K ρ H x vx) (r2:u4 K ρ H y vy) (q:r x y M Q) (k:∀v H',VQ K ρ H Q v H'->R v H')
inductive lowU(r:PN)(vx:V)(H:Hp)(R:VK):Prop
 |mk (x:D) (M:t9) (ρ:List c6) (Q:DK) (s:u9 K ρ M H) (r1:u4 K ρ H x vx) (q:r x M Q) (k:∀v H',VQ K ρ H Q v H'->R v H')
inductive lowC(r:B7)(vs:List V)(H:Hp)(R:VK):Prop
 |mk (ds:List D) (M:t9) (ρ:List c6) (Q:DK) (s:u9 K ρ M H) (r1:Reps K ρ H ds vs) (q:r ds M Q) (k:∀v H',VQ K ρ H Q v H'->R v H')
end
def DE(X:Cx)(e:f6)(t:v5):Prop:=PE X e<|lowE X.K t
def DT(X:Cx)(e:f6)(t:D9):Prop:=PT X e<|lowT X.K t
def DW(X:Cx)(e:f6)(t:D9):Prop:=PW X e<|lowT X.K t
def DA(X:Cx)(es:List f6)(t:D4):Prop:=PA X es<|lowA X.K t
def DS(X:Cx)(st:g7)(t:t7):Prop:=PS X st<|lowS X.K t
def Ls(X:Cx)(st:List g7)(t:t7):Prop:=G9 X st<|lowS X.K t
def DG(X:Cx)(t:f6)(g:G1):Prop:=PG X t<|lowG X.K g
def N3(X:Cx)(t:List f6)(g:DR):Prop:=NX X t<|lowGs X.K g
def F5(X:Cx)(f:b7->b7->Sem b7)(r:E9):Prop:=C6 X f<|lowR X.K r
def UnD(X:Cx)(f:b7->Sem b7)(r:PN):Prop:=UnR X f<|lowU X.K r
def nD(X:Cx)(f:b7)(r:B7):Prop:=eH X f<|lowC X.K r
section
variable{K:t8}{ρ ρ1:List c6}{H H1:Hp}
theorem VQ.trans(g:Grow K ρ H ρ1 H1)(h:VQ K ρ1 H1 Q v H'):VQ K ρ H Q v H':=by obtain⟨d,M,a,s,b,r,q⟩:=h;exact⟨d,M,a,s,g.trans b,r,q⟩
theorem BQ.trans(g:Grow K ρ H ρ1 H1)(h:BQ K ρ1 H1 Q v H'):BQ K ρ H Q v H':=by obtain⟨M,a,s,b,q⟩:=h;exact⟨M,a,s,g.trans b,q⟩
theorem SQ.trans(g:Grow K ρ H ρ1 H1)(h:SQ K ρ1 H1 Q v H'):SQ K ρ H Q v H':=by obtain⟨d,M,a,s,b,r,q⟩:=h;exact⟨d,M,a,s,g.trans b,r,q⟩
theorem NT.trans(g:Grow K ρ H ρ1 H1)(h:NT K ρ H F E):NT K ρ1 H1 F E:=⟨λa H' q=>h.nx a H'<|SQ.trans g q,λv H' q=>h.rt v H'<|VQ.trans g q,λa H' q=>h.bk a H'<|SQ.trans g q,λa H' q=>h.ct a H'<|SQ.trans g q⟩
theorem VQ.now(s:u9 K ρ M H)(r:u4 K ρ H d v)(q:Q d M):VQ K ρ H Q v H:=⟨d,M,ρ,s,.refl,r,q⟩
end
section
variable{K:t8}{ρ:List c6}{H:Hp}{v:V}{vs:List V}
theorem u4.inv_non(h:u4 K ρ H .non v):v=.non:=by cases h;rfl
theorem u4.inv_bl(h:u4 K ρ H (.bl b) v):v=.bl b:=by cases h;rfl
theorem u4.inv_int(h:u4 K ρ H (.int i) v):v=.int i:=by cases h;rfl
theorem u4.inv_str(h:u4 K ρ H (.str x) v):v=.str x:=by cases h;rfl
theorem u4.inv_ty(h:u4 K ρ H (.ty n) v):v=.ty n:=by cases h;rfl
theorem u4.inv_tup(h:u4 K ρ H (.tup ds) v):∃a vs,v=.ref a/\A6 K H a vs/\Reps K ρ H ds vs:=by cases h with|tup h r=>exact⟨_,_,rfl,h,r⟩
theorem u4.inv_ref(h:u4 K ρ H (.ref n) v):∃a,v=.ref a/\ρ[n]?=a7 a:=by cases h with|ref h=>exact⟨_,rfl,h⟩
theorem ar.inv_cons(h:ar (x::vs) us):∃u ws,us=u::ws/\aH x u/\ar vs ws:=by cases h with|cons h t=>exact⟨_,_,rfl,h,t⟩
theorem ar.inv_nil(h:ar [] us):us=[]:=by cases h;rfl
theorem Reps.inv_nil(h:Reps K ρ H [] vs):vs=[]:=by cases h;rfl
theorem Reps.inv_cons(h:Reps K ρ H (d::ds) vs):∃v ws,vs=v::ws/\u4 K ρ H d v/\Reps K ρ H ds ws:=by cases h with|cons h t=>exact⟨_,_,rfl,h,t⟩
end
end
theorem PE.imp(h:PE X e t')(i:∀σ H R,t σ H R->t' σ H R):PE X e t:=λp s σ H R I q=>h p s σ H R I<|i σ H R q
theorem PT.imp(h:PT X e t')(i:∀σ H R,t σ H R->t' σ H R):PT X e t:=λp s σ H R I q=>h p s σ H R I<|i σ H R q
theorem PW.imp(h:PW X e t')(i:∀σ H R,t σ H R->t' σ H R):PW X e t:=λw p s σ H R I q=>h w p s σ H R I<|i σ H R q
theorem PA.imp(h:PA X e t')(i:∀σ H R,t σ H R->t' σ H R):PA X e t:=λa p s σ H R I q=>h a p s σ H R I<|i σ H R q
theorem PS.imp(h:PS X e t')(i:∀E σ H,t E σ H->t' E σ H):PS X e t:=λp s σ H R I q=>h p s σ H R I<|i R σ H q
theorem G9.imp(h:G9 X e t')(i:∀E σ H,t E σ H->t' E σ H):G9 X e t:=λp s σ H R I q=>h p s σ H R I<|i R σ H q
theorem C6.imp(h:C6 X f r')(i:∀x y H R,r x y H R->r' x y H R):C6 X f r:=λp s σ H x y v u R I a b q=>h p s σ H x y v u R I a b<|i x y H R q
theorem eH.imp(h:eH X f r')(i:∀xs H R,r xs H R->r' xs H R):eH X f r:=λp s σ H xs us R I a q=>h p s σ H xs us R I a<|i xs H R q
section
variable{X:Cx}{a b c:f6}{ta tb tc:v5}{pos:f8}
def ac(i:Nat):v5:=λS M Q=>match S[i]? with
 |some (a7 d)=>Q d M
 |_=>False
def dC(d:D):v5:=λ_ M Q=>Q d M
theorem BV{K:t8}{i:Nat}(σ:St)(H:Hp)(R:VK)(h:lowE K (ac i) σ H R):tVar i σ H R:=by
 obtain⟨S,M,ρ,Q,s,r,q,k⟩:=h;unfold ac at q;cases e:S[i]? with
 |none=>rw[e]at q;exact q.elim
 |some o =>
  cases o with
  |none=>rw[e]at q;exact q.elim
  |some d=>rw[e]at q;obtain⟨v,c,a⟩:=r.get i d e;exact⟨v,c,k v H<|VQ.now s a q⟩
theorem d_var(h:X.N[i]?=a7 x:=by rfl)(c:MD X.env.scope x:=by first|exact Or.inl rfl|exact Or.inr (Or.inl rfl)|exact Or.inr<|Or.inr rfl)(a:(x==("__debug__":b9))=bt:=by decide)(d:(x==("__classdict__":b9))=bt:=by decide):DE X (.Name x pos) (ac i):=PE.imp (Dm h c a d) BV
noncomputable def cV:D->Option V
 |.non=>a7 .non
 |.bl b=>a7<|.bl b
 |.int i=>a7<|.int i
 |.str x=>a7<|.str x
 |.ty n=>a7<|.ty n
 |_=>a8
theorem AD{K:t8}{ρ:List c6}{H:Hp}{d:D}{v:V}(h:cV d=a7 v):u4 K ρ H d v:=by
 cases d with
 |non=>cases h;exact .non
 |bl b=>cases h;exact .bl b
 |int b=>cases h;exact .int b
 |str b=>cases h;exact .str b
 |ty b=>cases h;exact .ty b
 |tup b=>cases h
 |ref b=>cases h
theorem sD{K:t8}{d:D}{v:V}(a:cV d=a7 v)(σ:St)(H:Hp)(R:VK)(h:lowE K (dC d) σ H R):tC v σ H R:=by obtain⟨S,M,ρ,Q,s,r,q,k⟩:=h;exact k v H<|VQ.now s (AD a) q
theorem d_int{i:Int}{j:Nat}:DE X (.Constant (.int i) j pos) (dC<|.int i):=PE.imp HN<|sD rfl
theorem d_bl{i:Bool}{j:Nat}:DE X (.Constant (.bool i) j pos) (dC<|.bl i):=PE.imp pe_bl<|sD rfl
theorem d_non{j:Nat}:DE X (.Constant .none j pos) (dC .non):=PE.imp HL<|sD rfl
theorem d_str{i:b9}{j:Nat}:DE X (.Constant (.str i) j pos) (dC<|.str i):=PE.imp HH<|sD rfl
theorem JV{x:b9}{T:String}(m:X.mg x=a8)(c:d7 x=a7 (.type T))(S:Gl X x:=by rfl)(f:x≠"__name__":=by decide)(d:(x==("__debug__":b9))=bt:=by decide):DE X (.Name x pos) (dC<|.ty T):=PE.imp (zc (v:=.ty T) S m c rfl f d)<|sD rfl
theorem low2{K:t8}{S:SD}{M:t9}{ρ:List c6}{σ:St}{H:Hp}{P:D->D->t9->Prop}{G:V->V->Hp->Prop}(s:u9 K ρ M H)(r:SRep K ρ H S σ)(h:ta S M λx M1=>tb S M1 λy M2=>P x y M2)(k:∀x y vx vy M2 ρ2 H2,u9 K ρ2 M2 H2->Grow K ρ H ρ2 H2->u4 K ρ2 H2 x vx->u4 K ρ2 H2 y vy->P x y M2->G vx vy H2):lowE K ta σ H λvx H1=>lowE K tb σ H1 λvy H2=>G vx vy H2:=by refine⟨S,M,ρ,_,s,r,h,?_⟩;rintro vx H1 ⟨x,M1,c,d,g1,a,b⟩;refine⟨S,M1,c,_,d,r.grow g1,b,?_⟩;rintro vy H2 ⟨y,M2,ρ2,n,i,l,g⟩;exact k x y vx vy M2 ρ2 H2 n (g1.trans i) (a.grow i) l g
def tx(r:E9)(t b:v5):v5:=λS M Q=>t S M λx a=>b S a λy M2=>r x y M2 Q
theorem pL{K:t8}{r:E9}(σ:St)(H:Hp)(R:VK)(h:lowE K (tx r ta tb) σ H R):NK (lowR K r) (lowE K ta) (lowE K tb) σ H R:=by obtain⟨S,M,ρ,Q,s,b,q,k⟩:=h;exact low2 s b q λx y e f M2 d c n i a l g=>⟨x,y,M2,d,Q,n,a,l,g,λv H' w=>k v H'<|VQ.trans i w⟩
theorem d_op(B:F5 X (j1 op) r)(f:DE X a ta)(d:DE X b tb):DE X (.BinOp a op b pos) (tx r ta tb):=PE.imp (pe_op B f d) pL
theorem d_cmp(B:F5 X (j2 op) r)(f:DE X a ta)(d:DE X b tb)(m:j3 op b=bt:=by with_unfolding_all rfl):DE X (.Compare a [op] [b] pos) (tx r ta tb):=PE.imp (EI B f d m) pL
def aE(t:v5):D9:=λS M Q=>t S M λx a=>match x with
 |.bl b=>Q b a
 |_=>False
theorem sC{K:t8}{t:v5}(σ:St)(H:Hp)(R:Bool->Hp->Prop)(h:lowT K (aE t) σ H R):GY (lowE K t) σ H R:=by
 obtain⟨S,M,ρ,Q,s,r,q,k⟩:=h;refine⟨S,M,ρ,_,s,r,q,?_⟩;rintro v H' ⟨d,c,a,s',g,r',j⟩;cases r' with
 |bl b=>exact⟨b,rfl,k b H' ⟨c,a,s',g,j⟩⟩
 |_=>exact j.elim
theorem JI(B:F5 X (j2 op) r)(f:DE X a ta)(d:DE X b tb)(m:j3 op b=bt:=by with_unfolding_all rfl):DT X (.Compare a [op] [b] pos) (aE<|tx r ta tb):=by refine PT.imp (Ew B f d m) λσ H R h=>?_;obtain⟨S,M,ρ,Q,s,c,q,k⟩:=sC σ H R h;exact pL σ H _ ⟨S,M,ρ,Q,s,c,q,k⟩
theorem JG(h:DE X e t)(i:∀whole,isTrue e X.env whole=(do let v <-whole;standAt e.pos;g8 [v] (truthy v)):=by intro _;rfl):DT X e (aE t):=PT.imp (Hr h i) sC
def OF(z:D)(k:Bool->Prop):Prop:=match z with
 |.bl b=>k b
 |_=>False
theorem Do{b:Bool}{k:Bool->Prop}:OF (.bl b) k=k b:=rfl
def tj(r r':E9)(t e f:v5):v5:=λS M Q=>t S M λx c=>e S c λy M2=>r x y M2 λz a=>OF z λb=>if b=a9 then f S a λw d=>r' y w d Q else Q (.bl bt) a
theorem xv{K:t8}{r r':E9}(σ:St)(H:Hp)(R:VK)(h:lowE K (tj r r' ta tb tc) σ H R):Dk (lowR K r) (lowR K r') (lowE K ta) (lowE K tb) (lowE K tc) σ H R:=by
 obtain⟨S,M,ρ,Q,s,m,q,k⟩:=h;refine low2 s m q λx y E F M2 d A u i t l p=>⟨x,y,M2,d,_,u,t,l,p,?_⟩
 rintro I n ⟨z,c,a,f,g3,C,j⟩;cases C with
 |bl b =>
  cases b with
  |false=>exact⟨bt,rfl,dz<|k _ n ⟨_,c,a,f,i.trans g3,.bl bt,(show Q (.bl bt) c from j)⟩⟩
  |true=>refine⟨a9,rfl,dB ⟨S,c,a,_,f,m.grow<|i.trans g3,(show tc S c _ from j),?_⟩⟩;rintro D B ⟨w,o,e,P,g,L,G⟩;exact⟨y,w,o,e,Q,P,l.grow<|g3.trans g,L,G,λv H' Y=>k v H'<|VQ.trans ((i.trans g3).trans g) Y⟩
 |_=>exact j.elim
theorem Gq(B:F5 X (j2 op) r)(h:F5 X (j2 op') r')(f:DE X a ta)(d:DE X b tb)(e:DE X c tc)(m:lastMarks [op,op'] [b,c]=bt:=by with_unfolding_all rfl):DE X (.Compare a [op,op'] [b,c] pos) (tj r r' ta tb tc):=PE.imp (BB B h f d e m) xv
variable{tA tB:D9}{aF:List f6}
def dAnd(t u:D9):D9:=λS M Q=>t S M λb a=>if b=a9 then u S a Q else Q bt a
def Ng(t u:D9):D9:=λS M Q=>t S M λb a=>if b=a9 then Q a9 a else u S a Q
def Gs(t:D9):D9:=λS M Q=>t S M λb a=>Q (!b) a
theorem Ga(f:DT X a tA):DW X (.BoolOp .And [a] pos) tA:=Er f
theorem JE(f:DT X a tA):DW X (.BoolOp .Or [a] pos) tA:=Hn f
theorem JF(h:DT X a tA)(i:DW X (.BoolOp .And (b::aF) pos) tB):DW X (.BoolOp .And (a::b::aF) pos) (dAnd tA tB):=by
 refine PW.imp (Hq h i) ?_;rintro σ H R ⟨S,M,ρ,Q,s,r,q,k⟩;refine⟨S,M,ρ,_,s,r,q,?_⟩;rintro c H1 ⟨e,d,g,g1,f⟩;cases c with
 |true=>exact dB ⟨S,e,d,Q,g,r.grow g1,(show tB S e Q from f),λv H' w=>k v H'<|BQ.trans g1 w⟩
 |false=>exact dz<|k bt H1 ⟨e,d,g,g1,f⟩
theorem dw_or(h:DT X a tA)(i:DW X (.BoolOp .Or (b::aF) pos) tB):DW X (.BoolOp .Or (a::b::aF) pos) (Ng tA tB):=by
 refine PW.imp (pw_or h i) ?_;rintro σ H R ⟨S,M,ρ,Q,s,r,q,k⟩;refine⟨S,M,ρ,_,s,r,q,?_⟩;rintro c H1 ⟨e,d,g,g1,f⟩;cases c with
 |false=>exact dz ⟨S,e,d,Q,g,r.grow g1,(show tB S e Q from f),λv H' w=>k v H'<|BQ.trans g1 w⟩
 |true=>exact dB<|k a9 H1 ⟨e,d,g,g1,f⟩
theorem dw_t(h:DW X e t):DT X e t:=PW.pt h
theorem JH(f:DT X a tA):DT X (.UnaryOp .Not a pos) (Gs tA):=by refine PT.imp (Hs f) ?_;rintro σ H R ⟨S,M,ρ,Q,s,r,q,k⟩;refine⟨S,M,ρ,_,s,r,q,?_⟩;rintro c H1 ⟨d,b,g,g1,e⟩;exact k (!c) H1 ⟨d,b,g,g1,e⟩
def tq(t c:v5):v5:=λS M Q=>t S M λx a=>OF x λb=>if b=a9 then c S a Q else Q (.bl bt) a
def dOrV(t c:v5):v5:=λS M Q=>t S M λx a=>OF x λb=>if b=a9 then Q (.bl a9) a else c S a Q
def CV(t:v5):v5:=λS M Q=>t S M λx a=>match x with
 |.bl b=>Q (.bl<|!b) a
 |_=>False
theorem d_one{op}(h:DE X a ta):DE X (.BoolOp op [a] pos) ta:=HJ h
theorem d_and(i:DE X a ta)(j:DE X (.BoolOp .And (b::aF) pos) tb):DE X (.BoolOp .And (a::b::aF) pos) (tq ta tb):=by
 refine PE.imp (HR i j) ?_;rintro σ H R ⟨S,M,ρ,Q,s,r,q,k⟩;refine⟨S,M,ρ,_,s,r,q,?_⟩;rintro v H1 ⟨d,f,e,h,g1,l,g⟩;cases l with
 |bl c =>
  cases c with
  |true=>exact⟨a9,rfl,dB ⟨S,f,e,Q,h,r.grow g1,(show tb S f Q from g),λv H' w=>k v H'<|VQ.trans g1 w⟩⟩
  |false=>exact⟨bt,rfl,dz<|k _ H1 ⟨_,f,e,h,g1,.bl bt,(show Q (.bl bt) f from g)⟩⟩
 |_=>exact g.elim
theorem d_or(i:DE X a ta)(j:DE X (.BoolOp .Or (b::aF) pos) tb):DE X (.BoolOp .Or (a::b::aF) pos) (dOrV ta tb):=by
 refine PE.imp (pe_or i j) ?_;rintro σ H R ⟨S,M,ρ,Q,s,r,q,k⟩;refine⟨S,M,ρ,_,s,r,q,?_⟩;rintro v H1 ⟨d,f,e,h,g1,l,g⟩;cases l with
 |bl c =>
  cases c with
  |false=>exact⟨bt,rfl,dz ⟨S,f,e,Q,h,r.grow g1,(show tb S f Q from g),λv H' w=>k v H'<|VQ.trans g1 w⟩⟩
  |true=>exact⟨a9,rfl,dB<|k _ H1 ⟨_,f,e,h,g1,.bl a9,(show Q (.bl a9) f from g)⟩⟩
 |_=>exact g.elim
theorem d_not(h:DE X a ta):DE X (.UnaryOp .Not a pos) (CV ta):=by
 refine PE.imp (HK h) ?_;rintro σ H R ⟨S,M,ρ,Q,s,i,q,k⟩;refine⟨S,M,ρ,_,s,i,q,?_⟩;rintro v H1 ⟨d,f,b,g,g1,r,e⟩;cases r with
 |bl c=>exact⟨c,rfl,k _ H1 ⟨_,f,b,g,g1,.bl<|!c,e⟩⟩
 |_=>exact e.elim
def dIfE(t:D9)(c d:v5):v5:=λS M Q=>t S M λb a=>if b=a9 then c S a Q else d S a Q
theorem Gp(j:DT X t tA)(h:DE X a ta)(i:DE X b tb):DE X (.IfExp t a b pos) (dIfE tA ta tb):=by
 refine PE.imp (Bz j h i) ?_;rintro σ H R ⟨S,M,ρ,Q,s,r,q,k⟩;refine⟨S,M,ρ,_,s,r,q,?_⟩;rintro c H1 ⟨e,d,g,g1,f⟩;cases c with
 |true=>exact dB ⟨S,e,d,Q,g,r.grow g1,(show ta S e Q from f),λv H' w=>k v H'<|VQ.trans g1 w⟩
 |false=>exact dz ⟨S,e,d,Q,g,r.grow g1,(show tb S e Q from f),λv H' w=>k v H'<|VQ.trans g1 w⟩
variable{e:f6}{es:List f6}{te:v5}{t:D4}
def ag:D4:=λ_ M Q=>Q [] M
def aa(te:v5)(t:D4):D4:=λS M Q=>te S M λd a=>t S a λds M2=>Q (d::ds) M2
theorem JU:DA X [] ag:=by refine PA.imp ze ?_;rintro σ H R ⟨S,M,ρ,Q,s,b,q,k⟩;exact k [] H ⟨[],M,ρ,s,.refl,.nil,q⟩
theorem Gn(h:DE X e te)(r:DA X es t)(hs:ge (e::es) X.env=(bt,eval e X.env)::ge es X.env:=by rfl):DA X (e::es) (aa te t):=by refine PA.imp (mq h r hs) ?_;rintro σ H R ⟨S,M,ρ,Q,s,b,q,k⟩;refine⟨S,M,ρ,_,s,b,q,?_⟩;rintro v H1 ⟨d,g,c,o,g1,m,j⟩;refine⟨S,g,c,_,o,b.grow g1,j,?_⟩;rintro vs f ⟨ds,M2,a,p,i,n,l⟩;exact k _ f ⟨d::ds,M2,a,p,g1.trans i,.cons (m.grow i) n,l⟩
def fL(t:D4):v5:=λS M Q=>t S M λds a=>ds.length<=sizeLine/\Q (.tup ds) a
def fN(t:D4):v5:=λS M Q=>t S M λds a=>ds.length<=sizeLine/\Q (.ref a.length) (a++[.lst ds])
theorem VQ.laidT{K:t8}{ρ c:List c6}{H H1:Hp}{a:t9}{ds:List D}{vs:List V}{Q:DK}{p:c6}(s:u9 K c a H1)(g1:Grow K ρ H c H1)(r:Reps K c H1 ds vs)(h:H1 p=a8)(q:Q (.tup ds) a):VQ K ρ H Q (.ref p) (v8 H1 p<|.tup vs):=⟨.tup ds,a,c,s.laid h,g1.trans<|Grow.laid h,.tup (A6.of aZ)<|r.grow<|Grow.laid h,q⟩
theorem VQ.laidL{K:t8}{ρ c:List c6}{H H1:Hp}{a:t9}{ds:List D}{vs:List V}{Q:DK}{p:c6}(s:u9 K c a H1)(g1:Grow K ρ H c H1)(r:Reps K c H1 ds vs)(h:H1 p=a8)(q:Q (.ref a.length) (a++[.lst ds])):VQ K ρ H Q (.ref p) (v8 H1 p<|.lst vs):=⟨.ref a.length,a++[.lst ds],c++[p],s.laidL h r,g1.trans<|Grow.laidR h,.ref s.last,q⟩
theorem d_tup{x1}(h:DA X es t):DE X (.Tuple es x1 pos) (fL t):=by refine PE.imp (HF h) ?_;rintro σ H R ⟨S,M,ρ,Q,s,d,q,k⟩;refine⟨S,M,ρ,_,s,d,q,?_⟩;rintro vs H1 ⟨ds,f,e,c,g1,r,z,b⟩;exact⟨by rw[<-r.length];exact z,λp a=>k _ _<|VQ.laidT c g1 r a b⟩
theorem d_lst(h:DA X es t):DE X (.List es pos) (fN t):=by refine PE.imp (HM h) ?_;rintro σ H R ⟨S,M,ρ,Q,s,d,q,k⟩;refine⟨S,M,ρ,_,s,d,q,?_⟩;rintro vs H1 ⟨ds,f,e,c,g1,r,z,b⟩;exact⟨by rw[<-r.length];exact z,λp a=>k _ _<|VQ.laidL c g1 r a b⟩
def u5(r:B7)(t:D4):v5:=λS M Q=>t S M λds a=>r ds a Q
theorem zB{K:t8}{r:B7}(σ:St)(H:Hp)(R:VK)(h:lowE K (u5 r t) σ H R):PC (lowC K r) (lowA K t) σ H R:=by obtain⟨S,M,ρ,Q,s,f,q,k⟩:=h;refine⟨S,M,ρ,_,s,f,q,?_⟩;rintro vs H1 ⟨ds,a,c,e,g1,d,b⟩;exact⟨ds,a,c,Q,e,d,b,λv H' w=>k v H'<|VQ.trans g1 w⟩
theorem Gr{x:b9}{p:f8}{id:String}{r:B7}(c:nD X (.builtin id) r)(d:X.mg x=a8)(v:d7 x=a7 (.builtin id))(f:DA X (e::es) t)(S:Gl X x:=by rfl)(n:x≠"__name__":=by decide)(b:(x==("__debug__":b9))=bt:=by decide)(i:ge (e::es) X.env=(bt,eval e X.env)::ge es X.env:=by rfl) (l:(f9 pos<|ge es X.env).any (·.1)=bt:=by rfl):DE X (.Call (.Name x p) (e::es) [] pos) (u5 r t):=PE.imp (pA c S d v f n b i l) zB
theorem CT(c:nD X (.type T) r)(d:X.mg x=a8)(v:d7 x=a7 (.type T))(f:DA X (e::es) t)(S:Gl X x:=by rfl)(n:x≠"__name__":=by decide)(b:(x==("__debug__":b9))=bt:=by decide)(i:ge (e::es) X.env=(bt,eval e X.env)::ge es X.env:=by rfl) (l:(f9 pos<|ge es X.env).any (·.1)=bt:=by rfl):DE X (.Call (.Name x p) (e::es) [] pos) (u5 r t):=PE.imp (zb c S d v f n b i l) zB
abbrev x5:=List D->t9->DK->Prop
def K1(K:t8)(P:x5):Sp:=λvs H Q _=>∃ds M ρ R,u9 K ρ M H/\Reps K ρ H ds vs/\P ds M R/\∀v H',VQ K ρ H R v H'->Q v H'
theorem zy{K:t8}{P:x5}(σ:St)(H:Hp)(R:VK)(h:lowE K (u5 P t) σ H R):Hb (K1 K P) [] E0 (lowA K t) σ H R:=by obtain⟨S,M,ρ,Q,s,e,q,k⟩:=h;exact⟨S,M,ρ,_,s,e,q,λvs H1 ⟨ds,a,c,d,g1,r,b⟩=>⟨ds,a,c,Q,d,by rw[KO];exact r,b,λv H' w=>k v H'<|VQ.trans g1 w⟩⟩
theorem Ka(F:FnOk X.prog X.w X.K X.mg X.base Ix k f fd ps (K1 X.K P))(r:Room k X.A)(m:X.mg x=a7 (.ref f))(h:LL X.K (.ref f)=a9)(d:nU X.K fd ps [])(a:DA X (e::es) t) (S:Gl X x:=by rfl) (b:(x==("__debug__":b9))=bt:=by decide) (i:ge (e::es) X.env=(bt,eval e X.env)::ge es X.env:=by rfl) (l:(f9 pos<|ge es X.env).any (·.1)=bt:=by rfl):DE X (.Call (.Name x p) (e::es) [] pos) (u5 P t):=PE.imp (EJ F r S m h d .nil pass0 a b i l) zy
end
section
variable{X:Cx}{st:g7}{aF:List g7}{t u:t7}{e:f6}{te:v5}{pos:f8}
def bj:t7:=λE S M=>E.nx S M
def ax(t u:t7):t7:=λE S M=>t { E with nx:=λb a=>u E b a } S M
theorem JM:Ls X [] bj:=by refine G9.imp Ez ?_;rintro E σ H ⟨S,M,ρ,F,s,b,q,k⟩;exact k.nx σ H ⟨S,M,ρ,s,.refl,b,q⟩
theorem JL(h:DS X st t):Ls X [st] t:=Ey h
theorem Gf(h1:DS X st t)(h2:Ls X aF u):Ls X (st::aF) (ax t u):=by refine G9.imp (Bt h1 h2) ?_;rintro E σ H ⟨S,M,ρ,F,s,r,q,k⟩;exact⟨S,M,ρ,_,s,r,q,⟨λe H' ⟨d,c,b,s',g,a,j⟩=>⟨d,c,b,F,s',a,j,k.trans g⟩,k.rt,k.bk,k.ct⟩⟩
def jy(te:v5):t7:=λE S M=>te S M λ_ a=>E.nx S a
theorem Ge(i:DE X e te)(hs:g9 e a8 pos.line X.env=pure bt:=by rfl):DS X (.Expr e pos) (jy te):=by refine PS.imp (EA i hs) ?_;rintro E σ H ⟨S,M,ρ,F,s,b,q,k⟩;refine⟨S,M,ρ,_,s,b,q,?_⟩;rintro v H1 ⟨d,a,c,g,g1,r,f⟩;exact k.nx σ H1 ⟨S,a,c,g,g1,b.grow g1,f⟩
def bn(te:v5):t7:=λE S M=>te S M E.rt
theorem JK(i:DE X e te):DS X (.Return (a7 e) pos) (bn te):=by refine PS.imp (Hv i) ?_;rintro E σ H ⟨S,M,ρ,F,s,b,q,k⟩;exact⟨S,M,ρ,_,s,b,q,λv H1 w=>k.rt v H1 w⟩
def B6(c:D9)(t u:t7):t7:=λE S M=>c S M λb a=>if b=a9 then t E S a else u E S a
theorem ds_if(j:DT X c tc)(h:Ls X a t)(i:Ls X b u):DS X (.If c a b pos) (B6 tc t u):=by
 refine PS.imp (ps_if j h i) ?_;rintro E σ H ⟨S,M,ρ,F,s,r,q,k⟩;refine⟨S,M,ρ,_,s,r,q,?_⟩;rintro c H1 ⟨e,d,g,g1,f⟩;cases c with
 |true=>exact dB ⟨S,e,d,F,g,r.grow g1,(show t F S e from f),k.trans g1⟩
 |false=>exact dz ⟨S,e,d,F,g,r.grow g1,(show u F S e from f),k.trans g1⟩
def aT(te:v5)(i:Nat):t7:=λE S M=>te S M λd a=>E.nx (S.set i<|a7 d) a
theorem JJ(h:X.N.Nodup)(f:DE X e te)(hi:X.N[i]?=a7 x:=by rfl)(j:Mm X.env.scope x:=by first|exact Or.inl rfl|exact Or.inr rfl)(hs:g9 e (a7<|.Name x pos') pos.line X.env=pure bt:=by rfl)(g:X.fn x=a9\/X.env.scope.names.lookup x=a7 .local:=by first|exact .inl rfl|exact .inr rfl|assumption):DS X (.Assign [.Name x pos'] e pos) (aT te i):=by refine PS.imp (Hu h hi j f hs g) ?_;rintro E σ H ⟨S,M,ρ,F,s,b,q,k⟩;refine⟨S,M,ρ,_,s,b,q,?_⟩;rintro v H1 ⟨d,a,c,m,g1,r,l⟩;exact k.nx _ H1 ⟨_,a,c,m,g1,(b.grow g1).set i r,l⟩
def am(i:Nat):G1:=λd S M Q=>Q (S.set i<|a7 d) M
theorem uQ(h:X.N.Nodup)(hi:X.N[i]?=a7 x:=by rfl)(a:Mm X.env.scope x:=by first|exact Or.inl rfl|exact Or.inr rfl)(f:X.fn x=a9\/X.env.scope.names.lookup x=a7 .local:=by first|exact .inl rfl|exact .inr rfl|assumption):DG X (.Name x pos) (am i):=λp s σ H v u R I r ⟨d,S,M,ρ,Q,m,c,b,q,k⟩=>EG h hi a f p s σ H v u R I r<|k _ H ⟨_,M,ρ,m,.refl,c.set i b,q⟩
end
theorem wT{P:c5}{w:c3}{K:t8}{Z:f6}(it:c6)(n:Nat)(M:Nat->b7->Prop)(PX:Nat->V->Prop)(Sx:Nat->c8->Prop)(W:∀A':d8,A'.handled=a8->Walks P w A' it [it] [it] n M Sx) (l:∀i v,M i v->∃x,aH x v/\PX i x)(j:∀i h,Sx i h->∃(o:c7) (nm:String) (vs:Array b7),h.get? it=a7 o/\o.cls=.type nm/\o.data=.fields vs/\["enumerate","zip","dict_itemiterator","dict_reverseitemiterator","odict_iterator","itertools.zip_longest","itertools.pairwise"].contains nm=bt)(a:∀(i:Nat) (h h':c8),Sx i h->(∀o,h.get? it=a7 o->h'.get? it=a7 o)->Sx i h')(g:∀(A:d8) (i:Nat) (s:d9) (Q:b7->d9->Prop) (E:b7->d9->Prop),Sx i s.heap->Q (.ref it) s->e8 (f7 P w) A (i8<|.ref it) Q E s):Turn P w K Z ⟨λi _=>i<n,λi H x H'=>H'=H/\PX i x,λi _=>i=n⟩ [it] it Sx where
 mem:=by simp
 obj:=λi h st b f=>by
  have e:b=it:=by simpa using f
  subst e;obtain⟨o,nm,vs,e,_,d,_⟩:=j i h st;exact⟨o,e,λv z=>by rw[d]at z;cases z⟩
 keep:=λi h h' st k=>a i h h' st λo e=>k it (by simp) o e
 item:=by intro X D G C F i p s σ H E I q st S;subst D G C;obtain⟨r,t,O,u,y,B⟩:=q it (by simp);refine(W X.A<|I.ok.hd F).item i s _ _ S st λv h' L T m J=>?_;obtain⟨x,Y,U⟩:=l i v T;have N:t4 X p σ H { s with heap:=h',toks:=L }:=I.turned (λb o f e=>J b o (by simpa using f) e) r t u y B;obtain⟨o,nm,vs,e,c,d,R⟩:=j _ _ m;exact⟨v,rfl,uM (s:={ s with heap:=h',toks:=L }) e c d R ⟨x,H,N,Y,⟨rfl,U⟩,m,λb f=>(q b f).1⟩⟩
 done:=by intro X D G C F i p s σ H E I q st S;subst D G C;obtain⟨r,t,O,u,y,B⟩:=q it (by simp);have hi:i=n:=S;subst hi;exact(W X.A<|I.ok.hd F).done s _ _ st λh' L J=>⟨rfl,I.turned (λb o f e=>J b o (by simpa using f) e) r t u y B⟩
 self:=g
noncomputable def yR(x:b9):List D:=x.cps.toList.map λc=>.str ⟨#[c]⟩
structure OI where
 items:List D
 ok:t9->Prop
abbrev KL:=SD->t9->(OI->t9->Prop)->Prop
structure KJ(K:t8)(src:OI)(ρ0:List c6)(H0:Hp)(J:It):Prop where
 go:∀(i:Nat) ρ M H,u9 K ρ M H->Grow K ρ0 H0 ρ H->src.ok M->i<src.items.length->J.go i H
 yld:∀(i:Nat) ρ M H x H',u9 K ρ M H->Grow K ρ0 H0 ρ H->src.ok M->i<src.items.length->J.yld i H x H'->∃d ρ',src.items[i]?=a7 d/\u9 K ρ' M H'/\Grow K ρ H ρ' H'/\u4 K ρ' H' d x
 stop:∀(ρ:List c6) M H,u9 K ρ M H->Grow K ρ0 H0 ρ H->src.ok M->J.stop src.items.length H
def IQ(K:t8)(ρ:List c6)(H:Hp)(Q:OI->t9->Prop):It->Hp->Prop:=λJ H'=>∃src M a,u9 K a M H'/\Grow K ρ H a H'/\KJ K src a H' J/\Q src M
def lowI(K:t8)(i:KL):TI:=λσ H R=>∃S M ρ Q,u9 K ρ M H/\SRep K ρ H S σ/\i S M Q/\∀J H',IQ K ρ H Q J H'->R J H'
def DI(X:Cx)(g r:f6)(i:KL):Prop:=PI X g r<|lowI X.K i
theorem KJ.tup{K:t8}{ρ:List c6}{H:Hp}{a:c6}{vs:List V}{ds:List D}(h:A6 K H a vs)(r:Reps K ρ H ds vs)(q:∀ys,A6 K H a ys->ys=vs):KJ K ⟨ds,λ_=>True⟩ ρ H (Qo K a) where
 go:=λi b M H' s g _ hi=>by
  have l:i<vs.length:=by rw[<-r.length];exact hi
  exact⟨vs,vs[i],g.tup a vs h,v9 l⟩
 yld:=λi b M H' x f s g _ hi y=>by obtain⟨rfl,y⟩:=y;obtain⟨d,c,e⟩:=(r.grow g).getV<|y vs<|g.tup a vs h;exact⟨d,b,c,s,.refl,e⟩
 stop:=λb M H' s g _=>⟨vs,g.tup a vs h,by rw[<-r.length];exact u6 _⟩
theorem KJ.lst{K:t8}{ρ:List c6}{H:Hp}{n:Nat}{a:c6}{ds:List D}(e:ρ[n]?=a7 a):KJ K ⟨ds,λM=>al M n ds⟩ ρ H (Qp K a) where
 go:=λi b M H' s g ok hi=>by
  obtain⟨vs,h,r⟩:=al.seq s ok<|aq g.pre e;have l:i<vs.length:=by rw[<-r.length];exact hi
  exact⟨vs,vs[i],h,v9 l⟩
 yld:=λi b M H' x j s g ok hi y=>by obtain⟨rfl,y⟩:=y;obtain⟨vs,h,r⟩:=al.seq s ok<|aq g.pre e;obtain⟨d,c,f⟩:=r.getV<|y vs h;exact⟨d,b,c,s,.refl,f⟩
 stop:=λb M H' s g ok=>by obtain⟨vs,h,r⟩:=al.seq s ok<|aq g.pre e;exact⟨vs,h,by rw[<-r.length];exact u6 _⟩
theorem KJ.plain{K:t8}{ρ:List c6}{H:Hp}{ds:List D}{J:It}(S:∀i H,i<ds.length->J.go i H)(O:∀i H x H',i<ds.length->J.yld i H x H'->H'=H/\∃d,ds[i]?=a7 d/\cV d=a7 x)(hs:∀H,J.stop ds.length H):KJ K ⟨ds,λ_=>True⟩ ρ H J where
 go:=λi a M H' s g _ hi=>S i H' hi
 yld:=λi a M H' x b s g _ hi y=>by obtain⟨rfl,d,h,c⟩:=O i _ x b hi y;exact⟨d,a,h,s,.refl,AD c⟩
 stop:=λa M H' s g _=>hs H'
section
variable{X:Cx}{tg:f6}
def bN(te:v5):KL:=λS M R=>te S M λd a=>match d with
 |.tup ds=>ds.length<=sizeLine->R ⟨ds,λ_=>True⟩ a
 |.str x=>R ⟨yR x,λ_=>True⟩ a
 |.ref n=>∃xs,al a n xs/\(xs.length<=sizeLine->R ⟨xs,λM=>al M n xs⟩ a)
 |_=>False
theorem JQ(hl:DE X l tl):DI X tg l (bN tl):=by
 intro m s σ H R I h;obtain⟨S,M,ρ,Q,sm,sr,q,k⟩:=h;refine v6 (hl m s σ H _ I ⟨S,M,ρ,_,sm,sr,q,λv H' w=>w⟩) ?_;rintro u f ⟨v,H1,g,T,d,D,C,j,g1,r1,B⟩;cases r1 with
 |non=>exact B.elim
 |bl b=>exact B.elim
 |int i=>exact B.elim
 |ty n=>exact B.elim
 |@tup a vs ds J r =>
  cases T;obtain⟨its,rr,p,P⟩:=g.tuple J;refine wpAny_pyIter_tuple (show f.heap.IsTuple a its.toArray from p) ?_;refine⟨f.heap.objs.size,[f.heap.objs.size],_,_,H1,rfl,g.kept (t':=f.toks) λb o e=>w6 _ e,wU a _,⟨_,A9 _ rfl,rfl,rfl⟩,λb G=>?_,k _ H1 ⟨⟨ds,λ_=>True⟩,D,C,j,g1,KJ.tup J r λys hy=>g.tuple_inj hy J,?_⟩⟩;have e:b=f.heap.objs.size:=by simpa using G
  subst e;exact g.fpOk (u6 _)<|g.hok.fresh<|u6 _;exact(show ds.length<=sizeLine->Q ⟨ds,λ_=>True⟩ D from B)<|by rw[r.length];exact P
 |@ref n a V =>
  cases T;obtain⟨xs,hL,q2⟩:=(show ∃xs,al D n xs/\(xs.length<=sizeLine->Q ⟨xs,λM=>al M n xs⟩ D)from B)
  obtain⟨vs,J,r⟩:=al.seq j hL V;obtain⟨its,rr,p,P⟩:=g.list J;refine Pa p.isList ?_;refine⟨f.heap.objs.size,[f.heap.objs.size],_,_,H1,rfl,g.kept (t':=f.toks) λb o e=>w6 _ e,qH a _,⟨_,A9 _ rfl,rfl,rfl⟩,λb G=>?_,k _ H1 ⟨⟨xs,λM=>al M n xs⟩,D,C,j,g1,KJ.lst V,q2<|by rw[r.length];exact P⟩⟩;have e:b=f.heap.objs.size:=by simpa using G
  subst e;exact g.fpOk (u6 _)<|g.hok.fresh<|u6 _
 |str x =>
  obtain⟨t,rfl⟩:=T;have F:∀(z:String) (K:c7),(K.cls=.type z/\K.data=.fields #[.str x t,.int 0 0]) -> (∀L:d8,L.handled=a8->Walks X.prog X.w L f.heap.objs.size [f.heap.objs.size] [f.heap.objs.size] x.cps.size (SignAt x) (λi h=>h.IsStrIter f.heap.objs.size z x t i)) -> (∀(A:d8) (i:Nat) (s:d9) (Q:b7->d9->Prop) (E:b7->d9->Prop),s.heap.IsStrIter f.heap.objs.size z x t i->Q (.ref f.heap.objs.size) s->e8 (f7 X.prog X.w) A (i8<|.ref f.heap.objs.size) Q E s) -> ["enumerate","zip","dict_itemiterator","dict_reverseitemiterator","odict_iterator","itertools.zip_longest","itertools.pairwise"].contains z=bt->(f.heap.push K).IsStrIter f.heap.objs.size z x t 0 -> NW X m σ tg R (.ref f.heap.objs.size) { f with heap:=f.heap.push K }:=λz K ab W y O st=>by
   refine⟨f.heap.objs.size,[f.heap.objs.size],_,_,H1,rfl,g.kept (t':=f.toks) λb o e=>w6 _ e,wT (PX:=λi v=>∃c,x.cps[i]?=a7 c/\v=.str ⟨#[c]⟩) _ _ _ _ W (λi v ⟨c,u,Y,Z⟩=>⟨.str ⟨#[c]⟩,⟨u,Z⟩,c,Y,rfl⟩) (λi h st=>?_) (λi h h' st k=>?_) y,st,λb G=>?_,k _ H1 ⟨⟨yR x,λ_=>True⟩,D,C,j,g1,KJ.plain ?_ ?_ ?_,B⟩⟩;obtain⟨o,e,c,d⟩:=st;exact⟨o,z,_,e,c,d,O⟩;obtain⟨o,e,r⟩:=st;exact⟨o,k o e,r⟩;have e:b=f.heap.objs.size:=by simpa using G
   subst e;exact g.fpOk (u6 _)<|g.hok.fresh<|u6 _;intro i _ hi;simpa [yR]using hi;rintro i H x' H' _ ⟨rfl,c,e,rfl⟩;exact⟨rfl,.str ⟨#[c]⟩,by simp[yR,e],rfl⟩;intro H;simp[yR]
  cases U:x.cps.all (· < 128);exact wpAny_pyIter_wide U<|F _ _ ⟨rfl,rfl⟩ (λL N=>Walks.strWide N _ x t) (λ_ _ _ _ _ st h=>wpAny_pyIter_striter_wide st h) (by decide) ⟨_,A9 _ rfl,rfl,rfl⟩;exact wpAny_pyIter_ascii U<|F _ _ ⟨rfl,rfl⟩ (λL N=>Walks.strAscii N _ x t) (λ_ _ _ _ _ st h=>wpAny_pyIter_striter_ascii st h) (by decide) ⟨_,A9 _ rfl,rfl,rfl⟩
noncomputable def gy(lo:Int)(n:Nat):List D:=(A7 n).map λi=>.int<|lo+((i:Nat):Int)
theorem KJ.rng{K:t8}{ρ:List c6}{H:Hp}(lo:Int)(n:Nat):KJ K ⟨gy lo n,λ_=>True⟩ ρ H (OJ lo n):=by
 refine KJ.plain (λi _ hi=>?_) (λi H x H' hi y=>?_) λH=>?_;show i<n;simpa [gy]using hi;obtain⟨e,rfl⟩:=y;have h:i<n:=by simpa [gy]using hi
 exact⟨e,.int<|lo+i,by simp[gy,h],rfl⟩;show n<=(gy lo n).length;simp[gy]
def bC(t:D4):KL:=λS M R=>t S M λds a=>match ds with
 | [.int j]=>(-(2 ^ 62)<=j/\j<2 ^ 62)/\R ⟨gy 0 j.toNat,λ_=>True⟩ a
 |_=>False
theorem PI.imp(h:PI X tg iter t')(i:∀σ H R,t σ H R->t' σ H R):PI X tg iter t:=λp s σ H R I q=>h p s σ H R I<|i σ H R q
theorem At(m:X.mg "range" = a8)(f:DA X [a] ta)(g:Gl X "range":=by rfl)(hs:ge [a] X.env=[(bt,eval a X.env)]:=by rfl):DI X tg (.Call (.Name "range" p) [a] [] pos) (bC ta):=by
 refine PI.imp (yY g m f hs) ?_;rintro σ H R ⟨S,M,ρ,Q,s,l,q,k⟩;refine⟨S,M,ρ,_,s,l,q,?_⟩;rintro vs H1 ⟨ds,e,d,i,g1,c,b⟩
 try dsimp only at b
 split at b;rename_i j;obtain⟨⟨h1,h2⟩,h⟩:=b
 first|have z:=Reps.inv_cons c|have z:=ar.inv_cons c
 clear c;obtain⟨_,_,rfl,r,t⟩:=z;cases r;cases t;exact⟨j,rfl,h1,h2,k _ H1 ⟨_,e,d,i,g1,KJ.rng 0 j.toNat,h⟩⟩;exact b.elim
end
section
mutual
inductive C8(k:Nat):D->Prop
 |non:C8 k .non
 |bl (b:Bool):C8 k (.bl b)
 |int (i:Int):C8 k (.int i)
 |str (x:b9):C8 k (.str x)
 |ty (n:String):C8 k (.ty n)
 |tup {ds:List D} (h:Bels k ds):C8 k (.tup ds)
 |ref {n:Nat} (h:n<k):C8 k (.ref n)
inductive Bels(k:Nat):List D->Prop
 |nil:Bels k []
 |cons {d:D}{ds:List D} (h:C8 k d) (t:Bels k ds):Bels k (d::ds)
end
noncomputable def MO.items:MO->List D
 |.lst xs=>xs
 |.fz xs=>xs
 |.kl xs=>xs
 |.dct kvs=>kvs.map (·.2)
 |.dkt kvs=>kvs.map (·.2)
 |.dkq _ kvs=>kvs.map (·.2)
 |.fdc _ kvs=>kvs.map (·.2)
 |.dkm kvs=>kvs.map (·.2)
 |.tb _ _=>[]
 |.exc _=>[]
theorem u4.bel{K:t8}{ρ:List c6}{H:Hp}{d:D}{v:V}(h:u4 K ρ H d v):C8 ρ.length d:=u4.rec (motive_1:=λd v _=>C8 ρ.length d) (motive_2:=λds vs _=>Bels ρ.length ds) .non .bl .int .str .ty (λ_ _ r=>.tup r) (λh=>.ref (z6.mp h).1) .nil (λ_ _ h t=>.cons h t) h
theorem Reps.bel{K:t8}{ρ:List c6}{H:Hp}{ds:List D}{vs:List V}(h:Reps K ρ H ds vs):Bels ρ.length ds:=Reps.rec (motive_1:=λd v _=>C8 ρ.length d) (motive_2:=λds vs _=>Bels ρ.length ds) .non .bl .int .str .ty (λ_ _ r=>.tup r) (λh=>.ref (z6.mp h).1) .nil (λ_ _ h t=>.cons h t) h
theorem C8.inv(b:C8 k d):(∀ds,d=.tup ds->Bels k ds)/\∀n,d=.ref n->n<k:=by
 cases b with
 |tup b=>exact⟨(λ_ e=>by injection e with e;exact e ▸ b),(λ_ e=>by cases e)⟩
 |ref b=>exact⟨(λ_ e=>by cases e),(λ_ e=>by injection e with e;exact e ▸ b)⟩
 |_=>exact⟨(λ_ e=>by cases e),(λ_ e=>by cases e)⟩
theorem Bels.inv{k:Nat}{d:D}{ds:List D}(b:Bels k (d::ds)):C8 k d/\Bels k ds:=by
 cases b with
 |cons b c=>exact⟨b,c⟩
theorem u4.cut{K:t8}{ρ:List c6}{H:Hp}{k:Nat}{d:D}{v:V}(h:u4 K ρ H d v):C8 k d->u4 K (ρ.take k) H d v:=u4.rec (motive_1:=λd v _=>C8 k d->u4 K (ρ.take k) H d v) (motive_2:=λds vs _=>Bels k ds->Reps K (ρ.take k) H ds vs) (λ_=>.non) (λb _=>.bl b) (λb _=>.int b) (λb _=>.str b) (λb _=>.ty b) (λh _ r b=>.tup h<|r<|b.inv.1 _ rfl)
  (λh b=>.ref<|by rw[Nb<|b.inv.2 _ rfl];exact h) (λ_=>.nil) (λ_ _ h t b=>.cons (h b.inv.1)<|t b.inv.2) h
theorem Reps.cut{K:t8}{ρ:List c6}{H:Hp}{k:Nat}{ds:List D}{vs:List V}(h:Reps K ρ H ds vs):Bels k ds->Reps K (ρ.take k) H ds vs:=Reps.rec (motive_1:=λd v _=>C8 k d->u4 K (ρ.take k) H d v) (motive_2:=λds vs _=>Bels k ds->Reps K (ρ.take k) H ds vs) (λ_=>.non) (λb _=>.bl b) (λb _=>.int b) (λb _=>.str b) (λb _=>.ty b) (λh _ r b=>.tup h<|r<|b.inv.1 _ rfl)
  (λh b=>.ref<|by rw[Nb<|b.inv.2 _ rfl];exact h) (λ_=>.nil) (λ_ _ h t b=>.cons (h b.inv.1)<|t b.inv.2) h
theorem C8.mono{j k:Nat}(h:j<=k){d:D}(b:C8 j d):C8 k d:=C8.rec (motive_1:=λd _=>C8 k d) (motive_2:=λds _=>Bels k ds) .non .bl .int .str .ty (λ_ b=>.tup b) (λb=>.ref<|G8 b h) .nil (λ_ _ b c=>.cons b c) b
theorem Bels.mono{j k:Nat}(h:j<=k){ds:List D}(b:Bels j ds):Bels k ds:=Bels.rec (motive_1:=λd _=>C8 k d) (motive_2:=λds _=>Bels k ds) .non .bl .int .str .ty (λ_ b=>.tup b) (λb=>.ref<|G8 b h) .nil (λ_ _ b c=>.cons b c) b
theorem Bels.of:∀{xs:List D},(∀d∈xs,C8 k d)->Bels k xs
 | [],_=>.nil
 |d::ds,h=>.cons (h d C9)<|Bels.of λe he=>h e<|A8 _ he
section
variable{K:t8}{ρ ρ':List c6}{H H':Hp}{M M':t9}
theorem wg:∀(n:Nat) (d:D),dw n d=a9->C8 k d:=by
 intro n;induction n with
 |zero =>
  intro d h;cases d with
  |str x=>exact .str x
  |int x=>exact .int x
  |_=>cases h
 |succ n i =>
  intro d h;cases d with
  |str x=>exact .str x
  |int x=>exact .int x
  |tup ds=>exact .tup<|Bels.of λx a=>i x<|F0.mp (show ds.all (dw n)=a9 from h) x a
  |_=>cases h
theorem zL(r:Paired (xY K ρ H) kvs xs):Bels ρ.length (kvs.map (·.2)):=by
 induction r with
 |nil=>exact .nil
 |cons q _ i=>obtain⟨_,_,_,v,G,_⟩:=q;exact .cons G.bel i
theorem zK(r:Paired (xY K ρ H) kvs xs)(b:Bels k (kvs.map (·.2))):Paired (xY K (ρ.take k) H) kvs xs:=by
 induction r with
 |nil=>exact .nil
 |cons q _ i =>
  obtain⟨d,g,j,v,G,e⟩:=q;rw[B8]at b;cases b with
  |cons a c=>exact .cons ⟨d,g,j.cut<|wg _ _ g,v,G.cut a,e⟩<|i c
theorem Cj:∀(d:D),xA d=a9->C8 k d
 |.non,_=>.non
 |.tup ks,h=>wg 8 _ h
 |.bl _,h=>nomatch h
 |.int _,h=>nomatch h
 |.str _,h=>nomatch h
 |.ty _,h=>nomatch h
 |.ref _,h=>nomatch h
theorem Fp(r:Paired (K2 K ρ H) kvs xs):Bels ρ.length (kvs.map (·.2)):=by
 induction r with
 |nil=>exact .nil
 |cons q _ i=>obtain⟨_,_,_,v,G,_⟩:=q;exact .cons G.bel i
theorem Fo(r:Paired (K2 K ρ H) kvs xs)(b:Bels k (kvs.map (·.2))):Paired (K2 K (ρ.take k) H) kvs xs:=by
 induction r with
 |nil=>exact .nil
 |cons q _ i =>
  obtain⟨d,g,⟨u,j,l⟩,v,G,e⟩:=q;rw[B8]at b;cases b with
  |cons a c=>exact .cons ⟨d,g,⟨u,j.cut<|Cj _ g,l⟩,v,G.cut a,e⟩<|i c
theorem xX.bels(h:xX K ρ H a mo):Bels ρ.length mo.items:=by
 cases mo with
 |lst ds=>obtain⟨vs,_,r⟩:=h;exact r.bel
 |fz ds=>obtain⟨o,vs,_,r⟩:=h;exact r.bel
 |kl ds=>obtain⟨vs,_,r⟩:=h;exact r.bel
 |dct s=>obtain⟨vs,_,r⟩:=h;exact r.bel
 |dkt s=>obtain⟨_,_,_,xs,_,r⟩:=h;exact zL r
 |dkq _ s=>obtain⟨_,_,_,xs,_,r⟩:=h;exact zL r
 |fdc o s=>obtain⟨vs,_,r⟩:=h;exact r.bel
 |dkm s=>obtain⟨_,_,_,xs,_,r⟩:=h;exact Fp r
 |tb x b=>exact .nil
 |exc x=>exact .nil
theorem xX.cut(h:xX K ρ H a mo)(b:Bels k mo.items):xX K (ρ.take k) H a mo:=by
 cases mo with
 |lst ds=>obtain⟨vs,e,r⟩:=h;exact⟨vs,e,r.cut b⟩
 |fz ds=>obtain⟨o,vs,e,r⟩:=h;exact⟨o,vs,e,r.cut b⟩
 |kl ds=>obtain⟨vs,e,r⟩:=h;exact⟨vs,e,r.cut b⟩
 |dct s=>obtain⟨vs,e,r⟩:=h;exact⟨vs,e,r.cut b⟩
 |dkt s=>obtain⟨h1,h2,c,xs,e,r⟩:=h;exact⟨h1,h2,c,xs,e,zK r b⟩
 |dkq _ s=>obtain⟨h1,h2,c,xs,e,r⟩:=h;exact⟨h1,h2,c,xs,e,zK r b⟩
 |fdc o s=>obtain⟨vs,e,r⟩:=h;exact⟨vs,e,r.cut b⟩
 |dkm s=>obtain⟨h1,h2,c,xs,e,r⟩:=h;exact⟨h1,h2,c,xs,e,Fo r b⟩
 |tb x b=>exact h
 |exc x=>exact h
theorem u9.bels(S:u9 K ρ M H){n:Nat}{mo:MO}(e:M[n]?=a7 mo):Bels M.length mo.items:=by obtain⟨a,_,h⟩:=S.get e;rw[<-S.len];exact h.bels
theorem u9.cut(S:u9 K ρ M H)(k:Nat)(d:∀(n:Nat) (mo:MO),n<k->M[n]?=a7 mo->Bels k mo.items):u9 K (ρ.take k) (M.take k) H:=by
 have lt:∀{n:Nat}{a:c6},(ρ.take k)[n]?=a7 a->n<k/\ρ[n]?=a7 a:=λ{n a} e=>by
  have h1:=(z6.mp e).1;rw[Kt]at h1;have h2:n<k:=by lia
  rw[Nb h2]at e;exact⟨h2,e⟩
 refine⟨λn m a h t l=>?_,by rw[Kt,Kt,S.len],λn a mo t l=>?_⟩;obtain⟨b,f⟩:=lt t;obtain⟨g,c⟩:=lt l;rw[Nb b,Nb g];exact S.nd n m a h f c;obtain⟨b,f⟩:=lt t;rw[Nb b]at l;exact(S.obj n a mo f l).cut<|d n mo b l
theorem SRep.cut(r:SRep K ρ H S σ)(g:S'.length=S.length)(h:∀(i:Nat) d,S'[i]?=a7 (a7 d)->S[i]?=a7 (a7 d)/\C8 k d):SRep K (ρ.take k) H S' σ:=⟨g.trans r.len,λi d e=>let ⟨e',b⟩:=h i d e;let ⟨v,hv,rv⟩:=r.get i d e';⟨v,hv,rv.cut b⟩⟩
theorem Grow.cut(g:Grow K ρ H ρ' H')(h:ρ.length<=k):Grow K ρ H (ρ'.take k) H':=by refine⟨?_,g.tup⟩;obtain⟨t,rfl⟩:=g.pre;rw[List.take_append];rw[NC h];exact KH _ _
end
inductive FgtS(k:Nat):SD->SD->Prop
 |nil:FgtS k [] []
 |keep {d:D}{S S':SD} (h:C8 k d) (t:FgtS k S S'):FgtS k (a7 d::S) (a7 d::S')
 |drop {o:Option D}{S S':SD} (t:FgtS k S S'):FgtS k (o::S) (a8::S')
theorem FgtS.len(h:FgtS k S S'):S'.length=S.length:=by
 induction h with
 |nil=>rfl
 |keep _ _ i=>rw[B9,B9,i]
 |drop _ i=>rw[B9,B9,i]
theorem FgtS.get(h:FgtS k S S'):∀(i:Nat) d,S'[i]?=a7 (a7 d)->S[i]?=a7 (a7 d)/\C8 k d:=by
 induction h with
 |nil=>intro i d e;simp at e
 |keep b _ a =>
  intro i d e;cases i with
  |zero=>simp at e;subst e;exact⟨rfl,b⟩
  |succ i=>exact a i d<|by simpa using e
 |drop _ a =>
  intro i d e;cases i with
  |zero=>simp at e
  |succ i=>exact a i d<|by simpa using e
def C4(a:t9)(P:SD->t9->Prop)(S:SD)(M:t9):Prop:=P S M\/(∃k b,a.length<=k/\FgtS k S b/\(∀(n:Nat) mo,n<k->M[n]?=a7 mo->Bels k mo.items)/\P b (M.take k))\/∃b,FgtS a.length S b/\a <+: M/\P b a
theorem Bh{α:Type}{l l':List α}(h:l <+: l'):l'.take l.length=l:=by obtain⟨t,rfl⟩:=h;rw[List.take_append_of_le_length<|u6 _,LO]
theorem SQ.fgt{K:t8}{ρ:List c6}{H:Hp}{M:t9}{P:SD->t9->Prop}{c:St}{H':Hp}(s0:u9 K ρ M H)(h:SQ K ρ H (C4 M P) c H'):SQ K ρ H P c H':=by
 have f:ρ.length<=M.length:=by rw[s0.len];exact u6 _
 obtain⟨i,d,b,s',g,a,j⟩:=h;rcases j with j|⟨k,S,h1,h2,l,q⟩|⟨S,h2,p,q⟩
 exact⟨i,d,b,s',g,a,j⟩;exact⟨S,d.take k,b.take k,s'.cut k l,g.cut<|J4 f h1,a.cut h2.len h2.get,q⟩;have s:=s'.cut M.length λn o m e=>by obtain⟨t,rfl⟩:=p;rw[Ko m]at e;exact s0.bels e
 rw[Bh p]at s;exact⟨S,M,b.take M.length,s,g.cut f,a.cut h2.len h2.get,q⟩
def sZ(ok:t9->Prop)(g:G1)(tb:t7)(E:DEnds)(k0:t9):List D->SD->t9->Prop
 | [],S,M=>ok M/\E.nx S M
 |x::xs,S,M=>ok M/\g x S M λS2 M2=>tb ⟨C4 k0<|sZ ok g tb E k0 xs,E.rt,E.nx,C4 k0<|sZ ok g tb E k0 xs⟩ S2 M2
def nG(i:KL)(g:G1)(b:t7):t7:=λE S M=>i S M λsrc a=>sZ src.ok g b E a src.items S a
theorem mZ{α:Type}{l:List α}{i:Nat}{x:α}(h:l[i]?=a7 x):l.drop i=x::l.drop (i+1):=by obtain⟨hi,e⟩:=z6.mp h;rw[Oy hi,e]
theorem BU{K:t8}{O:KL}{g:G1}{u:t7}(E:Ends)(σ:St)(H:Hp)(h:lowS K (nG O g u) E σ H):tFor (lowI K O) (lowG K g) (lowS K u) E σ H:=by
 obtain⟨S,M,ρ,F,s,T,q,k⟩:=h;refine⟨S,M,ρ,_,s,T,q,?_⟩;rintro J H1 ⟨src,o,f,R,g1,it,q1⟩;have C:=k.trans g1;refine⟨λi m τ j=>∃c M2 a,u9 K a M2 j/\Grow K f H1 a j/\SRep K a j c τ/\i<=src.items.length/\m=src.items.length-i/\sZ src.ok g u F o (src.items.drop i) c M2,⟨_,S,o,f,R,.refl,T.grow g1,z5 _,rfl,q1⟩,?_⟩;rintro i m τ j ⟨c,M2,a,B,p,r,hi,rfl,A⟩;by_cases t:i<src.items.length;have P:src.items[i]?=a7 src.items[i]:=v9 t;rw[mZ P]at A;obtain⟨ok,D⟩:=(show src.ok M2/\g src.items[i] c M2 _ from A)
 refine .inr ⟨it.go i a M2 j B p ok t,_,λab H' z=>z,λx U y=>?_⟩;obtain⟨d,L,hd,s3,g3,r3⟩:=it.yld i a M2 j x U B p ok t y;have ed:d=src.items[i]:=B5<|hd.symm.trans P;subst ed;refine⟨_,c,M2,L,_,s3,r.grow g3,r3,D,?_⟩;rintro ai V ⟨Z,W,w,s4,g4,G,q4⟩;have l:=(p.trans g3).trans g4;refine⟨Z,W,w,_,s4,G,q4,?_⟩;have n:∀b Y,SQ K w V (C4 o<|sZ src.ok g u F o<|src.items.drop<|i+1) b Y -> ∃Q,Q < src.items.length-i/\∃c M2 a,u9 K a M2 Y/\Grow K f H1 a Y/\SRep K a Y c b/\i+1<=src.items.length/\Q=src.items.length-(i+1)/\sZ src.ok g u F o (src.items.drop<|i+1) c M2:=λb Y z=>by obtain⟨S5,X,N,s5,g5,I,q5⟩:=SQ.fgt (ρ:=f) (H:=H1) R<|SQ.trans l z;exact⟨_,by lia,S5,X,N,s5,g5,I,t,rfl,q5⟩
 exact⟨n,λv Y z=>C.rt v Y<|VQ.trans l z,λb Y z=>C.nx b Y<|SQ.trans l z,n⟩;have e:i=src.items.length:=by lia
 subst e;rw[P6<|u6 _]at A;obtain⟨ok,D⟩:=(show src.ok M2/\F.nx c M2 from A)
 exact .inl ⟨it.stop a M2 j B p ok,C.nx τ j ⟨c,M2,a,B,p,r,D⟩⟩
section
variable{X:Cx}
theorem JN(hi:DI X tg iter di)(S:DG X tg g)(d:Ls X body tb)(p:PassesOwn (f7 X.prog X.w) X.A X.env X.xe:=by exact PassesOwn.never)(f:X.calm=a9:=by rfl)(hs:∀x,j0 iter X.env x=pure x:=by intro _;rfl):DS X (.For tg iter body [] pos) (nG di g tb):=PS.imp (Hw p f hi S d hs) BU
noncomputable def GM(t:Nat)(s:List Nat)(S:SD):SD:=Ob t a8++s.map λj=>(S[j]?).join
def jW(ok:t9->Prop)(g:G1)(tt:D9)(te:v5)(Q:DK):List D->List D->SD->t9->Prop
 | [],acc,S,M=>ok M/\Q (.ref M.length) (M++[.lst acc])
 |x::xs,acc,S,M=>ok M/\g x S M λS2 M2=>tt S2 M2 λb M3=>if b=a9 then te S2 M3 λy M4=>acc.length<sizeLine/\jW ok g tt te Q xs (acc++[y]) S2 M4 else jW ok g tt te Q xs acc S2 M3
def E8(t:Nat)(s:List Nat)(i:KL)(g:G1)(tt:D9)(te:v5):v5:=λS M Q=>i S M λsrc a=>jW src.ok g tt te Q src.items [] (GM t s S) a
theorem SRep.bst{K:t8}{ρ:List c6}{H:Hp}{S:SD}{σ:St}(r:SRep K ρ H S σ)(t:Nat)(s:List Nat):SRep K ρ H (GM t s S) (L2.bst t s σ):=by
 refine⟨by simp[GM,AF],λi d e=>?_⟩;unfold GM at e;unfold L2.bst;by_cases hi:i<t;rw[Ko (by simpa using hi),Pp]at e;simp[hi]at e;rw[K0 (by simpa using LF.mp hi),Pl,D5]at e;rw[K0 (by simpa using LF.mp hi),Pl,D5];cases q:s[i-t]? with
 |none=>rw[q]at e;cases e
 |some j =>
  rw[q]at e;have a:(S[j]?).join=a7 d:=by simpa using e
  cases g:S[j]? with
  |none=>rw[g]at a;cases a
  |some o=>rw[g]at a;have l:o=a7 d:=a;subst l;obtain⟨v,c,b⟩:=r.get j d g;exact⟨v,by simp[c],b⟩
theorem zA{K:t8}{C:Nat}{B:List Nat}{P:KL}{g:G1}{tt:D9}{te:v5}(σ:St)(H:Hp)(R:VK)(h:lowE K (E8 C B P g tt te) σ H R):OC C B (lowI K P) (lowG K g) (lowT K tt) (lowE K te) σ H R:=by
 obtain⟨S,M,ρ,Q,s,V,q,k⟩:=h;refine⟨S,M,ρ,_,s,V,q,?_⟩;rintro J H1 ⟨src,Y,o,s1,g1,it,q1⟩;refine⟨λi m vs τ c=>∃j M2 a acc,u9 K a M2 c/\Grow K o H1 a c/\SRep K a c j τ/\Reps K a c acc vs/\i<=src.items.length/\m=src.items.length-i/\jW src.ok g tt te Q (src.items.drop i) acc j M2,⟨_,_,Y,o,[],s1,.refl,(V.grow g1).bst C B,.nil,z5 _,rfl,q1⟩,?_⟩;rintro i m vs τ c ⟨j,M2,a,acc,w,n,F,u,hi,rfl,r⟩;by_cases t:i<src.items.length;have T:src.items[i]?=a7 src.items[i]:=v9 t;rw[mZ T]at r;obtain⟨ok,D⟩:=(show src.ok M2/\g src.items[i] j M2 _ from r)
 refine .inr ⟨it.go i a M2 c w n ok t,λx W y=>?_⟩;obtain⟨d,I,hd,s3,g3,r3⟩:=it.yld i a M2 c x W w n ok t y;have ed:d=src.items[i]:=B5<|hd.symm.trans T;subst ed;refine⟨_,j,M2,I,_,s3,F.grow g3,r3,D,?_⟩;rintro ab H4 ⟨Z,M4,L,s4,z,G,q4⟩;refine⟨Z,M4,L,_,s4,G,q4,?_⟩;rintro b H5 ⟨X,N,s5,f,U⟩;have l:=((n.trans g3).trans z).trans f;cases b with
 |false=>exact dz ⟨_,by lia,Z,X,N,acc,s5,l,G.grow f,u.grow<|(g3.trans z).trans f,t,rfl,(show jW src.ok g tt te Q (src.items.drop<|i+1) acc Z X from U)⟩
 |true=>refine dB ⟨Z,X,N,_,s5,G.grow f,(show te Z X _ from U),?_⟩;rintro v H6 ⟨y',M6,O,s6,A,r6,hl,q6⟩;have E:=u.grow<|((g3.trans z).trans f).trans A;exact⟨by rw[<-u.length];exact hl,_,by lia,Z,M6,O,acc++[y'],s6,l.trans A,G.grow<|f.trans A,E.append<|.cons r6 .nil,t,rfl,q6⟩
 have e:i=src.items.length:=by lia
 subst e;rw[P6<|u6 _]at r;obtain⟨ok,D⟩:=(show src.ok M2/\Q (.ref M2.length) (M2++[.lst acc])from r)
 exact .inl ⟨it.stop a M2 c w n ok,λp hp=>k _ _<|VQ.laidL w (g1.trans n) u hp D⟩
theorem d_lc(B:BlkSc X N' nt js scope)(hi:DI X tg iter di)(S:∀cl s0 H0 ex,DG (z9 X N' scope cl s0 H0 ex) tg g) (D:∀cl s0 H0 ex,Lr (z9 X N' scope cl s0 H0 ex) ifs<|lowT X.K tt) (i:∀cl s0 H0 ex,DE (z9 X N' scope cl s0 H0 ex) elt te) (f:X.calm=a9:=by rfl)(hs:∀x,j0 iter X.env x=pure x:=by intro _;rfl):DE X (.ListComp elt [⟨tg,iter,ifs,0⟩] scope pos) (E8 nt js di g tt te):=PE.imp (pe_lc (g:=lowG X.K g) (tt:=lowT X.K tt) (te:=lowE X.K te) B f hi (λcl s0 H0 ex=>S cl s0 H0 ex) D (λcl s0 H0 ex=>i cl s0 H0 ex) hs) zA
def nF:D9:=λ_ M Q=>Q a9 M
theorem Gc:Lr X [] (lowT X.K nF):=λp s σ H R I ⟨S,M,ρ,Q,m,b,q,k⟩=>Ev p s σ H R I<|k a9 H ⟨M,ρ,m,.refl,q⟩
theorem Gb(h:DT X c t):Lr X [c] (lowT X.K t):=Eu h
end
def Nj(M a:t9):Prop:=a.length=M.length/\∀(i:Nat) (m:MO),a[i]?=a7 m->M[i]?=a7 m\/Bels M.length m.items
theorem Nj.refl:Nj M M:=⟨rfl,λ_ _ h=>.inl h⟩
def aQ(M:t9)(R:DK):DK:=λd b=>R d b\/(∃a,Nj M a/\C8 M.length d/\a <+: b/\R d a)\/∃a n xs,Nj M a/\d=.ref n/\M.length<=n/\b[n]?=a7 (.lst xs)/\a <+: b/\Bels M.length xs/\R (.ref M.length) (a++[.lst xs])
theorem bD{α:Type}{l l':List α}(h:l <+: l'):l'.take l.length=l:=by obtain⟨t,rfl⟩:=h;rw[List.take_append_of_le_length<|u6 _,LO]
theorem VQ.endq{K:t8}{ρ:List c6}{M:t9}{H:Hp}{R:DK}{v:V}{H':Hp}(s:u9 K ρ M H)(h:VQ K ρ H (aQ M R) v H'):VQ K ρ H R v H':=by
 obtain⟨d,E,D,s',x,r',Y⟩:=h;have k:D.take M.length=ρ:=by rw[<-s.len];exact bD x.pre
 rcases Y with q|⟨g,c,b,f,q⟩|⟨g,n,xs,c,rfl,X,e,f,b,q⟩
 exact⟨d,E,D,s',x,r',q⟩;have i:=s'.cut M.length λn r w e=>by
  have G:g[n]?=a7 r:=by obtain⟨t,rfl⟩:=f;rw[Ko<|by rw[c.1];exact w]at e;exact e
  exact(c.2 n r G).elim (λz=>s.bels z) id
 have O:E.take M.length=g:=by rw[<-c.1];exact bD f
 rw[k,O]at i;have C:=r'.cut b;rw[k]at C;exact⟨d,g,ρ,i,⟨L7,x.tup⟩,C,q⟩;have i:=s'.cut M.length λn r w e=>by
  have G:g[n]?=a7 r:=by obtain⟨t,rfl⟩:=f;rw[Ko<|by rw[c.1];exact w]at e;exact e
  exact(c.2 n r G).elim (λz=>s.bels z) id
 have O:E.take M.length=g:=by rw[<-c.1];exact bD f
 rw[k,O]at i;obtain⟨a,rfl,w⟩:=u4.inv_ref r';obtain⟨vs,U,Z⟩:=s'.obj n a _ w e;have C:=Z.cut b;rw[k]at C;have Q:Grow K ρ H' (ρ++[a]) H':=⟨KH _ _,λ_ _ h=>h⟩
 have B:∀(m:Nat),ρ[m]?=a7 a->KP g[m]?:=λm J=>by
  have W:m≠n:=λz=>by
   have:m<M.length:=by rw[<-s.len];exact(z6.mp J).1
   lia
  have q:=s'.nd m n a W (aq x.pre J) w;have L:m<M.length:=by rw[<-s.len];exact(z6.mp J).1
  rcases q with⟨ds,z⟩|⟨ds,z⟩
  refine⟨ds,?_⟩;have o:m<g.length:=by rw[c.1];exact L
  have:=aq f<|v9 o;rw[z]at this;rw[v9 o];exact this.symm;rw[e]at z;cases z
 refine⟨.ref M.length,g++[.lst xs],ρ++[a],⟨λA S F y I l=>?_,by rw[A1,A1,i.len];rfl,λA F r I l=>?_⟩,⟨KH _ _,x.tup⟩,.ref (by have:=i.last (p:=a);rw[c.1]at this;exact this),q⟩;rcases aN I with j|⟨j,P⟩
 rcases aN l with u|⟨u,T⟩
 exact(i.nd A S F y j u).elim (λz=>.inl z.more) λz=>.inr z.more;subst T;exact .inl (B A j).more;rcases aN l with u|⟨u,T⟩
 subst P;exact .inr (B S u).more;exact o7 (j.trans u.symm) y;rcases aN I with j|⟨j,P⟩
 have N:A<g.length:=by rw[<-i.len];exact(z6.mp j).1
 rw[Ko N]at l;exact(i.obj A F r j l).grow Q<|.inl rfl;subst P j;rw[i.len,K0<|u6 _,LX]at l;simp at l;subst l;exact⟨vs,U,C.grow Q⟩
noncomputable def cR(N:List b9)(ds:List D):SD:=ds.map a7++Ob (N.length-ds.length) a8
theorem SRep.start{K:t8}{ρ:List c6}{H:Hp}{ds:List D}{vs:List V}(r:Reps K ρ H ds vs)(N:List b9):SRep K ρ H (cR N ds) (L2.start N vs):=by
 refine⟨by simp[cR,L2.start,r.length],λi d e=>?_⟩;unfold cR at e;unfold L2.start;by_cases hi:i<ds.length;rw[Ko (by simpa using hi),D5]at e;rw[Ko (by simpa [<-r.length]using hi),D5];have a:ds[i]?=a7 d:=by rw[v9 hi]at e ⊢;simpa using e
 obtain⟨v,c,b⟩:=r.get a;exact⟨v,by rw[c];rfl,b⟩;rw[K0 (by simpa using LF.mp hi),Pp]at e;split at e<;>cases e
theorem d_fn{P:c5}{w:c3}{K:t8}{mg:b9->Option b7}{base:c8}{x l:b9}{st:g7}{f:c6}{e:j5}{N ps:List b9}{k:Nat}(d:x5)(F:Lh K x l st f e)(i:FnScope N ps (ao st))(B:∀ds M R,d ds M R->ds.length=ps.length)(y:∀(cdv:b7) (A:d8) (outer:List Env) (s:d9) (H:Hp) (E:XK),Room k (A.deeper<|b8 l (ao st) s.heap.objs.size f cdv) -> ∃t,Ls (qg Ix P w K mg base N l (ao st) f cdv A outer s H E).nox (bB st) t/\∀ds M R,d ds M R->t ⟨λ_ M'=>aQ M R .non M',aQ M R,λ_ _=>False,λ_ _=>False⟩ (cR N ds) M):FnOk P w K mg base Ix (k+1) f e ps (K1 K d):=by refine F.ok i (λvs H Q E ⟨ds,M,ρ,R,s,r,q,_⟩=>by rw[<-r.length];exact B ds M R q) λcdv A outer s H vs Q E o h=>?_;obtain⟨ds,M,ρ,R,m,r,q,C⟩:=h;obtain⟨t,D,n⟩:=y cdv A outer s H E o;refine⟨lowS K t,D,cR N ds,M,ρ,_,m,SRep.start r N,n ds M R q,⟨λc H' ⟨S,M',a,s',g,b,j⟩=>?_,λv H' z=>C v H'<|VQ.endq m z,λc H' ⟨S,M',a,s',g,b,j⟩=>j.elim,λc H' ⟨S,M',a,s',g,b,j⟩=>j.elim⟩⟩;exact C .non H'<|VQ.endq m ⟨.non,M',a,s',g,.non,j⟩
end
section
variable{X:Cx}
theorem dfin(I:t4 X pins σ H s)(m:u9 X.K ρ M H)(k:∀v H',VQ X.K ρ H Q v H'->R v H')(c:cV d=a7 v)(l:aH v u)(q:Q d M):EP X pins σ R u s:=⟨v,H,I,l,k v H<|VQ.now m (AD c) q⟩
theorem gX(I:t4 X pins σ H s)(m:u9 X.K ρ M H)(k:∀v H',VQ X.K ρ H Q v H'->R v H')(q:Q (.bl b) M):EP X pins σ R (.bool b) s:=⟨.bl b,H,I,rfl,k _ H<|VQ.now m (.bl b) q⟩
def qAdd:E9:=λx y M Q=>match x,y with
 |.int i,.int j=>Q (.int<|i+j) M
 |.str a,.str b=>a.length+b.length<=sizeLine/\Q (.str<|a++b) M
 |.ref n,.ref m=>∃xs ys,M[n]?=a7 (.lst xs)/\M[m]?=a7 (.lst ys)/\xs.length+ys.length<=sizeLine/\Q (.ref M.length) (M++[.lst<|xs++ys])
 |_,_=>False
theorem Ip:F5 X (j1 .Add) qAdd:=by refine C6.imp (Ie.or<|xg.or Ic) ?_;rintro v a H R ⟨x,y,M,ρ,Q,m,r,l,q,k⟩;unfold qAdd at q;split at q;cases r;cases l;exact .inl ⟨_,_,rfl,rfl,k _ H<|VQ.now m (.int _) q⟩;cases r;cases l;exact .inr<|.inl ⟨_,_,rfl,rfl,q.1,k _ H<|VQ.now m (.str _) q.2⟩;obtain⟨xs,ys,t,e,g,q⟩:=q;obtain⟨_,rfl,h1⟩:=u4.inv_ref r;obtain⟨_,rfl,h2⟩:=u4.inv_ref l;obtain⟨vs,n,g1⟩:=m.obj _ _ _ h1 t;obtain⟨s,f,i⟩:=m.obj _ _ _ h2 e;exact .inr<|.inr ⟨_,_,vs,s,rfl,rfl,n,f,by rw[<-g1.length,<-i.length];exact g,λp h=>k _ _<|VQ.laidL m .refl (g1.append i) h q⟩;exact q.elim
def GG:E9:=λx y M Q=>match x,y with
 |.int i,.int j=>Q (.int<|i-j) M
 |_,_=>False
theorem Ij:F5 X (j1 .Sub) GG:=by refine C6.imp HV ?_;rintro e f H R ⟨x,y,M,ρ,Q,m,r,l,q,k⟩;unfold GG at q;split at q;cases r;cases l;exact⟨_,_,rfl,rfl,k _ H<|VQ.now m (.int _) q⟩;exact q.elim
def tM(i j:Int):Prop:=0<j/\j<340282366920938463463374607431768211456
theorem BD:C6 X (j1 .FloorDiv) (rI tM λi j=>.int<|i / j):=NN λi j _ _ _ _ _ f q=>by have h1:(0:Int)<j:=f.1;have h2:j<340282366920938463463374607431768211456:=f.2;have a:j.natAbs.log2<128:=(Nat.log2_lt<|by lia).mpr (by rw[show (2:Nat) ^ 128=340282366920938463463374607431768211456 by decide];lia);exact floordiv_int (by lia) (by rw[Int.fdiv_eq_ediv_of_nonneg i<|by lia];exact q)<|.inl<|PyProof.noPylong_of_log2<|by lia
def aI:E9:=λx y M Q=>match x,y with
 |.int i,.int j=>tM i j/\Q (.int<|i / j) M
 |_,_=>False
theorem EW:F5 X (j1 .FloorDiv) aI:=by refine C6.imp BD ?_;rintro e f H R ⟨x,y,M,ρ,Q,m,r,l,q,k⟩;unfold aI at q;split at q;cases r;cases l;exact⟨_,_,rfl,rfl,q.1,k _ H<|VQ.now m (.int _) q.2⟩;exact q.elim
def bP:E9:=λx y M Q=>match x,y with
 |.int i,.int j=>0<j/\Q (.int<|i % j) M
 |_,_=>False
theorem Im:F5 X (j1 .Mod) bP:=by refine C6.imp Ib ?_;rintro e f H R ⟨x,y,M,ρ,Q,m,r,l,q,k⟩;unfold bP at q;split at q;cases r;cases l;exact⟨_,_,rfl,rfl,q.1,k _ H<|VQ.now m (.int _) q.2⟩;exact q.elim
noncomputable def jD(a b:b9):Bool:=decide<|a.cps.toList<b.cps.toList
def LB:E9:=λx y M Q=>match x,y with
 |.int i,.int j=>Q (.bl<|decide<|i<j) M
 |.str a,.str b=>Q (.bl<|jD a b) M
 |_,_=>False
def Nd:E9:=λx y M Q=>match x,y with
 |.int i,.int j=>Q (.bl<|decide<|i<=j) M
 |.str a,.str b=>Q (.bl<|!jD b a) M
 |_,_=>False
def LC:E9:=λx y M Q=>match x,y with
 |.int i,.int j=>Q (.bl<|decide<|j<i) M
 |.str a,.str b=>Q (.bl<|jD b a) M
 |_,_=>False
theorem od_lt:F5 X (j2 .Lt) LB:=by rintro p s σ H e f v u R I g i ⟨x,y,M,ρ,Q,m,r,l,q,k⟩;unfold LB at q;split at q;cases r;cases l;exact op_lt p s σ H _ _ v u R I g i ⟨_,_,rfl,rfl,k _ H<|VQ.now m (.bl _) q⟩;cases r;cases l;obtain⟨t,rfl⟩:=g;obtain⟨t',rfl⟩:=i;exact PySem.P.lt_str<|gX I m k q;exact q.elim
theorem od_le:F5 X (j2 .LtE) Nd:=by rintro p s σ H e f v u R I g i ⟨x,y,M,ρ,Q,m,r,l,q,k⟩;unfold Nd at q;split at q;cases r;cases l;exact op_le p s σ H _ _ v u R I g i ⟨_,_,rfl,rfl,k _ H<|VQ.now m (.bl _) q⟩;cases r;cases l;obtain⟨t,rfl⟩:=g;obtain⟨t',rfl⟩:=i;exact PySem.P.le_str<|gX I m k q;exact q.elim
theorem od_gt:F5 X (j2 .Gt) LC:=by rintro p s σ H e f v u R I g i ⟨x,y,M,ρ,Q,m,r,l,q,k⟩;unfold LC at q;split at q;cases r;cases l;exact op_gt p s σ H _ _ v u R I g i ⟨_,_,rfl,rfl,k _ H<|VQ.now m (.bl _) q⟩;cases r;cases l;obtain⟨t,rfl⟩:=g;obtain⟨t',rfl⟩:=i;exact PySem.P.gt_str<|gX I m k q;exact q.elim
def NL:E9:=λx y M Q=>match x,y with
 |.bl a,.bl b=>Q (.bl<|a==b) M
 |.non,.non=>Q (.bl a9) M
 |_,.non=>Q (.bl bt) M
 |_,_=>False
theorem El{K:t8}{ρ:List c6}{H:Hp}{x:D}{v:V}(r:u4 K ρ H x v)(h:x≠.non):v≠.non:=by cases r<;>first|exact o7 rfl h|(intro z;cases z)
theorem od_is:F5 X (j2 .Is) NL:=by
 rintro p s σ H e f v u R I g i ⟨x,y,M,ρ,Q,m,r,l,q,k⟩;unfold NL at q;split at q;cases r;cases l;cases g;cases i;exact is_bool<|gX I m k q;cases r;cases l;cases g;cases i;exact is_none_gen<|dfin (d:=.bl a9) I m k rfl rfl q;rename_i h1 h2;cases l;cases i;refine is_none_gen<|dfin (d:=.bl bt) I m k rfl ?_ q;have:=El r λz=>by subst z;exact h2 rfl
 rw[g.none_iff,dF_ this];rfl;exact q.elim
noncomputable def Kp(M:t9):D->String
 |.non=>"NoneType"
 |.bl _=>"bool"
 |.int _=>"int"
 |.str _=>"str"
 |.ty _=>"type"
 |.tup _=>"tuple"
 |.ref n=>match M[n]? with
  |some mo=>if mo.isL=a9 then "list" else "?"
  |none=>"?"
noncomputable def DM(t T:String):Bool:=t==T||(t == "bool" && T == "int")
noncomputable def GF:List String:=["NoneType","bool","int","str","list","tuple"]
noncomputable def GU:List String:=["bool","int","str","list","tuple"]
theorem Fx(K:t8)(D:t∈GF)(m:T∈GU):KU K (.type t) (.type T)=a7 (DM t T):=by simp only[GF,GU,A0,Nx,or_false]at D m;rcases D with rfl|rfl|rfl|rfl|rfl|rfl<;>rcases m with rfl|rfl|rfl|rfl|rfl<;>kernel_rfl
theorem DJ(I:t4 X pins σ H s)(k:u9 X.K ρ M H)(r:u4 X.K ρ H d v)(g:aH v u)(j:Kp M d∈GF)(L:∀(Hx:c8->Prop),PySem.W.KitX X.K u (.type<|Kp M d) Hx->Hx s.heap->u≠.builtin "__main__.__loader__#opaque"->e8 (f7 X.prog X.w) X.A (call (.builtin "isinstance") [u,c]) Q X.xe s):e8 (f7 X.prog X.w) X.A (call (.builtin "isinstance") [u,c]) Q X.xe s:=by
 cases r with
 |non=>cases g;exact L _ PySem.W.kitx_none Mn<|λz=>nomatch z
 |bl y=>cases g;exact L _ PySem.W.kitx_bool Mn<|λz=>nomatch z
 |int i=>obtain⟨t,rfl⟩:=g;exact L _ PySem.W.kitx_int Mn<|λz=>nomatch z
 |str i=>obtain⟨t,rfl⟩:=g;exact L _ PySem.W.kitx_str Mn<|λz=>nomatch z
 |ty n=>exact o7 j<|by simp only[Kp];decide
 |tup h rr=>cases g;obtain⟨its,_,⟨o,h1,h2,_⟩,_⟩:=I.tuple h;exact L _ PySem.W.kitx_tuple ⟨o,h1,h2⟩<|λz=>nomatch z
 |@ref n a e =>
  cases g;have B:n<M.length:=by rw[<-k.len];exact(z6.mp e).1
  have m:M[n]?=a7 M[n]:=v9 B;have f:(match M[n]? with|some mo=>if mo.isL=a9 then "list" else "?" |none=>"?")∈GF:=j;rw[m]at f;have l:M[n].isL=a9:=by
   cases q:M[n].isL with
   |true=>rfl
   |false=>simp only[q,A4,p6]at f;exact o7 f<|by decide
  have p:al M n M[n].items:=by
   cases q:M[n] with
   |lst xs=>exact .inl<|by rw[m,q];rfl
   |fz xs=>exact .inr<|.inl<|by rw[m,q];rfl
   |kl xs=>exact .inr<|.inr<|by rw[m,q];rfl
   |dct xs=>rw[q]at l;cases l
   |dkt xs=>rw[q]at l;cases l
   |dkq _ xs=>rw[q]at l;cases l
   |fdc o xs=>rw[q]at l;cases l
   |dkm xs=>rw[q]at l;cases l
   |tb x b=>rw[q]at l;cases l
   |exc x=>rw[q]at l;cases l
  obtain⟨vs,C,_⟩:=al.seq k p e;obtain⟨its,_,⟨o,E,h1,h2,_⟩,_⟩:=I.list C;have D:Kp M (.ref n) = "list":=by
   show (match M[n]? with|some mo=>if mo.isL=a9 then "list" else "?" |none=>"?") = "list"
   rw[m];exact o5 l
  rw[D]at L;exact L _ PySem.W.kitx_list ⟨o,h1,h2⟩<|λz=>nomatch z
def GI:B7:=λds M Q=>match ds with
 | [d,.ty T]=>(Kp M d∈GF/\T∈GU)/\Q (.bl<|DM (Kp M d) T) M
 | [d,.tup [.ty T,.ty T']]=>(Kp M d∈GF/\T∈GU/\T'∈GU)/\Q (.bl<|DM (Kp M d) T||DM (Kp M d) T') M
 |_=>False
theorem Ke:nD X (.builtin "isinstance") GI:=by
 rintro i s σ H vs us R I v ⟨ds,M,ρ,Q,m,r,q,k⟩;unfold GI at q;split at q;rename_i d T;obtain⟨⟨h1,h2⟩,q⟩:=q
 first|have z:=Reps.inv_cons r|have z:=ar.inv_cons r
 clear r;obtain⟨_,_,rfl,f,r⟩:=z
 first|have z:=Reps.inv_cons r|have z:=ar.inv_cons r
 clear r;obtain⟨_,_,rfl,g,r⟩:=z;cases r;cases g;obtain⟨u,u',rfl,e,l⟩:=ar.two v;cases l;refine DJ I m f e h1 λHx Z p x=>?_;exact PySem.W.kia_one Z I.kIn p (Fx X.K h1 h2) x λh=>gX (I.tok h) m k q;rename_i d T c;obtain⟨⟨h1,h2,A⟩,q⟩:=q
 first|have z:=Reps.inv_cons r|have z:=ar.inv_cons r
 clear r;obtain⟨_,_,rfl,f,r⟩:=z
 first|have z:=Reps.inv_cons r|have z:=ar.inv_cons r
 clear r;obtain⟨_,_,rfl,g,r⟩:=z;cases r;obtain⟨u,u',rfl,e,l⟩:=ar.two v;obtain⟨a,P,rfl,B,t⟩:=u4.inv_tup g;cases l;obtain⟨its,D,⟨o,g1,y,n,g3⟩,_⟩:=I.tuple B
 first|have z:=Reps.inv_cons t|have z:=ar.inv_cons t
 clear t;obtain⟨_,_,rfl,E,t⟩:=z
 first|have z:=Reps.inv_cons t|have z:=ar.inv_cons t
 clear t;obtain⟨_,_,rfl,F,t⟩:=z;cases t;cases E;cases F;obtain⟨N,O,rfl,j,w⟩:=ar.two D;cases j;cases w;obtain⟨J,L,C,G⟩:=o;cases y;cases g3;refine DJ I m f e h1 λHx Z p x=>?_;refine PySem.W.kia_tup Z I.kIn p g1 (b:=DM (Kp M d) T||DM (Kp M d) c) ?_ x λh=>gX (I.tok h) m k q;show (match KU X.K (.type<|Kp M d) (.type T)with|some a9=>a7 a9|some bt=>PySem.W.kitAny X.K (.type<|Kp M d) [.type c]|none=>a8)=_;rw[Fx X.K h1 h2];cases DM (Kp M d) T with
 |true=>rfl
 |false=>show (match KU X.K (.type<|Kp M d) (.type c)with|some a9=>a7 a9|some bt=>a7 bt|none=>a8)=_;rw[Fx X.K h1 A];cases DM (Kp M d) c<;>rfl
 exact q.elim
def jH:B7:=λds M Q=>match ds with
 | [.str x]=>x.length<=sizeLine/\Q (.int x.length) M
 | [.tup xs]=>Q (.int xs.length) M
 | [.ref n]=>∃xs,al M n xs/\Q (.int xs.length) M
 |_=>False
theorem Kd:nD X (.builtin "len") jH:=by
 refine eH.imp (tF.or tE) ?_;rintro vs H R ⟨ds,M,ρ,Q,m,a,q,k⟩;unfold jH at q;split at q
 first|have z:=Reps.inv_cons a|have z:=ar.inv_cons a
 clear a;obtain⟨_,_,rfl,b,a⟩:=z;cases a;cases b;exact .inr ⟨_,rfl,q.1,k _ H<|VQ.now m (.int _) q.2⟩
 first|have z:=Reps.inv_cons a|have z:=ar.inv_cons a
 clear a;obtain⟨_,_,rfl,b,a⟩:=z;cases a;cases b with
 |tup h r=>exact .inl ⟨_,_,rfl,.inr h,k _ H<|VQ.now m (by rw[<-r.length];exact .int _) q⟩
 obtain⟨xs,L,q⟩:=q
 first|have z:=Reps.inv_cons a|have z:=ar.inv_cons a
 clear a;obtain⟨_,_,rfl,b,a⟩:=z;cases a;obtain⟨_,rfl,e⟩:=u4.inv_ref b;obtain⟨s,c,r⟩:=al.seq m L e;exact .inl ⟨_,_,rfl,.inl c,k _ H<|VQ.now m (by rw[<-r.length];exact .int _) q⟩;exact q.elim
noncomputable def bls(bs:List Bool):List D:=bs.map .bl
theorem Reps.bls{K:t8}{ρ:List c6}{H:Hp}:∀{bs:List Bool}{vs:List V},Reps K ρ H (L2.bls bs) vs->vs=bs.map V.bl
 | [],_,h=>by cases h;rfl
 |b::bs,_,h=>by
  cases h with
  |cons r t=>cases r;rw[Reps.bls t];rfl
theorem uZ:∀{bs:List Bool}{us:List b7},ar (bs.map V.bl) us->us=bs.map Nl
 | [],_,h=>by cases h;rfl
 |b::bs,_,h=>by
  cases h with
  |cons r t=>cases r;rw[uZ t];rfl
theorem xR{pins:List (c6×c7)}{σ:St}{H:Hp}{s:d9}{a:c6}{bs:List Bool}{G:d9->Prop}(I:t4 X pins σ H s)(x:X.calm=a9)(z:G7 X.K H a (bs.map V.bl))(g:∀s',t4 X pins σ H s'->G s'):∀(E:b7->d9->Prop),e8 (f7 X.prog X.w) X.A.in1 (i8<|.ref a) (λit s₂=>∃I fp wr n P St tr,it=ABF I/\Walks X.prog X.w X.A.in1 I fp wr n P St/\St 0 s₂.heap/\TruthOf X.prog X.w X.A.in1 P tr /\ (n=bs.length/\(∀i,i<bs.length->tr i=bs.getD i bt))/\∀h' tk,(∀b o,b∉wr->s₂.heap.get? b=a7 o->h'.get? b=a7 o)->G { s₂ with heap:=h',toks:=tk }) E s:=by
 intro E;obtain⟨its,D,p,J⟩:=I.list z;have c:=uZ D;subst c;have l:=p.isList;have t:a<s.heap.objs.size:=by obtain⟨o,n,e,_⟩:=p;exact x3 e
 refine Pa l ?_;have j:t4 X pins σ H { s with heap:=s.heap.push { cls:=.type "list_iterator",data:=.fields #[.ref a,.int 0 0] } }:=I.kept (t':=s.toks) λb o e=>w6 _ e;refine⟨s.heap.objs.size,_,_,_,_,_,λi=>bs.getD i bt,rfl,Walks.list (A:=X.A.in1) (I.ok.hd x) s.heap.objs.size a (x9 t) (bs.map Nl).toArray,⟨⟨_,A9 _ rfl,rfl,rfl⟩,l.push _⟩,?_,⟨by simp,λi _=>rfl⟩,λh' tk C=>?_⟩;intro i v s' Q' F B Q;have h:(bs.map Nl).toArray[i]?=a7 v:=B;rw[List.getElem?_toArray,D5]at h;cases e:bs[i]? with
 |none=>rw[e]at h;cases h
 |some b =>
  rw[e]at h;cases h;refine Mx ?_;have:bs.getD i bt=b:=by rw[Kx,e];rfl
  have d:Q' (bs.getD i bt) s':=Q;rw[this]at d;exact d
 have f:=I.fpOk (H':=H) (u6 _)<|I.hok.fresh<|u6 _;obtain⟨m,k,M,r,q,y⟩:=f;exact g _<|j.turned (t':=tk) (it:=s.heap.objs.size) (λb o u e=>C b o (by simpa using u) e) m k r q y
theorem AL{bs:List Bool}{tr:Nat->Bool}(h:∀i,i<bs.length->tr i=bs.getD i bt):(A7 bs.length).any tr=bs.any id:=by rw[Bool.eq_iff_iff,Lx,Lx];constructor;rintro⟨i,hi,g⟩;have a:=J0.mp hi;rw[h i a,Kx,v9 a]at g;exact⟨_,Ln a,g⟩;rintro⟨b,hb,g⟩;obtain⟨i,hi,e⟩:=List.mem_iff_getElem.mp hb;refine⟨i,J0.mpr hi,?_⟩;rw[h i hi,Kx,v9 hi,e];exact g
def GJ:B7:=λds M Q=>match ds with
 | [.ref n]=>∃s,al M n (bls s)/\Q (.bl<|s.any id) M
 |_=>False
theorem Kf(i:X.calm=a9:=by rfl):nD X (.builtin "any") GJ:=by
 rintro p s σ H vs us R I v ⟨ds,M,ρ,Q,m,a,q,k⟩;unfold GJ at q;split at q;obtain⟨c,L,q⟩:=q
 first|have z:=Reps.inv_cons a|have z:=ar.inv_cons a
 clear a;obtain⟨_,_,rfl,l,a⟩:=z;cases a;obtain⟨u,rfl,t⟩:=ar.one v;obtain⟨_,rfl,e⟩:=u4.inv_ref l;cases t;obtain⟨y,h,r⟩:=al.seq m L e;rw[r.bls]at h;refine call_any_walk<|v6 (xR (G:=λs'=>EP X p σ R (.bool<|c.any id) s') I i h (λs' b=>gX b m k q) _) ?_;rintro it x ⟨J,C,w,n,P,Sx,tr,t,W,st,T,⟨d,g⟩,f⟩;subst d;exact⟨J,C,w,_,P,Sx,tr,t,W,st,T,λh' o j=>by rw[AL g];exact f h' o j⟩;exact q.elim
end
end L2
namespace L2
open PySem PySem.Spec PyProof.Rows DL _root_.HT
section
variable{prog:c5}{w:c3}{A:d8}{E:b7->d9->Prop}{s:d9}
theorem pZ{t m:c6}{i:Array b7}{l u:b7}{lo hi:Option Int}{Q:b7->d9->Prop}(D:IsTup s.heap t i)(hs:s.heap.IsSliceOf m l u .none)(p:j9 l lo)(f:j9 u hi)(d:sIx i.size 0 lo=0/\sIx i.size i.size hi=i.size) (h:Q (.ref t) s):e8 (f7 prog w) A (k7 (.ref t)<|.ref m) Q E s:=by
 obtain⟨o,b,c,e⟩:=id hs;have a:s.TypeIs (.ref m) "slice":=⟨o,b,c⟩
 unfold k7
 try with_reducible refine E4 ?_
 first|refine r9 (t6 ?_)|skip
 refine r9<|wpAny_sequenceKey D.typeIs (by decide)<|r9<|Lz (name:=t5 "__getitem__") D.typeIs NI<|Ks NI D.typeIs entry_tuple_getitem ?_<|args_tuple_getitem _ _;refine(show e8 (f7 prog w) _ (Pv (.ref t) >>= _) _ _ s from r9<|tupleItemsOf_ D<|r9<|Mq a ?_);rw[o5<|by decide];refine r9<|fG hs p f ?_;refine(show e8 (f7 prog w) _ (if (((sIx i.size 0 lo:Nat):Int)==0&&(1:Int)==1&&(sIx i.size i.size hi-sIx i.size 0 lo)==i.size)=a9 then _ else _) _ _ s from ?_);rw[o5<|by rw[d.1,d.2];simp];unfold Builtin.Tuple.tupleIsExact;refine r9<|r9<|Mq D.typeIs<|t6 ?_;rw[o5<|by decide];exact r9<|KA<|t6 ⟨_,rfl,t6 h⟩
end
end L2
namespace L2
open PySem PySem.Spec PyProof.Rows DL
section
variable{X:Cx}{a b:f6}{ta tb:v5}{pos:f8}
theorem K3.imp(h:K3 X r')(i:∀x y H R,r x y H R->r' x y H R):K3 X r:=λa e p s σ H x y v u R I g b q hs=>h a e p s σ H x y v u R I g b (i x y H R q) hs
theorem Reps.atI{K:t8}{ρ:List c6}{H:Hp}{ds:List D}{vs:List V}{i:Int}{d:D}(r:Reps K ρ H ds vs)(h:L2.atI ds i=a7 d):∃v,L2.atI vs i=a7 v/\u4 K ρ H d v:=by
 unfold L2.atI at h ⊢;rw[r.length]at h;cases e:Lq vs.length i with
 |none=>rw[e]at h;cases h
 |some j=>rw[e]at h;obtain⟨v,c,a⟩:=r.get<|show ds[j]?=a7 d from h;exact⟨v,c,a⟩
def v7:E9:=λx y M Q=>match x,y with
 |.tup xs,.int i=>match L2.atI xs i with
  |some d=>Q d M
  |none=>False
 |.str z,.int i=>z.length<=sizeLine/\match L2.atI z.cps.toList i with
  |some c=>Q (.str ⟨#[c]⟩) M
  |none=>False
 |.ref n,.int i=>∃xs,al M n xs/\match L2.atI xs i with
  |some d=>Q d M
  |none=>False
 |_,_=>False
theorem FJ:K3 X (lowR X.K v7):=by refine K3.imp Jg ?_;rintro p s H R ⟨x,y,M,ρ,Q,m,b,l,q,k⟩;unfold v7 at q;split at q;rename_i xs i;split at q;rename_i d e;cases l;obtain⟨_,_,rfl,h,r⟩:=u4.inv_tup b;obtain⟨v,a,f⟩:=r.atI e;exact .inr<|.inl ⟨_,_,_,v,rfl,rfl,h,a,k _ H<|VQ.now m f q⟩;exact q.elim;rename_i z i;obtain⟨o,q⟩:=q;split at q;rename_i c e;cases l;cases b;exact .inr<|.inr ⟨z,i,c,rfl,rfl,o,e,k _ H<|VQ.now m (.str _) q⟩;exact q.elim;rename_i n i;obtain⟨xs,L,q⟩:=q;split at q;rename_i d e;cases l;obtain⟨_,rfl,g⟩:=u4.inv_ref b;obtain⟨vs,j,r⟩:=al.seq m L g;obtain⟨v,a,f⟩:=r.atI e;exact .inl ⟨_,_,_,v,rfl,rfl,j,a,k _ H<|VQ.now m f q⟩;exact q.elim;exact q.elim
theorem d_ix(f:DE X a ta)(d:DE X b tb)(hs:uV b:=by intro _ _;rfl):DE X (.Subscript a b pos) (tx v7 ta tb):=PE.imp (pe_ix FJ f d hs) pL
abbrev MI:=SD->t9->(Option Int->t9->Prop)->Prop
def Iv(K:t8)(t:MI):TO:=λσ H R=>∃S M ρ Q,u9 K ρ M H/\SRep K ρ H S σ/\t S M Q/\∀o H',(∃b a,u9 K a b H'/\Grow K ρ H a H'/\Q o b)->R o H'
def iR:MI:=λ_ M Q=>Q a8 M
def nj(t:v5):MI:=λS M Q=>t S M λx a=>match x with
 |.int i=>Q (a7 i) a
 |_=>False
theorem PO.imp(h:PO X e t')(i:∀σ H R,t σ H R->t' σ H R):PO X e t:=λp s σ H R I q=>h p s σ H R I<|i σ H R q
theorem Gh:PO X a8 (Iv X.K iR):=by refine PO.imp ED ?_;rintro σ H R ⟨S,M,ρ,Q,s,b,q,k⟩;exact k a8 H ⟨M,ρ,s,.refl,q⟩
theorem Gg(h:DE X e te):PO X (a7 e) (Iv X.K<|nj te):=by
 refine PO.imp (EC h) ?_;rintro σ H R ⟨S,M,ρ,Q,s,g,q,k⟩;refine⟨S,M,ρ,_,s,g,q,?_⟩;rintro v H1 ⟨d,a,c,f,g1,r,b⟩;cases r with
 |int i=>exact⟨i,rfl,k _ H1 ⟨a,c,f,g1,b⟩⟩
 |_=>exact b.elim
theorem Hg:NV X (λx lo hi H Q=>∃z,x=.str z/\z.length<=sizeLine/\Q (.str<|Kv z lo hi) H):=by
 intro b s σ H x v w y lo hi n Q I r hs f m h;obtain⟨z,rfl,d,q⟩:=h;obtain⟨t,rfl⟩:=r;have a:∀{v:b7}{o:Option Int},j9 v o->∃p:Option (Int×Tok),v=partValue p/\p.map (·.1)=o:=λh=>by
  cases h with
  |none=>exact⟨a8,rfl,rfl⟩
  |int i t=>exact⟨a7 (i,t),rfl,rfl⟩
 obtain⟨g,rfl,e⟩:=a f;obtain⟨j,rfl,c⟩:=a m;subst e c;refine⟨"str",_,slot_str_getitem.lookup,ML _ _ _,wpAny_getItem_str_slice (l:=g) (u:=j) (st:=a8) hs rfl ?_⟩;exact post_val_or_str ⟨J4 (Txt.slice_le z _ _) d,λt' k=>⟨.str _,H,I.tok k,⟨t',rfl⟩,q⟩⟩
noncomputable def cutD(xs:List D)(lo hi:Option Int):List D:=(xs.drop<|HT.sIx xs.length 0 lo).take<|HT.sIx xs.length xs.length hi-HT.sIx xs.length 0 lo
theorem Reps.cutD{K:t8}{ρ:List c6}{H:Hp}{ds:List D}{vs:List V}(r:Reps K ρ H ds vs)(lo hi:Option Int):Reps K ρ H (L2.cutD ds lo hi) (DO vs lo hi):=by unfold L2.cutD DO;rw[r.length];exact(r.drop _).take _
def OD:D->Option Int->Option Int->t9->DK->Prop:=λx l hi M Q=>match x with
 |.str z=>z.length<=sizeLine/\Q (.str<|Kv z l hi) M
 |.ref n=>∃xs,al M n xs/\Q (.ref M.length) (M++[.lst<|cutD xs l hi])
 |.tup xs=>Q (.tup<|cutD xs l hi) M
 |_=>False
def lowSl(K:t8)(r:D->Option Int->Option Int->t9->DK->Prop):V->Option Int->Option Int->Hp->VK->Prop:=λe l hi H R=>∃x M ρ Q,u9 K ρ M H/\u4 K ρ H x e/\r x l hi M Q/\∀v H',VQ K ρ H Q v H'->R v H'
theorem sld:NV X (lowSl X.K OD):=by
 rintro b s σ H x v o t l hi j R I g hs c u ⟨d,M,ρ,Q,m,i,q,k⟩;unfold OD at q;split at q;cases i;exact Hg b s σ H _ v o t l hi j R I g hs c u ⟨_,rfl,q.1,k _ H<|VQ.now m (.str _) q.2⟩;obtain⟨xs,L,q⟩:=q;obtain⟨_,rfl,y⟩:=u4.inv_ref i;obtain⟨vs,z,r⟩:=al.seq m L y;exact Ei b s σ H _ v o t l hi j R I g hs c u ⟨_,vs,rfl,z,λp f=>k _ _<|VQ.laidL m .refl (r.cutD l hi) f q⟩;obtain⟨_,_,rfl,h,r⟩:=u4.inv_tup i;rename_i xs a vs;by_cases w:HT.sIx xs.length 0 l=0/\HT.sIx xs.length xs.length hi=xs.length;cases g;obtain⟨its,A,D,B⟩:=I.tuple h;have n:its.toArray.size=xs.length:=by rw[A3,r.length];exact A.length.symm
 have e:L2.cutD xs l hi=xs:=by unfold L2.cutD;rw[w.1,w.2,List.drop_zero,Nat.sub_zero,LO]
 rw[e]at q;exact⟨"tuple",_,NI.lookup,D.typeIs,pZ D hs c u (by rw[n];exact w) ⟨.ref _,H,I,rfl,k _ H<|VQ.now m (.tup h r) q⟩⟩;exact Hf b s σ H _ v o t l hi j R I g hs c u ⟨_,_,rfl,h,by rw[<-r.length];exact w,λp f=>k _ _<|VQ.laidT m .refl (r.cutD l hi) f q⟩;exact q.elim
def LS(te:v5)(t h:MI):v5:=λS M Q=>te S M λx a=>t S a λl M2=>h S M2 λu b=>OD x l u b Q
theorem Go{e:f6}{te:v5}{lo hi:Option f6}{t h:MI}{p:f8}(m:DE X e te)(n:PO X lo (Iv X.K t))(o:PO X hi (Iv X.K h)):DE X (.Subscript e (.Slice lo hi a8 p) pos) (LS te t h):=by refine PE.imp (By sld m n o) ?_;rintro σ H R ⟨S,M,ρ,Q,s,b,q,k⟩;refine⟨S,M,ρ,_,s,b,q,?_⟩;rintro v H1 ⟨d,g,c,A,g1,z,r⟩;refine⟨S,g,c,_,A,b.grow g1,r,?_⟩;rintro l D ⟨M2,a,B,i,x⟩;refine⟨S,M2,a,_,B,b.grow<|g1.trans i,x,?_⟩;rintro u E ⟨j,f,C,g3,y⟩;exact⟨d,j,f,Q,C,z.grow<|i.trans g3,y,λv H' w=>k v H'<|VQ.trans ((g1.trans i).trans g3) w⟩
def jG:E9:=λx y M Q=>match x,y with
 |.int i,.int j=>CMul i j/\Q (.int<|i*j) M
 |.str z,.int n=>(0<=n/\n<2 ^ 63/\z.length*n.toNat<=sizeLine)/\Q (.str<|Txt.mul z n) M
 |_,_=>False
theorem um(b:0<=n)(h:z.length*n.toNat<=sizeLine)(f:n<2 ^ 63):MulOk z n:=by
 refine⟨?_,λh1 h2=>?_,λh1 h2=>?_⟩;have a:decide (n < -(2 ^ 63:Int))=bt:=dF_ (by lia);have l:decide (n ≥ 2 ^ 63)=bt:=dF_ (by lia);rw[a,l];rfl;have c:(z.length:Int)*n<=2 ^ 24:=by
  have e:((z.length*n.toNat:Nat):Int)=(z.length:Int)*n:=by rw[Int.natCast_mul,Int.toNat_of_nonneg b]
  have h':((z.length*n.toNat:Nat):Int)<=(2 ^ 24:Nat):=Int.ofNat_le.mpr h;rw[e]at h';exact h'
 have s:0<n:=by lia
 intro t;have:=Int.lt_of_lt_of_le (Int.lt_mul_of_ediv_lt s t) c;lia;unfold PySem.Builtin.Str.tooLong;simpa using h
theorem EV:F5 X (j1 .Mult) jG:=by
 rintro p s σ H e f v u R I g i ⟨x,y,M,ρ,Q,m,r,l,q,k⟩;unfold jG at q;split at q;cases r;cases l;exact Ia p s σ H _ _ v u R I g i ⟨_,_,rfl,rfl,q.1,k _ H<|VQ.now m (.int _) q.2⟩;rename_i z n;cases r;cases l;obtain⟨t,rfl⟩:=g;obtain⟨t',rfl⟩:=i;obtain⟨⟨a,h2,h1⟩,q⟩:=q;exact PySem.SB.mul (um a h1 h2) λt' j=>⟨.str _,H,I.tok j,⟨t',rfl⟩,k _ H<|VQ.now m (.str _) q⟩
 exact q.elim
variable{o e:f6}{es:List f6}{to:v5}{t:D4}{name:b9}{apos cpos:f8}{id:String}
def zx(K:t8)(r:b9->B7):V->List V->Hp->VK->Prop:=λe vs H R=>∃z ds M ρ Q,e=.str z/\u9 K ρ M H/\Reps K ρ H ds vs/\r z ds M Q/\∀v H',VQ K ρ H Q v H'->R v H'
def jQ(K:t8)(r:Nat->B7):V->List V->Hp->VK->Prop:=λe vs H R=>∃n a ds M ρ Q,e=.ref a/\ρ[n]?=a7 a/\u9 K ρ M H/\Reps K ρ H ds vs/\r n ds M Q/\∀v H',VQ K ρ H Q v H'->R v H'
def Nh(r:b9->B7)(d:v5)(t:D4):v5:=λS M Q=>d S M λx a=>match x with
 |.str z=>t S a λds M2=>r z ds M2 Q
 |_=>False
def K8(r:Nat->B7)(d:v5)(t:D4):v5:=λS M Q=>d S M λx a=>match x with
 |.ref n=>(∃xs,al a n xs)/\t S a λds M2=>r n ds M2 Q
 |_=>False
theorem d_ms(slot:Slot "str" name id)(y:l7 (.builtin id)=pure (.type "method_descriptor"))(p:H9 X id (zx X.K r))(B:DE X o to)(m:DA X (e::es) t)(h:l8 o name X.env (eval o X.env)=eval o X.env:=by rfl)(b:((f9 cpos<|ge (e::es) X.env).all (λx=>!x.1)&&(m3 cpos<|m5 [] X.env).all (λx=>x.1.isSome) && decide ((e::es).length+([]:List j7).length+(if ([]:List j7).isEmpty then 0 else 1)<30))=a9:=by rfl)(a:(apos.endLine==cpos.line)=a9:=by rfl) (hs:ge (e::es) X.env=(bt,eval e X.env)::ge es X.env:=by rfl) (n:(f9 cpos<|ge es X.env).any (·.1)=bt:=by rfl):DE X (.Call (.Attribute o name apos) (e::es) [] cpos) (Nh r to t):=by
 refine PE.imp (HQ PySem.F.plainAttrs_str slot y p B m h b a hs n) ?_;rintro σ H R ⟨S,M,ρ,Q,s,i,q,k⟩;refine⟨S,M,ρ,_,s,i,q,?_⟩;rintro v H1 ⟨d,j,c,D,g1,A,g⟩;cases A with
 |str z=>exact⟨rfl,S,j,c,_,D,i.grow g1,g,λvs G ⟨ds,M2,f,E,l,C,u⟩=>⟨z,ds,M2,f,Q,rfl,E,C,u,λv H' w=>k v H'<|VQ.trans (g1.trans l) w⟩⟩
 |_=>exact g.elim
theorem d_ml(slot:Slot "list" name id)(y:l7 (.builtin id)=pure (.type "method_descriptor"))(B:H9 X id (jQ X.K r))(C:DE X o to)(A:DA X (e::es) t)(b:l8 o name X.env (eval o X.env)=eval o X.env:=by rfl)(f:((f9 cpos<|ge (e::es) X.env).all (λx=>!x.1)&&(m3 cpos<|m5 [] X.env).all (λx=>x.1.isSome) && decide ((e::es).length+([]:List j7).length+(if ([]:List j7).isEmpty then 0 else 1)<30))=a9:=by rfl)(c:(apos.endLine==cpos.line)=a9:=by rfl) (hs:ge (e::es) X.env=(bt,eval e X.env)::ge es X.env:=by rfl) (h:(f9 cpos<|ge es X.env).any (·.1)=bt:=by rfl):DE X (.Call (.Attribute o name apos) (e::es) [] cpos) (K8 r to t):=by
 refine PE.imp (HQ PySem.F.plainAttrs_list slot y B C A b f c hs h) ?_;rintro σ H R ⟨S,M,ρ,Q,s,z,q,k⟩;refine⟨S,M,ρ,_,s,z,q,?_⟩;rintro v H1 ⟨d,i,j,u,g1,G,g⟩;cases G with
 |@ref n a p =>
  obtain⟨⟨xs,L⟩,g⟩:=(show (∃xs,al i n xs)/\t S i _ from g)
  obtain⟨vs,D,_⟩:=al.seq u L p;refine⟨.inl ⟨rfl,vs,D⟩,S,i,j,_,u,z.grow g1,g,?_⟩;rintro vs N ⟨ds,M2,l,J,m,I,E⟩;exact⟨n,a,ds,M2,l,Q,rfl,aq m.pre p,J,I,E,λv H' w=>k v H'<|VQ.trans (g1.trans m) w⟩
 |_=>exact g.elim
def cv(n:Nat):B7:=λds M Q=>match ds with
 | [d]=>∃xs,M[n]?=a7 (.lst xs)/\xs.length<sizeLine/\Q .non (M.set n<|.lst<|xs++[d])
 |_=>False
theorem xr:H9 X "list.append" (jQ X.K cv):=by
 rintro p s σ H x xs v us R I l j ⟨n,a,ds,M,ρ,Q,c,f,m,b,q,k⟩;unfold cv at q;split at q;rename_i d;obtain⟨ys,e,g,q⟩:=q
 first|have z:=Reps.inv_cons b|have z:=ar.inv_cons b
 clear b;obtain⟨_,_,rfl,i,b⟩:=z;cases b;obtain⟨vs,h,r⟩:=m.obj n a _ f e;obtain⟨w,o⟩:=m.write f e h<|r.append<|.cons i .nil;exact zv p s σ H x _ v us R I l j ⟨a,vs,_,c,rfl,h,by rw[<-r.length];exact g,k _ _ ⟨.non,_,ρ,w,o,.non,q⟩⟩;exact q.elim
end
def ck(K:t8)(mg:b9->Option b7)(x:b9)(st:g7)(ps:List b9):Prop:=∃f d,Lh K x x st f d/\mg x=a7 (.ref f)/\nU K d ps []
def v4(P:c5)(w:c3)(K:t8)(mg:b9->Option b7)(base:c8)(k:Nat)(x:b9)(ps:List b9)(r:x5):Prop:=∃f d,FnOk P w K mg base Ix k f d ps (K1 K r)/\mg x=a7 (.ref f)/\LL K (.ref f)=a9/\nU K d ps []
theorem fnat_mk{K:t8}{h:c8}{mg:b9->Option b7}{x:b9}{st:g7}{ps:List b9}{f:c6}{b:b7}{j M:Option c6}{o:Array (Option b7)}{kV i U v R:b7}(X:K.In h) (G:h.Ns d6 mg) (a:LH K d6 x=a7 (a7<|.ref f))(l:K.lookup f=a7 ⟨b,j,.func<|Lv x x (iQ st) (bB st) (ao st) .none kV i U M v R,o⟩)(c:Oa K v x=a9) (k:LL K (.ref f)=a9)(h:∀(kV i U:b7) (M:Option c6) (v R:b7) (us:List b7),us.length=ps.length->bindArgs (Lv x x (iQ st) (bB st) (ao st) .none kV i U M v R) ⟨us,[]⟩=pure (ps.zip us)):ck K mg x st ps:=have F:=Jx (st:=st) l c k
 ⟨f,_,F,ON X G a,F.binds h⟩
theorem v4.of{P:c5}{w:c3}{K:t8}{mg:b9->Option b7}{base:c8}{x:b9}{st:g7}{N ps:List b9}{k:Nat}{d:x5}(F:ck K mg x st ps)(i:FnScope N ps (ao st))(B:∀ds M R,d ds M R->ds.length=ps.length) {t:t7}(r:∀(f:c6) (cdv:b7) (A:d8) (outer:List Env) (s:d9) (H:Hp) (E:XK),Room k (A.deeper<|b8 x (ao st) s.heap.objs.size f cdv)->Ls (qg Ix P w K mg base N x (ao st) f cdv A outer s H E).nox (bB st) t)(p:∀ds M R,d ds M R->t ⟨λ_ M'=>aQ M R .non M',aQ M R,λ_ _=>False,λ_ _=>False⟩ (cR N ds) M):v4 P w K mg base (k+1) x ps d:=by obtain⟨f,b,a,m,h⟩:=F;exact⟨f,b,d_fn d a i B λcdv A outer s H E c=>⟨t,r f cdv A outer s H E c,p⟩,m,a.kp,h⟩
theorem FX{P:c5}{w:c3}{K:t8}{mg:b9->Option b7}{base:c8}{x:b9}{st:g7}{N ps:List b9}{k:Nat}{d:x5}{f:c6}{a:j5}(F:Lh K x x st f a)(i:FnScope N ps (ao st))(B:∀ds M R,d ds M R->ds.length=ps.length) {t:t7}(r:∀(f:c6) (cdv:b7) (A:d8) (outer:List Env) (s:d9) (H:Hp) (E:XK),Room k (A.deeper<|b8 x (ao st) s.heap.objs.size f cdv)->Ls (qg Ix P w K mg base N x (ao st) f cdv A outer s H E).nox (bB st) t)(p:∀ds M R,d ds M R->t ⟨λ_ M'=>aQ M R .non M',aQ M R,λ_ _=>False,λ_ _=>False⟩ (cR N ds) M):FnOk P w K mg base Ix (k+1) f a ps (K1 K d):=d_fn d F i B λcdv A outer s H E h=>⟨t,r f cdv A outer s H E h,p⟩
theorem FnOk.more{P:c5}{w:c3}{K:t8}{mg:b9->Option b7}{base:c8}{CX:K9}{j k:Nat}{f:c6}{d:j5}{ps:List b9}{sp:Sp}(F:FnOk P w K mg base CX j f d ps sp)(h:j<=k):FnOk P w K mg base CX k f d ps sp:=⟨F.len,λA o s H O us vs Q E i=>F.run A o s H O us vs Q E<|i.mono h⟩
section
variable{X:Cx}{e:f6}{es:List f6}{t:D4}{pos:f8}
theorem d_cal(C:v4 X.prog X.w X.K X.mg X.base j x ps P)(r:Room k X.A)(a:DA X (e::es) t)(L:j<=k:=by decide)(S:Gl X x:=by rfl) (b:(x==("__debug__":b9))=bt:=by decide) (i:ge (e::es) X.env=(bt,eval e X.env)::ge es X.env:=by rfl) (l:(f9 pos<|ge es X.env).any (·.1)=bt:=by rfl):DE X (.Call (.Name x p) (e::es) [] pos) (u5 P t):=by obtain⟨f,c,F,m,h,d⟩:=C;exact Ka F (r.mono L) m h d a S b i l
end
def Fi:x5:=λds M R=>∃(ns:List Int) (m:MO),ns.length<=63/\(m.items=ns.map D.int/\m.isL=a9)/\ds=[.ref 0]/\M=[m]/\∀a,R (.bl a9) a
theorem sB(h:M[n]?=a7 mo)(g:mo.isL=a9):al M n mo.items:=by
 cases mo with
 |lst xs=>exact .inl h
 |fz xs=>exact .inr<|.inl h
 |kl xs=>exact .inr<|.inr h
 |dct xs=>cases g
 |dkt xs=>cases g
 |dkq _ xs=>cases g
 |fdc o xs=>cases g
 |dkm xs=>cases g
 |tb x b=>cases g
 |exc x=>cases g
theorem jh{K:t8}{ρ:List c6}{H:Hp}:∀(ns:List Int),Reps K ρ H (ns.map D.int) (ns.map V.int)
 | []=>.nil
 |n::ns=>.cons (.int n)<|jh ns
theorem xz{K:t8}{H:Hp}{a:c6}{ns:List Int}(g:ns.length<=63)(S:G7 K H a (ns.map V.int)):K1 K Fi [.ref a] H (λv _=>v=.bl a9) λ_ _ _=>False:=by
 have c:∀{mo:MO},mo.items=ns.map D.int/\mo.isL=a9->xX K [a] H a mo->K1 K Fi [.ref a] H (λv _=>v=.bl a9) λ_ _ _=>False:=λ{mo} e ok=>by refine⟨[.ref 0],[mo],[a],λd _=>d=.bl a9,⟨λn m b f t l=>?_,rfl,λn b i t l=>?_⟩,.cons (.ref rfl) .nil,⟨ns,mo,g,e,rfl,rfl,λ_=>rfl⟩,λv H' ⟨d,M,k,_,_,r,q⟩=>?_⟩;have h1:=(z6.mp t).1;have h2:=(z6.mp l).1;simp at h1 h2;lia;have h1:=(z6.mp t).1;simp at h1;subst h1;simp at t l;subst t l;exact ok;have j:d=.bl a9:=q;subst j;cases r;rfl
 rcases S with(h|⟨o,h⟩)|h;exact c (mo:=.lst _) ⟨rfl,rfl⟩ ⟨_,h,jh ns⟩;exact c (mo:=.fz _) ⟨rfl,rfl⟩ ⟨o,_,h,jh ns⟩;exact c (mo:=.kl _) ⟨rfl,rfl⟩ ⟨_,h,jh ns⟩
theorem law_walk{l:PySem.W.OpenLaw}{q:c5}{b:List b9}{P:(b9->Option b7)->c8->Prop}{YP:c3->c8->Prop}{d:DefRec}{K:Params->t8}{k:Nat}{st:g7}{x:b9}(y:l.most=a7 63)(i:d.params.defaults=[])(p:d.name = "law")(A:Room k callerA)(D:∀(w:c3) (h:c8),YP w h->(K w.params).In h)(F:∀(w:c3) (mg:b9->Option b7) (h:c8),(K w.params).In h->h.Ns d6 mg->ck (K w.params) mg "law" st [x] /\ ∀(base:c8) (f:c6) (fd:j5),Lh (K w.params) "law" "law" st f fd->FnOk l.prog w (K w.params) mg base Ix k f fd [x] (K1 (K w.params) Fi))(m:∀(kV doc pm:b7) (an:Option c6) (cdv ct:b7) (u:b7),bindArgs (Lv "law" "law" (iQ st) (bB st) (ao st) .none kV doc pm an cdv ct) ⟨[u],[]⟩=pure [(x,u)]):PySem.W.WalkO q b P YP l.row.toRowW d [] (λf vs=>PySem.call f vs):=by refine L2.walk_of (n:=63) (k:=k) (x:=x) (CX:=λ_=>Ix) (sp:=λw=>K1 (K w.params) Fi) y (by decide) i A D (λw mg I h X G g=>?_) (λw H a ns r _ S=>xz r S) λ_ _ _ _ _ z=>z;rw[p]at g;obtain⟨⟨f,fd,c,t,_⟩,C⟩:=F w mg h X G;have e:=g.symm.trans t;cases e;have j:=λbase=>C base _ _ c;obtain⟨J,L,kV,doc,pm,an,cdv,ct,B,rfl,E,o⟩:=id c.ex;exact⟨_,λs v=>.of_eq<|m kV doc pm an cdv ct v,λbase _ _=>j base⟩
noncomputable def nw(nm:List (b9×j8))(N N':List b9)(t:Nat)(s:List Nat)(c:e6):Bool:=c.kind==.function&&c.names.all (λy=>y.2 != .cell&&(y.2 != .local||c.names.lookup y.1==a7 .local)&&(y.2 != .free||(nm.lookup y.1==a7 .cell||nm.lookup y.1==a7 .free))) &&
 N'.length==t+s.length&&(A7 s.length).all λk=>match s[k]?,N'[t+k]? with
  |some j,a7 x=>N[j]?==a7 x&&c.names.lookup x==a7 .free&&(nm.lookup x==a7 .cell||nm.lookup x==a7 .free)
  |_,_=>bt
theorem BlkSc.chk(h:nw X.env.scope.names X.N N' nt js scope=a9):BlkSc X N' nt js scope:=by
 unfold nw at h;simp only[D6,F0,p5,OZ,bne_iff_ne]at h;obtain⟨⟨⟨h1,h2⟩,a⟩,d⟩:=h;refine⟨h1,λy O=>(h2 y O).1.1,λy O e=>((h2 y O).1.2.resolve_left<|λz=>z e),λy O e=>((h2 y O).2.resolve_left<|λz=>z e),a,λk j e=>?_⟩;have b:k<js.length:=(z6.mp e).1;have q:=d k<|J0.mpr b;rw[e]at q;cases f:N'[nt+k]? with
 |none=>rw[f]at q;exact o7 q<|by simp
 |some x=>rw[f]at q;simp only[D6,p5,OZ]at q;exact⟨x,rfl,q.1.1,q.1.2,q.2⟩
noncomputable def D1(f:D->D->Bool):List D->List D->Bool
 | [],[]=>a9
 |x::xs,y::ys=>f x y&&D1 f xs ys
 |_,_=>bt
noncomputable def u3(M:t9):Nat->D->D->Bool
 |_,.non,.non=>a9
 |_,.bl a,.bl b=>a==b
 |_,.bl a,.int b=>(if a then 1 else 0)==b
 |_,.int a,.bl b=>a==(if b then 1 else 0)
 |_,.int a,.int b=>a==b
 |_,.str a,.str b=>a==b
 |n+1,.tup xs,.tup ys=>D1 (u3 M n) xs ys
 |n+1,.ref i,.ref j=>match M[i]?,M[j]? with
  |some a,a7 b=>D1 (u3 M n) a.items b.items
  |_,_=>bt
 |_,_,_=>bt
noncomputable def u7(M:t9):Nat->D->Bool
 |_,.ty _=>bt
 |n+1,.tup xs=>xs.all<|u7 M n
 |n+1,.ref i=>match M[i]? with
  |some a=>a.isL&&a.items.all (u7 M n)
  |none=>bt
 | 0,.tup _=>bt
 | 0,.ref _=>bt
 |_,_=>a9
theorem Ao:∀{xs ys:List D},D1 f xs ys=a9->xs.length=ys.length
 | [],[],_=>rfl
 | [],_::_,h=>by simp[D1]at h
 |_::_,[],h=>by simp[D1]at h
 |x::xs,y::ys,h=>by simp only[D1,D6]at h;rw[B9,B9,Ao h.2]
theorem AM(n:Nat)(e:Nat->Bool):(A7<|n+1).all e=(e 0&&(A7 n).all λj=>e<|j+1):=by rw[List.range_succ_eq_map,KT,List.all_map];rfl
theorem mY:∀{xs ys:List D}{e:Nat->Bool},xs.length=ys.length->(∀(j:Nat) x y,xs[j]?=a7 x->ys[j]?=a7 y->e j=f x y)->(A7 xs.length).all e=D1 f xs ys
 | [],[],e,_,_=>by simp[D1]
 | [],_::_,_,h,_=>by simp at h
 |_::_,[],_,h,_=>by simp at h
 |x::xs,y::ys,e,h,he=>by rw[B9,AM,D1,he 0 x y rfl rfl,mY (by simpa using h) λj x' y' h1 h2=>he (j+1) x' y' (by simpa using h1)<|by simpa using h2]
theorem An(h:xs.length≠ys.length):D1 f xs ys=bt:=by
 cases q:D1 f xs ys with
 |false=>rfl
 |true=>exact o7 (Ao q) h
theorem iX{vs:List V}{us:List b7}(h:ar vs us){j:Nat}{v:V}(e:vs[j]?=a7 v):∃u,us[j]?=a7 u/\aH v u:=by
 induction h generalizing j with
 |nil=>simp at e
 |cons r _ i =>
  cases j with
  |zero=>simp at e;subst e;exact⟨_,rfl,r⟩
  |succ j=>exact i<|by simpa using e
section
variable{X:Cx}{pins:List (c6×c7)}{σ:St}{H:Hp}{s:d9}{ρ:List c6}{M:t9}
theorem lY(I:t4 X pins σ H s)(m:u9 X.K ρ M H){i:Nat}{a:c6}{mo:MO}(e:ρ[i]?=a7 a)(d:M[i]?=a7 mo)(g:mo.isL=a9):∃vs its,G7 X.K H a vs/\Reps X.K ρ H mo.items vs/\ar vs its/\PlainL s.heap a its.toArray:=by obtain⟨vs,q,r⟩:=al.seq m (sB d g) e;obtain⟨its,b,p,_⟩:=I.list q;exact⟨vs,its,q,r,b,p⟩
theorem eF(d:M[i]?=a7 mo)(o:u7 M (n+1) (.ref i)=a9):mo.isL=a9/\mo.items.all (u7 M n)=a9:=by have o':(match M[i]? with|some a=>a.isL&&a.items.all (u7 M n)|none=>bt)=a9:=o;rw[d]at o';exact(D6 _ _).mp o'
theorem CH(I:t4 X pins σ H s)(m:u9 X.K ρ M H):∀(n:Nat) (x y:D) (v:V),u4 X.K ρ H x v->u4 X.K ρ H y v->u7 M n x=a9->u7 M n y=a9->u3 M n x y=a9:=by
 have l:∀(n:Nat),(∀(x y:D) (v:V),u4 X.K ρ H x v->u4 X.K ρ H y v->u7 M n x=a9->u7 M n y=a9->u3 M n x y=a9) -> ∀(xs ys:List D) (vs:List V),Reps X.K ρ H xs vs->Reps X.K ρ H ys vs->xs.all (u7 M n)=a9->ys.all (u7 M n)=a9->D1 (u3 M n) xs ys=a9:=by
  intro n w xs;induction xs with
  |nil=>intro ys vs h1 h2 _ _;cases h1;cases h2;rfl
  |cons x xs hi =>
   intro ys vs h1 h2 c f;cases h1 with
   |cons O R =>
    cases h2 with
    |cons P S=>rw[KT,D6]at c f;rw[D1,w _ _ _ O P c.1 f.1,hi _ _ R S c.2 f.2];rfl
 intro n;induction n with
 |zero=>intro x y v h1 h2 c f;cases h1<;>cases h2<;>first|(simp[u7]at c;done)|rfl|simp[u3]
 |succ n w =>
  intro x y v h1 h2 c f;cases h1 with
  |non=>cases h2;rfl
  |bl b=>cases h2;simp[u3]
  |int b=>cases h2;simp[u3]
  |str b=>cases h2;simp[u3]
  |ty b=>simp[u7]at c
  |@tup a vs ds u r =>
   cases h2 with
   |tup h r'=>have e:=I.tuple_inj u h;subst e;exact l n w _ _ _ r r' (by simpa [u7]using c)<|by simpa [u7]using f
   |@ref i _ e =>
    exfalso;obtain⟨its,_,⟨o,z,A,_⟩,_⟩:=I.tuple u;have hi:i<M.length:=by rw[<-m.len];exact(z6.mp e).1
    obtain⟨q,g,_,_,_,⟨o',G,k,p,_⟩⟩:=lY I m e (v9 hi) (eF (v9 hi) f).1;rw[z]at k;cases k;rw[A]at p;injection p with f3;exact o7 f3<|by decide
  |@ref i a e =>
   have hi:i<M.length:=by rw[<-m.len];exact(z6.mp e).1
   have t:=v9 hi;obtain⟨vs,its,u,r,T,J⟩:=lY I m e t (eF t c).1;cases h2 with
   |tup h r'=>exfalso;obtain⟨g,_,⟨o,z,A,_⟩,_⟩:=I.tuple h;obtain⟨o',G,k,p,_⟩:=J;rw[z]at k;cases k;rw[A]at p;injection p with f3;exact o7 f3<|by decide
   |@ref j _ E =>
    have L:j<M.length:=by rw[<-m.len];exact(z6.mp E).1
    have d:=v9 L;obtain⟨q,g,h,r',Q,N⟩:=lY I m E d (eF d f).1;have F:vs=q:=I.list_inj u h;subst F;have B:=(eF t c).2;have C:=(eF d f).2;simp only[u3,t,d];exact l n w _ _ _ r r' B C
theorem kr(I:t4 X pins σ H s)(sm:u9 X.K ρ M H):∀(n:Nat) (A:d8) (x y:D) (vx vy:V) (u v:b7),A.units+n<j4->u4 X.K ρ H x vx->aH vx u->u4 X.K ρ H y vy->aH vy v->u7 M n x=a9->u7 M n y=a9 ->K5 A s u v (u3 M n x y)/\SeqAt.RcAt A s u v (u3 M n x y)/\SeqAt.RcNeAt A s u v (!u3 M n x y):=by
 intro n;induction n with
 |zero =>
  intro A x y vx vy u v hu T z o l F f;cases T with
  |ty b=>simp[u7]at F
  |tup b=>simp[u7]at F
  |ref b=>simp[u7]at F
  |non =>
   cases z;cases o with
   |ty b=>simp[u7]at f
   |tup b=>simp[u7]at f
   |ref b=>simp[u7]at f
   |non=>cases l;exact⟨OY _,SeqAt.RcAt.none_none,SeqAt.RcNeAt.none_none⟩
   |bl b=>cases l;exact⟨SeqAt.EqAt.none_bool _,SeqAt.RcAt.none_bool _,SeqAt.RcNeAt.none_bool _⟩
   |int b=>obtain⟨t,rfl⟩:=l;exact⟨SeqAt.EqAt.none_int _ _,SeqAt.RcAt.none_int _ _,SeqAt.RcNeAt.none_int _ _⟩
   |str b=>obtain⟨t,rfl⟩:=l;exact⟨SeqAt.EqAt.none_str _ _,SeqAt.RcAt.none_str _ _,SeqAt.RcNeAt.none_str _ _⟩
  |bl a =>
   cases z;cases o with
   |ty b=>simp[u7]at f
   |tup b=>simp[u7]at f
   |ref b=>simp[u7]at f
   |non=>cases l;exact⟨SeqAt.EqAt.bool_none _,SeqAt.RcAt.bool_none _,SeqAt.RcNeAt.bool_none _⟩
   |bl b=>cases l;exact⟨SeqAt.EqAt.bool_bool _ _,SeqAt.RcAt.bool_bool _ _,SeqAt.RcNeAt.bool_bool _ _⟩
   |int b=>obtain⟨t,rfl⟩:=l;exact⟨SeqAt.EqAt.bool_int _ _ _,SeqAt.RcAt.bool_int _ _ _,SeqAt.RcNeAt.bool_int _ _ _⟩
   |str b=>obtain⟨t,rfl⟩:=l;exact⟨SeqAt.EqAt.bool_str _ _ _,SeqAt.RcAt.bool_str _ _ _,SeqAt.RcNeAt.bool_str _ _ _⟩
  |int a =>
   obtain⟨t0,rfl⟩:=z;cases o with
   |ty b=>simp[u7]at f
   |tup b=>simp[u7]at f
   |ref b=>simp[u7]at f
   |non=>cases l;exact⟨SeqAt.EqAt.int_none _ _,SeqAt.RcAt.int_none _ _,SeqAt.RcNeAt.int_none _ _⟩
   |bl b=>cases l;exact⟨SeqAt.EqAt.int_bool _ _ _,SeqAt.RcAt.int_bool _ _ _,SeqAt.RcNeAt.int_bool _ _ _⟩
   |int b=>obtain⟨t,rfl⟩:=l;exact⟨Pg _ _ _ _,SeqAt.RcAt.int_int _ _ _ _,SeqAt.RcNeAt.int_int _ _ _ _⟩
   |str b=>obtain⟨t,rfl⟩:=l;exact⟨On _ _ _ _,SeqAt.RcAt.int_str _ _ _ _,SeqAt.RcNeAt.int_str _ _ _ _⟩
  |str a =>
   obtain⟨t0,rfl⟩:=z;cases o with
   |ty b=>simp[u7]at f
   |tup b=>simp[u7]at f
   |ref b=>simp[u7]at f
   |non=>cases l;exact⟨SeqAt.EqAt.str_none _ _,SeqAt.RcAt.str_none _ _,SeqAt.RcNeAt.str_none _ _⟩
   |bl b=>cases l;exact⟨SeqAt.EqAt.str_bool _ _ _,SeqAt.RcAt.str_bool _ _ _,SeqAt.RcNeAt.str_bool _ _ _⟩
   |int b=>obtain⟨t,rfl⟩:=l;exact⟨Om _ _ _ _,SeqAt.RcAt.str_int _ _ _ _,SeqAt.RcNeAt.str_int _ _ _ _⟩
   |str b=>obtain⟨t,rfl⟩:=l;exact⟨Pf _ _ _ _,SeqAt.RcAt.str_str _ _ _ _,SeqAt.RcNeAt.str_str _ _ _ _⟩
 |succ n ih =>
  intro A x y vx vy u v hu T z o l F f;have c:A.units<j4:=by lia
  have ab:A.in1.units+n<j4:=by show A.units+1+n<j4;lia
  -- what a list or a tuple is,as the heap has it
  have tupAt:∀{a:c6}{vs:List V}{ds:List D},A6 X.K H a vs->Reps X.K ρ H ds vs->∃its:List b7,ar vs its/\s.heap.IsTuple a its.toArray/\ds.length=its.length:=λ{a vs ds} q r=>by obtain⟨its,m,p,_⟩:=I.tuple q;exact⟨its,m,p,r.length.trans m.length⟩
  have lstAt:∀{i:Nat}{a:c6},ρ[i]?=a7 a->u7 M (n+1) (.ref i)=a9->∃w,M[i]?=a7 w/\∃vs its,Reps X.K ρ H w.items vs/\ar vs its/\s.heap.IsList a its.toArray/\w.items.length=its.length:=λ{i a} e ok=>by
   have hi:i<M.length:=by rw[<-sm.len];exact(z6.mp e).1
   have B:=v9 hi;obtain⟨vs,its,q,r,m,p⟩:=lY I sm e B (eF B ok).1;exact⟨_,B,vs,its,r,m,p.isList,r.length.trans m.length⟩
  have g:∀{xs ys:List D}{vs ws:List V}{its d:List b7},Reps X.K ρ H xs vs->ar vs its->Reps X.K ρ H ys ws->ar ws d->xs.all (u7 M n)=a9->ys.all (u7 M n)=a9 -> ∀(j:Nat) (h1:j<its.toArray.size) (h2:j<d.toArray.size),K5 A.in1 s its.toArray[j] d.toArray[j] (u3 M n (xs.getD j .non)<|ys.getD j .non):=λ{xs ys vs ws its d} T q1 o q2 F f j h1 h2=>by
   have l1:j<xs.length:=by rw[T.length,q1.length];simpa using h1
   have l2:j<ys.length:=by rw[o.length,q2.length];simpa using h2
   obtain⟨v1,g1,p1⟩:=T.get<|v9 l1;obtain⟨v2,g2,p2⟩:=o.get<|v9 l2;obtain⟨u1,k1,m1⟩:=iX q1 g1;obtain⟨u2,k2,m2⟩:=iX q2 g2;have z1:its.toArray[j]=u1:=by have:=(z6.mp k1).2;simpa using this
   have z2:d.toArray[j]=u2:=by have:=(z6.mp k2).2;simpa using this
   rw[z1,z2];have y1:xs.getD j .non=xs[j]:=by simp[MK,v9 l1]
   have y2:ys.getD j .non=ys[j]:=by simp[MK,v9 l2]
   rw[y1,y2];exact(ih A.in1 _ _ _ _ _ _ ab p1 m1 p2 m2 (F0.mp F _<|Ln l1)<|F0.mp f _<|Ln l2).1
  have Z:∀(xs ys:List D),xs.length=ys.length->(A7 xs.length).all (λj=>u3 M n (xs.getD j .non)<|ys.getD j .non)=D1 (u3 M n) xs ys:=λxs ys h=>mY h λj x y h1 h2=>by simp[MK,h1,h2]
  have P:∀{a b:c6}{k:Bool},u4 X.K ρ H x (.ref a)->u4 X.K ρ H y (.ref b)->u3 M (n+1) x y=k->SeqAt.RcAt A s (.ref a) (.ref b) k->SeqAt.RcNeAt A s (.ref a) (.ref b) (!k) -> K5 A s (.ref a) (.ref b) (u3 M (n+1) x y)/\SeqAt.RcAt A s (.ref a) (.ref b) (u3 M (n+1) x y)/\SeqAt.RcNeAt A s (.ref a) (.ref b) (!u3 M (n+1) x y):=λ{a b k} p1 p2 ek h1 h2=>by subst ek;refine⟨?_,h1,h2⟩;by_cases U:a=b;subst U;rw[CH I sm (n+1) x y _ p1 p2 F f];exact OY _;exact SeqAt.EqAt.of_refs U h1
  cases T with
  |ty b=>simp[u7]at F
  |non =>
   cases z;cases o with
   |ty b=>simp[u7]at f
   |tup q r=>cases l;obtain⟨its,m,p,_⟩:=tupAt q r;exact⟨SeqAt.EqAt.none_tuple p c,SeqAt.RcAt.none_tuple p c,SeqAt.RcNeAt.none_tuple p c⟩
   |ref e=>cases l;obtain⟨w,B,vs,its,r,m,p,_⟩:=lstAt e f;exact⟨SeqAt.EqAt.none_list p c,SeqAt.RcAt.none_list p c,SeqAt.RcNeAt.none_list p c⟩
   |non=>cases l;exact⟨OY _,SeqAt.RcAt.none_none,SeqAt.RcNeAt.none_none⟩
   |bl b=>cases l;exact⟨SeqAt.EqAt.none_bool _,SeqAt.RcAt.none_bool _,SeqAt.RcNeAt.none_bool _⟩
   |int b=>obtain⟨t,rfl⟩:=l;exact⟨SeqAt.EqAt.none_int _ _,SeqAt.RcAt.none_int _ _,SeqAt.RcNeAt.none_int _ _⟩
   |str b=>obtain⟨t,rfl⟩:=l;exact⟨SeqAt.EqAt.none_str _ _,SeqAt.RcAt.none_str _ _,SeqAt.RcNeAt.none_str _ _⟩
  |bl a =>
   cases z;cases o with
   |ty b=>simp[u7]at f
   |tup q r=>cases l;obtain⟨its,m,p,_⟩:=tupAt q r;exact⟨SeqAt.EqAt.bool_tuple _ p c,SeqAt.RcAt.bool_tuple _ p c,SeqAt.RcNeAt.bool_tuple _ p c⟩
   |ref e=>cases l;obtain⟨w,B,vs,its,r,m,p,_⟩:=lstAt e f;exact⟨SeqAt.EqAt.bool_list _ p c,SeqAt.RcAt.bool_list _ p c,SeqAt.RcNeAt.bool_list _ p c⟩
   |non=>cases l;exact⟨SeqAt.EqAt.bool_none _,SeqAt.RcAt.bool_none _,SeqAt.RcNeAt.bool_none _⟩
   |bl b=>cases l;exact⟨SeqAt.EqAt.bool_bool _ _,SeqAt.RcAt.bool_bool _ _,SeqAt.RcNeAt.bool_bool _ _⟩
   |int b=>obtain⟨t,rfl⟩:=l;exact⟨SeqAt.EqAt.bool_int _ _ _,SeqAt.RcAt.bool_int _ _ _,SeqAt.RcNeAt.bool_int _ _ _⟩
   |str b=>obtain⟨t,rfl⟩:=l;exact⟨SeqAt.EqAt.bool_str _ _ _,SeqAt.RcAt.bool_str _ _ _,SeqAt.RcNeAt.bool_str _ _ _⟩
  |int a =>
   obtain⟨t0,rfl⟩:=z;cases o with
   |ty b=>simp[u7]at f
   |tup q r=>cases l;obtain⟨its,m,p,_⟩:=tupAt q r;exact⟨SeqAt.EqAt.int_tuple _ _ p c,SeqAt.RcAt.int_tuple _ _ p c,SeqAt.RcNeAt.int_tuple _ _ p c⟩
   |ref e=>cases l;obtain⟨w,B,vs,its,r,m,p,_⟩:=lstAt e f;exact⟨SeqAt.EqAt.int_list _ _ p c,SeqAt.RcAt.int_list _ _ p c,SeqAt.RcNeAt.int_list _ _ p c⟩
   |non=>cases l;exact⟨SeqAt.EqAt.int_none _ _,SeqAt.RcAt.int_none _ _,SeqAt.RcNeAt.int_none _ _⟩
   |bl b=>cases l;exact⟨SeqAt.EqAt.int_bool _ _ _,SeqAt.RcAt.int_bool _ _ _,SeqAt.RcNeAt.int_bool _ _ _⟩
   |int b=>obtain⟨t,rfl⟩:=l;exact⟨Pg _ _ _ _,SeqAt.RcAt.int_int _ _ _ _,SeqAt.RcNeAt.int_int _ _ _ _⟩
   |str b=>obtain⟨t,rfl⟩:=l;exact⟨On _ _ _ _,SeqAt.RcAt.int_str _ _ _ _,SeqAt.RcNeAt.int_str _ _ _ _⟩
  |str a =>
   obtain⟨t0,rfl⟩:=z;cases o with
   |ty b=>simp[u7]at f
   |tup q r=>cases l;obtain⟨its,m,p,_⟩:=tupAt q r;exact⟨SeqAt.EqAt.str_tuple _ _ p c,SeqAt.RcAt.str_tuple _ _ p c,SeqAt.RcNeAt.str_tuple _ _ p c⟩
   |ref e=>cases l;obtain⟨w,B,vs,its,r,m,p,_⟩:=lstAt e f;exact⟨SeqAt.EqAt.str_list _ _ p c,SeqAt.RcAt.str_list _ _ p c,SeqAt.RcNeAt.str_list _ _ p c⟩
   |non=>cases l;exact⟨SeqAt.EqAt.str_none _ _,SeqAt.RcAt.str_none _ _,SeqAt.RcNeAt.str_none _ _⟩
   |bl b=>cases l;exact⟨SeqAt.EqAt.str_bool _ _ _,SeqAt.RcAt.str_bool _ _ _,SeqAt.RcNeAt.str_bool _ _ _⟩
   |int b=>obtain⟨t,rfl⟩:=l;exact⟨Om _ _ _ _,SeqAt.RcAt.str_int _ _ _ _,SeqAt.RcNeAt.str_int _ _ _ _⟩
   |str b=>obtain⟨t,rfl⟩:=l;exact⟨Pf _ _ _ _,SeqAt.RcAt.str_str _ _ _ _,SeqAt.RcNeAt.str_str _ _ _ _⟩
  |@tup a vs ds q r =>
   cases z;obtain⟨its,m,p,S⟩:=tupAt q r;cases o with
   |ty b=>simp[u7]at f
   |non=>cases l;exact⟨SeqAt.EqAt.tuple_none p c,SeqAt.RcAt.tuple_none p c,SeqAt.RcNeAt.tuple_none p c⟩
   |bl b=>cases l;exact⟨SeqAt.EqAt.tuple_bool _ p c,SeqAt.RcAt.tuple_bool _ p c,SeqAt.RcNeAt.tuple_bool _ p c⟩
   |int b=>obtain⟨t,rfl⟩:=l;exact⟨SeqAt.EqAt.tuple_int _ _ p c,SeqAt.RcAt.tuple_int _ _ p c,SeqAt.RcNeAt.tuple_int _ _ p c⟩
   |str b=>obtain⟨t,rfl⟩:=l;exact⟨SeqAt.EqAt.tuple_str _ _ p c,SeqAt.RcAt.tuple_str _ _ p c,SeqAt.RcNeAt.tuple_str _ _ p c⟩
   |ref e=>cases l;obtain⟨w,B,aj,Y,r',Q,N,_⟩:=lstAt e f;exact⟨SeqAt.EqAt.tuple_list p N c,SeqAt.RcAt.tuple_list p N c,SeqAt.RcNeAt.tuple_list p N c⟩
   |@tup b ws es O r' =>
    cases l;obtain⟨d,Q,N,E⟩:=tupAt O r';have G:ds.all (u7 M n)=a9:=by simpa [u7]using F
    have J:es.all (u7 M n)=a9:=by simpa [u7]using f
    have ai:((A7<|min its.toArray.size d.toArray.size).all (λj=>u3 M n (ds.getD j .non)<|es.getD j .non)&&its.toArray.size==d.toArray.size)=D1 (u3 M n) ds es:=by rw[A3,A3];by_cases L:ds.length=es.length;rw[<-S,<-E,<-L,Nat.min_self,Z ds es L];simp;rw[An L,<-S,<-E];simp[L]
    have h1:=SeqAt.RcAt.tuples p N c<|g r m r' Q G J;have h2:=SeqAt.RcNeAt.tuples p N c<|g r m r' Q G J;rw[ai]at h1 h2;exact P (.tup q r) (.tup O r') rfl h1 h2
  |@ref i a e =>
   cases z;obtain⟨w,B,vs,its,r,m,p,S⟩:=lstAt e F;cases o with
   |ty b=>simp[u7]at f
   |non=>cases l;exact⟨SeqAt.EqAt.list_none p c,SeqAt.RcAt.list_none p c,SeqAt.RcNeAt.list_none p c⟩
   |bl b=>cases l;exact⟨SeqAt.EqAt.list_bool _ p c,SeqAt.RcAt.list_bool _ p c,SeqAt.RcNeAt.list_bool _ p c⟩
   |int b=>obtain⟨t,rfl⟩:=l;exact⟨SeqAt.EqAt.list_int _ _ p c,SeqAt.RcAt.list_int _ _ p c,SeqAt.RcNeAt.list_int _ _ p c⟩
   |str b=>obtain⟨t,rfl⟩:=l;exact⟨SeqAt.EqAt.list_str _ _ p c,SeqAt.RcAt.list_str _ _ p c,SeqAt.RcNeAt.list_str _ _ p c⟩
   |tup O r'=>cases l;obtain⟨Y,Q,N,_⟩:=tupAt O r';exact⟨SeqAt.EqAt.list_tuple p N c,SeqAt.RcAt.list_tuple p N c,SeqAt.RcNeAt.list_tuple p N c⟩
   |@ref j b e' =>
    cases l;obtain⟨R,W,ws,d,r',Q,N,E⟩:=lstAt e' f;have G:w.items.all (u7 M n)=a9:=(eF B F).2;have J:R.items.all (u7 M n)=a9:=(eF W f).2;have ek:u3 M (n+1) (.ref i) (.ref j)=D1 (u3 M n) w.items R.items:=by simp only[u3,B,W]
    by_cases L:w.items.length=R.items.length;have C:its.toArray.size=d.toArray.size:=by rw[A3,A3,<-S,<-E,L]
    have h1:=SeqAt.RcAt.lists p N C c<|g r m r' Q G J;have h2:=SeqAt.RcNeAt.lists p N C c<|g r m r' Q G J;rw[A3,<-S,Z _ _ L]at h1 h2;exact P (.ref e) (.ref e') ek h1 h2;have C:(its.toArray.size != d.toArray.size)=a9:=by rw[A3,A3,<-S,<-E];simpa using L
    have h1:=SeqAt.RcAt.lists_lengths p N C c;have h2:=SeqAt.RcNeAt.lists_lengths p N C c;exact P (.ref e) (.ref e') (ek.trans<|An L) h1 h2
noncomputable def ve:Nat:=30
def C5:E9:=λx y M Q=>(u7 M ve x=a9/\u7 M ve y=a9)/\Q (.bl<|u3 M ve x y) M
def OE:E9:=λx y M Q=>(u7 M ve x=a9/\u7 M ve y=a9)/\Q (.bl<|!u3 M ve x y) M
noncomputable def LD(M:t9)(x:D)(ys:List D):Bool:=ys.any λy=>u3 M ve y x
def Hm(g:Bool):E9:=λx y M Q=>match y with
 |.tup ys=>(u7 M ve x=a9/\ys.all (u7 M ve)=a9)/\Q (.bl<|LD M x ys != g) M
 |.ref n=>∃ys,al M n ys/\(u7 M ve x=a9/\ys.all (u7 M ve)=a9)/\Q (.bl<|LD M x ys != g) M
 |.str z=>match x with
  |.str p=>Q (.bl<|(!(NG z p 0 z.length 1).isEmpty) != g) M
  |_=>False
 |_=>False
abbrev Nf:E9:=Hm bt
abbrev me:E9:=Hm a9
end
section
variable{X:Cx}
theorem vc(i:Room k A):A.units+ve<j4:=by have:=i.un;unfold ve;lia
theorem od_eq(i:Room k X.A):F5 X (j2 .Eq) C5:=by rintro p s σ H e b v u R I g a ⟨x,y,M,ρ,Q,m,r,l,⟨⟨c,f⟩,q⟩,k⟩;exact(kr I m ve X.A x y e b v u (vc i) r g l a c f).2.1 _ _ _ _<|gX I m k q
theorem od_ne(i:Room k X.A):F5 X (j2 .NotEq) OE:=by rintro p s σ H e b v u R I g a ⟨x,y,M,ρ,Q,m,r,l,⟨⟨c,f⟩,q⟩,k⟩;exact(kr I m ve X.A x y e b v u (vc i) r g l a c f).2.2 _ _ _ _<|gX I m k q
theorem sT{pins:List (c6×c7)}{σ:St}{H:Hp}{s:d9}{ρ:List c6}{M:t9}(I:t4 X pins σ H s)(m:u9 X.K ρ M H):∀(n:Nat) (x y z:D) (v:V),u4 X.K ρ H x v->u4 X.K ρ H y v->u7 M n x=a9->u7 M n y=a9->u3 M n x z=u3 M n y z:=by
 have p:∀(n:Nat),(∀(x y z:D) (v:V),u4 X.K ρ H x v->u4 X.K ρ H y v->u7 M n x=a9->u7 M n y=a9->u3 M n x z=u3 M n y z) -> ∀(xs ys c:List D) (vs:List V),Reps X.K ρ H xs vs->Reps X.K ρ H ys vs->xs.all (u7 M n)=a9->ys.all (u7 M n)=a9->D1 (u3 M n) xs c=D1 (u3 M n) ys c:=by
  intro n B xs;induction xs with
  |nil=>intro ys c vs h1 h2 _ _;cases h1;cases h2;rfl
  |cons x xs hi =>
   intro ys c vs h1 h2 l f;cases h1 with
   |cons P S =>
    cases h2 with
    |cons Q T =>
     cases c with
     |nil=>rfl
     |cons z c=>rw[KT,D6]at l f;rw[D1,D1,B _ _ z _ P Q l.1 f.1,hi _ c _ S T l.2 f.2]
 intro n;induction n with
 |zero=>intro x y z v h1 h2 l f;cases h1<;>cases h2<;>first|rfl|(cases z<;>rfl)
 |succ n B =>
  intro x y z v h1 h2 l f;cases h1 with
  |non=>cases h2;rfl
  |bl b=>cases h2;rfl
  |int b=>cases h2;rfl
  |str b=>cases h2;rfl
  |ty b=>cases h2;rfl
  |@tup a vs ds A r =>
   cases h2 with
   |tup h r' =>
    have e:=I.tuple_inj A h;subst e;cases z with
    |tup c=>exact p n B _ _ c _ r r' l f
    |_=>rfl
   |@ref i _ e =>
    exfalso;obtain⟨its,_,⟨o,C,E,_⟩,_⟩:=I.tuple A;have hi:i<M.length:=by rw[<-m.len];exact(z6.mp e).1
    obtain⟨u,g,_,_,_,⟨o',J,q,t,_⟩⟩:=lY I m e (v9 hi) (eF (v9 hi) f).1;rw[C]at q;cases q;rw[E]at t;injection t with f3;exact o7 f3<|by decide
  |@ref i a e =>
   have hi:i<M.length:=by rw[<-m.len];exact(z6.mp e).1
   have w:=v9 hi;obtain⟨vs,its,A,r,W,N⟩:=lY I m e w (eF w l).1;cases h2 with
   |tup h r'=>exfalso;obtain⟨g,_,⟨o,C,E,_⟩,_⟩:=I.tuple h;obtain⟨o',J,q,t,_⟩:=N;rw[C]at q;cases q;rw[E]at t;injection t with f3;exact o7 f3<|by decide
   |@ref j _ F =>
    have L:j<M.length:=by rw[<-m.len];exact(z6.mp F).1
    have d:=v9 L;obtain⟨u,g,h,r',R,O⟩:=lY I m F d (eF d f).1;have G:vs=u:=I.list_inj A h;subst G;cases z with
    |ref k =>
     simp only[u3,w,d];cases M[k]? with
     |none=>rfl
     |some U=>exact p n B _ _ _ _ r r' (eF w l).2 (eF d f).2
    |_=>rfl
theorem zX{k:Nat}(E:Room k X.A){pins:List (c6×c7)}{σ:St}{H:Hp}{s:d9}{ρ:List c6}{M:t9}(I:t4 X pins σ H s)(m:u9 X.K ρ M H){x:D}{l:V}{v:b7}(J:u4 X.K ρ H x l)(N:aH l v)(z:u7 M ve x=a9):∀{ys:List D}{ws:List V}{its:List b7},Reps X.K ρ H ys ws->ar ws its->ys.all (u7 M ve)=a9->∃e:b7->Bool,(∀u∈its,K5 X.A.in1 s u v<|e u)/\its.any e=LD M x ys:=by
 have w:X.A.in1.units+ve<j4:=by have:=E.un;show X.A.units+1+ve<j4;unfold ve;lia
 intro ys ws its i vs ok
 classical
 refine⟨λu=>if h:∃d a,u4 X.K ρ H d a/\aH a u/\u7 M ve d=a9 then u3 M ve h.choose x else bt,λu C=>?_,?_⟩;obtain⟨j,L,B⟩:=List.getElem_of_mem C;have y:j<ws.length:=by rw[vs.length];exact L
 obtain⟨d,n,f⟩:=i.getV<|v9 y;obtain⟨u',b,R⟩:=iX vs<|v9 y;have:u'=u:=by rw[v9 L]at b;cases b;exact B
 subst this;have o:=F0.mp ok _<|J1 n;have h:∃d a,u4 X.K ρ H d a/\aH a u'/\u7 M ve d=a9:=⟨d,_,f,R,o⟩
 show K5 X.A.in1 s u' v (if h:_ then _ else _);rw[dif_pos h];obtain⟨a,g,p,c⟩:=h.choose_spec;have F:=aH.inj p R;subst F;rw[sT I m ve _ d x _ g f c o];exact(kr I m ve X.A.in1 d x _ l _ v w f R J N (F0.mp ok _<|J1 n) z).1;clear w z;unfold LD;induction ys generalizing ws its with
 |nil=>cases i;cases vs;rfl
 |cons d ds G =>
  cases i with
  |cons r t =>
  cases vs with
  |cons q t' =>
   rename_i a O u us;rw[KT,D6]at ok;have h:∃d a,u4 X.K ρ H d a/\aH a u/\u7 M ve d=a9:=⟨d,_,r,q,ok.1⟩
   rw[List.any_cons,List.any_cons,G t t' ok.2,dif_pos h];obtain⟨P,g,p,c⟩:=h.choose_spec;have F:=aH.inj p q;subst F;rw[sT I m ve _ d x _ g r c ok.1]
theorem Dq(g:Bool)(F:Room k X.A):F5 X (j2<|if g then .NotIn else .In) (Hm g):=by
 rintro G s σ H O P v u R I D E ⟨x,y,M,ρ,Q,m,B,K,q,k⟩;cases K with
 |non=>exact q.elim
 |bl b=>exact q.elim
 |int b=>exact q.elim
 |ty b=>exact q.elim
 |str z =>
  cases B with
  |str p =>
   obtain⟨t,rfl⟩:=D;obtain⟨t',rfl⟩:=E;cases g with
   |false=>exact in_str<|gX I m k<|by simpa [Hm]using q
   |true=>exact notIn_str<|gX I m k<|by simpa [Hm]using q
  |_=>exact q.elim
 |@tup a N ys j r =>
  cases E;obtain⟨⟨o,n⟩,q⟩:=(show (u7 M ve x=a9/\_)/\_ from q)
  obtain⟨its,C,l,J⟩:=I.tuple j;obtain⟨e,i,f⟩:=zX F I m B D o r C n;have d:its.toArray.any e=LD M x ys:=by rw[<-f];simp
  cases g with
  |false=>exact SeqAt.in_tupleAt e l (λw c=>i w<|by simpa using c)<|by rw[d];exact gX I m k<|by simpa using q
  |true=>exact SeqAt.notIn_tupleAt e l (λw c=>i w<|by simpa using c)<|by rw[d];exact gX I m k<|by simpa using q
 |ref h =>
  cases E;obtain⟨ys,L,⟨o,n⟩,q⟩:=(show ∃ys,al M _ ys/\(u7 M ve x=a9/\_)/\_ from q)
  obtain⟨N,j,r⟩:=al.seq m L h;obtain⟨its,C,l,J⟩:=I.list j;obtain⟨e,i,f⟩:=zX F I m B D o r C n;have d:its.toArray.any e=LD M x ys:=by rw[<-f];simp
  cases g with
  |false=>exact SeqAt.in_listAt e l.isList (λw c=>i w<|by simpa using c)<|by rw[d];exact gX I m k<|by simpa using q
  |true=>exact SeqAt.notIn_listAt e l.isList (λw c=>i w<|by simpa using c)<|by rw[d];exact gX I m k<|by simpa using q
theorem od_in(i:Room k X.A):F5 X (j2 .In) Nf:=Dq bt i
theorem BJ(i:Room k X.A):F5 X (j2 .NotIn) me:=Dq a9 i
end
theorem Kh:d7 "len" = a7 (.builtin "len"):=by decide +kernel
theorem Ki:d7 "any" = a7 (.builtin "any"):=by decide +kernel
theorem fg:d7 "isinstance" = a7 (.builtin "isinstance"):=by decide +kernel
theorem AH:d7 "sorted" = a7 (.builtin "sorted"):=by decide +kernel
theorem GA:d7 "list" = a7 (.type "list"):=by decide +kernel
theorem Dc:d7 "tuple" = a7 (.type "tuple"):=by decide +kernel
theorem GB:d7 "dict" = a7 (.type "dict"):=by decide +kernel
noncomputable def visB(c:e6)(x:b9):Bool:=match c.names.lookup x with
 |some .local=>a9
 |some .cell=>a9
 |some .free=>a9
 |_=>bt
theorem GT(h:visB sc x=a9):MD sc x:=by unfold visB at h;unfold MD;split at h;rename_i e;exact .inl e;rename_i e;exact .inr<|.inl e;rename_i e;exact .inr<|.inr e;cases h
noncomputable def Fb(c:e6)(x:b9):Bool:=match c.names.lookup x with
 |some .local=>a9
 |some .cell=>a9
 |_=>bt
theorem wa(h:Fb sc x=a9):Mm sc x:=by unfold Fb at h;unfold Mm;split at h;rename_i e;exact .inl e;rename_i e;exact .inr e;cases h
structure HE(X:Cx)(e:f6)(t:v5):Prop where
 ok:DE X e t
structure HT(X:Cx)(e:f6)(t:D9):Prop where
 ok:DT X e t
structure HW(X:Cx)(e:f6)(t:D9):Prop where
 ok:DW X e t
structure HA(X:Cx)(es:List f6)(t:D4):Prop where
 ok:DA X es t
structure HS(X:Cx)(e:g7)(t:t7):Prop where
 ok:DS X e t
structure HB(X:Cx)(e:List g7)(t:t7):Prop where
 ok:Ls X e t
structure HG(X:Cx)(e:f6)(t:G1):Prop where
 ok:DG X e t
structure HI(X:Cx)(tg e:f6)(t:KL):Prop where
 ok:DI X tg e t
structure MG(X:Cx)(e:List f6)(t:D9):Prop where
 ok:Lr X e (lowT X.K t)
structure HO'(X:Cx)(e:Option f6)(t:MI):Prop where
 ok:PO X e (Iv X.K t)
structure F6(X:Cx)(f:b7->b7->Sem b7)(r:E9):Prop where
 ok:F5 X f r
structure HUn(X:Cx)(f:b7->Sem b7)(r:PN):Prop where
 ok:UnD X f r
structure HC(X:Cx)(f:b7)(r:B7):Prop where
 ok:nD X f r
structure OK(X:Cx)(name:b9)(r:b9->B7):Prop where
 ok:∃id,Slot "str" name id/\l7 (.builtin id)=pure (.type "method_descriptor")/\H9 X id (zx X.K r)
structure N0(X:Cx)(name:b9)(r:Nat->B7):Prop where
 ok:∃id,Slot "list" name id/\l7 (.builtin id)=pure (.type "method_descriptor")/\H9 X id (jQ X.K r)
section
variable{X:Cx}{e a b c o:f6}{es aF:List f6}{te ta tb tc to:v5}{t:D4}{pos p:f8}{x:b9}{tA tB:D9}{k:Nat}
theorem k_var(h:X.N[i]?=a7 x:=by kernel_rfl)(c:visB X.env.scope x=a9:=by kernel_rfl)(a:(x==("__debug__":b9))=bt:=by kernel_rfl)(d:(x==("__classdict__":b9))=bt:=by kernel_rfl):HE X (.Name x pos) (ac i):=⟨d_var h (GT c) a d⟩
theorem k_int:HE X (.Constant (.int i) j pos) (dC<|.int i):=⟨d_int⟩
theorem k_bl:HE X (.Constant (.bool i) j pos) (dC<|.bl i):=⟨d_bl⟩
theorem k_non:HE X (.Constant .none j pos) (dC .non):=⟨d_non⟩
theorem k_str:HE X (.Constant (.str i) j pos) (dC<|.str i):=⟨d_str⟩
theorem IT(m:X.mg x=a8)(c:d7 x=a7 (.type T))(S:X.env.kindOf x=a7 .globalImplicit:=by kernel_rfl)(f:(x==("__name__":b9))=bt:=by kernel_rfl)(d:(x==("__debug__":b9))=bt:=by kernel_rfl):HE X (.Name x pos) (dC<|.ty T):=⟨JV m c S (by simpa using f) d⟩
theorem k_op(B:F6 X (j1 op) r)(f:HE X a ta)(d:HE X b tb):HE X (.BinOp a op b pos) (tx r ta tb):=⟨d_op B.ok f.ok d.ok⟩
theorem k_cmp(B:F6 X (j2 op) r)(f:HE X a ta)(d:HE X b tb)(m:j3 op b=bt:=by kernel_rfl):HE X (.Compare a [op] [b] pos) (tx r ta tb):=⟨d_cmp B.ok f.ok d.ok m⟩
theorem IE(B:F6 X (j2 op) r)(f:HE X a ta)(d:HE X b tb)(m:j3 op b=bt:=by kernel_rfl):HT X (.Compare a [op] [b] pos) (aE<|tx r ta tb):=⟨JI B.ok f.ok d.ok m⟩
theorem FH(B:F6 X (j2 op) r)(h:F6 X (j2 op') r')(f:HE X a ta)(d:HE X b tb)(e:HE X c tc)(m:lastMarks [op,op'] [b,c]=bt:=by kernel_rfl):HE X (.Compare a [op,op'] [b,c] pos) (tj r r' ta tb tc):=⟨Gq B.ok h.ok f.ok d.ok e.ok m⟩
theorem IC(h:HE X e te)(i:∀whole,isTrue e X.env whole=(do let v <-whole;standAt e.pos;g8 [v] (truthy v)):=by intro _;kernel_rfl):HT X e (aE te):=⟨JG h.ok i⟩
theorem Fm(f:HT X a tA):HW X (.BoolOp .And [a] pos) tA:=⟨Ga f.ok⟩
theorem IA(f:HT X a tA):HW X (.BoolOp .Or [a] pos) tA:=⟨JE f.ok⟩
theorem Dw(f:HT X a tA)(d:HW X (.BoolOp .And (b::aF) pos) tB):HW X (.BoolOp .And (a::b::aF) pos) (dAnd tA tB):=⟨JF f.ok d.ok⟩
theorem IB(f:HT X a tA)(d:HW X (.BoolOp .Or (b::aF) pos) tB):HW X (.BoolOp .Or (a::b::aF) pos) (Ng tA tB):=⟨dw_or f.ok d.ok⟩
theorem kw_t(h:HW X e tA):HT X e tA:=⟨dw_t h.ok⟩
theorem ID(f:HT X a tA):HT X (.UnaryOp .Not a pos) (Gs tA):=⟨JH f.ok⟩
theorem k_one{op}(h:HE X a ta):HE X (.BoolOp op [a] pos) ta:=⟨d_one h.ok⟩
theorem k_and(f:HE X a ta)(d:HE X (.BoolOp .And (b::aF) pos) tb):HE X (.BoolOp .And (a::b::aF) pos) (tq ta tb):=⟨d_and f.ok d.ok⟩
theorem k_or(f:HE X a ta)(d:HE X (.BoolOp .Or (b::aF) pos) tb):HE X (.BoolOp .Or (a::b::aF) pos) (dOrV ta tb):=⟨d_or f.ok d.ok⟩
theorem k_not(f:HE X a ta):HE X (.UnaryOp .Not a pos) (CV ta):=⟨d_not f.ok⟩
theorem FE(h:HT X c tA)(f:HE X a ta)(d:HE X b tb):HE X (.IfExp c a b pos) (dIfE tA ta tb):=⟨Gp h.ok f.ok d.ok⟩
theorem IS:HA X [] ag:=⟨JU⟩
theorem FA(f:HE X e te)(i:HA X es t)(hs:ge (e::es) X.env=(bt,eval e X.env)::ge es X.env:=by kernel_rfl):HA X (e::es) (aa te t):=⟨Gn f.ok i.ok hs⟩
theorem k_tup{x1}(h:HA X es t):HE X (.Tuple es x1 pos) (fL t):=⟨d_tup h.ok⟩
theorem k_lst(h:HA X es t):HE X (.List es pos) (fN t):=⟨d_lst h.ok⟩
theorem FI{id:String}{r:B7}(c:HC X (.builtin id) r)(d:X.mg x=a8)(v:d7 x=a7 (.builtin id))(f:HA X (e::es) t)(S:X.env.kindOf x=a7 .globalImplicit:=by kernel_rfl)(n:(x==("__name__":b9))=bt:=by kernel_rfl)(b:(x==("__debug__":b9))=bt:=by kernel_rfl)(i:ge (e::es) X.env=(bt,eval e X.env)::ge es X.env:=by kernel_rfl) (l:(f9 pos<|ge es X.env).any (·.1)=bt:=by kernel_rfl):HE X (.Call (.Name x p) (e::es) [] pos) (u5 r t):=⟨Gr c.ok d v f.ok S (by simpa using n) b i l⟩
theorem Cm(c:HC X (.type T) r)(d:X.mg x=a8)(v:d7 x=a7 (.type T))(f:HA X (e::es) t)(S:X.env.kindOf x=a7 .globalImplicit:=by kernel_rfl)(n:(x==("__name__":b9))=bt:=by kernel_rfl)(b:(x==("__debug__":b9))=bt:=by kernel_rfl)(i:ge (e::es) X.env=(bt,eval e X.env)::ge es X.env:=by kernel_rfl) (l:(f9 pos<|ge es X.env).any (·.1)=bt:=by kernel_rfl):HE X (.Call (.Name x p) (e::es) [] pos) (u5 r t):=⟨CT c.ok d v f.ok S (by simpa using n) b i l⟩
theorem k_cal(C:v4 X.prog X.w X.K X.mg X.base j x ps P)(r:Room k X.A)(f:HA X (e::es) t)(L:Nat.ble j k=a9:=by kernel_rfl)(S:X.env.kindOf x=a7 .globalImplicit:=by kernel_rfl) (b:(x==("__debug__":b9))=bt:=by kernel_rfl) (i:ge (e::es) X.env=(bt,eval e X.env)::ge es X.env:=by kernel_rfl) (l:(f9 pos<|ge es X.env).any (·.1)=bt:=by kernel_rfl):HE X (.Call (.Name x p) (e::es) [] pos) (u5 P t):=⟨d_cal C r f.ok (P4 L) S b i l⟩
theorem k_ix(f:HE X a ta)(d:HE X b tb)(hs:uV b:=by intro _ _;kernel_rfl):HE X (.Subscript a b pos) (tx v7 ta tb):=⟨d_ix f.ok d.ok hs⟩
theorem Fw:HO' X a8 iR:=⟨Gh⟩
theorem Fv(h:HE X e te):HO' X (a7 e) (nj te):=⟨Gg h.ok⟩
theorem FD{lo hi:Option f6}{t h:MI}{j:f8}(i:HE X e te)(g:HO' X lo t)(u:HO' X hi h):HE X (.Subscript e (.Slice lo hi a8 j) pos) (LS te t h):=⟨Go i.ok g.ok u.ok⟩
variable{name:b9}{apos cpos:f8}
theorem k_ms(d:OK X name r)(B:HE X o to)(f:HA X (e::es) t)(h:l8 o name X.env (eval o X.env)=eval o X.env:=by kernel_rfl)(w:((f9 cpos<|ge (e::es) X.env).all (λx=>!x.1)&&(m3 cpos<|m5 [] X.env).all (λx=>x.1.isSome) && decide ((e::es).length+([]:List j7).length+(if ([]:List j7).isEmpty then 0 else 1)<30))=a9:=by kernel_rfl)(a:(apos.endLine==cpos.line)=a9:=by kernel_rfl) (hs:ge (e::es) X.env=(bt,eval e X.env)::ge es X.env:=by kernel_rfl) (n:(f9 cpos<|ge es X.env).any (·.1)=bt:=by kernel_rfl):HE X (.Call (.Attribute o name apos) (e::es) [] cpos) (Nh r to t):=let ⟨_,h1,h2,h3⟩:=d.ok;⟨d_ms h1 h2 h3 B.ok f.ok h w a hs n⟩
theorem k_ml(d:N0 X name r)(B:HE X o to)(f:HA X (e::es) t)(h:l8 o name X.env (eval o X.env)=eval o X.env:=by kernel_rfl)(w:((f9 cpos<|ge (e::es) X.env).all (λx=>!x.1)&&(m3 cpos<|m5 [] X.env).all (λx=>x.1.isSome) && decide ((e::es).length+([]:List j7).length+(if ([]:List j7).isEmpty then 0 else 1)<30))=a9:=by kernel_rfl)(a:(apos.endLine==cpos.line)=a9:=by kernel_rfl) (hs:ge (e::es) X.env=(bt,eval e X.env)::ge es X.env:=by kernel_rfl) (n:(f9 cpos<|ge es X.env).any (·.1)=bt:=by kernel_rfl):HE X (.Call (.Attribute o name apos) (e::es) [] cpos) (K8 r to t):=let ⟨_,h1,h2,h3⟩:=d.ok;⟨d_ml h1 h2 h3 B.ok f.ok h w a hs n⟩
variable{st:g7}{sts:List g7}{ts us:t7}{aS bS:List g7}
theorem IG:HB X [] bj:=⟨JM⟩
theorem IF(h:HS X st ts):HB X [st] ts:=⟨JL h.ok⟩
theorem Fu(h1:HS X st ts)(h2:HB X sts us):HB X (st::sts) (ax ts us):=⟨Gf h1.ok h2.ok⟩
theorem zN(i:HE X e te)(hs:g9 e a8 pos.line X.env=pure bt:=by kernel_rfl):HS X (.Expr e pos) (jy te):=⟨Ge i.ok hs⟩
theorem DB(i:HE X e te):HS X (.Return (a7 e) pos) (bn te):=⟨JK i.ok⟩
theorem IH(h:HT X c tA)(f:HB X aS ts)(d:HB X bS us):HS X (.If c aS bS pos) (B6 tA ts us):=⟨ds_if h.ok f.ok d.ok⟩
theorem Dz(h:X.N.Nodup)(a:HE X e te)(hi:X.N[i]?=a7 x:=by kernel_rfl)(b:Fb X.env.scope x=a9:=by kernel_rfl)(hs:g9 e (a7<|.Name x pos') pos.line X.env=pure bt:=by kernel_rfl)(f:X.fn x=a9:=by kernel_rfl):HS X (.Assign [.Name x pos'] e pos) (aT te i):=⟨JJ h a.ok hi (wa b) hs<|.inl f⟩
theorem Fz(h:X.N.Nodup)(hi:X.N[i]?=a7 x:=by kernel_rfl)(a:Fb X.env.scope x=a9:=by kernel_rfl)(f:X.fn x=a9:=by kernel_rfl):HG X (.Name x pos) (am i):=⟨uQ h hi (wa a)<|.inl f⟩
theorem IM(h:X.N.Nodup)(hi:X.N[i]?=a7 x:=by kernel_rfl)(f:X.env.scope.names.lookup x=a7 .local:=by kernel_rfl):HG X (.Name x pos) (am i):=⟨uQ h hi (.inl f)<|.inr f⟩
variable{tg iter:f6}{di:KL}{g:G1}
theorem II(h:HE X e te):HI X tg e (bN te):=⟨JQ h.ok⟩
theorem DC{a:List g7}{b:t7}(hi:HI X tg iter di)(S:HG X tg g)(d:HB X a b)(p:PassesOwn (f7 X.prog X.w) X.A X.env X.xe:=by exact PassesOwn.never)(f:X.calm=a9:=by kernel_rfl)(hs:∀x,j0 iter X.env x=pure x:=by intro _;kernel_rfl):HS X (.For tg iter a [] pos) (nG di g b):=⟨JN hi.ok S.ok d.ok p f hs⟩
theorem Fs:MG X [] nF:=⟨Gc⟩
theorem Fq(h:HT X c tA):MG X [c] tA:=⟨Gb h.ok⟩
theorem k_lc(hi:HI X tg iter di)(S:∀cl s0 H0 ex,HG (z9 X N' scope cl s0 H0 ex) tg g) (D:∀cl s0 H0 ex,MG (z9 X N' scope cl s0 H0 ex) ifs tt) (i:∀cl s0 H0 ex,HE (z9 X N' scope cl s0 H0 ex) elt te) (B:nw X.env.scope.names X.N N' nt js scope=a9:=by kernel_rfl) (f:X.calm=a9:=by kernel_rfl)(hs:∀x,j0 iter X.env x=pure x:=by intro _;kernel_rfl):HE X (.ListComp elt [⟨tg,iter,ifs,0⟩] scope pos) (E8 nt js di g tt te):=⟨d_lc (BlkSc.chk B) hi.ok (λcl s0 H0 ex=>(S cl s0 H0 ex).ok) (λcl s0 H0 ex=>(D cl s0 H0 ex).ok) (λcl s0 H0 ex=>(i cl s0 H0 ex).ok) f hs⟩
theorem zR(d:X.mg "range" = a8)(f:HA X [a] t)(S:X.env.kindOf "range" = a7 .globalImplicit:=by kernel_rfl)(hs:ge [a] X.env=[(bt,eval a X.env)]:=by kernel_rfl):HI X tg (.Call (.Name "range" p) [a] [] pos) (bC t):=⟨At d f.ok S hs⟩
theorem Ji:F6 X (j1 .Sub) GG:=⟨Ij⟩
theorem Jl:F6 X (j1 .Mult) jG:=⟨EV⟩
theorem FP:F6 X (j1 .FloorDiv) aI:=⟨EW⟩
theorem Jm:F6 X (j1 .Mod) bP:=⟨Im⟩
theorem ho_lt:F6 X (j2 .Lt) LB:=⟨od_lt⟩
theorem ho_le:F6 X (j2 .LtE) Nd:=⟨od_le⟩
theorem ho_gt:F6 X (j2 .Gt) LC:=⟨od_gt⟩
theorem ho_is:F6 X (j2 .Is) NL:=⟨od_is⟩
theorem ho_eq(i:Room k X.A):F6 X (j2 .Eq) C5:=⟨od_eq i⟩
theorem ho_ne(i:Room k X.A):F6 X (j2 .NotEq) OE:=⟨od_ne i⟩
theorem ho_in(i:Room k X.A):F6 X (j2 .In) Nf:=⟨od_in i⟩
theorem Cs(i:Room k X.A):F6 X (j2 .NotIn) me:=⟨BJ i⟩
theorem Jr:HC X (.builtin "len") jH:=⟨Kd⟩
theorem Jt(f:X.calm=a9:=by kernel_rfl):HC X (.builtin "any") GJ:=⟨Kf f⟩
theorem Js:HC X (.builtin "isinstance") GI:=⟨Ke⟩
theorem Ac:N0 X "append" cv:=⟨_,PySem.F.slot_list_append,PySem.F.type_list_append,xr⟩
end
theorem v4.byH{P:c5}{w:c3}{K:t8}{mg:b9->Option b7}{base:c8}{x:b9}{st:g7}{N ps:List b9}{k:Nat}{d:x5}(F:ck K mg x st ps)(i:FnScope N ps (ao st))(B:∀ds M R,d ds M R->ds.length=ps.length) {t:t7}(r:∀(f:c6) (cdv:b7) (A:d8) (outer:List Env) (s:d9) (H:Hp) (E:XK),Room k (A.deeper<|b8 x (ao st) s.heap.objs.size f cdv)->HB (qg Ix P w K mg base N x (ao st) f cdv A outer s H E).nox (bB st) t)(p:∀ds M R,d ds M R->t ⟨λ_ M'=>aQ M R .non M',aQ M R,λ_ _=>False,λ_ _=>False⟩ (cR N ds) M):v4 P w K mg base (k+1) x ps d:=v4.of F i B (λf cdv A outer s H E h=>(r f cdv A outer s H E h).ok) p
theorem CB{P:c5}{w:c3}{K:t8}{mg:b9->Option b7}{base:c8}{x:b9}{st:g7}{N ps:List b9}{k:Nat}{d:x5}{f:c6}{a:j5}(F:Lh K x x st f a)(i:FnScope N ps (ao st))(B:∀ds M R,d ds M R->ds.length=ps.length) {t:t7}(r:∀(f:c6) (cdv:b7) (A:d8) (outer:List Env) (s:d9) (H:Hp) (E:XK),Room k (A.deeper<|b8 x (ao st) s.heap.objs.size f cdv)->HB (qg Ix P w K mg base N x (ao st) f cdv A outer s H E).nox (bB st) t)(p:∀ds M R,d ds M R->t ⟨λ_ M'=>aQ M R .non M',aQ M R,λ_ _=>False,λ_ _=>False⟩ (cR N ds) M):FnOk P w K mg base Ix (k+1) f a ps (K1 K d):=FX F i B (λf cdv A outer s H E h=>(r f cdv A outer s H E h).ok) p
section
variable{ok:t9->Prop}{g:G1}{tb:t7}{E:DEnds}{k0:t9}
theorem jx(I:List D->SD->t9->Prop)(h0:∀S M,I [] S M->ok M/\E.nx S M)(h1:∀x xs S M,I (x::xs) S M->∀L:SD->t9->Prop,(∀S' M',I xs S' M'->L S' M')->ok M/\g x S M λS2 M2=>tb ⟨C4 k0 L,E.rt,E.nx,C4 k0 L⟩ S2 M2):∀xs S M,I xs S M->sZ ok g tb E k0 xs S M
 | [],S,M,h=>h0 S M h
 |x::xs,S,M,h=>h1 x xs S M h _<|jx I h0 h1 xs
theorem bf(I:Nat->SD->t9->Prop)(a:∀S M,I xs.length S M->ok M/\E.nx S M)(h1:∀i x S M,xs[i]?=a7 x->I i S M->∀L:SD->t9->Prop,(∀S' M',I (i+1) S' M'->L S' M')->ok M/\g x S M λS2 M2=>tb ⟨C4 k0 L,E.rt,E.nx,C4 k0 L⟩ S2 M2)(h:I 0 S M):sZ ok g tb E k0 xs S M:=by
 refine jx (λys S M=>∃i,xs.drop i=ys/\i+ys.length=xs.length/\I i S M) ?_ ?_ xs S M ⟨0,rfl,by simp,h⟩;rintro S M ⟨i,_,e,q⟩;have:i=xs.length:=by simpa using e
 subst this;exact a S M q;rintro x ys S M ⟨i,e,l,q⟩ L b;have c:xs[i]?=a7 x:=by
  have:(xs.drop i)[0]?=a7 x:=by rw[e];rfl
  simpa using this
 refine h1 i x S M c q L λS' M' j=>b S' M' ⟨i+1,?_,by simp at l;lia,j⟩;rw[<-List.drop_drop,e];rfl
theorem C4.now(h:P S M):C4 k0 P S M:=.inl h
theorem bG{lo:Int}{n i:Nat}{x:D}:(gy lo n)[i]?=a7 x↔i<n/\x=.int (lo+(i:Int)):=by unfold gy;rw[D5];by_cases h:i<n;simp[h,eq_comm];simp[h]
theorem aR{lo:Int}{n:Nat}:(gy lo n).length=n:=by simp[gy]
end
theorem aO(p:D->Bool)(f:D->D)(I:SD->Prop)(hok:ok M):∀(xs acc:List D) (S:SD),(∀x∈xs,∀S,I S->∃S',I S'/\∀(Y:D->SD->t9->Prop) (Z:SD->t9->Prop),(if p x=a9 then Y (f x) S' M else Z S' M) -> g x S M λS2 M2=>tt S2 M2 λb M3=>if b=a9 then te S2 M3 λy M4=>Y y S2 M4 else Z S2 M3) ->I S->acc.length+xs.length<=sizeLine->Q (.ref M.length) (M++[.lst<|acc++(xs.filter p).map f])->jW ok g tt te Q xs acc S M
 | [],acc,S,_,_,_,q=>⟨hok,by simpa using q⟩
 |x::xs,acc,S,step,hS,hl,q=>by obtain⟨S',hS',k⟩:=step x C9 S hS;refine⟨hok,k (λy S2 M4=>acc.length<sizeLine/\jW ok g tt te Q xs (acc++[y]) S2 M4) (λS2 M3=>jW ok g tt te Q xs acc S2 M3) ?_⟩;have step':=λy hy=>step y<|A8 _ hy;rw[B9]at hl;by_cases hp:p x=a9;rw[o5 hp];refine⟨by lia,aO p f I hok xs _ S' step' hS' (by rw[A1,F8];lia) ?_⟩;rw[List.filter_cons_of_pos hp,B8]at q;rw[G5];exact q;rw[o6 hp];refine aO p f I hok xs acc S' step' hS' (by lia) ?_;rw[Qd hp]at q;exact q
theorem aU(f:D->D)(I:SD->Prop)(K:ok M)(xs acc:List D) (S:SD) (L:∀x∈xs,∀S,I S->∃S',I S'/\∀(Y:D->SD->t9->Prop),Y (f x) S' M->g x S M λS2 M2=>te S2 M2 λy M4=>Y y S2 M4)(a:I S) (l:acc.length+xs.length<=sizeLine) (q:Q (.ref M.length) (M++[.lst<|acc++xs.map f])):jW ok g nF te Q xs acc S M:=by refine aO (λ_=>a9) f I K xs acc S (λx c S a=>?_) a l (by rw[List.filter_eq_self.mpr λ_ _=>rfl];exact q);obtain⟨S',b,k⟩:=L x c S a;refine⟨S',b,λY Z h=>?_⟩;rw[o5 rfl]at h;have:=k Y h;simp only[nF,p7];exact this
theorem af:(M++[mo])[M.length]?=a7 mo:=by simp
theorem ae:al (M++[.lst xs]) M.length xs:=.inl af
theorem al.more(h:al M n xs)(L:t9):al (M++L) n xs:=by
 have l:∀{mo:MO},M[n]?=a7 mo->(M++L)[n]?=a7 mo:=λe=>by rw[Ko (z6.mp e).1];exact e
 rcases h with h|h|h;exact .inl<|l h;exact .inr<|.inl<|l h;exact .inr<|.inr<|l h
theorem al.ty(h:al M n xs):Kp M (.ref n) = "list":=by
 show (match M[n]? with|some mo=>if mo.isL=a9 then "list" else "?" |none=>"?") = "list"
 rcases h with h|h|h<;>(rw[h];rfl)
theorem aQ.keep(h:R d M)(b:C8 M.length d)(p:M <+: M'):aQ M R d M':=.inr<|.inl ⟨M,.refl,b,p,h⟩
theorem aQ.now(h:R d M):aQ M R d M:=.inl h
theorem aQ.bl(h:R (.bl b) M)(p:M <+: M'):aQ M R (.bl b) M':=.keep h (.bl b) p
theorem aQ.str(h:R (.str b) M)(p:M <+: M'):aQ M R (.str b) M':=.keep h (.str b) p
theorem aQ.non(h:R .non M)(p:M <+: M'):aQ M R .non M':=.keep h .non p
theorem aY:M <+: M++[mo]:=KH _ _
theorem Ef{a b:b9}(h:a.cps.toList=b.cps.toList):a=b:=by cases a;cases b;simp only[Array.toList_inj]at h;simpa using h
theorem bT{a:b9}:a.length=a.cps.toList.length:=by show a.cps.size=_;simp
theorem ql{a b:b9}:(a++b).cps.toList=a.cps.toList++b.cps.toList:=by show (a.cps++b.cps).toList=_;simp
theorem bg{a b:b9}:(a++b).length=a.length+b.length:=by rw[bT,bT,bT,ql,A1]
theorem cL:(⟨#[c]⟩:b9).length=1:=rfl
theorem ah(h:n<=1000):n<=sizeLine:=LZ<|av h
theorem AJ{α:Type}{xs:List α}{i:Int}(a:0<=i)(h1:i<xs.length):∃(j:Nat) (hj:j<xs.length),atI xs i=a7 xs[j]/\(j:Int)=i:=by
 have hj:i.toNat<xs.length:=by lia
 refine⟨i.toNat,hj,?_,by lia⟩;have e:i=((i.toNat:Nat):Int):=by lia
 have q:atI xs ((i.toNat:Nat):Int)=a7 xs[i.toNat]:=ap<|v9 hj;rw[<-e]at q;exact q
section
variable{M:t9}
theorem al.get(h:al M n xs):∃mo,M[n]?=a7 mo/\mo.items=xs/\mo.isL=a9:=by rcases h with h|h|h<;>exact⟨_,h,rfl,rfl⟩
theorem wq(h1:al M i xs)(h2:al M j ys):u3 M (n+1) (.ref i) (.ref j)=D1 (u3 M n) xs ys:=by obtain⟨a,f,rfl,h⟩:=h1.get;obtain⟨b,d,rfl,c⟩:=h2.get;simp only[u3,f,d]
theorem pH(h1:al M i xs)(h:∀x∈xs,u7 M n x=a9):u7 M (n+1) (.ref i)=a9:=by obtain⟨a,f,rfl,b⟩:=h1.get;simp only[u7,f,b,Bool.true_and];exact F0.mpr h
theorem ET(h:∀x∈xs,u7 M n x=a9):u7 M (n+1) (.tup xs)=a9:=by simp only[u7];exact F0.mpr h
theorem aJ:u7 M n (.str x)=a9:=by cases n<;>rfl
theorem aw:u7 M n (.int x)=a9:=by cases n<;>rfl
theorem Dp:u7 M n (.bl x)=a9:=by cases n<;>rfl
theorem zm:u7 M n .non=a9:=by cases n<;>rfl
theorem FY:D1 f xs []=xs.isEmpty:=by cases xs<;>rfl
theorem iP:u3 M n (.int a) (.int b)=(a==b):=by cases n<;>rfl
theorem cA:u3 M n (.str a) (.str b)=(a==b):=by cases n<;>rfl
end
section
variable{X:Cx}{pos:f8}
def nh:DR:=λds S M Q=>match ds with
 | []=>Q S M
 |_=>False
def bV(t:G1)(u:DR):DR:=λds S M Q=>match ds with
 |d::r=>t d S M λb a=>u r b a Q
 | []=>False
def ng(n:Nat)(t:DR):G1:=λd S M Q=>match d with
 |.tup ds=>ds.length=n/\t ds S M Q
 |_=>False
theorem Gj:N3 X [] nh:=by
 rintro p s σ H vs us R I r ⟨ds,S,M,ρ,Q,m,b,d,q,k⟩;cases d with
 |nil=>exact EF p s σ H _ us R I r ⟨rfl,k σ H ⟨S,M,ρ,m,.refl,b,q⟩⟩
 |cons _ _=>exact q.elim
theorem CQ(h1:DG X e t)(h2:N3 X es u)(hs:(i5 (e::es) X.env).map (·.2)=i3 e X.env::(i5 es X.env).map (·.2):=by rfl):N3 X (e::es) (bV t u):=by
 rintro p s σ H vs us R I r ⟨ds,S,M,ρ,Q,m,l,d,q,k⟩;cases d with
 |nil=>exact q.elim
 |cons i d=>refine Bx h1 h2 hs p s σ H _ us R I r ⟨_,_,rfl,_,S,M,ρ,_,m,l,i,q,?_⟩;rintro n H1 ⟨g,f,c,j,g1,a,h⟩;exact⟨_,g,f,c,Q,j,a,d.grow g1,h,λb H' w=>k b H'<|SQ.trans g1 w⟩
theorem JS(h:N3 X es t)(f:X.calm=a9:=by rfl)(b:(i5 es X.env).length=n:=by rfl) (c:(i5 es X.env).findIdx? (·.1)=a8:=by rfl):DG X (.Tuple es j pos) (ng n t):=by
 rintro p s σ H v u R I r ⟨d,S,M,ρ,Q,m,i,g,q,k⟩;cases g with
 |tup e a=>exact Hz f h b c p s σ H _ u R I r ⟨_,_,rfl,e,by rw[<-a.length];exact q.1,_,S,M,ρ,Q,m,i,a,q.2,k⟩
 |_=>exact q.elim
def dAsg(te:v5)(g:G1):t7:=λE S M=>te S M λd a=>g d S a E.nx
theorem JO(i:DE X e te)(h:DG X tg g)(hs:swapsWithSole [tg] e pos.line X.env=pure bt:=by rfl)(j:swappedStores [tg] e X.env=pure a8:=by rfl)(h1:(i5 [tg] X.env).map (·.2)=[i3 tg X.env]:=by rfl):DS X (.Assign [tg] e pos) (dAsg te g):=by refine PS.imp (Hy i h hs j h1) ?_;rintro E σ H ⟨S,M,ρ,F,s,b,q,k⟩;refine⟨S,M,ρ,_,s,b,q,?_⟩;rintro v H1 ⟨d,f,c,m,g1,r,l⟩;exact⟨d,S,f,c,_,m,b.grow g1,r,l,λa H' w=>k.nx a H'<|SQ.trans g1 w⟩
def qSet:D->D->D->t9->(t9->Prop)->Prop:=λo i v M Q=>match o,i with
 |.ref n,.int k=>∃xs j,M[n]?=a7 (.lst xs)/\Lq xs.length k=a7 j/\Q (M.set n<|.lst<|xs.set j v)
 |_,_=>False
theorem Reps.set{K:t8}{ρ:List c6}{H:Hp}{d:D}{v:V}(r:u4 K ρ H d v):∀{ds:List D}{vs:List V} (i:Nat),Reps K ρ H ds vs->Reps K ρ H (ds.set i d) (vs.set i v)
 |_,_,_,.nil=>.nil
 |_,_,0,.cons _ t=>.cons r t
 |_,_,i+1,.cons q t=>.cons q<|Reps.set r i t
def CS(d c:v5):G1:=λv S M Q=>d S M λo a=>c S a λi M2=>qSet o i v M2 λb=>Q S b
theorem JT(D:DE X o to)(hi:DE X i ti)(C:∀v,i3 (.Subscript o i pos) X.env v=(do
   let ov <-g8 [v] (eval o X.env)
   let iv <-g8 [v,ov] (eval i X.env)
   standAt pos
   g8 [v,ov,iv] (setItem ov iv v)
   release [v,ov,iv] []):=by intro _;rfl):DG X (.Subscript o i pos) (CS to ti):=by
 rintro p s σ H v u R I r ⟨d,S,M,ρ,Q,O,f,K,q,k⟩;refine HD D hi Bm C p s σ H v u R I r ⟨S,M,ρ,_,O,f,q,?_⟩;rintro V H1 ⟨o',B,h,N,g1,G,E⟩;refine⟨S,B,h,_,N,f.grow g1,E,?_⟩;rintro U T ⟨i',M2,l,z,g,J,b⟩;have c:=G.grow g;cases c with
 |@ref n a t =>
  cases J with
  |int j =>
   obtain⟨xs,x,e,L,F⟩:=(show ∃xs w,M2[n]?=a7 (.lst xs)/\Lq xs.length j=a7 w/\Q S (M2.set n<|.lst<|xs.set w d)from b)
   obtain⟨vs,m,y⟩:=z.obj n a _ t e;obtain⟨P,A⟩:=z.write t e m<|Reps.set (K.grow<|g1.trans g) x y;exact⟨a,vs,j,x,rfl,rfl,m,by rw[<-y.length];exact L,k σ _ ⟨S,_,l,P,(g1.trans g).trans A,f.grow<|(g1.trans g).trans A,F⟩⟩
  |_=>exact b.elim
 |_=>exact b.elim
def xc:B7:=λds M Q=>match ds with
 | [.ref n]=>∃xs,al M n xs/\Q (.ref M.length) (M++[.lst xs])
 | [.tup xs]=>Q (.ref M.length)<|M++[.lst xs]
 |_=>False
theorem Gv:nD X (.type "list") xc:=by
 refine eH.imp tD ?_;rintro vs H R ⟨ds,M,ρ,Q,m,a,q,k⟩;unfold xc at q;split at q;obtain⟨xs,L,q⟩:=q
 first|have z:=Reps.inv_cons a|have z:=ar.inv_cons a
 clear a;obtain⟨_,_,rfl,b,a⟩:=z;cases a;obtain⟨_,rfl,e⟩:=u4.inv_ref b;obtain⟨s,h,r⟩:=al.seq m L e;exact⟨_,s,rfl,.inl h,λl g=>k _ _<|VQ.laidL m .refl r g q⟩
 first|have z:=Reps.inv_cons a|have z:=ar.inv_cons a
 clear a;obtain⟨_,_,rfl,b,a⟩:=z;cases a;cases b with
 |tup h r=>exact⟨_,_,rfl,.inr h,λl g=>k _ _<|VQ.laidL m .refl r g q⟩
 exact q.elim
def ii:B7:=λds M Q=>match ds with
 | [.ref n]=>∃xs,al M n xs/\Q (.tup xs) M
 | [.tup xs]=>Q (.tup xs) M
 |_=>False
theorem Db:nD X (.type "tuple") ii:=by
 refine eH.imp qh ?_;rintro vs H R ⟨ds,M,ρ,Q,m,a,q,k⟩;unfold ii at q;split at q;obtain⟨xs,L,q⟩:=q
 first|have z:=Reps.inv_cons a|have z:=ar.inv_cons a
 clear a;obtain⟨_,_,rfl,b,a⟩:=z;cases a;obtain⟨_,rfl,e⟩:=u4.inv_ref b;obtain⟨s,h,r⟩:=al.seq m L e;exact⟨_,s,rfl,.inl ⟨h,λl g=>k _ _<|VQ.laidT m .refl r g q⟩⟩
 first|have z:=Reps.inv_cons a|have z:=ar.inv_cons a
 clear a;obtain⟨_,_,rfl,b,a⟩:=z;cases a;cases b with
 |tup h r=>exact⟨_,_,rfl,.inr ⟨h,k _ H<|VQ.now m (.tup h r) q⟩⟩
 exact q.elim
theorem BE:C6 X (j1 .Add) (λx y H Q=>∃a b ys,x=.ref a/\y=.ref b/\A6 X.K H a []/\A6 X.K H b ys/\Q (.ref b) H):=by intro r s σ H x y v u Q I G J h;obtain⟨a,b,ys,rfl,rfl,z,A,q⟩:=h;cases G;cases J;obtain⟨its,F,D,_⟩:=I.tuple z;obtain⟨p,M,E,_⟩:=I.tuple A;have e:its=[]:=F.nil_iff.mpr rfl;subst e;obtain⟨⟨t,w,l,L⟩,B,m,n,o⟩:=id D;obtain⟨⟨k,g,i,j⟩,f,c,C,d⟩:=id E;simp only at m o c d;subst m o c d;exact concat_meets ⟨_,B,rfl⟩ ⟨_,f,rfl⟩ noFill_tuple_add seq_tuple_add P8 Qe (Qh _ _) (tuple_addW0 a b _ _ n C w g L j<|by simp) ⟨B,f,⟨.ref b,H,I,rfl,q⟩⟩
def aA:E9:=λx y M Q=>match x,y with
 |.tup xs,.tup ys=>xs.length+ys.length<=sizeLine/\Q (.tup<|xs++ys) M
 |_,_=>qAdd x y M Q
theorem EX:F5 X (j1 .Add) aA:=by
 rintro c s σ H f j v u R I g i ⟨x,y,M,ρ,Q,m,r,e,q,k⟩;unfold aA at q;split at q;rename_i xs ys;obtain⟨a,vs,rfl,h1,E⟩:=u4.inv_tup r;obtain⟨b,w,rfl,h2,F⟩:=u4.inv_tup e;have l:=E.length;have d:=F.length;cases xs with
 |nil=>cases E;exact BE c s σ H _ _ v u R I g i ⟨a,b,w,rfl,rfl,h1,h2,k _ H<|VQ.now m (.tup h2 F) q.2⟩
 |cons o n =>
  refine EQ c s σ H _ _ v u R I g i ⟨a,b,vs,w,rfl,rfl,h1,h2,?_,by rw[<-l,<-d];exact q.1,λz=>?_,λ_ p h=>k _ _<|VQ.laidT m .refl (E.append F) h q.2⟩;intro z;subst z;simp at l;subst z;have:ys=[]:=by simpa using d
  subst this;rw[KO]at q;exact k _ H<|VQ.now m (.tup h1 E) q.2
 exact Ip c s σ H f j v u R I g i ⟨x,y,M,ρ,Q,m,r,e,q,k⟩
def mh(n:Nat):B7:=λds M Q=>match ds with
 | [.ref m]=>∃xs ys,M[n]?=a7 (.lst xs)/\M[m]?=a7 (.lst ys)/\n≠m/\xs.length+ys.length<=sizeLine/\Q .non (M.set n<|.lst<|xs++ys)
 |_=>False
theorem xq:H9 X "list.extend" (jQ X.K mh):=by
 rintro p s σ H x xs v us R I A y ⟨n,a,ds,M,ρ,Q,j,g,c,d,q,k⟩;unfold mh at q;split at q;rename_i m;obtain⟨ys,E,e,i,u,o,q⟩:=q
 first|have z:=Reps.inv_cons d|have z:=ar.inv_cons d
 clear d;obtain⟨_,_,rfl,w,d⟩:=z;cases d;obtain⟨b,rfl,t⟩:=u4.inv_ref w;obtain⟨vs,f,r⟩:=c.obj n a _ g e;obtain⟨D,h,l⟩:=c.obj m b _ t i;obtain⟨B,C⟩:=c.write g e f<|r.append l;exact zu p s σ H x _ v us R I A y ⟨a,b,vs,D,j,rfl,f,h,by rw[<-r.length,<-l.length];exact o,k _ _ ⟨.non,_,ρ,B,C,.non,q⟩⟩;exact q.elim
end
end L2
namespace Srt
open PySem PySem.W PyProof.Rows
noncomputable def run{α:Type}(c:Nat->Nat->Bool):KasT α->α
 |.ret a=>a
 |.ask i j k=>run c<|k<|c i j
theorem gx{α β:Type}{c:Nat->Nat->Bool}{f:α->KasT β}:∀t:KasT α,run c (t.bind f)=run c (f<|run c t)
 |.ret a=>rfl
 |.ask i j k=>gx<|k<|c i j
def Bd{α:Type}(n:Nat):KasT α->Prop
 |.ret _=>True
 |.ask i j k=>i<n/\j<n/\∀b,Bd n<|k b
def All{α:Type}(P:α->Prop):KasT α->Prop
 |.ret a=>P a
 |.ask _ _ k=>∀b,All P<|k b
theorem All.mono{α:Type}{P Q:α->Prop}(h:∀a,P a->Q a):∀t:KasT α,All P t->All Q t
 |.ret a,q=>h a q
 |.ask _ _ k,q=>λb=>All.mono h (k b)<|q b
theorem All.bind{α β:Type}{P:β->Prop}{f:α->KasT β}:∀t:KasT α,All (λa=>All P<|f a) t->All P (t.bind f)
 |.ret a,q=>q
 |.ask _ _ k,q=>λb=>All.bind (k b)<|q b
theorem Bd.bindA{α β:Type}{n:Nat}{f:α->KasT β}:∀t:KasT α,Bd n t->All (λa=>Bd n<|f a) t->Bd n (t.bind f)
 |.ret a,_,q=>q
 |.ask _ _ k,b,q=>⟨b.1,b.2.1,λx=>Bd.bindA (k x) (b.2.2 x)<|q x⟩
theorem All.run{α:Type}{P:α->Prop}{c:Nat->Nat->Bool}:∀t:KasT α,All P t->P (Srt.run c t)
 |.ret a,q=>q
 |.ask i j k,q=>All.run (k<|c i j)<|q _
theorem wp_run{α:Type}{cmp:Nat->Nat->(Bool->d9->Prop)->d9->Prop}{c:Nat->Nat->Bool}{n:Nat}{s:d9}{Q:α->d9->Prop}(hc:∀i j (C:Bool->d9->Prop),i<n->j<n->C (c i j) s->cmp i j C s):∀t:KasT α,Bd n t->Q (run c t) s->t.kasWp cmp Q s
 |.ret a,_,q=>q
 |.ask i j k,b,q=>hc i j _ b.1 b.2.1<|wp_run hc (k<|c i j) (b.2.2 _) q
structure Ku(c:Nat->Nat->Bool):Prop where
 irr:∀a,c a a=bt
 tr:∀a b d,c a b=a9->c b d=a9->c a d=a9
 neg:∀a b d,c a d=a9->c a b=a9\/c b d=a9
section
variable{c:Nat->Nat->Bool}(O:Ku c)
def le(c:Nat->Nat->Bool)(a b:Nat):Prop:=c b a=bt
theorem le_refl(O:Ku c)(a:Nat):le c a a:=O.irr a
theorem le_trans(O:Ku c)(h1:le c a b)(h2:le c b d):le c a d:=by
 unfold le at *;cases q:c d a with
 |false=>rfl
 |true=>rcases O.neg d b a q with h|h;rw[h2]at h;cases h;rw[h1]at h;cases h
theorem le_of_lt(O:Ku c)(h:c a b=a9):le c a b:=by
 unfold le;cases q:c b a with
 |false=>rfl
 |true=>have:=O.tr a b a h q;rw[O.irr]at this;cases this
noncomputable abbrev at_(p:Array Nat)(k:Nat):Nat:=p.getD k 0
def Up(c:Nat->Nat->Bool)(p:Array Nat)(m:Nat):Prop:=∀i j,i<=j->j<m->le c (at_ p i) (at_ p j)
def Dn(c:Nat->Nat->Bool)(p:Array Nat)(m:Nat):Prop:=∀i j,i<=j->j<m->le c (at_ p j) (at_ p i)
def Ni(c:Nat->Nat->Bool)(p:Array Nat)(a b:Nat):Prop:=∀i j,a<=i->i<b->a<=j->j<b->le c (at_ p i) (at_ p j)
theorem Up.one(O:Ku c)(p:Array Nat):Up c p 1:=λi j a L=>by
 have:i=j:=by lia
 subst this;exact le_refl O _
theorem Up.snoc(O:Ku c)(h:Up c p n)(h1:1<=n)(g:le c (at_ p<|n-1) (at_ p n)):Up c p (n+1):=λi j a L=>by
 by_cases b:j<n;exact h i j a b;have:j=n:=by lia
 subst this;by_cases hi:i=j;subst hi;exact le_refl O _;exact le_trans O (h i (j-1) (by lia)<|by lia) g
theorem Dn.snoc(O:Ku c)(h:Dn c p n)(h1:1<=n)(g:le c (at_ p n) (at_ p<|n-1)):Dn c p (n+1):=λi j a L=>by
 by_cases b:j<n;exact h i j a b;have:j=n:=by lia
 subst this;by_cases hi:i=j;subst hi;exact le_refl O _;exact le_trans O g<|h i (j-1) (by lia)<|by lia
theorem io(L:j<=p.size)(k:Nat):at_ (Kz p i j) k=if i<=k/\k<j then at_ p (i+j-1-k)else at_ p k:=by have e:=getElem?_mirror_all (xs:=p) (i:=i) L k;unfold at_ Kz;rw[MA,e];by_cases h:i<=k/\k<j;rw[o5 h,o5 h,MA];rw[o6 h,o6 h,MA]
theorem tL(b:k<p.size)(a:d<=k)(i:Nat):at_ (bubble p k d) i=if i=k-d then at_ p k else if k-d<i/\i<=k then at_ p (i-1)else at_ p i:=by have e:=getElem?_bubble (xs:=p) b d a i;unfold at_;rw[MA,e];by_cases h:i=k-d;rw[o5 h,o5 h,MA];rw[o6 h,o6 h];by_cases h':k-d<i/\i<=k;rw[o5 h',o5 h',MA];rw[o6 h',o6 h',MA]
theorem Dn.rev(h:Dn c p n)(f:n<=p.size):Up c (Kz p 0 n) n:=λi j a L=>by rw[io f,io f,o5 ⟨z5 _,by lia⟩,o5 ⟨z5 _,L⟩];exact h _ _ (by lia)<|by lia
theorem Dn.revEq(O:Ku c)(h:Dn c p n)(f:n<=p.size)(e:Ni c p a n):Dn c (Kz p a n) n:=λi j b L=>by rw[io f,io f];by_cases h1:a<=i/\i<n;by_cases h2:a<=j/\j<n;rw[o5 h1,o5 h2];exact e _ _ (by lia) (by lia) (by lia) (by lia);exact o7 ⟨by lia,L⟩ h2;by_cases h2:a<=j/\j<n;rw[o6 h1,o5 h2];exact h _ _ (by lia) (by lia);rw[o6 h1,o6 h2];exact h _ _ b L
theorem uU(O:Ku c):∀(f n:Nat),1<=n->Up c p n->Up c p (run c<|K4 p f n)/\n<=run c (K4 p f n)/\run c (K4 p f n)<=n+f /\(run c (K4 p f n)<n+f->c (at_ p<|run c<|K4 p f n) (at_ p<|run c (K4 p f n)-1)=a9)
 | 0,n,_,h=>⟨h,u6 _,u6 _,λz=>o7 z<|G4 _⟩
 |f+1,n,h1,h=>by
  show Up c p (run c<|if c (at_ p n) (at_ p<|n-1)=a9 then .ret n else K4 p f (n+1))/\n<=run c (if c (at_ p n) (at_ p<|n-1)=a9 then .ret n else K4 p f (n+1)) /\ run c (if c (at_ p n) (at_ p<|n-1)=a9 then .ret n else K4 p f (n+1))<=n+(f+1)/\(run c (if c (at_ p n) (at_ p<|n-1)=a9 then .ret n else K4 p f (n+1))<n+(f+1) -> c (at_ p<|run c<|if c (at_ p n) (at_ p<|n-1)=a9 then .ret n else K4 p f (n+1)) (at_ p<|run c (if c (at_ p n) (at_ p<|n-1)=a9 then .ret n else K4 p f (n+1))-1)=a9)
  by_cases q:c (at_ p n) (at_ p<|n-1)=a9;rw[o5 q];exact⟨h,u6 _,Nat.le_add_right _ _,λ_=>q⟩;rw[o6 q];obtain⟨a1,a2,a3,a4⟩:=uU O f (n+1) (by lia) (h.snoc O h1<|by unfold le;simpa using q);exact⟨a1,by lia,by lia,λz=>a4<|by lia⟩
theorem eL:(Kz p i j).size=p.size:=mirror_size _ _ _ _
def AO(c:Nat->Nat->Bool)(z n m:Nat)(r:Array Nat×Nat×Nat):Prop:=r.1.size=z/\Dn c r.1 r.2.1/\n<=r.2.1/\r.2.1<=m/\r.2.2+1<=r.2.1/\Ni c r.1 (r.2.1-(r.2.2+1)) r.2.1
def qp(c:Nat->Nat->Bool)(z nrem:Nat)(r:Nat×Array Nat):Prop:=r.2.size=z/\Up c r.2 r.1/\1<=r.1/\r.1<=nrem
def uW(c:Nat->Nat->Bool)(p:Array Nat)(k m:Nat):Prop:=m<=k/\(∀i,i<m->le c (at_ p i) (at_ p k))/\∀i,m<=i->i<k->c (at_ p k) (at_ p i)=a9
theorem kR(O:Ku c):∀(f:Nat) (p:Array Nat) (n q:Nat),q+1<=n->n+f<=p.size->Dn c p n->Ni c p (n-(q+1)) n ->AO c p.size n (n+f) (run c<|I9 f p n q)
 | 0,p,n,q,h1,h2,hd,he=>⟨rfl,hd,u6 _,u6 _,h1,he⟩
 |f+1,p,n,q,h1,h2,hd,he=>by
  have hn:n<=p.size:=by lia
  show AO c p.size n (n+(f+1)) (run c<|if c (at_ p n) (at_ p<|n-1)=a9 then(if q > 0 then I9 f (Kz p (n-(q+1)) n) (n+1) 0 else I9 f p (n+1) 0) else .ask (at_ p<|n-1) (at_ p n) λd=>if d=a9 then .ret (p,n,q)else I9 f p (n+1) (q+1));by_cases hc:c (at_ p n) (at_ p<|n-1)=a9;rw[o5 hc];by_cases hq:q > 0;rw[o5 hq];have hd':Dn c (Kz p (n-(q+1)) n) (n+1):=by refine(hd.revEq O hn he).snoc O (by lia) ?_;rw[io hn,io hn,o6 (by lia),o5 ⟨by lia,by lia⟩];exact le_trans O (le_of_lt O hc)<|he _ _ (by lia) (by lia) (by lia)<|by lia
  have r:=kR O f (Kz p (n-(q+1)) n) (n+1) 0 (by lia) (by rw[eL];lia) hd' (λi j a1 a2 a3 a4=>by
   have:i=n:=by lia
   have:j=n:=by lia
   subst_vars
   exact le_refl O _)
  obtain⟨a1,a2,a3,a4,a5,a6⟩:=r;exact⟨a1.trans eL,a2,by lia,by lia,a5,a6⟩;rw[o6 hq];have r:=kR O f p (n+1) 0 (by lia) (by lia) (hd.snoc O (by lia)<|le_of_lt O hc) (λi j a1 a2 a3 a4=>by
   have:i=n:=by lia
   have:j=n:=by lia
   subst_vars
   exact le_refl O _)
  obtain⟨a1,a2,a3,a4,a5,a6⟩:=r;exact⟨a1,a2,by lia,by lia,a5,a6⟩;rw[o6 hc];show AO c p.size n (n+(f+1)) (run c<|if c (at_ p<|n-1) (at_ p n)=a9 then .ret (p,n,q)else I9 f p (n+1) (q+1));by_cases hc':c (at_ p<|n-1) (at_ p n)=a9;rw[o5 hc'];exact⟨rfl,hd,u6 _,by show n<=_;lia,h1,he⟩;rw[o6 hc'];have l1:le c (at_ p n) (at_ p<|n-1):=by unfold le;simpa using hc'
  have l2:le c (at_ p<|n-1) (at_ p n):=by unfold le;simpa using hc
  have r:=kR O f p (n+1) (q+1) (by lia) (by lia) (hd.snoc O (by lia) l1) (λi j a1 a2 a3 a4=>by by_cases hi:i=n;by_cases hj:j=n;subst hi hj;exact le_refl O _;subst hi;exact le_trans O l1 (he _ _ (by lia) (by lia) (by lia)<|by lia);by_cases hj:j=n;subst hj;exact le_trans O (he _ _ (by lia) (by lia) (by lia)<|by lia) l2;exact he _ _ (by lia) (by lia) (by lia)<|by lia);obtain⟨a1,a2,a3,a4,a5,a6⟩:=r;exact⟨a1,a2,by lia,by lia,a5,a6⟩
theorem qK(O:Ku c)(h1:1<=n)(f:n<=nrem)(hz:nrem<=p.size)(d:Dn c p n):qp c p.size nrem (run c<|kas_tail3 n nrem p):=by unfold kas_tail3;rw[gx];obtain⟨F,a,b,_⟩:=uU O (nrem-n) n h1 (d.rev<|by lia);exact⟨eL,F,J4 h1 a,J4 b<|by lia⟩
theorem kw(O:Ku c)(h1:1<=n)(x:n+1<=nrem)(hz:nrem<=p.size)(m:Ni c p 0 n)(k:c (at_ p n) (at_ p<|n-1)=a9):qp c p.size nrem (run c<|No n nrem p):=by
 have l:Dn c p (n+1):=by refine Dn.snoc O (λi j o L=>m _ _ (by lia) (by lia) (by lia)<|by lia) h1<|le_of_lt O k
 unfold No;rw[gx];obtain⟨a,g,u,v,w,h⟩:=kR O (nrem-(n+1)) p (n+1) 0 (by lia) (by lia) l (λi j F r s t=>by
  have:i=n:=by lia
  have:j=n:=by lia
  subst_vars
  exact le_refl O _)
 by_cases q:(run c<|I9 (nrem-(n+1)) p (n+1) 0).2.2 > 0;rw[o5 q];obtain⟨d,b,e,f⟩:=qK O (p:=Kz (run c<|I9 (nrem-(n+1)) p (n+1) 0).1 ((run c<|I9 (nrem-(n+1)) p (n+1) 0).2.1-((run c<|I9 (nrem-(n+1)) p (n+1) 0).2.2+1)) (run c<|I9 (nrem-(n+1)) p (n+1) 0).2.1) (n:=(run c<|I9 (nrem-(n+1)) p (n+1) 0).2.1) (nrem:=nrem) (by lia) (by lia) (by rw[eL,a];exact hz)<|g.revEq O (by rw[a];lia) h;exact⟨d.trans<|eL.trans a,b,e,f⟩;rw[o6 q];obtain⟨d,b,e,f⟩:=qK O (p:=(run c<|I9 (nrem-(n+1)) p (n+1) 0).1) (n:=(run c<|I9 (nrem-(n+1)) p (n+1) 0).2.1) (nrem:=nrem) (by lia) (by lia) (by rw[a];exact hz) g;exact⟨d.trans a,b,e,f⟩
theorem Aw(O:Ku c)(h1:1<=nrem)(hz:nrem<=p.size):qp c p.size nrem (run c<|kas_count nrem p):=by
 unfold kas_count;rw[gx];obtain⟨F,a,o,l⟩:=uU O (nrem-1) 1 (u6 _)<|Up.one O p;generalize run c (K4 p (nrem-1) 1)=n at F a o l;by_cases k:(n==nrem)=a9;rw[o5 k];exact⟨rfl,F,a,by show n<=nrem;lia⟩;rw[o6 k];have x:n≠nrem:=by simpa using k
 have t:c (at_ p n) (at_ p<|n-1)=a9:=l (by lia);by_cases h2:n > 1;rw[o5 h2];show qp c p.size nrem (run c<|if c (at_ p 0) (at_ p<|n-1)=a9 then .ret (n,p)else No n nrem (Kz p 0 n));by_cases f:c (at_ p 0) (at_ p<|n-1)=a9;rw[o5 f];exact⟨rfl,F,a,by show n<=nrem;lia⟩;rw[o6 f];have g:n<=p.size:=by lia
 have y:le c (at_ p<|n-1) (at_ p 0):=by unfold le;simpa using f
 have m:Ni c p 0 n:=λi j b d u v=>le_trans O (F i (n-1) (by lia)<|by lia)<|le_trans O y<|F 0 j (by lia) v;have e:Ni c (Kz p 0 n) 0 n:=λi j b d u v=>by rw[io g,io g,o5 ⟨b,d⟩,o5 ⟨u,v⟩];exact m _ _ (by lia) (by lia) (by lia)<|by lia
 have h:c (at_ (Kz p 0 n) n) (at_ (Kz p 0 n)<|n-1)=a9:=by rw[io g,io g,o6 (by lia),o5 ⟨by lia,by lia⟩];rcases O.neg _ (at_ p<|0+n-1-(n-1)) _ t with z|z;exact z;have:=m (n-1) (0+n-1-(n-1)) (by lia) (by lia) (by lia) (by lia);unfold le at this;rw[this]at z;cases z
 obtain⟨q,r,s,w⟩:=kw O (p:=Kz p 0 n) (n:=n) (nrem:=nrem) (by lia) (by lia) (by rw[eL];exact hz) e h;exact⟨q.trans eL,r,s,w⟩;rw[o6 h2];have:n=1:=by lia
 subst this;exact kw O (by lia) (by lia) hz (λi j b d u v=>by
  have:i=0:=by lia
  have:j=0:=by lia
  subst_vars
  exact le_refl O _) t
theorem mi(O:Ku c)(hu:Up c p k):∀(f l r:Nat),l<=r->r<=k->r-l<=f->(∀i,i<l->le c (at_ p i) (at_ p k))->(∀i,r<=i->i<k->c (at_ p k) (at_ p i)=a9) ->uW c p k (run c<|Lu p k f l r)
 | 0,l,r,h1,h2,h3,h4,h5=>⟨by show l<=k;lia,h4,λi a1 a2=>h5 i (by have a1':l<=i:=a1;lia) a2⟩
 |f+1,l,r,h1,h2,h3,h4,h5=>by
  show uW c p k (run c<|if l ≥ r then .ret l else .ask (at_ p k) (at_ p<|(l+r) / 2) λc=>if c=a9 then Lu p k f l ((l+r) / 2)else Lu p k f ((l+r) / 2+1) r);by_cases hl:l ≥ r;rw[o5 hl];exact⟨by show l<=k;lia,h4,λi a1 a2=>h5 i (by have a1':l<=i:=a1;lia) a2⟩;rw[o6 hl];show uW c p k (run c<|if c (at_ p k) (at_ p<|(l+r) / 2)=a9 then Lu p k f l ((l+r) / 2)else Lu p k f ((l+r) / 2+1) r);by_cases hc:c (at_ p k) (at_ p<|(l+r) / 2)=a9;rw[o5 hc];refine mi O hu f l ((l+r) / 2) (by lia) (by lia) (by lia) h4 λi a1 a2=>?_;rcases O.neg _ (at_ p i) _ hc with z|z;exact z;have:=hu ((l+r) / 2) i a1 a2;unfold le at this;rw[this]at z;cases z;rw[o6 hc];have lm:le c (at_ p<|(l+r) / 2) (at_ p k):=by unfold le;simpa using hc
  refine mi O hu f ((l+r) / 2+1) r (by lia) h2 (by lia) (λi hi=>?_) h5;exact le_trans O (hu i ((l+r) / 2) (by lia)<|by lia) lm
theorem AE(O:Ku c)(f:k<p.size)(g:Up c p k)(l:m<=k)(h1:∀i,i<m->le c (at_ p i) (at_ p k))(h2:∀i,m<=i->i<k->c (at_ p k) (at_ p i)=a9):Up c (bubble p k<|k-m) (k+1):=by
 intro i j d L;have e:k-(k-m)=m:=by lia
 rw[tL f (by lia),tL f (by lia),e];by_cases hi:i=m;rw[o5 hi];by_cases h:j=m;rw[o5 h];exact le_refl O _;rw[o6 h,o5 ⟨by lia,by lia⟩];exact le_of_lt O (h2 _ (by lia)<|by lia);rw[o6 hi];by_cases a:m<i/\i<=k;rw[o5 a,o6 (by lia),o5 ⟨by lia,by lia⟩];exact g _ _ (by lia) (by lia);rw[o6 a];by_cases h:j=m;rw[o5 h];exact h1 i (by lia);rw[o6 h];by_cases b:m<j/\j<=k;rw[o5 b];exact g _ _ (by lia) (by lia);rw[o6 b];exact g _ _ d<|by lia
theorem AG(O:Ku c):∀(f:Nat) (p:Array Nat) (k:Nat),k+f<=p.size->Up c p k->(run c<|kas_bin f p k).size=p.size/\Up c (run c<|kas_bin f p k) (k+f)
 | 0,p,k,_,h=>⟨rfl,h⟩
 |f+1,p,k,hz,h=>by show (run c<|(Lu p k k 0 k).bind λl=>kas_bin f (bubble p k<|k-l)<|k+1).size=p.size/\Up c (run c<|(Lu p k k 0 k).bind λl=>kas_bin f (bubble p k<|k-l)<|k+1) (k+(f+1));rw[gx];obtain⟨a1,a2,a3⟩:=mi O h k 0 k (z5 _) (u6 _) (by lia) (λi hi=>o7 hi<|LN _) λi a1 a2=>o7 a2 (by lia);obtain⟨b1,b2⟩:=AG O f (bubble p k<|k-run c (Lu p k k 0 k)) (k+1) (by rw[bubble_size];lia)<|AE O (by lia) h a1 a2 a3;exact⟨b1.trans<|bubble_size _ _ _,by rw[show k+(f+1)=k+1+f by lia];exact b2⟩
theorem Eg(O:Ku c)(h1:1<=n):(run c<|LV n).size=n/\Up c (run c<|LV n) n:=by
 have hs:(N5<|A7 n).size=n:=by simp
 unfold LV;rw[gx];obtain⟨F,a,b,t⟩:=Aw O (p:=N5<|A7 n) h1 (by rw[hs];exact u6 _);rw[hs]at F;generalize run c (kas_count n<|N5<|A7 n)=r at F a b t;by_cases g:r.1<n;rw[o5 g];obtain⟨d,e⟩:=AG O (n-max r.1 1) r.2 (max r.1 1) (by rw[F];lia) (by rw[show max r.1 1=r.1 by lia];exact a);exact⟨d.trans F,by rw[show n=max r.1 1+(n-max r.1 1) by lia];simpa using e⟩;rw[o6 g];have f:r.1=n:=by lia
 rw[f]at a;exact⟨F,a⟩
def E3(n:Nat)(p:Array Nat):Prop:=p.toList.Perm<|A7 n
theorem E3.lt(h:E3 n p)(a:0<n)(k:Nat):at_ p k<n:=by
 unfold at_;rw[MA];cases e:p[k]? with
 |none=>simpa using a
 |some x =>
  have:x∈p.toList:=by rw[<-G6]at e;exact J1 e
  have:=h.mem_iff.mp this;simpa using this
theorem E3.rev(h:E3 n p):E3 n (Kz p i j):=(Array.perm_iff_toList_perm.mp<|mirror_perm p i j<|(j-i) / 2).trans h
theorem E3.bub(h:E3 n p):E3 n (bubble p i j):=(Array.perm_iff_toList_perm.mp<|bubble_perm p i j).trans h
section
variable{n:Nat}(h0:0<n)
theorem AK(h0:0<n)(h:E3 n p):∀(f k:Nat),Bd n (K4 p f k)
 | 0,_=>trivial
 |f+1,k=>⟨h.lt h0 _,h.lt h0 _,λb=>by cases b with
  |true=>exact trivial
  |false=>exact AK h0 h f<|k+1⟩
theorem qf(h0:0<n):∀(f:Nat) (p:Array Nat) (k q:Nat),E3 n p->Bd n (I9 f p k q)/\All (λr=>E3 n r.1) (I9 f p k q)
 | 0,p,k,q,h=>⟨trivial,h⟩
 |f+1,p,k,q,h=>by
  have key:∀b,(Bd n<|if b=a9 then(if q > 0 then I9 f (Kz p (k-(q+1)) k) (k+1) 0 else I9 f p (k+1) 0) else KasT.ask (p.getD (k-1) 0) (p.getD k 0) λd=>if d=a9 then KasT.ret (p,k,q)else I9 f p (k+1) (q+1))/\All (λr=>E3 n r.1) (if b=a9 then(if q > 0 then I9 f (Kz p (k-(q+1)) k) (k+1) 0 else I9 f p (k+1) 0) else KasT.ask (p.getD (k-1) 0) (p.getD k 0) λd=>if d=a9 then KasT.ret (p,k,q)else I9 f p (k+1) (q+1)):=λb=>by
   cases b with
   |true=>rw[o5 rfl];by_cases hq:q > 0;rw[o5 hq];exact qf h0 f _ _ _ h.rev;rw[o6 hq];exact qf h0 f _ _ _ h
   |false =>
    rw[o6<|by simp];have a:=qf h0 f p (k+1) (q+1) h;refine⟨⟨h.lt h0 _,h.lt h0 _,λb=>?_⟩,λb=>?_⟩;cases b with
    |true=>exact trivial
    |false=>exact a.1
    cases b with
    |true=>exact h
    |false=>exact a.2
  exact⟨⟨h.lt h0 _,h.lt h0 _,λb=>(key b).1⟩,λb=>(key b).2⟩
theorem kJ(c:0<n)(h:E3 n p):Bd n (kas_tail3 k m p)/\All (λr=>E3 n r.2) (kas_tail3 k m p):=by
 have v:∀{t:KasT Nat}{Q:Prop},Q->All (λ_=>Q) t:=λ{t Q} q=>by
  induction t with
  |ret a=>exact q
  |ask i j k d=>exact λb=>d b
 unfold kas_tail3;exact⟨Bd.bindA _ (AK c h.rev _ _)<|v trivial,All.bind _<|v h.rev⟩
theorem fe(a:0<n)(h:E3 n p):Bd n (No k m p)/\All (λr=>E3 n r.2) (No k m p):=by unfold No;obtain⟨b,c⟩:=qf a (m-(k+1)) p (k+1) 0 h;refine⟨Bd.bindA _ b<|c.mono<|λr i=>?_,All.bind _<|c.mono<|λr i=>?_⟩;by_cases q:r.2.2 > 0;rw[o5 q];exact(kJ a i.rev).1;rw[o6 q];exact(kJ a i).1;by_cases q:r.2.2 > 0;rw[o5 q];exact(kJ a i.rev).2;rw[o6 q];exact(kJ a i).2
theorem Da(c:0<n)(h:E3 n p):Bd n (kas_count m p)/\All (λr=>E3 n r.2) (kas_count m p):=by
 have v:∀{t:KasT Nat}{Q:Nat->Prop},(∀a,Q a)->All Q t:=λ{t Q} q=>by
  induction t with
  |ret a=>exact q a
  |ask i j k d=>exact λb=>d b
 unfold kas_count;refine⟨Bd.bindA _ (AK c h _ _)<|v λk=>?_,All.bind _<|v λk=>?_⟩;by_cases h1:(k==m)=a9;rw[o5 h1];exact trivial;rw[o6 h1];by_cases h2:k > 1;rw[o5 h2];refine⟨h.lt c _,h.lt c _,λb=>?_⟩;cases b with
 |true=>exact trivial
 |false=>exact(fe c h.rev).1
 rw[o6 h2];exact(fe c h).1;by_cases h1:(k==m)=a9;rw[o5 h1];exact h;rw[o6 h1];by_cases h2:k > 1;rw[o5 h2];intro b;cases b with
 |true=>exact h
 |false=>exact(fe c h.rev).2
 rw[o6 h2];exact(fe c h).2
theorem pz(h0:0<n)(h:E3 n p):∀(f l r:Nat),Bd n (Lu p k f l r)
 | 0,_,_=>trivial
 |f+1,l,r=>by
  show Bd n (if l ≥ r then KasT.ret l else KasT.ask (p.getD k 0) (p.getD ((l+r) / 2) 0) λc=>if c=a9 then Lu p k f l ((l+r) / 2)else Lu p k f ((l+r) / 2+1) r);by_cases hl:l ≥ r;rw[o5 hl];exact trivial;rw[o6 hl];refine⟨h.lt h0 _,h.lt h0 _,λb=>?_⟩;cases b with
  |true=>exact pz h0 h f _ _
  |false=>exact pz h0 h f _ _
theorem wB(h0:0<n):∀(f:Nat) (p:Array Nat) (k:Nat),E3 n p->Bd n (kas_bin f p k)/\All (λr=>E3 n r) (kas_bin f p k)
 | 0,p,k,h=>⟨trivial,h⟩
 |f+1,p,k,h=>by
  have triv:∀{t:KasT Nat}{Q:Nat->Prop},(∀a,Q a)->All Q t:=λ{t Q} q=>by
   induction t with
   |ret a=>exact q a
   |ask i j k ih=>exact λb=>ih b
  exact⟨Bd.bindA _ (pz h0 h _ _ _)<|triv λl=>(wB h0 f _ _ h.bub).1,All.bind _<|triv λl=>(wB h0 f _ _ h.bub).2⟩
theorem sort_bd(a:0<n):Bd n (LV n)/\All (λr=>E3 n r) (LV n):=by
 have h:E3 n (N5<|A7 n):=by unfold E3;simp
 obtain⟨b,c⟩:=Da a (m:=n) h;unfold LV;refine⟨Bd.bindA _ b<|c.mono λr i=>?_,All.bind _<|c.mono λr i=>?_⟩;by_cases g:r.1<n;rw[o5 g];exact(wB a _ _ _ i).1;rw[o6 g];exact trivial;by_cases g:r.1<n;rw[o5 g];exact(wB a _ _ _ i).2;rw[o6 g];exact i
end
theorem sort_list{α:Type}[Inhabited α]{lt:α->α->Bool}(xs:List α)(h1:1<=xs.length)(r:∀a∈xs,lt a a=bt)(tr:∀a∈xs,∀b∈xs,∀d∈xs,lt a b=a9->lt b d=a9->lt a d=a9)(n:∀a∈xs,∀b∈xs,∀d∈xs,lt a d=a9->lt a b=a9\/lt b d=a9):let c:=λi j=>if i<xs.length then(if j<xs.length then lt (xs.getD i default) (xs.getD j default)else a9)else bt
  let p:=run c<|LV xs.length
  let ys:=p.toList.map λi=>xs.getD i default
  ys.Perm xs/\ys.Pairwise λa b=>lt b a=bt:=by
 intro c p ys;have m:∀i,i<xs.length->xs.getD i default∈xs:=λi hi=>by rw[Kx,v9 hi];exact Ln hi
 have O:Ku c:=by refine⟨λa=>?_,λa b d=>?_,λa b d=>?_⟩;show (if a<xs.length then(if a<xs.length then lt _ _ else a9)else bt)=bt;by_cases f:a<xs.length;rw[o5 f,o5 f];exact r _<|m a f;rw[o6 f];show (if a<xs.length then(if b<xs.length then lt _ _ else a9)else bt)=a9->(if b<xs.length then(if d<xs.length then lt _ _ else a9)else bt)=a9->(if a<xs.length then(if d<xs.length then lt _ _ else a9)else bt)=a9;by_cases f:a<xs.length;by_cases h:b<xs.length;by_cases g:d<xs.length;rw[o5 f,o5 h,o5 h,o5 g,o5 f,o5 g];exact tr _ (m a f) _ (m b h) _<|m d g;intro _ _;rw[o5 f,o6 g];rw[o6<|show ¬b<xs.length from h];intro _ z;rw[o6 h]at z;cases z;intro z;rw[o6 f]at z;cases z;show (if a<xs.length then(if d<xs.length then lt _ _ else a9)else bt)=a9->(if a<xs.length then(if b<xs.length then lt _ _ else a9)else bt)=a9\/(if b<xs.length then(if d<xs.length then lt _ _ else a9)else bt)=a9;by_cases f:a<xs.length;by_cases h:b<xs.length;by_cases g:d<xs.length;rw[o5 f,o5 g,o5 f,o5 h,o5 h,o5 g];exact n _ (m a f) _ (m b h) _<|m d g;intro _;right;rw[o5 h,o6 g];intro _;left;rw[o5 f,o6 h];intro z;rw[o6 f]at z;cases z
 have E:E3 xs.length p:=All.run _ (sort_bd<|by lia).2;obtain⟨hs,U⟩:=Eg O h1;refine⟨?_,?_⟩;have e:(A7 xs.length).map (λi=>xs.getD i default)=xs:=by apply List.ext_getElem?;intro i;rw[D5];by_cases hi:i<xs.length;rw[List.getElem?_range hi];simp[Kx,v9 hi];rw[Mf (by simpa using hi),Mf<|by simpa using hi];rfl
 have:=E.map λi=>xs.getD i default;rw[e]at this;exact this;show (p.toList.map λi=>xs.getD i default).Pairwise λa b=>lt b a=bt;rw[Ox];intro i j hi L t;rw[u8,D7]at hi L;have u:p.size=xs.length:=hs;have l:=U i j (by lia) (by lia);have o:∀k,at_ p k<xs.length:=λk=>E.lt (by lia) k;unfold le at l;have l':(if at_ p j<xs.length then(if at_ p i<xs.length then lt (xs.getD (at_ p j) default) (xs.getD (at_ p i) default)else a9)else bt)=bt:=l;rw[o5<|o j,o5<|o i]at l';have q:p.toList[i]=at_ p i:=by unfold at_;simp[La,hi]
 have s:p.toList[j]=at_ p j:=by unfold at_;simp[La,L]
 rw[List.getElem_map,List.getElem_map,q,s];exact l'
end
end Srt
namespace L2
open PySem PySem.Spec PyProof.Rows DL
def xU(A:d8)(s:d9)(x y:b7)(k:Bool):Prop:=∀(g:c5) (w:c3) (E:b7->d9->Prop) (Q:b7->d9->Prop),Q (.bool k) s->e8 (f7 g w) A (richCompare .Lt x y) Q E s
inductive LexAt(A:d8)(s:d9):List b7->List b7->Bool->Prop
 |nn:LexAt A s [] [] bt
 |nc {y:b7}{ys:List b7}:LexAt A s [] (y::ys) a9
 |cn {x:b7}{xs:List b7}:LexAt A s (x::xs) [] bt
 |eq {x y:b7}{xs ys:List b7}{k:Bool} (h:K5 A s x y a9) (t:LexAt A s xs ys k):LexAt A s (x::xs) (y::ys) k
 |ne {x y:b7}{xs ys:List b7}{k:Bool} (h:K5 A s x y bt) (t:xU A s x y k):LexAt A s (x::xs) (y::ys) k
section
open PySem.SeqAt
open PySem.AutoSeq1 (wpAny_loadPart')
open PySem.MeetsSeq PySem.MeetsSeq2 PySem.MeetsSeq3
theorem qI(l b:c6)(a i:Array b7)(n C:Nat)(dd f:Option c6)(D o:Array (Option b7))(k:Bool):Meets (Builtin.«tuple.__lt__» ⟨[.ref l,.ref b],[]⟩)
   (λA R s=>s.heap.get? l=a7 (⟨.type "tuple",dd,.seq a n,D⟩:c7)/\s.heap.get? b=a7 { cls:=.type "tuple",dict:=f,data:=.seq i C,slots:=o } /\ LexAt A.in1 s a.toList i.toList k/\R (.ok<|.ret<|.bool k) s) :=
 .of_wp λp w A R s h=>by
  obtain⟨q,g,d,u,r⟩:=s;obtain⟨z,v,c,h⟩:=h;have M:=AutoSeq1.sub_tuple_tuple
  wp_walk using Qt z,Qt v,Lm _ (λaF b s'=>b.1=a8/\s'=⟨q,g,d,u,r⟩/\∃(vs e:List b7),aF=vs.zip e /\ LexAt A.in1 ⟨q,g,d,u,r⟩ vs e k/\vs.length+i.size=e.length+a.size) _
  case turn =>
   rintro⟨y,x⟩ aF b s' ⟨hb',rfl,vs,e,hz,hlex,hlen⟩;cases hlex with
   |nn=>cases hz
   |nc=>cases hz
   |cn=>cases hz
   |eq j t =>
    rw[MZ]at hz;injection hz with hyx hrest;injection hyx with hy c;subst hy c;refine r9<|j p w _ _ ?_
    wp_walk
    exact⟨rfl,rfl,_,_,hrest,t,by simp only[B9]at hlen;lia⟩
   |ne j t =>
    rw[MZ]at hz;injection hz with hyx hrest;injection hyx with hy c;subst hy c;refine r9<|j p w _ _ ?_;have m:=t p w
    wp_walk using m
    exact⟨_,rfl,by simpa using h⟩
  case fin =>
   rintro⟨b1,b2⟩ s' ⟨hb',rfl,vs,e,hz,hlex,hlen⟩;simp only at hb';subst hb';have B:k=decide (a.size<i.size):=by
    cases hlex with
    |nn=>simp only[D3]at hlen;exact(dF_<|by lia).symm
    |nc=>simp only[D3,B9]at hlen;exact(dT_<|by lia).symm
    |cn=>simp only[D3,B9]at hlen;exact(dF_<|by lia).symm
    |eq _ _=>rw[MZ]at hz;cases hz
    |ne _ _=>rw[MZ]at hz;cases hz
   rw[B]at h
   wp_walk
   exact⟨_,rfl,by simpa [Builtin.Tuple.tupleCompareSizes]using h⟩
  case h =>
   exact⟨rfl,rfl,a.toList,i.toList,rfl,c,by simp;lia⟩
end
theorem xU.tuples(u:s.heap.IsTuple l items)(r:s.heap.IsTuple b items2)(v:A.units<j4)(y:LexAt A.in1 s items.toList items2.toList k):xU A s (.ref l) (.ref b) k:=λp w E Q h=>by obtain⟨⟨t,q,g,C⟩,B,m,n,o⟩:=id u;obtain⟨⟨j,e,i,f⟩,d,a,z,c⟩:=id r;simp only at m o a c;subst m o a c;exact richCompare_meets_room (op:=.Lt) ⟨_,B,rfl⟩ ⟨_,d,rfl⟩ PySem.F.slot_tuple_lt PySem.F.entry_tuple_lt (PySem.F.args_tuple_lt_2 _ _) (qI l b items items2 n z q e C f k) ⟨B,d,y,show Nl k≠Value.notImplemented/\Q (.bool k) s from⟨(λx=>nomatch x),h⟩⟩ v
noncomputable def qr(f g:D->D->Bool):List D->List D->Bool
 | [],[]=>bt
 | [],_::_=>a9
 |_::_,[]=>bt
 |x::xs,y::ys=>if f x y=a9 then qr f g xs ys else g x y
noncomputable def C1(M:t9):Nat->D->D->Bool
 |_,.int a,.int b=>decide<|a<b
 |_,.str a,.str b=>jD a b
 |n+1,.tup xs,.tup ys=>qr (u3 M n) (C1 M n) xs ys
 |_,_,_=>bt
noncomputable def xO(f g:D->D->Bool):List D->List D->Bool
 |x::xs,y::ys=>if f x y=a9 then xO f g xs ys else g x y
 |_,_=>a9
noncomputable def kz(M:t9):Nat->D->D->Bool
 |_,.int _,.int _=>a9
 |_,.str _,.str _=>a9
 |n+1,.tup xs,.tup ys=>xO (u3 M n) (kz M n) xs ys
 |_,_,_=>bt
theorem xU.ints(A:d8)(s:d9)(a:Int)(t:Tok)(c:Int)(u:Tok):xU A s (.int a t) (.int c u) (decide<|a<c):=λg w E Q h=>HT.rcLt_int A s a t c u g w E Q h
theorem xU.texts(A:d8)(s:d9)(a:b9)(t:Tok)(c:b9)(u:Tok):xU A s (.str a t) (.str c u) (jD a c):=λg w E Q h =>
 (PySem.P.lt_str (show Q (.bool<|decide<|a.cps.toList<c.cps.toList) s from h):e8 (f7 g w) A (j2 .Lt (.str a t)<|.str c u) Q E s)
section
variable{X:Cx}{pins:List (c6×c7)}{σ:St}{H:Hp}{s:d9}{ρ:List c6}{M:t9}
theorem Ds(I:t4 X pins σ H s)(sm:u9 X.K ρ M H):∀(n:Nat) (A:d8) (x y:D) (vx vy:V) (u v:b7),A.units+n<j4->u4 X.K ρ H x vx->aH vx u->u4 X.K ρ H y vy->aH vy v->u7 M n x=a9->u7 M n y=a9->kz M n x y=a9 ->xU A s u v (C1 M n x y):=by
 intro n;induction n with
 |zero =>
  intro A x y vx vy u v W J c f l S T m;cases J with
  |int a =>
   cases f with
   |int b=>obtain⟨t,rfl⟩:=c;obtain⟨t',rfl⟩:=l;exact xU.ints A s a t b t'
   |_=>simp[kz]at m
  |str a =>
   cases f with
   |str b=>obtain⟨t,rfl⟩:=c;obtain⟨t',rfl⟩:=l;exact xU.texts A s a t b t'
   |_=>simp[kz]at m
  |_=>simp[kz]at m
 |succ n Y =>
  intro A x y vx vy u v W J c f l S T m;have F:A.units<j4:=by lia
  have i:A.in1.units+n<j4:=by show A.units+1+n<j4;lia
  have G:∀(ds es:List D) (vs E:List V) (its j:List b7),Reps X.K ρ H ds vs->ar vs its->Reps X.K ρ H es E->ar E j->ds.all (u7 M n)=a9->es.all (u7 M n)=a9->xO (u3 M n) (kz M n) ds es=a9 -> LexAt A.in1 s its j (qr (u3 M n) (C1 M n) ds es):=by
   intro ds;induction ds with
   |nil =>
    intro es vs E its j p w o g _ _ _;cases p;cases w;cases o with
    |nil=>cases g;exact .nn
    |cons _ _=>cases g;exact .nc
   |cons d ds hi =>
    intro es vs E its j p w o g C B k;cases p with
    |cons L p =>
     cases w with
     |cons P w =>
      cases o with
      |nil=>cases g;exact .cn
      |@cons e _ U _ O o =>
       cases g with
       |cons R g=>rw[KT,D6]at C B;have z:=(kr I sm n A.in1 d _ _ _ _ _ i L P O R C.1 B.1).1;rw[qr];rw[xO]at k;by_cases q:u3 M n d e=a9;rw[q]at z;rw[o5 q]at k ⊢;exact .eq z<|hi _ _ _ _ _ p w o g C.2 B.2 k;have h:=Ly.mpr q;rw[h]at z;rw[o6 q]at k ⊢;exact .ne z<|Y A.in1 _ _ _ _ _ _ i L P O R C.1 B.1 k
  cases J with
  |int a =>
   cases f with
   |int b=>obtain⟨t,rfl⟩:=c;obtain⟨t',rfl⟩:=l;exact xU.ints A s a t b t'
   |_=>simp[kz]at m
  |str a =>
   cases f with
   |str b=>obtain⟨t,rfl⟩:=c;obtain⟨t',rfl⟩:=l;exact xU.texts A s a t b t'
   |_=>simp[kz]at m
  |tup q r =>
   cases f with
   |tup h r'=>cases c;cases l;obtain⟨its,rr,Z,_⟩:=I.tuple q;obtain⟨j,Q,N,_⟩:=I.tuple h;refine xU.tuples Z N F ?_;exact G _ _ _ _ _ _ r rr r' Q (by simpa [u7]using S) (by simpa [u7]using T) m
   |_=>simp[kz]at m
  |_=>simp[kz]at m
end
noncomputable def D0:Nat->D->Bool
 |_,.int _=>a9
 |_,.str _=>a9
 |n+1,.tup xs=>xs.all<|D0 n
 |_,_=>bt
noncomputable def GL(f:D->List Int):List D->List Int
 | []=>[0]
 |x::xs=>1::(f x++GL f xs)
noncomputable def E2:Nat->D->List Int
 |_,.int i=>[0,i]
 |_,.str x=>1::(x.cps.toList.map (λ(c:Nat)=>(c:Int)+1)++[0])
 |n+1,.tup xs=>2::GL (E2 n) xs
 |_,_=>[3]
def cC(x y:List Int):Prop:=∀a b,x++a<y++b
theorem cC.cons(i:Int)(h:cC x y):cC (i::x) (i::y):=λa b=>LQ.mpr<|.inr ⟨rfl,h a b⟩
theorem cC.head(x y:List Int)(h:i<j):cC (i::x) (j::y):=λa b=>LQ.mpr<|.inl h
theorem cC.lt(h:cC x y):x<y:=by have:=h [] [];simpa using this
theorem cC.pre(z:List Int)(h:cC x y):cC (z++x) (z++y):=by
 induction z with
 |nil=>exact h
 |cons i z a=>exact a.cons i
theorem cC.more(u v:List Int)(h:cC x y):cC (x++u) (y++v):=λa b=>by rw[G5,G5];exact h _ _
def PJ(x y:D)(n:Nat)(l:Bool)(r:Bool):Prop:=(x=y/\l=bt/\r=bt)\/(x≠y/\l=a9/\r=bt/\cC (E2 n x) (E2 n y))\/(x≠y/\l=bt/\r=a9/\cC (E2 n y) (E2 n x))
theorem tw:∀(x y:List Nat),(x=y)\/(x<y/\¬y<x/\cC (x.map (λ(c:Nat)=>(c:Int)+1)++[0]) (y.map (λ(c:Nat)=>(c:Int)+1)++[0]))\/(¬x<y/\y<x/\cC (y.map (λ(c:Nat)=>(c:Int)+1)++[0]) (x.map (λ(c:Nat)=>(c:Int)+1)++[0]))
 | [],[]=>.inl rfl
 | [],c::y=>.inr<|.inl ⟨List.nil_lt_cons _ _,List.not_lt_nil _,cC.head _ _<|by dsimp only;lia⟩
 |c::x,[]=>.inr<|.inr ⟨List.not_lt_nil _,List.nil_lt_cons _ _,cC.head _ _<|by dsimp only;lia⟩
 |c::x,e::y=>by
  rcases Oj c e with h|h|h;refine .inr<|.inl ⟨LQ.mpr<|.inl h,λz=>?_,cC.head _ _<|by dsimp only;lia⟩;rcases LQ.mp z with z|⟨z,_⟩<;>lia
  subst h;rcases tw x y with q|⟨q1,q2,q3⟩|⟨q1,q2,q3⟩
  exact .inl (by rw[q]);refine .inr<|.inl ⟨LQ.mpr<|.inr ⟨rfl,q1⟩,λz=>?_,q3.cons _⟩;rcases LQ.mp z with z|⟨_,z⟩
  lia;exact q2 z;refine .inr<|.inr ⟨λz=>?_,LQ.mpr<|.inr ⟨rfl,q2⟩,q3.cons _⟩;rcases LQ.mp z with z|⟨_,z⟩
  lia;exact q1 z;refine .inr<|.inr ⟨λz=>?_,LQ.mpr<|.inl h,cC.head _ _<|by dsimp only;lia⟩;rcases LQ.mp z with z|⟨z,_⟩<;>lia
theorem JD(M:t9):∀(n:Nat) (x y:D),D0 n x=a9->D0 n y=a9->(u3 M n x y=a9↔x=y):=by
 have l:∀(n:Nat),(∀(x y:D),D0 n x=a9->D0 n y=a9->(u3 M n x y=a9↔x=y))->∀(xs ys:List D),xs.all (D0 n)=a9->ys.all (D0 n)=a9->(D1 (u3 M n) xs ys=a9↔xs=ys):=by
  intro n i xs;induction xs with
  |nil=>intro ys _ _;cases ys<;>simp[D1]
  |cons x xs hi =>
   intro ys h1 h2;cases ys with
   |nil=>simp[D1]
   |cons y ys=>rw[KT,D6]at h1 h2;rw[D1,D6,i x y h1.1 h2.1,hi ys h1.2 h2.2,OX]
 intro n;induction n with
 |zero=>intro x y h1 h2;cases x<;>simp[D0]at h1<;>cases y<;>simp[D0]at h2<;>simp[u3]
 |succ n i =>
  intro x y h1 h2;cases x with
  |int a=>cases y<;>simp[D0]at h2<;>simp[u3]
  |str a=>cases y<;>simp[D0]at h2<;>simp[u3]
  |tup xs =>
   cases y with
   |tup ys=>simp only[u3,D.tup.injEq];exact l n i xs ys (by simpa [D0]using h1)<|by simpa [D0]using h2
   |int a=>simp[u3]
   |str a=>simp[u3]
   |_=>simp[D0]at h2
  |_=>simp[D0]at h1
theorem Ii(M:t9):∀(n:Nat) (x:D),D0 n x=a9->u7 M n x=a9:=by
 intro n;induction n with
 |zero=>intro x h;cases x<;>simp[D0]at h<;>rfl
 |succ n i =>
  intro x h;cases x with
  |int a=>rfl
  |str a=>rfl
  |tup xs=>simp only[u7];rw[F0];intro y O;exact i y<|F0.mp (show xs.all (D0 n)=a9 from h) y O
  |_=>simp[D0]at h
theorem tri_D(M:t9):∀(n:Nat) (x y:D),D0 n x=a9->D0 n y=a9->kz M n x y=a9->PJ x y n (C1 M n x y) (C1 M n y x):=by
 have base:∀(n:Nat) (a b:Int),PJ (.int a) (.int b) n (decide<|a<b) (decide<|b<a):=λn a b=>by
  have e:∀a,E2 n (.int a)=[0,a]:=λa=>by cases n<;>rfl
  rcases Int.lt_trichotomy a b with h|h|h;exact .inr<|.inl ⟨by simp;lia,dT_ h,dF_ (by lia),by rw[e,e];exact(cC.head [] [] h).cons 0⟩;subst h;exact .inl ⟨rfl,dF_ (by lia),dF_<|by lia⟩;exact .inr<|.inr ⟨by simp;lia,dF_ (by lia),dT_ h,by rw[e,e];exact(cC.head [] [] h).cons 0⟩
 have s:∀(n:Nat) (a b:b9),PJ (.str a) (.str b) n (jD a b) (jD b a):=λn a b=>by
  have e:∀a:b9,E2 n (.str a)=1::(a.cps.toList.map (λ(c:Nat)=>(c:Int)+1)++[0]):=λa=>by cases n<;>rfl
  unfold jD;rcases tw a.cps.toList b.cps.toList with h|⟨h1,h2,d⟩|⟨h1,h2,d⟩
  have:a=b:=Ef h;subst this;exact .inl ⟨rfl,dF_<|Nv _,dF_<|Nv _⟩;exact .inr<|.inl ⟨λz=>by cases z;exact h2 h1,dT_ h1,dF_ h2,by rw[e,e];exact d.cons 1⟩;exact .inr<|.inr ⟨λz=>by cases z;exact h1 h2,dF_ h1,dT_ h2,by rw[e,e];exact d.cons 1⟩
 intro n;induction n with
 |zero=>intro x y h1 h2 d;cases x<;>simp[D0]at h1<;>cases y<;>simp[D0]at h2<;>first|exact base 0 _ _|exact s 0 _ _|simp[kz]at d
 |succ n m =>
  intro x y h1 h2 d;have l:∀(xs ys:List D),xs.all (D0 n)=a9->ys.all (D0 n)=a9->xO (u3 M n) (kz M n) xs ys=a9 -> (xs=ys/\qr (u3 M n) (C1 M n) xs ys=bt/\qr (u3 M n) (C1 M n) ys xs=bt) \/ (xs≠ys/\qr (u3 M n) (C1 M n) xs ys=a9/\qr (u3 M n) (C1 M n) ys xs=bt/\cC (GL (E2 n) xs) (GL (E2 n) ys)) \/ (xs≠ys/\qr (u3 M n) (C1 M n) xs ys=bt/\qr (u3 M n) (C1 M n) ys xs=a9/\cC (GL (E2 n) ys) (GL (E2 n) xs)):=by
   intro xs;induction xs with
   |nil =>
    intro ys _ _ _;cases ys with
    |nil=>exact .inl ⟨rfl,rfl,rfl⟩
    |cons y ys=>exact .inr<|.inl ⟨by simp,rfl,rfl,cC.head _ _<|by decide⟩
   |cons x xs hi =>
    intro ys h1 h2 d;cases ys with
    |nil=>exact .inr<|.inr ⟨by simp,rfl,rfl,cC.head _ _<|by decide⟩
    |cons y ys =>
     rw[KT,D6]at h1 h2;rw[xO]at d;have i:=JD M n x y h1.1 h2.1;have j:=JD M n y x h2.1 h1.1;rw[qr,qr];by_cases q:x=y;subst q;rw[o5<|i.mpr rfl]at d;rw[o5<|i.mpr rfl,o5<|i.mpr rfl];rcases hi ys h1.2 h2.2 d with⟨F,f,g⟩|⟨F,f,g,t⟩|⟨F,f,g,t⟩
     exact .inl ⟨by rw[F],f,g⟩;exact .inr<|.inl ⟨λz=>F (N8 z).2,f,g,(t.pre<|E2 n x).cons 1⟩;exact .inr<|.inr ⟨λz=>F (N8 z).2,f,g,(t.pre<|E2 n x).cons 1⟩;have k:¬u3 M n x y=a9:=λz=>q<|i.mp z;have o:¬u3 M n y x=a9:=λz=>q (j.mp z).symm;rw[o6 k]at d;rw[o6 k,o6 o];rcases m x y h1.1 h2.1 d with⟨F,_⟩|⟨F,f,g,t⟩|⟨F,f,g,t⟩
     exact o7 F q;exact .inr<|.inl ⟨λz=>q (N8 z).1,f,g,(t.more _ _).cons 1⟩;exact .inr<|.inr ⟨λz=>q (N8 z).1,f,g,(t.more _ _).cons 1⟩
  cases x with
  |int a=>cases y<;>simp[D0]at h2<;>first|exact base (n+1) _ _|simp[kz]at d
  |str a=>cases y<;>simp[D0]at h2<;>first|exact s (n+1) _ _|simp[kz]at d
  |tup xs =>
   cases y with
   |tup ys =>
    rcases l xs ys (by simpa [D0]using h1) (by simpa [D0]using h2) d with⟨F,f,g⟩|⟨F,f,g,t⟩|⟨F,f,g,t⟩
    exact .inl ⟨by rw[F],f,g⟩;exact .inr<|.inl ⟨λz=>F<|D.tup.inj z,f,g,t.cons 2⟩;exact .inr<|.inr ⟨λz=>F<|D.tup.inj z,f,g,t.cons 2⟩
   |_=>simp[kz]at d
  |_=>simp[D0]at h1
theorem uw(h1:D0 n x=a9)(h2:D0 n y=a9)(h:kz M n x y=a9):C1 M n x y=decide (E2 n x<E2 n y):=by
 rcases tri_D M n x y h1 h2 h with⟨F,a,b⟩|⟨F,a,b,t⟩|⟨F,a,b,t⟩
 subst F;rw[a,dF_<|Nv _];rw[a,dT_ t.lt];rw[a,dF_<|λz=>Nv _<|List.lt_trans z t.lt]
end L2
namespace L2
open PySem PySem.Spec PyProof.Rows DL PySem.W
section
variable{X:Cx}{pins:List (c6×c7)}{σ:St}{H:Hp}{s:d9}
theorem t4.laidF(I:t4 X pins σ H s)(k:∀b u,b≠X.env.locals->s.heap.get? b=a7 u->h'.get? b=a7 u)(p:s.heap.Ns X.env.locals m)(h:h'.Ns X.env.locals m)(t:s.heap.get? a=a8) (f:H a=a8) (j:cj X.prog X.w (v8 H a o) h' a o):t4 X pins σ (v8 H a o) { s with heap:=h',toks:=t' }:=by
 have i:∀b u,s.heap.get? b=a7 u->b≠a:=λb u e z=>by subst z;rw[t]at e;cases e
 refine I.step (g':=s.gens) (d':=s.drawn) (ch:=[]) (λ_ z=>nomatch z) (λb u L _ _ e _=>k b u L e) (λb u L _ _ e _=>⟨u.slots,k b u L e⟩) (λb u _ e n=>by rw[au<|i b u e];exact n) (λb u _ e=>?_) (λb xs q=>by rw[au<|ak q f];exact q) (λb u xs q=>by rw[au<|ak q f];exact q) (λb ps q=>⟨#[],by rw[au<|ak q f,q];simp⟩) (λy l=>?_) (λb w q=>?_) I.bare;by_cases d:b=X.env.locals;subst d;obtain⟨o',_,_,B,_⟩:=h;exact⟨o',B⟩;exact⟨u,k b u d e⟩;have:m=y:=funext λx=>p.agree l x;subst this;exact h;by_cases d:b=a;subst d;rw[aZ]at q;cases q;exact j;rw[au d]at q;refine(I.hok b w q).stay (λc v g r=>k c v ?_ r) (λc z=>by rw[au<|ak z f];exact z) λc xs z=>by rw[au<|ak z f];exact z
 rcases g with rfl|g;exact ak q I.free;exact ak g I.free
theorem t4.keptF(I:t4 X pins σ H s)(k:∀b u,b≠X.env.locals->s.heap.get? b=a7 u->h'.get? b=a7 u)(i:s.heap.Ns X.env.locals m)(a:h'.Ns X.env.locals m):t4 X pins σ H { s with heap:=h',toks:=t' }:=by refine I.step (g':=s.gens) (d':=s.drawn) (ch:=[]) (λ_ z=>nomatch z) (λb u h _ _ e _=>k b u h e) (λb u h _ _ e _=>⟨u.slots,k b u h e⟩) (λb u _ e n=>n) (λb u _ e=>?_) (λb xs q=>q) (λb u xs q=>q) (λb ps q=>⟨#[],by rw[q];simp⟩) (λj g=>?_) (λb w q=>?_) I.bare;by_cases d:b=X.env.locals;subst d;obtain⟨o',_,_,B,_⟩:=a;exact⟨o',B⟩;exact⟨u,k b u d e⟩;have:m=j:=funext λx=>i.agree g x;subst this;exact a;refine(I.hok b w q).stay (λc v f r=>k c v ?_ r) (λc z=>z) λc xs z=>z;rcases f with rfl|f;exact ak q I.free;exact ak f I.free
end
section
variable{prog:c5}{w:c3}{A:d8}{E:b7->d9->Prop}{s:d9}
theorem rP{l:c6}{vs:List b7}{Q:b7->d9->Prop}(u:s.heap.IsList l vs.toArray)(h2:vs.length<2)(h:∀D h' n,s.heap.objs.size<=D->(∀b o,s.heap.get? b=a7 o->h'.get? b=a7 o)->h'.get? D=a7 { cls:=.type "list",data:=.seq vs.toArray n }->Q (.ref D) { s with heap:=h' }):e8 (f7 prog w) A (call (.builtin "sorted")<|[ABF l]) Q E s:=by
 have f:vs.length<=sizeLine:=by rw[LG];lia
 refine Calls.call_function_entry kind_sorted plain_sorted entry_sorted (args_sorted1<|.ref l) ?_;unfold Builtin.«sorted»;refine r9 (m:=checkCount "sorted" 1 1 _)<|t6<|r9<|collect_list u (r9<|wpAny_newList ?_ f) f;generalize S:((s.heap.push<|m9 "list" #[] 0).update s.heap.objs.size (KM (· ++ vs.toArray)))=g1;have z:g1.objs.size=s.heap.objs.size+1:=by rw[<-S,Heap.size_update,size_push']
 have C:∀b o,s.heap.get? b=a7 o->g1.get? b=a7 o:=λb o q=>by have d:=x3 q;rw[<-S,Oq _ _ _ _<|x9 d,Heap.get?_push_ne _ _ _<|x9 d];exact q
 show e8 _ _ _ _ _ { s with heap:=g1.push (m9 "list" vs.toArray 0) };have L:(g1.push<|m9 "list" vs.toArray 0).get? g1.objs.size=a7 (m9 "list" vs.toArray 0):=A9 _ rfl;refine r9<|E4<|Ks slot_list_sort (⟨_,L,rfl⟩) entry_list_sort ?body<|args_list_sort<|.ref _
 case body =>
  rw[list_sort_plain];refine r9<|listItems_at L rfl ?_;refine r9<|listUpdate_at L rfl ?_ (by rw[A3,LG];lia)<|z5 _;obtain⟨k,e⟩:∃k,((g1.push<|m9 "list" vs.toArray 0).update g1.objs.size<|KM λ_=>(#[]:Array b7)).get? g1.objs.size=a7 (m9 "list" #[] k):=⟨_,OW L λ_=>#[]⟩
  refine r9<|seqEpoch_at e rfl<|r9<|wpAny_newTuple (r9<|wpAny_newList (E4 ?_)<|z5 _) f;dsimp only;have g:vs.toArray.size<2:=by rw[A3];exact h2
  rw[o5 g,o5 g];refine r9<|t6 ?_;rw[StateT.run_pure];refine r9<|t6 ?_;dsimp only;generalize c:(((g1.push<|m9 "list" vs.toArray 0).update g1.objs.size<|KM λ_=>(#[]:Array b7)).push<|m9 "tuple" vs.toArray 0).push (m9 "list" #[] 0)=g3;have a:g3.get? g1.objs.size=a7 (m9 "list" #[] k):=by rw[<-c];exact w6 _<|w6 _ e
  have x:∀b o,b≠g1.objs.size->s.heap.get? b=a7 o->g3.get? b=a7 o:=λb o i q=>by have y:=C b o q;rw[<-c];refine w6 _<|w6 _ ?_;rw[Oq _ _ _ _ i];exact w6 _ y
  refine r9<|seqEpoch_at a rfl ?_;have r:∀us:List b7,us.length<2->(us.toArray.zip us.toArray).map (·.2)=us.toArray:=λus hu=>by
   match us,hu with
   | [],_=>simp
   | [v],_=>simp
   |_::_::_,hu=>simp at hu;lia
  have t:(arrOf<|SortSt.mk' general' (vs.toArray.zip vs.toArray) #[] 7 a8).map (·.2)=vs.toArray:=r vs h2;rw[t];refine r9 (listUpdate_at a rfl ?_ (z5 _)<|by rw[A3,LG];lia);simp only[show failedOf (SortSt.mk' general' (vs.toArray.zip vs.toArray) #[] 7 a8)=a8 from rfl,bne_self_eq_false,A4,p6];refine t6 ⟨_,rfl,t6 ⟨_,rfl,?_⟩⟩;obtain⟨j,p⟩:∃j,(g3.update g1.objs.size<|KM λ_=>vs.toArray).get? g1.objs.size=a7 (m9 "list" vs.toArray j):=⟨_,OW a λ_=>vs.toArray⟩
  refine h g1.objs.size _ j (by lia) (λb o q=>?_) p;have i:b≠g1.objs.size:=x9 (by rw[z];exact Mw<|x3 q);rw[Oq _ _ _ _ i];exact x b o i q
end
structure SrtOk(M:t9)(xs:List D):Prop where
 len:xs.length<64
 ok:∀x∈xs,D0 ve x=a9
 cm:∀x∈xs,∀y∈xs,kz M ve x y=a9
 kd:(∀x∈xs,∃z,x=.str z)\/(∀x∈xs,∃i,x=.int i)\/(∀x∈xs,∃z r,x=.tup (.str z::r))\/(∀x∈xs,∃i r,x=.tup (.int i::r))\/(∀x∈xs,∃z r,x=.tup (.tup z::r))
structure SrtG(M:t9)(xs:List D):Prop where
 len:xs.length<64
 okd:∀x∈xs,u7 M ve x=a9
 cm:∀x∈xs,∀y∈xs,kz M ve x y=a9
 kd:(∀x∈xs,∃z,x=.str z)\/(∀x∈xs,∃i,x=.int i)\/(∀x∈xs,∃z r,x=.tup (.str z::r))\/(∀x∈xs,∃i r,x=.tup (.int i::r))\/(∀x∈xs,∃z r,x=.tup (.tup z::r))
 od:∃en:D->List Int,∀a∈xs,∀b∈xs,C1 M ve a b=decide (en a<en b)
theorem SrtOk.g(o:SrtOk M xs):SrtG M xs:=⟨o.len,λx h=>Ii M _ _<|o.ok x h,o.cm,o.kd,E2 ve,λa f b d=>uw (o.ok a f) (o.ok b d)<|o.cm a f b d⟩
def GN(M:t9)(ys:List D):Prop:=ys.Pairwise λa b=>C1 M ve b a=bt
def jF:B7:=λds M Q=>match ds with
 | [.ref n]=>∃xs,al M n xs/\SrtG M xs/\∀ys,ys.Perm xs->GN M ys->Q (.ref M.length) (M++[.lst ys])
 |_=>False
theorem Reps.perm{K:t8}{ρ:List c6}{H:Hp}{ds:List D}{vs:List V}(r:Reps K ρ H ds vs)(is:List Nat)(hi:∀i∈is,i<ds.length):Reps K ρ H (is.map λi=>ds.getD i .non) (is.map λi=>vs.getD i .non):=by
 induction is with
 |nil=>exact .nil
 |cons i is a=>have h:=hi i C9;obtain⟨v,e,d⟩:=r.get<|v9 h;refine .cons ?_<|a λj L=>hi j<|A8 _ L;show u4 K ρ H (ds.getD i .non) (vs.getD i .non);rw[Kx,Kx,e,v9 h];exact d
theorem ar.perm(r:ar vs us)(is:List Nat)(hi:∀i∈is,i<vs.length):ar (is.map λi=>vs.getD i .non) (is.map λi=>us.getD i .none):=by
 induction is with
 |nil=>exact .nil
 |cons i is a=>have h:=hi i C9;obtain⟨v,e,d⟩:=iX r<|v9 h;refine .cons ?_<|a λj L=>hi j<|A8 _ L;show aH (vs.getD i .non) (us.getD i .none);rw[Kx,Kx,e,v9 h];exact d
instance:Inhabited D:=⟨.non⟩
section
variable{X:Cx}{pins:List (c6×c7)}{σ:St}{H:Hp}{s:d9}{ρ:List c6}{M:t9}
theorem EY(o:HO)(x:cj P w H h a o):∃u,h.get? a=a7 u:=by
 cases o with
 |lst _=>obtain⟨_,_,_,_,e⟩:=x;exact⟨_,e⟩
 |tup _=>obtain⟨_,_,_,o,e,_⟩:=x;exact⟨o,e⟩
 |dK _=>obtain⟨_,_,_,_,_,_,_,e,_⟩:=x;exact⟨_,e⟩
 |dT _=>obtain⟨_,_,_,_,o,_,_,e,_⟩:=x;exact⟨o,e⟩
 |set _ _=>obtain⟨o,_,_,_,e,_⟩:=x;exact⟨_,e⟩
 |ins _ _ _=>obtain⟨_,_,_,e,_⟩:=x;exact⟨_,e⟩
 |own _=>exact x
 |xd _=>obtain⟨_,⟨_,_,_,e,_⟩,_⟩:=x;exact⟨_,e⟩
 |rng _ _=>obtain⟨_,_,_,e⟩:=x;exact⟨_,e⟩
 |frz _ _=>obtain⟨e,_⟩:=x;exact⟨_,e⟩
 |tbl _=>exact⟨_,x⟩
 |met _ _=>exact⟨_,x⟩
 |ext _=>obtain⟨_,e,_⟩:=x;exact e
theorem C7.none(x:C7 P w H h)(e:h.get? a=a8):H a=a8:=by
 cases q:H a with
 |none=>rfl
 |some o=>exfalso;obtain⟨u,g⟩:=EY o<|x a o q;rw[e]at g;cases g
theorem Fc(I:t4 X pins σ H s)(m:u9 X.K ρ M H)(n:Nat)(A:d8)(u:A.units+n<j4):∀(ds es:List D) (vs ws:List V) (its jts:List b7),Reps X.K ρ H ds vs->ar vs its->Reps X.K ρ H es ws->ar ws jts->ds.all (u7 M n)=a9->es.all (u7 M n)=a9 ->xO (u3 M n) (kz M n) ds es=a9->LexAt A s its jts (qr (u3 M n) (C1 M n) ds es):=by
 intro ds;induction ds with
 |nil =>
  intro es vs ws its jts p b j g _ _ _;cases p;cases b;cases j with
  |nil=>cases g;exact .nn
  |cons _ _=>cases g;exact .nc
 |cons d ds hi =>
  intro es vs ws its jts p b j g C B k;cases p with
  |cons F p =>
   cases b with
   |cons c b =>
    cases j with
    |nil=>cases g;exact .cn
    |@cons e _ l _ a j =>
     cases g with
     |cons f g=>rw[KT,D6]at C B;have i:=(kr I m n A d _ _ _ _ _ u F c a f C.1 B.1).1;rw[qr];rw[xO]at k;by_cases q:u3 M n d e=a9;rw[q]at i;rw[o5 q]at k ⊢;exact .eq i<|hi _ _ _ _ _ p b j g C.2 B.2 k;have h:=Ly.mpr q;rw[h]at i;rw[o6 q]at k ⊢;exact .ne i<|Ds I m n A _ _ _ _ _ _ u F c a f C.1 B.1 k
end
section
variable{prog:c5}{w:c3}{A:d8}{s:d9}{b:Bool}{Q:Bool->d9->Prop}
theorem Cl(h:LexAt A s its jts k):∀(i:Nat),(b&&i==0)=bt->(b&&i+1==0)=bt->Q k s->KatLex prog w A b (decide<|its.length<jts.length) Q (its.zip jts) i s:=by
 have n:∀i:Nat,(b&&i+1==0)=bt:=λi=>by cases b<;>simp
 induction h with
 |nn=>intro i _ _ q;exact q
 |nc=>intro i _ _ q;exact(show Q (decide<|0<_+1) s by rw[dT_<|Nat.succ_pos _];exact q)
 |cn=>intro i _ _ q;exact(show Q (decide<|_+1<0) s by rw[dF_<|LN _];exact q)
 |@eq x y xs ys k e t a=>intro i d _ q;refine kat_cons<|e prog w _ _<|kat_yes ?_;have:=a (i+1) (n i) (n<|i+1) q;rw[show decide ((x::xs).length<(y::ys).length)=decide (xs.length<ys.length) by simp];exact this
 |@ne x y xs ys k e t=>intro i d _ q;refine kat_cons<|e prog w _ _<|kat_no ?_;rw[d];exact kat_one _ _<|t prog w _ _ q
theorem zV(i:K5 A s p q e)(g:e=bt->∀Q':Bool->d9->Prop,Q' l s->e8 (f7 prog w) A (oneLt' (b&&0==0) p q) Q' (λ_ _=>False) s)(D:e=a9->LexAt A s its jts k)(h:Q (if e=a9 then k else l) s):KatLex prog w A b (decide<|(p::its).length<(q::jts).length) Q ((p::its).zip<|q::jts) 0 s:=by
 refine kat_cons<|i prog w _ _ ?_;cases e with
 |true=>refine kat_yes ?_;rw[show decide ((p::its).length<(q::jts).length)=decide (its.length<jts.length) by simp];exact Cl (D rfl) 1 (by cases b<;>rfl) (by cases b<;>rfl) h
 |false=>exact kat_no<|g rfl _ h
end
section
variable{X:Cx}{pins:List (c6×c7)}{σ:St}{H:Hp}{s:d9}{ρ:List c6}{M:t9}
theorem sE{M:Model}{h:c8}{x:b9}{t:Tok}:Looks M h (l7<|.str x t) (.type "str"):=Looks.of_pure rfl
theorem sF{M:Model}{h:c8}{x:Int}{t:Tok}:Looks M h (l7<|.int x t) (.type "int"):=Looks.of_pure rfl
theorem Reps.getD'(r:Reps X.K ρ H ds vs)(d:ar vs its)(h:i<ds.length):∃v,u4 X.K ρ H (ds.getD i default) v/\aH v (its.getD i .none)/\ds.getD i default∈ds:=by obtain⟨v,e,b⟩:=r.get<|v9 h;obtain⟨u,a,R⟩:=iX d e;refine⟨v,?_,?_,?_⟩;rw[Kx,v9 h];exact b;rw[Kx,a];exact R;rw[Kx,v9 h];exact Ln h
theorem Reps.mem(r:Reps X.K ρ H ds vs)(b:ar vs its)(h:u∈its):∃d v,d∈ds/\u4 X.K ρ H d v/\aH v u:=by
 induction ds generalizing vs its with
 |nil=>cases r;cases b;cases h
 |cons g ds i =>
  cases r with
  |cons f r =>
   cases b with
   |cons e q=>rcases(A0 (a:=u)).mp h with rfl|h;exact⟨_,_,C9,f,e⟩;obtain⟨d,v,h1,h2,c⟩:=i r q h;exact⟨d,v,A8 _ h1,h2,c⟩
theorem uK(I:t4 X pins σ H s)(r:Reps X.K ρ H xs ws)(b:ar ws its)(a:∀x∈xs,∃f r,x=.tup (f::r)):∃fs,KatTups s.heap its fs/\fs.length=its.length/\∀u∈fs,∃d v,u4 X.K ρ H d v/\aH v u/\∃r,D.tup (d::r)∈xs:=by
 induction xs generalizing ws its with
 |nil=>cases r;cases b;exact⟨[],.nil,rfl,λ_ z=>nomatch z⟩
 |cons d ds w =>
  cases r with
  |cons C r =>
   cases b with
   |cons A q =>
    obtain⟨fs,h1,h2,j⟩:=w r q λx h=>a x<|A8 _ h;obtain⟨f,aF,rfl⟩:=a d C9;cases C with
    |tup p c =>
     cases A;obtain⟨its,e,y,E⟩:=I.tuple p;cases c with
     |cons F c =>
      cases e with
      |cons i e=>obtain⟨o,B,k,n,m⟩:=y;refine⟨_::fs,.cons B k m rfl h1,by simp[h2],λu g=>?_⟩;rcases A0.mp g with rfl|g;exact⟨_,_,F,i,_,C9⟩;obtain⟨d,v,t,l,r',R⟩:=j u g;exact⟨d,v,t,l,r',A8 _ R⟩
noncomputable def ltc(M:t9)(xs:List D)(i j:Nat):Bool:=C1 M ve (xs.getD i default)<|xs.getD j default
theorem rQ(I:t4 X pins σ H s)(sm:u9 X.K ρ M H){xs:List D}{ws:List V}{its:List b7}(so:SrtG M xs)(r:Reps X.K ρ H xs ws)(J:ar ws its)(h2:2<=its.length){A:d8}(P:A.units+ve<j4):e8 (f7 X.prog X.w) A (keyKind' its.toArray) (λκ s'=>s'=s/\∀i j (C:Bool->d9->Prop),i<its.length->j<its.length->C (ltc M xs i j) s->kas_ask X.prog X.w A κ its i j C s) (λ_ _=>False) s:=by
 have lw:=r.length;have li:=J.length;have le:xs.length=its.length:=by lia
 have O:∀(b:Bool),(∀x∈xs,∃f r,x=.tup (f::r))->(∀(f g:D) (vf vg:V) (p q:b7) (r r':List D),D.tup (f::r)∈xs->D.tup (g::r')∈xs->u4 X.K ρ H f vf->aH vf p->u4 X.K ρ H g vg->aH vg q -> (u3 M 29 f g=bt->∀Q':Bool->d9->Prop,Q' (C1 M 29 f g) s->e8 (f7 X.prog X.w) A (oneLt' (b&&0==0) p q) Q' (λ_ _=>False) s)) -> ∀i j (C:Bool->d9->Prop),i<its.length->j<its.length->C (ltc M xs i j) s->kas_ask X.prog X.w A (tuples' b) its i j C s:=by
  intro b F ab i j C hi hj E;unfold kas_ask;obtain⟨v1,c,B,m⟩:=r.getD' J (show i<xs.length by lia);obtain⟨v2,G,L,W⟩:=r.getD' J (show j<xs.length by lia);unfold ltc at E;have k1:=so.okd _ m;have k2:=so.okd _ W;have k3:=so.cm _ m _ W;generalize xs.getD i default=x at *;generalize xs.getD j default=y at *;obtain⟨f,rf,rfl⟩:=F _ m;obtain⟨g,rg,rfl⟩:=F _ W;cases c with
  |tup S rs =>
   cases G with
   |tup bd Z =>
    generalize its.getD i .none=u1 at *;generalize its.getD j .none=u2 at *;cases B;cases L;obtain⟨as,ra,pa,_⟩:=I.tuple S;obtain⟨bs,rb,pb,_⟩:=I.tuple bd;obtain⟨o,ho,_,n,hd⟩:=pa;obtain⟨o',aS,_,n',aD⟩:=pb;refine kat_lt ho hd aS aD ?_;cases rs with
    |cons a1 rs =>
     cases ra with
     |@cons _ p _ la b1 ra =>
      cases Z with
      |cons a2 Z =>
       cases rb with
       |@cons _ q _ lb b2 rb =>
        have ai:A.units+29<j4:=by have:ve=30:=rfl;lia
        have z1:u7 M 29 f=a9/\rf.all (u7 M 29)=a9:=by
         have:(f::rf).all (u7 M 29)=a9:=k1
         rwa [KT,D6]at this
        have z2:u7 M 29 g=a9/\rg.all (u7 M 29)=a9:=by
         have:(g::rg).all (u7 M 29)=a9:=k2
         rwa [KT,D6]at this
        have z3:(if u3 M 29 f g=a9 then xO (u3 M 29) (kz M 29) rf rg else kz M 29 f g)=a9:=k3;have he:=(kr I sm 29 A _ _ _ _ _ _ ai a1 b1 a2 b2 z1.1 z2.1).1;have R:C (if u3 M 29 f g=a9 then qr (u3 M 29) (C1 M 29) rf rg else C1 M 29 f g) s:=E;cases U:u3 M 29 f g with
        |true=>rw[U]at he R z3;have:=zV (prog:=X.prog) (w:=X.w) (b:=b) (Q:=C) (l:=a9) he (λz=>nomatch z) (λ_=>Fc I sm 29 A ai _ _ _ _ _ _ rs ra Z rb z1.2 z2.2 z3) R;simpa using this
        |false=>rw[U]at he R;have:=zV (prog:=X.prog) (w:=X.w) (b:=b) (Q:=C) (l:=C1 M 29 f g) (its:=la) (jts:=lb) (k:=a9) he (λ_=>ab f g _ _ _ _ _ _ m W a1 b1 a2 b2 U) (λz=>nomatch z) R;simpa using this
 have N:∀(κ:SortKind),(∀i j (C:Bool->d9->Prop),i<its.length->j<its.length->C (ltc M xs i j) s->kas_ask X.prog X.w A κ its i j C s)->(s=s/\∀i j (C:Bool->d9->Prop),i<its.length->j<its.length->C (ltc M xs i j) s->kas_ask X.prog X.w A κ its i j C s):=λκ h=>⟨rfl,h⟩
 have an:A.units+29<j4:=by have:ve=30:=rfl;lia
 rcases so.kd with a|a|a|a|a;refine kas_kind (T:=.type "str") h2 (λu P=>?_) (by decide) (by decide)<|N _ λi j C hi hj E=>?_;obtain⟨d,v,m,c,B⟩:=r.mem J P;obtain⟨z,rfl⟩:=a d m;cases c;obtain⟨t,rfl⟩:=B;exact sE;unfold kas_ask;obtain⟨v1,c,B,m⟩:=r.getD' J (show i<xs.length by lia);obtain⟨v2,G,L,W⟩:=r.getD' J (show j<xs.length by lia);unfold ltc at E;obtain⟨z,hz⟩:=a _ m;obtain⟨z',Y⟩:=a _ W;rw[hz]at c E;rw[Y]at G E;cases c;cases G;obtain⟨t,h1⟩:=B;obtain⟨t',h2⟩:=L;rw[h1,h2];exact kas_lt_str E;refine kas_kind (T:=.type "int") h2 (λu P=>?_) (by decide) (by decide)<|N _ λi j C hi hj E=>?_;obtain⟨d,v,m,c,B⟩:=r.mem J P;obtain⟨z,rfl⟩:=a d m;cases c;obtain⟨t,rfl⟩:=B;exact sF;unfold kas_ask;obtain⟨v1,c,B,m⟩:=r.getD' J (show i<xs.length by lia);obtain⟨v2,G,L,W⟩:=r.getD' J (show j<xs.length by lia);unfold ltc at E;obtain⟨z,hz⟩:=a _ m;obtain⟨z',Y⟩:=a _ W;rw[hz]at c E;rw[Y]at G E;cases c;cases G;obtain⟨t,h1⟩:=B;obtain⟨t',h2⟩:=L;rw[h1,h2];exact kat_lt_int E;obtain⟨fs,t1,t2,t3⟩:=uK I r J λx F=>(a x F).elim λz ⟨r,e⟩=>⟨_,_,e⟩
 refine kat_kind (T:=.type "str") t1 (by lia) (λu P=>?_) (by decide)<|N _<|O _ (λx F=>(a x F).elim λz ⟨r,e⟩=>⟨_,_,e⟩) λf g vf vg p q r r' m W c B G L S Q' h=>?_;obtain⟨d,v,c,B,r',m⟩:=t3 u P;obtain⟨z,aj,e⟩:=a _ m;cases e;cases c;obtain⟨t,rfl⟩:=B;exact sE;obtain⟨z,_,e⟩:=a _ m;cases e;obtain⟨z',_,e'⟩:=a _ W;cases e';cases c;cases G;obtain⟨t,rfl⟩:=B;obtain⟨t',rfl⟩:=L;exact oneLt_str h;obtain⟨fs,t1,t2,t3⟩:=uK I r J λx F=>(a x F).elim λz ⟨r,e⟩=>⟨_,_,e⟩
 refine kat_kind (T:=.type "int") t1 (by lia) (λu P=>?_) (by decide)<|N _<|O _ (λx F=>(a x F).elim λz ⟨r,e⟩=>⟨_,_,e⟩) λf g vf vg p q r r' m W c B G L S Q' h=>?_;obtain⟨d,v,c,B,r',m⟩:=t3 u P;obtain⟨z,aj,e⟩:=a _ m;cases e;cases c;obtain⟨t,rfl⟩:=B;exact sF;obtain⟨z,_,e⟩:=a _ m;cases e;obtain⟨z',_,e'⟩:=a _ W;cases e';cases c;cases G;obtain⟨t,rfl⟩:=B;obtain⟨t',rfl⟩:=L;exact oneLt_int h;obtain⟨fs,t1,t2,t3⟩:=uK I r J λx F=>(a x F).elim λz ⟨r,e⟩=>⟨_,_,e⟩
 refine kat_kind (T:=.type "tuple") t1 (by lia) (λu P=>?_) (by decide)<|N _<|O _ (λx F=>(a x F).elim λz ⟨r,e⟩=>⟨_,_,e⟩) λf g vf vg p q r r' m W c B G L S Q' h=>?_;obtain⟨d,v,c,B,r',m⟩:=t3 u P;obtain⟨z,aj,e⟩:=a _ m;cases e;cases c with
 |tup S rs=>cases B;obtain⟨_,_,pl,_⟩:=I.tuple S;obtain⟨o,ho,E,_⟩:=pl;rw[<-E];exact(show Looks _ s.heap (l7<|.ref _) o.cls from(Looks.ld ho).andThen .now)
 have k1:u7 M 29 f=a9:=by have:(f::r).all (u7 M 29)=a9:=so.okd _ m;rw[KT,D6]at this;exact this.1
 have k2:u7 M 29 g=a9:=by have:(g::r').all (u7 M 29)=a9:=so.okd _ W;rw[KT,D6]at this;exact this.1
 have k3:(if u3 M 29 f g=a9 then xO (u3 M 29) (kz M 29) r r' else kz M 29 f g)=a9:=so.cm _ m _ W;rw[S]at k3;exact kat_one _ _<|Ds I sm 29 A _ _ _ _ _ _ an c B G L k1 k2 k3 _ _ _ _ h
end
section
variable{X:Cx}{pins:List (c6×c7)}{σ:St}{H:Hp}{s:d9}{ρ:List c6}{M:t9}
theorem HU(o:SrtG M xs):(∀a∈xs,C1 M ve a a=bt)/\(∀a∈xs,∀b∈xs,∀d∈xs,C1 M ve a b=a9->C1 M ve b d=a9->C1 M ve a d=a9)/\∀a∈xs,∀b∈xs,∀d∈xs,C1 M ve a d=a9->C1 M ve a b=a9\/C1 M ve b d=a9:=by obtain⟨n,e⟩:=o.od;refine⟨λa f=>?_,λa f b c d g h1 h2=>?_,λa f b c d g h=>?_⟩;rw[e a f a f,dF_<|Nv _];rw[e a f b c,o8]at h1;rw[e b c d g,o8]at h2;rw[e a f d g,o8];exact List.lt_trans h1 h2;rw[e a f d g,o8]at h;rw[e a f b c,e b c d g,o8,o8];by_cases z:n a<n b;exact .inl z;have F:n b<=n a:=z;exact .inr<|List.lt_of_le_of_lt F h
theorem Bl{k:Nat}{l:c6}{xs:List D}{F:List V}{its:List b7}{R:VK}(hr:Room k X.A)(I:t4 X pins σ H s)(sm:u9 X.K ρ M H)(so:SrtG M xs)(r:Reps X.K ρ H xs F)(P:ar F its)(Z:s.heap.IsList l its.toArray)(hz:F.length<=sizeLine)(h2:2<=its.length)(G:its.length<64)(E:l≠X.env.locals) (kk:∀v H',((∀Q:DK,(∀ys,ys.Perm xs->GN M ys->Q (.ref M.length) (M++[.lst ys]))->VQ X.K ρ H Q v H'))->R v H'):e8 (f7 X.prog X.w) X.A (call (.builtin "sorted") [.ref l]) (EP X pins σ R) X.xe s:=by
 obtain⟨m,O,hm⟩:=I.loc;have lw:=r.length;have li:=P.length;obtain⟨ol,f,_⟩:=id Z;have g:∀a o,(a,o)∈[]++(l,ol)::Att.ledger s.heap X.env.locals l↔a≠X.env.locals/\s.heap.get? a=a7 o:=λa o=>by rw[Fn,A0,Att.mem_ledger];constructor;rintro(h|⟨h1,_,h3⟩);cases h;exact⟨E,f⟩;exact⟨h1,h3⟩;rintro⟨h1,h2⟩;by_cases z:a=l;subst z;rw[f]at h2;cases h2;exact .inl rfl;exact .inr ⟨h1,z,h2⟩
 refine kat_sorted (Att.fr_all O) (Att.news_ledger E f) Z h2 G λD e1 h' T N lt=>?_;have kp:∀b u,b≠X.env.locals->s.heap.get? b=a7 u->h'.get? b=a7 u:=λb u J e=>(N (b,u)<|A8 _<|(g b u).mpr ⟨J,e⟩).1;have L:D≠X.env.locals:=(N _ C9).2.1;have W:s.heap.get? D=a8:=by
  cases q:s.heap.get? D with
  |none=>rfl
  |some o=>exact o7 (lt (D,o)<|(g D o).mpr ⟨L,q⟩)<|G4 _
 have I':t4 X pins σ H { s with heap:=h' }:=I.keptF (t':=s.toks) kp O T.ns;have hu:X.A.in1.in1.units+ve<j4:=by have:=hr.un;have:ve=30:=rfl;show X.A.units+1+1+ve<j4;lia
 refine E1 (rQ I' sm so r P h2 hu) (λκ s' hk=>?_) λ_ _ x=>x;obtain⟨rfl,B⟩:=hk;refine Srt.wp_run (n:=its.length) (c:=λi j=>if i<xs.length then(if j<xs.length then C1 M ve (xs.getD i default) (xs.getD j default)else a9)else bt) (λi j C hi hj Y=>?_) _ (Srt.sort_bd<|by lia).1 ?_;refine B i j C hi hj ?_;rw[o5 (by lia),o5<|by lia]at Y;exact Y;have t:=Srt.All.run (c:=λi j=>if i<xs.length then(if j<xs.length then C1 M ve (xs.getD i default) (xs.getD j default)else a9)else bt) _ (Srt.sort_bd (n:=its.length)<|by lia).2;obtain⟨o1,o2,o3⟩:=HU so;have d:=Srt.sort_list xs (by lia) o1 o2 o3
 try dsimp only at d
 rw[show xs.length=its.length by lia]at d t ⊢;generalize Srt.run _ (LV its.length)=p at t d ⊢;have hi:∀i∈p.toList,i<xs.length:=λi h=>by have:=t.mem_iff.mp h;rw[J0]at this;lia
 refine KasFin.intro T N (UpdF.head λq hq=>x9<|lt q hq) λh2 c F2 U=>?_;have r':=r.perm p.toList hi;have S:=P.perm p.toList (λi h=>by have:=hi i h;lia);have y:H D=a8:=C7.none I.hok W;refine⟨.ref D,_,I.laidF (t':=s.toks) (o:=.lst<|p.toList.map λi=>F.getD i .non) (λb u J e=>(U (b,u)<|A8 _<|(g b u).mpr ⟨J,e⟩).1) O F2.ns W y ⟨?_,_,c,S,(U _ C9).1⟩,rfl,kk _ _ λQ hQ=>VQ.laidL sm .refl r' y<|hQ _ d.1 d.2⟩;rw[u8];have:=d.1.length_eq;rw[u8]at this;lia
end
theorem t4.sqL_ne(I:t4 X pins σ H s)(h:G7 X.K H a xs):a≠X.env.locals:=by
 rcases h with h|⟨o,its,n,k,_⟩
 rcases h with h|⟨_,h⟩
 exact ak h I.free;exact ak h I.free;have:=x3<|I.mod.kin a o k;exact x9<|G8 this<|J4 I.ok.bsz I.ok.above
section
variable{X:Cx}
theorem Az(i:Room k X.A):nD X (.builtin "sorted") jF:=by
 rintro p s σ H vs us R I g ⟨ds,M,ρ,Q,m,rs,q,C⟩;unfold jF at q;split at q;obtain⟨xs,L,c,q⟩:=q;cases rs with
 |cons r1 rs =>
  cases rs;obtain⟨u,rfl,t⟩:=ar.one g;cases r1 with
  |ref e =>
   cases t;obtain⟨w,b,r⟩:=al.seq m L e;obtain⟨its,d,l,z⟩:=I.list b;have y:=r.length;have j:=d.length;by_cases h2:its.length<2;refine rP l.isList h2 λD h' n a f B=>?_;refine⟨.ref D,_,I.laid (t':=s.toks) (o:=.lst w) f a ⟨z,its,n,d,B⟩,rfl,C _ _<|VQ.laidL m .refl r (I.hok.fresh a)<|q xs (Nu _) ?_⟩;unfold GN
   match xs,(show xs.length<2 by lia) with
   | [],_=>exact Pb
   | [x],_=>exact Qc _ _
   |_::_::_,hx=>simp at hx;lia
   have h:2<=its.length:=by lia
   have G:its.length<64:=by have:=c.len;lia
   exact Bl i I m c r d l.isList z h G (I.sqL_ne b) λv H' x=>C v H'<|x Q q
 exact q.elim
end
structure ZA(z TI TO i1 i2:c6)(f1 f2:List c6):Prop where
 nd:[z,TI,TO,i1,i2].Nodup
 z1:z∉f1
 o1:TO∉f1
 y1:i2∉f1
 z2:z∉f2
 o2:TO∉f2
 x2:i1∉f2
section
variable{X:Cx}{pins:List (c6×c7)}{σ:St}{H:Hp}{s:d9}{h':c8}
theorem t4.turnedL{t':Nat}{fp:List c6}(I:t4 X pins σ H s)(h:∀b∈fp,xZ X pins H b)(k:∀b o,b∉fp->s.heap.get? b=a7 o->h'.get? b=a7 o):t4 X pins σ H { s with heap:=h',toks:=t' }:=by
 have p:∀b u,H b=a7 u->b∉fp:=λb u e z=>by rw[(h b z).1]at e;cases e
 refine I.step (g':=s.gens) (d':=s.drawn) (ch:=fp) (λb d=>⟨(h b d).2.2.2.1,(h b d).2.1,(h b d).2.2.2.2.1,(h b d).2.2.2.2.2⟩) (λb o _ _ f e _=>k b o f e) (λb o _ _ f e _=>⟨o.slots,k b o f e⟩) (λ_ _ _ _ n=>n) (λb o f e=>⟨o,k b o f e⟩) (λ_ _ e=>e) (λ_ _ _ e=>e) (λb ps e=>⟨#[],by rw[e];simp⟩) (λm a=>?_) (λb u e=>?_) I.bare;obtain⟨o,es,i,B,r⟩:=a;exact⟨o,es,i,k _ o (λz=>(h _ z).2.1 rfl) B,r⟩;refine(I.hok b u e).stay (λc v f q=>k c v ?_ q) (λ_ q=>q) λ_ _ q=>q;rcases f with rfl|z;exact p _ u e;exact p _ _ z
end
section
variable{X:Cx}
def md(z:b9):B7:=λds M Q=>match ds with
 | [.str y]=>Q (.bl<|OS z y) M
 |_=>False
theorem zt:H9 X "str.startswith" (zx X.K md):=by
 rintro p s σ H x xs v us R I g a ⟨z,ds,M,ρ,Q,c,m,d,q,k⟩;subst c;obtain⟨t,rfl⟩:=g;unfold md at q;split at q
 first|have h:=Reps.inv_cons d|have h:=ar.inv_cons d
 clear d;obtain⟨_,_,rfl,r,d⟩:=h;cases d;cases r;obtain⟨u,rfl,t',rfl⟩:=ar.one a;exact PySem.SC.startswith ⟨.bl _,H,I,rfl,k _ H<|VQ.now m (.bl _) q⟩
 exact q.elim
def rZ(z:b9):B7:=λds M Q=>match ds with
 | [.str y]=>(y.length≠0/\z.length<=sizeLine/\(Kq z y).length<=sizeLine)/\Q (.ref M.length) (M++[.lst<|(Kq z y).map .str])
 |_=>False
theorem qF:∀(tk:Nat) (xs:List b9),ar (xs.map V.str) (strsFrom tk xs)
 |_,[]=>.nil
 |tk,x::xs=>.cons ⟨_,rfl⟩<|qF (tk+1) xs
theorem rW{K:t8}{ρ:List c6}{H:Hp}:∀xs:List b9,Reps K ρ H (xs.map D.str) (xs.map V.str)
 | []=>.nil
 |x::xs=>.cons (.str x)<|rW xs
theorem BN:H9 X "str.split" (zx X.K rZ):=by
 rintro c s σ H x xs v us R I A w ⟨z,ds,M,ρ,Q,j,B,d,q,k⟩;subst j;obtain⟨t,rfl⟩:=A;unfold rZ at q;split at q;rename_i y;obtain⟨⟨O,l,i⟩,q⟩:=q
 first|have a:=Reps.inv_cons d|have a:=ar.inv_cons d
 clear d;obtain⟨_,_,rfl,m,d⟩:=a;cases d;cases m;obtain⟨u,rfl,t',rfl⟩:=ar.one w;have n:∀(p:List b9) (us:List b7) (g:Nat),Kq z y=p->ar (p.map V.str) us->EP X c σ R (.ref s.heap.objs.size) { s with toks:=g,heap:=s.heap.push { cls:=.type "list",data:=.seq us.toArray } }:=λp us g e r=>by subst e;exact⟨.ref _,_,I.laid (t':=g) (o:=.lst<|(Kq z y).map V.str) (λb C q=>w6 _ q) (u6 _) ⟨by rw[u8];exact i,us,0,r,A9 _ rfl⟩,rfl,k _ _<|VQ.laidL B .refl (rW _) (I.hok.fresh<|u6 _) q⟩
 have h:(y.length==0)=bt:=by simpa using O
 cases h1:(decide (z.length<y.length)||decide (My z<My y));cases f:(NG z y 0 z.length<|z.length+1).isEmpty;have e:Kq z y=Builtin.Str.partsBetween z (NG z y 0 z.length<|z.length+1) y.length:=by unfold Kq;rw[h1,f];rfl
 exact m6 F.slot_str_split (ML _ _ _) F.entry_str_split (F.args_str_split_2 _ _) (meets_str_split_sep z y t t' h1 h f l<|by rw[<-e];exact i)<|n _ _ _ e<|qF _ _;have e:Kq z y=[z]:=by unfold Kq;rw[h1,f];rfl
 exact m6 F.slot_str_split (ML _ _ _) F.entry_str_split (F.args_str_split_2 _ _) (meets_str_split_not_found z y t t' h1 h f)<|n _ [.str z t] s.toks e<|.cons ⟨_,rfl⟩ .nil;have e:Kq z y=[z]:=by unfold Kq;rw[h1];rfl
 exact m6 F.slot_str_split (ML _ _ _) F.entry_str_split (F.args_str_split_2 _ _) (meets_str_split_cannot_occur z y t t' h1)<|n _ [.str z t] s.toks e<|.cons ⟨_,rfl⟩ .nil;exact q.elim
end
section
variable{prog:c5}{w:c3}{A:d8}{E:b7->d9->Prop}{s:d9}
theorem ux{D:c6}{vs:List b7}{n:Nat}{Q:b7->d9->Prop}(B:s.heap.get? D=a7 (m9 "list" vs.toArray n))(h2:vs.length<2)(h:∀h' c,(∀b o,b≠D->s.heap.get? b=a7 o->h'.get? b=a7 o)->h'.get? D=a7 (m9 "list" vs.toArray c)->Q .none { s with heap:=h' }):e8 (f7 prog w) A (call (.builtin "list.sort") [.ref D]) Q E s:=by
 have f:vs.length<=sizeLine:=by rw[LG];lia
 refine Ks slot_list_sort (⟨_,B,rfl⟩) entry_list_sort ?_<|args_list_sort<|.ref D;rw[list_sort_plain];refine r9<|listItems_at B rfl<|r9<|listUpdate_at B rfl ?_ (by rw[A3];exact f)<|z5 _;obtain⟨k,e⟩:∃k,(s.heap.update D<|KM λ_=>(#[]:Array b7)).get? D=a7 (m9 "list" #[] k):=⟨_,OW B λ_=>#[]⟩
 refine r9<|seqEpoch_at e rfl<|r9<|wpAny_newTuple (r9<|wpAny_newList (E4 ?_)<|z5 _) f;dsimp only;have g:vs.toArray.size<2:=by rw[A3];exact h2
 rw[o5 g,o5 g];refine r9<|t6 ?_;rw[StateT.run_pure];refine r9<|t6 ?_;dsimp only;generalize d:((s.heap.update D<|KM λ_=>(#[]:Array b7)).push<|m9 "tuple" vs.toArray 0).push (m9 "list" #[] 0)=g3;have a:g3.get? D=a7 (m9 "list" #[] k):=by rw[<-d];exact w6 _<|w6 _ e
 have m:∀b o,b≠D->s.heap.get? b=a7 o->g3.get? b=a7 o:=λb o i q=>by rw[<-d];refine w6 _<|w6 _ ?_;rw[Oq _ _ _ _ i];exact q
 refine r9<|seqEpoch_at a rfl ?_;have r:∀us:List b7,us.length<2->(us.toArray.zip us.toArray).map (·.2)=us.toArray:=λus hu=>by
  match us,hu with
  | [],_=>simp
  | [v],_=>simp
  |_::_::_,hu=>simp at hu;lia
 have t:(arrOf<|SortSt.mk' general' (vs.toArray.zip vs.toArray) #[] 7 a8).map (·.2)=vs.toArray:=r vs h2;rw[t];refine r9 (listUpdate_at a rfl ?_ (z5 _)<|by rw[A3];exact Nat.le_succ_of_le f);simp only[show failedOf (SortSt.mk' general' (vs.toArray.zip vs.toArray) #[] 7 a8)=a8 from rfl,bne_self_eq_false,A4,p6];obtain⟨j,l⟩:∃j,(g3.update D<|KM λ_=>vs.toArray).get? D=a7 (m9 "list" vs.toArray j):=⟨_,OW a λ_=>vs.toArray⟩
 refine t6 ⟨_,rfl,h _ j (λb o i q=>?_) l⟩;rw[Oq _ _ _ _ i];exact m b o i q
end
section
variable{X:Cx}{pins:List (c6×c7)}{σ:St}{H:Hp}{s:d9}{ρ:List c6}{M:t9}
theorem Eh{k:Nat}{D:c6}{xs:List L2.D}{P:List V}{its:List b7}{R:VK}{h1:c8}{tk n:Nat}{m:b9->Option b7}{A:d8}{E:b7->d9->Prop}(hr:Room k X.A)(hA:A.units<=X.A.units+4)(I:t4 X pins σ H s)(sm:u9 X.K ρ M H)(so:SrtG M xs)(r:Reps X.K ρ H xs P)(O:ar P its)(T:s.heap.Ns X.env.locals m) (N:h1.Ns X.env.locals m) (l:∀b u,b≠X.env.locals->s.heap.get? b=a7 u->h1.get? b=a7 u) (J:s.heap.get? D=a8) (F:D≠X.env.locals) (ho:h1.get? D=a7 (m9 "list" its.toArray n))(kk:∀v H',((∀Q:DK,(∀ys,ys.Perm xs->GN M ys->Q (.ref M.length) (M++[.lst ys]))->VQ X.K ρ H Q v H'))->R v H'):e8 (f7 X.prog X.w) A (call (.builtin "list.sort") [.ref D]) (λ_ s'=>EP X pins σ R (.ref D) s') E { s with heap:=h1,toks:=tk }:=by
 have lw:=r.length;have li:=O.length;have ab:=so.len;have L:H D=a8:=C7.none I.hok J;have y:∀b u,s.heap.get? b=a7 u->b≠D:=λb u e q=>by subst q;rw[J]at e;cases e
 by_cases h2:its.length<2;refine ux ho h2 λh' c G Y=>?_;have W:h'.Ns X.env.locals m:=by obtain⟨o,es,ep,e,aF⟩:=N;exact⟨o,es,ep,G _ _ (D2 F) e,aF⟩
 refine⟨.ref D,_,I.laidF (t':=tk) (o:=.lst P) (λb u g e=>G b u (y b u e)<|l b u g e) T W J L ⟨by rw[LG];lia,its,c,O,Y⟩,rfl,kk _ _ λQ S=>VQ.laidL sm .refl r L<|S xs (Nu _) ?_⟩;unfold GN
 match xs,(show xs.length<2 by lia) with
 | [],_=>exact Pb
 | [x],_=>exact Qc _ _
 |_::_::_,hx=>simp at hx;lia
 have z:2<=its.length:=by lia
 have f:∀a o,(a,o)∈Att.ledger h1 X.env.locals D↔a≠X.env.locals/\a≠D/\h1.get? a=a7 o:=λa o=>Att.mem_ledger;have U:UpdF D (m9 "list" its.toArray n) ([]++(D,m9 "list" its.toArray n)::Att.ledger h1 X.env.locals D) λo'=>(D,o')::Att.ledger h1 X.env.locals D:=UpdF.head λp hp=>((f p.1 p.2).mp hp).2.1;refine kat_lsort (s:={ s with heap:=h1,toks:=tk }) (vs:=its) (Att.fr_all N) (Att.news_ledger F ho) U rfl z (by lia) λe1 h' F' N'=>?_;have kp:∀b u,b≠X.env.locals->s.heap.get? b=a7 u->h'.get? b=a7 u:=λb u g e=>(N' (b,u)<|A8 _<|(f b u).mpr ⟨g,y b u e,l b u g e⟩).1;have I':t4 X pins σ H { s with heap:=h',toks:=tk }:=I.keptF (t':=tk) kp T F'.ns;have hu:A.in1.units+ve<j4:=by have:=hr.un;have:ve=30:=rfl;show A.units+1+ve<j4;lia
 refine E1 (rQ I' sm so r O z hu) (λκ s' hk=>?_) λ_ _ x=>x;obtain⟨rfl,B⟩:=hk;refine Srt.wp_run (n:=its.length) (c:=λi j=>if i<xs.length then(if j<xs.length then C1 M ve (xs.getD i default) (xs.getD j default)else a9)else bt) (λi j C hi hj hc=>?_) _ (Srt.sort_bd<|by lia).1 ?_;refine B i j C hi hj ?_;rw[o5 (by lia),o5<|by lia]at hc;exact hc;have t:=Srt.All.run (c:=λi j=>if i<xs.length then(if j<xs.length then C1 M ve (xs.getD i default) (xs.getD j default)else a9)else bt) _ (Srt.sort_bd (n:=its.length)<|by lia).2;obtain⟨o1,o2,o3⟩:=HU so;have d:=Srt.sort_list xs (by lia) o1 o2 o3
 try dsimp only at d
 rw[show xs.length=its.length by lia]at d t ⊢;generalize Srt.run _ (LV its.length)=p at t d ⊢;have hi:∀i∈p.toList,i<xs.length:=λi h=>by have:=t.mem_iff.mp h;rw[J0]at this;lia
 refine KasFin.intro F' N' (UpdF.head λq hq=>((f q.1 q.2).mp hq).2.1) λh2 c F2 N2=>?_;have r':=r.perm p.toList hi;have Z:=O.perm p.toList (λi h=>by have:=hi i h;lia);refine⟨.ref D,_,I.laidF (t':=tk) (o:=.lst<|p.toList.map λi=>P.getD i .non) (λb u g e=>(N2 (b,u)<|A8 _<|(f b u).mpr ⟨g,y b u e,l b u g e⟩).1) T F2.ns J L ⟨?_,_,c,Z,(N2 _ C9).1⟩,rfl,kk _ _ λQ S=>VQ.laidL sm .refl r' L<|S _ d.1 d.2⟩;rw[u8];have:=d.1.length_eq;rw[u8]at this;rw[LG];lia
end
section
variable{K:t8}{ρ:List c6}{H:Hp}{M:t9}
theorem u9.laidM(S:u9 K ρ M H)(c:H p=a8)(ok:xX K (ρ++[p]) (v8 H p o) p mo):u9 K (ρ++[p]) (M++[mo]) (v8 H p o):=by
 have g:Grow K ρ H (ρ++[p]) (v8 H p o):=Grow.laidR c;have d:∀(n:Nat),ρ[n]?=a7 p->KP M[n]?:=λn e=>by rcases S.tracked e with⟨o,q⟩|q;rw[c]at q;cases q;exact q
 refine⟨λn m a h t l=>?_,by rw[A1,A1,S.len];rfl,λn a i t l=>?_⟩;rcases aN t with f|⟨f,g1⟩
 rcases aN l with b|⟨b,j⟩
 exact(S.nd n m a h f b).elim (λz=>.inl z.more) λz=>.inr z.more;subst j;exact .inl (d n f).more;rcases aN l with b|⟨b,j⟩
 subst g1;exact .inr (d m b).more;exact o7 (f.trans b.symm) h;rcases aN t with f|⟨f,g1⟩
 have k:n<M.length:=by rw[<-S.len];exact(z6.mp f).1
 rw[Ko k]at l;exact(S.obj n a i f l).grow g<|S.keeps c f l;subst g1 f;rw[S.len,K0<|u6 _,LX]at l;simp at l;subst l;exact ok
theorem A6.writtenD(b:H p=a7 (.dK kv))(h:A6 K H a xs):A6 K (v8 H p o) a xs:=by
 rcases h with h|h;rcases h with h|⟨c,h⟩
 exact .inl (.inl<|by rw[au<|xo h b<|by intro z;cases z];exact h);exact .inl<|.inr ⟨c,by rw[au<|xo h b<|by intro z;cases z];exact h⟩;exact .inr h
theorem u9.writeD(S:u9 K ρ M H)(t:ρ[n]?=a7 a)(u:M[n]?=a7 (.dct kvs))(s:H a=a7 (.dK kv))(r:Reps K ρ H (kvs'.map (·.2)) vs'):u9 K ρ (M.set n<|.dct kvs') (v8 H a (.dK (kM (kvs'.map (·.1)) vs')))/\Grow K ρ H ρ (v8 H a (.dK (kM (kvs'.map (·.1)) vs'))):=by
 have g:Grow K ρ H ρ (v8 H a (.dK (kM (kvs'.map (·.1)) vs'))):=⟨L7,λ_ _ h=>A6.writtenD s h⟩
 have k:∀m,m≠n->(M.set n<|.dct kvs')[m]?=M[m]?:=λm e=>KY<|D2 e;have c:¬KP M[n]?:=λ⟨_,z⟩=>by rw[u]at z;cases z
 refine⟨⟨λm l b i d f=>?_,by rw[Mu];exact S.len,λm b o d f=>?_⟩,g⟩;have q:=S.nd m l b i d f;by_cases h1:m=n;subst h1;rw[k l<|D2 i];exact .inr<|q.resolve_left c;rw[k m h1];by_cases h2:l=n;subst h2;exact .inl<|q.resolve_right c;rw[k l h2];exact q;by_cases e:m=n;subst e;have j:b=a:=B5<|d.symm.trans t;subst j;rw[Lp<|by rw[<-S.len];exact(z6.mp t).1]at f;cases f;exact⟨vs',aZ,r.grow g⟩;rw[k m e]at f;by_cases j:b=a;subst j;have p:=(S.nd m n b e d t).resolve_right c;rw[f]at p;exact(S.obj m b o d f).grow g<|.inr p;exact(S.obj m b o d f).grow g<|.inl<|au j
noncomputable def gU(kvs:List (b9×D))(k:b9):Option D:=(kvs.find? λp=>decide<|p.1=k).map (·.2)
noncomputable def qq(kvs:List (b9×D))(k:b9)(d:D):List (b9×D):=if (kvs.any λp=>decide<|p.1=k)=a9 then kvs.map (λp=>if p.1=k then(p.1,d)else p)else kvs++[(k,d)]
theorem FL(a b:b9):decide ((ABe a:G0)=ABe b)=decide (a=b):=DH a b
theorem kI:∀{kvs:List (b9×D)}{vs:List V},Reps K ρ H (kvs.map (·.2)) vs->gU kvs k=a7 d->∃v,yd (kM (kvs.map (·.1)) vs) (ABe k)=a7 v/\u4 K ρ H d v
 | [],_,_,e=>by simp[gU]at e
 |(k',d')::kvs,_,.cons h t,e=>by
  by_cases q:k'=k;subst q;have:d'=d:=by simpa [gU]using e
  subst this;exact⟨_,by simp[kM,yd],h⟩;have e':gU kvs k=a7 d:=by simpa [gU,K7,q]using e
  obtain⟨v,h1,h2⟩:=kI t e';refine⟨v,?_,h2⟩;have:¬(ABe k':G0)=ABe k:=λz=>q<|Sum.inr.inj z;simpa [kM,yd,K7,this]using h1
theorem wC:∀{kvs:List (b9×D)}{vs:List V},Reps K ρ H (kvs.map (·.2)) vs->((kM (kvs.map (·.1)) vs).any λkv=>decide<|kv.1=ABe k)=kvs.any λp=>decide (p.1=k)
 | [],_,_=>rfl
 |(k',d')::kvs,_,.cons h t=>by
  have ih:=wC (k:=k) t;show (decide ((ABe k':G0)=ABe k)||(kM (kvs.map (·.1)) _).any _)=(decide (k'=k)||kvs.any _)
  rw[ih,FL]
theorem vZ(hd:u4 K ρ H d v):∀{kvs:List (b9×D)}{vs:List V},Reps K ρ H (kvs.map (·.2)) vs->∃vs',(kM (kvs.map (·.1)) vs).map (λkv=>if kv.1=ABe k then(kv.1,v)else kv)=kM ((kvs.map λp=>if p.1=k then(p.1,d)else p).map (·.1)) vs'/\Reps K ρ H ((kvs.map λp=>if p.1=k then(p.1,d)else p).map (·.2)) vs'
 | [],_,.nil=>⟨[],rfl,.nil⟩
 |(k',d')::kvs,_,.cons (v:=v') h t=>by obtain⟨vs',e,r⟩:=vZ (k:=k) hd t;by_cases q:k'=k;subst q;refine⟨v::vs',?_,?_⟩;simp only[B8,p7,kM,MZ]at e ⊢;rw[e];simp only[B8,p7];exact .cons hd r;have q':¬(ABe k':G0)=ABe k:=λz=>q<|Sum.inr.inj z;refine⟨v'::vs',?_,?_⟩;simp only[B8,o6 q,o6 q',kM,MZ]at e ⊢;rw[e];simp only[B8,o6 q];exact .cons h r
theorem rR:∀{kvs:List (b9×D)}{vs:List V},Reps K ρ H (kvs.map (·.2)) vs->kM (kvs.map (·.1)) vs++[(ABe k,v)]=kM (kvs.map (·.1)++[k]) (vs++[v])
 | [],_,.nil=>rfl
 |(k',d')::kvs,_,.cons h t=>by have:=rR (k:=k) (v:=v) t;simp only[B8,kM,MZ,Od]at this ⊢;rw[this]
theorem Es(h:u4 K ρ H d v)(r:Reps K ρ H (kvs.map (·.2)) vs):∃vs',putK (kM (kvs.map (·.1)) vs) (ABe k) v=kM ((qq kvs k d).map (·.1)) vs'/\Reps K ρ H ((qq kvs k d).map (·.2)) vs':=by unfold putK qq;rw[wC r];by_cases q:(kvs.any λp=>decide<|p.1=k)=a9;rw[o5 q,o5 q];exact vZ h r;rw[o6 q,o6 q];refine⟨vs++[v],?_,?_⟩;rw[rR r,Kr];rfl;rw[Kr];exact r.append<|.cons h .nil
end
section
variable{X:Cx}{o i value:f6}{td ty tv:v5}{pos pos':f8}
def CY:v5:=λ_ M Q=>Q (.ref M.length)<|M++[.dct []]
theorem JZ:DE X (.Dict [] [] pos) CY:=by refine PE.imp BA ?_;rintro σ H R ⟨S,M,ρ,Q,s,b,q,k⟩;refine λp h=>?_;have j:Q (.ref M.length) (M++[.dct []]):=q;exact k _ _ ⟨.ref M.length,M++[.dct []],ρ++[p],s.laidM (mo:=.dct []) h ⟨[],aZ,.nil⟩,Grow.laidR h,.ref s.last,j⟩
end
structure OL(X:Cx)(es:List f6)(t:DR):Prop where
 ok:N3 X es t
section
variable{X:Cx}{e a b c o i tg:f6}{es aF:List f6}{te ta tb tc to ti:v5}{t:D4}{pos p p2 pos':f8}{x:b9}{k:Nat}{g:G1}{u:DR}{name:b9}{apos cpos:f8}
theorem Fy:OL X [] nh:=⟨Gj⟩
theorem Ci(h1:HG X e g)(h2:OL X es u)(hs:(i5 (e::es) X.env).map (·.2)=i3 e X.env::(i5 es X.env).map (·.2):=by kernel_rfl):OL X (e::es) (bV g u):=⟨CQ h1.ok h2.ok hs⟩
theorem IK(h:OL X es u)(f:X.calm=a9:=by kernel_rfl)(a:(i5 es X.env).length=n:=by kernel_rfl)(c:(i5 es X.env).findIdx? (·.1)=a8:=by kernel_rfl):HG X (.Tuple es j pos) (ng n u):=⟨JS h.ok f a c⟩
theorem IL(B:HE X o to)(hi:HE X i ti)(f:∀v,i3 (.Subscript o i pos) X.env v=(do
   let ov <-g8 [v] (eval o X.env)
   let iv <-g8 [v,ov] (eval i X.env)
   standAt pos
   g8 [v,ov,iv] (setItem ov iv v)
   release [v,ov,iv] []):=by intro _;kernel_rfl):HG X (.Subscript o i pos) (CS to ti):=⟨JT B.ok hi.ok f⟩
theorem DF(i:HE X e te)(S:HG X tg g)(hs:swapsWithSole [tg] e pos.line X.env=pure bt:=by kernel_rfl)(w:swappedStores [tg] e X.env=pure a8:=by kernel_rfl)(h1:(i5 [tg] X.env).map (·.2)=[i3 tg X.env]:=by kernel_rfl):HS X (.Assign [tg] e pos) (dAsg te g):=⟨JO i.ok S.ok hs w h1⟩
theorem FQ:F6 X (j1 .Add) aA:=⟨EX⟩
theorem FU:HC X (.type "list") xc:=⟨Gv⟩
theorem Cz:HC X (.type "tuple") ii:=⟨Db⟩
theorem Aa:OK X "startswith" md:=⟨_,PySem.F.slot_str_startswith,PySem.F.type_str_startswith,zt⟩
theorem Ct:OK X "split" rZ:=⟨_,PySem.F.slot_str_split,PySem.F.type_str_split,BN⟩
theorem Ab:N0 X "extend" mh:=⟨_,PySem.F.slot_list_extend,PySem.F.type_list_extend,xq⟩
def dMl0(r:Nat->B7)(d:v5):v5:=λS M Q=>d S M λx a=>match x with
 |.ref n=>(∃xs,al a n xs)/\r n [] a Q
 |_=>False
theorem k_ml0(m:N0 X name r)(B:HE X o to)(e:l8 o name X.env (eval o X.env)=eval o X.env:=by kernel_rfl)(h:(apos.endLine==cpos.line)=a9:=by kernel_rfl):HE X (.Call (.Attribute o name apos) [] [] cpos) (dMl0 r to):=by
 obtain⟨id,h1,h2,j⟩:=m.ok;refine⟨PE.imp (HP PySem.F.plainAttrs_list h1 h2 j B.ok e h) ?_⟩;rintro σ H R ⟨S,M,ρ,Q,s,t,q,k⟩;refine⟨S,M,ρ,_,s,t,q,?_⟩;rintro v H1 ⟨d,c,f,i,g1,p,b⟩;cases p with
 |@ref n a g =>
  obtain⟨⟨xs,L⟩,b⟩:=(show (∃xs,al c n xs)/\r n [] c _ from b)
  obtain⟨vs,l,_⟩:=al.seq i L g;exact⟨.inl ⟨rfl,vs,l⟩,n,a,[],c,f,Q,rfl,g,i,.nil,b,λv H' w=>k v H'<|VQ.trans g1 w⟩
 |_=>exact b.elim
theorem Jb:HE X (.Dict [] [] pos) CY:=⟨JZ⟩
end
section
variable{X:Cx}
def GZ(t:Nat)(s:List Nat)(wi:TI)(g:TG)(tt:TT)(te:TE)(N:TG):TS:=λD σ H=>OC t s wi g tt te σ H λv H1=>N v σ H1 D.nx
theorem Bv(B:BlkSc X N' nt js scope)(hc:X.calm=a9)(hi:PI X tg iter wi)(hg:∀cl s0 H0 ex,PG (z9 X N' scope cl s0 H0 ex) tg g) (ht:∀cl s0 H0 ex,Lr (z9 X N' scope cl s0 H0 ex) ifs tt) (he:∀cl s0 H0 ex,PE (z9 X N' scope cl s0 H0 ex) elt te) (hn:PG X (.Name x pos') gN)(hs:∀x,j0 iter X.env x=pure x) (an:g9 (.ListComp elt [⟨tg,iter,ifs,0⟩] scope pos) (a7<|.Name x pos') pos2.line X.env=pure a9):PS X (.Assign [.Name x pos'] (.ListComp elt [⟨tg,iter,ifs,0⟩] scope pos) pos2) (GZ nt js wi g tt te gN):=by
 intro a s σ H Dn I h;rw[exec_Assign_Name_used _ _ _ _ an];refine r9<|wpAny_standAt ?_;obtain⟨cl,V,i,E⟩:=gj (scope:=scope) (env:=X.env) λp j hf=>I.ok.has p.1<|B.free p j hf;refine r9<|show e8 (f7 X.prog X.w) X.A (comprehension (.ListComp elt [⟨tg,iter,ifs,0⟩] scope pos) scope X.env _ (newList []) bt (eval iter X.env) (a7<|i3 (.Name x pos') X.env) >>= λ_=>pure ()) _ _ _ from r9 ?_;refine Qf (use:=a7<|i3 (.Name x pos') X.env) (Q:=λ_ u=>e8 (f7 X.prog X.w) X.A (pure ()) (λ_ s3=>e8 (f7 X.prog X.w) X.A (pure Flow.next) (SP X a Dn) X.xe s3) X.xe u) rfl hs V B.kind B.loc ?_;refine v6 (hi a s σ H _ I h) λv s1 h1=>v6 h1 λaD n h2=>?_;obtain⟨it,fp,tn,J,H2,e,l,T,U,M,W,⟨m0,w0⟩,N⟩:=h2;subst e;refine J6<|wpAny_newFunctionEnv B.nocell (by intro y hy;simp at hy) (λh1 F G=>?_) B.kind;have r:∀b∈fp,b<n.heap.objs.size:=λb f=>by obtain⟨o,e,_⟩:=T.obj _ _ U b f;exact x3 e
 have hC:(n.heap.push<|ci [] 0).objs.size=n.heap.objs.size+1:=K6 ..;have K:∀b o,(n.heap.push<|ci [] 0).get? b=a7 o->h1.get? b=a7 o:=λb o e=>(G.2 b<|x9<|x3 e).trans<|w6 _ e;have I3:=l.blkStart (tk:=n.toks+([]:List (b9×b7)).length) B i E M r K F;have L:tn 0 h1:=T.keep _ _ _ U λb _ o e=>K b o<|w6 _ e;have ab:n.heap.objs.size∉fp:=λz=>G4 _<|r _ z;have ai:n.heap.objs.size∉frs X.stack:=λz=>by rcases A0.mp (l.stkSub _ z)with q|q;exact o7 l.lt (by rw[<-q];exact G4 _);exact l.nofs (u6 _) q
 have D:n.heap.objs.size≠(n.heap.push<|ci [] 0).objs.size:=by rw[hC];exact x9<|Kw _
 have ltc:∀z c,cl.lookup z=a7 c->c<n.heap.objs.size:=λz c e=>by obtain⟨v,q⟩:=l.cell z c<|i z c e;exact q.lt
 have t:∀b∈fp,b≠(n.heap.push<|ci [] 0).objs.size/\b∉frs X.stack/\∀x c,cl.lookup x=a7 c->c≠b:=λb f=>by refine⟨by rw[hC];exact x9<|Mw<|r b f,λz=>?_,λx c e=>(M b f).2.2.2.2.1 x c<|i x c e⟩;rcases A0.mp (l.stkSub b z)with q|q;exact(M b f).2.1 q;exact(M b f).2.2.1 q
 have as:n.heap.objs.size<=(n.heap.push<|ci [] 0).objs.size:=by rw[hC];exact Nm _
 have m:j6 (f7 X.prog X.w) X.A (.compLoop (.ListComp elt [⟨tg,iter,ifs,0⟩] scope pos) 0 (.ref it) (.ref n.heap.objs.size)<|compEnvC scope cl (n.heap.push<|ci [] 0).objs.size X.env) (compPost (f7 X.prog X.w) X.A X.xe (a7<|i3 (.Name x pos') X.env) (λ_ u=>e8 (f7 X.prog X.w) X.A (pure ()) (λ_ s3=>e8 (f7 X.prog X.w) X.A (pure Flow.next) (SP X a Dn) X.xe s3) X.xe u) (.ref n.heap.objs.size) (n.heap.push<|ci [] 0).objs.size) { n with heap:=h1,toks:=n.toks+([]:List (b9×b7)).length }:=by
  refine uI (s0:={ n with heap:=n.heap.push (ci [] 0) }) (H0:=H2) (N':=N') (Q:=λv H1=>gN v σ H1 Dn.nx) hc (hg _ _ _ _) (ht _ _ _ _) (he _ _ _ _) T ab N t D ai (λx c e=>x9<|ltc x c e) ?_ m0 I3 L (λb f=>(M b f).1) w0;intro τ H' s' vs its k R rv hl q;obtain⟨mm,aj,_⟩:=id R.loc;obtain⟨C,es,Y,eC,aF⟩:=id aj;have I5:t4 X a σ (v8 H' n.heap.objs.size<|.lst vs) s':=l.blkEnd M R rv hl ⟨rfl,λ_ _=>rfl⟩;have Z:v8 H' n.heap.objs.size (.lst vs) (n.heap.push<|ci [] 0).objs.size=a8:=by rw[au<|D2 D];exact R.free
  have fk:∀Hx:Hp,Hx (n.heap.push<|ci [] 0).objs.size=a8->xZ X a Hx (n.heap.push<|ci [] 0).objs.size:=λHx hx=>l.fpOk as hx;have dC:∀v,C.data≠.cell v:=λv z=>by
   have:∃es Y,C.data=.dict es Y:=by
    first
     |(obtain⟨d,_⟩:=aF;exact⟨_,_,d⟩)
     |(obtain⟨_,d,_⟩:=aF;exact⟨_,_,d⟩)
     |(obtain⟨_,_,d,_⟩:=aF;exact⟨_,_,d⟩)
   obtain⟨_,_,d⟩:=this;rw[d]at z;cases z
  have I6:t4 X (a++[((n.heap.push<|ci [] 0).objs.size,C)]) σ (v8 H' n.heap.objs.size<|.lst vs) s':=I5.pins_of λp j=>by
   rcases F3.mp j with j|j;exact I5.pin p<|F9 _ j;have:p=((n.heap.push<|ci [] 0).objs.size,C):=by simpa using j
   subst this;exact⟨eC,Z,(fk _ Z).2.1,(fk _ Z).2.2.1,dC⟩
  refine v6 (hn _ s' σ _ (.ref n.heap.objs.size) (.ref n.heap.objs.size) _ I6 rfl q) ?_;rintro _ s7 ⟨O,P,S,q7⟩;obtain⟨p1,p2,_⟩:=S.pin ((n.heap.push<|ci [] 0).objs.size,C)<|F9 _<|F9 _ C9;refine⟨mm,⟨C,es,Y,p1,aF⟩,λh' sb=>t6<|t6 ⟨O,P,?_,q7⟩⟩;have I8:t4 X a O P s7:=S.pins_of λp j=>S.pin p<|F9 _<|Ld _ j;refine I8.turnedL (t':=s7.toks) (fp:=[(n.heap.push<|ci [] 0).objs.size]) (λb f=>?_) λb o f e=>(sb.2 b<|by simpa using f).trans e;have:b=(n.heap.push<|ci [] 0).objs.size:=by simpa using f
  subst this;exact fk P p2
 exact P7 m<|T.self _ 0 _ _ _ L m
def il(t:Nat)(s:List Nat)(b:KL)(g:G1)(tt:D9)(te:v5)(i:Nat):t7:=λE S M=>E8 t s b g tt te S M λd a=>am i d S a E.nx
theorem CM(B:BlkSc X N' nt js scope)(f:X.calm=a9)(hi:DI X tg iter di)(l:∀cl s0 H0 ex,DG (z9 X N' scope cl s0 H0 ex) tg g) (D:∀cl s0 H0 ex,Lr (z9 X N' scope cl s0 H0 ex) ifs<|lowT X.K tt) (j:∀cl s0 H0 ex,DE (z9 X N' scope cl s0 H0 ex) elt te) (n:DG X (.Name x pos') (am i))(hs:∀x,j0 iter X.env x=pure x) (h:g9 (.ListComp elt [⟨tg,iter,ifs,0⟩] scope pos) (a7<|.Name x pos') pos2.line X.env=pure a9):DS X (.Assign [.Name x pos'] (.ListComp elt [⟨tg,iter,ifs,0⟩] scope pos) pos2) (il nt js di g tt te i):=PS.imp (Bv (g:=lowG X.K g) (tt:=lowT X.K tt) (te:=lowE X.K te) B f hi (λcl s0 H0 ex=>l cl s0 H0 ex) D (λcl s0 H0 ex=>j cl s0 H0 ex) n hs h) λE σ H ⟨S,M,ρ,F,s,b,q,k⟩ =>
  zA σ H _ ⟨S,M,ρ,_,s,b,q,λv H1 ⟨d,e,c,o,g1,r,m⟩=>⟨d,S,e,c,_,o,b.grow g1,r,m,λa H' w=>k.nx a H'<|SQ.trans g1 w⟩⟩
theorem Cc(a:X.N.Nodup)(hi:HI X tg iter di)(S:∀cl s0 H0 ex,HG (z9 X N' scope cl s0 H0 ex) tg g) (D:∀cl s0 H0 ex,MG (z9 X N' scope cl s0 H0 ex) ifs tt) (e:∀cl s0 H0 ex,HE (z9 X N' scope cl s0 H0 ex) elt te) (B:nw X.env.scope.names X.N N' nt js scope=a9:=by kernel_rfl) (f:X.calm=a9:=by kernel_rfl)(hs:∀x,j0 iter X.env x=pure x:=by intro _;kernel_rfl) (w:g9 (.ListComp elt [⟨tg,iter,ifs,0⟩] scope pos) (a7<|.Name x pos') pos2.line X.env=pure a9:=by kernel_rfl)(h:X.N[i]?=a7 x:=by kernel_rfl) (c:Fb X.env.scope x=a9:=by kernel_rfl) (b:X.fn x=a9:=by kernel_rfl):HS X (.Assign [.Name x pos'] (.ListComp elt [⟨tg,iter,ifs,0⟩] scope pos) pos2) (il nt js di g tt te i):=⟨CM (BlkSc.chk B) f hi.ok (λcl s0 H0 ex=>(S cl s0 H0 ex).ok) (λcl s0 H0 ex=>(D cl s0 H0 ex).ok) (λcl s0 H0 ex=>(e cl s0 H0 ex).ok) (uQ a h (wa c)<|.inl b) hs w⟩
end
theorem LU:atI (a::r) 0=a7 a:=by have:=ap (xs:=a::r) (j:=0) (v:=a) rfl;simpa using this
theorem Ml:atI (a::b::r) 1=a7 b:=by have:=ap (xs:=a::b::r) (j:=1) (v:=b) rfl;simpa using this
theorem PH:atI (a::b::c::r) 2=a7 c:=by have:=ap (xs:=a::b::c::r) (j:=2) (v:=c) rfl;simpa using this
theorem aQ.lst(h:R (.ref M.length) (M++[.lst xs]))(f:M.length<=n)(e:(M++L)[n]?=a7 (.lst xs))(b:Bels M.length xs):aQ M R (.ref n) (M++L):=.inr<|.inr ⟨M,n,xs,.refl,rfl,f,e,KH _ _,b,h⟩
theorem aQ.chgL(c:Nj M M1)(h:R (.ref M.length) (M1++[.lst xs]))(f:M.length<=n)(e:M'[n]?=a7 (.lst xs))(p:M1 <+: M')(b:Bels M.length xs):aQ M R (.ref n) M':=.inr<|.inr ⟨M1,n,xs,c,rfl,f,e,p,b,h⟩
theorem lX:(M++a::L).set M.length b=M++b::L:=by rw[P3 _ _<|u6 _];simp
theorem cz:(M++a::L)[M.length]?=a7 a:=by simp
theorem EB:M <+: M++L:=KH _ _
theorem gJ(I:List D->List D->SD->t9->Prop)(h0:∀acc S M,I [] acc S M->ok M/\Q (.ref M.length) (M++[.lst acc]))(h1:∀x xs acc S M,I (x::xs) acc S M->∀K:List D->SD->t9->Prop,(∀acc S M,I xs acc S M->K acc S M)->ok M/\g x S M λS2 M2=>tt S2 M2 λb M3=>if b=a9 then te S2 M3 λy M4=>acc.length<sizeLine/\K (acc++[y]) S2 M4 else K acc S2 M3):∀xs acc S M,I xs acc S M->jW ok g tt te Q xs acc S M
 | [],acc,S,M,h=>h0 acc S M h
 |x::xs,acc,S,M,h=>h1 x xs acc S M h _<|gJ I h0 h1 xs
noncomputable def NJ:D->b9
 |.str x=>x
 |_=>Str.empty
theorem yZ{ys:List D}{s:List b9}(h:ys.Perm (s.map D.str)):∃ns:List b9,ys=ns.map D.str/\ns.Perm s:=by
 refine⟨ys.map NJ,?_,?_⟩;rw[E7];have:∀y∈ys,(D.str ∘ NJ) y=y:=λy O=>by obtain⟨x,_,rfl⟩:=w9.mp<|h.mem_iff.mp O;rfl
 exact(M9 this ▸ (List.map_id' ys).symm:ys=ys.map (D.str ∘ NJ));have:=h.map NJ;rw[E7]at this;have e:(NJ ∘ D.str)=id:=rfl
 rwa [e,MN]at this
theorem wW{M:t9}{s:List b9}(h:s.length<64):SrtOk M (s.map D.str):=by refine⟨by rw[u8];exact h,λx a=>?_,λx a y O=>?_,.inl λx a=>?_⟩;obtain⟨z,_,rfl⟩:=w9.mp a;rfl;obtain⟨z,_,rfl⟩:=w9.mp a;obtain⟨F,_,rfl⟩:=w9.mp O;rfl;obtain⟨z,_,rfl⟩:=w9.mp a;exact⟨z,rfl⟩
theorem Bs:(qq kvs k d).length<=kvs.length+1/\1<=(qq kvs k d).length:=by unfold qq;by_cases q:(kvs.any λp=>decide<|p.1=k)=a9;rw[o5 q,u8];obtain⟨p,h,_⟩:=Lx.mp q;have:0<kvs.length:=List.length_pos_of_mem h;lia;rw[o6 q,A1,F8];lia
theorem kQ:(M++a::b::L)[M.length+1]?=a7 b:=by rw[K0 (by lia),show M.length+1-M.length=1 by lia];rfl
section
variable{prog:c5}{w:c3}{A:d8}{E:b7->d9->Prop}{s:d9}
noncomputable def ba(w:c3):c7:={ cls:=.type "set",dict:=a8,data:=.set #[] 0 (.fresh 0 0<|!w.params.followText "set-order") }
theorem uS(a:b7)(h:Q₁ (.ref s.heap.objs.size) { s with heap:=s.heap.push (ba w) }):j6 (f7 prog w) A (.call (.builtin "set.__new__") ⟨[.type "set",a],[]⟩) (wants Q₁ E) s:=by
 refine codeAny_of_tree<|show e8 (f7 prog w) A.in1 (do checkBuiltinCall "set.__new__" ⟨[.type "set",a],[]⟩;again (.builtin "set.__new__" ⟨[.type "set",a],[]⟩)) _ _ s from ?_;refine r9<|wpAny_of_eq (F.newCall_set_1 a)<|t6 ⟨MQ F.plain_set_new _,L6 F.entry_set_new ?_⟩;rw[Na F.plain_set_new _];have b:=sub_set_self;obtain⟨p,g,d,q,c⟩:=s;unfold Builtin.«set.__new__» Builtin.Frozenset.newClass;dsimp only
 wp_walk
 refine MX<|t6 ?_;simp only[newObj];exact r9<|wpAny_alloc<|t6<|t6 h
end
structure TxSrc(prog:c5)(w:c3)(h:c8)(l:c6)(T:String)(n:Nat)(P:Nat->b7->Prop):Prop where
 obj:∃o,h.get? l=a7 o/\o.cls=.type T
 ns:isSubtype (.type T) (.type "set")=pure bt
 nf:isSubtype (.type T) (.type "frozenset")=pure bt
 nd:(MM T==MM "dict")=bt
 iter:∀(A:d8) (s':d9),A.handled=a8->(∀o,h.get? l=a7 o->s'.heap.get? l=a7 o)->∃(oI:c7) (St:Nat->c8->Prop),(∀(E:b7->d9->Prop) (Q:b7->d9->Prop),Q (.ref s'.heap.objs.size) { s' with heap:=s'.heap.push oI }->e8 (f7 prog w) A (i8<|.ref l) Q E s') /\Walks prog w A s'.heap.objs.size [s'.heap.objs.size,l] [s'.heap.objs.size] n P St/\St 0 (s'.heap.push oI)
theorem ua:isSubtype (.type "tuple") (.type "set")=pure bt:=by rw[isSubtype_type];kernel_rfl
theorem rM:isSubtype (.type "tuple") (.type "frozenset")=pure bt:=by rw[isSubtype_type];kernel_rfl
theorem TxSrc.list(g:h.IsList l its):TxSrc prog w h l "list" its.size (λi v=>its[i]?=a7 v):=by
 refine⟨let ⟨o,e,c,_⟩:=g;⟨o,e,c⟩,F.sub_list_set,F.sub_list_frozenset,by decide,λA s' b k=>?_⟩;have a:s'.heap.IsList l its:=g.at k;have lt:l<s'.heap.objs.size:=let ⟨o,e,_⟩:=a;x3 e
 exact⟨_,_,λE Q q=>Pa a q,Walks.list b _ l (x9 lt) its,⟨_,A9 _ rfl,rfl,rfl⟩,a.push _⟩
theorem TxSrc.tuple(g:h.IsTuple l its):TxSrc prog w h l "tuple" its.size (λi v=>its[i]?=a7 v):=by
 refine⟨let ⟨o,e,c,_⟩:=g;⟨o,e,c⟩,ua,rM,by decide,λA s' b k=>?_⟩;have a:s'.heap.IsTuple l its:=let ⟨o,e,r⟩:=g;⟨o,k o e,r⟩
 have lt:l<s'.heap.objs.size:=let ⟨o,e,_⟩:=a;x3 e
 exact⟨_,_,λE Q q=>wpAny_pyIter_tuple a q,Walks.tuple b _ l (x9 lt) its,⟨_,A9 _ rfl,rfl,rfl⟩,let ⟨o,e,r⟩:=a;⟨o,w6 _ e,r⟩⟩
theorem bb:Slot "set_iterator" "__next__" "set_iterator.__next__":=.of (owner:="set_iterator") (n:="__next__") (by rw[OV,Pk];kernel_rfl) (by decide +kernel) (by decide +kernel) (by decide +kernel) (by first|exact .inl (by decide +kernel)|exact .inr<|by decide +kernel)<|by rw[isSubtype_type];kernel_rfl
theorem eY:entryFor table "set_iterator.__next__" = a7 Builtin.«set_iterator.__next__»:=entryFor_of_tree<|by kernel_rfl
theorem mE:Manifest.owners.lookup (String.ofList ['r','o','t','a','r','e','t','i','_','t','e','s'].reverse)=a7 Manifest.sig_set_iterator:=by kernel_rfl
theorem gK(a:b7):argsOk "set_iterator.__next__" ⟨[a],[]⟩:=by unfold argsOk;rw[signature?_of (id:="set_iterator.__next__") (n:=['_','_','t','x','e','n','_','_']) (o:=['r','o','t','a','r','e','t','i','_','t','e','s']) (by kernel_rfl) mE];kernel_rfl
theorem qc:entryFor table "set.__iter__" = a7 Builtin.«frozenset.__iter__»:=entryFor_alias (id':="frozenset.__iter__") (by kernel_rfl) rfl (by decide +kernel)<|by kernel_rfl
theorem jU{α:Type}:∀(l:List α) (i:Nat) (h:i<l.length),(l[i]::l.eraseIdx i).Perm l
 |x::l,0,_=>Nu _
 |x::l,i+1,h=>by
  have h':i<l.length:=by simpa using h
  exact(List.Perm.swap x l[i]<|l.eraseIdx i).trans<|OR x<|jU l i h'
theorem xS(f:n≠0)(h:∀i d,i<n->Q i { s with drawn:=d }):e8 M A (choose src n) Q E s:=by intro Γ p a;show Sem.wp M Γ (Sem.choose src n λi=>Sem.pure i) _ _ p s;rw[Sem.wp_choose];refine⟨f,?_⟩;rw[Sem.wp_pure];exact h _ _<|Nat.mod_lt _<|Nat.pos_of_ne_zero f
theorem sV{α:Type}{M:Model}{A:d8}{E:b7->d9->Prop}:∀(n:Nat) (xs:List α) (s:d9) (Q:List α->d9->Prop),xs.length=n->(∀ys d,ys.Perm xs->Q ys { s with drawn:=d })->e8 M A (drawOrder n xs) Q E s
 | 0,xs,s,Q,e,h=>by
  cases xs with
  |nil=>exact t6<|h [] s.drawn<|Nu _
  |cons _ _=>cases e
 |n+1,[],s,Q,e,h=>by cases e
 |n+1,x::xs,s,Q,e,h=>by unfold drawOrder;refine r9<|xS (by simp) λi d hi=>?_;rw[v9 hi];refine r9<|sV n ((x::xs).eraseIdx i) { s with drawn:=d } _ (by rw[List.length_eraseIdx_of_lt hi];simp at e ⊢;lia) λys d' hp=>t6<|h _ d' ?_;exact(OR _ hp).trans<|jU _ i hi
theorem mj{α:Type}(next:Nat->Nat)(xs:Array α):(n5 next xs).toList.Perm xs.toList:=by
 have o:∀(l k:Nat) (left:List α) (out:Array α),left.length=l->(pickOrder.go next l k left out).toList.Perm (out.toList++left):=by
  intro l;induction l with
  |zero =>
   intro k left out e;cases left with
   |nil=>simp[pickOrder.go]
   |cons _ _=>cases e
  |succ n i=>intro k left out e;have hi:next k % left.length<left.length:=Nat.mod_lt _ (by lia);unfold pickOrder.go;rw[v9 hi];dsimp only;refine(i (k+1) _ _<|by rw[List.length_eraseIdx_of_lt hi];lia).trans ?_;rw[Oi,G5];exact List.Perm.append_left _<|jU _ _ hi
 have:=o xs.size 0 xs.toList #[] (by simp);simpa [n5]using this
noncomputable def eX(first:b7)(i n:Nat)(a:c6)(ep:Nat):c7:={ cls:=.type "set_iterator",data:=.fields #[first,i9 i,.ref a,i9 n,i9 ep] }
structure SetAt(h:c8)(a:c6)(o:c7)(es:Array (Int×b7))(ep:Nat)(t:n6):Prop where
 ob:h.get? a=a7 o
 dt:o.data=.set es ep t
 ft:t.fits es.size=a9
section
variable{prog:c5}{w:c3}{A:d8}{E:b7->d9->Prop}{s:d9}{a it:c6}{o:c7}{es:Array (Int×b7)}{ep:Nat}{t:n6}
theorem oG(c:A.handled=a8)(h:∀h' e,(∀b o,s.heap.get? b=a7 o->h'.get? b=a7 o)->(∃o,h'.get? e=a7 o/\o.cls=.type "StopIteration")->F (.ref e) { s with heap:=h' }):e8 (f7 prog w) A (do raiseNew (<-newExc (.type "StopIteration") []):Sem Fin) Q F s:=by refine r9 ?_;simp only[newExc,newTuple];refine r9 (J6 (r9 (m:=n9 _ _)<|wpAny_of_eq (a:=ABh) (by first|rfl|(simp only[n9];rfl))<|J6 ?_<|by size_fits)<|by size_fits);simp only[raiseNew];refine r9<|wpAny_handled ?_;rw[c];exact r9<|t6<|wpAny_throw<|h _ _ (λb o e=>w6 _<|w6 _ e) ⟨_,A9 _ rfl,rfl⟩
theorem mK{slot i next:Nat}{x:b7}{Q:Option b7->d9->Prop}(I:s.heap.get? it=a7 (eX (i9 slot) i es.size a ep))(S:SetAt s.heap a o es ep t)(f:∀(A:d8) (E:b7->d9->Prop) (Q:Option (b7×Nat)->d9->Prop),Q (a7 (x,next)) s->e8 (f7 prog w) A (setNext a slot i ep) Q E s)(b:∀h',h'.get? it=a7 (eX (i9 next) (i+1) es.size a ep)->Li it s.heap h'->Q (a7 x) { s with heap:=h' }):e8 (f7 prog w) A (i6<|.ref it) Q E s:=by
 have m:s.TypeIs (.ref it) "set_iterator":=⟨_,I,rfl⟩
 unfold i6;refine r9<|LJ<|Lz (name:=t5 "__next__") m bb<|Ks bb m eY ?_<|gK _;unfold Builtin.«set_iterator.__next__»;refine r9<|t6<|r9<|Lk I rfl ?_;dsimp only[eX,i9];refine r9<|Op S.ob S.dt S.ft ?_;rw[o6<|by simp];refine r9<|f _ _ _ ?_;dsimp only;refine r9<|LK I rfl (by simp)<|r9<|LK (KI _ I rfl) rfl (by simp)<|t6 ⟨x,rfl,t6<|b _ ?_<|(KW ..).trans<|KW ..⟩;refine(KI _ (KI _ I rfl) rfl).trans ?_;simp[eX,MP,i9]
theorem eR{slot i:Nat}{Q:Option b7->d9->Prop}(g:A.handled=a8)(I:s.heap.get? it=a7 (eX (i9 slot) i es.size a ep))(S:SetAt s.heap a o es ep t)(n:∀(A:d8) (E:b7->d9->Prop) (Q:Option (b7×Nat)->d9->Prop),Q a8 s->e8 (f7 prog w) A (setNext a slot i ep) Q E s)(h:∀h',(∀b o,b≠it->s.heap.get? b=a7 o->h'.get? b=a7 o)->Q a8 { s with heap:=h' }):e8 (f7 prog w) A (i6<|.ref it) Q E s:=by
 have m:s.TypeIs (.ref it) "set_iterator":=⟨_,I,rfl⟩
 unfold i6;refine r9<|LJ<|Lz (name:=t5 "__next__") m bb<|Ks bb m eY ?_<|gK _;unfold Builtin.«set_iterator.__next__»;refine r9<|t6<|r9<|Lk I rfl ?_;dsimp only[eX,i9];refine r9<|Op S.ob S.dt S.ft ?_;rw[o6<|by simp];refine r9<|n _ _ _ ?_;dsimp only;refine r9<|LK I rfl (by simp) ?_;refine oG (by simp[g]) ?_;rintro h' e k ⟨l,c,f⟩;refine r9<|MW (T:="StopIteration") (b:=a9) ⟨l,c,f⟩ isSubtype_stop<|t6<|h h' λb j d L=>k b j ?_;exact((KW ..).2 b d).trans L
theorem xn{tt:c6}{ps:List Nat}{i j:Nat}{e:Int×b7}{Q:Option b7->d9->Prop}(I:s.heap.get? it=a7 (eX (.ref tt) i es.size a ep))(B:s.heap.IsTuple tt (ps.map λ(k:Nat)=>i9 k).toArray)(S:SetAt s.heap a o es ep t)(L:ps[i]?=a7 j) (d:es[j]?=a7 e) (c:∀h',h'.get? it=a7 (eX (.ref tt) (i+1) es.size a ep)->Li it s.heap h'->Q (a7 e.2) { s with heap:=h' }):e8 (f7 prog w) A (i6<|.ref it) Q E s:=by
 have m:s.TypeIs (.ref it) "set_iterator":=⟨_,I,rfl⟩
 obtain⟨f,b,_,n,h⟩:=B;unfold i6;refine r9<|LJ<|Lz (name:=t5 "__next__") m bb<|Ks bb m eY ?_<|gK _;unfold Builtin.«set_iterator.__next__»;refine r9<|t6<|r9<|Lk I rfl ?_;dsimp only[eX,i9];refine r9<|Op S.ob S.dt S.ft ?_;rw[o6<|by simp];refine r9<|MS b h ?_;have x:(ps.map λ(k:Nat)=>i9 k).toArray[i]?=a7 (.int j 0):=by simp[L,i9]
 simp only[KG,x];unfold setNextDrawn;refine r9<|r9<|Lo S.ob S.dt S.ft ?_;simp only[bne_self_eq_false,A4,p6,d];refine t6<|r9<|LK I rfl (by simp)<|t6 ⟨_,rfl,t6<|c _ ?_<|KW ..⟩;refine(KI _ I rfl).trans ?_;simp[eX,MP,i9]
theorem nN{tt:c6}{ps:List Nat}{i:Nat}{Q:Option b7->d9->Prop}(l:A.handled=a8)(I:s.heap.get? it=a7 (eX (.ref tt) i es.size a ep))(B:s.heap.IsTuple tt (ps.map λ(k:Nat)=>i9 k).toArray)(S:SetAt s.heap a o es ep t)(n:ps[i]?=a8) (d:∀h',(∀b o,b≠it->s.heap.get? b=a7 o->h'.get? b=a7 o)->Q a8 { s with heap:=h' }):e8 (f7 prog w) A (i6<|.ref it) Q E s:=by
 have m:s.TypeIs (.ref it) "set_iterator":=⟨_,I,rfl⟩
 obtain⟨v,c,_,u,h⟩:=B;unfold i6;refine r9<|LJ<|Lz (name:=t5 "__next__") m bb<|Ks bb m eY ?_<|gK _;unfold Builtin.«set_iterator.__next__»;refine r9<|t6<|r9<|Lk I rfl ?_;dsimp only[eX,i9];refine r9<|Op S.ob S.dt S.ft ?_;rw[o6<|by simp];refine r9<|MS c h ?_;have x:(ps.map λ(k:Nat)=>i9 k).toArray[i]?=a8:=by simpa using n
 simp only[KG,x];refine r9<|LK I rfl (by simp)<|r9<|LK (KI _ I rfl) rfl (by simp) ?_;refine oG (by simp[l]) ?_;rintro h' e p ⟨r,j,g⟩;refine r9<|MW (T:="StopIteration") (b:=a9) ⟨r,j,g⟩ isSubtype_stop<|t6<|d h' λb q f L=>p b q ?_;exact(((KW ..).trans<|KW ..).2 b f).trans L
end
end L2
namespace L2
theorem nodup_le{α:Type}[DecidableEq α]:∀(l xs:List α),l.Nodup->(∀x∈l,x∈xs)->l.length<=xs.length
 | [],xs,_,_=>z5 _
 |a::l,xs,nd,h=>by have ha:a∈xs:=h a C9;have nd':=KC.mp nd;have ih:=nodup_le l (xs.erase a) nd'.2 λx hx=>(List.mem_erase_of_ne<|show x≠a from λz=>nd'.1<|by rw[<-z];exact hx).mpr<|h x<|A8 _ hx;rw[List.length_erase_of_mem ha]at ih;have:0<xs.length:=List.length_pos_of_mem ha;rw[B9];lia
end L2
namespace Ht
open PySem
noncomputable def NR(m:Nat)(p:Ms):Ms:=if p.more > 0 then { p with j:=p.j+1,more:=p.more-1 } else
 { p with j:=(L5 m p.i p.perturb).1,more:=J5 m (L5 m p.i p.perturb).1-(L5 m p.i p.perturb).1,i:=(L5 m p.i p.perturb).1,perturb:=(L5 m p.i p.perturb).2 }
noncomputable def jE(m i t:Nat):Ms:={ j:=i,more:=J5 m i-i,i,perturb:=t,dummy:=a8 }
noncomputable def lW(m:Nat)(p:Ms):Nat->Ms
 | 0=>p
 |n+1=>NR m<|lW m p n
noncomputable def sq(m:Nat)(h:Int)(n:Nat):Ms:=lW m (jE m (Lw h % (m+1))<|Lw h) n
theorem rN(m:Nat)(p:Ms)(a b:Nat):lW m p (a+b)=lW m (lW m p a) b:=by
 induction b with
 |zero=>rfl
 |succ b i=>rw[Nat.add_succ,lW,i];rfl
theorem Hi(m i:Nat):J5 m i-i<=9:=by unfold J5;split<;>lia
theorem zY(m i pt:Nat):∀k,k<=J5 m i-i->lW m (jE m i pt) k={ j:=i+k,more:=J5 m i-i-k,i,perturb:=pt,dummy:=a8 }
 | 0,_=>by simp[lW,jE]
 |k+1,h=>by rw[lW,zY m i pt k<|by lia];unfold NR;rw[o5<|show J5 m i-i-k > 0 by lia];simp only[SetTable.Probe.mk.injEq,true_and,and_true];lia
theorem BL(m i t:Nat):lW m (jE m i t) (J5 m i-i+1)=jE m (L5 m i t).1 (L5 m i t).2:=by rw[lW,zY m i t _<|u6 _];unfold NR;rw[o6<|show ¬J5 m i-i-(J5 m i-i) > 0 by lia];rfl
noncomputable def eK(m:Nat)(h:Int):Nat->Nat×Nat
 | 0=>(Lw h % (m+1),Lw h)
 |k+1=>L5 m (eK m h k).1 (eK m h k).2
noncomputable def fh(m:Nat)(h:Int):Nat->Nat
 | 0=>0
 |k+1=>fh m h k+(J5 m (eK m h k).1-(eK m h k).1+1)
theorem De(m:Nat)(h:Int)(k:Nat):fh m h k<=10*k:=by
 induction k with
 |zero=>exact u6 _
 |succ k i=>have:=Hi m (eK m h k).1;unfold fh;lia
theorem Dl(m:Nat)(h:Int)(k:Nat):sq m h (fh m h k)=jE m (eK m h k).1 (eK m h k).2:=by
 induction k with
 |zero=>rfl
 |succ k i=>unfold sq at i ⊢;unfold fh;rw[rN,i,BL];rfl
theorem yP(m:Nat)(h:Int)(k r:Nat)(i:r<=J5 m (eK m h k).1-(eK m h k).1):(sq m h<|fh m h k+r).j=(eK m h k).1+r:=by have e:=Dl m h k;unfold sq at e ⊢;rw[rN,e,zY _ _ _ _ i]
theorem Gz(h:Int):Lw h<2 ^ 64:=by unfold Lw;have a:=Int.emod_nonneg h (show (2 ^ 64:Int)≠0 by decide);have h1:=Int.emod_lt_of_pos h (show (0:Int)<2 ^ 64 by decide);lia
theorem oM(m:Nat)(h:Int):∀k,(eK m h k).2=Lw h / 32 ^ k
 | 0=>by simp[eK]
 |k+1=>by show (eK m h k).2 / 32=_;rw[oM m h k,Nat.div_div_eq_div_mul,<-Nat.pow_succ]
theorem sg(m:Nat)(h:Int)(k:Nat)(a:13<=k):(eK m h k).2=0:=by
 rw[oM];apply Nat.div_eq_of_lt;have h1:=Gz h;have h2:32 ^ 13<=32 ^ k:=Nat.pow_le_pow_right (by decide) a;have b:(2:Nat) ^ 64<32 ^ 13:=by decide
 lia
noncomputable def uY(m i:Nat):Nat:=(i*5+1) % (m+1)
noncomputable def bO(m i:Nat):Nat->Nat
 | 0=>i
 |k+1=>uY m<|bO m i k
theorem eI(m i a b:Nat):bO m i (a+b)=bO m (bO m i a) b:=by
 induction b with
 |zero=>rfl
 |succ b h=>rw[Nat.add_succ,bO,h];rfl
theorem ub(m:Nat)(h:Int)(r:Nat):(eK m h<|13+r).1=bO m (eK m h 13).1 r:=by
 induction r with
 |zero=>rfl
 |succ r i=>show (L5 m (eK m h<|13+r).1 (eK m h<|13+r).2).1=uY m (bO m (eK m h 13).1 r);rw[sg m h _ (by lia),i];rfl
theorem uc(m:Nat)(h:Int):∀k,(eK m h k).1<=m
 | 0=>Nat.lt_succ_iff.mp<|Nat.mod_lt _<|Nat.succ_pos _
 |k+1=>Nat.lt_succ_iff.mp<|Nat.mod_lt _<|Nat.succ_pos _
def GP(m:Nat):Prop:=bO m 0 (m+1)=0/\∀s,s<=m->∃k,k<=m/\bO m 0 k=s
noncomputable def uj(m:Nat):Nat->Nat->List Nat
 | 0,_=>[]
 |n+1,i=>i::uj m n (uY m i)
theorem mF(m:Nat):∀(n i k:Nat),k<n->(uj m n i)[k]?=a7 (bO m i k)
 | 0,_,_,h=>o7 h<|LN _
 |n+1,i,0,_=>rfl
 |n+1,i,k+1,h=>by rw[uj,Ov,mF m n (uY m i) k (by lia),<-show bO m (bO m i 1) k=bO m i (k+1)from by rw[<-eI,Nat.add_comm]];rfl
theorem uN(m:Nat)(h:((uj m (m+2) 0)[m+1]?==a7 0&&(A7<|m+1).all λs=>(uj m (m+1) 0).contains s)=a9):GP m:=by
 rw[D6,p5,F0]at h;refine⟨?_,λs hs=>?_⟩;have:=mF m (m+2) 0 (m+1) (by lia);rw[h.1]at this;exact(B5 this).symm;have:=h.2 s (J0.mpr<|by lia);rw[List.contains_iff_mem]at this;obtain⟨k,a⟩:=Lc this;have g:k<m+1:=by
  have:=(z6.mp a).1;have B:∀n i,(uj m n i).length=n:=by
   intro n;induction n with
   |zero=>intro i;rfl
   |succ n b=>intro i;simp[uj,b]
  rw[B]at this;exact this
 rw[mF m _ 0 k g]at a;exact⟨k,by lia,B5 a⟩
theorem full7:GP 7:=uN 7<|by decide +kernel
theorem Jy:GP 31:=uN 31<|by decide +kernel
theorem FW:GP 127:=uN 127<|by decide +kernel
theorem Ai(F:GP m)(hi:i<=m)(hs:s<=m):∃k,k<=m/\bO m i k=s:=by obtain⟨a,f,c⟩:=F.2 i hi;obtain⟨b,d,L⟩:=F.2 s hs;by_cases h:a<=b;refine⟨b-a,by lia,?_⟩;rw[<-c,<-eI,show a+(b-a)=b by lia];exact L;refine⟨m+1-a+b,by lia,?_⟩;rw[<-c,<-eI,show a+(m+1-a+b)=(m+1)+b by lia,eI,F.1];exact L
def nT(m:Nat):Prop:=m=7\/m=31\/m=127
theorem nT.full(h:nT m):GP m:=by rcases h with rfl|rfl|rfl;exact full7;exact Jy;exact FW
theorem DP(d:nT m)(h:Int)(hs:s<=m):∃k,k<=m+13/\(eK m h k).1=s:=by obtain⟨r,i,e⟩:=Ai d.full (uc m h 13) hs;exact⟨13+r,by lia,by rw[ub];exact e⟩
theorem Em(d:nT m)(h:Int)(hs:s<=m):∃n,n<10*(m+15)/\(sq m h n).j=s:=by obtain⟨k,a,e⟩:=DP d h hs;refine⟨fh m h k,by have:=De m h k;lia,?_⟩;rw[Dl];exact e
theorem He(h:Int):∀n,∃k r,r<=J5 m (eK m h k).1-(eK m h k).1/\n=fh m h k+r
 | 0=>⟨0,0,z5 _,rfl⟩
 |n+1=>by obtain⟨k,r,hr,e⟩:=He (m:=m) h n;by_cases q:r<J5 m (eK m h k).1-(eK m h k).1;exact⟨k,r+1,q,by lia⟩;exact⟨k+1,0,z5 _,by rw[fh];lia⟩
theorem yO(h:Int)(n:Nat):(sq m h n).j<=m:=by obtain⟨k,r,i,e⟩:=He (m:=m) h n;rw[e,yP m h k r i];have:=uc m h k;unfold J5 at i;split at i<;>lia
theorem below_spec(xs:Array Nat)(v:xs.toList.Pairwise (· < ·))(j:Nat):E5 xs j<=xs.size/\(∀k (h:k<xs.size),k<E5 xs j->xs[k]<j)/\∀k (h:k<xs.size),E5 xs j<=k->j<=xs[k]:=by
 have m:∀a b (g:a<xs.size) (i:b<xs.size),a<b->xs[a]<xs[b]:=λa b g i h=>by have:=Ox.mp v a b (by simpa using g) (by simpa using i) h;simpa using this
 have r:∀(l o hi:Nat),o<=hi->hi<=xs.size->hi-o<=l->(∀k (h:k<xs.size),k<o->xs[k]<j)->(∀k (h:k<xs.size),hi<=k->j<=xs[k]) -> MY xs j l o hi<=xs.size/\(∀k (h:k<xs.size),k<MY xs j l o hi->xs[k]<j)/\∀k (h:k<xs.size),MY xs j l o hi<=k->j<=xs[k]:=by
  intro l;induction l with
  |zero =>
   intro o hi h1 h2 s d c;have:o=hi:=by lia
   subst this;exact⟨h2,d,c⟩
  |succ l n =>
   intro o hi h1 h2 s d c;unfold MY;by_cases h:o<hi;rw[o5 h];have f:(o+hi) / 2<xs.size:=by lia
   have p:xs.getD ((o+hi) / 2) j=xs[(o+hi) / 2]:=by simp[La,f]
   simp only[p];by_cases q:xs[(o+hi) / 2]<j;rw[o5 q];refine n _ _ (by lia) h2 (by lia) (λk e u=>?_) c;rcases KR k ((o+hi) / 2)with z|z;exact Nat.lt_trans (m k _ e f z) q;have:k=(o+hi) / 2:=by lia
   subst this;exact q;rw[o6 q];refine n _ _ (by lia) (by lia) (by lia) d λk e t=>?_;rcases KR ((o+hi) / 2) k with z|z;exact J4 (LF.mp q)<|LZ<|m _ k f e z;have:k=(o+hi) / 2:=by lia
   subst this;exact LF.mp q;rw[o6 h];have:o=hi:=by lia
   subst this;exact⟨h2,d,c⟩
 exact r xs.size 0 xs.size (z5 _) (u6 _) (by lia) (λk _ h=>o7 h<|LN _) λk h h'=>o7 h<|LF.mpr h'
theorem below_at(r:xs.toList.Pairwise (· < ·))(h:xs[i]?=a7 j):E5 xs j=i:=by
 obtain⟨hi,e⟩:=LA.mp h;obtain⟨g,c,u⟩:=below_spec xs r j;have m:∀a b (f:a<xs.size) (d:b<xs.size),a<b->xs[a]<xs[b]:=λa b f d h=>by have:=Ox.mp r a b (by simpa using f) (by simpa using d) h;simpa using this
 rcases Oj (E5 xs j) i with q|q|q;have d:E5 xs j<xs.size:=by lia
 have:=u _ d<|u6 _;have:=m _ i d hi q;lia;exact q;have:=c i hi q;lia
theorem slot_live{t:n6}(r:t.place.toList.Pairwise (· < ·)){i j:Nat}(h:t.place[i]?=a7 j):t.slot j=.live i:=by unfold SetTable.slot;simp only[below_at r h];rw[o5<|by rw[h];simp]
theorem xa{t:n6}(d:t.dummies = #[]){j:Nat}(h:j∉t.place.toList):t.slot j=.empty:=by
 unfold SetTable.slot;have e:¬(t.place[E5 t.place j]?==a7 j)=a9:=λz=>h (by rw[p5]at z;have:=Array.mem_of_getElem? z;simpa using this);have l:SetTable.has t.dummies j=bt:=by rw[d];rfl
 simp only[e,p6,l,A4]
theorem go_spec{t:n6}(r:t.place.toList.Pairwise (· < ·))(x:t.dummies = #[])(hashAt:Nat->Int)(h:Int):∀(fuel n N:Nat),n<=N->N<n+fuel->(sq t.mask h N).j∉t.place.toList->(∀k,n<=k->k<N->(sq t.mask h k).j∈t.place.toList) ->(∀k,(sq t.mask h k).dummy=a8) ->((∀k i,n<=k->k<N->t.place[i]?=a7 (sq t.mask h k).j->hashAt i≠h)/\PP t hashAt h fuel (sq t.mask h n)=a7 (.empty (sq t.mask h N).j a8)) \/∃n' i,n<=n'/\n' < N/\t.place[i]?=a7 (sq t.mask h n').j/\hashAt i=h/\(∀k i,n<=k->k<n'->t.place[i]?=a7 (sq t.mask h k).j->hashAt i≠h)/\PP t hashAt h fuel (sq t.mask h n)=a7 (.candidate (sq t.mask h n').j i<|sq t.mask h<|n'+1):=by
 intro fuel;induction fuel with
 |zero=>intro n N h1 h2;lia
 |succ fuel A =>
  intro n N h1 h2 g l m;unfold PP;by_cases e:n=N;subst e;rw[xa x g];exact .inl ⟨λk i a b=>by lia,by rw[m]⟩;have y:=l n (u6 _) (by lia);obtain⟨i,hi⟩:=Lc y;have d:t.place[i]?=a7 (sq t.mask h n).j:=by rw[<-G6];exact hi
  rw[slot_live r d];dsimp only;have u:∀i',t.place[i']?=a7 (sq t.mask h n).j->i'=i:=λi' z=>by rw[<-below_at r z,below_at r d]
  by_cases q:hashAt i=h;simp only[p5,q,p7];exact .inr ⟨n,i,u6 _,by lia,d,q,λk i a b=>by lia,rfl⟩;simp only[p5,q,p6];rcases A (n+1) N (by lia) (by lia) g (λk a b=>l k (by lia) b) m with⟨B,C⟩|⟨n',i',F,o,p,s,v,w⟩
  refine .inl ⟨λk i' a b c=>?_,C⟩;rcases KR n k with z|z;exact B k i' z b c;have:k=n:=by lia
  subst this;rw[u i' c];exact q;refine .inr ⟨n',i',by lia,o,p,s,λk f a b c=>?_,w⟩;rcases KR n k with z|z;exact v k f z b c;have:k=n:=by lia
  subst this;rw[u f c];exact q
theorem sq_dummy(m:Nat)(h:Int):∀n,(sq m h n).dummy=a8
 | 0=>rfl
 |n+1=>by show (NR m<|sq m h n).dummy=a8;unfold NR;split;exact sq_dummy m h n;exact sq_dummy m h n
structure TOk(t:n6)(hs:List Int):Prop where
 msk:nT t.mask
 len:t.place.size=hs.length
 nod:t.dummies = #[]
 ris:t.place.toList.Pairwise (· < ·)
 rng:∀j∈t.place.toList,j<=t.mask
 few:t.place.size*5<t.mask*3
 path:∀(i:Nat) (h:Int) (j:Nat),hs[i]?=a7 h->t.place[i]?=a7 j->∃n,(sq t.mask h n).j=j/\∀n',n' < n->(sq t.mask h n').j∈t.place.toList
theorem Af{m:Nat}{l:List Nat}(n:l.Nodup)(i:∀j∈l,j<=m)(g:l.length<=m):∃j,j<=m/\j∉l:=by refine Mg λf=>?_;have a:∀j∈A7 (m+1),j∈l:=λj L=>Mg λh=>f ⟨j,by have:=J0.mp L;lia,h⟩;have:=L2.nodup_le (A7<|m+1) l O3 a;rw[Mc]at this;lia
theorem uO{m:Nat}(f:nT m){l:List Nat}(i:l.Nodup)(r:∀j∈l,j<=m)(g:l.length<=m)(h:Int):∃N,N<10*(m+15)/\(sq m h N).j∉l/\∀k,k<N->(sq m h k).j∈l:=by
 obtain⟨s,hs,u⟩:=Af i r g;obtain⟨n,o,t⟩:=Em f h hs;have:∀b n,n<b->(sq m h n).j∉l->∃N,N<=n/\(sq m h N).j∉l/\∀k,k<N->(sq m h k).j∈l:=by
  intro b;induction b with
  |zero=>intro n h;lia
  |succ b v=>intro n x p;by_cases q:∀k,k<n->(sq m h k).j∈l;exact⟨n,u6 _,p,q⟩;have:∃k,k<n/\(sq m h k).j∉l:=Mg λz=>q λk e=>Mg λw=>z ⟨k,e,w⟩;obtain⟨k,e,d⟩:=this;obtain⟨N,F,a,c⟩:=v k (by lia) d;exact⟨N,by lia,a,c⟩
 obtain⟨N,F,a,c⟩:=this (n+1) n (Kw _) (by rw[t];exact u);exact⟨N,by lia,a,c⟩
theorem TOk.empty{t:n6}{hs:List Int}(T:TOk t hs)(h:Int):∃N,N<10*(t.mask+15)/\(sq t.mask h N).j∉t.place.toList/\∀k,k<N->(sq t.mask h k).j∈t.place.toList:=by refine uO T.msk (T.ris.imp λh=>x9 h) T.rng ?_ h;have:=T.few;rw[D7];rcases T.msk with e|e|e<;>lia
theorem yW{t:n6}(r:t.place.toList.Pairwise (· < ·)){j:Nat}(L:j∉t.place.toList):(t.put j).1.place.toList=t.place.toList.take (E5 t.place j)++j::t.place.toList.drop (E5 t.place j)/\(t.put j).1.place.toList.Pairwise (· < ·):=by
 obtain⟨o,m,u⟩:=below_spec t.place r j;have e:(t.put j).1.place.toList=t.place.toList.take (E5 t.place j)++j::t.place.toList.drop (E5 t.place j):=by show (O9 t.place (E5 t.place j) j).toList=_;rw[SetTable.toList_insertAt]
 refine⟨e,?_⟩;rw[e,List.pairwise_append];refine⟨r.sublist<|Ol ..,List.pairwise_cons.mpr ⟨λx c=>?_,r.sublist<|List.drop_sublist ..⟩,λx c y O=>?_⟩;obtain⟨k,h⟩:=Lc c;rw[Nz]at h;have d:t.place[E5 t.place j+k]?=a7 x:=by rw[<-G6];exact h
 obtain⟨g,f⟩:=LA.mp d;have:=u _ g<|Nat.le_add_right _ _;rw[f]at this;rcases KR j x with z|z;exact z;have:x=j:=by lia
 subst this;exact o7 (List.mem_of_mem_drop c) L;obtain⟨k,h⟩:=Lc c;rw[List.getElem?_take]at h;split at h;rename_i l;have d:t.place[k]?=a7 x:=by rw[<-G6];exact h
 obtain⟨g,f⟩:=LA.mp d;have h1:=m k g l;rw[f]at h1;rcases A0.mp O with rfl|O;exact h1;obtain⟨B,a⟩:=Lc O;rw[Nz]at a;have b:t.place[E5 t.place j+B]?=a7 y:=by rw[<-G6];exact a
 obtain⟨i,n⟩:=LA.mp b;have:=u _ i<|Nat.le_add_right _ _;rw[n]at this;lia;cases h
end Ht
namespace L2
open PySem PySem.Spec PyProof.Rows DL PySem.W
theorem fU:Slot "set_iterator" "__iter__" "set_iterator.__iter__":=.of (owner:="set_iterator") (n:="__iter__") (by rw[OV,Pk];kernel_rfl) (by decide +kernel) (by decide +kernel) (by decide +kernel) (by first|exact .inl (by decide +kernel)|exact .inr<|by decide +kernel)<|by rw[isSubtype_type];kernel_rfl
theorem kH:entryFor table "set_iterator.__iter__" = a7 Builtin.«dict_keyiterator.__iter__»:=entryFor_alias (id':="dict_keyiterator.__iter__") (by kernel_rfl) rfl (by decide +kernel)<|by kernel_rfl
theorem nA(a:b7):argsOk "set_iterator.__iter__" ⟨[a],[]⟩:=by unfold argsOk;rw[signature?_of (id:="set_iterator.__iter__") (n:=['_','_','r','e','t','i','_','_']) (o:=['r','o','t','a','r','e','t','i','_','t','e','s']) (by kernel_rfl) mE];kernel_rfl
section
variable{prog:c5}{w:c3}{A:d8}{E:b7->d9->Prop}{s:d9}{a it:c6}{o:c7}{es:Array (Int×b7)}{ep:Nat}{t:n6}
theorem gv(I:s.heap.get? it=a7 (eX first i n a ep))(h:Q (.ref it) s):e8 (f7 prog w) A (i8<|.ref it) Q E s:=by
 have m:s.TypeIs (.ref it) "set_iterator":=⟨_,I,rfl⟩
 refine O8 m fU<|Ks fU m kH (show e8 _ _ (ret<|.ref it) _ _ s from ?_)<|nA _;exact t6 ⟨_,rfl,"set_iterator",_,m,bb.lookup,h⟩
theorem SetAt.at(S:SetAt h a o es ep t)(k:∀o,h.get? a=a7 o->h'.get? a=a7 o):SetAt h' a o es ep t:=⟨k _ S.ob,S.dt,S.ft⟩
theorem kg(d:w.params.followText "set-order" = a9)(S:SetAt s.heap a o es ep t)(h:Q (((n5 (w.params.setOrder a ep) es)[i]?).map λe=>(e.2,0)) s):e8 (f7 prog w) A (setNext a 0 i ep) Q E s:=by unfold setNext;refine r9<|Lo S.ob S.dt S.ft ?_;unfold setsByText;refine r9<|r9<|MX<|t6 ?_;simp only[f7,d,p7,bne_self_eq_false,A4,p6];unfold setWalk;refine r9<|r9<|Lo S.ob S.dt S.ft ?_;unfold setsByText;refine r9<|r9<|MX<|t6 ?_;simp only[f7,d,p7];exact r9<|MX<|t6<|t6 h
theorem wP(d:w.params.followText "set-order" = a9)(m:A.handled=a8)(f:a≠it):Walks prog w A it [it,a] [it] es.size (λi v=>((n5 (w.params.setOrder a ep) es).toList.map (·.2))[i]?=a7 v) (λi h=>h.get? it=a7 (eX (i9 0) i es.size a ep)/\SetAt h a o es ep t) where
 sub:=λb d=>by simp at d;simp[d]
 frame:=λ_ _ _ st l=>⟨l it (by simp) _ st.1,st.2.at λo e=>l a (by simp) o e⟩
 item:=λi s Q E hi st c=>by
  have g:(n5 (w.params.setOrder a ep) es).size=es.size:=by have:=(mj (w.params.setOrder a ep) es).length_eq;simpa using this
  obtain⟨e,j⟩:∃e,(n5 (w.params.setOrder a ep) es)[i]?=a7 e:=⟨_,Kn<|by rw[g];exact hi⟩
  refine mK (slot:=0) (next:=0) (x:=e.2) st.1 st.2 (λA E Q q=>kg d st.2<|by rw[j];exact q) λh' h1 T=>c _ h' s.toks (by simp[j]) ⟨h1,st.2.at λo e=>(T.2 a f).trans e⟩ λb o d e=>(T.2 b<|by simpa using d).trans e
 done:=λs Q E st c=>by
  have g:(n5 (w.params.setOrder a ep) es).size=es.size:=by have:=(mj (w.params.setOrder a ep) es).length_eq;simpa using this
  refine eR (slot:=0) m st.1 st.2 (λA E Q q=>kg d st.2 ?_) λh' k=>c h' s.toks λb o d e=>k b o (by simpa using d) e;rw[Ou<|by rw[g];exact u6 _];exact q
 self:=λ_ _ _ _ st c=>gv st.1 c
theorem tV{tt:c6}{ps:List Nat}(p:ps.Perm (A7 es.size))(y:A.handled=a8)(m:a≠it)(n:tt≠it):Walks prog w A it [it,a,tt] [it] es.size (λi v=>(ps.filterMap λj=>(es[j]?).map (·.2))[i]?=a7 v) (λi h=>h.get? it=a7 (eX (.ref tt) i es.size a ep)/\SetAt h a o es ep t/\h.IsTuple tt (ps.map λ(k:Nat)=>i9 k).toArray) where
 sub:=λb f=>by simp at f;simp[f]
 frame:=λ_ _ _ st g=>⟨g it (by simp) _ st.1,st.2.1.at λo e=>g a (by simp) o e,let ⟨o,e,r⟩:=st.2.2;⟨o,g tt (by simp) _ e,r⟩⟩
 item:=λi s Q E hi st d=>by
  have u:ps.length=es.size:=by have:=p.length_eq;simpa using this
  have l:∀j∈ps,j<es.size:=λj L=>by have:=p.mem_iff.mp L;simpa using this
  have L:ps[i]?=a7 ps[i]:=v9 (by lia);have c:ps[i]<es.size:=l _<|Ln _;have q:es[ps[i]]?=a7 es[ps[i]]:=Kn c;have x:(ps.filterMap λj=>(es[j]?).map (·.2))=ps.map λj=>(es.getD j default).2:=by
   clear L u p hi st d q c;induction ps with
   |nil=>rfl
   |cons j r z=>have L:=l j C9;rw[Me,Kn L,B8,<-z λk g=>l k<|A8 _ g];simp[La,L]
  refine xn st.1 st.2.2 st.2.1 L q λh' h1 T=>d _ h' s.toks ?_ ⟨h1,st.2.1.at λo e=>(T.2 a m).trans e,let ⟨o,e,r⟩:=st.2.2;⟨o,(T.2 tt n).trans e,r⟩⟩ λb o f e=>(T.2 b<|by simpa using f).trans e;rw[x,D5,L];simp[La,c]
 done:=λs Q E st d=>by
  have u:ps.length=es.size:=by have:=p.length_eq;simpa using this
  exact nN y st.1 st.2.2 st.2.1 (Mf<|by lia) λh' k=>d h' s.toks λb o f e=>k b o (by simpa using f) e
 self:=λ_ _ _ _ st d=>gv st.1 d
theorem kh(b:w.params.followText "set-order" = bt)(d:t.led=a9)(c:es.size<=1)(S:SetAt s.heap a o es ep t)(h:Q (match es[E5 t.place slot]?,t.place[E5 t.place slot]? with|some (_,x),a7 j=>a7 (x,j+1)|_,_=>a8) s):e8 (f7 prog w) A (setNext a slot i ep) Q E s:=by unfold setNext;refine r9<|Lo S.ob S.dt S.ft ?_;unfold setsByText;refine r9<|r9<|MX<|t6 ?_;simp only[f7,b,A4,p6];refine LM (λz=>?_) λ_=>?_;have F:(!t.plain&&decide (es.size > 1))=a9:=z;simp at F;lia;refine r9<|show e8 (f7 prog w) A (if (!t.led && !es.isEmpty)=a9 then unsupported _ else pure ()) _ _ s from ?_;rw[d];simp only[Lj,OU,A4,p6];exact t6<|t6 h
theorem tK(j k:Nat):E5 #[j] k=if j<k then 1 else 0:=by unfold E5;simp only[A3,B9,D3];unfold MY;simp only[Nat.zero_lt_succ,p7];by_cases h:j<k;simp[h,MY];simp[h,MY]
theorem wQ(d:w.params.followText "set-order" = bt)(c:t.led=a9)(g:es.size<=1)(r:A.handled=a8)(l:a≠it):Walks prog w A it [it,a] [it] es.size (λi v=>(es.toList.map (·.2))[i]?=a7 v) (λi h=>h.get? it=a7 (eX (i9 (if i=0 then 0 else t.place.getD 0 0+1:Nat)) i es.size a ep)/\SetAt h a o es ep t) where
 sub:=λb d=>by simp at d;simp[d]
 frame:=λ_ _ _ st n=>⟨n it (by simp) _ st.1,st.2.at λo e=>n a (by simp) o e⟩
 item:=λi s Q E hi st f=>by
  obtain rfl:i=0:=by lia
  have ps:t.place.size=1:=by have:=st.2.ft;simp[Nr]at this;lia
  obtain⟨j,L⟩:∃j,t.place = #[j]:=⟨t.place[0],by apply Array.ext (by simpa using ps);intro i h1 h2;simp at h2;subst h2;rfl⟩
  have m:es[0]?=a7 es[0]:=Kn hi;refine mK (slot:=0) (next:=j+1) (x:=es[0].2) st.1 st.2 (λA E Q q=>kh d c g st.2 ?_) λh' h1 T=>f _ h' s.toks ?_ ⟨?_,st.2.at λo e=>(T.2 a l).trans e⟩ λb o d e=>(T.2 b<|by simpa using d).trans e;rw[L,tK,o6<|LN _,m];exact q;rw[D5,G6,m];rfl;simpa [L]using h1
 done:=λs Q E st f=>by
  refine eR (slot:=if es.size=0 then 0 else t.place.getD 0 0+1) r st.1 st.2 (λA E Q q=>kh d c g st.2 ?_) λh' k=>f h' s.toks λb o d e=>k b o (by simpa using d) e;have ps:t.place.size=es.size:=by have:=st.2.ft;simp[Nr]at this;lia
  by_cases z:es.size=0;have:es = #[]:=Array.eq_empty_of_size_eq_zero z;subst this;simpa using q;obtain⟨j,L⟩:∃j,t.place = #[j]:=⟨t.place[0],by apply Array.ext (by simp;lia);intro i h1 h2;simp at h2;subst h2;rfl⟩
  have p:E5 t.place (if es.size=0 then 0 else t.place.getD 0 0+1)=1:=by rw[o6 z,L,tK];simp
  rw[p,Ou<|by lia];exact q
 self:=λ_ _ _ _ st f=>gv st.1 f
theorem ki(c:w.params.followText "set-order" = bt)(d:t.led=a9)(b:(!t.plain&&decide (es.size > 1))=bt)(S:SetAt s.heap a o es ep t)(h:Q (match es[E5 t.place slot]?,t.place[E5 t.place slot]? with|some (_,x),a7 j=>a7 (x,j+1)|_,_=>a8) s):e8 (f7 prog w) A (setNext a slot i ep) Q E s:=by unfold setNext;refine r9<|Lo S.ob S.dt S.ft ?_;unfold setsByText;refine r9<|r9<|MX<|t6 ?_;simp only[f7,c,A4,p6];refine LM (λz=>?_) λ_=>?_;have F:(!t.plain&&decide (es.size > 1))=a9:=z;rw[b]at F;cases F;refine r9<|show e8 (f7 prog w) A (if (!t.led && !es.isEmpty)=a9 then unsupported _ else pure ()) _ _ s from ?_;rw[d];simp only[Lj,OU,A4,p6];exact t6<|t6 h
theorem wR(d:w.params.followText "set-order" = bt)(c:t.led=a9)(j:(!t.plain&&decide (es.size > 1))=bt)(G:t.place.toList.Pairwise (· < ·))(I:A.handled=a8)(r:a≠it):Walks prog w A it [it,a] [it] es.size (λi v=>(es.toList.map (·.2))[i]?=a7 v) (λi h=>h.get? it=a7 (eX (i9 (if i=0 then 0 else t.place.getD (i-1) 0+1:Nat)) i es.size a ep)/\SetAt h a o es ep t):=by
 have l:∀i,i<=t.place.size->E5 t.place (if i=0 then 0 else t.place.getD (i-1) 0+1)=i:=λi hi=>by
  obtain⟨n,f,u⟩:=Ht.below_spec t.place G<|if i=0 then 0 else t.place.getD (i-1) 0+1;have m:∀a b (B:a<t.place.size) (d:b<t.place.size),a<b->t.place[a]<t.place[b]:=λa b B d h=>by have:=Ox.mp G a b (by simpa using B) (by simpa using d) h;simpa using this
  by_cases z:i=0;rw[o5 z]at n f u ⊢;rcases Nat.eq_zero_or_pos (E5 t.place 0)with q|q;rw[q,z];have:=f 0 (by lia) q;lia;rw[o6 z]at n f u ⊢;have p:i-1<t.place.size:=by lia
  have H:t.place.getD (i-1) 0=t.place[i-1]:=by simp[La,p]
  rw[H]at n f u ⊢;rcases Oj (E5 t.place<|t.place[i-1]+1) i with q|q|q;have:=u (i-1) p (by lia);lia;exact q;have:=f i (by lia) q;have:=m (i-1) i p (by lia) (by lia);lia
 exact {
  sub:=λb d=>by simp at d;simp[d]
  frame:=λ_ _ _ st D=>⟨D it (by simp) _ st.1,st.2.at λo e=>D a (by simp) o e⟩
  item:=λi s Q E hi st g=>by
   have ps:t.place.size=es.size:=by have:=st.2.ft;simp[Nr]at this;lia
   have F:i<t.place.size:=by lia
   have C:es[i]?=a7 es[i]:=Kn hi;have y:t.place[i]?=a7 t.place[i]:=Kn F;refine mK (next:=t.place[i]+1) (x:=es[i].2) st.1 st.2 (λA E Q q=>ki d c j st.2 ?_) λh' h1 T=>g _ h' s.toks ?_ ⟨?_,st.2.at λo e=>(T.2 a r).trans e⟩ λb o d e=>(T.2 b<|by simpa using d).trans e;rw[l i (by lia),C,y];exact q;rw[D5,G6,C];rfl;rw[o6<|Nat.succ_ne_zero i,Pe,show t.place.getD i 0=t.place[i] by simp[La,F]];exact h1
  done:=λs Q E st g=>by
   have ps:t.place.size=es.size:=by have:=st.2.ft;simp[Nr]at this;lia
   refine eR I st.1 st.2 (λA E Q q=>ki d c j st.2 ?_) λh' k=>g h' s.toks λb o d e=>k b o (by simpa using d) e;rw[l es.size (by lia),Ou<|u6 _];exact q
  self:=λ_ _ _ _ st g=>gv st.1 g }
end
section
variable{prog:c5}{w:c3}{A:d8}{E:b7->d9->Prop}{s:d9}{a:c6}{o:c7}{es:Array (Int×b7)}{ep:Nat}{t:n6}
theorem Cn(S:SetAt s.heap a o es ep t)(C:o.cls=.type "set")(y:t.plain=a9->es.size<=1\/t.place.toList.Pairwise (· < ·))(k:t.led = !w.params.followText "set-order")(hz:es.size<=sizeLine)(h:∀(it:c6) (h':c8) (d:Drawn) (vs:List b7) (fp:List c6) (St:Nat->c8->Prop),(∀b o,s.heap.get? b=a7 o->h'.get? b=a7 o)->vs.Perm (es.toList.map (·.2))->s.heap.objs.size<=it->it<h'.objs.size->(∀b∈fp,b=a\/s.heap.objs.size<=b/\b<h'.objs.size) -> (∀A':d8,A'.handled=a8->Walks prog w A' it fp [it] es.size (λi v=>vs[i]?=a7 v) St)->St 0 h'->Q (.ref it) { s with heap:=h',drawn:=d }):e8 (f7 prog w) A (i8<|.ref a) Q E s:=by
 have T:s.TypeIs (.ref a) "set":=⟨o,S.ob,C⟩
 have u:a<s.heap.objs.size:=x3 S.ob;refine O8 T F.slot_set_iter<|Ks F.slot_set_iter T qc ?_<|F.args_set_iter_1 _;unfold Builtin.«frozenset.__iter__»;refine r9<|show e8 (f7 prog w) _ (pure a) _ _ s from t6 ?_;unfold Builtin.Frozenset.sizeOf;refine r9<|r9<|Op S.ob S.dt S.ft<|t6 ?_;unfold setDrawn;refine r9<|r9<|Lo S.ob S.dt S.ft ?_;unfold setsByText;refine r9<|r9<|MX<|t6<|t6 ?_;by_cases r:(!w.params.followText "set-order" && (!t.plain&&decide (es.size > 1)))=a9;refine LM (λ_=>?_) λz=>o7 r z;refine r9<|sV _ _ _ _ (by simp) λps d x=>?_;refine r9<|show e8 (f7 prog w) _ (newObj (.type "tuple")<|.seq (ps.map λ(i:Nat)=>i9 i).toArray) _ _ _ from J6 ?_ (by have e:=x.length_eq;rw[Mc]at e;show (ps.map λ(i:Nat)=>i9 i).toArray.size<=sizeLine;rw[A3,u8,e];exact hz);have g:=S.at (h':=s.heap.push { cls:=.type "tuple",data:=.seq (ps.map λ(i:Nat)=>i9 i).toArray }) λo e=>w6 _ e;refine r9<|wpAny_setEpoch_of (s:={ s with heap:=_,drawn:=d }) g.ob g.dt g.ft ?_;refine r9 (show e8 (f7 prog w) _ (newObj (.type "set_iterator")<|.fields #[.ref s.heap.objs.size,i9 0,.ref a,i9 es.size,i9 ep]) _ _ _ from J6 ?_<|by size_fits);refine t6 ⟨_,rfl,"set_iterator",_,⟨_,A9 _ rfl,rfl⟩,bb.lookup,?_⟩;have p:(s.heap.push { cls:=.type "tuple",data:=.seq (ps.map λ(i:Nat)=>i9 i).toArray }).objs.size=s.heap.objs.size+1:=K6 ..;refine h _ _ d (ps.filterMap λj=>(es[j]?).map (·.2)) _ _ (λb o e=>w6 _<|w6 _ e) ?_ (by show s.heap.objs.size<=(s.heap.push _).objs.size;rw[p];exact Nm _) (by show _<((s.heap.push _).push _).objs.size;rw[K6 (h:=s.heap.push _)];exact Kw _) ?_ (λA' m=>tV (o:=o) (t:=t) (ep:=ep) x m (x9<|by rw[p];exact Mw u)<|x9<|by rw[p];exact Kw _) ⟨A9 _ rfl,g.at λo e=>w6 _ e,⟨_,w6 _<|A9 _ rfl,rfl,_,rfl⟩⟩;refine(x.filterMap _).trans ?_;have B:(A7 es.size).filterMap (λj=>(es[j]?).map (·.2))=((A7 es.size).filterMap λj=>es[j]?).map (·.2):=by rw[List.map_filterMap]
 rw[B,filterMap_getElem?_range];intro b c;rw[K6,p];rcases A0.mp c with rfl|c;exact .inr ⟨by rw[p];exact Nm _,by rw[p];exact Kw _⟩;rcases A0.mp c with rfl|c;exact .inl rfl;rw[J7.mp c];exact .inr ⟨u6 _,Mw<|Kw _⟩;refine LM (λz=>o7 z r) λ_=>?_;refine r9<|t6<|r9<|wpAny_setEpoch_of S.ob S.dt S.ft ?_;refine r9 (show e8 (f7 prog w) _ (newObj (.type "set_iterator")<|.fields #[i9 0,i9 0,.ref a,i9 es.size,i9 ep]) _ _ _ from J6 ?_<|by size_fits);refine t6 ⟨_,rfl,"set_iterator",_,⟨_,A9 _ rfl,rfl⟩,bb.lookup,?_⟩;have g:=S.at (h':=s.heap.push<|eX (i9 0) 0 es.size a ep) λo e=>w6 _ e;have l:∀b∈[s.heap.objs.size,a],b=a\/s.heap.objs.size<=b/\b<(s.heap.push<|eX (i9 0) 0 es.size a ep).objs.size:=λb c=>by rcases A0.mp c with rfl|c;exact .inr ⟨u6 _,by rw[K6];exact Kw _⟩;exact .inl<|J7.mp c
 by_cases c:w.params.followText "set-order" = a9;refine h _ _ s.drawn ((n5 (w.params.setOrder a ep) es).toList.map (·.2)) _ _ (λb o e=>w6 _ e) ((mj _ es).map _) (u6 _) (by rw[K6];exact Kw _) l (λA' m=>wP (o:=o) (t:=t) (ep:=ep) c m<|x9 u) ⟨A9 _ rfl,g⟩;have f:w.params.followText "set-order" = bt:=by simpa using c
 have n:(!t.plain&&decide (es.size > 1))=bt:=by rw[f]at r;simpa using r
 have ah:es.size<=1\/t.place.toList.Pairwise (· < ·):=by by_cases q:t.plain=a9;exact y q;simp[q]at n;exact .inl n
 rcases ah with h1|D;refine h _ _ s.drawn (es.toList.map (·.2)) _ _ (λb o e=>w6 _ e) (Nu _) (u6 _) (by rw[K6];exact Kw _) l (λA' m=>wQ (o:=o) (t:=t) (ep:=ep) f (by rw[k,f];rfl) h1 m<|x9 u) ⟨?_,g⟩;rw[o5 rfl];exact A9 _ rfl;refine h _ _ s.drawn (es.toList.map (·.2)) _ _ (λb o e=>w6 _ e) (Nu _) (u6 _) (by rw[K6];exact Kw _) l (λA' m=>wR (o:=o) (t:=t) (ep:=ep) f (by rw[k,f];rfl) n D m<|x9 u) ⟨?_,g⟩;rw[o5 rfl];exact A9 _ rfl
end
end L2
namespace L2
open PySem PySem.Spec PyProof.Rows DL PySem.W PySem.Calls PyProof.V
section
variable{prog:c5}{w:c3}{A:d8}{E:b7->d9->Prop}{s:d9}{a:c6}{o:c7}{es:Array (Int×b7)}{ep:Nat}{t:n6}
theorem Cv(m:s.TypeIs (.ref a) "set")(h:Q bt s):e8 (f7 prog w) A (Qs<|.ref a) Q E s:=by
 unfold Qs;refine r9<|L8 m F.slot_set_len.lookup ?_;generalize hi:("set.__len__":String)=t
 wp_delta
 rw[show splitId t=a7 ("set","__len__") by rw[<-hi];decide +kernel];rw[<-hi];refine r9<|MW (T:="set") (b:=a9) m sub_set_self<|LM (λz=>o7 z<|by decide) λ_=>LM (λ_=>r9<|Mq m<|t6 h) λz=>o7 (by decide +kernel) z
theorem xI{R:Result->d9->Prop}(N:A.handled=a8)(S:SetAt s.heap a o es ep t)(B:o.cls=.type "set")(G:t.plain=a9->es.size<=1\/t.place.toList.Pairwise (· < ·))(v:t.led = !w.params.followText "set-order")(hz:es.size<=sizeLine){D:c6}{c₀:Nat} (p:D≠a) (L:s.heap.get? D=a7 { cls:=.type "list",data:=.seq #[] c₀ }) (res:b7)(Y:∀h' tk d vs c,(∀b u,b≠D->s.heap.get? b=a7 u->h'.get? b=a7 u)->h'.get? D=a7 { cls:=.type "list",data:=.seq vs c }->vs.toList.Perm (es.toList.map (·.2))->R (.ok<|.ret res) { s with heap:=h',toks:=tk,drawn:=d }):e8 (f7 prog w) A.in1 (Qr (.ref D) (.ref a) res)
   (λfin s'=>match fin with|.done f=>R (.ok f) s'|.again c'=>c'.quiet=a9/\j6 (f7 prog w) A c' R s') (λe s'=>R (.error e) s') s:=by
 have ld:D<s.heap.objs.size:=x3 L;have Z:s.TypeIs (.ref a) "set":=⟨o,S.ob,B⟩
 unfold Qr;refine r9<|Mq Z ?_;have Q:Builtin.List.listSameRef (.ref D) (.ref a)=bt:=by simp[Builtin.List.listSameRef,p]
 have T:(MM "set" == MM "list")=bt:=by decide
 have U:(MM "set" == MM "tuple")=bt:=by decide
 simp only[Q,T,U,Bool.or_false,A4,p6];refine r9<|Cn S B G v hz λit h1 d vs X St H pv I ab C W st=>?_;have M:D∉X:=λz=>by
  rcases C D z with e|⟨e,_⟩
  exact p e;exact o7 ld<|LF.mpr e
 have lv:vs.length=es.size:=by have:=pv.length_eq;simpa using this
 have K:∀(h:c8) (g:Nat),St 0 h->(∀b u,b≠D->h1.get? b=a7 u->h.get? b=a7 u)->h.get? D=a7 { cls:=.type "list",data:=.seq #[] g } -> j6 (f7 prog w) A (.builtin "list.extend.loop" ⟨[.ref D,.ref it,res],[]⟩) R { s with heap:=h,drawn:=d }:=λh g J kk y=>by
  refine codeAny_extend_loopS (W A.in1<|by simp[N]).toS hz D M res es.size 0 _ #[] g rfl (z5 _) J y (ItemsOf.nil _) λs' acc c' O m j=>?_;rw[Moved.eq_with O];have V:acc.toList=vs:=by
   apply List.ext_getElem?;intro i;by_cases hi:i<es.size;have E:i<acc.size:=by rw[j.1];exact hi
   have h1:acc[i]?=a7 acc[i]:=Kn E;rw[G6,h1];exact(j.2 i _ h1).symm;rw[Mf (by rw[D7,j.1];lia),Mf<|by lia]
  refine Y s'.heap s'.toks d acc c' (λb u k e=>O.heap b u (λz=>?_)<|kk b u k<|H b u e) m (by rw[V];exact pv);rcases A0.mp z with P|z;exact k P;rw[J7.mp z]at e;exact o7 (x3 e)<|LF.mpr I
 have l:=H _ _ L;refine r9<|E4<|Cv (s:={ s with heap:=h1,drawn:=d }) ⟨o,H _ _ S.ob,B⟩ ?_;refine LM (λz=>?_) λ_=>t6 ⟨MQ F.plain_extend_loop _,K h1 c₀ st (λ_ _ _ e=>e) l⟩;refine r9 (KA (r9 (show e8 (f7 prog w) _ (updateSeq D (·.push .none) >>= λ_=>updateSeq D (·.pop)) _ _ _ from r9<|wpAny_updateSeq l rfl ?_)));have n:=KI (KM (·.push ABh)) l rfl;refine wpAny_updateSeq (hz:=by seq_fits) n rfl ?_;have x:=KI (KM (·.pop)) n rfl;have r:∀b,b≠D->((h1.update D (KM (·.push ABh))).update D (KM (·.pop))).get? b=h1.get? b:=λb k=>by rw[NF _ _<|D2 k,NF _ _<|D2 k]
 refine t6 ⟨MQ F.plain_extend_loop _,K _ _ ((W A N).frame 0 _ _ st λb k u e=>(r b λq=>M<|q ▸ k).trans e) (λb u k e=>(r b k).trans e) x⟩
theorem wY{Q:b7->d9->Prop}(I:A.handled=a8)(S:SetAt s.heap a o es ep t)(H:o.cls=.type "set")(y:t.plain=a9->es.size<=1\/t.place.toList.Pairwise (· < ·))(j:t.led = !w.params.followText "set-order")(hz:es.size<=sizeLine)(h:∀h' tk d D (vs:List b7),(∀b u,s.heap.get? b=a7 u->h'.get? b=a7 u)->s.heap.get? D=a8->h'.get? D=a7 { cls:=.type "list",data:=.seq vs.toArray }->vs.Perm (es.toList.map (·.2)) -> e8 (f7 prog w) A.in1 (call (.builtin "list.sort") [.ref D]) (λ_ s'=>Q (.ref D) s') E { s with heap:=h',toks:=tk,drawn:=d }):e8 (f7 prog w) A (call (.builtin "sorted") [.ref a]) Q E s:=by
 have J:a<s.heap.objs.size:=x3 S.ob;refine call_function_entry kind_sorted plain_sorted entry_sorted (args_sorted1 _) ?_;unfold Builtin.«sorted»;refine r9 (m:=checkCount "sorted" 1 1 _)<|t6 ?_;unfold collect;refine r9<|r9<|wpAny_runValue<|L6 F.entry_proto_collect ?_;rw[Na F.plain_proto_collect _];refine(show e8 (f7 prog w) _ (newList [] >>= λl=>again<|.builtin "list.__iadd__" ⟨[l,.ref a],[]⟩) _ _ s from r9<|J6<|t6 ⟨MQ F.plain_list_iadd _,L6 F.entry_list_iadd ?_⟩);rw[Na F.plain_list_iadd _];have G:=S.at (h':=s.heap.push { cls:=.type "list",data:=.seq ([]:List b7).toArray }) λo e=>w6 _ e;have B:=xI (prog:=prog) (A:=A.in1) (s:={ s with heap:=s.heap.push { cls:=.type "list",data:=.seq ([]:List b7).toArray } }) (D:=s.heap.objs.size) (c₀:=0) (res:=.ref s.heap.objs.size) (R:=λr s'=>∃h' tk d vs c,r=.ok (.ret<|.ref s.heap.objs.size)/\s'={ s with heap:=h',toks:=tk,drawn:=d }/\(∀b u,s.heap.get? b=a7 u->h'.get? b=a7 u)/\h'.get? s.heap.objs.size=a7 { cls:=.type "list",data:=.seq vs c }/\vs.toList.Perm (es.toList.map (·.2))) (by simp[I]) G H y j hz (Nat.ne_of_gt J) (A9 _ rfl) λh' tk d vs c k g p=>⟨h',tk,d,vs,c,rfl,rfl,λb u e=>k b u (x9<|x3 e)<|w6 _ e,g,p⟩
 have i:∀h' tk d (vs:Array b7) c,(∀b u,s.heap.get? b=a7 u->h'.get? b=a7 u)->h'.get? s.heap.objs.size=a7 { cls:=.type "list",data:=.seq vs c }->vs.toList.Perm (es.toList.map (·.2)) -> e8 (f7 prog w) A.in1 (do let ob <-load s.heap.objs.size;match ob.data with|.seq xs _=>pure xs.toList|_=>unsupported "internal:collect":Sem (List b7)) (λxs s'=>e8 (f7 prog w) A.in1 (do let l <-newList xs;let _ <-g8 [l] (call (.builtin "list.sort") [l] []);ret l) (λn s'=>∃v,n=Fin.done (Flow.ret v)/\Q v s') E s') E { s with heap:=h',toks:=tk,drawn:=d }:=λh' tk d vs c C g p=>by
  refine r9 (wpAny_load g<|t6<|r9<|wpAny_newList ?_<|by rw[p.length_eq];simpa using hz);have K:s.heap.objs.size<h'.objs.size:=x3 g;refine r9<|E4<|E1 (h (h'.push { cls:=.type "list",data:=.seq vs.toList.toArray }) tk d h'.objs.size vs.toList (λb u e=>w6 _<|C b u e) ?_ (A9 _ rfl) p) (λ_ s' q=>t6 ⟨_,rfl,q⟩) λ_ _ z=>z;cases q:s.heap.get? h'.objs.size with
  |none=>rfl
  |some o'=>exact o7 (x3<|C _ _ q)<|G4 _
 refine E1 B (λn s' x=>?_) λe s' ⟨_,_,_,_,_,z,_⟩=>by cases z
 cases n with
 |done f=>obtain⟨h',tk,d,vs,c,z,rfl,C,g,p⟩:=x;cases z;exact i h' tk d vs c C g p
 |again c'=>refine⟨x.1,LY x.2 ?_⟩;rintro r L ⟨h',tk,d,vs,c,z,e,C,g,p⟩;subst z e;exact i h' tk d vs c C g p
end
end L2
namespace L2
open PySem PySem.Spec PyProof.Rows DL PySem.W
section
variable{X:Cx}{e:f6}{te:v5}{p p' pos pos':f8}{k:Nat}
theorem t4.drew(I:t4 X pins σ H s):t4 X pins σ H { s with drawn:=d }:=⟨I.ok,I.os,I.bare,I.base,I.loc,I.cell,I.free,I.freeC,I.pin,I.hok,I.len⟩
end
end L2
namespace L2
open PySem PySem.Spec PyProof.Rows DL PySem.Builtin PySem.Builtin.Str PySem.StrLaws
theorem Ay(a b B:Nat):strSliceIndices (a7 (a:Int)) (a7 (b:Int)) 1 B=strSliceIndices (a7 ((min a B:Nat):Int)) (a7 ((min b B:Nat):Int)) 1 B:=by
 have e:∀i:Nat,max (0:Int) (min (i:Int) (B:Int))=max (0:Int) (min ((min i B:Nat):Int) (B:Int)):=λi=>by lia
 have n:∀i:Nat,¬((i:Int)<0):=λi=>by lia
 simp only[strSliceIndices,n,p6,show ((1:Int) > 0)=True by simp,p7];rw[e a,e b]
theorem eJ(x:b9)(l u:Option Int):(Kv x l u).cps.toList=if (strSliceIndices l u 1 x.length).length=x.length then x.cps.toList else(strSliceIndices l u 1 x.length).filterMap (x.cps[·]?):=by unfold Kv;by_cases h:(strSliceIndices l u 1 x.length).length=x.length;rw[o5 (by simp[h]),o5 h];rw[o6 (by simp[h]),o6 h]
theorem rS(x:b9){a b:Nat}(U:a<=b):(Kv x (a7 (a:Int))<|a7 (b:Int)).cps.toList=(x.cps.toList.drop a).take (b-a):=by
 have d:min a x.length<=min b x.length:=by lia
 have l:(strSliceIndices (a7 ((min a x.length:Nat):Int)) (a7 ((min b x.length:Nat):Int)) 1 x.length).filterMap (x.cps[·]?)=(x.cps.toList.drop<|min a x.length).take (min b x.length-min a x.length):=sliced_plain x d<|Nat.min_le_right ..;have S:=bT (a:=x);have n:(x.cps.toList.drop<|min a x.length).take (min b x.length-min a x.length)=(x.cps.toList.drop a).take (b-a):=by by_cases f:a<=x.length;rw[Nat.min_eq_left f];by_cases c:b<=x.length;rw[Nat.min_eq_left c];rw[Nat.min_eq_right (by lia),NC (by rw[KD];lia),NC<|by rw[KD];lia];rw[List.drop_eq_nil_of_le (i:=a) (by lia),List.drop_eq_nil_of_le (i:=min a x.length)<|by lia];simp
 rw[eJ,Ay,l,n];split;rename_i h;rw[strSliceIndices_plain d<|Nat.min_le_right ..]at h;simp only[u8,Mc]at h;have e:min a x.length=0:=by lia
 by_cases g:x.length=0;have:x.cps.toList=[]:=List.eq_nil_of_length_eq_zero (by lia);rw[this];simp;have:a=0:=by lia
 subst this;rw[List.drop_zero,NC<|by lia];rfl
noncomputable def fT(l:List Nat)(c:Nat):List Nat:=(A7 l.length).filter λi=>l[i]?==a7 c
theorem zn(x:b9)(c:Nat):occurrences x ⟨#[c]⟩ 0 x.length (x.length+1)=fT x.cps.toList c:=by
 have S:=bT (a:=x);rw[occ_eq];have o:∀(k m:Nat) (st:Array Nat×Nat),m+k=x.length+1->st.1.toList=(A7 m).filter (λi=>x.cps.toList[i]?==a7 c)->st.2<=m -> (forIn (Mo m k) st<|occBody x ⟨#[c]⟩ x.length<|x.length+1).run.fst.toList=(A7<|m+k).filter (λi=>x.cps.toList[i]?==a7 c):=by
  intro k;induction k with
  |zero=>intro m st e h1 h2;exact h1
  |succ k b =>
   intro m st e h1 h2;rw[List.range'_succ,List.forIn_cons];unfold occBody;have hs:st.1.size<=m:=by have:=p8 KB h1;rw[D7]at this;have l:=KZ (λi=>x.cps.toList[i]?==a7 c)<|A7 m;rw[Mc]at l;lia
   have y:=subAt_one x c m;have r:(A7<|m+1).filter (λi=>x.cps.toList[i]?==a7 c)=(A7 m).filter (λi=>x.cps.toList[i]?==a7 c)++if x.cps.toList[m]?=a7 c then[m]else[]:=by rw[List.range_succ,Pd];congr 1;by_cases z:x.cps.toList[m]?=a7 c;rw[List.filter_cons_of_pos (by rw[p5];exact z),o5 z];rfl;rw[Qd (by rw[p5];exact z),o6 z];rfl
   by_cases z:x.cps.toList[m]?=a7 c;obtain⟨C,B⟩:=y.mpr z;rw[o5 ⟨⟨⟨by lia,h2⟩,C⟩,B⟩];rw[o5 z]at r;have:=b (m+1) (st.1.push m,m+(⟨#[c]⟩:b9).length) (by lia) (by rw[Oi,h1,r])<|show m+1<=m+1 from u6 _;rw[show m+(k+1)=m+1+k by lia];exact this;rw[o6 λh=>z<|y.mp ⟨h.1.2,h.2⟩];rw[o6 z,KO]at r;have:=b (m+1) (st.1,st.2) (by lia) (by rw[h1,r]) (by show st.2<=m+1;lia);rw[show m+(k+1)=m+1+k by lia];exact this
 have:=o (x.length+1) 0 (#[],0) (by lia) rfl<|u6 _;rw[show x.length+1-0=x.length+1 by lia,this];unfold fT;rw[<-S,Nat.zero_add,List.range_succ,Pd];have:x.cps.toList[x.length]?=a8:=Mf (by lia);rw[Qd (by rw[p5,this];simp),List.filter_nil,KO]
theorem wX(x:b9)(c:Nat)(f:c<256):∀y,y∈(Kq x ⟨#[c]⟩).drop 1↔∃k i j,(fT x.cps.toList c)[k]?=a7 i/\(fT x.cps.toList c++[x.cps.toList.length])[k+1]?=a7 j/\y=strSub x (i+1) j:=by
 intro y;have S:=bT (a:=x);unfold Kq;have a8:fT x.cps.toList c=[]->(y∈([x]:List b9).drop 1↔∃k i j,(fT x.cps.toList c)[k]?=a7 i/\(fT x.cps.toList c++[x.cps.toList.length])[k+1]?=a7 j/\y=strSub x (i+1) j):=λe=>by rw[e];simp
 by_cases h1:(decide (x.length<(⟨#[c]⟩:b9).length)||decide (My x<My ⟨#[c]⟩))=a9;rw[o5 h1];apply a8;rw[cL]at h1;have C:My (⟨#[c]⟩:b9)=1:=by simp[My,f]
 have B:1<=My x:=by unfold My;split<;>(try split)<;>lia
 have:x.length=0:=by rw[C]at h1;simp only[OZ,o8]at h1;lia
 unfold fT;rw[<-S,this];rfl;rw[o6 h1,zn];by_cases h2:(fT x.cps.toList c).isEmpty=a9;rw[o5 h2];exact a8<|List.isEmpty_iff.mp h2;rw[o6 h2];unfold partsBetween;rw[cL,<-N7];have e:((0::(fT x.cps.toList c).map (· + 1)).zip<|fT x.cps.toList c++[x.length]).drop 1=((fT x.cps.toList c).map (· + 1)).zip ((fT x.cps.toList c++[x.cps.toList.length]).drop 1):=by
  cases q:fT x.cps.toList c with
  |nil=>rw[q]at h2;exact o7 rfl h2
  |cons a r=>rw[S];rfl
 rw[e,w9];constructor;rintro⟨⟨i,j⟩,hm,rfl⟩;obtain⟨k,h⟩:=Lc hm;obtain⟨F,b⟩:=List.getElem?_zip_eq_some.mp h;rw[D5]at F;cases q:(fT x.cps.toList c)[k]? with
 |none=>rw[q]at F;cases F
 |some i'=>rw[q]at F;have:i'+1=i:=B5 F;subst this;rw[Nz,Nat.add_comm]at b;exact⟨k,i',j,q,b,rfl⟩
 rintro⟨k,i,j,h1,h2,rfl⟩;refine⟨(i+1,j),?_,rfl⟩;have:(((fT x.cps.toList c).map (· + 1)).zip<|(fT x.cps.toList c++[x.cps.toList.length]).drop 1)[k]?=a7 (i+1,j):=by rw[List.getElem?_zip_eq_some];refine⟨by rw[D5,h1];rfl,?_⟩;rw[Nz,Nat.add_comm];exact h2
 exact J1 this
end L2
namespace L2
open PySem PySem.Spec PyProof.Rows DL PySem.W
section
variable{X:Cx}
def GH:E9:=λx y M Q=>match x,y with
 |.int i,.int j=>CPow i j/\Q (.int<|i ^ j.toNat) M
 |_,_=>False
theorem Il:F5 X (j1 .Pow) GH:=by refine C6.imp HZ ?_;rintro e f H R ⟨x,y,M,ρ,Q,m,r,l,q,k⟩;unfold GH at q;split at q;cases r;cases l;exact⟨_,_,rfl,rfl,q.1,k _ H<|VQ.now m (.int _) q.2⟩;exact q.elim
theorem Jk:F6 X (j1 .Pow) GH:=⟨Il⟩
def mf(z:b9):B7:=λds M Q=>match ds with
 | [.str y]=>∃i aF,NG z y 0 z.length 1=i::aF/\Q (.int (i:Nat)) M
 |_=>False
theorem BR:H9 X "str.index" (zx X.K mf):=by
 rintro p s σ H x xs v us R I g a ⟨z,ds,M,ρ,Q,c,m,d,q,k⟩;subst c;obtain⟨t,rfl⟩:=g;unfold mf at q;split at q;obtain⟨i,aF,B,q⟩:=q
 first|have h:=Reps.inv_cons d|have h:=ar.inv_cons d
 clear d;obtain⟨_,_,rfl,r,d⟩:=h;cases d;cases r;obtain⟨u,rfl,t',rfl⟩:=ar.one a;exact call_gives F.slot_str_index (ML _ _ _) F.entry_str_index (F.args_str_index_2 _ _) (gives_str_index _ _ _ _ i aF B) ⟨.int _,H,I.tok _,⟨_,rfl⟩,k _ H<|VQ.now m (.int _) q⟩;exact q.elim
theorem Cu:OK X "index" mf:=⟨_,PySem.F.slot_str_index,PySem.F.type_str_index,BR⟩
end
end L2
namespace Ht
open PySem
def Lf(ow:Array (Option Nat))(s:Nat):Prop:=∃i,ow[s]?=a7 (a7 i)
theorem getD_none(hs:s<ow.size):(ow.getD s<|a7 0).isNone=a9↔¬Lf ow s:=by
 have e:ow[s]?=a7 ow[s]:=Kn hs;have l:ow.getD s (a7 0)=ow[s]:=by simp[La,hs]
 rw[l];unfold Lf;rw[e];cases ow[s]<;>simp
theorem Aj(hz:ow.size=m+1)(h:Int):∀(fuel k0 k:Nat),k0<=k->k<k0+fuel->¬Lf ow (eK m h k).1->(∀n,n<fh m h k0->Lf ow (sq m h n).j) ->∃N,Pm m ow fuel (eK m h k0).1 (eK m h k0).2=a7 (sq m h N).j/\¬Lf ow (sq m h N).j/\∀n,n<N->Lf ow (sq m h n).j:=by
 intro fuel;induction fuel with
 |zero=>intro k0 k h1 h2;lia
 |succ fuel l =>
  intro k0 k h1 h2 c d;have p:=uc m h k0;have u:J5 m (eK m h k0).1<=m/\(eK m h k0).1<=J5 m (eK m h k0).1:=by unfold J5;split<;>lia
  unfold Pm;cases f:(A7<|J5 m (eK m h k0).1+1-(eK m h k0).1).find? λk=>(ow.getD ((eK m h k0).1+k)<|a7 0).isNone with
  |some r =>
   have i:=MT f;have b:=Qi f;rw[J0]at b;refine⟨fh m h k0+r,by rw[yP m h k0 r<|by lia],?_,λn g=>?_⟩;rw[yP m h k0 r<|by lia];exact(getD_none<|by lia).mp i;rcases KR n (fh m h k0)with q|q;exact d n q;obtain⟨r',rfl⟩:∃r',n=fh m h k0+r':=⟨n-fh m h k0,by lia⟩
   rw[yP m h k0 r'<|by lia];refine Mg λo=>?_;have t:r' < r:=by lia
   have z:=(getD_none (ow:=ow) (s:=(eK m h k0).1+r')<|by lia).mpr o;have:=List.find?_range_eq_some.mp f;have:=this.2.2 r' t;rw[z]at this;exact o7 this<|by simp
  |none =>
   have a:∀r,r<=J5 m (eK m h k0).1-(eK m h k0).1->Lf ow ((eK m h k0).1+r):=λr i=>by refine Mg λo=>?_;have z:=(getD_none (ow:=ow) (s:=(eK m h k0).1+r)<|by lia).mpr o;have:=List.find?_eq_none.mp f r (J0.mpr<|by lia);exact this z
   have v:k0≠k:=λe=>by subst e;exact c<|a 0<|z5 _
   refine l (k0+1) k (by lia) (by lia) c λn g=>?_;unfold fh at g;rcases KR n (fh m h k0)with q|q;exact d n q;obtain⟨r',rfl⟩:∃r',n=fh m h k0+r':=⟨n-fh m h k0,by lia⟩
   rw[yP m h k0 r'<|by lia];exact a r'<|by lia
structure Laid(m:Nat)(hs:List Int)(ow:Array (Option Nat))(k:Nat):Prop where
 sz:ow.size=m+1
 lt:∀s i:Nat,ow[s]?=a7 (a7 i)->i<k
 inj:∀s s' i:Nat,ow[s]?=a7 (a7 i)->ow[s']?=a7 (a7 i)->s=s'
 all:∀i:Nat,i<k->∃s:Nat,ow[s]?=a7 (a7 i)
 path:∀(s i:Nat) (h:Int),ow[s]?=a7 (a7 i)->hs[i]?=a7 h->∃n,(sq m h n).j=s/\∀n',n' < n->Lf ow (sq m h n').j
theorem Laid.room(L:Laid m hs ow k)(q:k<=m):∃s,s<=m/\¬Lf ow s:=by
 refine Mg λh=>?_;have c:∀s,s<=m->Lf ow s:=λs hs=>Mg λz=>h ⟨s,hs,z⟩;have d:∀s,s∈A7 (m+1)->((ow.getD s a8).getD 0)∈A7 k:=λs u=>by
  obtain⟨i,e⟩:=c s (by have:=J0.mp u;lia);have:ow.getD s a8=a7 i:=by obtain⟨g,z⟩:=LA.mp e;simp[La,g,z]
  rw[this];exact J0.mpr<|L.lt s i e
 have p:((A7<|m+1).map λs=>(ow.getD s a8).getD 0).Nodup:=by
  rw[Mz,Oh];have base:=O3 (n:=m+1);rw[Mz]at base;refine base.imp_of_mem λ{a b} ha hb hne e=>hne ?_;obtain⟨i,f⟩:=c a (by have:=J0.mp ha;lia);obtain⟨j,B⟩:=c b (by have:=J0.mp hb;lia);have t:ow.getD a a8=a7 i:=by obtain⟨g,z⟩:=LA.mp f;simp[La,g,z]
  have l:ow.getD b a8=a7 j:=by obtain⟨g,z⟩:=LA.mp B;simp[La,g,z]
  rw[t,l]at e;have:i=j:=e;subst this;exact L.inj a b i f B
 have:=L2.nodup_le _ (A7 k) p λx o=>by obtain⟨s,u,rfl⟩:=w9.mp o;exact d s u
 rw[u8,Mc,Mc]at this;lia
theorem Laid.step(D:nT m)(L:Laid m hs ow k)(B:k<=m)(A:hs[k]?=a7 h):∃j,Pm m ow (Nt m) (Lw h % (m+1)) (Lw h)=a7 j/\Laid m hs (ow.setIfInBounds j<|a7 k) (k+1):=by
 obtain⟨s,g,l⟩:=L.room B;obtain⟨H,C,e⟩:=DP D h g;obtain⟨N,x,M,y⟩:=Aj L.sz h (Nt m) 0 H (z5 _) (by unfold Nt;lia) (by rw[e];exact l) λn E=>o7 E<|LN _;refine⟨(sq m h N).j,x,?_⟩;have G:(sq m h N).j<ow.size:=by have:=yO (m:=m) h N;rw[L.sz];lia
 have a:(ow.setIfInBounds (sq m h N).j<|a7 k)[(sq m h N).j]?=a7 (a7 k):=by rw[Array.getElem?_setIfInBounds_self_of_lt G]
 have r:∀s,s≠(sq m h N).j->(ow.setIfInBounds (sq m h N).j<|a7 k)[s]?=ow[s]?:=λs f=>Array.getElem?_setIfInBounds_ne<|D2 f;have w:∀s,Lf ow s->Lf (ow.setIfInBounds (sq m h N).j<|a7 k) s:=λs ⟨i,z⟩=>by by_cases q:s=(sq m h N).j;subst q;exact⟨k,a⟩;exact⟨i,by rw[r s q];exact z⟩
 have d:∀s i,(ow.setIfInBounds (sq m h N).j<|a7 k)[s]?=a7 (a7 i)->(s=(sq m h N).j/\i=k)\/(s≠(sq m h N).j/\ow[s]?=a7 (a7 i)):=λs i z=>by by_cases q:s=(sq m h N).j;subst q;rw[a]at z;cases z;exact .inl ⟨rfl,rfl⟩;rw[r s q]at z;exact .inr ⟨q,z⟩
 refine⟨by rw[Array.size_setIfInBounds];exact L.sz,λs i z=>?_,λs s' i z F=>?_,λi hi=>?_,λs i h' z b=>?_⟩;rcases d s i z with⟨_,e⟩|⟨_,z⟩
 lia;have:=L.lt s i z;lia;rcases d s i z with⟨t,p⟩|⟨_,z⟩
 rcases d s' i F with⟨R,_⟩|⟨_,F⟩
 rw[t,R];have:=L.lt s' i F;lia;rcases d s' i F with⟨_,I⟩|⟨_,F⟩
 have:=L.lt s i z;lia;exact L.inj s s' i z F;by_cases q:i=k;subst q;exact⟨_,a⟩;obtain⟨s,z⟩:=L.all i (by lia);refine⟨s,?_⟩;rw[r s λe=>M ⟨i,by rw[<-e];exact z⟩];exact z;rcases d s i z with⟨t,p⟩|⟨_,z⟩
 subst t p;rw[A]at b;cases b;exact⟨N,rfl,λo c=>w _<|y o c⟩;obtain⟨n,u,v⟩:=L.path s i h' z b;exact⟨n,u,λo c=>w _<|v o c⟩
theorem Fh(l:nT m)(hs:List Int)(q:hs.length<=m):∃ow,SetTable.layClean m hs.toArray=a7 ow/\Laid m hs ow hs.length:=by
 have start:Laid m hs (Array.replicate (m+1) a8) 0:=by
  have n:∀s i:Nat,(Array.replicate (m+1) (a8:Option Nat))[s]?≠a7 (a7 i):=λs i z=>by rw[Array.getElem?_replicate]at z;split at z<;>cases z
  exact⟨by simp,λs i z=>o7 z<|n s i,λs _ i z=>o7 z<|n s i,λi hi=>o7 hi<|LN _,λs i _ z=>o7 z<|n s i⟩
 have c:∀(aF:List Int) (k:Nat) (ow:Array (Option Nat)),hs.drop k=aF->k+aF.length=hs.length->Laid m hs ow k -> ∃o,aF.foldl (init:=a7 (ow,k)) (λacc h=>do
    let (owner,k) <-acc
    let j <-Pm m owner (Nt m) (Lw h % (m+1)) (Lw h)
    pure (owner.setIfInBounds j<|a7 k,k+1))=a7 (o,hs.length)/\Laid m hs o hs.length:=by
  intro aF;induction aF with
  |nil =>
   intro k ow e a L;have:k=hs.length:=by simpa using a
   subst this;exact⟨ow,rfl,L⟩
  |cons h aF p =>
   intro k ow e a L;have d:hs[k]?=a7 h:=by
    have:(hs.drop k)[0]?=a7 h:=by rw[e];rfl
    rw[Nz]at this;simpa using this
   rw[B9]at a;obtain⟨j,f,b⟩:=L.step l (by lia) d;obtain⟨o,g1,g⟩:=p (k+1) (ow.setIfInBounds j<|a7 k) (by
    have:hs.drop (k+1)=(hs.drop k).drop 1:=by rw[List.drop_drop]
    rw[this,e];rfl) (by lia) b
   refine⟨o,?_,g⟩;rw[List.foldl_cons];simp only[Option.bind_eq_bind,Option.bind_some,f,Option.pure_def];exact g1
 obtain⟨ow,g1,g⟩:=c hs 0 _ rfl (by simp) start;refine⟨ow,?_,g⟩;unfold SetTable.layClean;rw[<-Array.foldl_toList];have:hs.toArray.toList=hs:=by simp
 rw[this,g1];rfl
theorem mn{α:Type}[DecidableEq α]:∀{l l':List α},l.Nodup->l'.Nodup->(∀x,x∈l↔x∈l')->l.Perm l'
 | [],l',_,_,h=>by have:l'=[]:=List.eq_nil_iff_forall_not_mem.mpr λx hx=>o7 ((h x).mpr hx) (by simp);rw[this]
 |x::l,l',n,n',h=>by have hx:x∈l':=(h x).mp C9;have n1:=KC.mp n;refine(OR x<|mn n1.2 (n'.erase x) λy=>?_).trans (List.perm_cons_erase hx).symm;by_cases e:y=x;subst e;constructor;intro z;exact o7 z n1.1;intro z;exact o7 z<|List.Nodup.not_mem_erase n';rw[List.mem_erase_of_ne e,<-h y,A0];exact⟨.inr,λz=>z.resolve_left e⟩
noncomputable def bz(m:Nat)(ow:Array (Option Nat)):List (Nat×Nat):=(A7<|m+1).filterMap λj=>(ow.getD j a8).map (j,·)
theorem eW(L:Laid m hs ow k):(s,i)∈bz m ow↔ow[s]?=a7 (a7 i):=by
 unfold bz;rw[M8];constructor;rintro⟨j,hj,e⟩;have h:j<ow.size:=by rw[L.sz];exact J0.mp hj
 have l:ow.getD j a8=ow[j]:=by simp[La,h]
 rw[l]at e;cases q:ow[j] with
 |none=>rw[q]at e;cases e
 |some i'=>rw[q]at e;have:=B5 e;cases this;rw[Kn h,q]
 intro e;obtain⟨g,z⟩:=LA.mp e;refine⟨s,J0.mpr (by rw[<-L.sz];exact g),?_⟩;have l:ow.getD s a8=ow[s]:=by simp[La,g]
 rw[l,z];rfl
theorem sG(m:Nat)(ow:Array (Option Nat)):((bz m ow).map (·.1)).Pairwise (· < ·):=by unfold bz;rw[Oh];refine List.Pairwise.filterMap (R:=(· < ·)) _ (λa c h b d e f=>?_)<|List.pairwise_lt_range;obtain⟨x,_,rfl⟩:=ND.mp d;obtain⟨y,_,rfl⟩:=ND.mp f;exact h
theorem sH(L:Laid m hs ow hs.length):((bz m ow).map (·.2)).Perm (A7 hs.length):=by
 have n:(bz m ow).Nodup:=by have:=sG m ow;rw[Oh]at this;exact this.imp λh e=>by rw[e]at h;exact G4 _ h
 have p:((bz m ow).map (·.2)).Nodup:=by rw[Mz,Oh];rw[Mz]at n;refine n.imp_of_mem λ{a b} ha hb hne e=>hne ?_;obtain⟨s,i⟩:=a;obtain⟨s',i'⟩:=b;have c:i=i':=e;subst c;rw[L.inj s s' i ((eW L).mp ha)<|(eW L).mp hb]
 refine mn p O3 λi=>?_;rw[J0,w9];constructor;rintro⟨⟨s,i'⟩,hm,rfl⟩;exact L.lt s i'<|(eW L).mp hm;intro hi;obtain⟨s,e⟩:=L.all i hi;exact⟨(s,i),(eW L).mpr e,rfl⟩
theorem pY{α:Type}{l:List α}{p:Nat}{x y:α}(b:p<=l.length){i:Nat}(h:(l.take p++x::l.drop p)[i]?=a7 y):(i<p/\l[i]?=a7 y)\/(i=p/\y=x)\/(p<i/\l[i-1]?=a7 y):=by
 have lt:(l.take p).length=p:=by rw[Kt];lia
 rcases Oj i p with q|q|q;rw[Ko (by lia),List.getElem?_take,o5 q]at h;exact .inl ⟨q,h⟩;subst q;rw[K0 (by lia),lt,LX]at h;exact .inr<|.inl ⟨rfl,(B5 h).symm⟩;rw[K0 (by lia),lt]at h;obtain⟨r,a⟩:∃r,i-p=r+1:=⟨i-p-1,by lia⟩
 rw[a,Ov,Nz]at h;exact .inr<|.inr ⟨q,by rw[show i-1=p+r by lia];exact h⟩
structure TPre(t:n6)(hs:List Int):Prop where
 msk:nT t.mask
 len:t.place.size=hs.length
 nod:t.dummies = #[]
 ris:t.place.toList.Pairwise (· < ·)
 rng:∀j∈t.place.toList,j<=t.mask
 path:∀(i:Nat) (h:Int) (j:Nat),hs[i]?=a7 h->t.place[i]?=a7 j->∃n,(sq t.mask h n).j=j/\∀n',n' < n->(sq t.mask h n').j∈t.place.toList
theorem put_pre(T:TOk t hs)(h2:(sq t.mask h N).j∉t.place.toList)(v:∀k,k<N->(sq t.mask h k).j∈t.place.toList)(w:Bool):(t.put (sq t.mask h N).j).2<=hs.length/\TPre { (t.put (sq t.mask h N).j).1 with plain:=w } (hs.take (t.put (sq t.mask h N).j).2++h::hs.drop (t.put (sq t.mask h N).j).2):=by
 obtain⟨e,r⟩:=yW T.ris h2;obtain⟨g,_,_⟩:=below_spec t.place T.ris (sq t.mask h N).j;have l:E5 t.place (sq t.mask h N).j<=hs.length:=by rw[<-T.len];exact g
 refine⟨l,⟨T.msk,?_,?_,r,λj L=>?_,λi h' j d L=>?_⟩⟩;have:=p8 KB e;rw[D7,A1,B9,Kt,KD,D7]at this;show (t.put (sq t.mask h N).j).1.place.size=(hs.take (E5 t.place (sq t.mask h N).j)++h::hs.drop (E5 t.place (sq t.mask h N).j)).length;rw[this,A1,B9,Kt,KD,T.len];show (if SetTable.has t.dummies (sq t.mask h N).j then SetTable.eraseAt t.dummies (E5 t.dummies (sq t.mask h N).j)else t.dummies) = #[];rw[T.nod];rfl;have a:j∈(t.put (sq t.mask h N).j).1.place.toList:=L;rw[e]at a;rcases F3.mp a with q|q;exact T.rng j<|List.mem_of_mem_take q;rcases A0.mp q with q|q;rw[q];exact yO h N;exact T.rng j<|List.mem_of_mem_drop q;have s:∀x,x∈t.place.toList->x∈(t.put (sq t.mask h N).j).1.place.toList:=λx m=>by rw[e];rw[<-List.take_append_drop (E5 t.place (sq t.mask h N).j) t.place.toList]at m;rcases F3.mp m with q|q;exact Ld _ q;exact F9 _<|A8 _ q
 have a:(t.put (sq t.mask h N).j).1.place.toList[i]?=a7 j:=by rw[G6];exact L
 rw[e]at a;have o:∀k,hs[k]?=a7 h'->t.place[k]?=a7 j->∃n,(sq t.mask h' n).j=j/\∀f,f < n->(sq t.mask h' f).j∈(t.put (sq t.mask h N).j).1.place.toList:=λk B y=>by obtain⟨n,p,u⟩:=T.path k h' j B y;exact⟨n,p,λf c=>s _<|u f c⟩
 rcases pY (by rw[D7];exact g) a with⟨q,z⟩|⟨q,z⟩|⟨q,z⟩
 rcases pY l d with⟨b,F⟩|⟨b,F⟩|⟨b,F⟩
 exact o i F (by rw[<-G6];exact z);lia;lia;rcases pY l d with⟨b,F⟩|⟨b,F⟩|⟨b,F⟩
 lia;subst z F;exact⟨N,rfl,λf c=>s _<|v f c⟩;lia;rcases pY l d with⟨b,F⟩|⟨b,F⟩|⟨b,F⟩
 lia;lia;exact o (i-1) F<|by rw[<-G6];exact z
theorem TPre.ok(T:TPre t hs)(h:t.tooFull=bt):TOk t hs:=by refine⟨T.msk,T.len,T.nod,T.ris,T.rng,?_,T.path⟩;unfold SetTable.tooFull OM at h;rw[T.nod]at h;simp at h;simpa using h
theorem TPre.anew(T:TPre t hs)(h:t.tooFull=a9)(M:(hs.length-1)*5<t.mask*3)(D:hs.length<=64):PR (MR hs.length)<=sizeLine/\∃t2 ord,t.relaid hs.toArray (MR hs.length)=a7 (t2,ord)/\ord.toList.Perm (A7 hs.length)/\TOk t2 (ord.toList.map λi=>hs.getD i 0)/\t2.led=t.led:=by
 have u:hs.length*5 ≥ t.mask*3:=by unfold SetTable.tooFull OM at h;rw[T.nod,T.len]at h;simpa using h
 have C:∃m,PR (MR hs.length)=m+1/\nT m/\hs.length<=m/\hs.length*5<m*3:=by
  rcases T.msk with e|e|e;have:hs.length=5:=by lia
  rw[this];exact⟨31,by decide +kernel,.inr<|.inl rfl,by decide,by decide⟩;have:hs.length=19:=by lia
  rw[this];exact⟨127,by decide +kernel,.inr<|.inr rfl,by decide,by decide⟩;lia
 obtain⟨m,e,g,H,f⟩:=C;refine⟨by rw[e,LG];rcases g with rfl|rfl|rfl<;>lia,?_⟩;obtain⟨ow,B,L⟩:=Fh g hs H;unfold SetTable.relaid;rw[e,Pe];unfold SetTable.laid;rw[B];refine⟨_,_,rfl,?_,?_,rfl⟩;show ((bz m ow).map (·.2)).toArray.toList.Perm _;simpa using sH L;have l:((bz m ow).map (·.1)).toArray.toList=(bz m ow).map (·.1):=by simp
 have K:((bz m ow).map (·.2)).toArray.toList=(bz m ow).map (·.2):=by simp
 have J:(bz m ow).length=hs.length:=by have:=(sH L).length_eq;simpa using this
 refine⟨g,?_,rfl,?_,λj d=>?_,?_,λi h' j E d=>?_⟩;show ((bz m ow).map (·.1)).toArray.size=(((bz m ow).map (·.2)).toArray.toList.map λi=>hs.getD i 0).length;simp;show ((bz m ow).map (·.1)).toArray.toList.Pairwise _;rw[l];exact sG m ow;have a:j∈((bz m ow).map (·.1)).toArray.toList:=d;rw[l]at a;obtain⟨⟨s,i⟩,o,rfl⟩:=w9.mp a;have:=(LA.mp<|(eW L).mp o).1;rw[L.sz]at this;show s<=m;lia;show ((bz m ow).map (·.1)).toArray.size*5<m*3;rw[A3,u8,J];exact f;have b:(((bz m ow).map (·.2)).map λi=>hs.getD i 0)[i]?=a7 h':=by rw[<-K];exact E
 have a:((bz m ow).map (·.1))[i]?=a7 j:=by rw[<-l,G6];exact d
 rw[E7,D5]at b;rw[D5]at a;cases q:(bz m ow)[i]? with
 |none=>rw[q]at a;cases a
 |some p =>
  obtain⟨s,k⟩:=p;rw[q]at b a;have y:s=j:=B5 a;have A:hs.getD k 0=h':=B5 b;subst y;have c:=(eW L).mp<|J1 q;have v:=L.lt s k c;have G:hs[k]?=a7 h':=by rw[v9 v];rw[<-A];simp[MK,v]
  obtain⟨n,F,x⟩:=L.path s k h' c G;refine⟨n,F,λw r=>?_⟩;obtain⟨I,z⟩:=x w r;show (sq m h' w).j∈((bz m ow).map (·.1)).toArray.toList;rw[l];exact w9.mpr ⟨(_,I),(eW L).mpr z,rfl⟩
end Ht
namespace L2
open PySem PySem.Spec PyProof.Rows DL PySem.W
theorem pV:∀(n:Nat) (d:D),dw n d=a9->u7 M n d=a9
 | 0,d,h=>by cases d<;>first|rfl|cases h
 |n+1,d,h=>by
  cases d with
  |tup ds=>have h':ds.all (dw n)=a9:=h;show ds.all (u7 M n)=a9;rw[F0]at h' ⊢;exact λx hx=>pV n x<|h' x hx
  |str x=>rfl
  |int i=>rfl
  |_=>cases h
theorem iN:∀(n:Nat) (x y:D),dw n x=a9->dw n y=a9->(u3 M n x y=a9↔x=y):=by
 intro n;induction n with
 |zero =>
  intro x y h1 h2;cases x with
  |str a =>
   cases y with
   |str b=>simp[u3]
   |int b=>simp[u3]
   |_=>cases h2
  |int a =>
   cases y with
   |str b=>simp[u3]
   |int b=>simp[u3]
   |_=>cases h2
  |_=>cases h1
 |succ n h =>
  have o:∀xs ys:List D,xs.all (dw n)=a9->ys.all (dw n)=a9->(D1 (u3 M n) xs ys=a9↔xs=ys):=by
   intro xs;induction xs with
   |nil=>intro ys _ _;cases ys<;>simp[D1]
   |cons x xs i =>
    intro ys F c;cases ys with
    |nil=>simp[D1]
    |cons y ys=>rw[KT,D6]at F c;show (u3 M n x y&&D1 (u3 M n) xs ys)=a9↔_;rw[D6,h x y F.1 c.1,i ys F.2 c.2,OX]
  intro x y h1 h2;cases x with
  |str a =>
   cases y with
   |str b=>simp[u3]
   |int b=>simp[u3]
   |tup ys=>simp[u3]
   |_=>cases h2
  |int a =>
   cases y with
   |str b=>simp[u3]
   |int b=>simp[u3]
   |tup ys=>simp[u3]
   |_=>cases h2
  |tup xs =>
   cases y with
   |str b=>simp[u3]
   |int b=>simp[u3]
   |tup ys=>rw[D.tup.injEq];exact o _ _ h1 h2
   |_=>cases h2
  |_=>cases h1
section
variable{X:Cx}{pins:List (c6×c7)}{σ:St}{H:Hp}{ρ:List c6}{M:t9}
theorem Ju(sm:u9 X.K ρ M H):∀(n:Nat) (A:d8) (s:d9) (d:D) (v:V) (u:b7) (E:b7->d9->Prop) (Q:Int->d9->Prop),A.units+n<j4->t4 X pins σ H s->u4 X.K ρ H d v->aH v u->dw n d=a9 ->(∀tk,Q (A2 X.w n d) { s with toks:=tk })->e8 (f7 X.prog X.w) A (pyHash u) Q E s:=by
 intro n;induction n with
 |zero =>
  intro A s d v u E Q R I r f q h;cases r with
  |str x=>obtain⟨t,rfl⟩:=f;exact Oe<|h _
  |int x=>obtain⟨t,rfl⟩:=f;exact Of<|h _
  |_=>cases q
 |succ n S =>
  intro A s d v u E Q R I r f q h;cases r with
  |str x=>obtain⟨t,rfl⟩:=f;exact Oe<|h _
  |int x=>obtain⟨t,rfl⟩:=f;exact Of<|h _
  |@tup a vs ds P Y =>
   cases f;obtain⟨its,W,p,_⟩:=I.tuple P;obtain⟨o,C,N,nn,O⟩:=id p;have m:s.TypeIs (.ref a) "tuple":=⟨o,C,N⟩
   have B:ds.all (dw n)=a9:=q;unfold pyHash
   first|unfold pyHashByItsType|skip
   first|refine r9 (wpAny_cRoomFor_or (.inr<|by lia) ?_)|skip
   refine r9<|L8 m F.slot_tuple_hash.lookup ?_;refine(show e8 (f7 X.prog X.w) _ (if (a7 (Nq "tuple.__hash__")==a7 ABh)=a9 then _ else _) Q E s from ?_);rw[o6<|by rw[beq_builtin_none];exact LP];refine r9<|L8 m F.slot_tuple_hash.lookup ?_;refine(show e8 (f7 X.prog X.w) _ (callSpecialIfBoundUnlessNone? (.ref a) "__hash__" _ >>= _) Q E s from r9<|Qu m F.slot_tuple_hash<|Ks F.slot_tuple_hash m F.entry_tuple_hash ?_<|F.args_tuple_hash_1 _);refine(show e8 (f7 X.prog X.w) _ (Pv (.ref a) >>= _) _ _ s from r9<|wpAny_tupleItemsOf C O<|r9 ?_);rw[<-Ny];refine Lm _ (λaF (b:Array Int) s'=>∃done left y,ds=done++left/\Reps X.K ρ H left y/\ar y aF/\b.toList=done.map (A2 X.w n)/\∃tk,s'={ s with toks:=tk }) _ ?_ ?_ _ _ ⟨[],ds,vs,rfl,Y,by simpa using W,rfl,s.toks,rfl⟩;rintro x aF b s' ⟨done,left,y,e,h1,h2,k,tk,rfl⟩;cases h2 with
   |@cons Z _ i _ T J =>
    cases h1 with
    |@cons j _ c _ U L =>
     refine r9<|S _ _ j Z x _ _ (by show A.units+1+n<j4;lia) (I.tok tk) U T ?_ λg=>?_;have:=F0.mp B j (by rw[e];simp);exact this
     first
      |exact t6 ⟨done++[j],c,i,by rw[e];simp,L,J,by simp[k],g,rfl⟩
      |exact r9 (t6 (t6 ⟨done++[j],c,i,by rw[e];simp,L,J,by simp[k],g,rfl⟩))
   rintro b s' ⟨done,left,y,e,h1,h2,k,tk,rfl⟩;cases h2;cases h1;rw[KO]at e;subst e;refine(show e8 (f7 X.prog X.w) _ (retInt<|Nc b.toList) _ _ _ from ?_);rw[k];refine wpAny_ret_mkInt ?_;have l:A2 X.w (n+1) (.tup ds)=m8 (Nc<|ds.map<|A2 X.w n):=rfl;generalize Nc (ds.map<|A2 X.w n)=z at l;refine(show e8 (f7 X.prog X.w) _ (if (decide (-(2:Int) ^ 63<=z)&&decide (z<2 ^ 63))=a9 then _ else _) Q E _ from ?_);unfold m8 at l;by_cases G:(decide (-(2:Int) ^ 63<=z)&&decide (z<2 ^ 63))=a9;rw[o5 G]at l ⊢;exact t6 (by rw[<-l];exact h _);rw[o6 G]at l ⊢;exact r9<|KA<|t6<|by rw[<-l];exact h _
  |_=>cases q
end
section
variable{X:Cx}{pins:List (c6×c7)}{σ:St}{H:Hp}{ρ:List c6}{M:t9}
theorem hbv_D(T:u9 X.K ρ M H):∀(n k:Nat) (A:d8) (s:d9) (d:D) (v:V) (u:b7) (E:b7->d9->Prop) (Q:Bool->d9->Prop),n<=k->t4 X pins σ H s->u4 X.K ρ H d v->aH v u->dw n d=a9->(∀b,Q b s)->e8 (f7 X.prog X.w) A (hashByValue k u) Q E s:=by
 intro n;induction n with
 |zero =>
  intro k A s d v u E Q z I r c e h;cases r with
  |str x=>obtain⟨t,rfl⟩:=c;cases k<;>exact t6<|h _
  |int x=>obtain⟨t,rfl⟩:=c;cases k<;>exact t6<|h _
  |_=>cases e
 |succ n J =>
  intro k A s d v u E Q z I r c e h;cases r with
  |str x=>obtain⟨t,rfl⟩:=c;cases k<;>exact t6<|h _
  |int x=>obtain⟨t,rfl⟩:=c;cases k<;>exact t6<|h _
  |@tup a vs ds C P =>
   cases c;obtain⟨k,rfl⟩:∃L,k=L+1:=⟨k-1,by lia⟩
   obtain⟨its,l,p,_⟩:=I.tuple C;obtain⟨o,j,q,S,y⟩:=id p;have m:s.TypeIs (.ref a) "tuple":=⟨o,j,q⟩
   have B:ds.all (dw n)=a9:=e;unfold hashByValue;refine r9<|L8 m F.slot_tuple_hash.lookup ?_;dsimp only;refine r9<|MS j y ?_;simp only[Option.getD_some];rw[<-Ny];refine r9 ?_;refine Lm _ (λaF r s'=>s'=s/\r.1=a8/\∃left f,(∀x∈left,dw n x=a9)/\Reps X.K ρ H left f/\ar f aF) _ ?_ ?_ _ _ ⟨rfl,rfl,ds,vs,F0.mp B,P,by simpa using l⟩;rintro x aF r s' ⟨rfl,i,left,f,g,h1,h2⟩;cases h2 with
   |cons N O =>
    cases h1 with
    |cons U R =>
     refine r9<|J k _ _ _ _ x _ _ (by lia) I U N (g _ C9) λb=>?_;cases b with
     |false=>exact t6<|t6<|h _
     |true=>exact t6 ⟨rfl,rfl,_,_,λx G=>g x<|A8 _ G,R,O⟩
   rintro⟨r1,l⟩ s' ⟨rfl,i,_⟩;simp only at i;subst i;exact t6<|h _
  |_=>cases e
theorem yU(R:u9 X.K ρ M H):∀(n k:Nat) (A:d8) (s:d9) (d:D) (v:V) (u:b7) (E:b7->d9->Prop) (Q:Bool->d9->Prop),n<=k->t4 X pins σ H s->u4 X.K ρ H d v->aH v u->dw n d=a9->Q a9 s->e8 (f7 X.prog X.w) A (o0 k u) Q E s:=by
 intro n;induction n with
 |zero =>
  intro k A s d v u E Q y I r b e h;cases r with
  |str x=>obtain⟨t,rfl⟩:=b;rw[Mv k (v:=.str x t) rfl];exact t6 h
  |int x=>obtain⟨t,rfl⟩:=b;rw[Mv k (v:=.int x t) rfl];exact t6 h
  |_=>cases e
 |succ n G =>
  intro k A s d v u E Q y I r b e h;cases r with
  |str x=>obtain⟨t,rfl⟩:=b;rw[Mv k (v:=.str x t) rfl];exact t6 h
  |int x=>obtain⟨t,rfl⟩:=b;rw[Mv k (v:=.int x t) rfl];exact t6 h
  |@tup a vs ds z O =>
   cases b;obtain⟨k,rfl⟩:∃J,k=J+1:=⟨k-1,by lia⟩
   obtain⟨its,l,p,_⟩:=I.tuple z;obtain⟨o,f,j,S,q⟩:=id p;have m:s.TypeIs (.ref a) "tuple":=⟨o,f,j⟩
   have B:ds.all (dw n)=a9:=e;unfold o0;refine r9<|L8 m F.slot_tuple_eq.lookup ?_;refine(show e8 (f7 X.prog X.w) A (isInstance (.ref a) (.type "tuple") >>= _) _ _ s from r9<|MW m isSubtype_tuple_tuple ?_);simp only[Lj,A4,p6];refine r9<|MS f q ?_;simp only[Option.getD_some];refine r9 ?_;rw[<-Ny];refine Lm _ (λaF r s'=>s'=s/\r.1=a8/\∃left c,(∀x∈left,dw n x=a9)/\Reps X.K ρ H left c/\ar c aF) _ ?_ ?_ _ _ ⟨rfl,rfl,ds,vs,F0.mp B,O,by simpa using l⟩;rintro x aF r s' ⟨rfl,i,left,c,g,h1,h2⟩;cases h2 with
   |cons L N =>
    cases h1 with
    |cons U P=>refine r9<|G k _ _ _ _ x _ _ (by lia) I U L (g _ C9) ?_;simp only[Lj,A4,p6];exact t6 ⟨rfl,rfl,_,_,λx C=>g x<|A8 _ C,P,N⟩
   rintro⟨r1,l⟩ s' ⟨rfl,i,_⟩;simp only at i;subst i;exact t6 h
  |_=>cases e
theorem Kc(P:u9 X.K ρ M H):∀(n k:Nat) (A:d8) (s:d9) (d:D) (v:V) (u:b7) (E:b7->d9->Prop) (Q:Bool->d9->Prop),n<=k->t4 X pins σ H s->u4 X.K ρ H d v->aH v u->dw n d=a9->Q bt s->e8 (f7 X.prog X.w) A (ofAClassStatement k u) Q E s:=by
 intro n;induction n with
 |zero =>
  intro k A s d v u E Q y I r b e h;cases r with
  |str x=>obtain⟨t,rfl⟩:=b;cases k<;>exact t6 h
  |int x=>obtain⟨t,rfl⟩:=b;cases k<;>exact t6 h
  |_=>cases e
 |succ n F =>
  intro k A s d v u E Q y I r b e h;cases r with
  |str x=>obtain⟨t,rfl⟩:=b;cases k<;>exact t6 h
  |int x=>obtain⟨t,rfl⟩:=b;cases k<;>exact t6 h
  |@tup a vs ds z N =>
   cases b;obtain⟨k,rfl⟩:∃G,k=G+1:=⟨k-1,by lia⟩
   obtain⟨its,l,p,_⟩:=I.tuple z;obtain⟨o,f,j,S,q⟩:=id p;have m:s.TypeIs (.ref a) "tuple":=⟨o,f,j⟩
   have B:ds.all (dw n)=a9:=e;unfold ofAClassStatement;refine r9<|Mq m ?_;dsimp only;simp only[p9,p7];refine r9<|t6 ?_;simp only[Lj,A4,p6];refine r9<|MS f q ?_;dsimp only;refine r9 ?_;rw[<-Ny];refine Lm _ (λaF r s'=>s'=s/\r.1=a8/\∃left c,(∀x∈left,dw n x=a9)/\Reps X.K ρ H left c/\ar c aF) _ ?_ ?_ _ _ ⟨rfl,rfl,ds,vs,F0.mp B,N,by simpa using l⟩;rintro x aF r s' ⟨rfl,i,left,c,g,h1,h2⟩;cases h2 with
   |cons J L =>
    cases h1 with
    |cons U O=>refine r9<|F k _ _ _ _ x _ _ (by lia) I U J (g _ C9) ?_;simp only[A4,p6];exact t6 ⟨rfl,rfl,_,_,λx C=>g x<|A8 _ C,O,L⟩
   rintro⟨r1,l⟩ s' ⟨rfl,i,_⟩;simp only at i;subst i;exact t6 h
  |_=>cases e
end
noncomputable def gh:D->Bool
 |.tup _=>a9
 |_=>bt
def E3(X:Cx)(ρ:List c6)(H:Hp)(n:Nat)(d:D)(e:Int×b7):Prop:=(∃v,u4 X.K ρ H d v/\aH v e.2)/\e.1=A2 X.w n d/\dw n d=a9/\gh d=a9
structure KSet(X:Cx)(ρ:List c6)(H:Hp)(h:c8)(a:c6)(n:Nat)(ds:List D)(o:c7)(es:Array (Int×b7))(ep:Nat)(t:n6):Prop where
 ob:h.get? a=a7 o
 ex:o.ExactSet
 dt:o.data=.set es ep t
 en:Paired (E3 X ρ H n) ds es.toList
 nd:ds.Nodup
 tk:Ht.TOk t (es.toList.map (·.1))
 ld:t.led = !X.w.params.followText "set-order"
theorem dR{α β:Type}{R:α->β->Prop}:∀{xs:List α}{ys:List β}{i:Nat}{y:β},Paired R xs ys->ys[i]?=a7 y->∃x,xs[i]?=a7 x/\R x y
 |_,_,i,y,.nil,e=>by simp at e
 |_,_,0,y,.cons r _,e=>by simp at e;subst e;exact⟨_,rfl,r⟩
 |_,_,i+1,y,.cons _ t,e=>by obtain⟨x,h1,h2⟩:=dR (i:=i) t (by simpa using e);exact⟨x,by simpa using h1,h2⟩
theorem jo{α β:Type}{R:α->β->Prop}:∀{xs:List α}{ys:List β}{i:Nat}{x:α},Paired R xs ys->xs[i]?=a7 x->∃y,ys[i]?=a7 y/\R x y
 |_,_,i,y,.nil,e=>by simp at e
 |_,_,0,y,.cons r _,e=>by simp at e;subst e;exact⟨_,rfl,r⟩
 |_,_,i+1,y,.cons _ t,e=>by obtain⟨x,h1,h2⟩:=jo (i:=i) t (by simpa using e);exact⟨x,by simpa using h1,h2⟩
theorem KSet.fits(S:KSet X ρ H h a n ds o es ep t):t.fits es.size=a9:=by
 have h1:=S.tk.len;have h2:=S.tk.few;rw[u8,D7]at h1;unfold Nr;have b:t.fill=t.place.size:=by unfold OM;rw[S.tk.nod];rfl
 rw[b];simp only[D6,p5,o8];lia
section
variable{X:Cx}{pins:List (c6×c7)}{σ:St}{H:Hp}{ρ:List c6}{M:t9}{A:d8}{E:b7->d9->Prop}{s:d9}{a:c6}{n:Nat}{ds:List D}{o:c7}{es:Array (Int×b7)}{ep:Nat}{t:n6}
theorem Bb(m:u9 X.K ρ M H)(I:t4 X pins σ H s)(f:n<=8)(r:u4 X.K ρ H d v)(c:aH v u)(e:dw n d=a9)(h:Q bt s):∀(l:List b7),(∀y∈l,∃d' v',u4 X.K ρ H d' v'/\aH v' y/\dw n d'=a9)->e8 (f7 X.prog X.w) A (searchCouldBeSeen u l) Q E s:=by intro l g;unfold searchCouldBeSeen;refine r9 ?_;refine Lm _ (λaF r s'=>s'=s/\r.1=a8/\∀y∈aF,∃d' v',u4 X.K ρ H d' v'/\aH v' y/\dw n d'=a9) _ ?_ ?_ _ _ ⟨rfl,rfl,g⟩;rintro y aF r' s' ⟨rfl,i,O⟩;have t:∀z∈aF,∃d' v',u4 X.K ρ H d' v'/\aH v' z/\dw n d'=a9:=λz j=>O z<|A8 _ j;obtain⟨d',v',a,b,k⟩:=O y C9;dsimp only;refine LM (λ_=>t6 ⟨rfl,rfl,t⟩) λ_=>?_;refine r9<|yU m n 8 A _ d v u _ _ f I r c e ?_;simp only[Lj,A4,p6];refine r9<|yU m n 8 A _ d' v' y _ _ f I a b k ?_;simp only[Lj,A4,p6];refine r9<|Kc m n 8 A _ d v u _ _ f I r c e ?_;simp only[A4,p6];refine r9<|Kc m n 8 A _ d' v' y _ _ f I a b k ?_;simp only[A4,p6];exact t6 ⟨rfl,rfl,t⟩;rintro⟨a,b⟩ s' ⟨rfl,i,_⟩;simp only at i;subst i;exact t6 h
theorem Bn(sm:u9 X.K ρ M H)(I:t4 X pins σ H s)(hn:n<=8)(hu:A.units+n<j4)(S:KSet X ρ H s.heap a n ds o es ep t)(r:u4 X.K ρ H d v)(rv:aH v u)(F:dw n d=a9)(c:d∈ds->Q (.there a8) s) (be:N<10*(t.mask+15)) (G:(Ht.sq t.mask (A2 X.w n d) N).j∉t.place.toList) (ab:∀k,k<N->(Ht.sq t.mask (A2 X.w n d) k).j∈t.place.toList)(J:d∉ds->Q (.free (Ht.sq t.mask (A2 X.w n d) N).j bt) s):∀(fuel m:Nat) (stand:Option Ms),m<=N->N<m+fuel->stand.getD (t.probeStart<|A2 X.w n d)=Ht.sq t.mask (A2 X.w n d) m->(∀k i:Nat,k<m->t.place[i]?=a7 (Ht.sq t.mask (A2 X.w n d) k).j->ds[i]?≠a7 d) ->e8 (f7 X.prog X.w) A (setSearchFrom a u (A2 X.w n d) a9 fuel stand) Q E s:=by
 intro fuel;induction fuel with
 |zero=>intro m stand h1 h2;lia
 |succ fuel ih =>
  intro m stand h1 h2 hs hb;unfold setSearchFrom;refine r9<|Lo S.ob S.dt S.fits ?_;dsimp only;have gw:t.gaveWay=bt:=by unfold SetTable.gaveWay;rcases S.tk.msk with e|e|e<;>rw[e]<;>rfl
  rw[gw];simp only[A4,p6];rw[hs];rcases Ht.go_spec S.tk.ris S.tk.nod (λi=>(es[i]?.map (·.1)).getD 0) (A2 X.w n d) (10*Nt t.mask) m N h1 (by unfold Nt;lia) G (λk _ hk=>ab k hk) (Ht.sq_dummy _ _)with⟨z1,z2⟩|⟨m',i,a1,a2,a3,a4,a5,a6⟩
  generalize L:SetTable.probe t _ (A2 X.w n d) (Ht.sq t.mask (A2 X.w n d) m)=pr;obtain rfl:pr=_:=L.symm.trans z2;dsimp only;refine t6<|J λhd=>?_;obtain⟨i,hi⟩:=Lc hd;obtain⟨e,D,_,U,_⟩:=jo S.en hi;have g:es[i]?=a7 e:=by rw[<-G6];exact D
  have hh:(es.toList.map (·.1))[i]?=a7 (A2 X.w n d):=by rw[D5,D];exact p8 a7 U
  have hl:i<t.place.size:=by rw[S.tk.len];exact(z6.mp hh).1
  obtain⟨P,b1,b2⟩:=S.tk.path i _ t.place[i] hh<|Kn hl;have an:P<N:=by rcases Oj P N with q|q|q;exact q;subst q;exact o7 (show (Ht.sq t.mask (A2 X.w n d) P).j∈t.place.toList by rw[b1];simp) G;exact o7 (b2 N q) G
  have p:t.place[i]?=a7 (Ht.sq t.mask (A2 X.w n d) P).j:=by rw[b1];exact Kn hl
  rcases KR P m with q|q;exact hb P i q p hi;refine z1 P i q an p ?_;rw[g];exact U;generalize L:SetTable.probe t _ (A2 X.w n d) (Ht.sq t.mask (A2 X.w n d) m)=pr;obtain rfl:pr=_:=L.symm.trans a6;dsimp only;have aj:i<es.size:=by have:=(LA.mp a3).1;rw[S.tk.len,u8,D7]at this;exact this
  have l:es[i]?=a7 es[i]:=Kn aj;obtain⟨x,NO,⟨v0,r0,Y⟩,bd,O,as⟩:=dR S.en (i:=i) (y:=es[i]) (by rw[G6];exact l);have Z:∀(f:Bool->Sem SetFound),e8 (f7 X.prog X.w) A (f bt) Q E s->e8 (f7 X.prog X.w) A (searchCouldBeSeen u ((es.filter (·.1==A2 X.w n d)).toList.map (·.2)) >>= f) Q E s:=λf hf=>by
   refine r9<|Bb sm I hn r rv F hf _ λy hy=>?_;obtain⟨e,D,rfl⟩:=w9.mp hy;have ai:e∈es.toList:=by
    have:e∈es.filter (·.1==A2 X.w n d):=by simpa using D
    simpa using(Array.mem_filter.mp this).1
   obtain⟨j,hj⟩:=Lc ai;obtain⟨d1,_,⟨v1,r1,aS⟩,_,aD,_⟩:=dR S.en hj;exact⟨d1,v1,r1,aS,aD⟩
  have B:∃b,es[i].2=ABF b:=by
   cases r0 with
   |tup _ _=>exact⟨_,Y⟩
   |_=>cases as
  obtain⟨b,B⟩:=B;have V:K5 A s es[i].2 u (u3 M n x d):=(kr I sm n A x d v0 v es[i].2 u hu r0 Y r rv (pV n x O)<|pV n d F).1;refine LM (λ_=>Z _ ?_) λ_=>?_;simp only[A4,p6];rw[l];dsimp only;refine r9<|E4<|V _ _ _ _<|r9<|Lo S.ob S.dt S.fits ?_;dsimp only;by_cases C:u3 M n x d=a9;rw[C];simp only[Bool.and_self,p7];have:x=d:=(iN n x d O F).mp C;subst this;exact t6<|c<|J1 NO;rw[Ly.mpr C];simp only[OT,A4,p6];have T:t.sameMemory t.moves t.mask=a7 a9:=by unfold SetTable.sameMemory;simp
  rw[T];dsimp only;simp only[p7];rw[Ht.slot_live S.tk.ris a3];dsimp only;rw[l];have R:e8 (f7 X.prog X.w) A (isSame es[i].2 es[i].2) (λb s'=>b=a9/\s'=s) E s:=by unfold isSame;rw[B];simp only[p9,p7];exact t6<|And.intro rfl rfl
  refine r9<|E1 R (λb s' ⟨e1,e2⟩=>?_) λ_ _ z=>z;subst e1 e2;refine r9<|t6 ?_;simp only[p7];refine ih (m'+1) _ (by lia) (by lia) rfl λk i' hk p h=>?_;rcases KR k m with q|q;exact hb k i' q p h;rcases KR k m' with W|W;refine a5 k i' q W p ?_;obtain⟨e,D,_,U,_⟩:=jo S.en h;have g:es[i']?=a7 e:=by rw[<-G6];exact D
  rw[g];exact U;have:k=m':=by lia
  subst this;have:i'=i:=by rw[<-Ht.below_at S.tk.ris p,Ht.below_at S.tk.ris a3]
  subst this;rw[NO]at h;cases h;exact C<|(iN n d d F F).mpr rfl;rw[l];dsimp only;refine r9<|E4<|V _ _ _ _<|r9<|Lo S.ob S.dt S.fits ?_;dsimp only;by_cases C:u3 M n x d=a9;rw[C];simp only[Bool.and_self,p7];have:x=d:=(iN n x d O F).mp C;subst this;exact t6<|c<|J1 NO;rw[Ly.mpr C];simp only[OT,A4,p6];have T:t.sameMemory t.moves t.mask=a7 a9:=by unfold SetTable.sameMemory;simp
  rw[T];dsimp only;simp only[p7];rw[Ht.slot_live S.tk.ris a3];dsimp only;rw[l];have R:e8 (f7 X.prog X.w) A (isSame es[i].2 es[i].2) (λb s'=>b=a9/\s'=s) E s:=by unfold isSame;rw[B];simp only[p9,p7];exact t6<|And.intro rfl rfl
  refine r9<|E1 R (λb s' ⟨e1,e2⟩=>?_) λ_ _ z=>z;subst e1 e2;refine r9<|t6 ?_;simp only[p7];refine ih (m'+1) _ (by lia) (by lia) rfl λk i' hk p h=>?_;rcases KR k m with q|q;exact hb k i' q p h;rcases KR k m' with W|W;refine a5 k i' q W p ?_;obtain⟨e,D,_,U,_⟩:=jo S.en h;have g:es[i']?=a7 e:=by rw[<-G6];exact D
  rw[g];exact U;have:k=m':=by lia
  subst this;have:i'=i:=by rw[<-Ht.below_at S.tk.ris p,Ht.below_at S.tk.ris a3]
  subst this;rw[NO]at h;cases h;exact C<|(iN n d d F F).mpr rfl
end
theorem Paired.ins{α β:Type}{R:α->β->Prop}{x:α}{y:β}(r:R x y):∀{xs:List α}{ys:List β} (p:Nat),Paired R xs ys->Paired R (xs.take p++x::xs.drop p) (ys.take p++y::ys.drop p)
 |_,_,0,h=>by simpa using .cons r h
 |_,_,p+1,.nil=>.cons r .nil
 |_,_,p+1,.cons h t=>.cons h<|Paired.ins r p t
theorem Paired.pick{α β:Type}{R:α->β->Prop}:∀{xs:List α}{ys:List β} (is:List Nat),Paired R xs ys->(∀i∈is,i<xs.length)->Paired R (is.filterMap (xs[·]?)) (is.filterMap (ys[·]?))
 |_,_,[],_,_=>.nil
 |xs,ys,i::is,h,hi=>by have hl:=hi i C9;have e:xs[i]?=a7 xs[i]:=v9 hl;obtain⟨y,hy,r⟩:=jo h e;rw[Me,Me,e,hy];exact .cons r<|Paired.pick is h λj hj=>hi j<|A8 _ hj
theorem oK{α:Type}{l:List α}{is:List Nat}(h:is.Perm (A7 l.length)):(is.filterMap (l[·]?)).Perm l:=by
 have:=h.filterMap (l[·]?)
 rwa [List.filterMap_getElem?_range_length]at this
section
variable{X:Cx}{pins:List (c6×c7)}{σ:St}{H:Hp}{ρ:List c6}{M:t9}{A:d8}{E:b7->d9->Prop}{s:d9}{a:c6}{n:Nat}{ds:List D}{o:c7}{es:Array (Int×b7)}{ep:Nat}{t:n6}
def KS(X:Cx)(ρ:List c6)(H:Hp)(h:c8)(a:c6)(n:Nat)(ds:List D):Prop:=∃o es i t,KSet X ρ H h a n ds o es i t
set_option maxHeartbeats 1000000 in
theorem add_D(sm:u9 X.K ρ M H)(I:t4 X pins σ H s)(hn:n<=8)(hu:A.units+n+1<j4)(S:KS X ρ H s.heap a n ds)(bk:ds.length+1<=64)(r:u4 X.K ρ H d v)(rv:aH v u)(kd:dw n d=a9)(it:gh d=a9)(h:∀b h' tk ds',(∀c u,c≠a->s.heap.get? c=a7 u->h'.get? c=a7 u)->KS X ρ H h' a n ds'->(∀x,x∈ds'↔x∈ds\/x=d)->ds'.length<=ds.length+1->Q b { s with heap:=h',toks:=tk }):e8 (f7 X.prog X.w) A (setAdd a u) Q E s:=by
 obtain⟨o,es,ep,t,S⟩:=S;obtain⟨R,rfl⟩:∃R,u=ABF R:=by
  cases r with
  |tup _ _=>exact⟨_,rv⟩
  |_=>cases it
 unfold setAdd;refine E4<|r9<|Ju sm n A s d v _ _ _ (by lia) I r rv kd λtk=>?_;unfold setAddHashed setAddHashedIn;refine E4<|r9<|Lo (s:={ s with toks:=tk }) S.ob S.dt S.fits ?_;dsimp only;have bs:byScan (.ref R) es=bt:=rfl;rw[bs];simp only[A4,p6];obtain⟨N,ab,ai,aj⟩:=S.tk.empty<|A2 X.w n d;have I1:t4 X pins σ H { s with toks:=tk }:=I.tok tk;unfold setSearch;refine r9<|Bn (s:={ s with toks:=tk }) sm I1 hn (by lia) S r rv kd (λhd=>?_) ab ai aj (λhd=>?_) 100000 0 a8 (z5 _) ?_ rfl λk i hk=>o7 hk<|LN _;exact t6<|h _ s.heap tk ds (λ_ _ _ e=>e) ⟨o,es,ep,t,S⟩ (λx=>⟨.inl,λz=>z.elim id λe=>e ▸ hd⟩)<|Nm _;dsimp only;refine r9<|Lo (s:={ s with toks:=tk }) S.ob S.dt S.fits ?_;dsimp only;have J:=S.tk.len;rw[u8,D7]at J;have dl:ds.length=es.size:=by have:=Paired.length S.en;simpa using this
 have F:∀O:Bool,e8 (f7 X.prog X.w) A (do
   storeSet a (O9 es (t.put (Ht.sq t.mask (A2 X.w n d) N).j).2 (A2 X.w n d,ABF R)) { (t.put (Ht.sq t.mask (A2 X.w n d) N).j).1 with plain:=O }
   if (!bt&&({ (t.put (Ht.sq t.mask (A2 X.w n d) N).j).1 with plain:=O }:n6).tooFull)=a9 then do
     setRelay a (MR<|es.size+1)
     pure a9
    else pure a9) Q E { s with toks:=tk }:=λO=>by
  obtain⟨pb,T⟩:=Ht.put_pre S.tk ai aj O;have G:({ (t.put (Ht.sq t.mask (A2 X.w n d) N).j).1 with plain:=O }:n6).led=t.led:=rfl;have L:({ (t.put (Ht.sq t.mask (A2 X.w n d) N).j).1 with plain:=O }:n6).mask=t.mask:=rfl;generalize ({ (t.put (Ht.sq t.mask (A2 X.w n d) N).j).1 with plain:=O }:n6)=y at T G L;generalize (t.put (Ht.sq t.mask (A2 X.w n d) N).j).2=p at pb T;rw[u8,D7]at pb;have e1:(O9 es p (A2 X.w n d,ABF R)).toList=es.toList.take p++(A2 X.w n d,ABF R)::es.toList.drop p:=SetTable.toList_insertAt ..;generalize O9 es p (A2 X.w n d,ABF R)=f at e1;have aS:f.toList.map (·.1)=(es.toList.map (·.1)).take p++A2 X.w n d::(es.toList.map (·.1)).drop p:=by rw[e1,Kr,B8,List.map_take,N7]
  rw[<-aS]at T;have D:f.size=es.size+1:=by have:=p8 KB e1;rw[D7,A1,B9,Kt,KD,D7]at this;lia
  have Y:Paired (E3 X ρ H n) (ds.take p++d::ds.drop p) f.toList:=by rw[e1];exact Paired.ins ⟨⟨v,r,rv⟩,rfl,kd,it⟩ p S.en
  have U:(ds.take p++d::ds.drop p).Perm (d::ds):=by refine List.perm_middle.trans<|OR d ?_;rw[List.take_append_drop]
  have an:(ds.take p++d::ds.drop p).Nodup:=U.nodup_iff.mpr<|KC.mpr ⟨hd,S.nd⟩;have Z:y.fits f.size=a9:=by
   have l1:=T.len;rw[u8,D7]at l1;have h3:y.fill=y.place.size:=by unfold OM;rw[T.nod];rfl
   have fw:=S.tk.few;unfold Nr;rw[h3];simp only[D6,p5,o8];rw[J]at fw;rcases S.tk.msk with e|e|e<;>rw[L,e]<;>rw[e]at fw<;>lia
  have zz:f.size<=sizeLine:=by rw[LG];lia
  refine r9<|wpAny_storeSet_of (s:={ s with toks:=tk }) S.ob S.dt ?_ zz;have C:(s.heap.update a<|Nk f y).get? a=a7 { o with data:=.set f (ep+1) y }:=by
   have q:=KI (Nk f y) S.ob<|by rw[putSet_of f y S.dt];rfl
   rwa [putSet_of f y S.dt]at q
  have as:∀c u,c≠a->s.heap.get? c=a7 u->(s.heap.update a<|Nk f y).get? c=a7 u:=λc u hc e=>(NF _ _<|D2 hc).trans e;by_cases tf:y.tooFull=a9;rw[tf];simp only[Bool.not_false,Bool.and_self,p7];have aD:((f.toList.map (·.1)).length-1)*5<y.mask*3:=by have fw:=S.tk.few;rw[J]at fw;rw[u8,D7,D,L];simpa using fw
  obtain⟨zl,W,m,g1,g2,T2,bd⟩:=T.anew tf aD (by rw[u8,D7];lia);rw[u8,D7]at g2 zl;have eg:MR (es.size+1)=MR (f.toList.map (·.1)).length:=by rw[u8,D7,D]
  unfold setRelay;refine r9<|r9<|Lo (s:={ s with heap:=_,toks:=tk }) C rfl Z ?_;dsimp only;rw[eg];have nz:¬PR (MR (f.toList.map (·.1)).length) > sizeLine:=by rw[u8,D7];lia
  simp only[nz,p6];have ea:f.map (·.1)=(f.toList.map (·.1)).toArray:=by apply Array.ext';simp
  rw[ea,g1];have B:(m.filterMap (f[·]?)).toList=m.toList.filterMap (f.toList[·]?):=by rw[Array.toList_filterMap];congr 1;funext i;rw[G6]
  have V:(m.filterMap (f[·]?)).size=f.size:=by have:=(oK (l:=f.toList) (is:=m.toList)<|by rw[D7];exact g2).length_eq;rw[<-B,D7,D7]at this;exact this
  refine r9 (show e8 (f7 X.prog X.w) A (if ((m.filterMap (f[·]?)).size != f.size)=a9 then _ else pure (m.filterMap (f[·]?),W)) _ _ _ from ?_);rw[o6<|by rw[V];simp];refine t6 ?_;generalize m.filterMap (f[·]?)=g at B V;have P:(m.toList.filterMap ((ds.take p++d::ds.drop p)[·]?)).Perm (ds.take p++d::ds.drop p):=oK (by
   have:(ds.take p++d::ds.drop p).length=f.size:=by rw[U.length_eq,B9,dl,D]
   rw[this];exact g2)
  refine wpAny_storeSet_of (s:={ s with heap:=_,toks:=tk }) C rfl ?_ (by rw[V];exact zz);have be:((s.heap.update a<|Nk f y).update a<|Nk g W).get? a=a7 { o with data:=.set g (ep+1+1) W }:=by
   have q:=KI (Nk g W) C<|by rw[putSet_of g W (es:=f) (ep:=ep+1) (t:=y) rfl];rfl
   rwa [putSet_of g W (es:=f) (ep:=ep+1) (t:=y) rfl]at q
  refine t6 (h _ _ tk (m.toList.filterMap ((ds.take p++d::ds.drop p)[·]?)) (λc u hc e=>(NF _ _<|D2 hc).trans<|as c u hc e) ⟨_,g,_,W,be,S.ex,rfl,?_,P.nodup_iff.mpr an,?_,bd.trans<|G.trans S.ld⟩ (λx=>?_) ?_);rw[B];refine Paired.pick _ Y λi hi=>?_;have:=g2.mem_iff.mp hi;rw[J0]at this;rw[U.length_eq,B9,dl,<-D];exact this;have e2:g.toList.map (·.1)=m.toList.map λi=>(f.toList.map (·.1)).getD i 0:=by
   rw[B];have:∀(is:List Nat),(∀i∈is,i<f.toList.length)->(is.filterMap (f.toList[·]?)).map (·.1)=is.map λi=>(f.toList.map (·.1)).getD i 0:=by
    intro is;induction is with
    |nil=>intro _;rfl
    |cons i is ih=>intro hi;have hl:=hi i C9;rw[Me,v9 hl,B8,B8,ih λj hj=>hi j<|A8 _ hj];congr 1;rw[Kx,D5,v9 hl];rfl
   refine this _ λi hi=>?_;have:=g2.mem_iff.mp hi;rw[J0]at this;rw[D7];exact this
  rw[e2];exact T2;rw[P.mem_iff,U.mem_iff,A0];exact⟨λz=>z.symm,λz=>z.symm⟩;rw[P.length_eq,U.length_eq];exact u6 _;rw[Ly.mpr tf];simp only[OT,A4,p6];refine t6<|h _ _ tk _ as ⟨_,f,_,y,C,S.ex,rfl,Y,an,T.ok<|Ly.mpr tf,G.trans S.ld⟩ (λx=>?_) ?_;rw[U.mem_iff,A0];exact⟨λz=>z.symm,λz=>z.symm⟩;rw[U.length_eq];exact u6 _
 refine LM (λ_=>r9<|hbv_D sm n 8 A _ d v _ _ _ hn I1 r rv kd λb=>?_) λ_=>?_;cases b with
 |true=>exact F (t.put (Ht.sq t.mask (A2 X.w n d) N).j).1.plain
 |false=>exact F bt
 exact F (t.put (Ht.sq t.mask (A2 X.w n d) N).j).1.plain;have:=ab;rcases S.tk.msk with e|e|e<;>rw[e]at this<;>lia
end
section
variable{X:Cx}{pins:List (c6×c7)}{σ:St}{H:Hp}{ρ:List c6}{M:t9}{A:d8}{E:b7->d9->Prop}{s:d9}{n:Nat}
theorem KS.at(x:KS X ρ H h a n ds)(k:∀o,h.get? a=a7 o->h'.get? a=a7 o):KS X ρ H h' a n ds:=by obtain⟨o,es,i,t,S⟩:=x;exact⟨o,es,i,t,k _ S.ob,S.ex,S.dt,S.en,S.nd,S.tk,S.ld⟩
theorem Ft(sm:u9 X.K ρ M H)(I:t4 X pins σ H s)(hn:n<=8)(hu:A.units+n+2<j4)(W:Walks X.prog X.w A.in1 J fp wr m P Sx)(S:c6)(f:S∉fp)(G:s.heap.get? S=a8) (B:∀b∈wr,s.heap.get? b=a8) (l:Nat->D) (y:∀i v,P i v->∃vv,u4 X.K ρ H (l i) vv/\aH vv v/\dw n (l i)=a9/\gh (l i)=a9) (hb:m<=63):∀(k i:Nat) (h:c8) (tk:Nat) (ds:List D),m-i=k->i<=m->Sx i h->KS X ρ H h S n ds->(∀x,x∈ds↔∃j,j<i/\l j=x)->ds.length<=i->(∀b u,s.heap.get? b=a7 u->h.get? b=a7 u) ->(∀h' tk ds',(∀b u,s.heap.get? b=a7 u->h'.get? b=a7 u)->KS X ρ H h' S n ds'->(∀x,x∈ds'↔∃j,j<m/\l j=x)->ds'.length<=m->R (.ok<|.ret .none) { s with heap:=h',toks:=tk }) ->j6 (f7 X.prog X.w) A (.builtin "set.update.loop" ⟨[.ref S,.ref J],[]⟩) R { s with heap:=h,toks:=tk }:=by
 have g:S∉wr:=λh=>f<|W.sub _ h;intro k;induction k with
 |zero =>
  intro i h tk ds hk hi t E O U a Y;obtain rfl:i=m:=by lia
  refine L6 F.entry_set_update_loop ?_;rw[Na F.plain_set_update_loop _];refine(show e8 (f7 X.prog X.w) A.in1 (i6 (.ref J) >>= _) _ _ _ from r9<|W.done _ _ _ t λh' tk d=>?_);refine t6<|Y h' tk ds (λb u e=>d b u (λz=>by rw[B b z]at e;cases e)<|a b u e) (E.at λo e=>d S o g e) O U
 |succ k ih=>intro i h tk ds hk hi t E O U a Y;refine L6 F.entry_set_update_loop ?_;rw[Na F.plain_set_update_loop _];refine(show e8 (f7 X.prog X.w) A.in1 (i6 (.ref J) >>= _) _ _ _ from r9<|W.item i _ _ _ (by lia) t λv h' tk hP p d=>?_);obtain⟨vv,r,rv,kd,it⟩:=y i v hP;have c:∀b u,s.heap.get? b=a7 u->h'.get? b=a7 u:=λb u e=>d b u (λz=>by rw[B b z]at e;cases e)<|a b u e;have Z:t4 X pins σ H { s with heap:=h',toks:=tk }:=I.kept c;refine r9<|E4<|add_D (s:={ s with heap:=h',toks:=tk }) sm Z hn (by show A.units+1+n+1<j4;lia) (E.at λo e=>d S o g e) (by lia) r rv kd it λb h2 T C V L Q ab=>?_;refine t6 ⟨MQ F.plain_set_update_loop _,ih (i+1) h2 T C (by lia) (by lia) (W.frame _ h' h2 p λb' N o e=>V b' o (λz=>f<|z ▸ N) e) L (λx=>?_) (by lia) (λb u e=>V b u (λz=>by rw[z,G]at e;cases e)<|c b u e) Y⟩;rw[Q,O];constructor;rintro(⟨j,hj,e⟩|rfl);exact⟨j,by lia,e⟩;exact⟨i,by lia,rfl⟩;rintro⟨j,hj,rfl⟩;by_cases q:j=i;subst q;exact .inr rfl;exact .inl ⟨j,by lia,rfl⟩
theorem Cd(e:h.get? a=a7 (ba X.w)):KS X ρ H h a n []:=⟨_,#[],0,_,e,⟨rfl,rfl,rfl⟩,rfl,.nil,N9,⟨.inl rfl,rfl,rfl,Pb,λj L=>by simp[SetTable.fresh]at L,(by show 0*5<7*3;decide),λi h j b=>by simp at b⟩,rfl⟩
end
section
variable{X:Cx}{pins:List (c6×c7)}{σ:St}{H:Hp}{ρ:List c6}{M:t9}{A:d8}{E:b7->d9->Prop}{s:d9}{m:Nat}
theorem FM(Z:u9 X.K ρ M H)(I:t4 X pins σ H s)(z:m<=8)(hu:A.units+m+3<j4){l:c6}{T:String}{n:Nat}{P:Nat->b7->Prop}{G:d9->Prop}(O:A.handled=a8)(K:TxSrc X.prog X.w s.heap l T n P)(a:Nat->D)(y:∀i v,P i v->∃vv,u4 X.K ρ H (a i) vv/\aH vv v/\dw m (a i)=a9/\gh (a i)=a9)(N:n<=63)(h:∀h' tk ds,(∀b o,s.heap.get? b=a7 o->h'.get? b=a7 o)->KS X ρ H h' s.heap.objs.size m ds->(∀x,x∈ds↔∃j,j<n/\a j=x)->ds.length<=n->G { s with heap:=h',toks:=tk }):e8 (f7 X.prog X.w) A (Builtin.«set.__init__» ⟨[.ref s.heap.objs.size,.ref l],[]⟩) (λfin s'=>fin=.done (.ret .none)/\G s') E { s with heap:=s.heap.push (ba X.w) }:=by
 have S:(s.heap.push<|ba X.w).get? s.heap.objs.size=a7 (ba X.w):=A9 _ rfl;have hT:N6 { s with heap:=s.heap.push (ba X.w) } (.ref s.heap.objs.size) "set":=⟨_,S,rfl⟩
 obtain⟨F,f,r⟩:=K.obj;have c:(s.heap.push<|ba X.w).get? l=a7 F:=w6 _ f;have L:N6 { s with heap:=s.heap.push (ba X.w) } (.ref l) T:=⟨F,c,r⟩
 have Y:l<s.heap.objs.size:=x3 f;have J:(s.heap.push<|ba X.w).objs.size=s.heap.objs.size+1:=K6 ..;obtain⟨oI,St,t,W,st⟩:=K.iter A.in1 { s with heap:=s.heap.push (ba X.w) } O λo e=>w6 _ e;have ns:=K.ns;have nf:=K.nf;have nd:=K.nd;unfold Builtin.«set.__init__» noKeywords Builtin.Frozenset.updateFrom;generalize d:i8=PI
 wp_walk
 subst d;refine wpAny_of_in1<|t _ _ ?_;have k:s.heap.objs.size∉[(s.heap.push<|ba X.w).objs.size,l]:=by rw[J];simp only[A0,Nx,or_false,not_or];exact⟨x9<|Kw _,Nat.ne_of_gt Y⟩
 have g:s.heap.get? s.heap.objs.size=a8:=by
  cases q:s.heap.get? s.heap.objs.size with
  |none=>rfl
  |some o=>exact o7 (x3 q)<|G4 _
 have C:∀b∈[(s.heap.push<|ba X.w).objs.size],s.heap.get? b=a8:=λb p=>by
  rw[J7.mp p,J];cases q:s.heap.get? (s.heap.objs.size+1) with
  |none=>rfl
  |some o=>exact o7 (x3 q)<|LF.mpr<|Nm _
 refine r9<|wpAny_runValue<|Ft (s:=s) Z I z (by first|exact(show A.units+m+2<j4 by lia)|exact(show A.units+1+m+2<j4 by lia)) W s.heap.objs.size k g C a y N n 0 _ _ [] rfl (z5 _) st (Cd<|w6 _ S) (λx=>by simp) (u6 _) (λb u e=>w6 _<|w6 _ e) λh' tk V Q B U R=>?_;exact t6<|t6 ⟨rfl,h h' tk V Q B U R⟩
set_option maxHeartbeats 1000000 in
theorem Gw(C:u9 X.K ρ M H)(I:t4 X pins σ H s)(f:m<=8)(Z:A.units+m+20<j4){l:c6}{T:String}{n:Nat}{P:Nat->b7->Prop}{Q:b7->d9->Prop}(u:A.handled=a8)(K:TxSrc X.prog X.w s.heap l T n P)(a:Nat->D)(y:∀i v,P i v->∃vv,u4 X.K ρ H (a i) vv/\aH vv v/\dw m (a i)=a9/\gh (a i)=a9)(t:n<=63)(h:∀h' tk ds,(∀b o,s.heap.get? b=a7 o->h'.get? b=a7 o)->KS X ρ H h' s.heap.objs.size m ds->(∀x,x∈ds↔∃j,j<n/\a j=x)->ds.length<=n->Q (.ref s.heap.objs.size) { s with heap:=h',toks:=tk }):e8 (f7 X.prog X.w) A (call (.type "set") [.ref l]) Q E s:=by
 have O:=F.called_set.made;have W:=F.called_set.sub;have U:=F.called_set.notType;have L:=F.called_set.canCreate;have Y:=F.typeCall_set_1<|.ref l;obtain⟨c,tl,V⟩:=F.called_set.mro;refine wpAny_call<|codeAny_of_tree<|show e8 _ _ (callAny (.type "set") _) _ _ _ from t6 ⟨Code.quiet_builtin _ (by decide +kernel),L6 F.entry_type_call ?_⟩;rw[Around.under_plain (weight_type_call_type "set" [.ref l] []) rfl]
 repeat (any_goals (first|assumption|wp_step))
 refine LY (uS (.ref l) (E:=E) (Q₁:=λobj s₁=>obj=.ref s.heap.objs.size/\s₁={ s with heap:=s.heap.push (ba X.w) }) ⟨rfl,rfl⟩) λr s₁ hr=>?_
 match r,hr with
 |.error e,hr=>exact hr
 |.ok (.ret obj),⟨e1,e2⟩ =>
  subst e1 e2;have S:(s.heap.push<|ba X.w).get? s.heap.objs.size=a7 (ba X.w):=A9 _ rfl;have p:N6 { s with heap:=s.heap.push (ba X.w) } (.ref s.heap.objs.size) "set":=⟨_,S,rfl⟩
  have N:=F.called_set.init.lookup;have J:=F.called_set.init.bind<|.ref s.heap.objs.size
  repeat (any_goals (first|assumption|wp_step))
  refine LY (Pi (R:=wants (λr s₂=>r=.none/\Q (.ref s.heap.objs.size) s₂) E) F.called_set.init.plain F.entry_set_init<|check_set_init_1 p ?_) λd s₂ hr₂=>?_;refine E1 (FM (G:=λB=>Q (.ref s.heap.objs.size) B) C I f (by first|(show A.units+1+1+1+m+3<j4;lia)|(show A.units+1+1+m+3<j4;lia)|(show A.units+1+m+3<j4;lia)) (by simp[u]) K a y t h) (λk s' ⟨e,g⟩=>?_) λ_ _ z=>z;subst e;exact⟨rfl,g⟩
  ·match d,hr₂ with
   |.error e,hr₂=>exact hr₂
   |.ok (.ret r),⟨e,q⟩ =>
    subst e
    repeat (any_goals (first|assumption|wp_step))
end
def SqAt(M:t9)(d:D)(xs:List D):Prop:=(∃n,d=.ref n/\al M n xs)\/d=.tup xs
theorem SrtOk.sub(h:SrtOk M xs)(s:∀y∈ys,y∈xs)(l:ys.length<64):SrtOk M ys:=by refine⟨l,λx a=>h.ok x<|s x a,λx a y O=>h.cm x (s x a) y<|s y O,?_⟩;rcases h.kd with k|k|k|k|k;exact .inl λx a=>k x<|s x a;exact .inr<|.inl λx a=>k x<|s x a;exact .inr<|.inr<|.inl λx a=>k x<|s x a;exact .inr<|.inr<|.inr<|.inl λx a=>k x<|s x a;exact .inr<|.inr<|.inr<|.inr λx a=>k x<|s x a
section
variable{X:Cx}{e:f6}{te:v5}{p p' pos pos':f8}{k:Nat}
theorem Hc(I:t4 X pins σ H s)(m:u9 X.K ρ M H)(r:u4 X.K ρ H d v)(c:aH v u)(t:SqAt M d xs):∃(a:c6) (T:String) (its:Array b7) (vs:List V),u=.ref a/\TxSrc X.prog X.w s.heap a T its.size (λi v=>its[i]?=a7 v)/\Reps X.K ρ H xs vs/\ar vs its.toList:=by
 rcases t with⟨n,rfl,h⟩|rfl;cases r with
 |@ref _ a f=>cases c;obtain⟨vs,hs,b⟩:=h.seq m f;obtain⟨its,l,p,_⟩:=I.list hs;exact⟨a,_,its.toArray,vs,rfl,TxSrc.list p.isList,b,by simpa using l⟩
 cases r with
 |@tup a vs _ hs b=>cases c;obtain⟨its,l,p,_⟩:=I.tuple hs;exact⟨a,_,its.toArray,vs,rfl,TxSrc.tuple p,b,by simpa using l⟩
theorem tW:∀{ds:List D}{vs:List V}{its:List b7}{i:Nat}{u:b7}{ρ:List c6}{H:Hp},Reps X.K ρ H ds vs->ar vs its->its[i]?=a7 u->∃d v,ds[i]?=a7 d/\u4 X.K ρ H d v/\aH v u
 |_,_,_,i,u,_,_,.nil,h,e=>by cases h;simp at e
 |_,_,_,0,u,_,_,.cons r _,h,e=>by
  cases h with
  |cons a _=>simp at e;subst e;exact⟨_,_,rfl,r,a⟩
 |_,_,_,i+1,u,_,_,.cons _ t,h,e=>by
  cases h with
  |cons _ b=>obtain⟨d,v,e1,r,rv⟩:=tW (i:=i) t b (by simpa using e);exact⟨d,v,by simpa using e1,r,rv⟩
theorem ents:∀{ds:List D}{es:List (Int×b7)},Paired (E3 X ρ H n) ds es->∃vs,Reps X.K ρ H ds vs/\ar vs (es.map (·.2))
 |_,_,.nil=>⟨[],.nil,.nil⟩
 |_,_,.cons ⟨⟨v,r,rv⟩,_⟩ t=>by obtain⟨vs,a,b⟩:=ents t;exact⟨v::vs,.cons r a,.cons rv b⟩
theorem za(p:us'.Perm us):∀{ds:List D}{vs:List V},Reps X.K ρ H ds vs->ar vs us->∃ds' vs',ds'.Perm ds/\Reps X.K ρ H ds' vs'/\ar vs' us':=by
 induction p with
 |nil=>intro ds vs r h;exact⟨ds,vs,.refl _,r,h⟩
 |cons x _ o =>
  intro ds vs r h;cases h with
  |cons a b =>
   cases r with
   |cons c d=>obtain⟨ds',vs',h1,h2,e⟩:=o d b;exact⟨_,_,h1.cons _,.cons c h2,.cons a e⟩
 |swap x y l =>
  intro ds vs r h;cases h with
  |cons a b =>
   cases b with
   |cons g j =>
    cases r with
    |cons c d =>
     cases d with
     |cons k m=>exact⟨_,_,.swap _ _ _,.cons k<|.cons c m,.cons g<|.cons a j⟩
 |trans _ _ i f=>intro ds vs r h;obtain⟨ds',vs',h1,h2,e⟩:=f r h;obtain⟨C,v,g1,n,g3⟩:=i h2 e;exact⟨C,v,g1.trans h1,n,g3⟩
end
def jw(te:v5):v5:=λS M Q=>te S M λd a=>∃n xs,n<=8/\SqAt a d xs/\xs.length<64/\(∀x∈xs,dw n x=a9/\gh x=a9)/\SrtOk a xs/\∀ys:List D,ys.Nodup->(∀x,x∈ys↔x∈xs)->GN a ys->Q (.ref a.length) (a++[.lst ys])
section
variable{X:Cx}{e:f6}{te:v5}{p p' pos pos':f8}{k:Nat}
set_option maxHeartbeats 1000000 in
theorem xL(hr:Room k X.A)(hc:X.calm=a9)(he:DE X e te)(Y:X.mg "sorted" = a8)(Z:X.mg "set" = a8)(U:X.env.kindOf "sorted" = a7 .globalImplicit)(V:X.env.kindOf "set" = a7 .globalImplicit)(h1:ge [e] X.env=[(bt,eval e X.env)]) (h2:ge [Expr.Call (.Name "set" p') [e] [] pos'] X.env=[(bt,eval (Expr.Call (.Name "set" p') [e] [] pos') X.env)]):DE X (.Call (.Name "sorted" p) [.Call (.Name "set" p') [e] [] pos'] [] pos) (jw te):=by
 rintro pins s σ H R I ⟨S,M,ρ,Q,sm,sr,q,kk⟩;refine M7<|mS I U Y (by rfl) ?_;refine callWith_builtin1 ?_ (by rw[h2];rfl) rfl;rw[h2];refine PY ?_;refine M7<|mS I V Z (by rfl) ?_;refine callWith_type1 ?_ (by rw[h1];rfl) rfl;rw[h1];refine PY<|v6 (he pins s σ H _ I ⟨S,M,ρ,_,sm,sr,q,λv H' z=>z⟩) ?_;rintro u s1 ⟨v,H1,B,rv,d,M1,bs,c,g1,r1,cases⟩;refine Calls.spliced_nil ?_;obtain⟨n,xs,n8,sq,hl,hk,so,J⟩:=cases;obtain⟨a,T,its,ws,rfl,src,w,vx⟩:=Hc B c r1 rv sq;have li:its.size=xs.length:=by have h1:=vx.length;have h2:=w.length;simp at h1;lia
 have un:=hr.un;refine Gw c B n8 (by lia) (B.ok.hd hc) src (λi=>xs.getD i .non) (λi v e=>?_) (by lia) λh2 f ds k2 l W bd=>?_;obtain⟨d,vv,e1,r,rv⟩:=tW w vx (by rw[G6];exact e);have G:xs.getD i .non=d:=by rw[Kx,e1];rfl
 have:=hk d<|J1 e1;exact⟨vv,by rw[G];exact r,rv,by rw[G];exact this.1,by rw[G];exact this.2⟩;refine Calls.spliced_nil ?_;have E:=B.kept (t':=f) k2;obtain⟨o,es,ep,t,K⟩:=l;have be:ds.length=es.size:=by have:=K.en.length;simpa using this
 have hz:es.size<=sizeLine:=by rw[LG];lia
 refine wY (s:={ s1 with heap:=h2,toks:=f }) (E.ok.hd hc) ⟨K.ob,K.dt,K.fits⟩ K.ex.1 (λz=>.inr K.tk.ris) K.ld hz λh3 bk dr D vs k3 N O pv=>?_;have h:∀x,x∈ds↔x∈xs:=λx=>by
  rw[W x,li];constructor;rintro⟨j,L,rfl⟩;have e:xs.getD j .non=xs[j]:=by simp[MK,L]
  rw[e];exact Ln L;intro hx;obtain⟨j,L,e⟩:=List.getElem_of_mem hx;exact⟨j,L,by rw[show xs.getD j .non=xs[j] by simp[MK,L]];exact e⟩
 obtain⟨bm,aj,as⟩:=ents K.en;obtain⟨ds',bl,C,an,aD⟩:=za pv aj as;obtain⟨m,hn,_⟩:=E.loc;have P:D≠X.env.locals:=λz=>by obtain⟨oL,_,_,hL,_⟩:=hn;rw[z]at N;rw[N]at hL;cases hL
 have ab:h3.Ns X.env.locals m:=hn.at' λo e=>k3 _ _ e;refine Eh (X:=X) (pins:=pins) (σ:=σ) (s:={ s1 with heap:=h2,toks:=f,drawn:=dr }) (n:=0) hr (by show X.A.units+1<=X.A.units+4;lia) E.drew c (so.sub (ys:=ds') (λy hy=>(h y).mp<|C.mem_iff.mp hy)<|by rw[C.length_eq];lia).g an aD hn ab (λb u _ e=>k3 b u e) N P O λv H' x=>?_;refine kk v H' ?_;have:=x (λd F=>Q d F) λys hp ai=>?_;obtain⟨d,F,aS,a1,a2,a3,a4⟩:=this;exact⟨d,F,aS,a1,g1.trans a2,a3,a4⟩;exact J ys ((hp.trans C).nodup_iff.mpr K.nd) (λx=>((hp.trans C).mem_iff).trans<|h x) ai
theorem xD(r:Room k X.A)(i:HE X e te)(Y:X.mg "sorted" = a8)(Q:X.mg "set" = a8)(f:X.calm=a9:=by kernel_rfl)(U:X.env.kindOf "sorted" = a7 .globalImplicit:=by kernel_rfl)(V:X.env.kindOf "set" = a7 .globalImplicit:=by kernel_rfl)(h1:ge [e] X.env=[(bt,eval e X.env)]:=by kernel_rfl) (h2:ge [Expr.Call (.Name "set" p') [e] [] pos'] X.env=[(bt,eval (Expr.Call (.Name "set" p') [e] [] pos') X.env)]:=by kernel_rfl):HE X (.Call (.Name "sorted" p) [.Call (.Name "set" p') [e] [] pos'] [] pos) (jw te):=⟨xL r f i.ok Y Q U V h1 h2⟩
end
def fM(h:c8):Nat->D->b7->Prop
 |_,.str x,v=>∃t,v=.str x t
 |_,.int i,v=>∃t,v=.int i t
 |n+1,.tup ds,v=>∃a its,v=.ref a/\h.IsTuple a its/\Paired (fM h n) ds its.toList
 |_,_,_=>False
noncomputable def NP:Nat->D->Nat
 |n+1,.tup ds=>(ds.map<|NP n).sum+1
 |_,_=>1
theorem ju:∀(n:Nat) (d:D) (v:b7),fM h n d v->dw n d=a9:=by
 intro n;induction n with
 |zero=>intro d v k;cases d<;>first|rfl|exact k.elim
 |succ n b =>
  intro d v k;cases d with
  |str x=>rfl
  |int x=>rfl
  |tup ds =>
   obtain⟨a,its,_,_,p⟩:=k;show ds.all (dw n)=a9;generalize its.toList=l at p;induction p with
   |nil=>rfl
   |cons r _ i=>rw[KT,b _ _ r,i];rfl
  |_=>exact k.elim
theorem uL{h:c8}{a:c6}{xs ys:Array b7}(h1:h.IsTuple a xs)(h2:h.IsTuple a ys):xs=ys:=by obtain⟨o,t,_,n,d⟩:=h1;obtain⟨o',l,_,f,b⟩:=h2;obtain rfl:o=o':=B5<|t.symm.trans l;rw[d]at b;injection b
theorem mV{h:c8}:∀(n:Nat) (x y:D) (v:b7),fM h n x v->fM h n y v->x=y:=by
 intro n;induction n with
 |zero =>
  intro x y v C B;cases x with
  |str a =>
   obtain⟨t,rfl⟩:=C;cases y with
   |str b=>obtain⟨t',e⟩:=B;injection e with e;rw[e]
   |int b=>obtain⟨t',e⟩:=B;cases e
   |_=>exact B.elim
  |int a =>
   obtain⟨t,rfl⟩:=C;cases y with
   |str b=>obtain⟨t',e⟩:=B;cases e
   |int b=>obtain⟨t',e⟩:=B;injection e with e;rw[e]
   |_=>exact B.elim
  |_=>exact C.elim
 |succ n d =>
  intro x y v C B;cases x with
  |str a =>
   obtain⟨t,rfl⟩:=C;cases y with
   |str b=>obtain⟨t',e⟩:=B;injection e with e;rw[e]
   |int b=>obtain⟨t',e⟩:=B;cases e
   |tup b=>obtain⟨_,_,e,_⟩:=B;cases e
   |_=>exact B.elim
  |int a =>
   obtain⟨t,rfl⟩:=C;cases y with
   |str b=>obtain⟨t',e⟩:=B;cases e
   |int b=>obtain⟨t',e⟩:=B;injection e with e;rw[e]
   |tup b=>obtain⟨_,_,e,_⟩:=B;cases e
   |_=>exact B.elim
  |tup xs =>
   obtain⟨a,its,rfl,E,g⟩:=C;cases y with
   |str b=>obtain⟨t',e⟩:=B;cases e
   |int b=>obtain⟨t',e⟩:=B;cases e
   |tup ys =>
    obtain⟨_,i,e,F,j⟩:=B;cases e;obtain rfl:=uL E F;congr 1;generalize its.toList=l at g j;induction g generalizing ys with
    |nil=>cases j;rfl
    |cons r _ c=>cases j with
     |cons r' t'=>rw[d _ _ _ r r',c _ t']
   |_=>exact B.elim
  |_=>exact C.elim
theorem xC(k:∀a its,h.IsTuple a its->h'.IsTuple a its):∀(n:Nat) (d:D) (v:b7),fM h n d v->fM h' n d v:=by
 intro n;induction n with
 |zero=>intro d v q;cases d<;>first|exact q|exact q.elim
 |succ n i =>
  intro d v q;cases d with
  |str x=>exact q
  |int x=>exact q
  |tup ds=>obtain⟨a,its,e,t,p⟩:=q;exact⟨a,its,e,k _ _ t,Paired.mapP p λx y r=>i x y r⟩
  |_=>exact q.elim
theorem uJ{es ep}(q:fM h n k v)(B:h.get? d=a7 o)(f:o.data=.dict es ep)(hs:Li d h h'):fM h' n k v:=by
 refine xC (λa its ⟨o',e,c,m,t⟩=>?_) n k v q;have b:a≠d:=by rintro rfl;obtain rfl:o'=o:=B5<|e.symm.trans B;rw[f]at t;cases t
 exact⟨o',(hs.2 a b).trans e,c,m,t⟩
section
variable{prog:c5}{w:c3}
theorem oQ:∀(n:Nat) (A:d8) (s:d9) (d:D) (u:b7) (E:b7->d9->Prop) (Q:Int->d9->Prop),A.units+n<j4->fM s.heap n d u ->Q (A2 w n d) { s with toks:=s.toks+NP n d }->e8 (f7 prog w) A (pyHash u) Q E s:=by
 intro n;induction n with
 |zero =>
  intro A s d u E Q r k h;cases d with
  |str x=>obtain⟨t,rfl⟩:=k;exact Oe h
  |int x=>obtain⟨t,rfl⟩:=k;exact Of h
  |_=>exact k.elim
 |succ n v =>
  intro A s d u E Q r k h;cases d with
  |str x=>obtain⟨t,rfl⟩:=k;exact Oe h
  |int x=>obtain⟨t,rfl⟩:=k;exact Of h
  |tup ds =>
   obtain⟨a,its,rfl,⟨o,B,j,S,q⟩,p⟩:=k;have m:s.TypeIs (.ref a) "tuple":=⟨o,B,j⟩
   unfold pyHash
   first|unfold pyHashByItsType|skip
   first|refine r9 (wpAny_cRoomFor_or (.inr<|by lia) ?_)|skip
   refine r9<|L8 m F.slot_tuple_hash.lookup ?_;refine(show e8 (f7 prog w) _ (if (a7 (Nq "tuple.__hash__")==a7 ABh)=a9 then _ else _) Q E s from ?_);rw[o6<|by rw[beq_builtin_none];exact LP];refine r9<|L8 m F.slot_tuple_hash.lookup ?_;refine(show e8 (f7 prog w) _ (callSpecialIfBoundUnlessNone? (.ref a) "__hash__" _ >>= _) Q E s from r9<|Qu m F.slot_tuple_hash<|Ks F.slot_tuple_hash m F.entry_tuple_hash ?_<|F.args_tuple_hash_1 _);refine(show e8 (f7 prog w) _ (Pv (.ref a) >>= _) _ _ s from r9<|wpAny_tupleItemsOf B q<|r9 ?_);rw[<-Ny];refine Lm _ (λaF (b:Array Int) s'=>∃done left,ds=done++left/\Paired (fM s.heap n) left aF/\b.toList=done.map (A2 w n)/\s'={ s with toks:=s.toks+(done.map<|NP n).sum }) _ ?_ ?_ _ _ ⟨[],ds,rfl,p,rfl,rfl⟩;rintro x aF b s' ⟨done,left,e,h1,f,rfl⟩;cases h1 with
   |@cons g _ c _ U L =>
    refine r9<|v _ _ g x _ _ (by show A.units+1+n<j4;lia) U ?_
    first
     |exact t6 ⟨done++[g],c,by rw[e];simp,L,by simp[f],by simp[Nat.add_assoc]⟩
     |exact r9 (t6 (t6 ⟨done++[g],c,by rw[e];simp,L,by simp[f],by simp[Nat.add_assoc]⟩))
   rintro b s' ⟨done,left,e,h1,f,rfl⟩;cases h1;rw[KO]at e;subst e;refine(show e8 (f7 prog w) _ (retInt<|Nc b.toList) _ _ _ from ?_);rw[f];refine wpAny_ret_mkInt ?_;have l:A2 w (n+1) (.tup ds)=m8 (Nc<|ds.map<|A2 w n):=rfl;have h':Q (A2 w (n+1)<|.tup ds) { s with toks:=s.toks+(ds.map<|NP n).sum+1 }:=h;generalize Nc (ds.map<|A2 w n)=z at l;refine(show e8 (f7 prog w) _ (if (decide (-(2:Int) ^ 63<=z)&&decide (z<2 ^ 63))=a9 then _ else _) Q E _ from ?_);unfold m8 at l;by_cases i:(decide (-(2:Int) ^ 63<=z)&&decide (z<2 ^ 63))=a9;rw[o5 i]at l ⊢;exact t6 (by rw[<-l];exact h');rw[o6 i]at l ⊢;exact r9<|KA<|t6<|by rw[<-l];exact h'
  |_=>exact k.elim
theorem mU:∀(n k:Nat) (A:d8) (s:d9) (d:D) (u:b7) (E:b7->d9->Prop) (Q:Bool->d9->Prop),n<=k->fM s.heap n d u->Q a9 s->e8 (f7 prog w) A (o0 k u) Q E s:=by
 intro n;induction n with
 |zero =>
  intro k A s d u E Q c q h;cases d with
  |str x=>obtain⟨t,rfl⟩:=q;rw[Mv k (v:=.str x t) rfl];exact t6 h
  |int x=>obtain⟨t,rfl⟩:=q;rw[Mv k (v:=.int x t) rfl];exact t6 h
  |_=>exact q.elim
 |succ n e =>
  intro k A s d u E Q c q h;cases d with
  |str x=>obtain⟨t,rfl⟩:=q;rw[Mv k (v:=.str x t) rfl];exact t6 h
  |int x=>obtain⟨t,rfl⟩:=q;rw[Mv k (v:=.int x t) rfl];exact t6 h
  |tup ds =>
   obtain⟨a,its,rfl,⟨o,B,f,S,b⟩,p⟩:=q;obtain⟨k,rfl⟩:∃H,k=H+1:=⟨k-1,by lia⟩
   have m:s.TypeIs (.ref a) "tuple":=⟨o,B,f⟩
   unfold o0;refine r9<|L8 m F.slot_tuple_eq.lookup ?_;refine(show e8 (f7 prog w) A (isInstance (.ref a) (.type "tuple") >>= _) _ _ s from r9<|MW m isSubtype_tuple_tuple ?_);simp only[Lj,A4,p6];refine r9<|MS B b ?_;simp only[Option.getD_some];refine r9 ?_;refine(show e8 (f7 prog w) A (forIn its _ _) _ _ s from ?_);rw[<-Ny];refine Lm _ (λaF r s'=>r.1=a8/\s'=s/\∃left,Paired (fM s.heap n) left aF) _ ?_ ?_ _ _ ⟨rfl,rfl,ds,p⟩;rintro x aF r s' ⟨i,rfl,left,h1⟩;cases h1 with
   |cons U L=>refine r9<|e k _ _ _ x _ _ (by lia) U ?_;simp only[Lj,A4,p6];exact t6 ⟨rfl,rfl,_,L⟩
   rintro⟨r1,r2⟩ s' ⟨i,rfl,_⟩;simp only at i;subst i;exact t6 h
  |_=>exact q.elim
theorem kq{h:c8}{n:Nat}{ds:List D}{its:Array b7}(p:Paired (fM h n) ds its.toList):ds.length=its.size:=by
 rw[<-D7];generalize its.toList=l at p;induction p with
 |nil=>rfl
 |cons _ _ i=>rw[B9,B9,i]
theorem Ck:∀(n:Nat) (A:d8) (s:d9) (x y:D) (u v:b7),A.units+n<j4->fM s.heap n x u->fM s.heap n y v->K5 A s u v (u3 [] n x y):=by
 intro n;induction n with
 |zero =>
  intro A s x y u v z C B;cases x with
  |str a =>
   obtain⟨t,rfl⟩:=C;cases y with
   |str b=>obtain⟨t',rfl⟩:=B;exact Pf _ _ _ _
   |int b=>obtain⟨t',rfl⟩:=B;exact Om _ _ _ _
   |_=>exact B.elim
  |int a =>
   obtain⟨t,rfl⟩:=C;cases y with
   |str b=>obtain⟨t',rfl⟩:=B;exact On _ _ _ _
   |int b=>obtain⟨t',rfl⟩:=B;exact Pg _ _ _ _
   |_=>exact B.elim
  |_=>exact C.elim
 |succ n F =>
  intro A s x y u v z C B;have c:A.units<j4:=by lia
  have h:A.in1.units+n<j4:=by show A.units+1+n<j4;lia
  cases x with
  |str a =>
   obtain⟨t,rfl⟩:=C;cases y with
   |str b=>obtain⟨t',rfl⟩:=B;exact Pf _ _ _ _
   |int b=>obtain⟨t',rfl⟩:=B;exact Om _ _ _ _
   |tup b=>obtain⟨_,_,rfl,p,_⟩:=B;exact SeqAt.EqAt.str_tuple _ _ p c
   |_=>exact B.elim
  |int a =>
   obtain⟨t,rfl⟩:=C;cases y with
   |str b=>obtain⟨t',rfl⟩:=B;exact On _ _ _ _
   |int b=>obtain⟨t',rfl⟩:=B;exact Pg _ _ _ _
   |tup b=>obtain⟨_,_,rfl,p,_⟩:=B;exact SeqAt.EqAt.int_tuple _ _ p c
   |_=>exact B.elim
  |tup xs =>
   obtain⟨a,its,rfl,p,k⟩:=id C;cases y with
   |str b=>obtain⟨t',rfl⟩:=B;exact SeqAt.EqAt.tuple_str _ _ p c
   |int b=>obtain⟨t',rfl⟩:=B;exact SeqAt.EqAt.tuple_int _ _ p c
   |tup ys =>
    obtain⟨b,d,rfl,N,m⟩:=id B;by_cases U:a=b;subst U;have e:=mV (n+1) _ _ _ C B;rw[e,(iN (M:=[]) (n+1) _ _ (ju _ _ _ B)<|ju _ _ _ B).mpr rfl];exact OY _;have S:=kq k;have E:=kq m;have f:∀(j:Nat) (h1:j<its.size) (h2:j<d.size),K5 A.in1 s its[j] d[j] (u3 [] n (xs.getD j .non)<|ys.getD j .non):=λj h1 h2=>by
     obtain⟨o,r,G⟩:=dR k (i:=j) (y:=its[j]) (by rw[G6];exact Kn h1);obtain⟨q,w,H⟩:=dR m (i:=j) (y:=d[j]) (by rw[G6];exact Kn h2);have I:xs.getD j .non=o:=by rw[Kx,r];rfl
     have J:ys.getD j .non=q:=by rw[Kx,w];rfl
     rw[I,J];exact F A.in1 s o q _ _ h G H
    have l:((A7<|min its.size d.size).all (λj=>u3 [] n (xs.getD j .non)<|ys.getD j .non)&&its.size==d.size)=D1 (u3 [] n) xs ys:=by
     by_cases g:xs.length=ys.length;have Z:(A7 xs.length).all (λj=>u3 [] n (xs.getD j .non)<|ys.getD j .non)=D1 (u3 [] n) xs ys:=mY g λj x y h1 h2=>by simp[MK,h1,h2]
     rw[<-S,<-E,<-g,Nat.min_self,Z];simp;rw[An g,<-S,<-E];simp[g]
    have h1:=SeqAt.RcAt.tuples p N c f;rw[l]at h1;exact SeqAt.EqAt.of_refs U h1
   |_=>exact B.elim
  |_=>exact C.elim
end
noncomputable instance decD:DecidableEq D:=λa b=>J2<|a=b
noncomputable def bW(prog:c5)(w:c3):HeapKind prog w D where
 is:=λh d a=>fM h 8 d<|.ref a
 hash:=A2 w 8
 draws:=NP 8
 room:=λA=>A.units+8<j4
 inj:=λx y=>mV 8 _ _ _ x y
 keeps:=λx B c hs=>uJ x B c hs
 pyHash:=λg k h=>oQ 8 _ _ _ _ _ _ g k h
 eqBool:=λ{A E s x y a b Q} g k1 k2 h=>by
  refine Ck 8 A s x y _ _ g k1 k2 _ _ _ _ ?_;have e:u3 [] 8 x y=decide (x=y):=by rw[Bool.eq_iff_iff,iN 8 x y (ju _ _ _ k1)<|ju _ _ _ k2,o8]
  rw[e];exact h
 quiet:=λk h=>mU 8 8 _ _ _ _ _ _ (u6 _) k h
noncomputable def bi(kvs:List (D×D))(k:D):Option D:=(kvs.find? λp=>decide<|p.1=k).map (·.2)
noncomputable def ji(kvs:List (D×D))(k d:D):List (D×D):=if (bi kvs k).isSome then kvs.map (λp=>if p.1=k then(p.1,d)else p)else kvs++[(k,d)]
section
variable{K:t8}{ρ:List c6}{H:Hp}{M:t9}{kvs:List (D×D)}{xs:List (D×c6×b7)}
theorem wd(r:Paired (xY K ρ H) kvs xs)(k:D):(bi kvs k=a8/\atKey xs k=a8)\/∃d p v,bi kvs k=a7 d/\atKey xs k=a7 p/\u4 K ρ H d v/\aH v p.2:=by
 unfold bi atKey;induction r with
 |nil=>exact .inl ⟨rfl,rfl⟩
 |@cons p q ps qs h t i=>obtain⟨h1,_,_,v,a,b⟩:=h;rw[K7,K7];by_cases e:p.1=k;rw[dT_ e,dT_<|h1.symm.trans e];exact .inr ⟨_,_,v,rfl,rfl,a,b⟩;rw[dF_ e,dF_<|λz=>e<|h1.trans z];exact i
theorem Dx(r:Paired (xY K ρ H) kvs xs)(n:dw 8 k=a9)(o:u4 K ρ H k (.ref b))(f:u4 K ρ H d v)(g:aH v u):Paired (xY K ρ H) (ji kvs k d) (storedH xs k b u):=by
 unfold ji storedH;have s:(bi kvs k).isSome=(atKey xs k).isSome:=by rcases wd r k with⟨a,l⟩|⟨_,_,_,a,l,_⟩<;>rw[a,l]<;>rfl
 rw[s];by_cases q:(atKey xs k).isSome=a9;rw[o5 q,o5 q];clear s q;induction r with
 |nil=>exact .nil
 |@cons p q ps qs h t i=>rw[B8,B8];refine .cons ?_ i;obtain⟨h1,h2,c,w,j,m⟩:=h;by_cases e:p.1=k;rw[o5 e,putAt,o5<|h1.symm.trans e];exact⟨h1,h2,c,v,f,g⟩;rw[o6 e,putAt,o6<|λz=>e<|h1.trans z];exact⟨h1,h2,c,w,j,m⟩
 rw[o6 q,o6 q];clear s q;induction r with
 |nil=>exact .cons ⟨rfl,n,o,v,f,g⟩ .nil
 |cons h t i=>exact .cons h i
theorem iM(r:Paired (xY K ρ H) kvs xs):xs.map (·.1)=kvs.map (·.1):=by
 induction r with
 |nil=>rfl
 |cons h t i=>rw[B8,B8,i,h.1]
theorem gB:(ji kvs k d).length<=kvs.length+1:=by unfold ji;split;rw[u8];lia;rw[A1];exact u6 _
theorem A6.writtenX{a p:c6}{xs:List V}{φ:c5->c3->c8->Prop}{o:HO}(b:H p=a7 (.ext φ))(h:A6 K H a xs):A6 K (v8 H p o) a xs:=by
 rcases h with h|h;rcases h with h|⟨c,h⟩
 exact .inl (.inl<|by rw[au<|xo h b<|by intro z;cases z];exact h);exact .inl<|.inr ⟨c,by rw[au<|xo h b<|by intro z;cases z];exact h⟩;exact .inr h
theorem u9.writeT(S:u9 K ρ M H)(t:ρ[n]?=a7 a)(u:M[n]?=a7 (.dkt kvs))(s:H a=a7 (.ext<|dX a xs))(w:kvs'.length<=sizeLine)(hs:(a==c9)=bt)(x:(kvs'.map (·.1)).Nodup)(r:Paired (xY K ρ H) kvs' xs'):u9 K ρ (M.set n<|.dkt kvs') (v8 H a<|.ext<|dX a xs')/\Grow K ρ H ρ (v8 H a<|.ext<|dX a xs'):=by
 have g:Grow K ρ H ρ (v8 H a<|.ext<|dX a xs'):=⟨L7,λ_ _ h=>A6.writtenX s h⟩
 have k:∀m,m≠n->(M.set n<|.dkt kvs')[m]?=M[m]?:=λm e=>KY<|D2 e;have c:¬KP M[n]?:=λ⟨_,z⟩=>by rw[u]at z;cases z
 refine⟨⟨λm l b i d f=>?_,by rw[Mu];exact S.len,λm b o d f=>?_⟩,g⟩;have q:=S.nd m l b i d f;by_cases h1:m=n;subst h1;rw[k l<|D2 i];exact .inr<|q.resolve_left c;rw[k m h1];by_cases h2:l=n;subst h2;exact .inl<|q.resolve_right c;rw[k l h2];exact q;by_cases e:m=n;subst e;have j:b=a:=B5<|d.symm.trans t;subst j;rw[Lp<|by rw[<-S.len];exact(z6.mp t).1]at f;cases f;refine⟨w,hs,x,xs',aZ,Paired.mapP r ?_⟩;rintro _ _ ⟨y,A,B,v,G,C⟩;exact⟨y,A,B.grow g,v,G.grow g,C⟩;rw[k m e]at f;by_cases j:b=a;subst j;have p:=(S.nd m n b e d t).resolve_right c;rw[f]at p;exact(S.obj m b o d f).grow g<|.inr p;exact(S.obj m b o d f).grow g<|.inl<|au j
end
section
variable{X:Cx}{pins:List (c6×c7)}{σ:St}{H:Hp}{s:d9}{ρ:List c6}{M:t9}
theorem fW(I:t4 X pins σ H s):∀(n:Nat) (d:D) (v:V) (u:b7),u4 X.K ρ H d v->aH v u->dw n d=a9->fM s.heap n d u:=by
 intro n;induction n with
 |zero =>
  intro d v u r b k;cases r with
  |str x=>exact b
  |int x=>exact b
  |_=>cases k
 |succ n f =>
  intro d v u r b k;cases r with
  |str x=>exact b
  |int x=>exact b
  |@tup a vs ds q c =>
   cases b;obtain⟨its,l,p,z⟩:=I.tuple q;have h:∀x∈ds,dw n x=a9:=F0.mp<|show ds.all (dw n)=a9 from k;refine⟨a,its.toArray,rfl,p,?_⟩;rw[List.toList_toArray];clear p q k z;induction l generalizing ds with
   |nil=>cases c;exact .nil
   |cons g j i =>
    cases c with
    |cons h1 E=>exact .cons (f _ _ _ h1 g<|h _ C9)<|i E λx e=>h x<|A8 _ e
  |_=>cases k
theorem nb(I:t4 X pins σ H s)(m:u9 X.K ρ M H){n:Nat}{a:c6}{kvs:List (D×D)}(e:ρ[n]?=a7 a)(u:M[n]?=a7 (.dkt kvs)):∃xs,H a=a7 (.ext<|dX a xs)/\Paired (xY X.K ρ H) kvs xs/\s.heap.DictOfH (bW X.prog X.w) a xs/\(a==c9)=bt/\kvs.length<=sizeLine/\xs.length=kvs.length/\(kvs.map (·.1)).Nodup:=by
 obtain⟨h1,h2,h,xs,b,r⟩:=m.obj _ _ _ e u;obtain⟨⟨o,es,t,l,R,c⟩,_⟩:=(show cj X.prog X.w H s.heap a (.ext<|dX a xs)from I.hok a _ b)
 have k:=iM r;refine⟨xs,b,r,⟨o,es,_,t,l,R,c,λx d=>?_,by rw[k];exact h⟩,h2,h1,?_,h⟩;obtain⟨i,hi⟩:=Lc d;obtain⟨p,_,q,g,j,_⟩:=dR r hi;rw[<-q];exact fW I 8 _ _ _ j rfl g;have:=p8 KB k
 rwa [u8,u8]at this
theorem uP(d:dX a xs P w h'):cj P w H' h' a (.ext<|dX a xs):=by obtain⟨o,es,t,l,R,I⟩:=d;refine⟨⟨o,es,t,l,R,I⟩,⟨o,t⟩,?_⟩;rintro h1 h2 ⟨o,es,t,l,R,I⟩ k;exact⟨o,es,k _ t,l,R,I⟩
theorem DN(I:t4 X pins σ H s)(h:H a=a7 (.ext<|dX a xs)):dX a xs X.prog X.w s.heap:=(show cj X.prog X.w H s.heap a (.ext<|dX a xs)from I.hok a _ h).1
end
theorem setE(x:(bW prog w).room A.in1)(t:(bW prog w).is s.heap k b)(u:s.heap.DictOfH (bW prog w) d xs) (y:dX d xs prog w s.heap) (hz:xs.length<=sizeLine)(n:∀h',dX d (storedH xs k b v) prog w h'->Li d s.heap h'->Q () { s with heap:=h',toks:=s.toks+(bW prog w).draws k }):e8 (f7 prog w) A (setItem (.ref d) (.ref b) v) Q E s:=by
 have m:=u.typeIs;obtain⟨_,_,_,_,_,_,_,g,f⟩:=u;obtain⟨o,es,B,r,h,c⟩:=y;have i:es.toList=xs.map (d5<|bW prog w):=c;unfold setItem
 try with_reducible refine E4 ?_
 refine r9<|wpAny_sequenceKey m (by decide)<|r9<|Lz (name:=t5 "__setitem__") m slot_dict_setitem<|Ks slot_dict_setitem m entry_dict_setitem ?_<|args_dict_setitem _ _ _;refine(show e8 (f7 prog w) _ (Builtin.Dict.notOrdered "__setitem__" ⟨[.ref d,.ref b,v],[]⟩ >>= _) _ _ s from r9<|Ot m ?_);refine(show e8 (f7 prog w) _ (dictSet d (.ref b) v >>= _) _ _ s from r9 ?_);unfold dictSet
 try with_reducible refine E4 ?_
 refine r9<|(bW prog w).pyHash x t ?_;unfold dictSetHashed
 try with_reducible refine E4 ?_
 have C:es.size=xs.length:=size_of_entries i;refine r9<|wpAny_dictFind_heap (s:={ s with toks:=s.toks+(bW prog w).draws k }) x t B h i g f (λa=>?_) λj p L=>?_;refine r9<|KA<|wpAny_updateDictKeys (hz:=by lia) (s:={ s with toks:=s.toks+(bW prog w).draws k }) B h<|t6 ⟨.none,rfl,t6<|n _ ⟨_,es.push ⟨(bW prog w).hash k,.ref b,v⟩,KI _ B<|Oo<|NA h _,r.mapDictKeys _,?_,?_⟩<|KW ..⟩;rw[NA h,storedH_new<|O7 a,A1];rfl;rw[storedH_new<|O7 a];rw[Oi,i,Kr];rfl;refine r9<|KA<|r9<|wpAny_updateDict (s:={ s with toks:=s.toks+(bW prog w).draws k }) B h<|wpAny_point<|t6 ⟨.none,rfl,t6<|n _ ⟨_,es.modify j λe=>{ e with val:=v },KI _ B<|Oo<|O2 h _,r.mapDict _,?_,?_⟩<|KW ..⟩;rw[O2 h,storedH_old<|atKey_of_get f L,u8];rw[storedH_old<|atKey_of_get f L];have q:=modify_map_putAt (d5<|bW prog w) (λe:m7=>{ e with val:=v }) k v (λ_ _=>rfl) f L;rw[<-i]at q;obtain⟨l⟩:=es;have z:(Array.modify ⟨l⟩ j λe:m7=>{ e with val:=v }).toList=(xs.map<|putAt k v).map (d5<|bW prog w):=by simpa using q
 exact z
section
variable{X:Cx}{o i value:f6}{td ty tv:v5}{pos pos':f8}{k:Nat}
def xM:v5:=λ_ M Q=>Q (.ref M.length)<|M++[.dkt []]
theorem JW:DE X (.Dict [] [] pos) xM:=by rintro p s σ H R I ⟨S,M,ρ,Q,m,b,q,C⟩;have f:H s.heap.objs.size=a8:=I.hok.fresh<|u6 _;have d:(s.heap.objs.size==c9)=bt:=beq_eq_false_iff_ne.mpr<|D2<|x9 I.big;refine wpAny_Dict_empty ⟨.ref s.heap.objs.size,_,I.laid (a:=s.heap.objs.size) (o:=.ext<|dX s.heap.objs.size []) (t':=s.toks) (λ_ _ q=>w6 _ q) (u6 _)<|uP ⟨_,#[],A9 _ rfl,⟨rfl,rfl,rfl⟩,rfl,rfl⟩,rfl,?_⟩;exact C _ _ ⟨.ref M.length,M++[.dkt []],ρ++[s.heap.objs.size],m.laidM (mo:=.dkt []) f ⟨z5 _,d,N9,[],aZ,.nil⟩,Grow.laidR f,.ref m.last,(show Q (.ref M.length) (M++[.dkt []])from q)⟩
def jV(t b:v5):v5:=λS M Q=>t S M λx a=>b S a λy M2=>match x,y with
 |.ref n,.tup ks=>∃s d,M2[n]?=a7 (.dkt s)/\dw 8 (.tup ks)=a9/\bi s (.tup ks)=a7 d/\Q d M2
 |_,_=>False
theorem JX(T:Room k X.A)(P:DE X o td)(hi:DE X i ty)(hs:NoSl i):DE X (.Subscript o i pos) (jV td ty):=by
 rintro c s σ H R I ⟨S,M,ρ,Q,sm,G,q,W⟩;have un:=T.un;refine Ec PySem.F.slot_dict_getitem.lookup hs<|v6 (P c s σ H _ I ⟨S,M,ρ,_,sm,G,q,λv H' z=>z⟩) ?_;rintro u s1 ⟨v,H1,K,rv,x,L,l,j,g1,r1,Z⟩;refine v6 (hi c s1 σ H1 _ K ⟨S,L,l,_,j,G.grow g1,Z,λv H' z=>z⟩) ?_;rintro iv s2 ⟨w,J,f,h,y,M2,m,e,C,r2,g⟩;cases x with
 |ref n =>
  cases y with
  |tup E =>
   obtain⟨Y,d,N,V,D,q3⟩:=g;obtain⟨a,rfl,O⟩:=u4.inv_ref r1;obtain rfl:u=ABF a:=rv;obtain⟨xs,hH,r,B,U,hl,hx,_⟩:=nb f e (aq C.pre O) N;have t:=fW f 8 _ _ _ r2 h V;rcases wd r (.tup E)with⟨z,_⟩|⟨d',p,v',e1,e2,e3,e4⟩
   rw[D]at z;cases z;rw[D]at e1;cases e1;obtain⟨b,_,rfl,_⟩:=id t;refine⟨B.typeIs,wpAny_getItem_heap (knd:=bW X.prog X.w) (k:=.tup E) (by show X.A.units+1+8<j4;lia) t B e2 ⟨v',J,f.tok _,e4,W _ _ ⟨d,M2,m,e,g1.trans C,e3,q3⟩⟩⟩
  |_=>exact g.elim
 |_=>exact g.elim
def sY(t d c:v5):t7:=λE S M=>c S M λv b=>t S b λx M2=>d S M2 λy a=>match x,y with
 |.ref n,.tup ks=>∃s,a[n]?=a7 (.dkt s)/\dw 8 (.tup ks)=a9/\s.length<sizeLine/\E.nx S (a.set n<|.dkt<|ji s (.tup ks) v)
 |_,_=>False
theorem pq(h:(kvs.map (·.1)).Nodup):((ji kvs y v).map (·.1)).Nodup:=by
 unfold ji;split;rw[E7];have:((λx:D×D=>x.1) ∘ λp:D×D=>if p.1=y then(p.1,v)else p)=λx=>x.1:=by funext p;show (if p.1=y then(p.1,v)else p).1=p.1;split<;>rfl
 rw[this];exact h;rename_i q;rw[Kr,List.map_singleton,O6];refine⟨h,by simp,λa f b d=>?_⟩;rw[J7.mp d];rintro rfl;obtain⟨p,c,e⟩:=w9.mp f;refine q ?_;unfold bi;rw[Option.isSome_map,List.find?_isSome];exact⟨p,c,by simpa using e⟩
theorem Gd(hr:Room k X.A)(ho:DE X o td)(hi:DE X i ty)(hv:DE X value tv)(hs:g9 value (a7<|.Subscript o i pos') pos.line X.env=pure bt):DS X (.Assign [.Subscript o i pos'] value pos) (sY td ty tv):=by
 rintro p s σ H E I ⟨S,M,ρ,F,sm,j,q,kk⟩;have un:=hr.un;refine wpAny_Assign_Subscript (v6 (hv p s σ H _ I ⟨S,M,ρ,_,sm,j,q,λv H' z=>z⟩) λr s1 ⟨v,H1,V,rv,dv,Y,G,C,g1,r1,q1⟩=>v6 (ho p s1 σ H1 _ V ⟨S,Y,G,_,C,j.grow g1,q1,λv H' z=>z⟩) λu s2 ⟨vx,T,W,rx,x,M2,J,D,g,r2,q2⟩=>v6 (hi p s2 σ T _ W ⟨S,M2,J,_,D,(j.grow g1).grow g,q2,λv H' z=>z⟩) ?_) hs;rintro iv s3 ⟨vy,H3,f,Q,y,M3,K,e,g3,P,B⟩;cases x with
 |ref n =>
  cases y with
  |tup O =>
   obtain⟨kvs,L,N,hl,q4⟩:=B;obtain⟨a,rfl,hn⟩:=u4.inv_ref r2;obtain rfl:u=ABF a:=rx;have h:=aq g3.pre hn;obtain⟨xs,l,r,Z,U,_,hx,nd⟩:=nb f e h L;have t:=fW f 8 _ _ _ P Q N;obtain⟨b,_,rfl,_⟩:=id t;obtain⟨_,_,rfl,m,rr⟩:=u4.inv_tup P;cases Q;have r':=Dx r N (.tup m rr) ((r1.grow g).grow g3) rv;have pl:=gB (kvs:=kvs) (k:=.tup O) (d:=dv);obtain⟨w1,R⟩:=e.writeT h L l (by have:=pl;lia) U (pq nd) r';refine setE (k:=.tup O) (by show X.A.units+1+8<j4;lia) t Z (DN f l) (by lia) λh' c w=>?_;have he:∃q,h'.get? a=a7 q:=let ⟨q,_,m,_⟩:=c;⟨q,m⟩
   exact⟨σ,_,uR f (by rw[l];exact Mn) w he<|uP c,kk.nx σ _<|SQ.trans ((g1.trans g).trans g3) ⟨S,_,K,w1,R,(((j.grow g1).grow g).grow g3).grow R,q4⟩⟩
  |_=>exact B.elim
 |_=>exact B.elim
def OG(r:Nat->B7)(d:v5)(t:D4):v5:=λS M Q=>d S M λx a=>match x with
 |.ref n=>(∃s,a[n]?=a7 (.dkt s))/\t S a λds M2=>r n ds M2 Q
 |_=>False
variable{name:b9}{id:String}{e:f6}{es:List f6}{to:v5}{t:D4}{apos cpos:f8}
theorem d_mt{r:Nat->B7}(slot:Slot "dict" name id)(y:l7 (.builtin id)=pure (.type "method_descriptor"))(T:H9 X id (jQ X.K r))(U:DE X o to)(P:DA X (e::es) t)(c:l8 o name X.env (eval o X.env)=eval o X.env:=by rfl)(f:((f9 cpos<|ge (e::es) X.env).all (λx=>!x.1)&&(m3 cpos<|m5 [] X.env).all (λx=>x.1.isSome) && decide ((e::es).length+([]:List j7).length+(if ([]:List j7).isEmpty then 0 else 1)<30))=a9:=by rfl)(d:(apos.endLine==cpos.line)=a9:=by rfl) (hs:ge (e::es) X.env=(bt,eval e X.env)::ge es X.env:=by rfl) (h:(f9 cpos<|ge es X.env).any (·.1)=bt:=by rfl):DE X (.Call (.Attribute o name apos) (e::es) [] cpos) (OG r to t):=by
 rintro p s σ H R I ⟨S,M,ρ,Q,sm,J,q,W⟩;refine Pn c f d rfl<|v6 (U p s σ H _ I ⟨S,M,ρ,_,sm,J,q,λv H' z=>z⟩) ?_;rintro u s1 ⟨v,H1,C,rv,x,i,A,j,g1,r1,g⟩;cases r1 with
 |@ref n a G =>
  cases rv;obtain⟨⟨k,O⟩,g⟩:=(show (∃k,i[n]?=a7 (.dkt k))/\t S i _ from g)
  obtain⟨xs,hH,r,D,V,hl,hx,nd⟩:=nb C j G O;refine⟨"dict",id,Po,slot,y,D.typeIs,λb z=>?_,?_⟩;cases z;obtain⟨Y,_,_,h1,h2,_⟩:=D;exact⟨Y,h1,h2.2.1⟩;have F:=P cpos p s1 σ H1 _ C ⟨S,i,A,_,j,J.grow g1,g,λvs H' z=>z⟩;rw[hs]at F ⊢;refine NE (by show (bt||(f9 cpos<|ge es X.env).any (·.1))=bt;rw[h]<;>rfl)<|Os ?_;refine v6 F ?_;rintro us s2 ⟨vs,L,N,l,ds,M2,B,m,E,rr,Z⟩;exact T p s2 σ L (.ref a) vs (.ref a) us R N rfl l ⟨n,a,ds,M2,B,Q,rfl,aq E.pre G,m,rr,Z,λv H' w=>W v H'<|VQ.trans (g1.trans E) w⟩
 |_=>exact g.elim
def rY(n:Nat):B7:=λds M Q=>match ds with
 | [.tup ks,d]=>∃s,M[n]?=a7 (.dkt s)/\dw 8 (.tup ks)=a9/\Q ((bi s<|.tup ks).getD d) M
 |_=>False
theorem BM(o:Room k X.A):H9 X "dict.get" (jQ X.K rY):=by
 rintro g s σ H x xs v us R I G F ⟨n,a,ds,M,ρ,Q,i,j,m,c,q,C⟩;have T:=o.un;unfold rY at q;split at q;rename_i f d;obtain⟨B,u,y,q⟩:=q
 first|have z:=Reps.inv_cons c|have z:=ar.inv_cons c
 clear c;obtain⟨_,_,rfl,D,c⟩:=z
 first|have z:=Reps.inv_cons c|have z:=ar.inv_cons c
 clear c;obtain⟨_,_,rfl,E,c⟩:=z;cases c;obtain⟨S,J,rfl,h,l⟩:=ar.two F;subst i;cases G;obtain⟨ys,L,r,e,U,N,O,P⟩:=nb I m j u;have t:=fW I 8 _ _ _ D h y;obtain⟨b,_,rfl,_⟩:=id t;refine Nn NB e.typeIs P5 (Qb _ _ _) (meetsH_dict_get_default (bW X.prog X.w) a b U J) ⟨by show X.A.units+1+8<j4;lia,.tup f,ys,t,e,?_⟩;rcases wd r (.tup f)with⟨z1,z2⟩|⟨d',p,v',z1,z2,z3,z4⟩
 rw[z2];rw[z1]at q;exact⟨_,H,I.tok _,l,C _ _ ⟨d,M,ρ,m,.refl,E,q⟩⟩;rw[z2];rw[z1]at q;exact⟨_,H,I.tok _,z4,C _ _ ⟨d',M,ρ,m,.refl,z3,q⟩⟩;exact q.elim
end
def gY(h:c8)(d:c6)(es:Array m7)(ep:Nat):Prop:=∃o,h.get? d=a7 o/\o.ExactDict/\o.data=.dict es ep
theorem gY.ty{s:d9}{d:c6}{es:Array m7}{ep:Nat}(x:gY s.heap d es ep):s.TypeIs (.ref d) "dict":=by obtain⟨o,h1,h2,_⟩:=x;exact⟨o,h1,h2.1⟩
theorem gY.to(x:gY h d es ep)(k:∀o,h.get? d=a7 o->h'.get? d=a7 o):gY h' d es ep:=by obtain⟨o,h1,h2⟩:=x;exact⟨o,k o h1,h2⟩
section
variable{prog:c5}{w:c3}{A:d8}{E:b7->d9->Prop}{s:d9}{d:c6}{es:Array m7}{ep:Nat}
theorem CK{Q:b7->d9->Prop}(c:(d==c9)=bt)(h:gY s.heap d es ep)(b:Q (.ref s.heap.objs.size) { s with heap:=s.heap.push { cls:=.type "dict_keyiterator",data:=.fields #[.ref d,.int 0 0,.int es.size 0,.int ep 0] } }):e8 (f7 prog w) A (i8<|.ref d) Q E s:=by have m:=h.ty;obtain⟨o,h1,h2,a⟩:=h;refine O8 m F.slot_dict_iter<|Ks F.slot_dict_iter m F.entry_dict_iter ?_<|F.args_dict_iter_1 _;unfold Builtin.«dict.__iter__»;refine r9 ?_;unfold Builtin.Dict.dictSlotNone;refine r9<|Ot m<|t6 ?_;refine(show e8 (f7 prog w) _ (Pj d >>= _) _ _ s from ?_);unfold Pj;rw[c];refine r9<|t6<|r9<|Mb h1 a<|r9<|Ll h1 a ?_;exact r9<|J6<|t6 ⟨_,rfl,"dict_keyiterator",_,⟨_,A9 _ rfl,rfl⟩,F.slot_dict_keyiterator_next.lookup,by simpa [i9]using b⟩
theorem CJ(t:s.heap.IsKeyIter it d i es.size ep)(m:gY s.heap d es ep)(hi:i<es.size)(b:∀h',h'.IsKeyIter it d (i+1) es.size ep->Li it s.heap h'->Q (a7 es[i].key) { s with heap:=h' }):e8 (f7 prog w) A (i6<|.ref it) Q E s:=by
 obtain⟨o,B,f,a⟩:=id t;obtain⟨j,C,c,k⟩:=id m;unfold i6;refine r9<|LJ<|Lz (name:=t5 "__next__") t.typeIs F.slot_dict_keyiterator_next<|Ks F.slot_dict_keyiterator_next t.typeIs F.entry_dict_keyiterator_next ?_<|F.args_dict_keyiterator_next_1 _;refine r9<|t6<|r9<|r9 ?_
 first|refine r9 (Py t.typeIs<|t6<|r9<|Lk B a ?_)|refine r9<|Ps t.typeIs<|t6<|r9<|Lk B a ?_
 simp only[show Oz "dict_keyiterator" = bt by decide,A4,p6];refine(show e8 (f7 prog w) _ (if (ABF d==ABh)=a9 then _ else _) _ _ s from ?_);rw[o6<|by exact LP];refine r9<|t6<|r9<|Mb C k ?_;rw[o6<|by simp];refine r9<|t6<|r9<|Ll C k ?_;rw[o6<|by simp];refine t6 ?_;simp only[show ¬((i:Int)<0)from by lia,p6,KG,Kn hi];refine r9 ?_
 first|refine r9 (Py t.typeIs<|t6 ?_)|refine r9<|Ps t.typeIs<|t6 ?_
 refine r9<|wpAny_isOneOf_keyiter t.typeIs ?_;refine(show e8 (f7 prog w) _ (setField (.ref it) 1 (i9<|(i:Int)+1) >>= _) _ _ s from r9<|LK B a (by simp) ?_);have h:(s.heap.update it (MP (·.setIfInBounds 1 (i9<|(i:Int)+1)))).IsKeyIter it d (i+1) es.size ep:=by refine⟨_,KI _ B<|Obj.isFreed_of_fields<|Pc a _,(Obj.cls_mapFields ..).trans f,?_⟩;rw[Pc a];simp[i9]
 refine r9 (E4 (r9 (wpAny_isOneOf_keyiter (s:={ s with heap:=s.heap.update it (MP (·.setIfInBounds 1 (i9<|(i:Int)+1))) }) h.typeIs ?_)));refine(show e8 (f7 prog w) _ (pure es[i].key) _ _ _ from ?_);exact t6<|t6 ⟨_,rfl,t6<|b _ h<|KW ..⟩
theorem FZ(e:A.handled=a8)(t:s.heap.IsKeyIter it d es.size es.size ep)(f:gY s.heap d es ep)(c:∀h',Heap.ExtBut it s.heap h'->Q a8 { s with heap:=h' }):e8 (f7 prog w) A (i6<|.ref it) Q E s:=by
 obtain⟨o,B,g,h⟩:=id t;obtain⟨j,C,i,k⟩:=id f;unfold i6;refine r9<|LJ<|Lz (name:=t5 "__next__") t.typeIs F.slot_dict_keyiterator_next<|Ks F.slot_dict_keyiterator_next t.typeIs F.entry_dict_keyiterator_next ?_<|F.args_dict_keyiterator_next_1 _;refine r9<|t6<|r9<|r9 ?_
 first|refine r9 (Py t.typeIs<|t6<|r9<|Lk B h ?_)|refine r9<|Ps t.typeIs<|t6<|r9<|Lk B h ?_
 simp only[show Oz "dict_keyiterator" = bt by decide,A4,p6];refine(show e8 (f7 prog w) _ (if (ABF d==ABh)=a9 then _ else _) _ _ s from ?_);rw[o6<|by exact LP];refine r9<|t6<|r9<|Mb C k ?_;rw[o6<|by simp];refine r9<|t6<|r9<|Ll C k ?_;rw[o6<|by simp];refine t6 ?_;simp only[show ¬((es.size:Int)<0)from by lia,p6,KG,Ou<|u6 es.size];refine r9 ?_
 first|refine r9 (Py t.typeIs<|t6 ?_)|refine r9<|Ps t.typeIs<|t6 ?_
 refine(show e8 (f7 prog w) _ (setField (.ref it) 0 .none >>= _) _ _ s from r9<|LK B h (by simp) ?_);refine(show e8 (f7 prog w) _ (newExc (.type "StopIteration") [] >>= _) _ _ _ from r9 ?_);simp only[newExc,newTuple];refine r9 (J6 ?_<|by size_fits);refine r9 (m:=n9 _ _)<|wpAny_of_eq (a:=ABh) (by first|rfl|(simp only[n9];rfl)) ?_;refine J6 ?_ (by size_fits);simp only[raiseNew];refine r9<|wpAny_handled ?_;rw[show A.in1.handled=a8 from e];refine r9<|t6<|wpAny_throw ?_;refine r9<|MW (b:=a9) (T:="StopIteration") ⟨_,A9 _ rfl,rfl⟩ isSubtype_stop ?_;exact t6<|c _<|((KW ..).extBut.push _).push _
end
noncomputable def Ite(a:c6)(n:Nat):It:=⟨λi H=>∃xs,H a=a7 (.ext<|dX a xs)/\xs.length=n/\i<n,λi H v H'=>H'=H/\∀xs,H a=a7 (.ext<|dX a xs)->∃x,xs[i]?=a7 x/\v=.ref x.2.1,λi H=>(∃xs,H a=a7 (.ext<|dX a xs)/\xs.length=n)/\i=n⟩
section
variable{X:Cx}{pins:List (c6×c7)}{σ:St}{H:Hp}{s:d9}
theorem kt(I:t4 X pins σ H s)(b:H a=a7 (.ext<|dX a xs)):∃es,gY s.heap a es xs.length/\es.size=xs.length/\∀(i:Nat) x,xs[i]?=a7 x->∃e,es[i]?=a7 e/\e.key=.ref x.2.1/\e.val=x.2.2:=by
 obtain⟨o,es,h1,h2,h,d⟩:=DN I b;refine⟨es,⟨o,h1,h2,h⟩,?_,λi x c=>?_⟩;have:=p8 KB d
 rwa [D7,u8]at this
 refine⟨⟨A2 X.w 8 x.1,.ref x.2.1,x.2.2⟩,?_,rfl,rfl⟩;rw[<-G6,d,D5,c];rfl
theorem wt(x:gY h a es ep)(y:gY h a es' ep'):es=es'/\ep=ep':=by obtain⟨o,h1,_,d⟩:=x;obtain⟨o',c,_,b⟩:=y;obtain rfl:o=o':=B5<|h1.symm.trans c;rw[d]at b;injection b with e1 e2;exact⟨e1,e2⟩
end
theorem Bf{P:c5}{w:c3}{K:t8}{tg:f6}(a it:c6)(n:Nat):Turn P w K tg (Ite a n) [it] it (λi h=>h.IsKeyIter it a i n n) where
 mem:=by simp
 obj:=λi h st b f=>by
  obtain rfl:b=it:=by simpa using f
  obtain⟨o,e,c,d⟩:=st;exact⟨o,e,λv z=>by rw[d]at z;cases z⟩
 keep:=λi h h' st k=>st.at λo e=>k it (by simp) o e
 item:=by
  intro X G L F T i p s σ H E I m st S;subst G L F;obtain⟨xs,D,rfl,hi⟩:=S;obtain⟨es,J,l,R⟩:=kt I D;obtain⟨e,M,N,e3⟩:=R i xs[i]<|v9 hi;obtain⟨t,u,f2,x,B,C⟩:=m it (by simp);have g:i<es.size:=by lia
  have O:es[i]=e:=by rw[Kn g]at M;exact B5 M
  rw[<-l]at J st;refine CJ st J g λh' j sb=>?_;rw[O,N];have W:t4 X p σ H { s with heap:=h' }:=I.turned (t':=s.toks) (λb o f e=>(sb.2 b f).trans e) t u x B C;obtain⟨o,q1,q2,q3⟩:=id j;refine⟨_,rfl,uM (s:={ s with heap:=h' }) q1 q2 q3 (by decide) ⟨.ref xs[i].2.1,H,W,rfl,⟨rfl,λys hy=>?_⟩,by rw[l]at j;exact j,λb f=>(m b f).1⟩⟩;obtain⟨Z,r,Y,q⟩:=kt I hy;obtain⟨rfl,ep⟩:=wt J r;have U:i<ys.length:=by lia
  obtain⟨e',V,y,_⟩:=q i ys[i]<|v9 U;rw[Kn g,O]at V;obtain rfl:=B5 V;rw[N]at y;injection y with y;exact⟨ys[i],v9 U,by rw[y]⟩
 done:=by intro X G L F T i p s σ H E I m st S;subst G L F;obtain⟨⟨xs,D,rfl⟩,rfl⟩:=S;obtain⟨es,J,l,R⟩:=kt I D;obtain⟨t,u,f2,x,B,C⟩:=m it (by simp);rw[<-l]at J st;exact FZ (I.ok.hd T) st J λh' he=>⟨rfl,I.turned (t':=s.toks) (λb o f e=>he b o f e) t u x B C⟩
 self:=λA i s Q E st hQ=>wpAny_pyIter_keyiter st hQ
section
variable{X:Cx}{tg:f6}
def ww(t:v5):KL:=λS M R=>t S M λd a=>match d with
 |.ref n=>∃s,a[n]?=a7 (.dkt s)/\(s.length<=sizeLine->R ⟨s.map (·.1),λM=>M[n]?=a7 (.dkt s)⟩ a)
 |_=>False
theorem CP{l:f6}{L:v5}(Y:DE X l L):DI X tg l (ww L):=by
 intro t s σ H R I h;obtain⟨S,M,ρ,Q,sm,sr,q,k⟩:=h;refine v6 (Y t s σ H _ I ⟨S,M,ρ,_,sm,sr,q,λv H' w=>w⟩) ?_;rintro u D ⟨v,H1,j,rv,d,E,G,B,g1,r1,K⟩;cases r1 with
 |@ref n a C =>
  cases rv;obtain⟨c,V,q2⟩:=(show ∃c,E[n]?=a7 (.dkt c)/\(c.length<=sizeLine->Q ⟨c.map (·.1),λM=>M[n]?=a7 (.dkt c)⟩ E)from K)
  obtain⟨xs,T,r,dd,U,hz,hx,nd⟩:=nb j B C V;obtain⟨es,P,N,_⟩:=kt j T;refine CK U P ?_;rw[N];refine⟨D.heap.objs.size,[D.heap.objs.size],_,_,H1,rfl,j.kept (t':=D.toks) λb o e=>w6 _ e,Bf a _ xs.length,⟨_,A9 _ rfl,rfl,rfl⟩,λb W=>?_,k _ H1 ⟨⟨c.map (·.1),λM=>M[n]?=a7 (.dkt c)⟩,E,G,B,g1,?_,q2 hz⟩⟩;obtain rfl:b=D.heap.objs.size:=by simpa using W
  exact j.fpOk (u6 _)<|j.hok.fresh<|u6 _;refine⟨λi f J H' s' g ok hi=>?_,λi f J H' x H2 s' g ok hi y=>?_,λf J H' s' g ok=>?_⟩;obtain⟨_,_,_,ys,O,A⟩:=s'.obj _ _ _ (aq g.pre C) ok;have ly:ys.length=c.length:=by have:=p8 KB<|iM A;rwa [u8,u8]at this
  exact⟨ys,O,by lia,by rw[u8]at hi;lia⟩;obtain⟨rfl,m⟩:=y;obtain⟨_,_,_,ys,O,A⟩:=s'.obj _ _ _ (aq g.pre C) ok;obtain⟨z,F,rfl⟩:=m ys O;obtain⟨p,Z,_,_,rp,_⟩:=dR A F;exact⟨p.1,f,by rw[D5,Z];rfl,s',.refl,rp⟩;obtain⟨_,_,_,ys,O,A⟩:=s'.obj _ _ _ (aq g.pre C) ok;have ly:ys.length=c.length:=by have:=p8 KB<|iM A;rwa [u8,u8]at this
  exact⟨⟨ys,O,by lia⟩,by rw[u8];lia⟩
 |_=>exact K.elim
end
section
variable{prog:c5}{w:c3}{A:d8}{E:b7->d9->Prop}{s:d9}{d:c6}{es:Array m7}{ep:Nat}
theorem xK(a:(d==c9)=bt)(m:gY s.heap d es ep)(b:Q (.ref s.heap.objs.size) { s with heap:=s.heap.push { cls:=.type "dict_values",data:=.fields #[.ref d] } }):e8 (f7 prog w) A (call (.builtin "dict.values") [.ref d]) Q E s:=by refine Nn PySem.F.slot_dict_values m.ty PySem.F.entry_dict_values (PySem.F.args_dict_values_1 _) (S:=λ_ R s'=>s'=s/\R (.ok<|.ret<|.ref s.heap.objs.size) { s with heap:=s.heap.push { cls:=.type "dict_values",data:=.fields #[.ref d] } }) (.of_wp ?_) ⟨rfl,b⟩;rintro A R s' ⟨rfl,h⟩;refine r9 ?_;unfold Builtin.Dict.noArgs;refine r9<|Ot m.ty<|t6 ?_;refine(show e8 (f7 prog w) _ (Pj d >>= _) _ _ s' from ?_);unfold Pj;rw[a];exact r9<|t6<|r9<|J6<|t6 ⟨_,rfl,h⟩
theorem Aq(c:s.heap.IsValuesView v d)(m:gY s.heap d es ep)(b:Q (.ref s.heap.objs.size) { s with heap:=s.heap.push { cls:=.type "dict_valueiterator",data:=.fields #[.ref d,.int 0 0,.int es.size 0,.int ep 0] } }):e8 (f7 prog w) A (i8<|.ref v) Q E s:=by obtain⟨g,e,P,f⟩:=id c;obtain⟨o,h1,h2,a⟩:=m;refine O8 c.typeIs F.slot_dict_values_iter<|Ks F.slot_dict_values_iter c.typeIs F.entry_dict_values_iter ?_<|F.args_dict_values_iter_1 _;unfold Builtin.«dict_values.__iter__»;refine r9<|t6<|r9 ?_;unfold Builtin.Dict_items.dictOf;refine r9<|wpAny_field e f (x:=.ref d) rfl<|t6<|r9 ?_;unfold Builtin.Dict_items.newIterator;refine r9<|Mb h1 a<|r9<|Ll h1 a ?_;simp only[show Oz "dict_valueiterator" = bt by decide,A4,p6];exact J6<|t6 ⟨_,rfl,"dict_valueiterator",_,⟨_,A9 _ rfl,rfl⟩,F.slot_dict_valueiterator_next.lookup,by simpa [i9]using b⟩
theorem Ap(t:s.heap.IsValIter it d i es.size ep)(m:gY s.heap d es ep)(hi:i<es.size)(b:∀h',h'.IsValIter it d (i+1) es.size ep->Li it s.heap h'->Q (a7 es[i].val) { s with heap:=h' }):e8 (f7 prog w) A (i6<|.ref it) Q E s:=by
 obtain⟨o,B,f,a⟩:=id t;obtain⟨j,C,c,k⟩:=id m;unfold i6;refine r9<|LJ<|Lz (name:=t5 "__next__") t.typeIs F.slot_dict_valueiterator_next<|Ks F.slot_dict_valueiterator_next t.typeIs F.entry_dict_valueiterator_next ?_<|F.args_dict_valueiterator_next_1 _;refine r9<|t6<|r9<|r9 ?_
 first|refine r9 (Px t.typeIs<|t6<|r9<|Lk B a ?_)|refine r9<|Pq t.typeIs<|t6<|r9<|Lk B a ?_
 simp only[show Oz "dict_valueiterator" = bt by decide,A4,p6];refine(show e8 (f7 prog w) _ (if (ABF d==ABh)=a9 then _ else _) _ _ s from ?_);rw[o6<|by exact LP];refine r9<|t6<|r9<|Mb C k ?_;rw[o6<|by simp];refine r9<|t6<|r9<|Ll C k ?_;rw[o6<|by simp];refine t6 ?_;simp only[show ¬((i:Int)<0)from by lia,p6,KG,Kn hi];refine r9 ?_
 first|refine r9 (Px t.typeIs<|t6 ?_)|refine r9<|Pq t.typeIs<|t6 ?_
 refine r9<|P2 t.typeIs ?_;refine(show e8 (f7 prog w) _ (setField (.ref it) 1 (i9<|(i:Int)+1) >>= _) _ _ s from r9<|LK B a (by simp) ?_);have h:(s.heap.update it (MP (·.setIfInBounds 1 (i9<|(i:Int)+1)))).IsValIter it d (i+1) es.size ep:=by refine⟨_,KI _ B<|Obj.isFreed_of_fields<|Pc a _,(Obj.cls_mapFields ..).trans f,?_⟩;rw[Pc a];simp[i9]
 refine r9 (E4 (r9 (P2 (s:={ s with heap:=s.heap.update it (MP (·.setIfInBounds 1 (i9<|(i:Int)+1))) }) h.typeIs (r9 (P2 (s:={ s with heap:=s.heap.update it (MP (·.setIfInBounds 1 (i9<|(i:Int)+1))) }) h.typeIs ?_)))));refine(show e8 (f7 prog w) _ (pure es[i].val) _ _ _ from ?_);exact t6<|t6 ⟨_,rfl,t6<|b _ h<|KW ..⟩
theorem CI(e:A.handled=a8)(t:s.heap.IsValIter it d es.size es.size ep)(f:gY s.heap d es ep)(c:∀h',Heap.ExtBut it s.heap h'->Q a8 { s with heap:=h' }):e8 (f7 prog w) A (i6<|.ref it) Q E s:=by
 obtain⟨o,B,g,h⟩:=id t;obtain⟨j,C,i,k⟩:=id f;unfold i6;refine r9<|LJ<|Lz (name:=t5 "__next__") t.typeIs F.slot_dict_valueiterator_next<|Ks F.slot_dict_valueiterator_next t.typeIs F.entry_dict_valueiterator_next ?_<|F.args_dict_valueiterator_next_1 _;refine r9<|t6<|r9<|r9 ?_
 first|refine r9 (Px t.typeIs<|t6<|r9<|Lk B h ?_)|refine r9<|Pq t.typeIs<|t6<|r9<|Lk B h ?_
 simp only[show Oz "dict_valueiterator" = bt by decide,A4,p6];refine(show e8 (f7 prog w) _ (if (ABF d==ABh)=a9 then _ else _) _ _ s from ?_);rw[o6<|by exact LP];refine r9<|t6<|r9<|Mb C k ?_;rw[o6<|by simp];refine r9<|t6<|r9<|Ll C k ?_;rw[o6<|by simp];refine t6 ?_;simp only[show ¬((es.size:Int)<0)from by lia,p6,KG,Ou<|u6 es.size];refine r9 ?_
 first|refine r9 (Px t.typeIs<|t6 ?_)|refine r9<|Pq t.typeIs<|t6 ?_
 refine(show e8 (f7 prog w) _ (setField (.ref it) 0 .none >>= _) _ _ s from r9<|LK B h (by simp) ?_);refine(show e8 (f7 prog w) _ (newExc (.type "StopIteration") [] >>= _) _ _ _ from r9 ?_);simp only[newExc,newTuple];refine r9 (J6 ?_<|by size_fits);refine r9 (m:=n9 _ _)<|wpAny_of_eq (a:=ABh) (by first|rfl|(simp only[n9];rfl)) ?_;refine J6 ?_ (by size_fits);simp only[raiseNew];refine r9<|wpAny_handled ?_;rw[show A.in1.handled=a8 from e];refine r9<|t6<|wpAny_throw ?_;refine r9<|MW (b:=a9) (T:="StopIteration") ⟨_,A9 _ rfl,rfl⟩ isSubtype_stop ?_;exact t6<|c _<|((KW ..).extBut.push _).push _
end
noncomputable def Itv(a:c6)(n:Nat):It:=⟨λi H=>∃xs x v,H a=a7 (.ext<|dX a xs)/\xs.length=n/\xs[i]?=a7 x/\aH v x.2.2,λi H v H'=>H'=H/\∀xs,H a=a7 (.ext<|dX a xs)->∃x,xs[i]?=a7 x/\aH v x.2.2,λi H=>(∃xs,H a=a7 (.ext<|dX a xs)/\xs.length=n)/\i=n⟩
theorem yi{P:c5}{w:c3}{K:t8}{tg:f6}(a it:c6)(n:Nat):Turn P w K tg (Itv a n) [it] it (λi h=>h.IsValIter it a i n n) where
 mem:=by simp
 obj:=λi h st b f=>by
  obtain rfl:b=it:=by simpa using f
  obtain⟨o,e,c,d⟩:=st;exact⟨o,e,λv z=>by rw[d]at z;cases z⟩
 keep:=λi h h' st k=>st.at λo e=>k it (by simp) o e
 item:=by
  intro X L M G T i p s σ H E I m st S;subst L M G;obtain⟨xs,x,v,F,rfl,hx,V⟩:=S;obtain⟨es,J,l,O⟩:=kt I F;obtain⟨e,t,e2,R⟩:=O i x hx;obtain⟨u,y,f2,B,C,D⟩:=m it (by simp);have g:i<es.size:=(LA.mp t).1;have N:es[i]=e:=by rw[Kn g]at t;exact B5 t
  rw[<-l]at J st;refine Ap st J g λh' j sb=>?_;rw[N,R];have Z:t4 X p σ H { s with heap:=h' }:=I.turned (t':=s.toks) (λb o f e=>(sb.2 b f).trans e) u y B C D;obtain⟨o,q1,q2,q3⟩:=id j;refine⟨_,rfl,uM (s:={ s with heap:=h' }) q1 q2 q3 (by decide) ⟨v,H,Z,V,⟨rfl,λys hy=>?_⟩,by rw[l]at j;exact j,λb f=>(m b f).1⟩⟩;obtain⟨ai,r,ab,q⟩:=kt I hy;obtain⟨rfl,ep⟩:=wt J r;have U:i<ys.length:=by lia
  obtain⟨e',W,_,Y⟩:=q i ys[i]<|v9 U;rw[Kn g,N]at W;obtain rfl:=B5 W;rw[R]at Y;exact⟨ys[i],v9 U,by rw[<-Y];exact V⟩
 done:=by intro X L M G T i p s σ H E I m st S;subst L M G;obtain⟨⟨xs,F,rfl⟩,rfl⟩:=S;obtain⟨es,J,l,O⟩:=kt I F;obtain⟨u,y,f2,B,C,D⟩:=m it (by simp);rw[<-l]at J st;exact CI (I.ok.hd T) st J λh' he=>⟨rfl,I.turned (t':=s.toks) (λb o f e=>he b o f e) u y B C D⟩
 self:=λA i s Q E st hQ=>wpAny_pyIter_valiter st hQ
section
variable{X:Cx}{tg o:f6}{to:v5}{apos cpos:f8}
def sX(o:v5):KL:=λS M R=>o S M λd a=>match d with
 |.ref n=>∃s,a[n]?=a7 (.dkt s)/\(s.length<=sizeLine->R ⟨s.map (·.2),λM=>M[n]?=a7 (.dkt s)⟩ a)
 |_=>False
theorem CO(ho:DE X o to)(l:l8 o "values" X.env (eval o X.env)=eval o X.env:=by rfl)(m:(apos.endLine==cpos.line)=a9:=by rfl):DI X tg (.Call (.Attribute o "values" apos) [] [] cpos) (sX to):=by
 intro f s σ H R I h;obtain⟨S,M,ρ,Q,sm,sr,q,k⟩:=h;refine wpAny_Call_method0_late l m<|v6 (ho f s σ H _ I ⟨S,M,ρ,_,sm,sr,q,λv H' w=>w⟩) ?_;rintro u E ⟨v,H1,K,D,d,L,V,G,g1,r1,q1⟩;cases r1 with
 |@ref n a J =>
  cases D;obtain⟨c,hM,q2⟩:=(show ∃c,L[n]?=a7 (.dkt c)/\(c.length<=sizeLine->Q ⟨c.map (·.2),λM=>M[n]?=a7 (.dkt c)⟩ L)from q1)
  obtain⟨xs,hH,r,Y,U,hz,hx,nd⟩:=nb K G J hM;obtain⟨es,Z,el,_⟩:=kt K hH;refine⟨"dict","dict.values",Po,PySem.F.slot_dict_values,PySem.F.type_dict_values,Y.typeIs,λb z=>?_,NE rfl<|PySem.evalArgs_none<|xK U Z ?_⟩;cases z;obtain⟨ob,_,_,h1,h2,_⟩:=Y;exact⟨ob,h1,h2.2.1⟩;have B:t4 X f σ H1 { E with heap:=E.heap.push { cls:=.type "dict_values",data:=.fields #[.ref a] } }:=K.kept (t':=E.toks) λb o e=>w6 _ e;have N:gY ({ E with heap:=E.heap.push { cls:=.type "dict_values",data:=.fields #[.ref a] } }:d9).heap a es xs.length:=Z.to λo e=>w6 _ e;refine Aq (d:=a) ⟨_,A9 _ rfl,rfl,rfl⟩ N ?_;rw[el];have P:∀j:d9,t4 X f σ H1 j->NW X f σ tg R (.ref j.heap.objs.size) { j with heap:=j.heap.push { cls:=.type "dict_valueiterator",data:=.fields #[.ref a,.int 0 0,.int xs.length 0,.int xs.length 0] } }:=λj B=>by
   refine⟨j.heap.objs.size,[j.heap.objs.size],_,_,H1,rfl,B.kept (t':=j.toks) λb o e=>w6 _ e,yi a _ xs.length,⟨_,A9 _ rfl,rfl,rfl⟩,λb hb=>?_,k _ H1 ⟨⟨c.map (·.2),λM=>M[n]?=a7 (.dkt c)⟩,L,V,G,g1,?_,q2 hz⟩⟩;obtain rfl:b=j.heap.objs.size:=by simpa using hb
   exact B.fpOk (u6 _)<|B.hok.fresh<|u6 _;refine⟨λi t W H' s' g ok hi=>?_,λi t W H' x H2 s' g ok hi y=>?_,λt W H' s' g ok=>?_⟩;obtain⟨_,_,_,ys,O,A⟩:=s'.obj _ _ _ (aq g.pre J) ok;have ly:ys.length=c.length:=by have:=p8 KB<|iM A;rwa [u8,u8]at this
   rw[u8]at hi;have hj:i<ys.length:=by lia
   obtain⟨p,_,_,_,_,v,_,D⟩:=dR A<|v9 hj;exact⟨ys,ys[i],v,O,by lia,v9 hj,D⟩;obtain⟨rfl,C⟩:=y;obtain⟨_,_,_,ys,O,A⟩:=s'.obj _ _ _ (aq g.pre J) ok;obtain⟨z,T,rz⟩:=C ys O;obtain⟨p,hp,_,_,_,v,rp,D⟩:=dR A T;obtain rfl:x=v:=rz.inj D;exact⟨p.2,t,by rw[D5,hp];rfl,s',.refl,rp⟩;obtain⟨_,_,_,ys,O,A⟩:=s'.obj _ _ _ (aq g.pre J) ok;have ly:ys.length=c.length:=by have:=p8 KB<|iM A;rwa [u8,u8]at this
   exact⟨⟨ys,O,by lia⟩,by rw[u8];lia⟩
  exact P _ B
 |_=>exact q1.elim
end
section
variable{X:Cx}{o:f6}{to:v5}{apos cpos p pos:f8}{k:Nat}
def Ep:E9:=λx y M Q=>match x,y with
 |.tup ks,.ref n=>∃s,M[n]?=a7 (.dkt s)/\dw 8 (.tup ks)=a9/\Q (.bl (bi s<|.tup ks).isSome) M
 |_,_=>False
theorem Io(i:Room k X.A):F5 X (j2 .In) Ep:=by
 rintro p s σ H J K v u R I z B ⟨x,y,M,ρ,Q,m,l,o,q,C⟩;have G:=i.un;cases x with
 |tup c =>
  cases y with
  |ref n =>
   obtain⟨d,h,j,q⟩:=q;obtain⟨a,rfl,g⟩:=u4.inv_ref o;cases B;obtain⟨xs,D,r,f,U,E,F,_⟩:=nb I m g h;have t:=fW I 8 _ _ _ l z j;obtain⟨b,_,rfl,_⟩:=id t;refine wpAny_in_heap (knd:=bW X.prog X.w) (k:=.tup c) (by show X.A.units+1+8<j4;lia) t U f ?_;have e:(atKey xs<|.tup c).isSome=(bi d<|.tup c).isSome:=by rcases wd r (.tup c)with⟨z1,z2⟩|⟨_,_,_,z1,z2,_⟩<;>rw[z1,z2]<;>rfl
   rw[e];exact gX (I.tok _) m C q
  |_=>exact q.elim
 |_=>exact q.elim
def wv:t7:=λ_ _ _=>False
theorem CL{st:g7}:DS X st wv:=λp s σ H E I ⟨S,M,ρ,F,m,b,q,C⟩=>q.elim
end
section
variable{X:Cx}{o i e:f6}{to ti te:v5}{pos pos' p apos cpos:f8}{k:Nat}{tg:f6}{es:List f6}{t:D4}{st:g7}
theorem IU:HE X (.Dict [] [] pos) xM:=⟨JW⟩
theorem IV(r:Room k X.A)(B:HE X o to)(hi:HE X i ti)(hs:NoSl i:=by intro _ _;kernel_rfl):HE X (.Subscript o i pos) (jV to ti):=⟨JX r B.ok hi.ok hs⟩
theorem zM(r:Room k X.A)(B:HE X o to)(hi:HE X i ti)(c:HE X e te)(hs:g9 e (a7<|.Subscript o i pos') pos.line X.env=pure bt:=by kernel_rfl):HS X (.Assign [.Subscript o i pos'] e pos) (sY to ti te):=⟨Gd r B.ok hi.ok c.ok hs⟩
theorem FC(i:Room k X.A)(B:HE X o to)(f:HA X (e::es) t)(h:l8 o "get" X.env (eval o X.env)=eval o X.env:=by kernel_rfl)(w:((f9 cpos<|ge (e::es) X.env).all (λx=>!x.1)&&(m3 cpos<|m5 [] X.env).all (λx=>x.1.isSome) && decide ((e::es).length+([]:List j7).length+(if ([]:List j7).isEmpty then 0 else 1)<30))=a9:=by kernel_rfl)(a:(apos.endLine==cpos.line)=a9:=by kernel_rfl) (hs:ge (e::es) X.env=(bt,eval e X.env)::ge es X.env:=by kernel_rfl) (n:(f9 cpos<|ge es X.env).any (·.1)=bt:=by kernel_rfl):HE X (.Call (.Attribute o "get" apos) (e::es) [] cpos) (OG rY to t):=⟨d_mt NB P1 (BM i) B.ok f.ok h w a hs n⟩
theorem Ch(h:HE X e te):HI X tg e (ww te):=⟨CP h.ok⟩
theorem Cg(B:HE X o to)(e:l8 o "values" X.env (eval o X.env)=eval o X.env:=by kernel_rfl)(a:(apos.endLine==cpos.line)=a9:=by kernel_rfl):HI X tg (.Call (.Attribute o "values" apos) [] [] cpos) (sX to):=⟨CO B.ok e a⟩
theorem Jn(i:Room k X.A):F6 X (j2 .In) Ep:=⟨Io i⟩
theorem wf:HS X st wv:=⟨CL⟩
end
section
variable{X:Cx}{k:Nat}
theorem Kg:d7 "max" = a7 (.builtin "max"):=by decide +kernel
end
end L2
namespace L2
open PySem PySem.Spec PyProof.Rows DL PySem.W PySem.Calls PyProof.V
structure PairsAt(es:Array m7)(lo:c6)(h:c8)(as:List c6):Prop where
 nd:as.Nodup
 above:∀a∈as,lo<a
 tup:∀(j:Nat) (a:c6),as[j]?=a7 a->∃e,es[j]?=a7 e/\h.get? a=a7 { cls:=.type "tuple",data:=.seq #[e.key,e.val] }
end L2
namespace L2
open PySem PySem.Spec PyProof.Rows DL PySem.W
section
variable{X:Cx}
def Hk:E9:=λx y M Q=>match x,y with
 |.int i,.int j=>CPow i j/\Q (.int<|i*2 ^ j.toNat) M
 |_,_=>False
theorem Ik:F5 X (j1 .LShift) Hk:=by refine C6.imp HY ?_;rintro e f H R ⟨x,y,M,ρ,Q,m,r,l,q,k⟩;unfold Hk at q;split at q;cases r;cases l;exact⟨_,_,rfl,rfl,q.1,k _ H<|VQ.now m (.int _) q.2⟩;exact q.elim
theorem Jj:F6 X (j1 .LShift) Hk:=⟨Ik⟩
def yV:B7:=λds M Q=>match ds with
 | [.int i,.int j]=>Q (.int<|if j > i then j else i) M
 |_=>False
theorem Gu(f:X.calm=a9):nD X (.builtin "max") yV:=by
 refine eH.imp (AC f) ?_;rintro vs H R ⟨ds,M,ρ,Q,m,a,q,k⟩;unfold yV at q;split at q
 first|have z:=Reps.inv_cons a|have z:=ar.inv_cons a
 clear a;obtain⟨_,_,rfl,r,a⟩:=z
 first|have z:=Reps.inv_cons a|have z:=ar.inv_cons a
 clear a;obtain⟨_,_,rfl,l,a⟩:=z;cases a;cases r;cases l;exact⟨_,_,rfl,k _ H<|VQ.now m (.int _) q⟩;exact q.elim
theorem FT(f:X.calm=a9:=by kernel_rfl):HC X (.builtin "max") yV:=⟨Gu f⟩
theorem xE(i:Room k X.A):HC X (.builtin "sorted") jF:=⟨Az i⟩
end
noncomputable def dictOf(ps:List (D×D)):List (D×D):=ps.foldl (λs p=>ji s p.1 p.2) []
theorem eZ:dictOf (ps++[p])=ji (dictOf ps) p.1 p.2:=by unfold dictOf;rw[List.foldl_append];rfl
theorem sR:∀(ps kvs:List (D×D)),(ps.foldl (λkvs p=>ji kvs p.1 p.2) kvs).length<=kvs.length+ps.length
 | [],_=>u6 _
 |p::ps,kvs=>by have h1:=sR ps<|ji kvs p.1 p.2;have h2:=gB (kvs:=kvs) (k:=p.1) (d:=p.2);rw[List.foldl_cons,B9];lia
theorem oT:(dictOf ps).length<=ps.length:=by have:=sR ps [];rw[D3,Nat.zero_add]at this;exact this
theorem sU:entryFor table "dict.update.loop" = a7 Builtin.«dict.update.loop»:=entryFor_of_tree<|by kernel_rfl
theorem jk:plainId "dict.update.loop" = a9:=by decide +kernel
theorem jR:typeLookup (.type "list") "__getattr__" = pure a8:=by rw[OV,Pk];kernel_rfl
theorem nO:typeLookup (.type "list") "keys" = pure a8:=by rw[OV,Pk];kernel_rfl
section
variable{prog:c5}{w:c3}{A:d8}{E:b7->d9->Prop}{h:c8}{g:Array GenState}{d:Drawn}{t:Nat}{os:OsState}{a:c6}{o:c7}
theorem zC(x:h.get? a=a7 o)(i:o.cls=.type "list")(b:o.dict=a8)(c:o.data=.seq its nn)(f:A.handled=a8)(q:∀h' tk e,Heap.NewAttrErr h h' e (.ref a) "keys"->R (.error<|.ref e) ⟨h',g,d,tk,os⟩):j6 (f7 prog w) A (.call (.builtin "list.__getattribute__") ⟨[.ref a,.str "keys" u],[]⟩) R ⟨h,g,d,t,os⟩:=by
 obtain⟨j,k,C,G⟩:=o;obtain rfl:j=.type "list":=i;obtain rfl:k=a8:=b;obtain rfl:C=.seq its nn:=c;have m:(⟨h,g,d,t,os⟩:d9).TypeIs (.ref a) "list":=⟨_,x,rfl⟩
 have l:=nO;refine Pi Pz.plain PySem.F.entry_list_ga<|Pz.check _ _ _ _ _ _ _ _ m (PySem.F.args_list_getattribute_2 _ _) ?_;unfold Builtin.«object.__getattribute__»
 repeat (any_goals (first|assumption|wp_step))
 refine wpAny_raiseAttrError (o:=.ref a) (name:="keys") (by first|exact f|simpa using f) q ?_;exact attrMsg_fits (by decide +kernel)<|by size_fits
theorem uz(x:h.get? a=a7 o)(k:o.cls=.type "list")(c:o.dict=a8)(f:o.data=.seq its nn)(j:A.handled=a8)(q:∀h' tk,(∀b ob,h.get? b=a7 ob->h'.get? b=a7 ob)->Q a8 ⟨h',g,d,tk,os⟩):e8 (f7 prog w) A (getAttr? (.ref a) "keys") Q E ⟨h,g,d,t,os⟩:=by
 obtain⟨l,n,C,G⟩:=o;obtain rfl:l=.type "list":=k;obtain rfl:n=a8:=c;obtain rfl:C=.seq its nn:=f;have m:∀tk,(⟨h,g,d,tk,os⟩:d9).TypeIs (.ref a) "list":=λ_=>⟨_,x,rfl⟩
 have p:=sub_AttributeError;have M:=Pz.lookup;have r:=Pz.bind<|.ref a;have y:=jR;unfold getAttr? getAttrBy? getAttrBy
 repeat (any_goals (first|assumption|exact m _|wp_step))
 refine zC x rfl rfl rfl (by first|exact j|simpa using j) λh' tk e i=>?_;obtain⟨t',u',s⟩:=i.there;unfold getattributeRaised
 repeat (any_goals (first|assumption|wp_step))
 exact q _ _ i.keeps
end
theorem dsetE(u:(bW prog w).room A)(t:(bW prog w).is s.heap k b)(r:s.heap.DictOfH (bW prog w) d xs) (x:dX d xs prog w s.heap) (hz:xs.length<=sizeLine)(m:∀h',dX d (storedH xs k b v) prog w h'->Li d s.heap h'->Q () { s with heap:=h',toks:=s.toks+(bW prog w).draws k }):e8 (f7 prog w) A (dictSet d (.ref b) v) Q E s:=by
 obtain⟨_,_,_,_,_,_,_,g,f⟩:=r;obtain⟨o,es,B,n,h,c⟩:=x;have i:es.toList=xs.map (d5<|bW prog w):=c;unfold dictSet
 try with_reducible refine E4 ?_
 refine r9<|(bW prog w).pyHash u t ?_;unfold dictSetHashed
 try with_reducible refine E4 ?_
 have z:es.size=xs.length:=size_of_entries i;refine r9<|wpAny_dictFind_heap (s:={ s with toks:=s.toks+(bW prog w).draws k }) u t B h i g f (λa=>?_) λj p L=>?_;refine r9<|KA<|wpAny_updateDictKeys (hz:=by lia) (s:={ s with toks:=s.toks+(bW prog w).draws k }) B h<|m _ ⟨_,es.push ⟨(bW prog w).hash k,.ref b,v⟩,KI _ B<|Oo<|NA h _,n.mapDictKeys _,?_,?_⟩<|KW ..;rw[NA h,storedH_new<|O7 a,A1];rfl;rw[storedH_new<|O7 a];rw[Oi,i,Kr];rfl;refine r9<|KA<|r9<|wpAny_updateDict (s:={ s with toks:=s.toks+(bW prog w).draws k }) B h<|wpAny_point<|m _ ⟨_,es.modify j λe=>{ e with val:=v },KI _ B<|Oo<|O2 h _,n.mapDict _,?_,?_⟩<|KW ..;rw[O2 h,storedH_old<|atKey_of_get f L,u8];rw[storedH_old<|atKey_of_get f L];have q:=modify_map_putAt (d5<|bW prog w) (λe:m7=>{ e with val:=v }) k v (λ_ _=>rfl) f L;rw[<-i]at q;obtain⟨l⟩:=es;have y:(Array.modify ⟨l⟩ j λe:m7=>{ e with val:=v }).toList=(xs.map<|putAt k v).map (d5<|bW prog w):=by simpa using q
 exact y
section
variable{X:Cx}{pins:List (c6×c7)}{σ:St}{H:Hp}{ρ:List c6}{M:t9}{A:d8}{E:b7->d9->Prop}{s:d9}
structure DD(X:Cx)(ρ:List c6)(H:Hp)(h:c8)(a:c6)(kvs:List (D×D))(xs:List (D×c6×b7)):Prop where
 dx:dX a xs X.prog X.w h
 kv:Paired (xY X.K ρ H) kvs xs
 nd:(kvs.map (·.1)).Nodup
theorem DD.at(x:DD X ρ H h a kvs xs)(k:∀o,h.get? a=a7 o->h'.get? a=a7 o):DD X ρ H h' a kvs xs:=by obtain⟨⟨o,es,t,l,R,I⟩,v,p⟩:=x;exact⟨⟨o,es,k _ t,l,R,I⟩,v,p⟩
theorem DD.len(x:DD X ρ H h a kvs xs):xs.length=kvs.length:=by
 have:=p8 KB<|iM x.kv
 rwa [u8,u8]at this
theorem DD.of(I:t4 X pins σ H s)(x:DD X ρ H s.heap a kvs xs):s.heap.DictOfH (bW X.prog X.w) a xs:=by obtain⟨o,es,t,l,R,e⟩:=x.dx;have k:=iM x.kv;refine⟨o,es,_,t,l,R,e,λy O=>?_,by rw[k];exact x.nd⟩;obtain⟨i,hi⟩:=Lc O;obtain⟨p,_,b,g,j,_⟩:=dR x.kv hi;rw[<-b];exact fW I 8 _ _ _ j rfl g
theorem Gm(I:t4 X pins σ H s)(hu:A.units+20<j4)(W:Walks X.prog X.w A.in1 J fp wr m P Sx)(S:c6)(x:S∉fp)(N:s.heap.get? S=a8) (E:∀b∈wr,s.heap.get? b=a8) (ps:List (D×D)) (hm:ps.length=m) (C:∀i v,P i v->∃p,ps[i]?=a7 p/\(∃vv,u4 X.K ρ H (.tup [p.1,p.2]) vv/\aH vv v)/\dw 8 p.1=a9/\gh p.1=a9) (hb:m<=1000):∀(k i:Nat) (h:c8) (tk:Nat) (xs:List (D×c6×b7)) (j:Int) (t:Tok),m-i=k->i<=m->Sx i h->DD X ρ H h S (dictOf<|ps.take i) xs->(∀b u,s.heap.get? b=a7 u->h.get? b=a7 u) ->(∀h' tk xs',(∀b u,s.heap.get? b=a7 u->h'.get? b=a7 u)->DD X ρ H h' S (dictOf ps) xs'->R (.ok<|.ret .none) { s with heap:=h',toks:=tk }) ->j6 (f7 X.prog X.w) A (.builtin "dict.update.loop" ⟨[.ref S,.ref J,.int j t,.none],[]⟩) R { s with heap:=h,toks:=tk }:=by
 have y:S∉wr:=λh=>x<|W.sub _ h;intro k;induction k with
 |zero =>
  intro i h tk xs j t hk hi q G f Y;obtain rfl:i=m:=by lia
  refine L6 sU ?_;rw[Na jk _];refine(show e8 (f7 X.prog X.w) A.in1 (i6 (.ref J) >>= _) _ _ _ from r9<|W.done _ _ _ q λh' tk d=>?_);rw[<-hm,LO]at G;refine(show e8 (f7 X.prog X.w) A.in1 (Builtin.Dict.addKeywords S [] >>= _) _ _ _ from r9<|t6<|t6 ?_);exact Y h' tk xs (λb u e=>d b u (λz=>by rw[E b z]at e;cases e)<|f b u e)<|G.at λo e=>d S o y e
 |succ k ih =>
  intro i h tk xs j t hk hi q G f Y;refine L6 sU ?_;rw[Na jk _];refine(show e8 (f7 X.prog X.w) A.in1 (i6 (.ref J) >>= _) _ _ _ from r9<|W.item i _ _ _ (by lia) q λv h' tk hP B d=>?_);obtain⟨p,hp,⟨vv,r,rv⟩,kd,it⟩:=C i v hP;have n:∀b u,s.heap.get? b=a7 u->h'.get? b=a7 u:=λb u e=>d b u (λz=>by rw[E b z]at e;cases e)<|f b u e;have L:t4 X pins σ H { s with heap:=h',toks:=tk }:=I.kept n;have c:=G.at λo e=>d S o y e;have hl:=c.len;have dl:=oT (ps:=ps.take i);have dd:=c.of (s:={ s with heap:=h',toks:=tk }) L;obtain⟨a,vs,rfl,hq,l⟩:=u4.inv_tup r;cases rv
  first|have g:=Reps.inv_cons l|have g:=ar.inv_cons l
  clear l;obtain⟨_,_,rfl,r1,l⟩:=g
  first|have g:=Reps.inv_cons l|have g:=ar.inv_cons l
  clear l;obtain⟨_,_,rfl,r2,l⟩:=g;cases l;obtain⟨its,U,pl,hz⟩:=L.tuple hq;obtain⟨u1,u2,rfl,Z,e2⟩:=ar.two U;obtain⟨k0,d0⟩:=p;cases k0 with
  |tup ks =>
   have F:=fW L 8 _ _ _ r1 Z kd;obtain⟨b,_,rfl,_⟩:=id F;obtain⟨_,_,rfl,Q,V⟩:=u4.inv_tup r1;cases Z;obtain⟨o,ho,hc,nn,hd⟩:=pl;have hT:({ s with heap:=h',toks:=tk }:d9).TypeIs (.ref a) "tuple":=⟨o,ho,hc⟩
   refine r9<|E4<|r9<|wpAny_tryCatch ?_;unfold Builtin.Dict.pairItems;refine r9<|Mq hT ?_;rw[o5<|by decide];refine r9<|MS ho hd<|t6 ?_;refine(show e8 (f7 X.prog X.w) _ (g8 [.ref b,u2]<|dictSet S (.ref b) u2) _ _ _ from E4 ?_);refine dsetE (k:=.tup ks) (s:={ s with heap:=h',toks:=tk }) (by show A.units+1+8<j4;lia) F dd c.dx (ah<|by rw[hl];rw[Kt]at dl;lia) λh2 M sb=>?_;have k2:∀b u,b≠S->h'.get? b=a7 u->h2.get? b=a7 u:=λb u hb e=>(sb.2 b hb).trans e;have T:=Dx c.kv kd (.tup Q V) r2 e2;have et:ps.take (i+1)=ps.take i++[(.tup ks,d0)]:=by rw[Ma,hp];rfl
   refine t6 ⟨MQ jk _,ih (i+1) h2 _ _ _ _ (by lia) (by lia) (W.frame _ h' h2 B λb' O o e=>k2 b' o (λz=>x<|z ▸ O) e) ⟨M,?_,?_⟩ (λb u e=>k2 b u (λz=>by rw[z,N]at e;cases e)<|n b u e) Y⟩;rw[et,eZ];exact T;rw[et,eZ];exact pq c.nd
  |_=>cases it
theorem Gx(I:t4 X pins σ H s)(Y:A.units+30<j4)(B:A.handled=a8)(C:s.heap.IsList l its)(f:s.heap.get? l=a7 ol)(t:ol.dict=a8)(ps:List (D×D))(R:ps.length=its.size)(y:∀(i:Nat) v,its[i]?=a7 v->∃p:D×D,ps[i]?=a7 p/\(∃vv,u4 X.K ρ H (.tup [p.1,p.2]) vv/\aH vv v)/\dw 8 p.1=a9/\gh p.1=a9) (P:its.size<=1000)(h:∀h' tk xs,(∀b u,s.heap.get? b=a7 u->h'.get? b=a7 u)->DD X ρ H h' s.heap.objs.size (dictOf ps) xs->Q (.ref s.heap.objs.size) { s with heap:=h',toks:=tk }):e8 (f7 X.prog X.w) A (call (.type "dict") [.ref l]) Q E s:=by
 refine callType_codes (Q₁:=λj s₁=>j=.ref s.heap.objs.size/\s₁={ s with heap:=s.heap.push { cls:=.type "dict",data:=.dict #[] } }) PySem.F.kt_called_dict (PySem.F.kt_typeCall_dict_1 _) PySem.F.entry_dict_init (kt_code_dict_new _ ⟨rfl,rfl⟩) ?_;rintro j s₁ ⟨rfl,rfl⟩;have S:(s.heap.push { cls:=.type "dict",data:=.dict #[] }).get? s.heap.objs.size=a7 { cls:=.type "dict",data:=.dict #[] }:=A9 _ rfl;have z:N6 { s with heap:=s.heap.push { cls:=.type "dict",data:=.dict #[] } } (.ref s.heap.objs.size) "dict":=⟨_,S,rfl⟩
 obtain⟨a,O,r,Z,m⟩:=id C;obtain rfl:a=ol:=B5<|O.symm.trans f;have c:(s.heap.push { cls:=.type "dict",data:=.dict #[] }).get? l=a7 a:=w6 _ f;have L:N6 { s with heap:=s.heap.push { cls:=.type "dict",data:=.dict #[] } } (.ref l) "list":=⟨a,c,r⟩
 have V:l<s.heap.objs.size:=x3 f;refine⟨z,PySem.F.args_dict_init_2 _ _,?_⟩;unfold Builtin.«dict.__init__»;refine r9 ?_;unfold Builtin.Dict.selfAndRest;refine r9<|Ot z ?_;refine(show e8 _ _ (pure (s.heap.objs.size,[ABF l])) _ _ _ from t6 ?_);refine(show e8 _ _ (Builtin.Dict.updateFrom "dict.__init__" s.heap.objs.size (.ref l) [] .none) _ _ _ from ?_);unfold Builtin.Dict.updateFrom;refine r9<|Mq L ?_;rw[o5<|by decide];refine r9<|uz c r t m (by simpa using B) λh1 x J=>?_;have k:∀b u,s.heap.get? b=a7 u->h1.get? b=a7 u:=λb u e=>J b u<|w6 _ e;rw[o5<|show (a8:Option b7).isNone=a9 from rfl];refine r9<|KA ?_;obtain⟨oI,St,n,W,st⟩:=(TxSrc.list (prog:=X.prog) (w:=X.w) C).iter A.in1.in1 { s with heap:=h1,toks:=x } (by simpa using B) λo e=>k _ _ e;refine r9<|n _ _ ?_;have d:=J _ _ S;have M:s.heap.objs.size<h1.objs.size:=x3 d;have G:s.heap.get? s.heap.objs.size=a8:=by
  cases q:s.heap.get? s.heap.objs.size with
  |none=>rfl
  |some o=>exact o7 (x3 q)<|G4 _
 refine t6 ⟨MQ jk _,Gm (A:=A.in1) (s:=s) I (by show A.units+1+20<j4;lia) W s.heap.objs.size ?_ G ?_ ps R y P its.size 0 _ _ [] _ _ rfl (z5 _) st ⟨⟨_,#[],w6 _ d,⟨rfl,rfl,rfl⟩,rfl,rfl⟩,.nil,N9⟩ (λb u e=>w6 _<|k b u e) λh2 T xs U N=>⟨rfl,h h2 T xs U N⟩⟩;simp only[A0,Nx,or_false,not_or];exact⟨x9 M,Nat.ne_of_gt V⟩;intro b g;rw[J7.mp g];cases q:s.heap.get? h1.objs.size with
 |none=>rfl
 |some o=>exact o7 (Nat.lt_trans (x3 q) M)<|G4 _
end
section
variable{X:Cx}{k:Nat}
def iy:B7:=λds M Q=>match ds with
 | [.ref n]=>∃ps:List (D×D),al M n (ps.map λp=>.tup [p.1,p.2])/\(∀p∈ps,dw 8 p.1=a9/\gh p.1=a9)/\ps.length<=1000/\Q (.ref M.length) (M++[.dkt<|dictOf ps])
 |_=>False
theorem AA(J:Room k X.A)(D:X.calm=a9):nD X (.type "dict") iy:=by
 rintro x s σ H vs us R I Y ⟨ds,M,ρ,Q,n,c,q,N⟩;have un:=J.un;unfold iy at q;split at q;obtain⟨ps,L,F,hl,q⟩:=q
 first|have z:=Reps.inv_cons c|have z:=ar.inv_cons c
 clear c;obtain⟨_,_,rfl,l,c⟩:=z;cases c;obtain⟨u,rfl,t⟩:=ar.one Y;obtain⟨a,rfl,e⟩:=u4.inv_ref l;cases t;obtain⟨ws,G,r⟩:=al.seq n L e;obtain⟨its,B,y,hz⟩:=I.list G;obtain⟨oa,nn,j,E,b,h⟩:=id y;have P:=r.length;have li:=B.length;rw[u8]at P;have f:H s.heap.objs.size=a8:=I.hok.fresh<|u6 _;have C:(s.heap.objs.size==c9)=bt:=beq_eq_false_iff_ne.mpr<|D2<|x9 I.big;refine Gx (A:=X.A) (ρ:=ρ) I (by lia) (I.ok.hd D) y.isList j b ps (by rw[A3];lia) (λi v K=>?_) (by rw[A3];lia) λh' Z xs O g=>?_;obtain⟨d,vv,t,l,m⟩:=tW r B (i:=i) (u:=v) (by simpa using K);rw[D5]at t;obtain⟨p,w,rfl⟩:=ND.mp t;exact⟨p,w,⟨vv,l,m⟩,F p<|J1 w⟩;have dl:=oT (ps:=ps);refine⟨.ref s.heap.objs.size,_,I.laid (a:=s.heap.objs.size) (o:=.ext<|dX s.heap.objs.size xs) (t':=Z) O (u6 _)<|uP g.dx,rfl,?_⟩;exact N _ _ ⟨.ref M.length,M++[.dkt<|dictOf ps],ρ++[s.heap.objs.size],n.laidM (mo:=.dkt<|dictOf ps) f ⟨ah (by lia),C,g.nd,xs,aZ,Paired.mapP g.kv λ_ _ ⟨S,T,U,v,V,W⟩=>⟨S,T,U.grow<|Grow.laidR f,v,V.grow<|Grow.laidR f,W⟩⟩,Grow.laidR f,.ref n.last,q⟩;exact q.elim
theorem Ae(i:Room k X.A)(f:X.calm=a9:=by kernel_rfl):HC X (.type "dict") iy:=⟨AA i f⟩
end
noncomputable abbrev EE(M:t9)(R:DK):DEnds:=⟨λ_ M'=>aQ M R .non M',aQ M R,λ_ _=>False,λ_ _=>False⟩
noncomputable def PF(n:Nat)(ds:List D):SD:=ds.map a7++Ob (n-ds.length) a8
abbrev A5(Pr:x5)(n:Nat)(t:t7):Prop:=∀ds M R,Pr ds M R->t (EE M R) (PF n ds) M
abbrev cZ(Pr:x5)(p:List b9):Prop:=∀ds M R,Pr ds M R->ds.length=p.length
abbrev DerT(P:c5)(w:c3)(K:t8)(mg:b9->Option b7)(base:c8)(k:Nat)(x:b9)(N:List b9)(st:g7)(t:t7):Prop:=∀(f:c6) (cdv:b7) (A:d8) (outer:List Env) (s:d9) (H:Hp) (E:XK),Room k (A.deeper<|P0 x (ao st) s.heap.objs.size f cdv)->HB (qg Ix P w K mg base N x (ao st) f cdv A outer s H E).nox (bB st) t
def wu(c:D9)(t:t7):t7:=λE S M=>∃W:Nat->SD->t9->Prop,(∃m,W m S M)/\∀m S M,W m S M ->c S M λb e=>if b=a9 then t ⟨λd a=>∃g,g < m/\W g d a,E.rt,E.nx,λd a=>∃g,g < m/\W g d a⟩ S e else E.nx S e
theorem xu{K:t8}{c:D9}{o:t7}(E:Ends)(σ:St)(H:Hp)(h:lowS K (wu c o) E σ H):Dj (lowT K c) (lowS K o) E σ H:=by
 obtain⟨S,M,ρ,F,s,G,⟨W,⟨C,J⟩,t⟩,k⟩:=h;refine⟨λm τ j=>∃a M2 d,u9 K d M2 j/\Grow K ρ H d j/\SRep K d j a τ/\W m a M2,⟨C,S,M,ρ,s,.refl,G,J⟩,?_⟩;rintro m τ j ⟨a,M2,d,D,A,r,L⟩;refine⟨a,M2,d,_,D,r,t m a M2 L,?_⟩;rintro b p ⟨l,i,w,g3,q⟩;have g:=A.trans g3;cases b with
 |true =>
  have n:∀e Y,SQ K i p (λx u=>∃f,f < m/\W f x u) e Y->∃f,f < m/\∃a M2 d,u9 K d M2 Y/\Grow K ρ H d Y/\SRep K d Y a e/\W f a M2:=λe Y ⟨y,X,N,s5,B,I,f,lt,O⟩=>⟨f,lt,y,X,N,s5,g.trans B,I,O⟩
  refine dB ⟨_,λP H' z=>z,a,l,i,_,w,r.grow g3,(show o _ a l from q),?_⟩;exact⟨n,λv Y z=>k.rt v Y<|VQ.trans g z,λe Y z=>k.nx e Y<|SQ.trans g z,n⟩
 |false=>exact dz<|k.nx τ p ⟨a,l,i,w,g,r.grow g3,(show F.nx a l from q)⟩
section
variable{X:Cx}{c:f6}{body:List g7}{tc:D9}{tb:t7}{pos:f8}
theorem we(f:HT X c tc)(d:HB X body tb)(p:PassesOwn (f7 X.prog X.w) X.A X.env X.xe:=by exact PassesOwn.never):HS X (.While c body [] pos) (wu tc tb):=⟨PS.imp (Bu p f.ok d.ok) xu⟩
end
inductive TopB(mg:b9->Option b7):List b9->List (b9×Int)->Prop
 |nil:TopB mg [] []
 |b {x:b9}{B:List b9}{C:List (b9×Int)} (h:mg x=a8) (t:TopB mg B C):TopB mg (x::B) C
 |c {x:b9}{i:Int}{C:List (b9×Int)} (h:∃t,mg x=a7 (.int i t)) (t:TopB mg [] C):TopB mg [] ((x,i)::C)
theorem TopB.no(h:TopB mg B C)(c:B.contains x=a9):mg x=a8:=by
 induction h with
 |nil=>simp at c
 |b h _ i=>simp only[List.contains_cons,OZ,p5]at c;rcases c with rfl|c;exact h;exact i c
 |c _ _ _=>simp at c
noncomputable def nodB:List b9->Bool
 | []=>a9
 |x::xs=>!xs.contains x&&nodB xs
theorem Iq:∀{l:List b9},nodB l=a9->l.Nodup
 | [],_=>N9
 |x::xs,h=>by simp only[nodB,D6,Bool.not_eq_true',List.contains_eq_mem,decide_eq_false_iff_not]at h;exact KC.mpr ⟨h.1,Iq h.2⟩
noncomputable def tgN:f6->List b9
 |.Name x _=>[x]
 |.Tuple es _ _=>es.filterMap fun|.Name x _=>a7 x|_=>a8
 |_=>[]
noncomputable abbrev Le(N:List b9)(js:List Nat)(tg:f6):List b9:=tgN tg++js.map λj=>N.getD j ""
section
variable{X:Cx}{tg iter elt:f6}{ifs:List f6}{scope:e6}{nt i:Nat}{js:List Nat}{di:KL}{g:G1}{tt:D9}{te:v5}{pos pos' pos2:f8}{x:b9}
theorem k_lcN(hi:HI X tg iter di)(S:∀cl s0 H0 ex,HG (z9 X (Le X.N js tg) scope cl s0 H0 ex) tg g)(D:∀cl s0 H0 ex,MG (z9 X (Le X.N js tg) scope cl s0 H0 ex) ifs tt)(i:∀cl s0 H0 ex,HE (z9 X (Le X.N js tg) scope cl s0 H0 ex) elt te)(B:nw X.env.scope.names X.N (Le X.N js tg) nt js scope=a9:=by kernel_rfl) (f:X.calm=a9:=by kernel_rfl) (hs:∀x,j0 iter X.env x=pure x:=by intro _;kernel_rfl):HE X (.ListComp elt [⟨tg,iter,ifs,0⟩] scope pos) (E8 nt js di g tt te):=k_lc hi S D i B f hs
theorem sP(a:X.N.Nodup)(hi:HI X tg iter di)(S:∀cl s0 H0 ex,HG (z9 X (Le X.N js tg) scope cl s0 H0 ex) tg g)(D:∀cl s0 H0 ex,MG (z9 X (Le X.N js tg) scope cl s0 H0 ex) ifs tt)(e:∀cl s0 H0 ex,HE (z9 X (Le X.N js tg) scope cl s0 H0 ex) elt te)(B:nw X.env.scope.names X.N (Le X.N js tg) nt js scope=a9:=by kernel_rfl) (f:X.calm=a9:=by kernel_rfl) (hs:∀x,j0 iter X.env x=pure x:=by intro _;kernel_rfl) (w:g9 (.ListComp elt [⟨tg,iter,ifs,0⟩] scope pos) (a7<|.Name x pos') pos2.line X.env=pure a9:=by kernel_rfl)(h:X.N[i]?=a7 x:=by kernel_rfl) (c:Fb X.env.scope x=a9:=by kernel_rfl) (b:X.fn x=a9:=by kernel_rfl):HS X (.Assign [.Name x pos'] (.ListComp elt [⟨tg,iter,ifs,0⟩] scope pos) pos2) (il nt js di g tt te i):=Cc a hi S D e B f hs w h c b
theorem gA(h:HA X es t):HA X es t:=h
theorem gE(h:HE X e te):HE X e te:=h
theorem gCall(h:HE X (.Call a b c pos) te):HE X (.Call a b c pos) te:=h
theorem gIx(h:HE X (.Subscript a b pos) te):HE X (.Subscript a b pos) te:=h
theorem Jw(h:HE X (.Constant a b pos) te):HE X (.Constant a b pos) te:=h
theorem gT(h:HT X e tt):HT X e tt:=h
theorem gS{st:g7}{t:t7}(h:HS X st t):HS X st t:=h
theorem gOp(h:F6 X f r):F6 X f r:=h
theorem gC(h:HC X f r):HC X f r:=h
theorem FV{b:List g7}{st:g7}{s:List g7}{t:t7}(h:b=st::s)(q:HB X (st::s) t):HB X b t:=h ▸ q
end
section
variable{P:c5}{w:c3}{K:t8}{mg:b9->Option b7}{base:c8}{x:b9}{st:g7}{N ps:List b9}{k:Nat}{Pr:x5}{B:List b9}{C:List (b9×Int)}{t:t7}
theorem v4.byD(T:TopB mg B C)(F:ck K mg x st ps)(i:FnScope N ps (ao st))(n:cZ Pr ps)(r:TopB mg B C->N.Nodup->DerT P w K mg base k x N st t)(p:∀ds M R,Pr ds M R->t (EE M R) (cR N ds) M):v4 P w K mg base (k+1) x ps Pr:=v4.byH F i n (r T i.nd) p
theorem CC(T:TopB mg B C)(F:Lh K x x st f fd)(i:FnScope N ps (ao st))(n:cZ Pr ps)(r:TopB mg B C->N.Nodup->DerT P w K mg base k x N st t)(p:∀ds M R,Pr ds M R->t (EE M R) (cR N ds) M):FnOk P w K mg base Ix (k+1) f fd ps (K1 K Pr):=CB F i n (r T i.nd) p
end
section
variable{X:Cx}{pins:List (c6×c7)}{σ:St}{H:Hp}{s:d9}{a:c6}
structure Qn(X:Cx)(pins:List (c6×c7))(H:Hp)(a:c6):Prop where
 un:H a=a8
 ne:a≠X.env.locals
 fs:a∉X.fs
 s0:X.s₀.heap.objs.size<=a
 cl:∀x c,X.env.cells.lookup x=a7 c->c≠a
 pn:∀p∈X.pn++pins,p.1≠a
end
section
variable{X:Cx}{pins:List (c6×c7)}{σ:St}{ρ:List c6}{M:t9}
structure KySt(X:Cx)(pins:List (c6×c7))(σ:St)(ρ:List c6)(M:t9)(m:b9->Option b7)(kS aD:c6)(e1:Nat)(H0 H:Hp)(s:d9)(ks:List b7)(e:Nat):Prop where
 inv:t4 X pins σ H s
 ns:s.heap.Ns X.env.locals m
 sm:u9 X.K ρ M H
 gr:Grow X.K ρ H0 ρ H
 hk:s.heap.get? kS=a7 (m9 "list" (N5 ks) e)
 hd:s.heap.get? aD=a7 (m9 "list" #[] e1)
 ok:Qn X pins H kS
 od:Qn X pins H aD
 ne:aD≠kS
end
structure BlkScC(X:Cx)(N':List b9)(nt:Nat)(js:List Nat)(scope:e6):Prop where
 kind:scope.kind=.function
 kinds:∀y∈scope.names,scope.names.lookup y.1=a7 y.2
 free:∀y∈scope.names,y.2=.free->(X.env.kindOf y.1=a7 .cell\/X.env.kindOf y.1=a7 .free)
 len:N'.length=nt+js.length
 fr:∀(k j:Nat),js[k]?=a7 j->∃x,N'[nt+k]?=a7 x/\X.N[j]?=a7 x/\scope.names.lookup x=a7 .free/\(X.env.kindOf x=a7 .cell\/X.env.kindOf x=a7 .free)
structure CfOk(h:c8)(k:Nat)(names:List (b9×j8))(acc cs:List (b9×c6)):Prop where
 look:∀z c,cs.lookup z=a7 c->(acc.lookup z=a7 c/\(z,Mr)∉names)\/((z,Mr)∈names/\k<=c/\h.IsCell c a8)
 inj:∀y z c,cs.lookup y=a7 c->cs.lookup z=a7 c->y=z
 old:∀z c,acc.lookup z=a7 c->∃c',cs.lookup z=a7 c'
 new:∀z,(z,Mr)∈names->∃c,cs.lookup z=a7 c
def Gk(i:Nat):G1:=am i
section
variable{K:t8}{ρ:List c6}{H:Hp}
theorem lg:∀{kvs:List (b9×D)}{vs:List V},Reps K ρ H (kvs.map (·.2)) vs->gU kvs k=a8->yd (kM (kvs.map (·.1)) vs) (ABe k)=a8
 | [],_,_,_=>by rfl
 |(k',d')::kvs,_,.cons (v:=v) (vs:=vs) h t,e=>by
  have hk:k'≠k:=λz=>by subst z;simp[gU]at e
  have e':gU kvs k=a8:=by
   have:gU ((k',d')::kvs) k=gU kvs k:=by simp[gU,hk]
   rw[<-this];exact e
  have q:=lg t e';show yd ((ABe k',v)::kM (kvs.map (·.1)) vs) (ABe k)=a8;rw[va<|λz=>hk<|by injection z];exact q
end
section
variable{X:Cx}{o:f6}{pos:f8}{k:Nat}{name:b9}{id:String}{e:f6}{es:List f6}{to:v5}{t:D4}{apos cpos:f8}
def NQ(r:Nat->B7)(d:v5)(t:D4):v5:=λS M Q=>d S M λx a=>match x with
 |.ref n=>(∃s,a[n]?=a7 (.dct s))/\t S a λds M2=>r n ds M2 Q
 |_=>False
theorem d_mk(slot:Slot "dict" name id)(y:l7 (.builtin id)=pure (.type "method_descriptor"))(U:H9 X id (jQ X.K r))(V:DE X o to)(T:DA X (e::es) t)(c:l8 o name X.env (eval o X.env)=eval o X.env:=by rfl)(f:((f9 cpos<|ge (e::es) X.env).all (λx=>!x.1)&&(m3 cpos<|m5 [] X.env).all (λx=>x.1.isSome) && decide ((e::es).length+([]:List j7).length+(if ([]:List j7).isEmpty then 0 else 1)<30))=a9:=by rfl)(d:(apos.endLine==cpos.line)=a9:=by rfl) (hs:ge (e::es) X.env=(bt,eval e X.env)::ge es X.env:=by rfl) (h:(f9 cpos<|ge es X.env).any (·.1)=bt:=by rfl):DE X (.Call (.Attribute o name apos) (e::es) [] cpos) (NQ r to t):=by
 rintro p s σ H R I ⟨S,M,ρ,Q,sm,J,q,W⟩;refine Pn c f d rfl<|v6 (V p s σ H _ I ⟨S,M,ρ,_,sm,J,q,λv H' z=>z⟩) ?_;rintro u s1 ⟨v,H1,C,rv,x,i,A,j,g1,r1,g⟩;cases r1 with
 |@ref n a G =>
  cases rv;obtain⟨⟨k,P⟩,g⟩:=(show (∃k,i[n]?=a7 (.dct k))/\t S i _ from g)
  obtain⟨ws,O,_⟩:=j.obj _ _ _ G P;obtain⟨z1,z2,Z,ab,D⟩:=Gi C.hok O;refine⟨"dict",id,Po,slot,y,D.typeIs,λb z=>?_,?_⟩;cases z;obtain⟨Y,_,_,h1,h2,_⟩:=D;exact⟨Y,h1,h2.2.1⟩;have F:=T cpos p s1 σ H1 _ C ⟨S,i,A,_,j,J.grow g1,g,λvs H' z=>z⟩;rw[hs]at F ⊢;refine NE (by show (bt||(f9 cpos<|ge es X.env).any (·.1))=bt;rw[h]<;>rfl)<|Os ?_;refine v6 F ?_;rintro us s2 ⟨vs,L,N,l,ds,M2,B,m,E,rr,q2⟩;exact U p s2 σ L (.ref a) vs (.ref a) us R N rfl l ⟨n,a,ds,M2,B,Q,rfl,aq E.pre G,m,rr,q2,λv H' w=>W v H'<|VQ.trans (g1.trans E) w⟩
 |_=>exact g.elim
def vQ(n:Nat):B7:=λds M Q=>match ds with
 | [.str x,d]=>∃s,M[n]?=a7 (.dct s)/\Q ((gU s x).getD d) M
 |_=>False
theorem BT:H9 X "dict.get" (jQ X.K vQ):=by
 rintro p s σ H x xs v us R I F E ⟨n,a,ds,M,ρ,Q,o,A,m,b,q,C⟩;unfold vQ at q;split at q;rename_i x d;obtain⟨e,y,q⟩:=q;have z:=Reps.inv_cons b;clear b;obtain⟨_,_,rfl,B,b⟩:=z;have z:=Reps.inv_cons b;clear b;obtain⟨_,_,rfl,D,b⟩:=z;obtain rfl:=Reps.inv_nil b;obtain rfl:=u4.inv_str B;obtain⟨S,J,rfl,t,h⟩:=ar.two E;subst o;obtain rfl:v=ABF a:=F;obtain⟨L,u,r⟩:=m.obj _ _ _ A y;obtain⟨N,G,Z,l,g⟩:=Gi I.hok u;refine Nn NB g.typeIs P5 (Qb _ _ _) (meets_dict_get_default (dZ X.prog X.w) a (Jd (k:=ABe x) t) G J) ⟨_,g.mapOf,?_⟩;cases c:gU e x with
 |none=>rw[c]at q;exact⟨_,H,I.tok _,(by have:=(l.val<|ABe x).getD h;rw[lg r c]at this;exact this),C _ _ ⟨d,M,ρ,m,.refl,D,q⟩⟩
 |some i=>rw[c]at q;obtain⟨Y,j,f⟩:=kI r c;exact⟨_,H,I.tok _,(by have:=(l.val<|ABe x).getD h;rw[j]at this;exact this),C _ _ ⟨i,M,ρ,m,.refl,f,q⟩⟩
 exact q.elim
def vP(n:Nat):B7:=λds M Q=>match ds with
 | [.str x,d]=>∃s,M[n]?=a7 (.dct s)/\s.length<sizeLine/\(∀y,gU s x=a7 y->Q y M)/\(gU s x=a8->Q d (M.set n<|.dct<|qq s x d))
 |_=>False
theorem BS:H9 X "dict.setdefault" (jQ X.K vP):=by
 rintro E s σ H x xs v us R I rx rs ⟨n,a,ds,M,ρ,Q,P,C,t,c,q,D⟩;unfold vP at q;split at q;rename_i x d;obtain⟨b,B,hl,W,Y⟩:=q;have z:=Reps.inv_cons c;clear c;obtain⟨_,_,rfl,r1,c⟩:=z;have z:=Reps.inv_cons c;clear c;obtain⟨_,vd,rfl,G,c⟩:=z;obtain rfl:=Reps.inv_nil c;obtain rfl:=u4.inv_str r1;obtain⟨u1,J,rfl,O,A⟩:=ar.two rs;subst P;obtain rfl:v=ABF a:=rx;obtain⟨ws,o,r⟩:=t.obj _ _ _ C B;obtain⟨z1,N,Z,l,y⟩:=Gi I.hok o;refine Nn Pw y.typeIs PySem.F.entry_dict_setdefault (PySem.F.args_dict_setdefault_3 _ _ _) (kt_meets_setdefault (dZ X.prog X.w) a (Jd (k:=ABe x) O) N J) ⟨Z,y,by rw[<-l.length];exact z1,λw' j=>?_,λj h' e sb=>?_⟩;cases h:gU b x with
 |none=>have:=l.val<|ABe x;rw[lg r h,j]at this;exact this.elim
 |some u=>obtain⟨w0,m,g⟩:=kI r h;have:=l.val<|ABe x;rw[m,j]at this;exact⟨_,H,I.tok _,this,D _ _ ⟨u,M,ρ,t,.refl,g,W _ h⟩⟩
 cases h:gU b x with
 |some u=>obtain⟨w0,m,g⟩:=kI r h;have:=l.val<|ABe x;rw[m,j]at this;exact this.elim
 |none =>
  obtain⟨i,S,f⟩:=Es (k:=x) G r;obtain⟨w1,L⟩:=t.writeD C B o f;have T:∃q,h'.get? a=a7 q:=let ⟨q,_,_,hq,_⟩:=e;⟨q,hq⟩
  have lw:=r.length;have p:KV (kM ((qq b x d).map (·.1)) i) (stored Z (ABe x) J):=by rw[<-S];exact l.put (ABe x) A
  have V:(kM ((qq b x d).map (·.1)) i).length<=sizeLine:=by
   have U:=f.length;have l2:(qq b x d).length<=b.length+1:=by unfold qq;split<;>simp
   rw[u8]at U;rw[kM,u8,List.length_zip,u8];lia
  exact⟨_,_,uR I (by rw[o];exact Mn) sb T<|JP V N p e,A,D _ _ ⟨d,_,ρ,w1,L,G.grow L,Y h⟩⟩
 exact q.elim
theorem FG(B:HE X o to)(f:HA X (e::es) t)(h:l8 o "get" X.env (eval o X.env)=eval o X.env:=by kernel_rfl)(w:((f9 cpos<|ge (e::es) X.env).all (λx=>!x.1)&&(m3 cpos<|m5 [] X.env).all (λx=>x.1.isSome) && decide ((e::es).length+([]:List j7).length+(if ([]:List j7).isEmpty then 0 else 1)<30))=a9:=by kernel_rfl)(a:(apos.endLine==cpos.line)=a9:=by kernel_rfl) (hs:ge (e::es) X.env=(bt,eval e X.env)::ge es X.env:=by kernel_rfl) (n:(f9 cpos<|ge es X.env).any (·.1)=bt:=by kernel_rfl):HE X (.Call (.Attribute o "get" apos) (e::es) [] cpos) (NQ vQ to t):=⟨d_mk NB P1 BT B.ok f.ok h w a hs n⟩
theorem FF(B:HE X o to)(f:HA X (e::es) t)(h:l8 o "setdefault" X.env (eval o X.env)=eval o X.env:=by kernel_rfl)(w:((f9 cpos<|ge (e::es) X.env).all (λx=>!x.1)&&(m3 cpos<|m5 [] X.env).all (λx=>x.1.isSome) && decide ((e::es).length+([]:List j7).length+(if ([]:List j7).isEmpty then 0 else 1)<30))=a9:=by kernel_rfl)(a:(apos.endLine==cpos.line)=a9:=by kernel_rfl) (hs:ge (e::es) X.env=(bt,eval e X.env)::ge es X.env:=by kernel_rfl) (n:(f9 cpos<|ge es X.env).any (·.1)=bt:=by kernel_rfl):HE X (.Call (.Attribute o "setdefault" apos) (e::es) [] cpos) (NQ vP to t):=⟨d_mk Pw PySem.F.type_dict_setdefault BS B.ok f.ok h w a hs n⟩
end
end L2
namespace L2
open PySem PySem.Spec PyProof.Rows DL
def GtAt(A:d8)(s:d9)(x y:b7)(k:Bool):Prop:=∀(g:c5) (w:c3) (E:b7->d9->Prop) (Q:b7->d9->Prop),Q (.bool k) s->e8 (f7 g w) A (richCompare .Gt x y) Q E s
inductive GexAt(A:d8)(s:d9):List b7->List b7->Bool->Prop
 |nn:GexAt A s [] [] bt
 |nc {y:b7}{ys:List b7}:GexAt A s [] (y::ys) bt
 |cn {x:b7}{xs:List b7}:GexAt A s (x::xs) [] a9
 |eq {x y:b7}{xs ys:List b7}{k:Bool} (h:K5 A s x y a9) (t:GexAt A s xs ys k):GexAt A s (x::xs) (y::ys) k
 |ne {x y:b7}{xs ys:List b7}{k:Bool} (h:K5 A s x y bt) (t:GtAt A s x y k):GexAt A s (x::xs) (y::ys) k
section
variable{prog:c5}{w:c3}{A:d8}{E:b7->d9->Prop}{s:d9}{d:c6}{o:c7}{es:Array m7}{ep:Nat}{xs:List (D×b7×b7)}{k:D}{key:b7}{hs:D->Int}{Q:Option Nat->d9->Prop}
theorem qd(i:es.toList=xs.map (Ar hs))(j:Nat):es[j]?=(xs[j]?).map (Ar hs):=by rw[<-G6,i,D5]
def AN(xs:List (D×b7×b7))(k:D)(i:Nat)(t:Option Nat):Prop:=(t=a8/\∀j p,j<i->xs[j]?≠a7 (k,p))\/∃j p,t=a7 j/\j<i/\xs[j]?=a7 (k,p)
noncomputable def pM(es:Array m7)(h:Int)(i:Nat):Bool:=(es[i]?.map (·.hash))==a7 h
theorem iY(e:es.toList=xs.map (Ar hs))(a:∀j,i<=j->j<x->pM es (hs k) j=bt)(h:AN xs k i hit)(d:i<=x):AN xs k x hit:=by
 rcases h with⟨c,o⟩|⟨j,p,h1,f,L⟩
 refine .inl ⟨c,λj p b L=>?_⟩;rcases KR j i with h|h;exact o j p h L;have:=a j h b;unfold pM at this;rw[qd e j,L]at this;simp[Ar]at this;exact .inr ⟨j,p,h1,by lia,L⟩
theorem bL(h:AN xs k x hit)(c:xs[x]?=a7 (k',p'))(e:¬k'=k):AN xs k (x+1) hit:=by
 rcases h with⟨a,o⟩|⟨j,p,h1,b,L⟩
 refine .inl ⟨a,λj p b L=>?_⟩;rcases KR j x with h|h;exact o j p h L;obtain rfl:j=x:=by lia
 rw[c]at L;exact e (by injection L with L;injection L);exact .inr ⟨j,p,h1,by lia,L⟩
theorem gG(f:(xs.map (·.1)).Nodup){i j:Nat}{p q:b7×b7}(hi:xs[i]?=a7 (k,p))(L:xs[j]?=a7 (k,q)):i=j:=by
 have h:(xs.map (·.1))[i]?=a7 k:=by rw[D5,hi];rfl
 have a:(xs.map (·.1))[j]?=a7 k:=by rw[D5,L];rfl
 exact(List.getElem?_inj (z6.mp h).1 f).mp<|h.trans a.symm
theorem pc(e:es.toList=xs.map (Ar hs))(r:(Mo i<|es.size-i).filter (pM es<|hs k)=[])(h:AN xs k i hit):AN xs k xs.length hit:=by
 have z:es.size=xs.length:=by rw[<-D7,e,u8]
 rcases KR i xs.length with hi|hi;refine iY e (λj h1 h2=>?_) h<|LZ hi;have:=List.filter_eq_nil_iff.mp r j<|List.mem_range'_1.mpr ⟨h1,by lia⟩;simpa using this;rcases h with⟨a,o⟩|⟨j,p,h1,f,L⟩
 exact .inl ⟨a,λj p L=>o j p<|by lia⟩;exact .inr ⟨j,p,h1,(z6.mp L).1,L⟩
theorem nV{d:List b7}{Q:Bool->d9->Prop}(k:∀(Q:Bool->d9->Prop) (E:b7->d9->Prop),Q a9 s->e8 (f7 prog w) A (o0 8 key) Q E s)(qs:∀v∈d,∀(Q:Bool->d9->Prop) (E:b7->d9->Prop),Q a9 s->e8 (f7 prog w) A (o0 8 v) Q E s) (h:Q bt s):e8 (f7 prog w) A (tableMayTell key d) Q E s:=by unfold tableMayTell;split;exact t6 h;refine r9<|k _ _ ?_;simp only[Lj,A4,p6];refine r9 ?_;refine Lm _ (λaF r s'=>s'=s/\r=(a8,())/\∀v∈aF,v∈d) _ ?_ ?_ _ _ ⟨rfl,rfl,λ_ c=>c⟩;rintro x aF r s' ⟨rfl,rfl,i⟩;refine r9<|qs x (i x C9) _ _ ?_;simp only[Lj,A4,p6];exact t6 ⟨rfl,rfl,λv c=>i v<|A8 _ c⟩;rintro r s' ⟨rfl,rfl,_⟩;exact t6 h
theorem CF(S:s.heap.get? d=a7 o)(N:o.data=.dict es ep)(I:es.toList=xs.map (Ar hs))(hn:(xs.map (·.1)).Nodup)(kk:key=.none\/∃a,key=.ref a)(qk:∀(Q:Bool->d9->Prop) (E:b7->d9->Prop),Q a9 s->e8 (f7 prog w) A (o0 8 key) Q E s)(qx:∀x∈xs,∀(Q:Bool->d9->Prop) (E:b7->d9->Prop),Q a9 s->e8 (f7 prog w) A (o0 8 x.2.1) Q E s)(ai:∀x∈xs,x.2.1=key->x.1=k)(X:∀x∈xs,∀(Q:Bool->d9->Prop) (E:b7->d9->Prop),Q (decide<|x.1=k) s->e8 (f7 prog w) A (eqBool x.2.1 key) Q E s)(R:(∀(j:Nat) (p:b7×b7),xs[j]?≠a7 (k,p))->Q a8 s) (n:∀(j:Nat) (p:b7×b7),xs[j]?=a7 (k,p)->Q (a7 j) s):e8 (f7 prog w) A (dictFind d key<|hs k) Q E s:=by
 have ab:es.size=xs.length:=by rw[<-D7,I,u8]
 have K:∀e∈es,∃x∈xs,e=Ar hs x:=by intro e P;have:e∈xs.map (Ar hs):=I ▸ Array.mem_toList_iff.mpr P;obtain⟨x,T,rfl⟩:=w9.mp this;exact⟨x,T,rfl⟩
 have V:¬(es.any λe=>e.key==key&&e.hash != hs k)=a9:=by rw[<-Array.any_toList,Lx];rintro⟨e,P,hc⟩;obtain⟨x,T,rfl⟩:=K e<|Array.mem_toList_iff.mp P;simp only[Ar,D6,p5,bne_iff_ne,ne_eq]at hc;exact hc.2<|by rw[ai x T hc.1]
 have Z:∀v∈(o4 es.size (λi=>es[i]?.map (·.hash))<|hs k).filterMap (λi=>es[i]?.map (·.key)),∃x∈xs,v=x.2.1:=by
  intro v hv;obtain⟨i,_,hi⟩:=M8.mp hv;cases O:es[i]? with
  |none=>rw[O]at hi;cases hi
  |some e =>
   rw[O]at hi;obtain rfl:e.key=v:=by simpa using hi
   obtain⟨x,T,rfl⟩:=K e<|Array.mem_of_getElem? O;exact⟨x,T,rfl⟩
 have M:∀f,AN xs k xs.length f->Q f s:=by rintro f (⟨rfl,hno⟩|⟨j,p,rfl,_,L⟩);exact R λj p L=>hno j p (z6.mp L).1 L;exact n j p L
 have start:o4 es.size (λi=>es[i]?.map (·.hash)) (hs k)=(Mo 0<|es.size-0).filter (pM es<|hs k):=by rw[o4,List.range_eq_range',Nat.sub_zero];rfl
 have U:AN xs k 0 a8:=.inl ⟨rfl,λ_ _ h=>o7 h<|LN _⟩;have G:∀{x i:Nat}{aF:List Nat},x::aF=(Mo i<|es.size-i).filter (pM es<|hs k)->i<=es.size->∃C u v,xs[x]?=a7 (C,u,v)/\es[x]?=a7 ⟨hs C,u,v⟩/\i<=x/\x+1<=es.size/\aF=(Mo (x+1)<|es.size-(x+1)).filter (pM es<|hs k)/\∀j,i<=j->j<x->pM es (hs k) j=bt:=by
  intro x i aF B hi;obtain⟨r,an,aj,m,t⟩:=filter_range'_cons _ _ _ _ _ B.symm;have l:x<es.size:=by lia
  obtain⟨⟨C,u,v⟩,c⟩:∃y,xs[x]?=a7 y:=⟨xs[x]'(by rw[<-ab];exact l),v9 _⟩
  exact⟨C,u,v,c,by rw[qd I x,c];rfl,r,l,by rw[t];congr 2;lia,m⟩
 unfold dictFind
 try with_reducible refine E4 ?_
 refine r9<|Mb S N ?_;have W:∀v∈(o4 es.size (λi=>es[i]?.map (·.hash))<|hs k).filterMap (λi=>es[i]?.map (·.key)),∀(Q:Bool->d9->Prop) (E:b7->d9->Prop),Q a9 s->e8 (f7 prog w) A (o0 8 v) Q E s:=λv hv=>by obtain⟨x,T,rfl⟩:=Z v hv;exact qx x T
 rcases kk with rfl|⟨a,rfl⟩
 dsimp only;by_cases J:((ABh::(o4 es.size (λi=>es[i]?.map (·.hash))<|hs k).filterMap (λi=>es[i]?.map (·.key))).all carriedByValue)=a9;rw[o5 J];unfold dictWalkPlain;refine r9 ?_;rw[start];refine Lm _ (λaF b s'=>s'=s/\b=(a8,())/\∃i,aF=(Mo i<|es.size-i).filter (pM es<|hs k)/\i<=es.size/\AN xs k i a8) _ ?_ ?_ _ _ ⟨rfl,rfl,0,rfl,z5 _,U⟩;rintro x aF b s' ⟨rfl,rfl,i,B,hi,H⟩;obtain⟨C,u,v,c,D,r,l,t,m⟩:=G B hi;have H:=iY I m H r;rw[D];dsimp only;by_cases F:(hs C==hs k)=a9;rw[o5 F];refine r9<|Ll S N<|r9<|X _ (J1 c) _ _<|r9<|Ll S N ?_;show e8 _ _ (if (ep != ep)=a9 then _ else _) _ E _;rw[o6<|by simp];by_cases g:C=k;rw[dT_ g];subst g;rw[o5 rfl];exact r9<|KA<|t6<|t6<|n x _ c;rw[dF_ g,o6<|by decide];exact r9<|KA<|t6 ⟨rfl,rfl,x+1,t,l,bL H c g⟩;rw[o6 F];exact t6 ⟨rfl,rfl,x+1,t,l,bL H c λe=>F<|by rw[e];simp⟩;rintro b s' ⟨rfl,rfl,i,B,hi,H⟩;exact t6<|M a8<|pc I B.symm H;rw[o6 J];by_cases q:(((o4 es.size (λi=>es[i]?.map (·.hash))<|hs k).filterMap (λi=>es[i]?.map (·.key)))==[ABh])=a9 <;>
 (first|rw[o5 q]|rw[o6 q])<;>(first|refine r9 (t6 ?_)|refine r9<|nV qk W ?_)<;>(
  rw[o6<|by simp];refine r9 ?_;rw[start];refine Lm _ (λaF b s'=>s'=s/\∃i f,b=(a8,f)/\aF=(Mo i<|es.size-i).filter (pM es<|hs k)/\i<=es.size/\AN xs k i f) _ ?_ ?_ _ _ ⟨rfl,0,a8,rfl,rfl,z5 _,U⟩;rintro x aF b s' ⟨rfl,i,f,rfl,B,hi,H⟩;obtain⟨C,u,v,c,D,r,l,t,m⟩:=G B hi;have H:=iY I m H r;rw[D];dsimp only;by_cases F:(hs C==hs k)=a9;rw[o5 F];refine r9<|Ll S N<|r9<|X _ (J1 c) _ _<|r9<|Ll S N ?_;show e8 _ _ (if (ep != ep)=a9 then _ else _) _ E _;rw[o6<|by simp];by_cases g:C=k;rw[dT_ g];subst g;rcases H with⟨rfl,_⟩|⟨j,p,_,Y,L⟩
  first|rw[o5 rfl]|skip
  simp only[Option.isSome_none,A4,p6]
  first|refine r9 (t6 ?_)|skip
  refine r9<|KA ?_;split;exact t6<|t6<|n x _ c;exact t6 ⟨rfl,x+1,a7 x,rfl,t,l,.inr ⟨x,_,rfl,Kw x,c⟩⟩;exact o7 (gG hn L c) (by lia);rw[dF_ g];simp only[A4,p6];refine r9<|KA ?_
  first|rw[o6<|by simp]|skip
  first
   |exact t6 ⟨rfl,x+1,f,rfl,t,l,bL H c g⟩
   |exact r9 (t6 (t6 ⟨rfl,x+1,f,rfl,t,l,bL H c g⟩))
  rw[o6 F];exact t6 ⟨rfl,x+1,f,rfl,t,l,bL H c λe=>F<|by rw[e];simp⟩;rintro b s' ⟨rfl,i,f,rfl,B,hi,H⟩;have z:=M f<|pc I B.symm H;exact t6 z)
 dsimp only;rw[o6 (show ¬((ABF a::(o4 es.size (λi=>es[i]?.map (·.hash))<|hs k).filterMap (λi=>es[i]?.map (·.key))).all carriedByValue)=a9 by simp[carriedByValue]),o6 V];by_cases q:(((o4 es.size (λi=>es[i]?.map (·.hash))<|hs k).filterMap (λi=>es[i]?.map (·.key)))==[ABF a])=a9 <;>
 (first|rw[o5 q]|rw[o6 q])<;>(first|refine r9 (t6 ?_)|refine r9<|nV qk W ?_)<;>(
  rw[o6<|by simp];refine r9 ?_;rw[start];refine Lm _ (λaF b s'=>s'=s/\∃i f,b=(a8,f)/\aF=(Mo i<|es.size-i).filter (pM es<|hs k)/\i<=es.size/\AN xs k i f) _ ?_ ?_ _ _ ⟨rfl,0,a8,rfl,rfl,z5 _,U⟩;rintro x aF b s' ⟨rfl,i,f,rfl,B,hi,H⟩;obtain⟨C,u,v,c,D,r,l,t,m⟩:=G B hi;have H:=iY I m H r;rw[D];dsimp only;by_cases F:(hs C==hs k)=a9;rw[o5 F];refine r9<|Ll S N<|r9<|X _ (J1 c) _ _<|r9<|Ll S N ?_;show e8 _ _ (if (ep != ep)=a9 then _ else _) _ E _;rw[o6<|by simp];by_cases g:C=k;rw[dT_ g];subst g;rcases H with⟨rfl,_⟩|⟨j,p,_,Y,L⟩
  first|rw[o5 rfl]|skip
  simp only[Option.isSome_none,A4,p6]
  first|refine r9 (t6 ?_)|skip
  refine r9<|KA ?_;split;exact t6<|t6<|n x _ c;exact t6 ⟨rfl,x+1,a7 x,rfl,t,l,.inr ⟨x,_,rfl,Kw x,c⟩⟩;exact o7 (gG hn L c) (by lia);rw[dF_ g];simp only[A4,p6];refine r9<|KA ?_
  first|rw[o6<|by simp]|skip
  first
   |exact t6 ⟨rfl,x+1,f,rfl,t,l,bL H c g⟩
   |exact r9 (t6 (t6 ⟨rfl,x+1,f,rfl,t,l,bL H c g⟩))
  rw[o6 F];exact t6 ⟨rfl,x+1,f,rfl,t,l,bL H c λe=>F<|by rw[e];simp⟩;rintro b s' ⟨rfl,i,f,rfl,B,hi,H⟩;have z:=M f<|pc I B.symm H;exact t6 z)
end
section
variable{X:Cx}{pins:List (c6×c7)}{σ:St}{H:Hp}{s:d9}{ρ:List c6}{M:t9}{kvs:List (D×D)}{xs:List (D×b7×b7)}
theorem zS(h:xA d=a9):u7 M 8 d=a9:=by
 cases d with
 |non=>rfl
 |tup s=>exact pV 8 _ h
 |_=>cases h
theorem mT(I:t4 X pins σ H s)(r:u4 X.K ρ H k u)(e:aH u key)(b:xA k=a9):(k=.non/\key=.none)\/∃ks a,k=.tup ks/\key=.ref a/\fM s.heap 8 (.tup ks) (.ref a):=by
 cases k with
 |non=>obtain rfl:=u4.inv_non r;exact .inl ⟨rfl,e⟩
 |tup ks=>have t:=fW I 8 _ _ _ r e b;obtain⟨a,its,rfl,h⟩:=id t;exact .inr ⟨ks,a,rfl,rfl,t⟩
 |_=>cases b
theorem wm(I:t4 X pins σ H s)(g:A.units+8<j4)(r:u4 X.K ρ H k u)(e:aH u key)(b:xA k=a9)(h:∀tk,Q (Mi X.w k) { s with toks:=tk }):e8 (f7 X.prog X.w) A (pyHash key) Q E s:=by
 rcases mT I r e b with⟨rfl,rfl⟩|⟨c,a,rfl,rfl,t⟩
 exact PySem.W.pyHash_slot (T:="NoneType") rfl PySem.F.slot_NoneType_hash PySem.F.entry_NoneType_hash (PySem.F.args_NoneType_hash_1 _) (beq_builtin_none _) (.inr<|by lia)<|r9<|t6<|r9<|wpAny_mkInt<|t6 ⟨_,_,rfl,h _⟩;exact oQ 8 _ _ _ _ _ _ g t<|h _
theorem JC(I:t4 X pins σ H s)(m:u9 X.K ρ M H)(g:A.units+8<j4)(r:u4 X.K ρ H k u)(e:aH u key)(a:xA k=a9)(r':u4 X.K ρ H k' u')(b:aH u' key')(d:xA k'=a9):K5 A s key key' (decide<|k=k'):=by
 have h:=(kr I m 8 A k k' _ _ _ _ g r e r' b (zS a)<|zS d).1;have q:u3 M 8 k k'=decide (k=k'):=by
  cases k with
  |non=>cases k' with
   |non=>rw[dT_ rfl];rfl
   |tup _=>rw[dF_ λz=>by cases z];rfl
   |_=>cases d
  |tup f=>cases k' with
   |non=>rw[dF_ λz=>by cases z];rfl
   |tup c=>rw[Bool.eq_iff_iff,iN 8 _ _ a d,o8]
   |_=>cases d
  |_=>cases a
 rw[q]at h;exact h
theorem rX(I:t4 X pins σ H s)(r:u4 X.K ρ H k u)(e:aH u key)(b:xA k=a9)(h:Q a9 s):e8 (f7 X.prog X.w) A (o0 8 key) Q E s:=by
 rcases mT I r e b with⟨rfl,rfl⟩|⟨c,a,rfl,rfl,t⟩
 exact t6 h;exact mU 8 8 _ _ _ _ _ _ (u6 _) t h
theorem BC:∀{kvs:List (D×D)}{xs:List (D×b7×b7)}{x:D×b7×b7},Paired (K2 X.K ρ H) kvs xs->x∈xs->∃p∈kvs,K2 X.K ρ H p x
 |_,_,x,.cons q t,h=>by rcases A0.mp h with rfl|h;exact⟨_,C9,q⟩;obtain⟨p,hp,z⟩:=BC t h;exact⟨p,A8 _ hp,z⟩
theorem kN(r:Paired (K2 X.K ρ H) kvs xs):xs.map (·.1)=kvs.map (·.1):=by
 induction r with
 |nil=>rfl
 |cons h t i=>rw[B8,B8,i,h.1]
theorem pU(r:Paired (K2 X.K ρ H) kvs xs)(k:D):(bi kvs k=a8/\∀(j:Nat) (p:b7×b7),xs[j]?≠a7 (k,p))\/∃(d:D) (v:V) (j:Nat) (u u':b7),bi kvs k=a7 d/\xs[j]?=a7 (k,u,u')/\u4 X.K ρ H d v/\aH v u':=by
 unfold bi;induction r with
 |nil=>exact .inl ⟨rfl,λj p z=>by simp at z⟩
 |@cons p q ps qs h t i =>
  obtain⟨h1,_,_,v,a,b⟩:=h;rw[K7];by_cases e:p.1=k;rw[dT_ e];exact .inr ⟨_,v,0,q.2.1,q.2.2,rfl,by rw[Qa,<-e,h1],a,b⟩;rw[dF_ e];rcases i with⟨g,n⟩|⟨d,v,j,u,u',g,B,f,l⟩
  refine .inl ⟨g,λj c z=>?_⟩;cases j with
  |zero=>rw[Qa]at z;injection z with z;exact e<|by rw[h1,z]
  |succ j=>rw[Ov]at z;exact n j c z
  exact .inr ⟨d,v,j+1,u,u',g,by rw[Ov];exact B,f,l⟩
theorem As(I:t4 X pins σ H s)(m:u9 X.K ρ M H){n:Nat}{a:c6}(e:ρ[n]?=a7 a)(u:M[n]?=a7 (.dkm kvs)):∃xs,H a=a7 (.ext<|dM a xs)/\Paired (K2 X.K ρ H) kvs xs/\dM a xs X.prog X.w s.heap/\(a==c9)=bt/\kvs.length<=sizeLine/\xs.length=kvs.length/\(kvs.map (·.1)).Nodup:=by
 obtain⟨h1,h2,b,xs,h,r⟩:=m.obj _ _ _ e u;refine⟨xs,h,r,(show cj X.prog X.w H s.heap a (.ext<|dM a xs)from I.hok a _ h).1,h2,h1,?_,b⟩;have:=p8 KB<|kN r
 rwa [u8,u8]at this
theorem Al(I:t4 X pins σ H s)(P:u9 X.K ρ M H)(J:A.units+8<j4)(r:Paired (K2 X.K ρ H) kvs xs)(O:(kvs.map (·.1)).Nodup)(F:s.heap.get? a=a7 o) (C:o.data=.dict es ep) (D:es.toList=xs.map (Ar<|Mi X.w)) (v:u4 X.K ρ H k u) (i:aH u key) (m:xA k=a9)(R:(∀(j:Nat) (p:b7×b7),xs[j]?≠a7 (k,p))->Q a8 s) (n:∀(j:Nat) (p:b7×b7),xs[j]?=a7 (k,p)->Q (a7 j) s):e8 (f7 X.prog X.w) A (dictFind a key<|Mi X.w k) Q E s:=by
 refine CF F C D (by rw[kN r];exact O) ?_ (λQ E h=>rX I v i m h) (λx c Q E h=>?_) (λx c e=>?_) (λx c Q E h=>?_) R n;rcases mT I v i m with⟨rfl,rfl⟩|⟨L,b,rfl,rfl,_⟩
 exact .inl rfl;exact .inr ⟨b,rfl⟩;obtain⟨p,_,t,g,⟨u',q,G⟩,_⟩:=BC r c;exact rX I q G g h;obtain⟨p,_,t,g,⟨u',q,G⟩,_⟩:=BC r c;rw[e]at G;rw[<-t];rcases mT I q G g with⟨y,l⟩|⟨L,b,y,l,B⟩<;>rcases mT I v i m with⟨z,f⟩|⟨N,S,z,f,d⟩
 rw[y,z];rw[l]at f;cases f;rw[l]at f;cases f;rw[l]at f;cases f;rw[y,z];exact mV 8 _ _ _ B d;obtain⟨p,_,t,g,⟨u',q,G⟩,_⟩:=BC r c;rw[<-t]at h;exact JC I P J q G g v i m _ _ _ _ h
theorem u9.writeM(S:u9 X.K ρ M H)(t:ρ[n]?=a7 a)(x:M[n]?=a7 (.dkm kvs))(w:H a=a7 (.ext<|dM a xs))(y:kvs'.length<=sizeLine)(hs:(a==c9)=bt)(A:(kvs'.map (·.1)).Nodup)(r:Paired (K2 X.K ρ H) kvs' xs'):u9 X.K ρ (M.set n<|.dkm kvs') (v8 H a<|.ext<|dM a xs')/\Grow X.K ρ H ρ (v8 H a<|.ext<|dM a xs'):=by
 have g:Grow X.K ρ H ρ (v8 H a<|.ext<|dM a xs'):=⟨L7,λ_ _ h=>A6.writtenX w h⟩
 have k:∀m,m≠n->(M.set n<|.dkm kvs')[m]?=M[m]?:=λm e=>KY<|D2 e;have c:¬KP M[n]?:=λ⟨_,z⟩=>by rw[x]at z;cases z
 refine⟨⟨λm j b i d f=>?_,by rw[Mu];exact S.len,λm b p d f=>?_⟩,g⟩;have q:=S.nd m j b i d f;by_cases h1:m=n;subst h1;rw[k j<|D2 i];exact .inr<|q.resolve_left c;rw[k m h1];by_cases h2:j=n;subst h2;exact .inl<|q.resolve_right c;rw[k j h2];exact q;by_cases e:m=n;subst e;obtain rfl:b=a:=B5<|d.symm.trans t;rw[Lp<|by rw[<-S.len];exact(z6.mp t).1]at f;cases f;refine⟨y,hs,A,xs',aZ,Paired.mapP r ?_⟩;rintro _ _ ⟨B,C,⟨u,D,l⟩,v,G,E⟩;exact⟨B,C,⟨u,D.grow g,l⟩,v,G.grow g,E⟩;rw[k m e]at f;by_cases o:b=a;subst o;have s:=(S.nd m n b e d t).resolve_right c;rw[f]at s;exact(S.obj m b p d f).grow g<|.inr s;exact(S.obj m b p d f).grow g<|.inl<|au o
theorem wn(d:dM a xs P w h'):cj P w H' h' a (.ext<|dM a xs):=by obtain⟨o,es,t,l,R,I⟩:=d;refine⟨⟨o,es,t,l,R,I⟩,⟨o,t⟩,?_⟩;rintro h1 h2 ⟨o,es,t,l,R,I⟩ k;exact⟨o,es,k _ t,l,R,I⟩
theorem sf(h:bi kvs k=a8):ji kvs k d=kvs++[(k,d)]:=by unfold ji;rw[h];rfl
theorem zd(r:Paired (K2 X.K ρ H) kvs xs)(h:K2 X.K ρ H p q):Paired (K2 X.K ρ H) (kvs++[p]) (xs++[q]):=by
 induction r with
 |nil=>exact .cons h .nil
 |cons z _ i=>exact .cons z i
end
section
variable{X:Cx}{o i value:f6}{td ty tv:v5}{pos pos':f8}{k:Nat}
def CW:v5:=λ_ M Q=>Q (.ref M.length)<|M++[.dkm []]
theorem JY:DE X (.Dict [] [] pos) CW:=by rintro p s σ H R I ⟨S,M,ρ,Q,m,b,q,C⟩;have f:H s.heap.objs.size=a8:=I.hok.fresh<|u6 _;have d:(s.heap.objs.size==c9)=bt:=beq_eq_false_iff_ne.mpr<|D2<|x9 I.big;refine wpAny_Dict_empty ⟨.ref s.heap.objs.size,_,I.laid (a:=s.heap.objs.size) (o:=.ext<|dM s.heap.objs.size []) (t':=s.toks) (λ_ _ q=>w6 _ q) (u6 _)<|wn ⟨_,#[],A9 _ rfl,⟨rfl,rfl,rfl⟩,rfl,rfl⟩,rfl,?_⟩;exact C _ _ ⟨.ref M.length,M++[.dkm []],ρ++[s.heap.objs.size],m.laidM (mo:=.dkm []) f ⟨z5 _,d,N9,[],aZ,.nil⟩,Grow.laidR f,.ref m.last,(show Q (.ref M.length) (M++[.dkm []])from q)⟩
def MC(r:Nat->B7)(d:v5)(t:D4):v5:=λS M Q=>d S M λx a=>match x with
 |.ref n=>(∃s,a[n]?=a7 (.dkm s))/\t S a λds M2=>r n ds M2 Q
 |_=>False
variable{name:b9}{id:String}{e:f6}{es:List f6}{to:v5}{t:D4}{apos cpos:f8}
theorem d_mm{r:Nat->B7}(slot:Slot "dict" name id)(y:l7 (.builtin id)=pure (.type "method_descriptor"))(T:H9 X id (jQ X.K r))(U:DE X o to)(P:DA X (e::es) t)(c:l8 o name X.env (eval o X.env)=eval o X.env:=by rfl)(f:((f9 cpos<|ge (e::es) X.env).all (λx=>!x.1)&&(m3 cpos<|m5 [] X.env).all (λx=>x.1.isSome) && decide ((e::es).length+([]:List j7).length+(if ([]:List j7).isEmpty then 0 else 1)<30))=a9:=by rfl)(d:(apos.endLine==cpos.line)=a9:=by rfl) (hs:ge (e::es) X.env=(bt,eval e X.env)::ge es X.env:=by rfl) (h:(f9 cpos<|ge es X.env).any (·.1)=bt:=by rfl):DE X (.Call (.Attribute o name apos) (e::es) [] cpos) (MC r to t):=by
 rintro p s σ H R I ⟨S,M,ρ,Q,sm,J,q,W⟩;refine Pn c f d rfl<|v6 (U p s σ H _ I ⟨S,M,ρ,_,sm,J,q,λv H' z=>z⟩) ?_;rintro u s1 ⟨v,H1,C,rv,x,i,A,j,g1,Z,g⟩;cases Z with
 |@ref n a F =>
  obtain rfl:u=ABF a:=rv;obtain⟨⟨k,O⟩,g⟩:=(show (∃k,i[n]?=a7 (.dkm k))/\t S i _ from g)
  obtain⟨xs,hH,r,⟨G,eb,h1,h2,h3,h4⟩,V,hl,hx,nd⟩:=As C j F O;refine⟨"dict",id,Po,slot,y,⟨G,h1,h2.1⟩,λb z=>?_,?_⟩;cases z;exact⟨G,h1,h2.2.1⟩;have E:=P cpos p s1 σ H1 _ C ⟨S,i,A,_,j,J.grow g1,g,λvs H' z=>z⟩;rw[hs]at E ⊢;refine NE (by show (bt||(f9 cpos<|ge es X.env).any (·.1))=bt;rw[h]<;>rfl)<|Os ?_;refine v6 E ?_;rintro us s2 ⟨vs,L,N,l,ds,M2,B,m,D,rr,Y⟩;exact T p s2 σ L (.ref a) vs (.ref a) us R N rfl l ⟨n,a,ds,M2,B,Q,rfl,aq D.pre F,m,rr,Y,λv H' w=>W v H'<|VQ.trans (g1.trans D) w⟩
 |_=>exact g.elim
def oJ(n:Nat):B7:=λds M Q=>match ds with
 | [k,d]=>∃s,M[n]?=a7 (.dkm s)/\xA k=a9/\Q ((bi s k).getD d) M
 |_=>False
theorem BP(Z:Room k X.A):H9 X "dict.get" (jQ X.K oJ):=by
 rintro E s σ H x xs v us R I rx rs ⟨n,a,ds,M,ρ,Q,V,Y,m,b,q,C⟩;have un:=Z.un;unfold oJ at q;split at q;rename_i k d;obtain⟨ab,W,l,q⟩:=q;have z:=Reps.inv_cons b;clear b;obtain⟨_,_,rfl,F,b⟩:=z;have z:=Reps.inv_cons b;clear b;obtain⟨_,_,rfl,r2,b⟩:=z;obtain rfl:=Reps.inv_nil b;obtain⟨S,J,rfl,t,T⟩:=ar.two rs;subst V;obtain rfl:v=ABF a:=rx;obtain⟨ys,hH,r,⟨ob,eb,h1,h2,g,i⟩,U,hl,hx,D⟩:=As I m Y W;refine Nn NB ⟨ob,h1,h2.1⟩ P5 (Qb _ _ _) (.of_wp λA R s (h:e8 (f7 X.prog X.w) A.in1 (Builtin.«dict.get» ⟨[.ref a,S,J],[]⟩) (λf s'=>∃v,f=.done (.ret v)/\R (.ok<|.ret v) s') (λe s'=>R (.error e) s') s)=>h) ?_;show e8 _ _ (dictGet a S >>= _) _ _ s;unfold dictGet;refine r9 ?_
 try with_reducible refine E4 ?_
 refine r9<|wm I (by show X.A.units+1+8<j4;lia) F t l λG=>?_;refine r9<|Al (I.tok G) m (by show X.A.units+1+8<j4;lia) r D h1 g i F t l (λo=>?_) λj p L=>?_;rcases pU r k with⟨B,_⟩|⟨c,N,j,u,u',B,y,O,P⟩
 rw[B]at q;refine t6 ?_;show e8 _ _ (Builtin.Dict.missed a S >>= _) _ _ _;exact r9<|wpAny_missed_other U<|t6 ⟨J,rfl,_,H,I.tok _,T,C _ _ ⟨d,M,ρ,m,.refl,r2,q⟩⟩;exact o7 y<|o j _;refine r9<|Mb (s:={ s with toks:=G }) h1 g ?_;rcases pU r k with⟨_,o⟩|⟨c,N,j',u,u',B,y,O,P⟩
 exact o7 L<|o j p;have:j=j':=gG (by rw[kN r];exact D) L y;subst this;rw[L]at y;rw[qd i j,L];rw[B]at q;obtain rfl:p=(u,u'):=by injection y with y;injection y
 exact t6<|t6 ⟨u',rfl,N,H,I.tok _,P,C _ _ ⟨c,M,ρ,m,.refl,O,q⟩⟩;exact q.elim
def sd(n:Nat):B7:=λds M Q=>match ds with
 | [k,d]=>∃s,M[n]?=a7 (.dkm s)/\xA k=a9/\s.length<sizeLine/\(∀y,bi s k=a7 y->Q y M)/\(bi s k=a8->Q d (M.set n<|.dkm<|s++[(k,d)]))
 |_=>False
theorem BO(hr:Room k X.A):H9 X "dict.setdefault" (jQ X.K sd):=by
 rintro ab s σ H x xs v us R I rx rs ⟨n,a,ds,M,ρ,Q,ez,Y,m,b,q,Z⟩;have un:=hr.un;unfold sd at q;split at q;rename_i k d;obtain⟨g,W,B,kl,q1,q2⟩:=q;have z:=Reps.inv_cons b;clear b;obtain⟨_,_,rfl,G,b⟩:=z;have z:=Reps.inv_cons b;clear b;obtain⟨_,_,rfl,r2,b⟩:=z;obtain rfl:=Reps.inv_nil b;obtain⟨S,J,rfl,l,O⟩:=ar.two rs;subst ez;obtain rfl:v=ABF a:=rx;obtain⟨ys,V,r,⟨ob,P,h1,h2,f,i⟩,U,hl,hx,C⟩:=As I m Y W;have ai:P.size=ys.length:=by rw[<-D7,i,u8]
 refine Nn Pw ⟨ob,h1,h2.1⟩ PySem.F.entry_dict_setdefault (PySem.F.args_dict_setdefault_3 _ _ _) (.of_wp λA R s (h:e8 (f7 X.prog X.w) A.in1 (Builtin.«dict.setdefault» ⟨[.ref a,S,J],[]⟩) (λo s'=>∃v,o=.done (.ret v)/\R (.ok<|.ret v) s') (λe s'=>R (.error e) s') s)=>h) ?_;unfold Builtin.«dict.setdefault»;refine r9 ?_;unfold Builtin.Dict.keyAndDefault;refine r9<|Ot (show s.TypeIs (.ref a) "dict" from⟨ob,h1,h2.1⟩) ?_;show e8 _ _ (pure (a,S,a7 J)) _ _ s;refine t6 ?_;show e8 _ _ (if (a==c9)=a9 then _ else(dictSetDefault a S J >>= _)) _ _ s;rw[o6<|by rw[U];exact LP];unfold dictSetDefault;refine r9 ?_
 try with_reducible refine E4 ?_
 refine r9<|wm I (by show X.A.units+1+8<j4;lia) G l B λt=>?_;refine r9<|Al (I.tok t) m (by show X.A.units+1+8<j4;lia) r C h1 f i G l B (λE=>?_) λj p L=>?_;have T:bi g k=a8:=by
  rcases pU r k with⟨N,_⟩|⟨_,_,j,_,_,_,y,_⟩
  exact N;exact o7 y<|E j _
 have D:((g++[(k,d)]).map (·.1)).Nodup:=by rw[<-sf T];exact pq C
 obtain⟨w1,w2⟩:=m.writeM (xs':=ys++[(k,S,J)]) Y W V (by rw[A1,F8];lia) U D<|zd r ⟨rfl,B,⟨_,G,l⟩,_,r2,O⟩;have sb:Li a s.heap (s.heap.update a<|Obj.mapDictKeys λe=>e.push ⟨Mi X.w k,S,J⟩):=KW ..;have c:dM a (ys++[(k,S,J)]) X.prog X.w (s.heap.update a<|Obj.mapDictKeys λe=>e.push ⟨Mi X.w k,S,J⟩):=by refine⟨_,P.push ⟨Mi X.w k,S,J⟩,KI _ h1<|Oo<|NA f _,h2.mapDictKeys _,?_,?_⟩;rw[NA f,A1];rfl;rw[Oi,i,Kr];rfl
 have he:∃q,(s.heap.update a<|Obj.mapDictKeys λe=>e.push ⟨Mi X.w k,S,J⟩).get? a=a7 q:=let ⟨q,_,hq,_⟩:=c;⟨q,hq⟩
 refine r9<|KA<|r9<|wpAny_updateDictKeys (hz:=by lia) (s:={ s with toks:=t }) h1 f<|t6<|t6 ⟨J,rfl,?_⟩;exact⟨_,_,uR (I.tok t) (by rw[V];exact Mn) sb he<|wn c,O,Z _ _ ⟨d,_,ρ,w1,w2,r2.grow w2,q2 T⟩⟩;refine r9<|Mb (s:={ s with toks:=t }) h1 f ?_;rcases pU r k with⟨_,E⟩|⟨d',v',j',u,u',N,y,z3,z4⟩
 exact o7 L<|E j p;have:j=j':=gG (by rw[kN r];exact C) L y;subst this;rw[L]at y;rw[qd i j,L];obtain rfl:p=(u,u'):=by injection y with y;injection y
 exact r9<|KA<|t6<|t6 ⟨u',rfl,v',H,I.tok _,z4,Z _ _ ⟨d',M,ρ,m,.refl,z3,q1 _ N⟩⟩;exact q.elim
end
section
variable{X:Cx}{tg o:f6}{to:v5}{e:f6}{es:List f6}{t:D4}{pos apos cpos:f8}{k:Nat}
theorem IX:HE X (.Dict [] [] pos) CW:=⟨JY⟩
theorem IY(i:Room k X.A)(B:HE X o to)(f:HA X (e::es) t)(h:l8 o "get" X.env (eval o X.env)=eval o X.env:=by kernel_rfl)(w:((f9 cpos<|ge (e::es) X.env).all (λx=>!x.1)&&(m3 cpos<|m5 [] X.env).all (λx=>x.1.isSome) && decide ((e::es).length+([]:List j7).length+(if ([]:List j7).isEmpty then 0 else 1)<30))=a9:=by kernel_rfl)(a:(apos.endLine==cpos.line)=a9:=by kernel_rfl) (hs:ge (e::es) X.env=(bt,eval e X.env)::ge es X.env:=by kernel_rfl) (n:(f9 cpos<|ge es X.env).any (·.1)=bt:=by kernel_rfl):HE X (.Call (.Attribute o "get" apos) (e::es) [] cpos) (MC oJ to t):=⟨d_mm NB P1 (BP i) B.ok f.ok h w a hs n⟩
theorem IW(i:Room k X.A)(B:HE X o to)(f:HA X (e::es) t)(h:l8 o "setdefault" X.env (eval o X.env)=eval o X.env:=by kernel_rfl)(w:((f9 cpos<|ge (e::es) X.env).all (λx=>!x.1)&&(m3 cpos<|m5 [] X.env).all (λx=>x.1.isSome) && decide ((e::es).length+([]:List j7).length+(if ([]:List j7).isEmpty then 0 else 1)<30))=a9:=by kernel_rfl)(a:(apos.endLine==cpos.line)=a9:=by kernel_rfl) (hs:ge (e::es) X.env=(bt,eval e X.env)::ge es X.env:=by kernel_rfl) (n:(f9 cpos<|ge es X.env).any (·.1)=bt:=by kernel_rfl):HE X (.Call (.Attribute o "setdefault" apos) (e::es) [] cpos) (MC sd to t):=⟨d_mm Pw PySem.F.type_dict_setdefault (BO i) B.ok f.ok h w a hs n⟩
def Hl(n:Nat):B7:=λds M Q=>match ds with
 | []=>∃xs d,M[n]?=a7 (.lst<|xs++[d])/\Q d (M.set n<|.lst xs)
 |_=>False
theorem EZ:H9 X "list.pop" (jQ X.K Hl):=by
 rintro p s σ H x xs v us R I o j ⟨n,a,ds,M,ρ,Q,c,f,m,g,q,k⟩;unfold Hl at q;split at q;obtain⟨ys,d,e,q⟩:=q;obtain rfl:=Reps.inv_nil g;obtain⟨vs,h,r⟩:=m.obj n a _ f e;have l:=r.length;rw[A1,F8]at l;obtain⟨y,O,t⟩:=r.get (i:=ys.length) (d:=d) (by simp);have b:Reps X.K ρ H ys vs.dropLast:=by have:=r.take ys.length;rw[List.take_left]at this;rw[List.dropLast_eq_take,<-l,Pe];exact this
 obtain⟨u,w⟩:=m.write f e h b;exact Ir p s σ H x _ v us R I o j ⟨a,vs,y,c,rfl,h,by rw[<-l,Pe];exact O,k _ _ ⟨d,_,ρ,u,w,t.grow w,q⟩⟩;exact q.elim
theorem Jo:N0 X "pop" Hl:=⟨_,PySem.F.slot_list_pop,PySem.F.type_list_pop,EZ⟩
noncomputable def Itb(K:t8)(a:c6)(n:Nat):It:=⟨λi H=>i<n/\∃xs x,G7 K H a xs/\xs[n-1-i]?=a7 x,λi H x H'=>H'=H/\∀xs,G7 K H a xs->xs[n-1-i]?=a7 x,λi H=>i=n⟩
theorem Be{P:c5}{w:c3}{K:t8}{V:f6}(a it:c6)(n:Nat):Turn P w K V (Itb K a n) [it] it (λi h=>i<=n/\h.IsRevIter it a ((n:Int)-1-(i:Int))) where
 mem:=by simp
 obj:=λi h st b g=>by
  obtain rfl:b=it:=by simpa using g
  obtain⟨_,o,e,c,d⟩:=st;exact⟨o,e,λv z=>by rw[d]at z;cases z⟩
 keep:=λi h h' st k=>⟨st.1,st.2.at λo e=>k it (by simp) o e⟩
 item:=by intro X B C A D i f s σ H E I l st S;subst B C A;obtain⟨hi,xs,x,F,G⟩:=S;obtain⟨its,Q,p,W⟩:=I.list F;obtain⟨u,N,R⟩:=Q.get G;obtain⟨m,q,M,r,t,y⟩:=l it (by simp);have U:=st.2;rw[show (n:Int)-1-(i:Int)=((n-1-i:Nat):Int) by lia]at U;refine wpAny_pyNext_rev_item U p.isList (x:=u) (by simpa using N) λh' j T=>?_;rw[show ((n-1-i:Nat):Int)-1=(n:Int)-1-((i+1:Nat):Int) by lia]at j;have J:t4 X f σ H { s with heap:=h' }:=I.turned (t':=s.toks) (λb o g e=>(T.2 b g).trans e) m q r t y;obtain⟨o,e,c,d⟩:=id j;exact⟨u,rfl,uM (s:={ s with heap:=h' }) e c d (by decide) ⟨x,H,J,R,⟨rfl,λys O=>by rw[I.list_inj O F];exact G⟩,⟨hi,j⟩,λb g=>(l b g).1⟩⟩
 done:=by intro X B C A D i f s σ H E I l st S;subst B C A;obtain rfl:i=n:=S;obtain⟨m,q,M,r,t,y⟩:=l it (by simp);have U:=st.2;rw[show (i:Int)-1-(i:Int) = -1 by lia]at U;exact wpAny_pyNext_rev_end (I.ok.hd D) U λh' L=>⟨rfl,I.turned (t':=s.toks) (λb o g e=>L b o g e) m q r t y⟩
 self:=λ_ _ _ _ _ st h=>wpAny_pyIter_revIter st.2 h
theorem qi:d7 "reversed" = a7 (.type "reversed"):=by decide +kernel
def CU(t:D4):KL:=λS M R=>t S M λds a=>match ds with
 | [.ref n]=>∃xs,al a n xs/\(xs.length<=sizeLine->R ⟨xs.reverse,λM=>al M n xs⟩ a)
 |_=>False
theorem JR{a:f6}{E:D4}{p pos:f8}(U:X.mg "reversed" = a8)(K:DA X [a] E)(P:Gl X "reversed":=by rfl)(hs:ge [a] X.env=[(bt,eval a X.env)]:=by rfl):DI X tg (.Call (.Name "reversed" p) [a] [] pos) (CU E):=by
 intro f s σ H R I h;obtain⟨S,M,ρ,Q,sm,sr,V,k⟩:=h;refine Call_<|mS I P U qi<|Qk (v6 (K pos f s σ H _ I ⟨S,M,ρ,_,sm,sr,V,λv H' w=>w⟩) ?_) hs rfl;rintro us z ⟨vs,H1,m,r1,ds,F,C,j,g1,t,q⟩
 try dsimp only at q
 split at q;rename_i n;obtain⟨xs,L,q2⟩:=q;have B:=Reps.inv_cons t;clear t;obtain⟨_,_,rfl,G,t⟩:=B;obtain rfl:=Reps.inv_nil t;obtain⟨u,rfl,J⟩:=ar.one r1;obtain⟨a,rfl,A⟩:=u4.inv_ref G;obtain rfl:u=ABF a:=J;obtain⟨ws,W,r⟩:=al.seq j L A;obtain⟨its,rv,p,hz⟩:=m.list W;have Y:=r.length;have Z:=rv.length;refine call_reversed_list p.isList ?_;refine wpAny_pyIter_revIter (l:=a) (i:=((its.toArray.size:Int)-1)) ⟨_,A9 _ rfl,rfl,rfl⟩ ?_;refine⟨z.heap.objs.size,[z.heap.objs.size],_,_,H1,rfl,m.kept (t':=z.toks) λb o e=>w6 _ e,Be a _ xs.length,⟨z5 _,_,A9 _ rfl,rfl,?_⟩,λb N=>?_,k _ H1 ⟨⟨xs.reverse,λM=>al M n xs⟩,F,C,j,g1,?_,q2<|by lia⟩⟩;show Data.fields #[.ref a,i9<|(its.toArray.size:Int)-1]=Data.fields #[.ref a,i9<|(xs.length:Int)-1-((0:Nat):Int)];rw[A3,<-Z,<-Y,show ((xs.length:Int)-1-((0:Nat):Int))=(xs.length:Int)-1 by lia];obtain rfl:b=z.heap.objs.size:=by simpa using N
 exact m.fpOk (u6 _)<|m.hok.fresh<|u6 _;refine⟨λi c D H' s' g ok hi=>?_,λi c D H' x H2 s' g ok hi y=>?_,λc D H' s' g ok=>?_⟩;rw[ACy]at hi;obtain⟨vs,h,r⟩:=al.seq s' ok<|aq g.pre A;have T:xs.length-1-i<vs.length:=by rw[<-r.length];lia
 exact⟨hi,vs,vs[xs.length-1-i],h,v9 T⟩;rw[ACy]at hi;obtain⟨rfl,y⟩:=y;obtain⟨vs,h,r⟩:=al.seq s' ok<|aq g.pre A;obtain⟨d,O,rd⟩:=r.getV<|y vs h;exact⟨d,c,by rw[List.getElem?_reverse hi];exact O,s',.refl,rd⟩;exact(ACy:xs.reverse.length=xs.length);exact q.elim
theorem IJ(d:X.mg "reversed" = a8)(f:HA X [a] ta)(S:X.env.kindOf "reversed" = a7 .globalImplicit:=by kernel_rfl)(hs:ge [a] X.env=[(bt,eval a X.env)]:=by kernel_rfl):HI X tg (.Call (.Name "reversed" p) [a] [] pos) (CU ta):=⟨JR d f.ok S hs⟩
end
section
open PySem.W
variable{prog:c5}{w:c3}{A:d8}{E:b7->d9->Prop}{s:d9}{K:Frag}{x D:c6}{ox:c7}
structure ExcK(K:Frag)(D:c6):Prop where
 ga:findIn K (.ref D) "__getattribute__" = a7 (a7<|.builtin "BaseException.__getattribute__")
 gt:findIn K (.ref D) "__getattr__" = a7 a8
 mb:mroIn K D (.type "BaseException")=a7 a9
 mo:mroIn K D (.type "object")=a7 a9
 cl:findIn K (.ref D) "__class__" = a7 (a7<|.builtin "object.__class__")
def Kl(h:c8)(x D:c6):Prop:=∃o,h.get? x=a7 o/\o.cls=.ref D
theorem Kl.type(I:Kl h x D):Looks M h (l7<|.ref x) (.ref D):=by obtain⟨o,e,c⟩:=I;exact c ▸ (Looks.ld e).andThen .now
theorem uy(X:K.In h)(c:ExcK K D):Looks M h (Builtin.ObjectAttr.find (.ref x) (.ref D) "__class__") (.bind (.builtin "getset_descriptor.__get__")<|.builtin "object.__class__"):=by
 have t:typeIn K (.builtin "object.__class__")=a7 (.type "getset_descriptor"):=by kernel_rfl
 have h1:specialIn K (.builtin "object.__class__") "__get__" = a7 (a7<|.builtin "getset_descriptor.__get__"):=by unfold specialIn;rw[t];kernel_rfl
 have h2:takesIn K (.builtin "object.__class__")=a7 a9:=by unfold takesIn specialIn;rw[t];kernel_rfl
 have L:=looks_findIn (M:=M) X c.cl;have L2:Looks M h (Builtin.ObjectAttr.getOf<|a7<|.builtin "object.__class__") (a7<|.builtin "getset_descriptor.__get__"):=looks_specialIn X h1;have a:=looks_takesIn (M:=M) X h2;refine L.andThen<|L2.andThen ?_;exact(show Looks M h (Builtin.ObjectAttr.dataDescriptor? (a7<|.builtin "object.__class__")<|a7<|.builtin "getset_descriptor.__get__") (a7 (.builtin "getset_descriptor.__get__",.builtin "object.__class__"))from a.andThen .now).andThen<|Looks.tag .now
theorem JB(X:K.In s.heap)(I:Kl s.heap x D)(d:mroIn K D (.type "object")=a7 a9)(h:R (.ok<|.ret<|.ref D) s):j6 (f7 prog w) A (.call (.builtin "getset_descriptor.__get__") ⟨[.builtin "object.__class__",.ref x,tp],[]⟩) R s:=by
 obtain⟨b,g,r,t,c⟩:=s;have L:=I.type (M:=f7 prog w);have a:=looks_mroIn (M:=f7 prog w) X d;refine Pi KF.slot_gs.plain KF.entry_gs<|KF.slot_gs.check _ _ _ _ _ _ _ _ KF.type_class (KF.args_gs _ _ _) ?_;unfold Builtin.«getset_descriptor.__get__» Builtin.Getset_descriptor.descrGet;rw[dga_obj];refine r9<|t6 ?_;unfold Builtin.Getset_descriptor.descrGetter Builtin.Getset_descriptor.descrCheckInstance Builtin.Getset_descriptor.descrNameAndClass isInstance;simp only[KF.owner_class]
 repeat lk
 refine⟨Code.quiet_builtin _ (by decide +kernel),L6 KF.entry_class ?_⟩;unfold Builtin.«object.__class__» shownTypeOf
 repeat lk
 exact h
theorem CG(X:K.In s.heap)(c:ExcK K D)(I:Kl s.heap x D)(h:Q (a7<|.ref D) { s with toks:=s.toks+1 }):e8 (f7 prog w) A (getAttr? (.ref x) "__class__") Q E s:=by
 obtain⟨j,g,d,t,p⟩:=s;have L:=I.type (M:=f7 prog w);have k:=looks_findIn (M:=f7 prog w) X c.ga;have L2:=looks_findIn (M:=f7 prog w) X c.gt;have m:=looks_mroIn (M:=f7 prog w) X c.mb;have l:=uy (M:=f7 prog w) (x:=x) X c;have i:=F.excAttr_ValueError.ga;have r:=i.bind<|.ref x;have f:(Nq "BaseException.__getattribute__" == Nq "object.__getattribute__")=bt:=by decide +kernel
 have e:(onTheHeap (ABF D)&&Nq "BaseException.__getattribute__" == Nq "object.__getattribute__")=bt:=by rw[f];rfl
 unfold getAttr? getAttrBy? getAttrBy;refine r9<|wpAny_mkText<|r9<|LJ<|E4<|r9<|L.at<|r9<|k.at ?_;dsimp only;rw[e];simp only[A4,p6];unfold getAttrByItsOwn hookBefore;rw[o5<|show onTheHeap (ABF D)=a9 from rfl];refine r9<|L2.at ?_;unfold callGetattribute;simp only[OU,A4,p6];unfold boundAndCalled;refine r9<|LJ<|E4<|r9<|wpAny_of_eq r ?_;refine wpAny_call<|Pi i.plain F.entry_bexc_ga ?_;have o:builtinKind "BaseException.__getattribute__" = a7 .slot:=by decide +kernel
 have a:splitId "BaseException.__getattribute__" = a7 ("BaseException","__getattribute__"):=by decide +kernel
 have b:=F.args_bexc_ga (.ref x)<|.str "__class__" t;simp only[checkBuiltinCall,o,a];have n:Looks (f7 prog w) j (isInstance (.ref x)<|.type "BaseException") a9:=L.andThen m;refine r9<|n.at ?_
 repeat (first|with_reducible refine L.at ?_|with_reducible refine l.at ?_|wp_step)
 refine JB (s:=⟨j,g,d,t+1,p⟩) X I c.mo ?_;exact t6<|handed_on rfl<|t6 h
theorem Ce(c:ExcK K D):KitX K (.ref x) (.ref D) (λh=>Kl h x D) where
 ty:=λ_ _ _ I=>I.type
 it:=λ_ h X _=>by have:=c.mo;unfold mroIn clsIn at this;split at this;rename_i B;intro L Q' F s' k q;unfold isType loadHead;exact r9<|wpAny_loadPart (k _ _<|X _ _ B)<|t6 q;cases this
 ne:=λh t d its n m X p=>by refine Ly.mpr λq=>?_;have e:D=t:=Value.ref.inj<|beq_iff_eq.mp q;subst e;have:=c.mo;unfold mroIn clsIn at this;split at this;rename_i B;have z:=(X _ _ B).symm.trans p;cases z;cases this
 ca:=λX I k=>CG X c I k
end
theorem cj.there(x:cj P w H h a o):∃u,h.get? a=a7 u:=by
 cases o with
 |lst xs=>obtain⟨_,_,_,_,e⟩:=x;exact⟨_,e⟩
 |tup xs=>obtain⟨_,_,_,c,e,_⟩:=x;exact⟨_,e⟩
 |dK s=>obtain⟨_,_,_,_,c,_,_,e,_⟩:=x;exact⟨_,e⟩
 |dT s=>obtain⟨_,_,_,_,c,_,_,e,_⟩:=x;exact⟨_,e⟩
 |set S n=>obtain⟨c,_,_,_,e,_⟩:=x;exact⟨_,e⟩
 |ins C d b=>obtain⟨_,_,_,e,_⟩:=x;exact⟨_,e⟩
 |own y=>exact x
 |xd b=>obtain⟨_,⟨j,_,_,e,_⟩,_⟩:=x;exact⟨_,e⟩
 |rng l hi=>obtain⟨_,_,_,e⟩:=x;exact⟨_,e⟩
 |frz c u=>exact⟨_,x.1⟩
 |tbl ps=>exact⟨_,x⟩
 |met f y=>exact⟨_,x⟩
 |ext φ=>exact x.2.1
inductive MH(P:c5)(w:c3)(stk:List Env)(H:Hp)(h0:c8)(a:c6)(C:b7)(H1:Hp)(h:c8):Prop
 |mk (B:c8) (a0:b7) (fly:Heap.FlyingW B stk a C a0 h) (un:Un (frs stk) [] H H1 h0 h) (hok:C7 P w H1 h)
  (old:∀b o,h0.get? b=a7 o->b∉frs stk->∃o',B.get? b=a7 o'/\(H b=a8->o'=o)) (trk:∀b u,H1 b=a7 u->∃o,B.get? b=a7 o)
section
variable{P:c5}{w:c3}{stk:List Env}{H H1:Hp}{h0 h h' B:c8}{a:c6}{C a0:b7}
theorem kP(K:C7 P w H1 h)(trk:∀b u,H1 b=a7 u->∃o,B.get? b=a7 o)(s:B.StaysIn h)(s':B.StaysIn h'):C7 P w H1 h':=λb u q=>by
 refine(K b u q).stay (λc v f r=>?_) (λ_ z=>z) λ_ _ z=>z;have O:∃u',H1 c=a7 u':=by rcases f with rfl|f;exact⟨u,q⟩;exact⟨_,f⟩
 obtain⟨u',O⟩:=O;obtain⟨o,a⟩:=trk c u' O;have:=s c o a;rw[r]at this;cases this;exact s' c _ a
theorem yh(u:Un (frs stk) [] H H1 h0 h)(g:∀b o,h0.get? b=a7 o->b∉frs stk->∃o',B.get? b=a7 o'/\(H b=a8->o'=o))(f:h.FunFrames B stk)(s':B.StaysIn h')(p:h.UpToSlots h'):Un (frs stk) [] H H1 h0 h':=by
 have r:∀b,b∈frs stk->∀o,h.get? b=a7 o->∃m,h'.get? b=a7 { o with slots:=m }:=λb d o e=>by obtain⟨_,o',a,Q⟩:=f.mem d;rw[e]at a;cases a;exact p b o e Q
 refine⟨λb o e n d x=>?_,λb o e n d x=>?_,u.free,λb o e x=>?_,u.tups,u.frzs,u.tbls⟩;obtain⟨o',a,q⟩:=g b o e d;rw[<-q n];exact s' b o' a;obtain⟨m,t⟩:=u.slot b o e n d x;obtain⟨M,l⟩:=r b d _ t;exact⟨M,l⟩;by_cases d:b∈frs stk;obtain⟨o',t⟩:=u.there b o e x;obtain⟨m,l⟩:=r b d _ t;exact⟨_,l⟩;obtain⟨o',a,_⟩:=g b o e d;exact⟨o',s' b o' a⟩
theorem sw{α:Type}{x:α}:x∉([]:List α):=λh=>nomatch h
theorem MH.track(f:Un (frs stk) [] H H1 h0 h)(K:C7 P w H1 h)(p:∀b o,h0.get? b=a7 o->b∉frs stk->∃o',B.get? b=a7 o'/\(H b=a8->o'=o))(trk:∀b u,H1 b=a7 u->∃o,B.get? b=a7 o)(y:Heap.FlyingW B stk a C a0 h):Un (frs stk) [] H (v8 H1 a<|.ext<|GK a C) h0 h/\C7 P w (v8 H1 a<|.ext<|GK a C) h:=by
 obtain⟨t,vs,l,v,r,_⟩:=y.first
 have j:H1 a=a8:=by
  cases q:H1 a with
  |none=>rfl
  |some u=>obtain⟨o,s⟩:=trk a u q;rw[y.2.1]at s;cases s
 refine⟨⟨f.keep,f.slot,λb o e n x=>?_,f.there,λb xs e=>?_,λb o u e=>?_,λb ps e=>?_⟩,λb u q=>?_⟩;rw[au];exact f.free b o e n x;rintro rfl;by_cases i:b∈frs stk;obtain⟨_,o',g,Q⟩:=y.2.2.1.mem i;rw[l]at g;cases g;exact Q vs r;obtain⟨o',g,_⟩:=p b o e i;rw[y.2.1]at g;cases g;rw[au<|ak (f.tups b xs e) j];exact f.tups b xs e;rw[au<|ak (f.frzs b o u e) j];exact f.frzs b o u e;obtain⟨m,q⟩:=f.tbls b ps e;exact⟨m,by rw[au<|ak q j];exact q⟩;by_cases i:b=a;subst i;rw[aZ]at q;cases q;refine⟨⟨t,vs,l,v,r⟩,⟨t,l⟩,?_⟩;rintro h1 h2 ⟨o,A,e,c,d⟩ k;exact⟨o,A,k o e,c,d⟩;rw[au i]at q;exact(K b u q).stay (λ_ _ _ z=>z) (λc z=>by rw[au<|ak z j];exact z) λc xs z=>by rw[au<|ak z j];exact z
end
structure DefX(X:Cx):Prop where
 stk:X.stack=X.env::X.outer
 fr:X.env.frame=a7 X.env.locals
 ex:X.ex=[]
section
variable{X:Cx}{pins:List (c6×c7)}{σ:St}{H H1:Hp}{s s':d9}{h':c8}{e:c6}{C:b7}{vs:List b7}{M:Model}{Q:Unit->d9->Prop}{E':b7->d9->Prop}
theorem DefX.frs(d:DefX X):b∈frs X.stack↔b=X.env.locals\/b∈X.fs:=by rw[d.stk];unfold L2.frs;rw[Me,d.fr];exact A0
theorem t4.nloc(I:t4 X pins σ H s)(e:X.s₀.heap.get? b=a7 o):b≠X.env.locals:=λz=>by subst z;exact G4 _<|G8 (x3 e) I.ok.above
theorem xH(I:t4 X pins σ H1 s)(d:DefX X)(m:OQ s.heap h' e C vs)(h:∀h'',MH X.prog X.w X.outer X.H₀ X.s₀.heap e C H1 h''->Q () { s with heap:=h'' }):e8 M X.A (leaving X.env<|.ref e) Q E' { s with heap:=h' }:=by
 have r:X.A.frames=a7 (X.env::X.outer):=d.stk ▸ I.ok.frames;have B:s.heap.FunFrames X.base (X.env::X.outer):=d.stk ▸ I.stack;have i:∀{b o},s.heap.get? b=a7 o->b∉frs X.stack->(Oc s.heap<|frs X.stack).get? b=a7 o:=λq c=>PySem.W.hideAll_get _ q c;refine wpAny_leaves_madeW (base:=Oc s.heap<|frs X.stack) (h:=s.heap) r d.fr (λb o q=>PZ _ q) (PySem.W.funFrames_hide B λenv G b c=>by rw[d.stk];exact M8.mpr ⟨env,G,c⟩) m λh'' t y _ _ K=>h h'' ?_;have D:∀b:c6,b∉X.ex:=λb z=>by rw[d.ex]at z;cases z
 have g:∀b o,X.s₀.heap.get? b=a7 o->b∉X.fs->∃o',(Oc s.heap<|frs X.stack).get? b=a7 o'/\(X.H₀ b=a8->o'=o):=λb o q c=>by have k:b∉frs X.stack:=λz=>(d.frs.mp z).elim (λz=>I.nloc q z) c;obtain⟨o',F⟩:=I.base.there b o q<|D b;refine⟨o',i F k,λn=>?_⟩;have:=I.base.keep b o q n c<|D b;rw[F]at this;exact B5 this
 have trk:∀b u,H1 b=a7 u->∃o,(Oc s.heap<|frs X.stack).get? b=a7 o:=λb u q=>by obtain⟨o,H⟩:=(I.hok b u q).there;refine⟨o,i H λz=>?_⟩;rw[I.stkFree b z]at q;cases q
 have a:Un X.fs [] X.H₀ H1 X.s₀.heap s.heap:=d.ex ▸ I.base;refine⟨_,_,y,?_,kP I.hok trk (λb o q=>PZ _ q) y.1,g,trk⟩;have E:∀b,b∈X.fs->∀o,s.heap.get? b=a7 o->∃p,h''.get? b=a7 { o with slots:=p }:=λb c o q=>by obtain⟨_,o',f,J⟩:=B.mem (show b∈(X.env::X.outer).filterMap (·.frame)from d.stk ▸ d.frs.mpr (.inr c));rw[q]at f;cases f;exact K b o (m.keeps b o q) J
 refine⟨λb o q n c x=>?_,λb o q n c x=>?_,a.free,λb o q x=>?_,a.tups,a.frzs,a.tbls⟩;obtain⟨o',f,z⟩:=g b o q c;rw[<-z n];exact y.1 b o' f;obtain⟨p,j⟩:=a.slot b o q n c x;obtain⟨v,l⟩:=E b c _ j;exact⟨v,l⟩;by_cases c:b∈X.fs;obtain⟨o',j⟩:=a.there b o q x;obtain⟨p,l⟩:=E b c _ j;exact⟨_,l⟩;obtain⟨o',f,_⟩:=g b o q c;exact⟨o',y.1 b o' f⟩
theorem CD(I:t4 X pins σ H s)(d:DefX X)(F:MH X.prog X.w X.stack H s.heap e C H1 s'.heap)(h:∀h'',MH X.prog X.w X.outer X.H₀ X.s₀.heap e C H1 h''->Q () { s' with heap:=h'' }):e8 M X.A (leaving X.env<|.ref e) Q E' s':=by
 obtain⟨B,G,y,j,K,v,trk⟩:=F;have r:X.A.frames=a7 (X.env::X.outer):=d.stk ▸ I.ok.frames;have O:∀b:c6,b∉X.ex:=λb z=>by rw[d.ex]at z;cases z
 have k:Heap.FlyingW B (X.env::X.outer) e C G s'.heap:=d.stk ▸ y;refine wpAny_leaves_onW r d.fr k λh'' f Y=>h h'' ?_;have a:Un X.fs [] X.H₀ H X.s₀.heap s.heap:=d.ex ▸ I.base;have N:=y.2.2.1;have J:∀b,b∈X.fs->∀o,s'.heap.get? b=a7 o->∃D,h''.get? b=a7 { o with slots:=D }:=λb c o q=>by obtain⟨_,o',i,P⟩:=N.mem (show b∈X.stack.filterMap (·.frame)from d.frs.mpr<|.inr c);rw[q]at i;cases i;exact Y b o q P
 have g:∀b o,X.s₀.heap.get? b=a7 o->b∉X.fs->∃o',B.get? b=a7 o'/\(X.H₀ b=a8->o'=o):=λb o q c=>by have p:b∉frs X.stack:=λz=>(d.frs.mp z).elim (λz=>I.nloc q z) c;obtain⟨o',m⟩:=a.there b o q sw;obtain⟨L,S,z⟩:=v b o' m p;refine⟨L,S,λn=>?_⟩;rw[z<|a.free b o q n sw];have:=a.keep b o q n c sw;rw[m]at this;exact B5 this
 refine⟨B,G,f,?_,kP K trk y.1 f.1,g,trk⟩;have T:∀b o,X.s₀.heap.get? b=a7 o->X.H₀ b=a8->H1 b=a8:=λb o q n=>by obtain⟨o',m⟩:=a.there b o q sw;exact j.free b o' m (a.free b o q n sw) sw
 refine⟨λb o q n c x=>?_,λb o q n c x=>?_,λb o q n x=>T b o q n,λb o q x=>?_,λb xs q=>j.tups b xs<|a.tups b xs q,λb o u q=>j.frzs b o u<|a.frzs b o u q,λb ps q=>?_⟩;obtain⟨o',i,z⟩:=g b o q c;rw[<-z n];exact f.1 b o' i;obtain⟨D,t⟩:=a.slot b o q n c x;obtain⟨U,l⟩:=j.slot b _ t (a.free b o q n x) (d.frs.mpr<|.inr c) x;obtain⟨E,R⟩:=J b c _ l;exact⟨E,R⟩;by_cases c:b∈X.fs;obtain⟨o',t⟩:=a.there b o q x;obtain⟨L,l⟩:=j.there b o' t x;obtain⟨D,R⟩:=J b c _ l;exact⟨_,R⟩;obtain⟨o',i,_⟩:=g b o q c;exact⟨o',f.1 b o' i⟩;obtain⟨V,t⟩:=a.tbls b ps q;obtain⟨W,l⟩:=j.tbls b _ t;exact⟨V++W,by rw[l,Array.append_assoc]⟩
end
def MJ(P:c5)(w:c3):K9:=λk H s E e s'=>∃a C H1,e=.ref a/\s'.os=s.os/\e7 s'.gens/\MH P w k H s.heap a C H1 s'.heap/\E C a8 H1
section
variable{P:c5}{w:c3}{K:t8}{mg:b9->Option b7}{base:c8}{N:List b9}{qual:b9}{scope:e6}{f:c6}{cd:b7}{A:d8}{outer:List Env}{s:d9}{H:Hp}{E:XK}
theorem Au:DefX (qg CX P w K mg base N qual scope f cd A outer s H E):=⟨rfl,rfl,rfl⟩
theorem EK:wG (MJ P w) (qg (MJ P w) P w K mg base N qual scope f cd A outer s H E) E:=by rintro p σ H1 c e s' I ⟨a,C,b,rfl,B,d,F,q⟩;exact CD I Au F λh T=>⟨a,C,b,rfl,B.trans I.os,d,T,q⟩
theorem Fa(I:t4 (qg (MJ P w) P w K mg base N qual scope f cd A outer s H E) pins σ H1 s1)(m:OQ s1.heap h' e C vs)(q:E C a8 H1):(qg (MJ P w) P w K mg base N qual scope f cd A outer s H E).xe (.ref e) { s1 with heap:=h' }:=by exact xH I Au m λh T=>⟨e,C,H1,rfl,I.os,I.bare,T,q⟩
end
noncomputable abbrev vE:List b7:=[.type "ValueError",.type "Exception",.type "BaseException",.type "object"]
theorem EO{K:t8}{h:c8}{C:c6}{B:List b7}{newId:String}(X:K.In h)(q:Np K C B newId=a9):∃bm N nm qn bs hdct sn sub ab col dd k0 k1 k2 k3 k5 mN,h.get? C=a7 (excClassObj nm qn C N bs bm hdct sn sub ab col dd k0 k1 k2 k3 k5 newId)/\h.Ns N mN/\mN "__init__" = a8/\OwnTail h B bm:=by
 unfold Np at q;split at q;rename_i dd c s o;split at q;rename_i j bm k0 k1 k2 k3 n k5 m hs;simp only[D6,p5,Bool.not_eq_true']at q;obtain⟨⟨⟨⟨⟨rfl,rfl⟩,a⟩,D⟩,k⟩,i⟩:=q;obtain⟨nm,bs,f,ns,qn,e,sn,sub,ab,col,b⟩:=c;dsimp only at m a k i;subst m a;have d:s = #[k0,k1,k2,k3,a7<|.builtin n,k5]:=by obtain⟨l⟩:=s;simp only at hs;rw[hs]
 subst d;exact⟨bm,ns,nm,qn,bs,e,sn,sub,ab,col,dd,k0,k1,k2,k3,k5,_,X _ _ o,.of_isNs<|PySem.W.isNs_of_in X k,PySem.W.nsMap_none_of_in X k i,PySem.W.tail_of_in X D⟩;cases q;cases q
section
variable{X:Cx}{x:b9}{C:c6}{np cpos pos:f8}{e₀:f6}{aF:List f6}{pins:List (c6×c7)}{σ:St}{H:Hp}{s:d9}{Ex:b7->d9->Prop}{Q:Flow->d9->Prop}
theorem Bq(I:t4 X pins σ H s)(m:X.mg x=a7 (.ref C))(q:Np X.K C vE "ValueError.__new__" = a9)(g:X.calm=a9)(w:e8 (f7 X.prog X.w) X.A (spliced<|f9 cpos<|ge (e₀::aF) X.env) (λus s₂=>us.length<=sizeLine/\(∀b o,X.base.get? b=a7 o->s₂.heap.get? b=a7 o)/\∀h' e,OQ s₂.heap h' e (.ref C) us->Ex (.ref e) { s₂ with heap:=h' }) Ex s) (S:Gl X x:=by rfl)(c:ge (e₀::aF) X.env=(bt,eval e₀ X.env)::ge aF X.env:=by rfl) (l:(f9 cpos<|ge aF X.env).any (·.1)=bt:=by rfl) (h:(x==("__debug__":b9))=bt:=by decide):e8 (f7 X.prog X.w) X.A (exec (.Raise (a7<|.Call (.Name x np) (e₀::aF) [] cpos) a8 pos) X.env) Q Ex s:=by obtain⟨t,N,nm,n,bs,hdct,sn,sub,ab,col,dd,k0,k1,k2,k3,k5,mN,d,f,i,T⟩:=EO I.mod.kin q;have B:=F.excBase_ValueError;refine wpAny_Raise_call_subU (C:=C) (nm:=nm) (q:=n) (N:=N) (bs:=bs) (bm:=t) (hdct:=hdct) (sn:=sn) (sub:=sub) (ab:=ab) (col:=col) (dd:=dd) (k0:=k0) (k1:=k1) (k2:=k2) (k3:=k3) (k5:=k5) B B.hasB B (mN:=mN) (T.hasType B.hasBase) (I.ok.hd g) (by rw[c];show (bt||(f9 cpos<|ge aF X.env).any (·.1))=bt;rw[l];rfl) i<|jT I S m ⟨rfl,?_⟩ h;rw[c]at w ⊢;exact Os<|E1 w (λus s₂ ⟨z,a,k⟩=>⟨rfl,z,a _ _ d,f.keeps a,T.keeps a,k⟩) λ_ _ y=>y
end
section
variable{X:Cx}{pins:List (c6×c7)}{σ:St}{H:Hp}{s:d9}
theorem yg(I:t4 X pins σ H s)(T:X.N.Nodup)(hi:X.N[i]?=a7 x)(C:X.env.scope.names.lookup x=a7 .local)(Z:σ[i]?=a7 (a7 v))(h:∀s',t4 X pins (σ.set i a8) H s'->Q () s'):e8 M A (unbindName X.env x) Q E s:=by
 obtain⟨m,K,J⟩:=id I.loc;have R:(X.env.scope.kind==.class||(X.env.scope.kind==.module&&X.env.locals != X.env.globals))=bt:=by rw[I.ok.kind];rfl
 have D:i<σ.length:=by rw[I.len];exact(z6.mp hi).1
 have G:=I.cne;obtain⟨u,r,lk⟩:=J i x v hi Z<|.inl C;have U:m x=a7 u:=by
  rcases lk with⟨_,e⟩|⟨k,_⟩
  exact e;rcases k with k|k<;>(have O:X.env.scope.names.lookup x=_:=k;rw[C]at O;cases O)
 refine wpAny_unbindName_local C K U R λh' u' F hs=>?_;obtain⟨oL,_,_,V,_⟩:=id K;have f:C7 X.prog X.w H h':=λb ob e=>by refine(I.hok b ob e).stay (λc Y g q=>(hs.2 c ?_).trans q) (λ_ q=>q) λ_ _ q=>q;rintro rfl;rcases g with rfl|g;rw[I.free]at e;cases e;rw[I.free]at g;cases g
 refine h _ ⟨I.ok,I.os,I.bare,⟨λb o e n B a=>?_,λb o e n B a=>?_,I.base.free,λb o e a=>?_,I.base.tups,I.base.frzs,I.base.tbls⟩,⟨_,F,λj y v' t l S=>?_⟩,λy c e=>?_,I.free,I.freeC,λp W=>?_,f,by simpa using I.len⟩;exact(hs.2 b<|x9<|G8 (x3 e) I.ok.above).trans<|I.base.keep b o e n B a;obtain⟨sl,t⟩:=I.base.slot b o e n B a;exact⟨sl,(hs.2 b<|x9<|G8 (x3 e) I.ok.above).trans t⟩;obtain⟨o',t⟩:=I.base.there b o e a;exact⟨o',(hs.2 b<|x9<|G8 (x3 e) I.ok.above).trans t⟩;by_cases L:j=i;subst L;rw[Lp D]at l;cases l;rw[KY<|D2 L]at l;obtain⟨u',r',q⟩:=J j y v' t l S;refine⟨u',r',?_⟩;rcases q with⟨k,e⟩|⟨k,c,e,z⟩
 refine .inl ⟨k,?_⟩;have:y≠x:=λe=>L<|pI T t<|e ▸ hi;simp[this,e];exact .inr ⟨k,c,e,z.sameBut hs<|G y c e⟩;obtain⟨Y,z⟩:=I.cell y c e;exact⟨Y,z.sameBut hs<|G y c e⟩;obtain⟨e,n,P,nf,d⟩:=I.pin p W;exact⟨(hs.2 p.1 P).trans e,n,P,nf,d⟩
noncomputable abbrev Cx.held(X:Cx)(a:c6):Cx:={ X with A:=X.A.mark<|a7<|.ref a,calm:=bt,xe:=λ_ _=>False }
theorem t4.held(I:t4 X pins σ H s)(a:c6):t4 (X.held a) pins σ H s:=⟨⟨I.ok.mod,I.ok.kind,I.ok.glob,I.ok.blt,I.ok.above,I.ok.inj,I.ok.has,I.ok.cab,(λz=>Bool.noConfusion z),I.ok.frames,I.ok.stk,I.ok.exf,I.ok.bs,I.ok.bsz,I.ok.noex,I.ok.exfs,I.ok.funs,I.ok.frf⟩,I.os,I.bare,I.base,I.loc,I.cell,I.free,I.freeC,I.pin,I.hok,I.len⟩
theorem t4.unheld(ok:X.Ok)(I:t4 (X.held a) pins σ H s):t4 X pins σ H s:=⟨ok,I.os,I.bare,I.base,I.loc,I.cell,I.free,I.freeC,I.pin,I.hok,I.len⟩
theorem AB{H1:Hp}{s':d9}{a C C':c6}{i:Nat}{n y:b9}{np pos:f8}{l:g7}{j:List g7}{aF:List ExceptHandler}{D:Ends}{tS:TS}{E:b7->d9->Prop}(I:t4 X pins σ H s)(d:DefX X)(ho:s'.os=s.os)(hb:e7 s'.gens)(F:MH X.prog X.w X.stack H s.heap a (.ref C) H1 s'.heap) (Z:X.N.Nodup) (hi:X.N[i]?=a7 n) (P:X.env.scope.names.lookup n=a7 .local) (hy:X.mg y=a7 (.ref C')) (hm:OP X.K (.ref C) (.ref C')=a7 a9)(hs:G9 (X.held a) (l::j) tS) (q:tS ⟨λσ' H'=>D.nx (σ'.set i a8) H',λ_ _=>False,λ_ _=>False,λ_ _=>False⟩ (σ.set i<|a7<|.ref a) (v8 H1 a<|.ext<|GK a<|.ref C))(hg:Gl X y:=by rfl) (ab:(y==("__debug__":b9))=bt:=by decide):e8 (f7 X.prog X.w) X.A (noteFrame (.ref a) X.env) (λ_ s₂=>e8 (f7 X.prog X.w) X.A (setFlight (.ref a) a8) (λ_ s₃ =>
   e8 (f7 X.prog X.w) X.A (handleBy (.ref a) X.env<|.ExceptHandler (a7<|.Name y np) (a7 n) (l::j) pos::aF) (SP X pins D) E s₃) E s₂) E s':=by
 obtain⟨B,a0,r,un,an,t,trk⟩:=F;have ai:X.A.frames=a7 (X.env::X.outer):=d.stk ▸ I.ok.frames;have O:Heap.FlyingW B (X.env::X.outer) a (.ref C) a0 s'.heap:=d.stk ▸ r;refine wpAny_looks_onW ai d.fr O λbd h x=>?_;refine wpAny_landsW h λp c G=>?_;have U:=yh un t r.2.2.1 c.1 λb o e nf=>by obtain⟨sl,e1⟩:=x b o e nf;obtain⟨as,e2⟩:=G b _ e1 nf;exact⟨as,e2⟩
 have m:=kP an trk r.1 c.1;have I5:t4 X pins σ H1 { s' with heap:=p }:=I.call' (ch:=[]) ho U m hb λb z=>o7 z sw;obtain⟨ob,aj,Q⟩:=c.there;refine wpAny_handleBy_cons (codeAny_handlers_test<|jT (X:=X.held a) (I5.held a) hg hy ?_ ab) (by intro q;cases q);have LT:PySem.W.Looks (f7 X.prog X.w) p (l7<|.ref a) (.ref C):=Q ▸ (PySem.W.Looks.ld aj).andThen .now;refine(PySem.W.exm_one I5.kIn LT hm).at ?_;refine codeAny_handlers_suite_as<|lands_againW c λT g L=>?_;have aD:=yh U t (d.stk ▸ c.2.2.1) g.1 L;have R:=kP m trk c.1 g.1;obtain⟨aS,S⟩:=MH.track aD R t trk<|d.stk ▸ g;have I7:t4 X pins σ (v8 H1 a<|.ext<|GK a<|.ref C) { s' with heap:=T }:=I.call' (ch:=[]) ho aS S hb λb z=>o7 z sw;refine jg (v:=.ref a) I7 Z hi (.inl P) rfl (λs8 I8=>?_)<|.inr P;refine E1 (hs pins s8 _ _ _ (I8.held a) q) (λf s9 V=>?_) λ_ _ z=>z.elim;cases f with
 |next =>
  obtain⟨σ',H',J,k⟩:=V;have J':=J.unheld I.ok;refine r9<|wpAny_bindName<|jg (v:=.non) (u:=.none) J' Z hi (.inl P) rfl (λbe Y=>?_)<|.inr P;have hl:i<σ'.length:=by rw[J'.len];exact(z6.mp hi).1
  refine wpAny_onRaise<|yg (v:=.non) Y Z hi P (Lp hl) λbk M=>?_;rw[List.set_set]at M;exact⟨_,_,M,k⟩
 |ret u=>obtain⟨_,_,_,_,_,z⟩:=V;exact z.elim
 |brk=>obtain⟨_,_,_,z⟩:=V;exact z.elim
 |cont=>obtain⟨_,_,_,z⟩:=V;exact z.elim
end
abbrev DX:=b9->t9->Prop
abbrev D8:=DX->t7
abbrev tO:=DX->v5
abbrev xV:=List D->t9->DK->DX->Prop
inductive XQ(K:t8)(ρ:List c6)(H:Hp)(R:DX)(C:b7)(dx:Option c6)(H':Hp):Prop
 |mk (x:b9) (c:c6) (M':t9) (ρ':List c6) (e:C=.ref c) (hx:LH K d6 x=a7 (a7 (.ref c))) (s:u9 K ρ' M' H') (g:Grow K ρ H ρ' H') (q:R x M')
section
variable{K:t8}{ρ ρ1:List c6}{H H1 H':Hp}{R:DX}{C:b7}{dx:Option c6}{M:t9}
theorem XQ.trans(g:Grow K ρ H ρ1 H1)(h:XQ K ρ1 H1 R C dx H'):XQ K ρ H R C dx H':=by obtain⟨x,c,M,a,e,d,s,b,q⟩:=h;exact⟨x,c,M,a,e,d,s,g.trans b,q⟩
def XEnd(M:t9)(R:DX):DX:=λx b=>R x b\/∃a,Nj M a/\a <+: b/\R x a
theorem XQ.endq(s:u9 K ρ M H)(h:XQ K ρ H (XEnd M R) C dx H'):XQ K ρ H R C dx H':=by
 obtain⟨x,c,i,a,e,j,s',d,r⟩:=h;rcases r with q|⟨b,g,f,q⟩
 exact⟨x,c,i,a,e,j,s',d,q⟩;have k:a.take M.length=ρ:=by rw[<-s.len];exact bD d.pre
 have l:=s'.cut M.length λn m p e=>by
  have o:b[n]?=a7 m:=by obtain⟨t,rfl⟩:=f;rw[Ko<|by rw[g.1];exact p]at e;exact e
  exact(g.2 n m o).elim (λz=>s.bels z) id
 have u:i.take M.length=b:=by rw[<-g.1];exact bD f
 rw[k,u]at l;exact⟨x,c,b,ρ,e,j,l,⟨L7,d.tup⟩,q⟩
end
inductive lowX(K:t8)(E:XK)(t:D8)(D:Ends)(σ:St)(H:Hp):Prop
 |mk (S:SD) (M:t9) (ρ:List c6) (F:DEnds) (R:DX) (s:u9 K ρ M H) (sr:SRep K ρ H S σ) (q:t R F S M) (k:NT K ρ H F D) (x:∀C dx H',XQ K ρ H R C dx H'->E C dx H')
inductive lowXE(K:t8)(E:XK)(t:tO)(σ:St)(H:Hp)(Q:VK):Prop
 |mk (S:SD) (M:t9) (ρ:List c6) (F:DK) (R:DX) (s:u9 K ρ M H) (sr:SRep K ρ H S σ) (q:t R S M F) (k:∀v H',VQ K ρ H F v H'->Q v H') (x:∀C dx H',XQ K ρ H R C dx H'->E C dx H')
structure XA(b:Bool)(X:Cx)(pins:List (c6×c7))(E:XK)(P:St->Prop)(Ex:b7->d9->Prop):Prop where
 on:∀σ H1 s1 e s',P σ->t4 X pins σ H1 s1->MJ X.prog X.w X.stack H1 s1 E e s'->Ex e s'
 all:b=a9->∀σ,P σ
 made:b=a9->∀σ H1 s1 h' e C vs,t4 X pins σ H1 s1->OQ s1.heap h' e C vs->E C a8 H1->Ex (.ref e) { s1 with heap:=h' }
structure HX(b:Bool)(X:Cx)(st:g7)(t:D8):Prop where
 ok:∀(pins:List (c6×c7)) (s:d9) (σ:St) (H:Hp) (D:Ends) (E:XK) (P:St->Prop) (Ex:b7->d9->Prop),XA b X pins E P Ex->P σ->t4 X pins σ H s->lowX X.K E t D σ H->e8 (f7 X.prog X.w) X.A (exec st X.env) (SP X pins D) Ex s
structure Lg(b:Bool)(X:Cx)(st:List g7)(t:D8):Prop where
 ok:∀(pins:List (c6×c7)) (s:d9) (σ:St) (H:Hp) (D:Ends) (E:XK) (P:St->Prop) (Ex:b7->d9->Prop),XA b X pins E P Ex->P σ->t4 X pins σ H s->lowX X.K E t D σ H->e8 (f7 X.prog X.w) X.A (execs st X.env) (SP X pins D) Ex s
structure MF(b:Bool)(X:Cx)(e:f6)(t:tO):Prop where
 ok:∀(pins:List (c6×c7)) (s:d9) (σ:St) (H:Hp) (Q:VK) (E:XK) (P:St->Prop) (Ex:b7->d9->Prop),XA b X pins E P Ex->P σ->t4 X pins σ H s->lowXE X.K E t σ H Q->e8 (f7 X.prog X.w) X.A (eval e X.env) (EP X pins σ Q) Ex s
def Mh(t:t7):D8:=λ_=>t
def GD(t u:D8):D8:=λR=>ax (t R)<|u R
def OB(c:D9)(t u:D8):D8:=λR=>B6 c (t R)<|u R
def xRet(t:tO):D8:=λR=>bn<|t R
def xSet(t:tO)(i:Nat):D8:=λR=>aT (t R) i
def ya(t:tO):D8:=λR=>jy<|t R
def LR(P:xV)(t:D4):tO:=λR S M Q=>t S M λds a=>P ds a Q R
def qu(x:b9)(t:D4):D8:=λR _ S M=>t S M λds a=>ds.length<=sizeLine/\R x a
theorem PA.nox(h:PA X.nox es t)(I:t4 X pins σ H s)(q:t σ H Q):e8 (f7 X.prog X.w) X.A (spliced<|f9 pos<|ge es X.env) (AP X pins σ Q) Ex s:=E1 (h pos pins s σ H Q (I.wish _) q) (λ_ _ ⟨v,H',a,r,z⟩=>⟨v,H',a.unwish,r,z⟩) λ_ _ z=>F7 z
section
variable{b:Bool}{X:Cx}{st:g7}{aF:List g7}{t u:D8}{te:tO}{e:f6}{es:List f6}{pos:f8}
theorem Iw{t:t7}(h:HS X.nox st t):HX b X st (Mh t):=by refine⟨ ?_⟩;rintro a s σ H D E P Ex A p I ⟨S,M,ρ,F,R,m,r,q,k,x⟩;exact E1 (h.ok a s σ H D (I.wish _) ⟨S,M,ρ,F,m,r,q,k⟩) (λ_ _ z=>z.unwish) λ_ _ z=>F7 z
theorem Fj:Lg b X [] (Mh bj):=by refine⟨ ?_⟩;rintro a s σ H D E P Ex A p I ⟨S,M,ρ,F,R,m,r,q,k,x⟩;exact MV ⟨σ,H,I,k.nx σ H ⟨S,M,ρ,m,.refl,r,q⟩⟩
theorem zI(h:HX b X st t):Lg b X [st] t:=⟨λa s σ H D E P Ex A p I q=>by
 refine O4<|v6 (h.ok a s σ H D E P Ex A p I q) λf c q=>?_;cases f with
 |next=>exact MV q
 |ret v=>exact q
 |brk=>exact q
 |cont=>exact q⟩
theorem wb(h1:HX a9 X st t)(h2:Lg a9 X aF u):Lg a9 X (st::aF) (GD t u):=⟨λb s σ H D E P Ex A p I ⟨S,M,ρ,F,R,o,r,q,k,x⟩=>by
 refine O4<|v6 (h1.ok b s σ H { D with nx:=λa H'=>SQ X.K ρ H (λd c=>u R F d c) a H' } E P Ex A p I ⟨S,M,ρ,_,R,o,r,q,⟨λ_ _ z=>z,k.rt,k.bk,k.ct⟩,x⟩) λf n z=>?_;cases f with
 |next=>obtain⟨a,H',j,d,c,g,s',h,e,m⟩:=z;exact h2.ok b n a H' D E P Ex A (A.all rfl a) j ⟨d,c,g,F,R,s',e,m,k.trans h,λC l i w=>x C l i<|w.trans h⟩
 |ret v=>exact z
 |brk=>exact z
 |cont=>exact z⟩
theorem Iz(v:HT X.nox c tc)(o:Lg b X a t)(y:Lg b X d u):HX b X (.If c a d pos) (OB tc t u):=⟨λe s σ H D E P Ex A p I ⟨S,M,ρ,F,R,B,r,q,k,x⟩=>by
 refine wpAny_If<|E1 (v.ok e s σ H _ (I.wish _) ⟨S,M,ρ,_,B,r,q,λ_ _ z=>z⟩) (λc n ⟨H1,j,l,g,f,g1,m⟩=>?_) λ_ _ z=>F7 z;cases c with
 |true=>exact o.ok e n σ H1 D E P Ex A p j.unwish ⟨S,l,g,F,R,f,r.grow g1,m,k.trans g1,λC i h w=>x C i h<|w.trans g1⟩
 |false=>exact y.ok e n σ H1 D E P Ex A p j.unwish ⟨S,l,g,F,R,f,r.grow g1,m,k.trans g1,λC i h w=>x C i h<|w.trans g1⟩⟩
theorem zJ(i:MF b X e te)(hs:g9 e a8 pos.line X.env=pure bt:=by kernel_rfl):HX b X (.Expr e pos) (ya te):=by refine⟨ ?_⟩;rintro a s σ H D E P Ex A p I ⟨S,M,ρ,F,R,m,r,q,k,x⟩;exact wpAny_Expr_any (v6 (i.ok a s σ H _ E P Ex A p I ⟨S,M,ρ,_,R,m,r,q,λ_ _ z=>z,x⟩) λv n ⟨y,H1,g,l,d,h,c,f,g1,r',j⟩=>⟨σ,H1,g,k.nx σ H1 ⟨S,h,c,f,g1,r.grow g1,j⟩⟩) I.quiet hs
theorem Du(i:MF b X e te):HX b X (.Return (a7 e) pos) (xRet te):=by refine⟨ ?_⟩;rintro a s σ H D E P Ex A p I ⟨S,M,ρ,F,R,m,f,q,k,x⟩;refine wpAny_Return_some<|v6 (i.ok a s σ H _ E P Ex A p I ⟨S,M,ρ,_,R,m,f,q,λv H1 w=>k.rt v H1 w,x⟩) ?_;rintro v g ⟨y,H1,c,r,d⟩;exact⟨y,σ,H1,c,r,d⟩
theorem Dt(l:X.N.Nodup)(m:MF b X e te)(hi:X.N[i]?=a7 x:=by kernel_rfl)(o:Fb X.env.scope x=a9:=by kernel_rfl)(hs:g9 e (a7<|.Name x pos') pos.line X.env=pure bt:=by kernel_rfl)(n:X.fn x=a9:=by kernel_rfl):HX b X (.Assign [.Name x pos'] e pos) (xSet te i):=⟨by rintro a s σ H D E P Ex A p I ⟨S,M,ρ,F,R,w,r,q,k,B⟩;refine wpAny_Assign_Name (v6 (m.ok a s σ H _ E P Ex A p I ⟨S,M,ρ,_,R,w,r,q,λ_ _ z=>z,B⟩) ?_) hs;rintro v C ⟨y,H1,g,u,d,j,c,f,g1,r',t⟩;exact jg g l hi (wa o) u (λG h=>⟨_,H1,h,k.nx _ H1 ⟨_,j,c,f,g1,(r.grow g1).set i r',t⟩⟩)<|.inl n⟩
theorem Cb(o:X.mg x=a7 (.ref C))(t:LH X.K d6 x=a7 (a7<|.ref C))(q:Np X.K C vE "ValueError.__new__" = a9)(h:HA X.nox (e::es) ta)(i:X.calm=a9:=by kernel_rfl)(n:X.env.kindOf x=a7 .globalImplicit:=by kernel_rfl) (j:ge (e::es) X.env=(bt,eval e X.env)::ge es X.env:=by kernel_rfl) (l:(f9 cpos<|ge es X.env).any (·.1)=bt:=by kernel_rfl) (b:(x==("__debug__":b9))=bt:=by kernel_rfl):HX a9 X (.Raise (a7<|.Call (.Name x np) (e::es) [] cpos) a8 pos) (qu x ta):=⟨λd s σ H D E P Ex A p I ⟨S,M,ρ,F,R,B,G,w,k,J⟩=>by refine Bq I o q i (E1 (h.ok.nox (Ex:=Ex) I ⟨S,M,ρ,_,B,G,w,λ_ _ z=>z⟩) (λus v ⟨vs,H1,a,r,ds,g,c,f,g1,u,z,y⟩=>?_) λ_ _ z=>z) n j l b;refine⟨by rw[<-r.length,<-u.length];exact z,a.bk,λh' e m=>A.made rfl σ H1 v h' e _ _ a m<|J _ _ _ ⟨x,C,g,c,rfl,t,f,g1,y⟩⟩⟩
end
def Qm(K:t8)(P:xV):Sp:=λvs H Q E=>∃ds M ρ R RX,u9 K ρ M H/\Reps K ρ H ds vs/\P ds M R RX/\(∀v H',VQ K ρ H R v H'->Q v H')/\∀C d H',XQ K ρ H RX C d H'->E C d H'
def uX(P:c5)(w:c3)(K:t8)(mg:b9->Option b7)(base:c8)(k:Nat)(x:b9)(ps:List b9)(r:xV):Prop:=∃f d,FnOk P w K mg base (MJ P w) k f d ps (Qm K r)/\mg x=a7 (.ref f)/\LL K (.ref f)=a9/\nU K d ps []
section
variable{b:Bool}{X:Cx}{e:f6}{es:List f6}{x:b9}{p pos:f8}{t:D4}
theorem Dv(C:uX X.prog X.w X.K X.mg X.base j x ps P)(hr:Room k X.A)(N:HA X.nox (e::es) t)(V:Nat.ble j k=a9:=by kernel_rfl)(U:X.env.kindOf x=a7 .globalImplicit:=by kernel_rfl)(d:(x==("__debug__":b9))=bt:=by kernel_rfl) (T:ge (e::es) X.env=(bt,eval e X.env)::ge es X.env:=by kernel_rfl) (l:(f9 pos<|ge es X.env).any (·.1)=bt:=by kernel_rfl):MF b X (.Call (.Name x p) (e::es) [] pos) (LR P t):=⟨by
 rintro y s σ H Q E G Ex A g I ⟨S,M,ρ,F,R,sm,sr,q,k,xx⟩;obtain⟨f,fd,o,Z,W,O⟩:=C;refine M7<|jT I U Z ?_ d;refine PU (h₀:=X.base) I.ok.mod.kin W (E1 (N.ok.nox (Ex:=Ex) (pos:=pos) I ⟨S,M,ρ,_,sm,sr,q,λ_ _ z=>z⟩) (λus i z=>?_) λ_ _ z=>z) T l;obtain⟨vs,H1,a,r,ds,D,n,m,g1,r1,q1⟩:=z;refine⟨a.kIn,?_⟩;have c:Qm X.K P (vs++[]) H1 Q E:=⟨ds,D,n,F,R,m,by rw[KO];exact r1,q1,λv H' w=>k v H'<|VQ.trans g1 w,λC J H' w=>xx C J H'<|w.trans g1⟩
 have B:ar (vs++[]) (us++[]):=by rw[KO,KO];exact r
 have Y:(us++[]).length=ps.length:=by rw[<-B.length];exact o.len _ _ _ _ c
 refine wpAny_call<|LY ((o.more<|P4 V).run X.A X.stack i H1 ⟨us,[]⟩ (us++[]) (vs++[]) Q E hr a.env0 (O i us a.kIn Y) B c) λr s' h=>?_;cases r with
 |error e=>exact A.on σ H1 i e s' g a h
 |ok L =>
  cases L with
  |ret u=>exact a.after h
  |next=>exact F7 h
  |brk=>exact F7 h
  |cont=>exact F7 h⟩
end
abbrev GO(Pr:xV)(ps:List b9):Prop:=∀ds M R RX,Pr ds M R RX->ds.length=ps.length
abbrev DerX(P:c5)(w:c3)(K:t8)(mg:b9->Option b7)(base:c8)(k:Nat)(x:b9)(N:List b9)(st:g7)(t:D8):Prop:=∀(f:c6) (cdv:b7) (A:d8) (outer:List Env) (s:d9) (H:Hp) (E:XK),Room k (A.deeper<|P0 x (ao st) s.heap.objs.size f cdv)->Lg a9 (qg (MJ P w) P w K mg base N x (ao st) f cdv A outer s H E) (bB st) t
section
variable{P:c5}{w:c3}{K:t8}{mg:b9->Option b7}{base:c8}{x:b9}{st:g7}{N ps:List b9}{k:Nat}{Pr:xV}{B:List b9}{C:List (b9×Int)}{t:D8}
theorem uX.by(T:TopB mg B C)(F:ck K mg x st ps)(U:FnScope N ps (ao st))(J:GO Pr ps)(u:TopB mg B C->N.Nodup->DerX P w K mg base k x N st t)(wp:∀ds M R RX,Pr ds M R RX->t (XEnd M RX) (EE M R) (cR N ds) M):uX P w K mg base (k+1) x ps Pr:=by obtain⟨f,Z,L,hm,hb⟩:=F;refine⟨f,Z,?_,hm,L.kp,hb⟩;obtain⟨oc,od,kV,X,pm,an,n,ct,ab,rfl,lk,G⟩:=L.ex;refine JA lk G U (λvs H Q E ⟨ds,M,ρ,R,RX,s,r,q,_⟩=>by rw[<-r.length];exact J ds M R RX q) λA o s H vs Q E hr h=>?_;obtain⟨ds,M,ρ,R,RX,g,r,q,V,kx⟩:=h;refine⟨lowX K E t,λp s1 σ H1 D I z=>(u T U.nd f n A o s H E hr).ok p s1 σ H1 D E (λ_=>True) _ ⟨λa O W e s' _ i c=>EK p a O W e s' i c,λ_ _=>trivial,λ_ a O W h' e C vs i m q=>Fa i m q⟩ trivial I z,cR N ds,M,ρ,_,_,g,SRep.start r N,wp ds M R RX q,⟨λa H' ⟨S,l,b,s',y,d,j⟩=>?_,λv H' z=>V v H'<|VQ.endq g z,λa H' ⟨S,l,b,s',y,d,j⟩=>j.elim,λa H' ⟨S,l,b,s',y,d,j⟩=>j.elim⟩,λC Y H' z=>kx C Y H'<|XQ.endq g z⟩;exact V .non H'<|VQ.endq g ⟨.non,l,b,s',y,.non,j⟩
end
abbrev NS(Pr:xV)(n:Nat)(t:D8):Prop:=∀ds M R RX,Pr ds M R RX->t (XEnd M RX) (EE M R) (PF n ds) M
abbrev NM(Pr:xV):x5:=λds M R=>Pr ds M R λ_ _=>False
theorem uX.nev{P:c5}{w:c3}{K:t8}{mg:b9->Option b7}{base:c8}{x:b9}{ps:List b9}{k:Nat}{c:xV}(h:uX P w K mg base k x ps c):v4 P w K mg base k x ps (NM c):=by
 obtain⟨f,i,F,p,m,j⟩:=h;have n:∀{ρ:List c6}{H:Hp} (C:b7) (d:Option c6) (H':Hp),XQ K ρ H (λ_ _=>False) C d H'->E0 C d H':=λC d H' ⟨_,_,_,_,_,_,_,_,q⟩=>q;refine⟨f,i,⟨λvs H Q E ⟨ds,M,ρ,R,s,r,q,b⟩=>F.len vs H Q E0 ⟨ds,M,ρ,R,_,s,r,q,b,n⟩,λA o s H O us vs Q E t g a v ⟨ds,M,ρ,R,u,r,q,b⟩=>?_⟩,p,m,j⟩;refine LY (F.run A o s H O us vs Q E0 t g a v ⟨ds,M,ρ,R,_,u,r,q,b,n⟩) λr s' z=>?_;cases r with
 |error e=>obtain⟨_,_,_,_,_,_,_,z⟩:=z;exact z.elim
 |ok l=>cases l<;>exact z
theorem FN{X:Cx}{c:Bool}{b:List g7}{st:g7}{s:List g7}{t:D8}(h:b=st::s)(q:Lg c X (st::s) t):Lg c X b t:=h ▸ q
noncomputable abbrev xW:=List<|b9×List (b9×Bool)
noncomputable def xP(K:t8)(t:b9×List (b9×Bool)):Bool:=match LH K d6 t.1 with
 |some (a7<|.ref C)=>Np K C vE "ValueError.__new__" && Mt K (.ref C) "__getattribute__" == a7 (a7<|.builtin "BaseException.__getattribute__")&&Mt K (.ref C) "__getattr__" == a7 a8 &&
   PySem.W.mroIn K C (.type "BaseException")==a7 a9&&PySem.W.mroIn K C (.type "object")==a7 a9&&Mt K (.ref C) "__class__" == a7 (a7<|.builtin "object.__class__")&&KU K (.ref C) (.type "ValueError")==a7 a9 &&
   t.2.all λr=>match LH K d6 r.1 with
    |some (a7<|.ref C')=>OP K (.ref C) (.ref C')==a7 r.2&&KU K (.ref C) (.ref C')==a7 r.2&&KU K (.type "NoneType") (.ref C')==a7 bt
    |_=>bt
 |_=>bt
noncomputable def dH(K:t8)(T:xW):Bool:=T.all<|xP K
noncomputable def nE(T:xW)(x y:b9):Option Bool:=(T.lookup x).bind (·.lookup y)
structure ClsX(K:t8)(x:b9)(C:c6):Prop where
 at_:LH K d6 x=a7 (a7<|.ref C)
 exc:Np K C vE "ValueError.__new__" = a9
 own:ExcK K C
 val:KU K (.ref C) (.type "ValueError")=a7 a9
theorem xP.cls{K:t8}{x:b9}{w:List (b9×Bool)}(h:xP K (x,w)=a9):∃C,ClsX K x C/\∀y v,(y,v)∈w->∃C',LH K d6 y=a7 (a7<|.ref C')/\OP K (.ref C) (.ref C')=a7 v/\KU K (.ref C) (.ref C')=a7 v/\KU K (.type "NoneType") (.ref C')=a7 bt:=by unfold xP at h;split at h;rename_i C e;simp only[D6,p5]at h;obtain⟨⟨⟨⟨⟨⟨⟨h1,h2⟩,b⟩,d⟩,k⟩,c⟩,f⟩,g⟩:=h;refine⟨C,⟨e,h1,⟨h2,b,d,k,c⟩,f⟩,λy v O=>?_⟩;have:=F0.mp g (y,v) O;dsimp only at this;split at this;rename_i C' a;simp only[D6,p5]at this;exact⟨C',a,this.1.1,this.1.2,this.2⟩;cases this;cases h
theorem gI{α β:Type}[BEq α][LawfulBEq α]{a:α}{v:β}:∀{l:List (α×β)},l.lookup a=a7 v->(a,v)∈l
 | [],h=>by cases h
 |(c,w)::l,h=>by rw[L9]at h;split at h;rename_i e;cases h;rw[beq_iff_eq.mp e];exact C9;exact A8 _<|gI h
theorem dH.cls{K:t8}{T:xW}{x:b9}(h:dH K T=a9)(b:(T.lookup x).isSome=a9):∃C,ClsX K x C/\∀y v,nE T x y=a7 v->∃C',LH K d6 y=a7 (a7<|.ref C')/\OP K (.ref C) (.ref C')=a7 v/\KU K (.ref C) (.ref C')=a7 v/\KU K (.type "NoneType") (.ref C')=a7 bt:=by obtain⟨w,e⟩:=Ow.mp b;obtain⟨C,c,r⟩:=xP.cls<|F0.mp h _<|gI e;refine⟨C,c,λy v a=>?_⟩;unfold nE at a;rw[e]at a;exact r y v<|gI a
theorem nE.has(h:nE T x y=a7 v):(T.lookup x).isSome=a9:=by
 unfold nE at h;cases q:T.lookup x with
 |none=>rw[q]at h;cases h
 |some _=>rfl
section
variable{b:Bool}{X:Cx}{e:f6}{es:List f6}{x:b9}{pos:f8}
theorem sO{n a:f8}{t:D4}{T:xW}(m:dH X.K T=a9)(f:HA X.nox (e::es) t)(g:(T.lookup x).isSome=a9:=by kernel_rfl)(d:X.calm=a9:=by kernel_rfl)(S:X.env.kindOf x=a7 .globalImplicit:=by kernel_rfl) (i:ge (e::es) X.env=(bt,eval e X.env)::ge es X.env:=by kernel_rfl) (l:(f9 a<|ge es X.env).any (·.1)=bt:=by kernel_rfl) (h:(x==("__debug__":b9))=bt:=by kernel_rfl):HX a9 X (.Raise (a7<|.Call (.Name x n) (e::es) [] a) a8 pos) (qu x t):=⟨λb s σ H D E P Ex A p I z=>by obtain⟨C,c,_⟩:=dH.cls m g;exact(Cb (ON I.mod.kin I.mod.glob c.at_) c.at_ c.exc f d S i l h).ok b s σ H D E P Ex A p I z⟩
def dTry(T:xW)(y:b9)(i:Nat)(t:D8)(s:t7):t7:=λF S M =>
 t (λx b=>nE T x y=a7 a9/\s ⟨λc a=>F.nx (c.set i a8) a,λ_ _=>False,λ_ _=>False,λ_ _=>False⟩ (S.set i<|a7<|.ref b.length) (b++[.exc x])) F S M
theorem SRep.drop{K:t8}{ρ:List c6}{H:Hp}{S:SD}{σ:St}(r:SRep K ρ H S σ)(i:Nat):SRep K ρ H (S.set i a8) (σ.set i a8):=by refine⟨by simpa using r.len,λj d e=>?_⟩;by_cases h:i=j;subst h;by_cases g:i<S.length;rw[Lp g]at e;cases e;rw[Mf<|by simpa using g]at e;cases e;rw[KY h]at e;obtain⟨v,c,a⟩:=r.get j d e;exact⟨v,by rw[KY h];exact c,a⟩
theorem Dy{T:xW}{y n:b9}{i:Nat}{b:List g7}{l:g7}{j:List g7}{np g:f8}{tb:D8}{ts:t7}(hT:dH X.K T=a9)(hN:X.N.Nodup)(hb:Lg bt X b tb)(hs:∀a,HB (X.held a) (l::j) ts)(d1:X.stack=X.env::X.outer:=by kernel_rfl) (d2:X.env.frame=a7 X.env.locals:=by kernel_rfl) (d3:X.ex=[]:=by kernel_rfl) (hi:X.N[i]?=a7 n:=by kernel_rfl) (hk:X.env.scope.names.lookup n=a7 .local:=by kernel_rfl)(hg:X.env.kindOf y=a7 .globalImplicit:=by kernel_rfl) (G:(y==("__debug__":b9))=bt:=by kernel_rfl):HS X (.Try b [.ExceptHandler (a7<|.Name y np) (a7 n) (l::j) g] [] [] pos) (dTry T y i tb ts):=⟨by
 rintro p s σ H D I ⟨S,M,ρ,F,sm,Z,q,k⟩;refine wpAny_Try_except<|v6 (hb.ok p s σ H D (XQ X.K ρ H _) (λm=>m=σ) _ ⟨?_,λz=>(nomatch z),λz=>(nomatch z)⟩ rfl I ⟨S,M,ρ,F,_,sm,Z,q,k,λ_ _ _ z=>z⟩) λf s1 z=>?_;rintro m H1 s1 e s' rfl I1 ⟨a,C,R,rfl,r,E,Q,x,c,U,O,rfl,W,Y,V,h,q2⟩;obtain⟨t,c0,r0⟩:=dH.cls hT<|nE.has h;obtain⟨C',hy,hm,_⟩:=r0 y a9 h;have ec:t=c:=by have:=c0.at_.symm.trans W;cases this;rfl
 subst ec;have J:R a=a8:=by
  obtain⟨B,a0,A,_,_,_,trk⟩:=Q;cases q:R a with
  |none=>rfl
  |some u=>obtain⟨o,r⟩:=trk a u q;rw[A.2.1]at r;cases r
 refine AB (C:=t) (C':=C') (i:=i) I1 ⟨d1,d2,d3⟩ r E Q hN hi hk (ON I.mod.kin I.mod.glob hy) hm (hs a).ok ⟨S.set i<|a7<|.ref U.length,U++[.exc x],O++[a],_,Y.laidM (mo:=.exc x) J ⟨t,W,aZ⟩,(Z.grow<|V.trans<|Grow.laidR J).set i<|.ref Y.last,q2,⟨λab H3 w=>?_,λ_ _ w=>?_,λ_ _ w=>?_,λ_ _ w=>?_⟩⟩ hg G;obtain⟨S3,M3,P,s3,g3,L,d⟩:=w;exact k.nx _ H3 ⟨_,M3,P,s3,(V.trans<|Grow.laidR J).trans g3,L.drop i,d⟩;obtain⟨_,_,_,_,_,_,d⟩:=w;exact d;obtain⟨_,_,_,_,_,_,d⟩:=w;exact d;obtain⟨_,_,_,_,_,_,d⟩:=w;exact d
 ·cases f with
  |next=>exact MV z
  |ret v=>exact z
  |brk=>exact z
  |cont=>exact z⟩
noncomputable def subY(T:xW)(y:b9):Bool:=T.any λr=>(r.2.lookup y).isSome
theorem dH.any{K:t8}{T:xW}{y:b9}(h:dH K T=a9)(O:subY T y=a9):∃C',LH K d6 y=a7 (a7<|.ref C')/\KU K (.type "NoneType") (.ref C')=a7 bt:=by obtain⟨⟨x,w⟩,i,g⟩:=Lx.mp O;obtain⟨v,c⟩:=Ow.mp g;obtain⟨C,_,r⟩:=xP.cls<|F0.mp h _ i;obtain⟨C',h1,_,_,d⟩:=r y v<|gI c;exact⟨C',h1,d⟩
def wx(T:xW)(y:b9)(te:v5):v5:=λS M Q=>te S M λd a=>match d with
 |.ref n=>(match a[n]? with
  |some (.exc x)=>(match nE T x y with
   |some v=>Q (.bl v) a
   |none=>False)
  |_=>False)
 |.non=>Q (.bl bt) a
 |_=>False
def dIsV(T:xW)(te:v5):v5:=λS M Q=>te S M λd a=>match d with
 |.ref n=>(match a[n]? with
  |some (.exc x)=>(T.lookup x).isSome=a9/\Q (.bl a9) a
  |_=>False)
 |.non=>Q (.bl bt) a
 |_=>False
def rIsC(K:t8)(c:V)(u:b7):List V->Hp->VK->Prop:=λvs H Q=>∃e,vs=[e,c]/\((e=.non/\KU K (.type "NoneType") u=a7 bt/\Q (.bl bt) H)\/∃a C v,e=.ref a/\H a=a7 (.ext<|GK a<|.ref C)/\ExcK K C/\KU K (.ref C) u=a7 v/\Q (.bl v) H)
theorem wA(i:∀u',aH c u'->u'=u):eH X (.builtin "isinstance") (rIsC X.K c u):=by
 rintro p s σ H vs us Q I d ⟨g,rfl,h⟩;obtain⟨S,J,rfl,r,b⟩:=ar.two d;obtain rfl:=i J b;rcases h with⟨rfl,k,q⟩|⟨a,C,v,rfl,f,E,k,q⟩
 obtain rfl:S=ABh:=r;exact PySem.W.kia_one PySem.W.kitx_none I.kIn trivial k (by intro z;cases z) λt=>⟨.bl bt,H,I.tok t,rfl,q⟩
 obtain rfl:S=ABF a:=r;obtain⟨⟨o,w,e,l,_⟩,_⟩:=I.hok a _ f;exact PySem.W.kia_one (Ce E) I.kIn ⟨o,e,l⟩ k (by intro z;cases z) λt=>⟨.bl v,H,I.tok t,rfl,q⟩
theorem IZ{T:xW}{y:b9}{p f:f8}{te:v5}(E:dH X.K T=a9)(Z:X.mg "isinstance" = a8)(U:HE X e te)(Y:subY T y=a9:=by kernel_rfl)(V:X.env.kindOf "isinstance" = a7 .globalImplicit:=by kernel_rfl)(hy:X.env.kindOf y=a7 .globalImplicit:=by kernel_rfl)(o:(y==("__debug__":b9))=bt:=by kernel_rfl)(g:ge [e,.Name y f] X.env=(bt,eval e X.env)::ge [.Name y f] X.env:=by kernel_rfl) (z:ge [.Name y f] X.env=(bt,eval (.Name y f) X.env)::ge [] X.env:=by kernel_rfl) (w:(f9 pos<|ge [.Name y f] X.env).any (·.1)=bt:=by kernel_rfl):HE X (.Call (.Name "isinstance" p) [e,.Name y f] [] pos) (wx T y te):=⟨by
 rintro i s σ H Q I ⟨S,M,ρ,R,sm,sr,q,k⟩;obtain⟨j,F,h⟩:=dH.any E Y;refine pA (wA (X:=X) (c:=.ref j) (u:=.ref j) λu' r=>r) V Z fg (mq U.ok (mq (EH (v:=.ref j) hy (ON I.mod.kin I.mod.glob F) rfl o) ze z) g) (by decide) (by decide) g w i s σ H Q I ?_;refine⟨S,M,ρ,_,sm,sr,q,?_⟩;rintro v H1 ⟨d,D,l,A,g1,J,b⟩;show rIsC X.K (.ref j) (.ref j) [v,.ref j] H1 Q;refine⟨v,rfl,?_⟩;cases d with
 |non=>obtain rfl:=u4.inv_non J;exact .inl ⟨rfl,h,k _ _ ⟨_,D,l,A,g1,.bl bt,b⟩⟩
 |ref n =>
  obtain⟨a,rfl,N⟩:=u4.inv_ref J;dsimp only at b;split at b;rename_i x hx;split at b;rename_i v G;obtain⟨C,c,r⟩:=dH.cls E<|nE.has G;obtain⟨L,t,_,W,_⟩:=r y v G;have m:L=j:=by have:=t.symm.trans F;cases this;rfl
  subst m;obtain⟨B,O,P⟩:=A.obj n a _ N hx;have m:B=C:=by have:=O.symm.trans c.at_;cases this;rfl
  subst m;exact .inr ⟨a,B,v,rfl,P,c.own,W,k _ _ ⟨_,D,l,A,g1,.bl v,b⟩⟩;exact b.elim;exact b.elim
 |_=>exact b.elim⟩
theorem qj:d7 "ValueError" = a7 (.type "ValueError"):=by decide +kernel
theorem zO{K:t8}:KU K (.type "NoneType") (.type "ValueError")=a7 bt:=by kernel_rfl
theorem Ja{T:xW}{p f:f8}{te:v5}(z:dH X.K T=a9)(F:X.mg "isinstance" = a8)(G:X.mg "ValueError" = a8)(D:HE X e te)(E:X.env.kindOf "isinstance" = a7 .globalImplicit:=by kernel_rfl)(O:X.env.kindOf "ValueError" = a7 .globalImplicit:=by kernel_rfl)(g:ge [e,.Name "ValueError" f] X.env=(bt,eval e X.env)::ge [.Name "ValueError" f] X.env:=by kernel_rfl) (j:ge [.Name "ValueError" f] X.env=(bt,eval (.Name "ValueError" f) X.env)::ge [] X.env:=by kernel_rfl) (l:(f9 pos<|ge [.Name "ValueError" f] X.env).any (·.1)=bt:=by kernel_rfl):HE X (.Call (.Name "isinstance" p) [e,.Name "ValueError" f] [] pos) (dIsV T te):=⟨by
 rintro h s σ H Q I ⟨S,M,ρ,R,L,P,q,k⟩;refine pA (wA (X:=X) (c:=.ty "ValueError") (u:=.type "ValueError") λu' r=>r) E F fg (mq D.ok (mq (zc (v:=.ty "ValueError") O G qj rfl) ze j) g) (by decide) (by decide) g l h s σ H Q I ?_;refine⟨S,M,ρ,_,L,P,q,?_⟩;rintro v H1 ⟨d,o,i,m,g1,t,b⟩;show rIsC X.K (.ty "ValueError") (.type "ValueError") [v,.ty "ValueError"] H1 Q;refine⟨v,rfl,?_⟩;cases d with
 |non=>obtain rfl:=u4.inv_non t;exact .inl ⟨rfl,zO,k _ _ ⟨_,o,i,m,g1,.bl bt,b⟩⟩
 |ref n =>
  obtain⟨a,rfl,N⟩:=u4.inv_ref t;dsimp only at b;split at b;rename_i x J;obtain⟨C,c,_⟩:=dH.cls z b.1;obtain⟨B,y,A⟩:=m.obj n a _ N J;have w:B=C:=by have:=y.symm.trans c.at_;cases this;rfl
  subst w;exact .inr ⟨a,B,a9,rfl,A,c.own,c.val,k _ _ ⟨_,o,i,m,g1,.bl a9,b.2⟩⟩;exact b.elim
 |_=>exact b.elim⟩
end
structure RoomH(k:Nat)(A:d8):Prop where
 dp:A.depth+3*k+5<recursionLimit
 un:A.units+16*k+200<j4
theorem Room.held(r:Room k A)(h:Option b7):RoomH k (A.mark h):=⟨r.dp,r.un⟩
theorem RoomH.mono(r:RoomH k A)(h:j<=k):RoomH j A:=⟨by have:=r.dp;lia,by have:=r.un;lia⟩
theorem RoomH.deeper(r:RoomH (k+1) A)(env:Env):RoomH k (A.deeper env):=⟨by have:=r.dp;show A.depth+1+3*k+5<_;lia,by have:=r.un;show A.units+3+16*k+200<_;lia⟩
theorem RoomH.depth(r:RoomH k A):A.depth<recursionLimit:=by have:=r.dp;lia
noncomputable abbrev OH(P:c5)(w:c3)(K:t8)(mg:b9->Option b7)(base:c8)(N:List b9)(qual:b9)(scope:e6)(f:c6)(cd:b7)(A:d8)(outer:List Env)(s:d9)(H:Hp)(E:XK):Cx:={ qg Ix P w K mg base N qual scope f cd A outer s H E with calm:=bt,xe:=λ_ _=>False }
structure N1(P:c5)(w:c3)(K:t8)(mg:b9->Option b7)(base:c8)(k:Nat)(f:c6)(fd:j5)(ps:List b9)(sp:Sp):Prop where
 len:∀vs H Q E,sp vs H Q E->vs.length=ps.length
 run:∀(A:d8) (outer:List Env) (s:d9) (H:Hp) (args:Args) (us:List b7) (vs:List V) (Q:VK) (E:XK),RoomH k A->Env0 P w K mg base A outer s H->BindsTo s fd args (ps.zip us)->ar vs us->sp vs H Q E ->j6 (f7 P w) A (.call (.ref f) args) (CR Ix outer P w H s Q E) s
theorem N1.more{P:c5}{w:c3}{K:t8}{mg:b9->Option b7}{base:c8}{j k:Nat}{f:c6}{d:j5}{ps:List b9}{sp:Sp}(F:N1 P w K mg base j f d ps sp)(h:j<=k):N1 P w K mg base k f d ps sp:=⟨F.len,λA o s H O us vs Q E i=>F.run A o s H O us vs Q E<|i.mono h⟩
theorem Jz{P:c5}{w:c3}{K:t8}{mg:b9->Option b7}{base:c8}{k:Nat}{f:c6}{name l:b9}{p:Arguments}{g:List g7}{scope:e6}{Y kV m pm c U oc:b7}{R od:Option c6}{L:Array (Option b7)}{N ps:List b9}{sp:Sp} (lk:K.lookup f=a7 ⟨oc,od,.func<|Lv name l p g scope Y kV m pm R c U,L⟩) (F:Oa K c l=a9) (S:FnScope N ps scope)(D:∀vs H Q E,sp vs H Q E->vs.length=ps.length)(i:∀(A:d8) (outer:List Env) (s:d9) (H:Hp) (vs:List V) (Q:VK) (E:XK),RoomH k (A.deeper<|b8 l scope s.heap.objs.size f c)->sp vs H Q E -> ∃t,G9 (OH P w K mg base N l scope f c A outer s H E) g t/\t { nx:=λ_ H'=>Q .non H',rt:=Q } (start N vs) H):N1 P w K mg base (k+1) f (Lv name l p g scope Y kV m pm R c U) ps sp:=by
 refine⟨D,λA outer s H T us vs Q E Z d hb r C=>?_⟩;have hl:=D _ _ _ _ C;have X:K.In s.heap:=d.mod.kin.keeps λb o e=>(d.bs b o e).1;have G:s.heap.NoLimit:=d.mod.nolimit.keeps λb o e=>(d.bs b o e).1;have j:∀y∈ps.zip us,scope.names.lookup y.1=a7 .local\/(scope.names.lookup y.1=a7 .cell/\((cellsFrom (s.heap.objs.size+1) scope.names []).lookup y.1).isSome=a9):=λ⟨n,v⟩ hy=>by rcases S.par n (O1 hy).1 with q|q;exact .inl q;exact .inr ⟨q,P9 _ _ _<|.inl q⟩
 refine codeAny_call_function Z.depth (X _ _ lk) rfl S.co S.gen rfl (PySem.W.codeRec_of X F)<|hb _ _ _ _ ?_;refine wpAny_newFunctionEnv_cells S.kind j λenv he O x=>?_;subst he;refine⟨G.keeps x.toInCall.keep,codeAny_func ?_⟩;obtain⟨t,ht,hq⟩:=i A outer s H vs Q E (Z.deeper _) C;have e1:Env0 P w K mg base { A with handled:=a8 } outer s H:=⟨d.frames,d.mod,d.bs,d.bsz,d.funs,d.frf,d.hok,d.bare⟩
 have a:t4 (qg Ix P w K mg base N l scope f c { A with handled:=a8 } outer s H E) [] (start N vs) H O:=sQ S rfl e1 hl r x;have I:t4 (OH P w K mg base N l scope f c A outer s H E) [] (start N vs) H O:=⟨⟨a.ok.mod,a.ok.kind,a.ok.glob,a.ok.blt,a.ok.above,a.ok.inj,a.ok.has,a.ok.cab,(λz=>Bool.noConfusion z),Around.frames_deeper d.frames,a.ok.stk,a.ok.exf,a.ok.bs,a.ok.bsz,a.ok.noex,a.ok.exfs,a.ok.funs,a.ok.frf⟩,a.os,a.bare,a.base,a.loc,a.cell,a.free,a.freeC,a.pin,a.hok,a.len⟩
 refine E1 (ht [] O (start N vs) H _ I hq) (λfl s' hs=>?_) λe s' hs=>hs.elim;have B:∀{h:St}{H':Hp}{v:V}{u:b7},t4 (OH P w K mg base N l scope f c A outer s H E) [] h H' s'->aH v u->Q v H'->CE outer P w H s Q u s':=λ{h H' v u} J M q=>⟨v,H',J.os,J.bare,J.base,J.hok,M,q⟩
 cases fl with
 |ret u=>obtain⟨v,h,H',J,M,q⟩:=hs;exact B J M q
 |next=>obtain⟨h,H',J,q⟩:=hs;exact B (v:=V.non) (u:=ABh) J rfl q
 |brk=>obtain⟨_,_,_,q⟩:=hs;exact F7 q
 |cont=>obtain⟨_,_,_,q⟩:=hs;exact F7 q
def Km(P:c5)(w:c3)(K:t8)(mg:b9->Option b7)(base:c8)(k:Nat)(x:b9)(ps:List b9)(r:x5):Prop:=∃f d,N1 P w K mg base k f d ps (K1 K r)/\mg x=a7 (.ref f)/\LL K (.ref f)=a9/\nU K d ps []
abbrev DerH(P:c5)(w:c3)(K:t8)(mg:b9->Option b7)(base:c8)(k:Nat)(x:b9)(N:List b9)(st:g7)(t:t7):Prop:=∀(f:c6) (cdv:b7) (A:d8) (outer:List Env) (s:d9) (H:Hp) (E:XK),RoomH k (A.deeper<|P0 x (ao st) s.heap.objs.size f cdv)->HB (OH P w K mg base N x (ao st) f cdv A outer s H E) (bB st) t
section
variable{P:c5}{w:c3}{K:t8}{mg:b9->Option b7}{base:c8}{x:b9}{st:g7}{N ps:List b9}{k:Nat}{Pr:x5}{B:List b9}{C:List (b9×Int)}{t:t7}
theorem Km.by(T:TopB mg B C)(F:ck K mg x st ps)(u:FnScope N ps (ao st))(n:cZ Pr ps)(g:TopB mg B C->N.Nodup->DerH P w K mg base k x N st t)(V:∀ds M R,Pr ds M R->t (EE M R) (cR N ds) M):Km P w K mg base (k+1) x ps Pr:=by obtain⟨f,G,p,J,I⟩:=F;refine⟨f,G,?_,J,p.kp,I⟩;obtain⟨Y,Z,kV,D,pm,W,e,X,U,rfl,O,l⟩:=p.ex;refine Jz O l u (λvs H Q E ⟨ds,M,ρ,R,s,r,q,_⟩=>by rw[<-r.length];exact n ds M R q) λA o s H vs Q E L h=>?_;obtain⟨ds,M,ρ,R,m,r,q,y⟩:=h;refine⟨lowS K t,(g T u.nd f e A o s H E L).ok,cR N ds,M,ρ,_,m,SRep.start r N,V ds M R q,⟨λc H' ⟨S,d,a,s',i,b,j⟩=>?_,λv H' z=>y v H'<|VQ.endq m z,λc H' ⟨S,d,a,s',i,b,j⟩=>j.elim,λc H' ⟨S,d,a,s',i,b,j⟩=>j.elim⟩⟩;exact y .non H'<|VQ.endq m ⟨.non,d,a,s',i,.non,j⟩
end
section
variable{X:Cx}{a:c6}{e:f6}{es:List f6}{x:b9}{p pos:f8}{t:D4}
theorem Jc(C:Km X.prog X.w X.K X.mg X.base j x ps P)(U:Room k X.A)(E:HA (X.held a) (e::es) t)(N:Nat.ble j k=a9:=by kernel_rfl)(L:X.env.kindOf x=a7 .globalImplicit:=by kernel_rfl)(g:(x==("__debug__":b9))=bt:=by kernel_rfl) (J:ge (e::es) X.env=(bt,eval e X.env)::ge es X.env:=by kernel_rfl) (l:(f9 pos<|ge es X.env).any (·.1)=bt:=by kernel_rfl):HE (X.held a) (.Call (.Name x p) (e::es) [] pos) (u5 P t):=⟨by
 rintro c s σ H Q I ⟨S,M,ρ,F,Y,Z,q,k⟩;obtain⟨f,fd,o,T,O,G⟩:=C;refine M7<|jT I L T ?_ g;refine PU (h₀:=X.base) I.ok.mod.kin O (v6 (E.ok pos c s σ H _ I ⟨S,M,ρ,_,Y,Z,q,λ_ _ z=>z⟩) λus y z=>?_) J l;obtain⟨vs,H1,d,r,ds,B,m,i,g1,W,V⟩:=z;refine⟨d.kIn,?_⟩;have b:K1 X.K P (vs++[]) H1 Q E0:=⟨ds,B,m,F,i,by rw[KO];exact W,V,λv H' w=>k v H'<|VQ.trans g1 w⟩
 have n:ar (vs++[]) (us++[]):=by rw[KO,KO];exact r
 have R:(us++[]).length=ps.length:=by rw[<-n.length];exact o.len _ _ _ _ b
 refine wpAny_call<|LY ((o.more<|P4 N).run (X.held a).A X.stack y H1 ⟨us,[]⟩ (us++[]) (vs++[]) Q E0 (U.held _) d.env0 (G y us d.kIn R) n b) λr s' h=>?_;cases r with
 |error e=>exact F7 h
 |ok D =>
  cases D with
  |ret u=>exact d.after h
  |next=>exact F7 h
  |brk=>exact F7 h
  |cont=>exact F7 h⟩
end
end L2
namespace L2
open PySem PySem.Spec PyProof.Rows DL PySem.W
end L2
namespace L2
open PySem PySem.Spec PyProof.Rows DL
abbrev DTAX:=DX->D4
inductive lowXA(K:t8)(E:XK)(t:DTAX)(σ:St)(H:Hp)(Q:List V->Hp->Prop):Prop
 |mk (S:SD) (M:t9) (ρ:List c6) (F:List D->t9->Prop) (R:DX) (s:u9 K ρ M H) (sr:SRep K ρ H S σ) (q:t R S M F) (k:∀v H',AQ K ρ H F v H'->Q v H') (x:∀C dx H',XQ K ρ H R C dx H'->E C dx H')
structure HXA(b:Bool)(X:Cx)(es:List f6)(t:DTAX):Prop where
 ok:∀(pos:f8) (pins:List (c6×c7)) (s:d9) (σ:St) (H:Hp) (Q:List V->Hp->Prop) (E:XK) (P:St->Prop) (Ex:b7->d9->Prop),XA b X pins E P Ex->P σ->t4 X pins σ H s->lowXA X.K E t σ H Q->e8 (f7 X.prog X.w) X.A (spliced<|f9 pos<|ge es X.env) (AP X pins σ Q) Ex s
section
variable{X:Cx}
theorem lc_at(B:BlkSc X N' nt js scope)(V:X.calm=a9)(I:t4 X pins σ H s)(h:OC nt js (λ_ _ R=>e8 (f7 X.prog X.w) X.A (eval iter X.env) (λv s1=>e8 (f7 X.prog X.w) X.A (i8 v) (NW X pins σ tg R) X.xe s1) X.xe s) g tt te σ H Q)(hg:∀cl s0 H0 ex,PG (z9 X N' scope cl s0 H0 ex) tg g) (ht:∀cl s0 H0 ex,Lr (z9 X N' scope cl s0 H0 ex) ifs tt) (Y:∀cl s0 H0 ex,PE (z9 X N' scope cl s0 H0 ex) elt te)(hs:∀x,j0 iter X.env x=pure x):e8 (f7 X.prog X.w) X.A (eval (.ListComp elt [⟨tg,iter,ifs,0⟩] scope pos) X.env) (EP X pins σ Q) X.xe s:=by
 rw[eval_ListComp];obtain⟨cl,N,a,i⟩:=gj (scope:=scope) (env:=X.env) λp hp Z=>I.ok.has p.1<|B.free p hp Z;refine Qf (use:=a8) rfl hs N B.kind B.loc ?_;refine v6 h λv s1 h1=>v6 h1 λab n h2=>?_;obtain⟨it,C,tn,J,O,e,f,T,U,M,W,⟨m0,w0⟩,r⟩:=h2;subst e;refine J6<|wpAny_newFunctionEnv B.nocell (by intro y hy;simp at hy) (λh1 D E=>?_) B.kind;have j:∀b∈C,b<n.heap.objs.size:=λb d=>by obtain⟨o,e,_⟩:=T.obj _ _ U b d;exact x3 e
 have L:(n.heap.push<|ci [] 0).objs.size=n.heap.objs.size+1:=K6 ..;have m:∀b o,(n.heap.push<|ci [] 0).get? b=a7 o->h1.get? b=a7 o:=λb o e=>(E.2 b<|x9<|x3 e).trans<|w6 _ e;have P:=f.blkStart (tk:=n.toks+([]:List (b9×b7)).length) B a i M j m D;have K:tn 0 h1:=T.keep _ _ _ U λb _ o e=>m b o<|w6 _ e;have F:n.heap.objs.size∉C:=λz=>G4 _<|j _ z;have S:n.heap.objs.size∉frs X.stack:=λz=>by rcases A0.mp (f.stkSub _ z)with q|q;exact o7 f.lt (by rw[<-q];exact G4 _);exact f.nofs (u6 _) q
 have u:n.heap.objs.size≠(n.heap.push<|ci [] 0).objs.size:=by rw[L];exact x9<|Kw _
 have ltc:∀z c,cl.lookup z=a7 c->c<n.heap.objs.size:=λz c e=>by obtain⟨v,q⟩:=f.cell z c<|a z c e;exact q.lt
 have t:∀b∈C,b≠(n.heap.push<|ci [] 0).objs.size/\b∉frs X.stack/\∀x c,cl.lookup x=a7 c->c≠b:=λb d=>by refine⟨by rw[L];exact x9<|Mw<|j b d,λz=>?_,λx c e=>(M b d).2.2.2.2.1 x c<|a x c e⟩;rcases A0.mp (f.stkSub b z)with q|q;exact(M b d).2.1 q;exact(M b d).2.2.1 q
 have l:j6 (f7 X.prog X.w) X.A (.compLoop (.ListComp elt [⟨tg,iter,ifs,0⟩] scope pos) 0 (.ref it) (.ref n.heap.objs.size)<|compEnvC scope cl (n.heap.push<|ci [] 0).objs.size X.env) (compPost (f7 X.prog X.w) X.A X.xe a8 (EP X pins σ Q) (.ref n.heap.objs.size) (n.heap.push<|ci [] 0).objs.size) { n with heap:=h1,toks:=n.toks+([]:List (b9×b7)).length }:=by refine uI (s0:={ n with heap:=n.heap.push (ci [] 0) }) (H0:=O) (N':=N') (Q:=Q) V (hg _ _ _ _) (ht _ _ _ _) (Y _ _ _ _) T F r t u S (λx c e=>x9<|ltc x c e) ?_ m0 P K (λb d=>(M b d).1) w0;intro τ H' s' vs its k G rv hl q;obtain⟨mm,hn,_⟩:=id G.loc;exact⟨mm,hn,λh' sb=>⟨.ref n.heap.objs.size,_,f.blkEnd M G rv hl sb,rfl,q⟩⟩
 exact P7 l<|T.self _ 0 _ _ _ K l
theorem Fg{K:t8}{r:Nat}{s:List Nat}{g:G1}{tt:D9}{te:v5}{σ:St}{H H1:Hp}{R:VK}{S:SD}{ρ c:List c6}{Q:DK}{J:It}{src:OI}{M:t9}(sr:SRep K ρ H S σ)(k:∀v H',VQ K ρ H Q v H'->R v H')(s1:u9 K c M H1)(g1:Grow K ρ H c H1)(it:KJ K src c H1 J)(q1:jW src.ok g tt te Q src.items [] (GM r s S) M):∃W:Nat->Nat->List V->St->Hp->Prop,(∃m,W 0 m [] (L2.bst r s σ) H1)/\∀i m vs τ H,W i m vs τ H->(J.stop i H/\∀p,H p=a8->R (.ref p) (v8 H p<|.lst vs)) \/(J.go i H/\∀x H',J.yld i H x H'->lowG K g x τ H' λτ2 H2=>lowT K tt τ2 H2 λb H3=>if b=a9 then lowE K te τ2 H3 λy H4=>vs.length<sizeLine/\∃m',m' < m/\W (i+1) m' (vs++[y]) τ2 H4 else ∃m',m' < m/\W (i+1) m' vs τ2 H3):=by
 refine⟨λi m vs τ H2=>∃h M2 a acc,u9 K a M2 H2/\Grow K c H1 a H2/\SRep K a H2 h τ/\Reps K a H2 acc vs/\i<=src.items.length/\m=src.items.length-i/\jW src.ok g tt te Q (src.items.drop i) acc h M2,⟨_,_,M,c,[],s1,.refl,(sr.grow g1).bst r s,.nil,z5 _,rfl,q1⟩,?_⟩;rintro i m vs τ H2 ⟨h,M2,a,acc,n,j,z,u,hi,rfl,q⟩;by_cases t:i<src.items.length;have D:src.items[i]?=a7 src.items[i]:=v9 t;rw[mZ D]at q;obtain⟨ok,w⟩:=(show src.ok M2/\g src.items[i] h M2 _ from q)
 refine .inr ⟨it.go i a M2 H2 n j ok t,λx H3 y=>?_⟩;obtain⟨d,B,T,s3,g3,r3⟩:=it.yld i a M2 H2 x H3 n j ok t y;have P:d=src.items[i]:=B5<|T.symm.trans D;subst P;refine⟨_,h,M2,B,_,s3,z.grow g3,r3,w,?_⟩;rintro ab H4 ⟨Z,I,C,s4,o,G,q4⟩;refine⟨Z,I,C,_,s4,G,q4,?_⟩;rintro b H5 ⟨X,N,s5,f,F⟩;have l:=((j.trans g3).trans o).trans f;cases b with
 |false=>exact dz ⟨_,by lia,Z,X,N,acc,s5,l,G.grow f,u.grow<|(g3.trans o).trans f,t,rfl,(show jW src.ok g tt te Q (src.items.drop<|i+1) acc Z X from F)⟩
 |true=>refine dB ⟨Z,X,N,_,s5,G.grow f,(show te Z X _ from F),?_⟩;rintro v H6 ⟨y',L,O,s6,A,r6,U,q6⟩;have E:=u.grow<|((g3.trans o).trans f).trans A;exact⟨by rw[<-u.length];exact U,_,by lia,Z,L,O,acc++[y'],s6,l.trans A,G.grow<|f.trans A,E.append<|.cons r6 .nil,t,rfl,q6⟩
 have e:i=src.items.length:=by lia
 subst e;rw[P6<|u6 _]at q;obtain⟨ok,w⟩:=(show src.ok M2/\Q (.ref M2.length) (M2++[.lst acc])from q)
 exact .inl ⟨it.stop a M2 H2 n j ok,λp Y=>k _ _<|VQ.laidL n (g1.trans j) u Y w⟩
def Kb(te:v5):KL:=λS M R=>te S M λd a=>match d with
 |.ref n=>∃xs,al a n xs/\(xs.length<=sizeLine->R ⟨xs,λM=>al M n xs⟩ a)
 |_=>False
def OA(t:Nat)(s:List Nat)(c:tO)(g:G1)(tt:D9)(te:v5):tO:=λR=>E8 t s (Kb<|c R) g tt te
variable{b:Bool}{tg iter elt:f6}{ifs:List f6}{scope:e6}{nt:Nat}{js:List Nat}{ti:tO}{g:G1}{tt:D9}{te:v5}{pos:f8}
theorem Iy(hi:MF b X iter ti)(J:∀cl s0 H0 ex,HG (z9 X (Le X.N js tg) scope cl s0 H0 ex) tg g)(T:∀cl s0 H0 ex,MG (z9 X (Le X.N js tg) scope cl s0 H0 ex) ifs tt)(G:∀cl s0 H0 ex,HE (z9 X (Le X.N js tg) scope cl s0 H0 ex) elt te)(B:nw X.env.scope.names X.N (Le X.N js tg) nt js scope=a9:=by kernel_rfl) (D:X.calm=a9:=by kernel_rfl) (hs:∀x,j0 iter X.env x=pure x:=by intro _;kernel_rfl):MF b X (.ListComp elt [⟨tg,iter,ifs,0⟩] scope pos) (OA nt js ti g tt te):=⟨by
 rintro c s σ H Q E P Ex A p I ⟨S,M,ρ,F,R,sm,m,q,k,x⟩;refine E1 (lc_at (X:=X.wish Ex) (g:=lowG X.K g) (tt:=lowT X.K tt) (te:=lowE X.K te) (Q:=Q) (BlkSc.chk B) D (I.wish _) ?_ (λcl s0 H0 ex=>(J cl s0 H0 ex).ok) (λcl s0 H0 ex=>(T cl s0 H0 ex).ok) (λcl s0 H0 ex=>(G cl s0 H0 ex).ok) hs) (λ_ _ ⟨y,H',t,r,q⟩=>⟨y,H',t.unwish,r,q⟩) λ_ _ z=>z;refine v6 (hi.ok c s σ H _ E P Ex A p I ⟨S,M,ρ,_,R,sm,m,q,λ_ _ z=>z,x⟩) ?_;rintro u h ⟨v,H1,f,Z,d,w,ab,j,g1,Y,l⟩;cases Y with
 |@ref n a i =>
  cases Z;obtain⟨xs,L,W⟩:=(show ∃xs,al w n xs/\(xs.length<=sizeLine->_)from l)
  obtain⟨vs,O,r⟩:=al.seq j L i;obtain⟨its,rr,V,U⟩:=f.list O;refine Pa V.isList ?_;refine⟨h.heap.objs.size,[h.heap.objs.size],_,_,H1,rfl,(f.wish _).kept (t':=h.toks) λb o e=>w6 _ e,qH a _,⟨_,A9 _ rfl,rfl,rfl⟩,λb C=>?_,Fg m k j g1 (KJ.lst i)<|W<|by rw[r.length];exact U⟩;have e:b=h.heap.objs.size:=by simpa using C
  subst e;exact(f.wish _).fpOk (u6 _)<|f.hok.fresh<|u6 _
 |_=>exact l.elim⟩
def xOpR(r:E9)(a:v5)(b:tO):tO:=λR=>tx r a<|b R
def xIfE(te:tO)(t u:D8):D8:=λR=>B6 (aE<|te R) (t R)<|u R
variable{a c:f6}{ta:v5}{tb:tO}
theorem wc(ho:F6 X.nox (j2 op) r)(Z:HE X.nox a ta)(hb:MF b X c tb)(h1:Lg b X bd t)(h2:Lg b X el u)(hm:j3 op c=bt:=by kernel_rfl):HX b X (.If (.Compare a [op] [c] p2) bd el pos) (xIfE (xOpR r ta tb) t u):=⟨by
 rintro e s σ H D E P Ex A p I ⟨S,M,ρ,F,R,sm,l,q,k,x⟩;refine wpAny_If<|wpAny_isTrue_Compare1 (E1 (Z.ok e s σ H _ (I.wish _) ⟨S,M,ρ,_,sm,l,q,λ_ _ z=>z⟩) (λv s1 ⟨y,H1,T,r1,d,W,G,o,g1,r',q1⟩=>?_) λ_ _ z=>F7 z) hm;refine v6 (hb.ok e s1 σ H1 _ E P Ex A p T.unwish ⟨S,W,G,_,R,o,l.grow g1,q1,λ_ _ z=>z,λC h f w=>x C h f<|w.trans g1⟩) ?_;rintro u s2 ⟨y2,f,V,r2,Y,M2,J,B,O,U,q2⟩;refine E1 (ho.ok e s2 σ f y y2 v u _ (V.wish _) r1 r2 ⟨d,Y,M2,J,_,B,r'.grow O,U,q2,λ_ _ w=>w⟩) (λz Q ⟨y3,K,L,r3,d3,N,j,i,g3,n,m⟩=>?_) λ_ _ z=>F7 z;cases n with
 |bl t =>
  cases r3;have g:=(g1.trans O).trans g3;refine Mx ?_;cases t with
  |true=>exact h1.ok e Q σ K D E P Ex A p L.unwish ⟨S,N,j,F,R,i,l.grow g,m,k.trans g,λC h f w=>x C h f<|w.trans g⟩
  |false=>exact h2.ok e Q σ K D E P Ex A p L.unwish ⟨S,N,j,F,R,i,l.grow g,m,k.trans g,λC h f w=>x C h f<|w.trans g⟩
 |_=>exact m.elim⟩
end
end L2
namespace LW
open PySem L2
local macro_rules | `(tactic| walk_at"sc")=>`(tactic| exact⟨rfl,rfl,rfl,by decide +kernel,rfl,by decide +kernel,by decide +kernel⟩)
local macro_rules | `(tactic| walk_at"dl")=>`(tactic| simp only[EE,Mh,GD,OB,xRet,xSet,ya,LR,xOpR,xIfE,OA,qu,dTry,wx,dIsV,ax,B6,Gs,dAnd,Ng,aE,u5,aa,ag,bj,tq,dOrV,CV,dIfE,E8,nF,bN,am,bn,aT,jy,nG,tx,tj,dC,ac,fL,fN,LS,nj,iR,Nh,K8,bC,Do,qAdd,aA,GG,jG,aI,bP,LB,Nd,LC,NL,C5,OE,GI,jH,GJ,v7,OD,cv,dAsg,CS,ng,bV,nh,dMl0,mh,xc,ii,CY,jw,xM,jV,sY,OG,rY,ww,sX,Ep,wv,yV,CW,MC,oJ,sd,Hl,CU,Hk,jF,wu,Gk,iy,SqAt,GH,mf,il,LU,Ml,PH,md,rZ,Kp,PF,cR,GM,B8,List.map_nil,Od,Fn,Qa,Ov,B9,D3,List.replicate_zero,List.replicate_succ,List.set_cons_zero,List.set_cons_succ,LX,Nat.reduceAdd,Nat.reduceSub,Option.join_some,p7,p6,A4])
noncomputable def top(i:Nat):g7:=PySem.Challenge.pw_talkmarks_k44_rooms_for_members_alone.main.body.getD i<|.Pass ⟨0,0,0,0⟩
noncomputable abbrev T_:xW:=[(t5 "NoRoom",[(t5 "NotYours",bt),(t5 "NoHouse",bt),(t5 "NoMessage",bt),(t5 "NoRoom",a9),(t5 "NoDeed",bt),(t5 "NoWhat",bt),(t5 "NoName",bt),(t5 "NoSaying",bt),(t5 "Gap",bt),(t5 "Clash",bt),(t5 "NoRow",bt),(t5 "Strange",bt),(t5 "TalkError",a9)])]
noncomputable abbrev B_:List b9:=["len","any","dict","sorted","set","reversed","range","tuple","max","isinstance","ValueError","list"]
noncomputable abbrev C_:List (b9×Int):=[]
noncomputable abbrev iC:List b9:=["sign"]
noncomputable abbrev bQ:List b9:=["text","name"]
noncomputable abbrev jK:List b9:=["saying","name"]
noncomputable abbrev iD:List b9:=["pairs"]
noncomputable abbrev mB:List b9:=["house","thing"]
noncomputable abbrev gc:List b9:=["house","room"]
noncomputable abbrev jJ:List b9:=["deed"]
noncomputable abbrev iz:List b9:=["deed"]
noncomputable abbrev iB:List b9:=["deed","vector"]
noncomputable abbrev du:List b9:=["log","kind"]
noncomputable abbrev jL:List b9:=["log","kind","name"]
noncomputable abbrev eO:List b9:=["log","kind","name"]
noncomputable abbrev mw:List b9:=["say"]
noncomputable abbrev jI:List b9:=["say"]
noncomputable abbrev iF:List b9:=["house","say","elders"]
noncomputable abbrev cy:List b9:=["house","log"]
noncomputable abbrev dY:List b9:=["deed","says"]
noncomputable abbrev eN:List b9:=["log","kind","says"]
noncomputable abbrev dW:List b9:=["log","says"]
noncomputable abbrev bH:List b9:=["log","says"]
noncomputable abbrev fZ:List b9:=["say","changes"]
noncomputable abbrev fY:List b9:=["house","log"]
noncomputable abbrev cw:List b9:=["log","name"]
noncomputable abbrev mC:List b9:=["say","name","vectors","seen"]
noncomputable abbrev cx:List b9:=["house","log","name"]
noncomputable abbrev cK:List b9:=["says","room"]
noncomputable abbrev gd:List b9:=["depth","stamps"]
noncomputable abbrev dS:List b9:=["beneath"]
noncomputable abbrev mv:List b9:=["house","log","room"]
noncomputable abbrev dU:List b9:=["house","log","name","room"]
noncomputable abbrev mz:List b9:=["house","log","name","room"]
noncomputable abbrev iA:List b9:=["house","log","name","room"]
noncomputable abbrev iE:List b9:=["house","log","name","room"]
noncomputable abbrev mD:List b9:=["_law_script","_law_k"]
noncomputable abbrev ue:List b9:=["_law_cell","_law_k"]
noncomputable abbrev zh:List b9:=["_law_cell","_law_k"]
noncomputable abbrev my:List b9:=["_law_script","_law_start","_law_most"]
noncomputable abbrev ud:List b9:=["_law_number","_law_many"]
noncomputable abbrev uh:List b9:=["_law_cell"]
noncomputable abbrev ui:List b9:=["_law_house_here"]
noncomputable abbrev pD:List b9:=["_law_number","_law_names_here"]
noncomputable abbrev zg:List b9:=["_law_number","_law_says","_law_hands_here"]
noncomputable abbrev pC:List b9:=["_law_number","_law_hands_here","_law_counts"]
noncomputable abbrev zf:List b9:=["_law_number","_law_house_here","_law_says","_law_hands_here"]
noncomputable abbrev EN:List b9:=["_law_number","_law_house_here","_law_says","_law_hands_here","_law_counts"]
noncomputable abbrev EL:List b9:=["_law_house_here","_law_numbers_here","_law_hands_here"]
noncomputable abbrev uf:List b9:=["_law_e"]
noncomputable abbrev mx:List b9:=["_law_house_here","_law_log_here","_law_name","_law_room","_law_way"]
noncomputable abbrev eP:List b9:=["_law_house_here","_law_log_here","_law_name","_law_room"]
noncomputable abbrev EM:List b9:=["_law_script"]
structure Tops(P:c5)(w:c3)(K:t8)(mg:b9->Option b7)(base:c8):Prop where
 f_is_letter:ck K mg "is_letter" (top 15) iC
 f_begins_with_name:ck K mg "begins_with_name" (top 16) bQ
 f_is_named:ck K mg "is_named" (top 17) jK
 f_firsts_of:ck K mg "firsts_of" (top 19) iD
 f_is_room:ck K mg "is_room" (top 20) mB
 f_members_of:ck K mg "members_of" (top 21) gc
 f_stamp_of:ck K mg "stamp_of" (top 23) jJ
 f_person_of:ck K mg "person_of" (top 24) iz
 f_is_within:ck K mg "is_within" (top 25) iB
 f_deeds_of_kind:ck K mg "deeds_of_kind" (top 27) du
 f_deeds_by:ck K mg "deeds_by" (top 28) jL
 f_stamps_told:ck K mg "stamps_told" (top 29) eO
 f_room_of:ck K mg "room_of" (top 31) mw
 f_under_of:ck K mg "under_of" (top 32) jI
 f_can_stand:ck K mg "can_stand" (top 33) iF
 f_says_that_count:ck K mg "says_that_count" (top 34) cy
 f_is_by_writer:ck K mg "is_by_writer" (top 35) dY
 f_writers_own:ck K mg "writers_own" (top 36) eN
 f_last_changes:ck K mg "last_changes" (top 37) dW
 f_stamps_taken_back:ck K mg "stamps_taken_back" (top 38) bH
 f_message_of:ck K mg "message_of" (top 39) fZ
 f_says_shown:ck K mg "says_shown" (top 40) fY
 f_vectors_by_room:ck K mg "vectors_by_room" (top 42) cw
 f_is_read:ck K mg "is_read" (top 43) mC
 f_unread_messages:ck K mg "unread_messages" (top 44) cx
 f_stamps_beneath:ck K mg "stamps_beneath" (top 46) cK
 f_last_first:ck K mg "last_first" (top 47) gd
 f_rows_of_tree:ck K mg "rows_of_tree" (top 48) dS
 f_rows_of:ck K mg "rows_of" (top 49) mv
 f_new_messages:ck K mg "new_messages" (top 51) dU
 f_new_for:ck K mg "new_for" (top 52) mz
 f_named_for:ck K mg "named_for" (top 53) iA
 f_first_new:ck K mg "first_new" (top 54) iE
 f_cell_at:ck K mg "_law_cell_at" (top 56) mD
 f_mixed:ck K mg "_law_mixed" (top 57) ue
 f_free:ck K mg "_law_free" (top 58) zh
 f_numbers:ck K mg "_law_numbers" (top 59) my
 f_names:ck K mg "_law_names" (top 60) ud
 f_house:ck K mg "_law_house" (top 61) uh
 f_hands:ck K mg "_law_hands" (top 62) ui
 f_saying:ck K mg "_law_saying" (top 63) pD
 f_told:ck K mg "_law_told" (top 64) zg
 f_vector:ck K mg "_law_vector" (top 65) pC
 f_what:ck K mg "_law_what" (top 66) zf
 f_act:ck K mg "_law_act" (top 67) EN
 f_log:ck K mg "_law_log" (top 68) EL
 f_kinds:ck K mg "_law_kinds" (top 69) uf
 f_refused:ck K mg "_law_refused" (top 70) mx
 f_member_told:ck K mg "_law_member_told" (top 71) eP
 f_law:ck K mg "law" (top 72) EM
 b:TopB mg B_ C_
 cl:dH K T_=a9
local macro_rules | `(tactic| walk_at"bb")=>`(tactic| first|exact Ki|exact GB|exact fg|exact Kh|exact GA|exact Kg|exact AH|exact Dc)
local macro_rules | `(tactic| walk_at"tb")=>`(tactic| exact TopB.no (by k_dflt assumption) (by kernel_rfl))
local macro_rules | `(tactic| walk_at"dvr")=>`(tactic| (repeat' (first|(with_reducible first|(refine gA ?_;first|exact IS|refine FA ?_ ?_)|exact k_var|(refine Jw ?_;first|exact k_int|exact k_bl|exact k_non|exact k_str)|(refine gCall ?_;first|refine FG ?_ ?_|refine FF ?_ ?_|refine xD (by k_dflt assumption) ?_ (by walk_at"tb") (by walk_at"tb")|refine FI ?_ (by walk_at"tb") (by walk_at"bb") ?_|refine Cm ?_ (by walk_at"tb") (by walk_at"bb") ?_|refine k_cal (by k_dflt assumption) (by k_dflt assumption) ?_|refine Jc (by k_dflt assumption) (by k_dflt assumption) ?_|refine FC (by k_dflt assumption) ?_ ?_|refine IY (by k_dflt assumption) ?_ ?_|refine IW (by k_dflt assumption) ?_ ?_|refine k_ms ?_ ?_ ?_|refine k_ml ?_ ?_ ?_|refine k_ml0 ?_ ?_)|(refine gIx ?_;first|refine FD ?_ ?_ ?_|refine IV (by k_dflt assumption) ?_ ?_ (hs:=by k_dflt (intro _ _;kernel_rfl))|refine k_ix ?_ ?_ (hs:=by k_dflt (intro _ _;kernel_rfl)))|(refine gT ?_;first|refine IE ?_ ?_ ?_|refine ID ?_|refine kw_t (Dw ?_ ?_)|refine kw_t (IB ?_ ?_)|refine IC ?_)|(refine gE ?_;first|exact Jb|exact IU|exact IX|exact IT (by walk_at"tb") (by walk_at"bb")|refine k_op ?_ ?_ ?_|refine k_not ?_|refine k_cmp ?_ ?_ ?_|refine FH ?_ ?_ ?_ ?_ ?_|refine k_one ?_|refine k_and ?_ ?_|refine k_or ?_ ?_|refine FE ?_ ?_ ?_|refine k_tup ?_|refine k_lst ?_|refine k_lcN ?_ (λ_ _ _ _=>?_) (λ_ _ _ _=>?_) (λ_ _ _ _=>?_)|refine IZ (by k_dflt assumption) (by walk_at"tb") ?_|refine Ja (by k_dflt assumption) (by walk_at"tb") (by walk_at"tb") ?_)|(refine gS ?_;first|exact wf|refine zN ?_|refine DB ?_|refine IH ?_ ?_ ?_|refine sP (by k_dflt assumption) ?_ (λ_ _ _ _=>?_) (λ_ _ _ _=>?_) (λ_ _ _ _=>?_)|refine Dz (by k_dflt assumption) ?_|refine DF ?_ ?_|refine Dy (by k_dflt assumption) (by k_dflt assumption) ?_ (λ_=>?_)|refine zM (by k_dflt assumption) ?_ ?_ ?_|refine DC ?_ ?_ ?_|refine we ?_ ?_)|(refine gOp ?_;first|exact FQ|exact ho_eq (by k_dflt assumption)|exact FP|exact ho_gt|exact ho_in (by k_dflt assumption)|exact Jn (by k_dflt assumption)|exact ho_is|exact ho_le|exact ho_lt|exact Jm|exact Jl|exact ho_ne (by k_dflt assumption)|exact Cs (by k_dflt assumption)|exact Jk|exact Jj|exact Ji)|(refine gC ?_;first|exact Jt|exact Ae (by k_dflt assumption)|exact Js|exact Jr|exact FU|exact FT|exact xE (by k_dflt assumption)|exact Cz)|exact IG|exact Fs|exact Fw|exact Fy|refine IF ?_|refine Dw ?_ ?_|refine IB ?_ ?_|refine Fm ?_|refine IA ?_|refine Fq ?_|refine Fv ?_|refine zR (by walk_at"tb") ?_|refine IJ (by walk_at"tb") ?_|refine Cg ?_|refine Ch ?_|refine II ?_|exact Fz (by k_dflt assumption)|exact IM (Iq (by kernel_rfl))|refine Ci ?_ ?_|refine IK ?_|refine IL ?_ ?_|refine Dv (by k_dflt assumption) (by k_dflt assumption) ?_|refine wc ?_ ?_ ?_ ?_ ?_|refine Iy ?_ (λ_ _ _ _=>?_) (λ_ _ _ _=>?_) (λ_ _ _ _=>?_)|refine Iz ?_ ?_ ?_|refine Du ?_|refine Dt (by k_dflt assumption) ?_|refine zJ ?_|refine sO (by k_dflt assumption) ?_|refine Iw ?_|exact Fj|refine zI ?_|refine wb ?_ ?_|exact Ac|exact Ab|exact Cu|exact Jo|exact Ct|exact Aa)|refine Fu ?_ ?_|refine Iw ?_|refine zN ?_|refine DB ?_|refine IH ?_ ?_ ?_|refine sP (by k_dflt assumption) ?_ (λ_ _ _ _=>?_) (λ_ _ _ _=>?_) (λ_ _ _ _=>?_)|refine Dz (by k_dflt assumption) ?_|refine DF ?_ ?_|refine Dy (by k_dflt assumption) (by k_dflt assumption) ?_ (λ_=>?_)|refine IZ (by k_dflt assumption) (by walk_at"tb") ?_|refine Ja (by k_dflt assumption) (by walk_at"tb") (by walk_at"tb") ?_|refine Dv (by k_dflt assumption) (by k_dflt assumption) ?_|refine wc ?_ ?_ ?_ ?_ ?_|refine Iy ?_ (λ_ _ _ _=>?_) (λ_ _ _ _=>?_) (λ_ _ _ _=>?_)|refine Iz ?_ ?_ ?_|refine Du ?_|refine Dt (by k_dflt assumption) ?_|refine zJ ?_|refine sO (by k_dflt assumption) ?_|refine zI ?_|refine wb ?_ ?_|refine zM (by k_dflt assumption) ?_ ?_ ?_|refine DC ?_ ?_ ?_|refine we ?_ ?_|exact wf)))
local macro_rules | `(tactic| walk_at"dv")=>`(tactic| (intro _ _ _ _ _ _ _ _ _ _;refine FV rfl ?_;walk_at"dvr"))
local macro_rules | `(tactic| walk_at"dvx")=>`(tactic| (intro _ _ _ _ _ _ _ _ _ _;refine FN rfl ?_;walk_at"dvr"))
section
variable{P:c5}{w:c3}{K:t8}{mg:b9->Option b7}{base:c8}
noncomputable def fK(p:b9×Int):D:=.tup [.str p.1,.int p.2]
def Hd(d:D):Prop:=∃(x:b9) (k:Int),d=.tup [.str x,.int k]
theorem FS(f:Hd a)(d:Hd b):u3 M (n+1) a b=a9↔a=b:=by obtain⟨x,k,rfl⟩:=f;obtain⟨y,l,rfl⟩:=d;show (u3 M n (.str x) (.str y)&&(u3 M n (.int k) (.int l)&&a9))=a9↔_;rw[cA,iP];simp
theorem Jp(f:Hd a):u7 M ve a=a9:=by obtain⟨x,k,rfl⟩:=f;rfl
noncomputable def oZ(hs:List (D×Int)):List D:=hs.map λp=>.tup [p.1,.int p.2]
noncomputable def fj(hs:List (D×Int))(d:D)(num:Int):Bool:=match hs.find? λp=>decide (p.1=d) with
 |some p=>decide<|num<p.2
 |none=>bt
noncomputable def PD:Nat->D->Bool
 |n+1,.tup xs=>xs.all<|PD n
 | 0,.tup _=>bt
 |_,.ref _=>bt
 |_,.ty _=>bt
 |_,_=>a9
def F4(n:Nat)(d:D):Prop:=PD n d=a9
def nH(n:Nat)(ds:List D):Prop:=ds.all (PD n)=a9
theorem F4.non:F4 n .non:=by cases n<;>rfl
theorem F4.bl(b:Bool):F4 n (.bl b):=by cases n<;>rfl
theorem F4.int(i:Int):F4 n (.int i):=by cases n<;>rfl
theorem F4.str(x:b9):F4 n (.str x):=by cases n<;>rfl
theorem nH.nil:nH n []:=rfl
theorem nH.cons(h:F4 n d)(t:nH n ds):nH n (d::ds):=by unfold nH F4 at *;rw[KT,h,t];rfl
theorem F4.tup(h:nH n ds):F4 (n+1) (.tup ds):=h
theorem nH.of(h:∀d∈ds,F4 n d):nH n ds:=F0.mpr h
theorem bA:∀(n:Nat) (d:D),F4 n d->C8 k d:=by
 intro n;induction n with
 |zero =>
  intro d h;cases d with
  |tup xs=>cases h
  |ref i=>cases h
  |ty t=>cases h
  |non=>exact .non
  |bl b=>exact .bl b
  |int i=>exact .int i
  |str x=>exact .str x
 |succ n c =>
  intro d h;cases d with
  |tup xs=>exact .tup<|Bels.of λx a=>c x<|F0.mp h x a
  |ref i=>cases h
  |ty t=>cases h
  |non=>exact .non
  |bl b=>exact .bl b
  |int i=>exact .int i
  |str x=>exact .str x
theorem qa:∀{xs:List D},(∀x∈xs,f x x=a9)->D1 f xs xs=a9
 | [],_=>rfl
 |x::xs,h=>by show (f x x&&D1 f xs xs)=a9;rw[h x (by simp),qa λy hy=>h y<|A8 _ hy];rfl
theorem vS:∀(n m:Nat) (d:D),n<=m->F4 n d->u7 M m d=a9/\u3 M m d d=a9:=by
 intro n;induction n with
 |zero =>
  intro m d _ h;cases d with
  |tup xs=>cases h
  |ref i=>cases h
  |ty t=>cases h
  |non=>exact⟨zm,by cases m<;>rfl⟩
  |bl b=>exact⟨Dp,by cases m<;>cases b<;>rfl⟩
  |int i=>exact⟨aw,by rw[iP];exact p9 i⟩
  |str x=>exact⟨aJ,by rw[cA];exact p9 x⟩
 |succ n c =>
  intro m d e h;cases m with
  |zero=>lia
  |succ m =>
   cases d with
   |tup xs=>exact⟨ET λx a=>(c m x (by lia)<|F0.mp h x a).1,qa λx a=>(c m x (by lia)<|F0.mp h x a).2⟩
   |ref i=>cases h
   |ty t=>cases h
   |non=>exact⟨zm,rfl⟩
   |bl b=>exact⟨Dp,by cases b<;>rfl⟩
   |int i=>exact⟨aw,by rw[iP];exact p9 i⟩
   |str x=>exact⟨aJ,by rw[cA];exact p9 x⟩
theorem FR(h:Hd d):F4 (n+1) d:=by obtain⟨x,i,rfl⟩:=h;exact .tup<|.cons (.str _)<|.cons (.int _) .nil
theorem Jq(h:Hd d):C8 k d:=bA 1 d<|FR h
noncomputable def Ah:D->D
 |.tup (_::h::_)=>h
 |_=>.non
noncomputable def numD:D->Int
 |.tup (_::_::.int n::_)=>n
 |_=>0
noncomputable def many(log:List D)(h:D):Nat:=(log.filter λd=>decide<|Ah d=h).length
theorem jv:bi (ji kvs k d) k=a7 d:=by
 unfold ji;split;rename_i hs;unfold bi at hs ⊢;rw[Option.isSome_map]at hs;obtain⟨q,h⟩:=Ow.mp hs;rw[OO];have e:((λp:D×D=>decide<|p.1=k) ∘ λp:D×D=>if p.1=k then(p.1,d)else p)=λp=>decide (p.1=k):=by funext p;show decide ((if p.1=k then(p.1,d)else p).1=k)=decide (p.1=k);split<;>rfl
 rw[e,h];have a:q.1=k:=by have:=MT h;exact oT_ this
 show a7 (if q.1=k then(q.1,d)else q).2=_;rw[o5 a];rename_i hs;unfold bi at hs ⊢;rw[Option.isSome_map,Option.not_isSome_iff_eq_none]at hs;rw[O5,hs];simp
theorem gi(h:j≠k):bi (ji kvs k d) j=bi kvs j:=by
 unfold ji;split;unfold bi;rw[OO];have e:((λp:D×D=>decide<|p.1=j) ∘ λp:D×D=>if p.1=k then(p.1,d)else p)=λp=>decide (p.1=j):=by funext p;show decide ((if p.1=k then(p.1,d)else p).1=j)=decide (p.1=j);split<;>rfl
 rw[e];cases f:kvs.find? λp=>decide (p.1=j) with
 |none=>rfl
 |some q =>
  have a:q.1=j:=by have:=MT f;exact oT_ this
  show a7 (if q.1=k then(q.1,d)else q).2=a7 q.2;rw[o6<|by rw[a];exact h]
 unfold bi;rw[O5];cases f:kvs.find? λp=>decide (p.1=j) with
 |none=>simp[D2 h]
 |some q=>rfl
theorem uv:∀{kvs:List (D×D)}{p:D×D},(kvs.map (·.1)).Nodup->p∈kvs->bi kvs p.1=a7 p.2
 |q::kvs,p,nd,h=>by rw[B8,KC]at nd;unfold bi;rw[K7];rcases A0.mp h with rfl|h;rw[dT_ rfl];rfl;have:q.1≠p.1:=λz=>nd.1 (by rw[z];exact Lb h);rw[dF_ this];exact uv nd.2 h
theorem eA(h:bi kvs k=a7 d):(k,d)∈kvs:=by
 unfold bi at h;obtain⟨q,a,rfl⟩:=ND.mp h;have e:q.1=k:=by have:=MT a;exact oT_ this
 rw[<-e];exact Qi a
theorem ph{α:Type}{P:List α->Prop}(a:P [])(h1:∀l x,P l->P (l++[x]))(l:List α):P l:=by
 rw[<-List.reverse_reverse l];induction l.reverse with
 |nil=>exact a
 |cons x xs i=>rw[List.reverse_cons];exact h1 _ _ i
theorem pJ(h:al M n xs)(ok:∀x∈xs,u7 (M++[MO.lst []]) 29 x=a9):(u7 (M++[MO.lst []]) ve (.ref n)=a9/\u7 (M++[MO.lst []]) ve (.ref M.length)=a9)/\u3 (M++[MO.lst []]) ve (.ref n) (.ref M.length)=xs.isEmpty:=by have h1:al (M++[MO.lst []]) n xs:=h.more _;have h2:al (M++[MO.lst []]) M.length []:=ae;refine⟨⟨pH (n:=29) h1 ok,pH (n:=29) h2 λ_ z=>nomatch z⟩,?_⟩;exact(wq (n:=29) h1 h2).trans FY
theorem zw(h:m≠n)(l:al M m xs):al (M.set n x) m xs:=by rcases l with l|l|l;exact .inl (by rw[KY<|D2 h];exact l);exact .inr (.inl<|by rw[KY<|D2 h];exact l);exact .inr<|.inr<|by rw[KY<|D2 h];exact l
theorem aM{M:t9}{m n:Nat}{x y:MO}(h:m≠n)(l:M[m]?=a7 y):(M.set n x)[m]?=a7 y:=by rw[KY<|D2 h];exact l
theorem bq{M:t9}{m:Nat}{y:MO}(l:M[m]?=a7 y):m<M.length:=(z6.mp l).1
theorem sA(l:al M m xs):m<M.length:=by rcases l with l|l|l<;>exact bq l
theorem ad{B:t9}{q:Nat}{x a:MO}(h:B[q]?=a7 x):(B++[a])[q]?=a7 x:=by rw[Ko (z6.mp h).1];exact h
theorem bU{B:t9}{q:Nat}{x a:MO}(h:B[q]?=a7 x):(B.set q a)[q]?=a7 a:=Lp (z6.mp h).1
theorem bI(p:M <+: B)(l:al M q xs):al B q xs:=by obtain⟨L,rfl⟩:=p;exact l.more L
theorem bJ{M B:t9}{q:Nat}{x:MO}(p:M <+: B)(l:M[q]?=a7 x):B[q]?=a7 x:=by obtain⟨L,rfl⟩:=p;rw[Ko<|bq l];exact l
theorem wj(xs:List Int):Bels k (xs.map D.int):=Bels.of λd h=>by obtain⟨x,_,rfl⟩:=w9.mp h;exact .int x
theorem Bi(xs:List b9):Bels k (xs.map D.str):=Bels.of λd h=>by obtain⟨x,_,rfl⟩:=w9.mp h;exact .str x
theorem bR{a b:Int}(h:0<b):0<=a % b:=Int.emod_nonneg _<|by lia
theorem cq{a b:Int}(h:0<b):a % b<b:=Int.emod_lt_of_pos _ h
theorem ip{α:Type}{xs:List α}{i:Int}(h:1<=xs.length):∃x∈xs,atI xs (i % (xs.length:Int))=a7 x:=by obtain⟨j,L,B,_⟩:=AJ (xs:=xs) (bR (a:=i) (b:=xs.length)<|by lia) (cq<|by lia);exact⟨xs[j],Ln L,B⟩
theorem cu(p:M <+: B)(h:M.length<=q):M <+: B.set q x:=by obtain⟨L,rfl⟩:=p;rw[P3 _ _ h];exact KH _ _
noncomputable def cO(p:b9×Int):List D:=(gy 0 p.2.toNat).map λk=>.tup [.str p.1,k]
noncomputable def aX(ps:List (b9×Int)):List D:=ps.flatMap cO
def PM(ps:List (b9×Int)):Prop:=ps.length<=4/\∀p∈ps,0<=p.2/\p.2<=3
theorem iO:(cO p).length=p.2.toNat:=by simp[cO,gy]
theorem oR(h:∀p∈ps,0<=p.2/\p.2<=3):(aX ps).length<=3*ps.length:=by
 induction ps with
 |nil=>simp[aX]
 |cons p ps i =>
  have:=i λq a=>h q<|A8 _ a;have h1:=h p C9;have e:(aX<|p::ps).length=p.2.toNat+(aX ps).length:=by rw[aX,List.flatMap_cons,A1,iO];rfl
  rw[e,B9];lia
theorem pX:∀d∈aX ps,Hd d:=λd a=>by unfold aX at a;obtain⟨p,_,h⟩:=List.mem_flatMap.mp a;unfold cO gy at h;simp only[E7,w9]at h;obtain⟨i,_,rfl⟩:=h;exact⟨_,_,rfl⟩
theorem xF:Bels k (aX ps):=Bels.of λd h=>Jq<|pX d h
noncomputable def iw(p:b9×List b9):D:=.tup [.str p.1,.tup<|p.2.map .str]
noncomputable def aC(ps:List (b9×Int))(rs:List (b9×List b9)):D:=.tup [.tup<|ps.map fK,.tup<|rs.map iw]
structure HouseF(ps:List (b9×Int))(rs:List (b9×List b9)):Prop where
 len:1<=ps.length/\ps.length<=4
 many:∀p∈ps,1<=p.2/\p.2<=3
 nm:∀p∈ps,p.1.length<=8
 rl:1<=rs.length/\rs.length<=4
 pnd:(ps.map (·.1)).Nodup
 rnd:(rs.map (·.1)).Nodup
 sb:∀r∈rs,r.2.Sublist (ps.map (·.1))
 rn8:∀r∈rs,r.1.length<=8
def St(d:D):Prop:=∃(t:Int) (z:b9) (k:Int),d=.tup [.int t,.tup [.str z,.int k]]
theorem St.key(h:St d):dw 8 d=a9:=by obtain⟨t,z,k,rfl⟩:=h;rfl
theorem St.ok(h:St d):u7 M ve d=a9:=by obtain⟨t,z,k,rfl⟩:=h;rfl
theorem St.pl(h:St d):F4 (n+2) d:=by obtain⟨t,z,k,rfl⟩:=h;exact .tup<|.cons (.int _)<|.cons (.tup<|.cons (.str _)<|.cons (.int _) .nil) .nil
theorem St.eq(f:St a)(d:St b):u3 M (n+2) a b=decide (a=b):=by
 obtain⟨t,z,k,rfl⟩:=f;obtain⟨t',F,H,rfl⟩:=d;have e:u3 M (n+2) (.tup [.int t,.tup [.str z,.int k]]) (.tup [.int t',.tup [.str F,.int H]])=((t==t')&&(((z==F)&&((k==H)&&a9))&&a9)):=by show (u3 M (n+1) (.int t) (.int t')&&((u3 M n (.str z) (.str F)&&(u3 M n (.int k) (.int H)&&a9))&&a9))=_;rw[iP,cA,iP]
 rw[e];by_cases h:D.tup [.int t,.tup [.str z,.int k]]=.tup [.int t',.tup [.str F,.int H]];rw[dT_ h];simp only[D.tup.injEq,OX,D.int.injEq,D.str.injEq,and_true]at h;obtain⟨rfl,rfl,rfl⟩:=h;simp;rw[dF_ h];simp only[D.tup.injEq,OX,D.int.injEq,D.str.injEq,and_true]at h;refine Ly.mpr λq=>h ?_;simpa using q
theorem St.tup(h:St d):∃ks,d=.tup ks:=by obtain⟨t,z,k,rfl⟩:=h;exact⟨_,rfl⟩
def Kj(d:D):Prop:=(∃x:b9,d=.tup [.str<|t5 "room",.str x])\/(∃x:b9,d=.tup [.str<|t5 "person",.str x])\/∃(t:Int) (z:b9) (k:Int),d=.tup [.str<|t5 "under",.tup [.int t,.tup [.str z,.int k]]]
theorem Kj.pl4(h:Kj d):F4 4 d:=by rcases h with⟨x,rfl⟩|⟨x,rfl⟩|⟨t,z,k,rfl⟩<;>rfl
def VecK(vs:List D):Prop:=∃hs:List (D×Int),vs=oZ hs/\(∀p∈hs,Hd p.1)/\hs.length<=12/\(hs.map (·.1)).Nodup
structure ActK(rs:List (b9×List b9))(x:b9)(ds:List D):Prop where
 say:x=t5 "say"->∃(r:b9) (u:D) (s:b9),ds=[.str r,u,.str s]/\r∈rs.map (·.1)/\(u=.non\/St u)
 change:x=t5 "change"->∃(m:D) (s:b9),ds=[m,.str s]/\St m
 back:x=t5 "back"->∃m:D,ds=[m]/\St m
 like:x=t5 "like"->∃(m:D) (s:b9) (b:Bool),ds=[m,.str s,.bl b]/\St m
 read:x=t5 "read"->∃(r:b9) (vs:List D),ds=[.str r,.tup vs]/\VecK vs
 seen:x=t5 "seen"->∃m:D,ds=[m]/\St m
 rung:x=t5 "rung"->∃m:D,ds=[m]/\St m
 hush:x=t5 "hush"->∃(w:D) (b:Bool),ds=[w,.bl b]/\Kj w
 lenS:x=t5 "say"->∀(r u:D) (s:b9),ds=[r,u,.str s]->s.length<=100
 lenC:x=t5 "change"->∀(m:D) (s:b9),ds=[m,.str s]->s.length<=100
section
variable{rs:List (b9×List b9)}
theorem bv{a b:b9}{P:Prop}(e:a=b)(h:(a==b)=bt:=by decide +kernel):P:=o7 e<|beq_eq_false_iff_ne.mp h
theorem ActK.mkSay(i:r∈rs.map (·.1))(g:u=.non\/St u)(l:s.length<=100):ActK rs (t5 "say") [.str r,u,.str s]:=⟨λ_=>⟨r,u,s,rfl,i,g⟩,(bv ·),(bv ·),(bv ·),(bv ·),(bv ·),(bv ·),(bv ·),λ_ _ _ _ e=>by cases e;exact l,(bv ·)⟩
theorem ActK.mkChange(h:St m)(l:s.length<=100):ActK rs (t5 "change") [m,.str s]:=⟨(bv ·),λ_=>⟨m,s,rfl,h⟩,(bv ·),(bv ·),(bv ·),(bv ·),(bv ·),(bv ·),(bv ·),λ_ _ _ e=>by cases e;exact l⟩
theorem ActK.mkBack(h:St m):ActK rs (t5 "back") [m]:=⟨(bv ·),(bv ·),λ_=>⟨m,rfl,h⟩,(bv ·),(bv ·),(bv ·),(bv ·),(bv ·),(bv ·),(bv ·)⟩
theorem ActK.mkLike(h:St m):ActK rs (t5 "like") [m,.str s,.bl b]:=⟨(bv ·),(bv ·),(bv ·),λ_=>⟨m,s,b,rfl,h⟩,(bv ·),(bv ·),(bv ·),(bv ·),(bv ·),(bv ·)⟩
theorem ActK.mkRead(h:VecK vs):ActK rs (t5 "read") [.str r,.tup vs]:=⟨(bv ·),(bv ·),(bv ·),(bv ·),λ_=>⟨r,vs,rfl,h⟩,(bv ·),(bv ·),(bv ·),(bv ·),(bv ·)⟩
theorem ActK.mkSeen(h:St m):ActK rs (t5 "seen") [m]:=⟨(bv ·),(bv ·),(bv ·),(bv ·),(bv ·),λ_=>⟨m,rfl,h⟩,(bv ·),(bv ·),(bv ·),(bv ·)⟩
theorem ActK.mkRung(h:St m):ActK rs (t5 "rung") [m]:=⟨(bv ·),(bv ·),(bv ·),(bv ·),(bv ·),(bv ·),λ_=>⟨m,rfl,h⟩,(bv ·),(bv ·),(bv ·)⟩
theorem ActK.mkHush{w:D}{b:Bool}(h:Kj w):ActK rs (t5 "hush") [w,.bl b]:=⟨(bv ·),(bv ·),(bv ·),(bv ·),(bv ·),(bv ·),(bv ·),λ_=>⟨w,b,rfl,h⟩,(bv ·),(bv ·)⟩
end
def ay(ps:List (b9×Int))(rs:List (b9×List b9))(d:D):Prop:=∃(t:Int) (z:b9) (k m:Int) (x:b9) (ds:List D),d=.tup [.int t,.tup [.str z,.int k],.int m,.tup<|.str x::ds]/\1<=t/\D.tup [.str z,.int k]∈aX ps/\nH 4 ds/\ActK rs x ds
section
variable{ps:List (b9×Int)}{rs:List (b9×List b9)}
theorem ay.pl(h:ay ps rs d):F4 6 d:=by obtain⟨t,z,k,m,x,ds,rfl,_,_,p,_⟩:=h;exact .tup<|.cons (.int _)<|.cons (FR ⟨_,_,rfl⟩)<|.cons (.int _)<|.cons (.tup<|.cons (.str _) p) .nil
theorem ay.bels(h:∀d∈ds,ay ps rs d):Bels k ds:=Bels.of λd a=>bA 6 d (h d a).pl
end
noncomputable def cH:D->b9
 |.tup [_,_,_,.tup<|.str x::_]=>x
 |_=>t5 ""
noncomputable def jP:D->b9
 |.tup (_::.tup (.str z::_)::_)=>z
 |_=>t5 ""
noncomputable def w4:D->D
 |.tup (t::h::_)=>.tup [t,h]
 |_=>.non
noncomputable def cF:D->b9
 |.tup [_,_,_,.tup<|_::.str r::_]=>r
 |_=>t5 ""
noncomputable def ir:D->D
 |.tup [_,_,_,.tup<|_::_::u::_]=>u
 |_=>.non
noncomputable def ur:D->D
 |.tup [_,_,_,.tup<|_::m::_]=>m
 |_=>.non
noncomputable def sayO:D->D
 |.tup [_,_,_,.tup<|_::_::_::s::_]=>s
 |_=>.non
noncomputable def iT(rs:List (b9×List b9))(r:b9):List b9:=((rs.find? λp=>decide<|p.1=r).map (·.2)).getD []
noncomputable def kinds(log:List D)(k:b9):List D:=log.filter λd=>decide<|cH d=k
section
variable{ps:List (b9×Int)}{rs:List (b9×List b9)}
theorem fV(h:ay ps rs d)(e:cH d=t5 "say"):∃(t:Int) (z:b9) (k num:Int) (r:b9) (u:D) (s:b9),d=.tup [.int t,.tup [.str z,.int k],.int num,.tup [.str<|t5 "say",.str r,u,.str s]]/\1<=t/\D.tup [.str z,.int k]∈aX ps/\r∈rs.map (·.1)/\(u=.non\/St u):=by obtain⟨t,z,k,num,x,ds,rfl,h1,h2,_,f⟩:=h;obtain rfl:x=t5 "say":=e;obtain⟨r,u,s,rfl,i,g⟩:=f.say rfl;exact⟨t,z,k,num,r,u,s,rfl,h1,h2,i,g⟩
theorem nv(h:ay ps rs d)(e:cH d=t5 "change"):∃(t:Int) (z:b9) (k num:Int) (m:D) (s:b9),d=.tup [.int t,.tup [.str z,.int k],.int num,.tup [.str<|t5 "change",m,.str s]]/\St m:=by obtain⟨t,z,k,num,x,ds,rfl,h1,h2,_,f⟩:=h;obtain rfl:x=t5 "change":=e;obtain⟨m,s,rfl,a⟩:=f.change rfl;exact⟨t,z,k,num,m,s,rfl,a⟩
theorem AI(h:ay ps rs d)(e:cH d=t5 "back"):∃(t:Int) (z:b9) (k num:Int) (m:D),d=.tup [.int t,.tup [.str z,.int k],.int num,.tup [.str<|t5 "back",m]]/\St m:=by obtain⟨t,z,k,num,x,ds,rfl,h1,h2,_,f⟩:=h;obtain rfl:x=t5 "back":=e;obtain⟨m,rfl,a⟩:=f.back rfl;exact⟨t,z,k,num,m,rfl,a⟩
end
section
variable{ps:List (b9×Int)}{rs:List (b9×List b9)}
theorem yT(h:ay ps rs d)(e:cH d=t5 "read"):∃(t:Int) (z:b9) (k num:Int) (r:b9) (hs:List (D×Int)),d=.tup [.int t,.tup [.str z,.int k],.int num,.tup [.str<|t5 "read",.str r,.tup<|oZ hs]]/\(∀p∈hs,Hd p.1)/\hs.length<=12:=by obtain⟨t,z,k,num,x,ds,rfl,h1,h2,_,f⟩:=h;obtain rfl:x=t5 "read":=e;obtain⟨r,vs,rfl,hs,rfl,b,g,_⟩:=f.read rfl;exact⟨t,z,k,num,r,hs,rfl,b,g⟩
theorem Ej(h:ay ps rs d)(e:cH d=t5 "seen"\/cH d=t5 "rung"):∃(t:Int) (z:b9) (k num:Int) (x:b9) (m:D),d=.tup [.int t,.tup [.str z,.int k],.int num,.tup [.str x,m]]/\St m:=by obtain⟨t,z,k,num,x,ds,rfl,h1,h2,_,f⟩:=h;obtain⟨m,rfl,a⟩:∃m:D,ds=[m]/\St m:=e.elim (λe=>f.seen e) λe=>f.rung e;exact⟨t,z,k,num,x,m,rfl,a⟩
end
section
variable{ps:List (b9×Int)}{rs:List (b9×List b9)}
theorem Ek(h:ay ps rs d)(e:cH d=t5 "say"):∃s:b9,sayO d=.str s/\s.length<=100:=by obtain⟨t,z,k,m,x,ds,rfl,h1,h2,_,f⟩:=h;obtain rfl:x=t5 "say":=e;obtain⟨r,u,s,rfl,i,g⟩:=f.say rfl;exact⟨s,rfl,f.lenS rfl _ _ _ rfl⟩
theorem xQ(h:ay ps rs d)(e:cH d=t5 "change"):∃s:b9,ir d=.str s/\s.length<=100:=by obtain⟨t,z,k,n,x,ds,rfl,h1,h2,_,f⟩:=h;obtain rfl:x=t5 "change":=e;obtain⟨m,s,rfl,a⟩:=f.change rfl;exact⟨s,rfl,f.lenC rfl _ _ rfl⟩
end
local macro_rules | `(tactic| walk_at"ifs")=>`(tactic| simp only[Do,A4,↓reduceIte,Lj,Bool.not_false])
noncomputable def vM(rs:List (b9×List b9))(kvs:List (D×D))(d:D):Bool:=decide (jP d∈iT rs (cF d))&&(decide (ir d=.non)||match bi kvs (ir d) with
 |some e=>decide<|cF e=cF d
 |none=>bt)
noncomputable def Bj(rs:List (b9×List b9))(kvs:List (D×D))(d:D):List (D×D):=if vM rs kvs d=a9 then ji kvs (w4 d) d else kvs
noncomputable def fI(rs:List (b9×List b9))(l:List D):List (D×D):=l.foldl (Bj rs) []
theorem nq:fI rs (l++[d])=Bj rs (fI rs l) d:=by unfold fI;rw[List.foldl_append];rfl
noncomputable def aG(rs:List (b9×List b9))(log:List D):List (D×D):=fI rs<|kinds log<|t5 "say"
theorem br(h:d∈kinds log k):d∈log/\cH d=k:=⟨(E6.mp h).1,oT_ (E6.mp h).2⟩
theorem bE:(kinds log k).length<=log.length:=KZ _ _
structure TabK(l:List D)(kvs:List (D×D)):Prop where
 nd:(kvs.map (·.1)).Nodup
 en:∀p∈kvs,p.1=w4 p.2/\p.2∈l
 len:kvs.length<=l.length
theorem vR(h:p∈ji kvs k d):p=(k,d)\/p∈kvs:=by unfold ji at h;split at h;obtain⟨q,a,rfl⟩:=w9.mp h;split;rename_i e;rw[e];exact .inl rfl;exact .inr a;rcases F3.mp h with h|h;exact .inr h;exact .inl<|by simpa using h
theorem Et:(ji kvs k d).length<=kvs.length+1:=by unfold ji;split;rw[u8];lia;simp
theorem oU(l:List D):TabK l (fI rs l):=by
 refine ph (P:=λl=>TabK l<|fI rs l) ⟨.nil,(λ_ z=>nomatch z),u6 _⟩ (λl d i=>?_) l;rw[nq];unfold Bj;have hs:∀p∈fI rs l,p.1=w4 p.2/\p.2∈l++[d]:=λp h=>⟨(i.en p h).1,Ld _ (i.en p h).2⟩
 have g:=i.len;split;refine⟨pq i.nd,λp h=>?_,?_⟩;rcases vR h with rfl|h;exact⟨rfl,by simp⟩;exact hs p h;have:=Et (kvs:=fI rs l) (k:=w4 d) (d:=d);rw[A1,F8];lia;exact⟨i.nd,hs,by rw[A1,F8];lia⟩
theorem cW:TabK (kinds log<|t5 "say") (aG rs log):=oU _
noncomputable def KQ(kvs:List (D×D))(d:D):Bool:=match bi kvs (ur d) with
 |some e=>decide<|jP d=jP e
 |none=>bt
def NY(d:D):Prop:=∃(a:D) (z:b9) (r l:List D),d=.tup (a::.tup (.str z::r)::l)
section
variable{ps:List (b9×Int)}{rs:List (b9×List b9)}
theorem ay.nm(h:ay ps rs d):NY d:=by obtain⟨t,z,k,m,x,ds,rfl,_⟩:=h;exact⟨_,_,_,_,rfl⟩
theorem ay.st(h:ay ps rs d):St (w4 d):=by obtain⟨t,z,k,m,x,ds,rfl,_⟩:=h;exact⟨_,_,_,rfl⟩
theorem St.cm(f:St a)(d:St b):kz M ve a b=a9:=by
 obtain⟨t,z,k,rfl⟩:=f;obtain⟨t',F,H,rfl⟩:=d;show (if u3 M 29 (.int t) (.int t')=a9 then(if u3 M 29 (.tup [.str z,.int k]) (.tup [.str F,.int H])=a9 then a9 else(if u3 M 28 (.str z) (.str F)=a9 then(if u3 M 28 (.int k) (.int H)=a9 then a9 else a9)else a9))else a9)=a9
 repeat' split
 all_goals rfl
theorem Ed(h:∀x∈xs,St x)(l:xs.length<64):SrtOk M xs:=by refine⟨l,λx a=>?_,λx a y O=>(h x a).cm<|h y O,.inr<|.inr<|.inr<|.inl λx a=>?_⟩;obtain⟨t,z,k,rfl⟩:=h x a;rfl;obtain⟨t,z,k,rfl⟩:=h x a;exact⟨_,_,rfl⟩
end
def cf(kvs:List (D×D))(log:List D)(k:D):Prop:=∃d∈kinds log (t5 "back"),KQ kvs d=a9/\ur d=k
theorem Br(h:k∉kvs.map (·.1)):ji kvs k d=kvs++[(k,d)]:=by unfold ji;rw[o6];intro z;obtain⟨e,i⟩:=Ow.mp z;exact h (Lb (f:=(·.1))<|eA i)
theorem sW(ps:List (D×D))(h:(ps.map (·.1)).Nodup):dictOf ps=ps:=by revert h;refine ph (P:=λps=>(ps.map (·.1)).Nodup->dictOf ps=ps) (λ_=>rfl) (λps p i h=>?_) ps;rw[Kr]at h;have h':=O6.mp h;rw[eZ,i h'.1,Br];intro z;exact h'.2.2 _ z _ (by simp) rfl
theorem mX{M:t9}{x:b9}{l:List b9}:LD M (.str x) (l.map .str)=decide (x∈l):=by unfold LD;rw[List.any_map];by_cases h:x∈l;rw[dT_ h];exact Lx.mpr ⟨x,h,by show u3 M ve (.str x) (.str x)=a9;rw[cA];exact p9 x⟩;rw[dF_ h];refine Ly.mpr λz=>?_;obtain⟨y,O,e⟩:=Lx.mp z;have a:u3 M ve (.str y) (.str x)=a9:=e;rw[cA]at a;exact h<|eq_of_beq a ▸ O
theorem lV{M:t9}{l:List b9}:(l.map D.str).all (u7 M ve)=a9:=F0.mpr λx h=>by obtain⟨y,_,rfl⟩:=w9.mp h;exact aJ
noncomputable def aB(rs:List (b9×List b9))(log:List D):List (D×D):=(aG rs log).filter λp=>@decide (¬cf (aG rs log) log p.1)<|J2 _
theorem rU:p∈aB rs log↔p∈aG rs log/\¬cf (aG rs log) log p.1:=by unfold aB;rw[List.mem_filter];exact and_congr Iff.rfl<|@decide_eq_true_iff _<|J2 _
theorem vO:((aB rs log).map (·.1)).Nodup:=(Ph.map _).nodup cW.nd
noncomputable def az(kvs:List (D×D))(log:List D):List (D×D):=dictOf<|((kinds log<|t5 "change").filter<|KQ kvs).map λd=>(ur d,ir d)
noncomputable def mL(ch:List (D×D))(d:D):D:=.tup [w4 d,.str<|cF d,ir d,.str<|jP d,(bi ch<|w4 d).getD<|sayO d,.bl (bi ch<|w4 d).isSome]
structure BackL(rs:List (b9×List b9))(log:List D)(ys:List D):Prop where
 st:∀x∈ys,St x
 mem:∀x,x∈ys↔cf (aG rs log) log x
 nd:ys.Nodup
 up:ys.Pairwise λa b=>¬E2 ve b<E2 ve a
inductive PK(rs:List (b9×List b9))(l:List D):D->Prop
 |top {d:D} (h:d∈l) (m:jP d∈iT rs (cF d)) (u:ir d=.non):PK rs l d
 |sub {d e:D} (h:d∈l) (m:jP d∈iT rs (cF d)) (s:PK rs l e) (u:ir d=w4 e) (o:E2 ve (w4 e)<E2 ve (w4 d)) (r:cF e=cF d):PK rs l d
theorem ye:gU (qq kvs k d) k=a7 d:=by
 unfold qq;split;rename_i hs;obtain⟨p,h,e⟩:=Lx.mp hs;unfold gU;rw[OO];have l:((λp:b9×D=>decide<|p.1=k) ∘ λp:b9×D=>if p.1=k then(p.1,d)else p)=λp=>decide (p.1=k):=by funext p;show decide ((if p.1=k then(p.1,d)else p).1=k)=decide (p.1=k);split<;>rfl
 rw[l];cases f:kvs.find? λp=>decide (p.1=k) with
 |none=>exact o7 e<|by simpa using List.find?_eq_none.mp f p h
 |some q =>
  have a:q.1=k:=by have:=MT f;exact oT_ this
  show a7 (if q.1=k then(q.1,d)else q).2=_;rw[o5 a]
 rename_i hs;unfold gU;have:kvs.find? (λp=>decide<|p.1=k)=a8:=List.find?_eq_none.mpr λp h z=>hs<|Lx.mpr ⟨p,h,z⟩;rw[O5,this];simp
theorem wS(h:j≠k):gU (qq kvs k d) j=gU kvs j:=by
 unfold qq;split;unfold gU;rw[OO];have e:((λp:b9×D=>decide<|p.1=j) ∘ λp:b9×D=>if p.1=k then(p.1,d)else p)=λp=>decide (p.1=j):=by funext p;show decide ((if p.1=k then(p.1,d)else p).1=j)=decide (p.1=j);split<;>rfl
 rw[e];cases f:kvs.find? λp=>decide (p.1=j) with
 |none=>rfl
 |some q =>
  have a:q.1=j:=by have:=MT f;exact oT_ this
  show a7 (if q.1=k then(q.1,d)else q).2=a7 q.2;rw[o6<|by rw[a];exact h]
 unfold gU;rw[O5];cases f:kvs.find? λp=>decide (p.1=j) with
 |none=>simp[D2 h]
 |some q=>rfl
noncomputable def kC(log:List D)(k name:b9):List D:=(kinds log k).filter λd=>decide<|jP d=name
theorem mM(h:d∈kC log k name):d∈log/\cH d=k/\jP d=name:=⟨(br (E6.mp h).1).1,(br (E6.mp h).1).2,oT_ (E6.mp h).2⟩
theorem mO:(kC log k name).length<=log.length:=J4 (KZ _ _) bE
noncomputable def kB(log:List D)(k name:b9):List D:=(kC log k name).map ur
noncomputable def Ql:D->D×Int
 |.tup [h,.int c]=>(h,c)
 |_=>(.non,0)
noncomputable def GE:D->List (D×Int)
 |.tup vs=>vs.map Ql
 |_=>[]
theorem AY:GE (.tup<|oZ hs)=hs:=by show (oZ hs).map Ql=hs;unfold oZ;rw[E7];exact MN _
noncomputable def qE(log:List D)(name r:b9):List D:=((kC log (t5 "read") name).filter λd=>decide<|cF d=r).map ir
structure VbAt(B:t9)(n:Nat)(tab:List (b9×D))(f:b9->List D):Prop where
 at_:B[n]?=a7 (.dct tab)
 got:∀k d,gU tab k=a7 d->∃m,d=.ref m/\n+1<m/\B[m]?=a7 (.lst<|f k)
 no:∀k,gU tab k=a8->f k=[]
 one:∀k k' m,gU tab k=a7 (.ref m)->gU tab k'=a7 (.ref m)->k=k'
theorem VbAt.pre(h:VbAt B n tab f)(p:B <+: B'):VbAt B' n tab f:=⟨bJ p h.at_,λk d a=>let ⟨m,e,l,g⟩:=h.got k d a;⟨m,e,l,bJ p g⟩,h.no,h.one⟩
theorem VbAt.kids(h:VbAt B n tab f)(a:B[q0]?=a7 (.lst [])):∃q,(gU tab k).getD (.ref q0)=.ref q/\B[q]?=a7 (.lst<|f k):=by
 cases e:gU tab k with
 |none=>exact⟨q0,rfl,by rw[h.no k e];exact a⟩
 |some d=>obtain⟨m,rfl,_,g⟩:=h.got k d e;exact⟨m,rfl,g⟩
noncomputable def pk(log:List D)(name:b9)(e:D):Bool:=decide (jP e=name)||(decide (w4 e∈kB log (t5 "seen") name)||(qE log name<|cF e).any λv=>fj (GE v) (Ah e)<|numD e)
noncomputable def begB(y n:b9):Bool:=OS y n && !(!jD (Kv y (a7 (n.length:Int))<|a7<|(n.length:Int)+1) "a" && !jD "z" (Kv y (a7 (n.length:Int))<|a7<|(n.length:Int)+1))
noncomputable def eG(s:D)(name:b9):Bool:=match s with
 |.str x=>((Kq x<|t5 "@").drop 1).any λy=>begB y name
 |_=>bt
noncomputable def AR(rs:List (b9×List b9))(log:List D)(e:D):D:=(bi (az (aB rs log) log)<|w4 e).getD<|sayO e
noncomputable def dP(rs:List (b9×List b9))(log:List D)(name:b9):List D:=((aB rs log).map (·.2)).filter λe=>!pk log name e
noncomputable def aK(r:b9)(es:List D)(k:D):List D:=(es.filter λe=>decide (cF e=r)&&decide (ir e=k)).map w4
theorem zP:aK r (es++[e]) k=if cF e=r/\ir e=k then aK r es k++[w4 e]else aK r es k:=by unfold aK;rw[Pd,Kr,Nw,List.filter_nil];by_cases h:cF e=r/\ir e=k;rw[o5 h,dT_ h.1,dT_ h.2];rfl;rw[o6 h,o6];simp;intro z;have:=(D6 _ _).mp z;exact h ⟨oT_ this.1,oT_ this.2⟩
structure TreeAt(B:t9)(n:Nat)(tab:List (D×D))(f:D->List D):Prop where
 at_:B[n]?=a7 (.dkm tab)
 got:∀k d,bi tab k=a7 d->∃m,d=.ref m/\n<m/\B[m]?=a7 (.lst<|f k)
 no:∀k,bi tab k=a8->f k=[]
 one:∀k k' m,bi tab k=a7 (.ref m)->bi tab k'=a7 (.ref m)->k=k'
noncomputable def cS(n:Int)(xs:List D):List D:=xs.reverse.map λx=>.tup [.int n,x]
inductive RunW(f:D->List D):List D->List D->List D->Prop
 |done {rows:List D}:RunW f rows [] rows
 |step {rows todo out:List D}{n:Int}{x:D} (h:RunW f (rows++[.tup [.int n,x]]) (todo++cS (n+1) (f x)) out):RunW f rows (todo++[.tup [.int n,x]]) out
theorem RunW.uni(h:RunW f rows todo out)(h':RunW f rows todo out'):out=out':=by
 induction h generalizing out' with
 |done =>
  generalize e:([]:List D)=t at h';cases h' with
  |done=>rfl
  |step h=>simp at e
 |@step rows todo out n x h i =>
  generalize e:todo++[.tup [.int n,x]]=t at h';cases h' with
  |done=>simp at e
  |@step _ a _ o b h2=>obtain⟨rfl,l⟩:=List.append_inj' e rfl;injection l with l;injection l with l;injection l with e3 e4;injection e3 with e3;injection e4 with e4;subst e3 e4;exact i h2
noncomputable def fJ:D->D
 |.tup [_,s]=>s
 |_=>.non
structure TreeW(r:b9)(es rows todo:List D):Prop where
 nd:((rows++todo).map fJ).Nodup
 ok:∀x∈rows++todo,∃(k:Int) (e:D),x=.tup [.int k,w4 e]/\e∈es/\cF e=r/\(ir e=.non\/ir e∈rows.map fJ)
theorem kO:x∈aK r es k↔∃e∈es,w4 e=x/\cF e=r/\ir e=k:=by unfold aK;rw[w9];constructor;rintro⟨e,he,rfl⟩;have h1:=E6.mp he;have h2:=(D6 _ _).mp h1.2;exact⟨e,h1.1,rfl,oT_ h2.1,oT_ h2.2⟩;rintro⟨e,he,rfl,h1,h2⟩;exact⟨e,E6.mpr ⟨he,by rw[dT_ h1,dT_ h2];rfl⟩,rfl⟩
theorem rV:x∈cS n xs↔∃s∈xs,x=.tup [.int n,s]:=by unfold cS;rw[w9];refine⟨λ⟨s,h,e⟩=>⟨s,List.mem_reverse.mp h,e.symm⟩,?_⟩;rintro⟨s,h,e⟩;exact⟨s,List.mem_reverse.mpr h,e.symm⟩
theorem lZ:(cS n xs).map fJ=xs.reverse:=by unfold cS;rw[E7];exact MN _
section
variable{r:b9}{es rows todo:List D}
theorem zQ(h:(es.map w4).Nodup)(k:D):(aK r es k).Nodup:=(Ph.map _).nodup h
theorem Ee(h:(es.map w4).Nodup)(f:a∈es)(d:b∈es)(e:w4 a=w4 b):a=b:=by
 induction es with
 |nil=>cases f
 |cons x es i =>
  rw[B8,KC]at h;rcases A0.mp f with f|f<;>rcases A0.mp d with d|d
  rw[f,d];rw[f]at e;exact o7 (e ▸ Lb d) h.1;rw[d]at e;exact o7 (e ▸ Lb f) h.1;exact i h.2 f d
theorem TreeW.start(h:(es.map w4).Nodup):TreeW r es [] (cS 0<|aK r es .non):=by refine⟨?_,λx a=>?_⟩;rw[Fn,lZ];exact(List.reverse_perm _).nodup_iff.mpr<|zQ h _;obtain⟨s,hs,rfl⟩:=rV.mp a;obtain⟨e,i,rfl,h1,h2⟩:=kO.mp hs;exact⟨0,e,rfl,i,h1,.inl h2⟩
theorem TreeW.step(h:(es.map w4).Nodup)(S:∀e∈es,w4 e≠.non)(w:TreeW r es rows (todo++[.tup [.int k,s]])):TreeW r es (rows++[.tup [.int k,s]]) (todo++cS (k+1) (aK r es s)):=by
 obtain⟨L,l,A,j,_⟩:=w.ok (.tup [.int k,s]) (by simp);have d:s=w4 l:=by injection A with q;injection q with _ q;injection q
 have F:s≠.non:=by rw[d];exact S l j
 have K:=w.nd;have I:s∉rows.map fJ:=λz=>by rw[Kr]at K;have:=(O6.mp K).2.2 s z s (by rw[Kr];exact F9 _<|by simp[fJ]);exact this rfl
 refine⟨?_,λx c=>?_⟩;have p:(rows++[D.tup [.int k,s]]++(todo++cS (k+1) (aK r es s))).Perm (rows++(todo++[D.tup [.int k,s]])++cS (k+1) (aK r es s)):=by rw[G5,G5];refine List.Perm.append_left _ ?_;rw[<-G5];exact List.Perm.append_right _ List.perm_append_comm
 rw[(p.map fJ).nodup_iff,Kr,O6];refine⟨K,by rw[lZ];exact(List.reverse_perm _).nodup_iff.mpr<|zQ h _,λa v b m e=>?_⟩;subst e;rw[lZ,List.mem_reverse]at m;obtain⟨e,i,o,_,M⟩:=kO.mp m;obtain⟨x,c,u⟩:=w9.mp v;obtain⟨H,n,rfl,f,_,t⟩:=w.ok x c;have:n=e:=Ee h f i<|u.trans o.symm;subst this;rcases t with t|t;exact F<|M.symm.trans t;exact I<|M ▸ t;have J:∀y,y∈rows.map fJ->y∈(rows++[D.tup [.int k,s]]).map fJ:=λy O=>by rw[Kr];exact Ld _ O
 have g:∀x,x∈rows++(todo++[D.tup [.int k,s]])->∃(H:Int) (e:D),x=.tup [.int H,w4 e]/\e∈es/\cF e=r/\(ir e=.non\/ir e∈(rows++[D.tup [.int k,s]]).map fJ):=λx c=>by obtain⟨H,e,B,C,E,G⟩:=w.ok x c;exact⟨H,e,B,C,E,G.imp_right<|J _⟩
 rcases F3.mp c with c|c;rcases F3.mp c with c|c;exact g x<|Ld _ c;exact g x<|F9 _<|F9 _ c;rcases F3.mp c with c|c;exact g x<|F9 _<|Ld _ c;obtain⟨y,O,rfl⟩:=rV.mp c;obtain⟨e,i,rfl,h1,h2⟩:=kO.mp O;exact⟨k+1,e,rfl,i,h1,.inr<|by rw[h2,Kr];exact F9 _<|by simp[fJ]⟩
theorem zo{l l':List D}(p:l.Nodup)(h:∀x∈l,x∈l'):l.length<=l'.length:=by
 induction l generalizing l' with
 |nil=>exact z5 _
 |cons x l i =>
  obtain⟨n,o⟩:=KC.mp p;obtain⟨s,t,rfl⟩:=List.append_of_mem (h x<|by simp);have:=i (l':=s++t) o λy O=>by have:=h y<|A8 _ O;rcases F3.mp this with q|q;exact Ld _ q;rcases A0.mp q with rfl|q;exact o7 O n;exact F9 _ q
  rw[A1]at this;rw[A1,B9,B9];lia
theorem TreeW.len(w:TreeW r es rows todo):rows.length+todo.length<=es.length:=by
 have:=zo w.nd (l':=es.map w4) λx h=>by obtain⟨y,O,rfl⟩:=w9.mp h;obtain⟨k,e,rfl,i,_⟩:=w.ok y O;exact Lb i
 rw[u8,u8,A1]at this;exact this
theorem Cf:(aK r es k).length<=es.length:=by unfold aK;rw[u8];exact KZ _ _
end
theorem TreeAt.pre(h:TreeAt B n tab f)(p:B <+: B'):TreeAt B' n tab f:=⟨bJ p h.at_,λk d a=>let ⟨m,e,l,g⟩:=h.got k d a;⟨m,e,l,bJ p g⟩,h.no,h.one⟩
theorem TreeAt.kids(h:TreeAt B n tab f)(a:B[q0]?=a7 (.lst [])):∃q,(bi tab k).getD (.ref q0)=.ref q/\B[q]?=a7 (.lst<|f k):=by
 cases e:bi tab k with
 |none=>exact⟨q0,rfl,by rw[h.no k e];exact a⟩
 |some d=>obtain⟨m,rfl,_,g⟩:=h.got k d e;exact⟨m,rfl,g⟩
noncomputable def Mj:D->Int
 |.tup [.int k,_]=>k
 |_=>0
structure DepI(u:D->D)(rows todo:List D):Prop where
 to:∀T1 t T2,todo=T1++t::T2->∀A p B,rows=A++p::B->u (fJ t)=fJ p->Mj t=Mj p+1/\∀b∈B++T2,Mj t<=Mj b
 old:∀A p B x C,rows=A++p::(B++x::C)->u (fJ x)=fJ p->Mj x=Mj p+1/\∀b∈B,Mj x<=Mj b
noncomputable def NO:D->D
 |.tup (x::_)=>x
 |d=>d
noncomputable def outR(rs:List (b9×List b9))(log:List D)(r:b9):List D:=Classical.epsilon λout=>RunW (aK r ((aG rs log).map (·.2))) [] (cS 0 (aK r ((aG rs log).map (·.2)) .non)) out
theorem RunW.out{rs:List (b9×List b9)}{log out:List D}{r:b9}(h:RunW (aK r ((aG rs log).map (·.2))) [] (cS 0 (aK r ((aG rs log).map (·.2)) .non)) out):out=outR rs log r:=h.uni (Classical.epsilon_spec (p:=λout=>RunW (aK r ((aG rs log).map (·.2))) [] (cS 0 (aK r ((aG rs log).map (·.2)) .non)) out) ⟨out,h⟩)
noncomputable def Dr(rs:List (b9×List b9))(log:List D)(name:b9)(s:D):Option D:=(bi (aB rs log) s).filter λe=>!pk log name e
noncomputable def ik(rs:List (b9×List b9))(log:List D)(name r:b9):List D:=(outR rs log r).filterMap λx=>Dr rs log name<|fJ x
theorem zp(h:Dr rs log name s=a7 e):bi (aB rs log) s=a7 e/\pk log name e=bt:=by obtain⟨h1,h2⟩:=Option.filter_eq_some_iff.mp h;exact⟨h1,by simpa using h2⟩
theorem vW(h:e∈ik rs log name r):∃s,s∈(outR rs log r).map fJ/\bi (aB rs log) s=a7 e/\pk log name e=bt:=by obtain⟨x,a,t⟩:=M8.mp h;exact⟨_,Lb a,zp t⟩
noncomputable def tN(rs:List (b9×List b9))(log:List D)(name:b9):List (D×D):=(dP rs log name).map λe=>(w4 e,mL (az (aB rs log) log) e)
theorem xG(m:∀q∈T,q.1=w4 q.2)(n:(T.map (·.1)).Nodup):bi (((T.map (·.2)).filter p).map λe=>(w4 e,f e)) s=((bi T s).filter p).map f:=by
 induction T with
 |nil=>rfl
 |cons q T i =>
  rw[B8,KC]at n;have e:=m q C9;have i:=i (λq b=>m q<|A8 _ b) n.2;have g1:∀{k d:D}{L:List (D×D)},bi ((k,d)::L) s=if k=s then a7 d else bi L s:=λ{k d L}=>by unfold bi;rw[K7];by_cases h:k=s;rw[dT_ h,o5 h];rfl;rw[dF_ h,o6 h]
  obtain⟨k,d⟩:=q;dsimp only at e;subst e;rw[g1,B8,Nw];by_cases hs:w4 d=s;rw[o5 hs];have o:bi T s=a8:=by
   cases S:bi T s with
   |none=>rfl
   |some v=>exact o7 (hs ▸ Lb (f:=(·.1)) (eA S)) n.1
  rw[o]at i;cases a:p d with
  |true=>rw[o5 rfl,B8,g1,o5 hs];show _=Option.map f (if p d=a9 then a7 d else a8);rw[a];rfl
  |false=>rw[o6 (by simp),i];show _=Option.map f (if p d=a9 then a7 d else a8);rw[a];rfl
  rw[o6 hs];cases a:p d with
  |true=>rw[o5 rfl,B8,g1,o6 hs,i]
  |false=>rw[o6 (by simp),i]
structure LogS(ps:List (b9×Int))(rs:List (b9×List b9))(log:List D):Prop where
 dk:∀d∈log,ay ps rs d
 up:log.Pairwise λa b=>E2 ve (w4 a)<E2 ve (w4 b)
 len:log.length<=60
noncomputable def pW(x:b9):Bool:=!jD x "a" && !jD "z" x
def dL:x5:=λds M R=>∃x:b9,ds=[.str x]/\R (.bl<|pW x) M
theorem pQ:cZ dL iC:=by rintro ds M R ⟨x,rfl,_⟩;rfl
def lN:t7:=bn<|tj Nd Nd (dC<|.str "a") (ac 0)<|dC<|.str "z"
theorem qA:A5 dL 1 lN:=by
 rintro ds M R ⟨x,rfl,h⟩;unfold lN;walk_at"dl";unfold pW at h;cases e:jD x "a" with
 |true=>rw[e]at h;exact dz<|aQ.now h
 |false=>rw[e]at h;exact dB<|aQ.now h
theorem sj(T:Tops P w K mg base):v4 P w K mg base 1 "is_letter" iC dL:=v4.byD (N:=["sign"]) T.b T.f_is_letter (by walk_at"sc") pQ (by walk_at"dv") qA
noncomputable def ny(t n:b9):Bool:=OS t n && !pW (Kv t (a7 (n.length:Int))<|a7<|(n.length:Int)+1)
def bh:x5:=λds M R=>∃t n:b9,ds=[.str t,.str n]/\t.length<=100/\n.length<=100/\R (.bl<|ny t n) M
theorem gW:cZ bh bQ:=by rintro ds M R ⟨t,n,rfl,_⟩;rfl
def cP:t7:=bn<|tq (Nh md (ac 0)<|aa (ac 1) ag)<|CV<|u5 dL<|aa (ac 2) ag
def dF:t7:=ax (aT (LS (ac 0) (nj<|u5 jH<|aa (ac 1) ag)<|nj<|tx aA (u5 jH<|aa (ac 1) ag)<|dC<|.int 1) 2)<|cP
theorem iq:A5 bh 3 dF:=by
 rintro ds M R ⟨t,n,rfl,D,f,h⟩;simp only[dF,cP];walk_at"dl";refine⟨ah (by lia),ah (by lia),ah (by lia),?_⟩;unfold ny at h;cases e:OS t n with
 |false=>rw[e]at h;exact dz<|aQ.now h
 |true=>rw[e]at h;exact dB ⟨_,rfl,aQ.now h⟩
theorem iH(T:Tops P w K mg base):v4 P w K mg base 2 "begins_with_name" bQ bh:=v4.byD (N:=["text","name","behind"]) T.b T.f_begins_with_name (by walk_at"sc") gW (by have:=sj T;walk_at"dv") iq
def fi:x5:=λds M R=>∃s n:b9,ds=[.str s,.str n]/\s.length<=100/\n.length<=100/\R (.bl<|eG (.str s) n) M
theorem sL:cZ fi jK:=by rintro ds M R ⟨t,n,rfl,_⟩;rfl
theorem yQ(x y:b9):(Kq x y).length<=x.length+2:=by unfold Kq;split;simp;split;simp;rw[length_partsBetween];have:=StrLaws.occ_length_le x y 0 x.length<|x.length+1;lia
theorem cut1:cutD xs (a7 1) a8=xs.drop 1:=by unfold cutD;rw[HT.sIx_none,show (1:Int)=((1:Nat):Int)from rfl,HT.sIx_nat];by_cases h:1<=xs.length;rw[Nat.min_eq_left h,NC<|by rw[KD];exact u6 _];have:xs=[]:=List.eq_nil_of_length_eq_zero (by lia);subst this;rfl
def oB:t7:=bn<|u5 GJ<|aa (E8 1 [1] (bN<|LS (Nh rZ (ac 0)<|aa (dC<|.str "@") ag) (nj<|dC<|.int 1) iR) (am 0) nF<|u5 bh<|aa (ac 0)<|aa (ac 1) ag) ag
theorem tR:A5 fi 2 oB:=by
 rintro ds M R ⟨s,n,rfl,hs,l,h⟩;simp only[oB];walk_at"dl";have m:=yQ s<|t5 "@";refine⟨⟨by decide,ah (by lia),ah<|by lia⟩,_,ae,_,ae,λ_=>?_⟩;rw[cut1];refine aU (λd=>match d with|.str y=>.bl (ny y n)|_=>.non) (λS=>∃a,S=[a,a7<|.str n]) ae _ _ _ (λx b S ⟨a,c⟩=>?_) ⟨_,rfl⟩ ?_ ?_;rw[<-N7]at b;obtain⟨y,O,rfl⟩:=w9.mp b;subst c;refine⟨[a7<|.str y,a7<|.str n],⟨_,rfl⟩,λY e=>?_⟩;walk_at"dl";refine⟨y,n,rfl,?_,l,e⟩;obtain⟨k,i,j,_,_,rfl⟩:=(wX s 64 (by decide) y).mp O;rw[bT,StrLaws.strSub_toList,Kt,KD,<-bT];lia;rw[D3,KD,u8];exact ah (by lia);refine⟨((Kq s<|t5 "@").drop 1).map (ny · n),?_,?_⟩;have:([]++((List.map D.str<|Kq s<|t5 "@").drop 1).map λd=>match d with|.str y=>D.bl (ny y n)|_=>.non)=bls (((Kq s<|t5 "@").drop 1).map (ny · n)):=by rw[Fn,<-N7,E7];unfold bls;rw[E7];rfl
 rw[this];exact ae;have:(((Kq s<|t5 "@").drop 1).map (ny · n)).any id=eG (.str s) n:=by rw[List.any_map];rfl
 rw[this];exact aQ.bl h<|by rw[G5,G5];exact KH _ _
theorem uk(T:Tops P w K mg base):v4 P w K mg base 3 "is_named" jK fi:=v4.byD (N:=["saying","name"]) T.b T.f_is_named (by walk_at"sc") sL (by have:=iH T;walk_at"dv") tR
noncomputable def fH:D->D
 |.tup (a::_)=>a
 |_=>.non
def dN:x5:=λds M R=>∃xs:List D,ds=[.tup xs]/\(∀x∈xs,∃a r,x=.tup (a::r))/\R (.ref M.length) (M++[.lst<|xs.map fH])
theorem pR:cZ dN iD:=by rintro ds M R ⟨xs,rfl,_⟩;rfl
def lQ:t7:=bn<|E8 1 [] (bN<|ac 0) (am 0) nF<|tx v7 (ac 0)<|dC<|.int 0
theorem qB:A5 dN 1 lQ:=by rintro ds M R ⟨xs,rfl,x,h⟩;simp only[lQ];walk_at"dl";intro g;refine aU fH (λS=>∃a,S=[a]) trivial _ _ _ ?_ ⟨_,rfl⟩ ?_ ?_;rintro y O S ⟨a,rfl⟩;obtain⟨b,r,rfl⟩:=x y O;refine⟨[a7<|.tup<|b::r],⟨_,rfl⟩,λY D=>?_⟩;walk_at"dl";exact D;simpa using g;exact .inl h
theorem sk(T:Tops P w K mg base):v4 P w K mg base 1 "firsts_of" iD dN:=v4.byD (N:=["pairs"]) T.b T.f_firsts_of (by walk_at"sc") pR (by walk_at"dv") qB
def gP:x5:=λds M R=>∃(ps:List (b9×Int)) (a:List (b9×List b9)) (r:b9),ds=[aC ps a,.str r]/\r∈a.map (·.1)/\R (.bl a9) M
theorem uF:cZ gP mB:=by rintro ds M R ⟨ps,a,r,rfl,_⟩;rfl
def rq:t7:=bn<|tx Nf (ac 1)<|u5 dN<|aa (tx v7 (ac 0)<|dC<|.int 1) ag
theorem wM:A5 gP 2 rq:=by
 rintro ds M R ⟨ps,a,r,rfl,i,h⟩;simp only[rq,aC];walk_at"dl";refine⟨_,rfl,λx b=>?_,?_⟩;obtain⟨p,_,rfl⟩:=w9.mp b;exact⟨_,_,rfl⟩;have e:(a.map iw).map fH=(a.map (·.1)).map .str:=by rw[E7,E7];rfl
 rw[e];refine⟨_,ae,⟨aJ,lV⟩,?_⟩;rw[mX,dT_ i];exact aQ.bl h aY
theorem xk(T:Tops P w K mg base):v4 P w K mg base 2 "is_room" mB gP:=v4.byD (N:=["house","thing"]) T.b T.f_is_room (by walk_at"sc") uF (by have:=sk T;walk_at"dv") wM
def bY:xV:=λds M R RX=>∃(ps:List (b9×Int)) (a:List (b9×List b9)) (r:b9),ds=[aC ps a,.str r]/\(r∉a.map (·.1)->RX (t5 "NoRoom") M)/\(r∈a.map (·.1)->R (.tup<|(iT a r).map .str) M)
theorem nR:GO bY gc:=by rintro ds M R RX ⟨ps,a,r,rfl,_⟩;rfl
theorem sy:iT (p::rs) r=if p.1=r then p.2 else iT rs r:=by unfold iT;rw[K7];by_cases h:p.1=r;rw[dT_ h,o5 h];rfl;rw[dF_ h,o6 h]
def ic:D8:=qu "NoRoom"<|aa (dC<|.str "there is no such room in the house") ag
def kb:D8:=GD (Mh<|nG (bN<|tx v7 (ac 0)<|dC<|.int 1) (ng 2<|bV (am 2)<|bV (am 3) nh)<|B6 (aE<|tx C5 (ac 2)<|ac 1) (bn<|ac 3) bj)<|ic
theorem oX:NS bY 4 kb:=by
 rintro ds M R RX ⟨ps,s,r,rfl,X,h⟩;simp only[kb,aC];walk_at"dl";intro _;refine jx (λys S c=>∃qs a b,ys=qs.map iw/\c=M/\S=[a7<|aC ps s,a7<|.str r,a,b]/\iT s r=iT qs r/\(r∈s.map (·.1)↔r∈qs.map (·.1))) ?_ ?_ _ _ _ ⟨s,_,_,rfl,rfl,rfl,rfl,Iff.rfl⟩;rintro S c ⟨qs,a,b,q,rfl,rfl,e,d⟩;have:qs=[]:=by cases qs<;>simp_all
 subst this;refine⟨trivial,?_⟩;simp only[ic];walk_at"dl";exact⟨ah (by decide),.inl<|X λz=>nomatch d.mp z⟩;rintro x xs S c ⟨qs,a,b,q,rfl,rfl,e,d⟩ L f;cases qs with
 |nil=>cases q
 |cons p qs=>rw[B8]at q;injection q with h1 h2;subst h1;refine⟨trivial,?_⟩;unfold iw;walk_at"dl";refine⟨trivial,⟨aJ,aJ⟩,?_⟩;rw[cA];rw[sy]at e;rw[B8,A0]at d;by_cases q:p.1=r;rw[beq_iff_eq.mpr q];rw[o5 q]at e;refine dB<|aQ.now ?_;rw[<-e];exact h<|d.mpr<|.inl q.symm;rw[beq_eq_false_iff_ne.mpr q];rw[o6 q]at e;exact dz<|C4.now<|f _ _ ⟨qs,_,_,h2,rfl,rfl,e,d.trans ⟨λz=>z.resolve_left<|D2 q,.inr⟩⟩
theorem jr(T:Tops P w K mg base):uX P w K mg base 1 "members_of" gc bY:=uX.by (N:=["house","room","told","members"]) T.b T.f_members_of (by walk_at"sc") nR (by have:=T.cl;walk_at"dvx") oX
def bK:x5:=λds M R=>∃(a b:D) (r:List D),ds=[.tup<|a::b::r]/\R (.tup [a,b]) M
theorem sK:cZ bK jJ:=by rintro ds M R ⟨a,b,r,rfl,_⟩;rfl
def oj:t7:=bn<|fL<|aa (tx v7 (ac 0)<|dC<|.int 0)<|aa (tx v7 (ac 0)<|dC<|.int 1) ag
theorem tQ:A5 bK 1 oj:=by rintro ds M R ⟨a,b,r,rfl,h⟩;simp only[oj];walk_at"dl";exact⟨ah (by lia),aQ.now h⟩
theorem eQ(T:Tops P w K mg base):v4 P w K mg base 1 "stamp_of" jJ bK:=v4.byD (N:=["deed"]) T.b T.f_stamp_of (by walk_at"sc") sK (by walk_at"dv") tQ
def aW:x5:=λds M R=>∃(t x:D) (r l:List D),ds=[.tup<|t::.tup (x::r)::l]/\R x M
theorem pN:cZ aW iz:=by rintro ds M R ⟨t,x,r,l,rfl,_⟩;rfl
def lz:t7:=bn<|tx v7 (tx v7 (ac 0)<|dC<|.int 1)<|dC<|.int 0
theorem qw:A5 aW 1 lz:=by rintro ds M R ⟨t,x,r,l,rfl,h⟩;simp only[lz];walk_at"dl";exact aQ.now h
theorem cG(T:Tops P w K mg base):v4 P w K mg base 1 "person_of" iz aW:=v4.byD (N:=["deed"]) T.b T.f_person_of (by walk_at"sc") pN (by walk_at"dv") qw
def dJ:x5:=λds M R=>∃(t d:D) (m:Int) (r:List D) (hs:List (D×Int)),ds=[.tup<|t::d::.int m::r,.tup<|oZ hs]/\Hd d/\(∀p∈hs,Hd p.1)/\hs.length<=1000/\R (.bl<|fj hs d m) M
theorem pP:cZ dJ iB:=by rintro ds M R ⟨t,d,m,r,hs,rfl,_⟩;rfl
def jc:t7:=bn<|dC<|.bl bt
def lK:t7:=ax (nG (bN<|ac 1) (ng 2<|bV (am 2)<|bV (am 3) nh)<|B6 (aE<|tx C5 (ac 2)<|tx v7 (ac 0)<|dC<|.int 1) (bn<|tx LB (tx v7 (ac 0)<|dC<|.int 2)<|ac 3) bj)<|jc
theorem qz:A5 dJ 4 lK:=by
 rintro ds M R ⟨t,d,m,r,hs,rfl,f,v,s,h⟩;simp only[lK];walk_at"dl";refine λ_=>?_;refine jx (λys S c=>c=M/\∃qs a b,ys=oZ qs/\(∀p∈qs,Hd p.1)/\fj qs d m=fj hs d m/\S=[a7<|.tup<|t::d::.int m::r,a7<|.tup<|oZ hs,a,b]) ?_ ?_ _ _ _ ⟨rfl,hs,_,_,rfl,v,rfl,rfl⟩;rintro S c ⟨rfl,qs,a,b,e,_,w,rfl⟩;obtain rfl:qs=[]:=by
  cases qs with
  |nil=>rfl
  |cons q qs=>cases e
 rw[<-w]at h;refine⟨trivial,?_⟩;simp only[jc];walk_at"dl";exact aQ.now h;rintro x xs S c ⟨rfl,qs,a,b,e,i,w,rfl⟩ G l;cases qs with
 |nil=>cases e
 |cons q qs =>
  have j:x=.tup [q.1,.int q.2]/\xs=oZ qs:=by unfold oZ at e ⊢;rw[B8]at e;injection e with e1 e2;exact⟨e1,e2⟩
  obtain⟨rfl,rfl⟩:=j;refine⟨trivial,?_⟩;have Q:=i q (by simp);walk_at"dl";refine⟨trivial,⟨Jp Q,Jp f⟩,?_⟩;cases g:u3 c ve q.1 d with
  |true =>
   have e:=(FS (n:=29) Q f).mp g;have k:fj (q::qs) d m=decide (m<q.2):=by unfold fj;rw[K7,dT_ e]
   rw[<-w,k]at h;exact dB<|aQ.now h
  |false =>
   have e:q.1≠d:=λz=>by have:=(FS (M:=c) (n:=29) Q f).mpr z;rw[show u3 c (29+1) q.1 d=u3 c ve q.1 d from rfl,g]at this;cases this
   refine dz<|C4.now<|l _ _ ⟨rfl,qs,_,_,rfl,λp o=>i p<|A8 _ o,?_,rfl⟩;rw[<-w];unfold fj;rw[K7,dF_ e]
theorem si(T:Tops P w K mg base):v4 P w K mg base 1 "is_within" iB dJ:=v4.byD (N:=["deed","vector","hand","count"]) T.b T.f_is_within (by walk_at"sc") pP (by walk_at"dv") qz
def aP:x5:=λds M R=>∃(ps:List (b9×Int)) (a:List (b9×List b9)) (log:List D) (k:b9),ds=[.tup log,.str k]/\(∀d∈log,ay ps a d)/\log.length<=1000/\R (.ref M.length) (M++[.lst<|kinds log k])
theorem jS:cZ aP du:=by rintro ds M R ⟨ps,a,log,k,rfl,_⟩;rfl
def fS:t7:=bn<|E8 1 [1] (bN<|ac 0) (am 0) (aE<|tx C5 (tx v7 (tx v7 (ac 0)<|dC<|.int 3)<|dC<|.int 0)<|ac 1)<|ac 0
theorem kA:A5 aP 2 fS:=by rintro ds M R ⟨ps,s,log,k,rfl,g,l,h⟩;simp only[fS];walk_at"dl";intro _;refine aO (λd=>decide<|cH d=k) id (λS=>∃a,S=[a,a7<|.str k]) trivial _ _ _ ?_ ⟨_,rfl⟩ (by rw[D3];exact ah<|by lia) (by rw[Fn,MN];exact .inl h);rintro d i S ⟨a,rfl⟩;obtain⟨t,z,H,m,x,ds,rfl,_⟩:=g d i;refine⟨[a7<|.tup [.int t,.tup [.str z,.int H],.int m,.tup<|.str x::ds],a7<|.str k],⟨_,rfl⟩,λY Z b=>?_⟩;walk_at"dl";have f:atI [D.int t,.tup [.str z,.int H],.int m,.tup<|.str x::ds] 3=a7 (.tup<|.str x::ds):=ap (j:=3) rfl;rw[f];dsimp only;rw[LU];refine⟨⟨aJ,aJ⟩,?_⟩;rw[cA];have c:cH (.tup [.int t,.tup [.str z,.int H],.int m,.tup<|.str x::ds])=x:=rfl;rw[c]at b;by_cases e:x=k;rw[beq_iff_eq.mpr e];rw[dT_ e]at b;exact dB b;rw[beq_eq_false_iff_ne.mpr e];rw[dF_ e]at b;exact dz b
theorem cN(T:Tops P w K mg base):v4 P w K mg base 1 "deeds_of_kind" du aP:=v4.byD (N:=["log","kind"]) T.b T.f_deeds_of_kind (by walk_at"sc") jS (by walk_at"dv") kA
def dA:x5:=λds M R=>∃(ps:List (b9×Int)) (a:List (b9×List b9)) (log:List D) (k e:b9),ds=[.tup log,.str k,.str e]/\(∀d∈log,ay ps a d)/\log.length<=1000/\R (.ref M.length) (M++[.lst<|kC log k e])
theorem sM:cZ dA jL:=by rintro ds M R ⟨ps,a,log,k,e,rfl,_⟩;rfl
def oF:t7:=bn<|E8 1 [2] (bN<|u5 aP<|aa (ac 0)<|aa (ac 1) ag) (am 0) (aE<|tx C5 (u5 aW<|aa (ac 0) ag)<|ac 1)<|ac 0
theorem tU:A5 dA 3 oF:=by rintro ds M R ⟨ps,rs,log,k,n,rfl,c,g,h⟩;simp only[oF];walk_at"dl";unfold kC at h;have f:∀d∈kinds log k,ay ps rs d:=λd q=>c d (E6.mp q).1;have l:(kinds log k).length<=1000:=J4 bE g;refine⟨ps,rs,log,k,rfl,c,g,?_⟩;generalize kinds log k=F at f l h;refine⟨F,ae,λ_=>?_⟩;refine aO (λd=>decide<|jP d=n) id (λS=>∃a,S=[a,a7<|.str n]) ae _ _ _ ?_ ⟨_,rfl⟩ (by rw[D3];exact ah<|by lia) ?_;rintro d j S ⟨a,rfl⟩;obtain⟨t,z,H,m,x,ds,rfl,_⟩:=f d j;refine⟨[a7<|.tup [.int t,.tup [.str z,.int H],.int m,.tup<|.str x::ds],a7<|.str n],⟨_,rfl⟩,λY Z b=>?_⟩;walk_at"dl";refine⟨_,_,_,_,rfl,⟨aJ,aJ⟩,?_⟩;rw[cA];have i:jP (.tup [.int t,.tup [.str z,.int H],.int m,.tup<|.str x::ds])=z:=rfl;rw[i]at b;by_cases e:z=n;rw[beq_iff_eq.mpr e];rw[dT_ e]at b;exact dB b;rw[beq_eq_false_iff_ne.mpr e];rw[dF_ e]at b;exact dz b;rw[Fn,MN,G5];exact aQ.lst h (by simp) (by simp)<|ay.bels (ps:=ps) (rs:=rs) λd q=>f d (E6.mp q).1
theorem mJ(T:Tops P w K mg base):v4 P w K mg base 2 "deeds_by" jL dA:=v4.byD (N:=["log","kind","name"]) T.b T.f_deeds_by (by walk_at"sc") sM (by have:=cG T;have:=cN T;walk_at"dv") tU
def cD:x5:=λds M R=>∃(ps:List (b9×Int)) (a:List (b9×List b9)) (log:List D) (k e:b9),ds=[.tup log,.str k,.str e]/\(∀d∈log,ay ps a d)/\log.length<=1000/\(k=t5 "seen"\/k=t5 "rung")/\((∀x∈kB log k e,St x)->R (.ref M.length) (M++[.lst<|kB log k e]))
theorem mQ:cZ cD eO:=by rintro ds M R ⟨ps,a,log,k,e,rfl,_⟩;rfl
def ja:t7:=bn<|E8 1 [] (bN<|u5 dA<|aa (ac 0)<|aa (ac 1)<|aa (ac 2) ag) (am 0) nF<|tx v7 (tx v7 (ac 0)<|dC<|.int 3)<|dC<|.int 1
theorem nJ:A5 cD 3 ja:=by
 rintro ds M R ⟨ps,u,log,k,name,rfl,g,p,o,h⟩;simp only[ja];walk_at"dl";refine⟨ps,u,log,k,name,rfl,g,p,?_⟩;have s:=mO (log:=log) (k:=k) (name:=name);have f:∀d∈kC log k name,∃(t:Int) (z:b9) (k n:Int) (x:b9) (m:D),d=.tup [.int t,.tup [.str z,.int k],.int n,.tup [.str x,m]]/\St m:=λd b=>by obtain⟨h1,h2,_⟩:=mM b;exact Ej (g d h1)<|o.imp (λe=>h2.trans e) λe=>h2.trans e
 have T:kB log k name=(kC log k name).map ur:=rfl;rw[T]at h;generalize kC log k name=F at s f h;have c:∀x∈F.map ur,St x:=λx r=>by obtain⟨d,b,rfl⟩:=w9.mp r;obtain⟨t,z,k,n,x,m,rfl,hs⟩:=f d b;exact hs
 refine⟨F,ae,λ_=>?_⟩;refine aU ur (λS=>∃a,S=[a]) ae _ _ _ (λd b S c=>?_) ⟨_,rfl⟩ (by rw[D3];exact ah<|by lia) ?_;obtain⟨a,rfl⟩:=c;obtain⟨t,z,k,n,x,m,rfl,_⟩:=f d b;refine⟨[a7<|.tup [.int t,.tup [.str z,.int k],.int n,.tup [.str x,m]]],⟨_,rfl⟩,λY l=>?_⟩;walk_at"dl";have i:atI [D.int t,.tup [.str z,.int k],.int n,.tup [.str x,m]] 3=a7 (.tup [.str x,m]):=ap (j:=3) rfl;rw[i];dsimp only;rw[Ml];exact l;rw[Fn,G5];exact aQ.lst (h c) (by simp) (by simp)<|Bels.of λd q=>bA 2 d (c d q).pl
theorem nL(T:Tops P w K mg base):v4 P w K mg base 3 "stamps_told" eO cD:=v4.byD (N:=["log","kind","name"]) T.b T.f_stamps_told (by walk_at"sc") mQ (by have:=mJ T;walk_at"dv") nJ
def bx:x5:=λds M R=>∃(a b c x r:D) (l:List D),ds=[.tup [a,b,c,.tup<|x::r::l]]/\R r M
theorem uB:cZ bx mw:=by rintro ds M R ⟨a,b,c,x,r,l,rfl,_⟩;rfl
def qN:t7:=bn<|tx v7 (tx v7 (ac 0)<|dC<|.int 3)<|dC<|.int 1
theorem wI:A5 bx 1 qN:=by rintro ds M R ⟨a,b,c,x,r,l,rfl,h⟩;simp only[qN];walk_at"dl";have e:atI [a,b,c,.tup<|x::r::l] 3=a7 (.tup<|x::r::l):=ap (j:=3) rfl;rw[e];dsimp only;rw[Ml];exact aQ.now h
theorem gD(T:Tops P w K mg base):v4 P w K mg base 1 "room_of" mw bx:=v4.byD (N:=["say"]) T.b T.f_room_of (by walk_at"sc") uB (by walk_at"dv") wI
def cB:x5:=λds M R=>∃(a b c x r u:D) (l:List D),ds=[.tup [a,b,c,.tup<|x::r::u::l]]/\R u M
theorem sJ:cZ cB jI:=by rintro ds M R ⟨a,b,c,x,r,u,l,rfl,_⟩;rfl
def oh:t7:=bn<|tx v7 (tx v7 (ac 0)<|dC<|.int 3)<|dC<|.int 2
theorem tP:A5 cB 1 oh:=by rintro ds M R ⟨a,b,c,x,r,u,l,rfl,h⟩;simp only[oh];walk_at"dl";have d:atI [a,b,c,.tup<|x::r::u::l] 3=a7 (.tup<|x::r::u::l):=ap (j:=3) rfl;have e:atI (x::r::u::l) 2=a7 u:=ap (j:=2) rfl;rw[d];dsimp only;rw[e];exact aQ.now h
theorem iG(T:Tops P w K mg base):v4 P w K mg base 1 "under_of" jI cB:=v4.byD (N:=["say"]) T.b T.f_under_of (by walk_at"sc") sJ (by walk_at"dv") tP
def dO:x5:=λds M R=>∃(ps:List (b9×Int)) (a:List (b9×List b9)) (d:D) (q:Nat) (s:List (D×D)),ds=[aC ps a,d,.ref q]/\ay ps a d/\cH d=t5 "say"/\M[q]?=a7 (.dkt s)/\(∀p∈s,ay ps a p.2/\cH p.2=t5 "say")/\R (.bl<|vM a s d) M
theorem pT:cZ dO iF:=by rintro ds M R ⟨ps,a,d,q,s,rfl,_⟩;rfl
def je:t7:=bn<|dOrV (tx NL (ac 3)<|dC .non)<|tq (tx Ep (ac 3)<|ac 2)<|tx C5 (u5 bx<|aa (jV (ac 2)<|ac 3) ag)<|u5 bx<|aa (ac 1) ag
def jf:t7:=ax (aT (u5 cB<|aa (ac 1) ag) 3)<|je
def lU:t7:=ax (B6 (aE<|tx me (u5 aW<|aa (ac 1) ag)<|u5 (NM bY)<|aa (ac 0)<|aa (u5 bx<|aa (ac 1) ag) ag) (bn<|dC<|.bl bt) bj)<|jf
theorem qD:A5 dO 4 lU:=by
 rintro ds M R ⟨ps,b,d,q,a,rfl,p,w,j,y,h⟩;obtain⟨t,z,k,m,r,u,s,rfl,_,_,x,g⟩:=fV p w;simp only[lU];walk_at"dl";refine⟨_,_,_,_,rfl,_,_,_,_,_,_,rfl,ps,b,r,rfl,λz=>o7 x z,λ_=>⟨⟨aJ,lV⟩,?_⟩⟩;rw[mX];have n:vM b a (.tup [.int t,.tup [.str z,.int k],.int m,.tup [.str<|t5 "say",.str r,u,.str s]])=(decide (z∈iT b r)&&(decide (u=.non)||match bi a u with
  |some e=>decide<|cF e=r
  |none=>bt)):=rfl
 rw[n]at h;by_cases i:z∈iT b r;rw[dT_ i]at h ⊢;refine dz ?_;simp only[jf,je];walk_at"dl";refine⟨_,_,_,_,_,u,_,rfl,?_⟩;rcases g with rfl|g;walk_at"dl";refine aQ.now ?_;simpa using h;obtain⟨t',F,H,rfl⟩:=g;rw[dF_<|by intro e;cases e]at h;walk_at"dl";refine⟨a,j,rfl,?_⟩;cases S:bi a (.tup [.int t',.tup [.str F,.int H]]) with
 |none=>rw[S]at h;exact dz<|aQ.now h
 |some e =>
  rw[S]at h;obtain⟨v,c⟩:=y _<|eA S;obtain⟨D,E,B,A,l,J,C,f,_⟩:=fV v c;dsimp only at f;subst f;refine dB ⟨a,_,j,rfl,S,_,_,_,_,_,_,rfl,_,_,_,_,_,_,rfl,⟨aJ,aJ⟩,?_⟩;rw[cA];refine aQ.now ?_;have o:(l==r)=decide (l=r):=by by_cases e:l=r;rw[dT_ e];exact beq_iff_eq.mpr e;rw[dF_ e];exact beq_eq_false_iff_ne.mpr e
  rw[o];exact h
 rw[dF_ i]at h ⊢;exact dB<|aQ.now h
theorem ss(T:Tops P w K mg base):v4 P w K mg base 2 "can_stand" iF dO:=v4.byD (N:=["house","say","elders","under"]) T.b T.f_can_stand (by walk_at"sc") pT (by have:=(jr T).nev;have:=cG T;have:=gD T;have:=iG T;walk_at"dv") qD
def aV:x5:=λds M R=>∃(ps:List (b9×Int)) (a:List (b9×List b9)) (log:List D),ds=[aC ps a,.tup log]/\(∀d∈log,ay ps a d)/\log.length<=1000/\∀n B,M <+: B->B[n]?=a7 (.dkt<|aG a log)->R (.ref n) B
theorem iL:cZ aV cy:=by rintro ds M R ⟨ps,a,log,rfl,_⟩;rfl
theorem kK(h:∀d∈log,ay ps rs d)(g:∀d∈l,d∈kinds log (t5 "say"))(t:TabK l kvs):∀p∈kvs,ay ps rs p.2/\cH p.2=t5 "say":=λp a=>by obtain⟨h1,h2⟩:=br<|g _ (t.en p a).2;exact⟨h _ h1,h2⟩
def dn:t7:=bn<|ac 2
def dq:t7:=ax (nG (bN<|u5 aP<|aa (ac 1)<|aa (dC<|.str "say") ag) (am 3)<|B6 (aE<|u5 dO<|aa (ac 0)<|aa (ac 3)<|aa (ac 2) ag) (sY (ac 2) (u5 bK<|aa (ac 3) ag)<|ac 3) bj)<|dn
def eE:t7:=ax (aT (xM) 2)<|dq
theorem iW:A5 aV 4 eE:=by
 rintro ds M R ⟨ps,rs,log,rfl,c,o,h⟩;simp only[eE,dq];walk_at"dl";refine⟨ps,rs,log,_,rfl,c,o,?_⟩;have r:=bE (log:=log) (k:=t5 "say");have m:∀d∈kinds log (t5 "say"),ay ps rs d/\cH d=t5 "say":=λd q=>⟨c d (br q).1,(br q).2⟩
 have f:fI rs (kinds log<|t5 "say")=aG rs log:=rfl;generalize A:kinds log (t5 "say")=K at r m f;refine⟨K,ae,λ_=>?_⟩;refine bf (λi S b=>∃a,b=M++[.dkt<|fI rs<|K.take i,.lst K]/\S=[a7<|aC ps rs,a7<|.tup log,a7<|.ref M.length,a]) ?_ ?_ ⟨_,by simp[fI],rfl⟩;rintro S b ⟨a,rfl,rfl⟩;rw[LO,f];refine⟨.inl ?_,?_⟩;have:(M++[MO.dkt []]).length=M.length+1:=by simp
 rw[this];exact kQ;simp only[dn];walk_at"dl";exact .inl<|h _ _ (KH _ _) cz;rintro i y S b O ⟨a,rfl,rfl⟩ G l;have p:=J1 O;have n:K.take (i+1)=K.take i++[y]:=by rw[Ma,O];rfl
 rw[n,nq]at l;have g:=oU (rs:=rs)<|K.take i;have v:=kK c (λd q=>A ▸ List.mem_of_mem_take q) g;have j:=g.len;rw[Kt]at j;generalize fI rs (K.take i)=s at l v j;obtain⟨e,u⟩:=m y p;refine⟨.inl ?_,?_⟩;have:(M++[MO.dkt []]).length=M.length+1:=by simp
 rw[this];exact kQ;walk_at"dl";refine⟨ps,rs,y,_,s,rfl,e,u,cz,v,?_⟩;unfold Bj at l;cases hs:vM rs s y with
 |true=>rw[hs,o5 rfl]at l;refine dB ?_;obtain⟨t,z,k,w,x,ds,rfl,_⟩:=e;refine⟨_,_,_,rfl,s,cz,rfl,av (by lia),?_⟩;rw[lX];exact C4.now<|l _ _ ⟨_,rfl,rfl⟩
 |false=>rw[hs,o6<|by decide]at l;exact dz<|C4.now<|l _ _ ⟨_,rfl,rfl⟩
theorem dG(T:Tops P w K mg base):v4 P w K mg base 3 "says_that_count" cy aV:=v4.byD (N:=["house","log","says","deed"]) T.b T.f_says_that_count (by walk_at"sc") iL (by have:=eQ T;have:=cN T;have:=ss T;walk_at"dv") iW
def cc:x5:=λds M R=>∃(t:Int) (z:b9) (k n:Int) (x m:D) (l:List D) (q:Nat) (s:List (D×D)),ds=[.tup [.int t,.tup [.str z,.int k],.int n,.tup<|x::m::l],.ref q]/\St m/\M[q]?=a7 (.dkt s)/\(∀p∈s,NY p.2)/\R (.bl<|KQ s<|.tup [.int t,.tup [.str z,.int k],.int n,.tup<|x::m::l]) M
theorem kG:cZ cc dY:=by rintro ds M R ⟨t,z,k,n,x,m,l,q,s,rfl,_⟩;rfl
def fF:t7:=bn<|tq (tx Ep (ac 2)<|ac 1)<|tx C5 (u5 aW<|aa (ac 0) ag)<|u5 aW<|aa (jV (ac 1)<|ac 2) ag
def ig:t7:=ax (aT (tx v7 (tx v7 (ac 0)<|dC<|.int 3)<|dC<|.int 1) 2)<|fF
theorem kZ:A5 cc 3 ig:=by
 rintro ds M R ⟨t,z,k,n,x,m,l,q,s,rfl,f,b,v,h⟩;simp only[ig,fF];obtain⟨t',F,H,rfl⟩:=f;walk_at"dl";have c:atI [D.int t,.tup [.str z,.int k],.int n,.tup<|x::.tup [.int t',.tup [.str F,.int H]]::l] 3=a7 (.tup<|x::.tup [.int t',.tup [.str F,.int H]]::l):=ap (j:=3) rfl;rw[c];dsimp only;rw[Ml];refine⟨s,b,rfl,?_⟩;have d:KQ s (.tup [.int t,.tup [.str z,.int k],.int n,.tup<|x::.tup [.int t',.tup [.str F,.int H]]::l])=match bi s (.tup [.int t',.tup [.str F,.int H]]) with
  |some e=>decide<|z=jP e
  |none=>bt:=rfl
 rw[d]at h;cases S:bi s (.tup [.int t',.tup [.str F,.int H]]) with
 |none=>rw[S]at h;exact dz<|aQ.now h
 |some e =>
  rw[S]at h;obtain⟨a,y,r,g,rfl⟩:=v _<|eA S;refine dB ⟨_,_,_,_,rfl,s,_,b,rfl,S,_,_,_,_,rfl,⟨aJ,aJ⟩,?_⟩;rw[cA];refine aQ.now ?_;have o:(z==y)=decide (z=y):=by by_cases e:z=y;rw[dT_ e];exact beq_iff_eq.mpr e;rw[dF_ e];exact beq_eq_false_iff_ne.mpr e
  rw[o];exact h
theorem mI(T:Tops P w K mg base):v4 P w K mg base 2 "is_by_writer" dY cc:=v4.byD (N:=["deed","says","message"]) T.b T.f_is_by_writer (by walk_at"sc") kG (by have:=cG T;walk_at"dv") kZ
def bF:x5:=λds M R=>∃(ps:List (b9×Int)) (a:List (b9×List b9)) (log:List D) (k:b9) (q:Nat) (s:List (D×D)),ds=[.tup log,.str k,.ref q]/\(∀d∈log,ay ps a d)/\log.length<=1000/\(k=t5 "change"\/k=t5 "back")/\M[q]?=a7 (.dkt s)/\(∀p∈s,NY p.2)/\R (.ref M.length) (M++[.lst<|(kinds log k).filter<|KQ s])
theorem mP:cZ bF eN:=by rintro ds M R ⟨ps,a,log,k,q,s,rfl,_⟩;rfl
theorem Iu(h:ay ps rs d)(e:cH d=k)(b:k=t5 "change"\/k=t5 "back"):∃(t:Int) (z:b9) (k num:Int) (x m:D) (l:List D),d=.tup [.int t,.tup [.str z,.int k],.int num,.tup<|x::m::l]/\St m:=by rcases b with rfl|rfl;obtain⟨t,z,k,num,m,s,rfl,a⟩:=nv h e;exact⟨t,z,k,num,_,m,_,rfl,a⟩;obtain⟨t,z,k,num,m,rfl,a⟩:=AI h e;exact⟨t,z,k,num,_,m,_,rfl,a⟩
def iZ:t7:=bn<|E8 1 [2] (bN<|u5 aP<|aa (ac 0)<|aa (ac 1) ag) (am 0) (aE<|u5 cc<|aa (ac 0)<|aa (ac 1) ag)<|ac 0
theorem nI:A5 bF 3 iZ:=by
 rintro ds M R ⟨ps,rs,log,k,q,s,rfl,c,g,f,j,v,h⟩;simp only[iZ];walk_at"dl";refine⟨ps,rs,log,k,rfl,c,g,_,ae,λ_=>?_⟩;have o:=bE (log:=log) (k:=k);refine aO (KQ s) id (λS=>∃a,S=[a,a7<|.ref q]) ae _ _ _ ?_ ⟨_,rfl⟩ (by rw[D3];exact ah<|by lia) ?_;rintro d i S ⟨a,rfl⟩;obtain⟨h1,h2⟩:=br i;obtain⟨t,z,H,n,x,m,l,rfl,hs⟩:=Iu (c d h1) h2 f;refine⟨[a7<|.tup [.int t,.tup [.str z,.int H],.int n,.tup<|x::m::l],a7<|.ref q],⟨_,rfl⟩,λY Z b=>?_⟩;walk_at"dl";refine⟨t,z,H,n,x,m,l,q,s,rfl,hs,ad j,v,?_⟩;cases e:KQ s (.tup [.int t,.tup [.str z,.int H],.int n,.tup<|x::m::l]) with
 |true=>rw[e]at b;exact dB b
 |false=>rw[e]at b;exact dz b
 rw[Fn,MN,G5];exact aQ.lst h (by simp) (by simp)<|ay.bels (ps:=ps) (rs:=rs) λd m=>c d (br (E6.mp m).1).1
theorem ij(T:Tops P w K mg base):v4 P w K mg base 3 "writers_own" eN bF:=v4.byD (N:=["log","kind","says"]) T.b T.f_writers_own (by walk_at"sc") mP (by have:=cN T;have:=mI T;walk_at"dv") nI
def cb:x5:=λds M R=>∃(ps:List (b9×Int)) (a:List (b9×List b9)) (log:List D) (q:Nat) (s:List (D×D)),ds=[.tup log,.ref q]/\(∀d∈log,ay ps a d)/\log.length<=1000/\M[q]?=a7 (.dkt s)/\(∀p∈s,NY p.2)/\∀n B,M <+: B->B[n]?=a7 (.dkt<|az s log)->R (.ref n) B
theorem kF:cZ cb dW:=by rintro ds M R ⟨ps,a,log,q,s,rfl,_⟩;rfl
theorem oS(ps:List (D×D))(h:p∈dictOf ps):p∈ps:=by revert h;refine ph (P:=λps=>p∈dictOf ps->p∈ps) (λh=>h) (λps q i h=>?_) ps;rw[eZ]at h;rcases vR h with rfl|h;simp;exact Ld _<|i h
theorem nu(h:∀d∈log,ay ps rs d):∀p∈az kvs log,∃s,p.2=.str s:=λp b=>by obtain⟨d,a,rfl⟩:=w9.mp<|oS _ b;obtain⟨h1,h2⟩:=br (E6.mp a).1;obtain⟨t,z,k,n,m,s,rfl,hs⟩:=nv (h d h1) h2;exact⟨s,rfl⟩
def ie:t7:=bn<|u5 iy<|aa (E8 1 [] (bN<|u5 bF<|aa (ac 0)<|aa (dC<|.str "change")<|aa (ac 1) ag) (am 0) nF<|fL<|aa (tx v7 (tx v7 (ac 0)<|dC<|.int 3)<|dC<|.int 1)<|aa (tx v7 (tx v7 (ac 0)<|dC<|.int 3)<|dC<|.int 2) ag) ag
theorem kY:A5 cb 2 ie:=by
 rintro ds M R ⟨ps,B,log,q,b,rfl,i,w,x,y,h⟩;simp only[ie];walk_at"dl";refine⟨ps,B,log,_,q,b,rfl,i,w,.inl rfl,x,y,_,ae,λ_=>?_⟩;have C:=bE (log:=log) (k:=t5 "change");have r:=KZ (KQ b)<|kinds log<|t5 "change";have f:∀d∈(kinds log<|t5 "change").filter (KQ b),∃(t:Int) (z:b9) (k n:Int) (m:D) (s:b9),d=.tup [.int t,.tup [.str z,.int k],.int n,.tup [.str<|t5 "change",m,.str s]]/\St m:=λd m=>by obtain⟨h1,h2⟩:=br (E6.mp m).1;exact nv (i d h1) h2
 have g:dictOf (((kinds log<|t5 "change").filter<|KQ b).map λd=>(ur d,ir d))=az b log:=rfl;generalize (kinds log<|t5 "change").filter (KQ b)=F at r f g;refine aU (λd=>.tup [ur d,ir d]) (λS=>∃a,S=[a]) ae _ _ _ (λd c S u=>?_) ⟨_,rfl⟩ (by rw[D3];exact ah<|by lia) ?_;obtain⟨a,rfl⟩:=u;obtain⟨t,z,k,n,m,s,rfl,_⟩:=f d c;refine⟨[a7<|.tup [.int t,.tup [.str z,.int k],.int n,.tup [.str<|t5 "change",m,.str s]]],⟨_,rfl⟩,λY v=>?_⟩;walk_at"dl";have l:atI [D.int t,.tup [.str z,.int k],.int n,.tup [.str<|t5 "change",m,.str s]] 3=a7 (.tup [.str<|t5 "change",m,.str s]):=ap (j:=3) rfl;rw[l];dsimp only;rw[Ml];dsimp only;rw[PH];exact⟨ah (by lia),v⟩;rw[Fn];have o:F.map (λd=>D.tup [ur d,ir d])=(F.map λd=>(ur d,ir d)).map λp=>.tup [p.1,p.2]:=by rw[E7];rfl
 rw[o];refine⟨F.map λd=>(ur d,ir d),ae,λp c=>?_,by rw[u8];lia,?_⟩;obtain⟨d,A,rfl⟩:=w9.mp c;obtain⟨t,z,k,n,m,s,rfl,hs⟩:=f d A;obtain⟨E,e⟩:=hs.tup;exact⟨hs.key,by show gh m=a9;rw[e];rfl⟩;rw[g];exact .inl<|h _ _ ((aY.trans aY).trans aY) af
theorem mH(T:Tops P w K mg base):v4 P w K mg base 4 "last_changes" dW cb:=v4.byD (N:=["log","says"]) T.b T.f_last_changes (by walk_at"sc") kF (by have:=ij T;walk_at"dv") kY
def aL:x5:=λds M R=>∃(ps:List (b9×Int)) (r:List (b9×List b9)) (log:List D) (q:Nat) (s:List (D×D)),ds=[.tup log,.ref q]/\(∀d∈log,ay ps r d)/\log.length<64/\M[q]?=a7 (.dkt s)/\(∀p∈s,NY p.2)/\∀ys,(∀x∈ys,St x)->(∀x,x∈ys↔cf s log x)->ys.Nodup->(ys.Pairwise λa b=>¬E2 ve b<E2 ve a)->R (.ref M.length) (M++[.lst ys])
theorem gg:cZ aL bH:=by rintro ds M R ⟨ps,a,log,q,s,rfl,_⟩;rfl
def dm:t7:=bn<|jw<|E8 1 [] (bN<|u5 bF<|aa (ac 0)<|aa (dC<|.str "back")<|aa (ac 1) ag) (am 0) nF<|tx v7 (tx v7 (ac 0)<|dC<|.int 3)<|dC<|.int 1
theorem gR:A5 aL 2 dm:=by
 rintro ds M R ⟨ps,H,log,q,s,rfl,o,J,y,B,h⟩;simp only[dm];walk_at"dl";refine⟨ps,H,log,_,q,s,rfl,o,by lia,.inr rfl,y,B,_,ae,λ_=>?_⟩;have K:=bE (log:=log) (k:=t5 "back");have u:=KZ (KQ s)<|kinds log<|t5 "back";have l:∀d∈(kinds log<|t5 "back").filter (KQ s),∃(t:Int) (z:b9) (k n:Int) (m:D),d=.tup [.int t,.tup [.str z,.int k],.int n,.tup [.str<|t5 "back",m]]/\St m:=λd m=>by obtain⟨h1,h2⟩:=br (E6.mp m).1;exact AI (o d h1) h2
 have g:∀x,x∈((kinds log<|t5 "back").filter<|KQ s).map ur↔cf s log x:=λx=>by constructor;intro f;obtain⟨d,m,rfl⟩:=w9.mp f;exact⟨d,(E6.mp m).1,(E6.mp m).2,rfl⟩;rintro⟨d,h1,h2,rfl⟩;exact Lb<|E6.mpr ⟨h1,h2⟩
 generalize (kinds log<|t5 "back").filter (KQ s)=F at u l g;refine aU ur (λS=>∃a,S=[a]) ae _ _ _ (λd i S v=>?_) ⟨_,rfl⟩ (by rw[D3];exact ah<|by lia) ?_;obtain⟨a,rfl⟩:=v;obtain⟨t,z,k,n,m,rfl,_⟩:=l d i;refine⟨[a7<|.tup [.int t,.tup [.str z,.int k],.int n,.tup [.str<|t5 "back",m]]],⟨_,rfl⟩,λY w=>?_⟩;walk_at"dl";have r:atI [D.int t,.tup [.str z,.int k],.int n,.tup [.str<|t5 "back",m]] 3=a7 (.tup [.str<|t5 "back",m]):=ap (j:=3) rfl;rw[r];dsimp only;rw[Ml];exact w;rw[Fn];have hs:∀x∈F.map ur,St x:=λx f=>by obtain⟨d,i,rfl⟩:=w9.mp f;obtain⟨t,z,k,n,m,rfl,hs⟩:=l d i;exact hs
 refine⟨8,_,u6 _,.inl ⟨_,rfl,ae⟩,by rw[u8];lia,λx f=>?_,Ed hs (by rw[u8];lia),λys C O A=>?_⟩;obtain⟨L,e⟩:=(hs x f).tup;exact⟨(hs x f).key,by rw[e];rfl⟩;have c:∀x∈ys,St x:=λx f=>hs x<|(O x).mp f;rw[G5,G5];have I:ys.Pairwise λa b=>¬E2 ve b<E2 ve a:=(List.Pairwise.and_mem.mp A).imp λ{a b} ⟨ha,g,q⟩=>by
  have p:=c a ha;have T:=c b g;have E:D0 ve a=a9:=by obtain⟨t,z,k,e⟩:=p;rw[e];rfl
  have G:D0 ve b=a9:=by obtain⟨t,z,k,e⟩:=T;rw[e];rfl
  rw[uw G E<|T.cm p]at q;exact of_decide_eq_false q
 exact aQ.lst (h ys c (λx=>(O x).trans<|g x) C I) (by simp) (by simp)<|Bels.of λd m=>bA 2 d (c d m).pl
theorem cQ(T:Tops P w K mg base):v4 P w K mg base 4 "stamps_taken_back" bH aL:=v4.byD (N:=["log","says"]) T.b T.f_stamps_taken_back (by walk_at"sc") gg (by have:=ij T;walk_at"dv") gR
def cU:x5:=λds M R=>∃(ps:List (b9×Int)) (a:List (b9×List b9)) (d:D) (q:Nat) (b:List (D×D)),ds=[d,.ref q]/\ay ps a d/\cH d=t5 "say"/\M[q]?=a7 (.dkt b)/\R (mL b d) M
theorem nQ:cZ cU fZ:=by rintro ds M R ⟨ps,a,d,q,b,rfl,_⟩;rfl
def ia:t7:=bn<|fL<|aa (ac 2)<|aa (u5 bx<|aa (ac 0) ag)<|aa (u5 cB<|aa (ac 0) ag)<|aa (u5 aW<|aa (ac 0) ag)<|aa (ac 3)<|aa (tx Ep (ac 2)<|ac 1) ag
def ib:t7:=ax (aT (OG rY (ac 1)<|aa (ac 2)<|aa (tx v7 (tx v7 (ac 0)<|dC<|.int 3)<|dC<|.int 3) ag) 3)<|ia
def ka:t7:=ax (aT (u5 bK<|aa (ac 0) ag) 2)<|ib
theorem oW:A5 cU 4 ka:=by rintro ds M R ⟨ps,g,d,q,b,rfl,c,f,a,h⟩;obtain⟨t,z,k,m,r,u,s,rfl,_⟩:=fV c f;simp only[ka,ib];walk_at"dl";refine⟨_,_,_,rfl,⟨_,a⟩,?_⟩;have e:atI [D.int t,.tup [.str z,.int k],.int m,.tup [.str<|t5 "say",.str r,u,.str s]] 3=a7 (.tup [.str<|t5 "say",.str r,u,.str s]):=ap (j:=3) rfl;have I:atI [.str<|t5 "say",.str r,u,.str s] 3=a7 (.str s):=ap (j:=3) rfl;rw[e];dsimp only;rw[I];refine⟨b,a,rfl,?_⟩;simp only[ia];walk_at"dl";refine⟨_,_,_,_,_,_,rfl,_,_,_,_,_,_,_,rfl,_,_,_,_,rfl,b,a,rfl,ah (by lia),aQ.now h⟩
theorem pF(T:Tops P w K mg base):v4 P w K mg base 2 "message_of" fZ cU:=v4.byD (N:=["say","changes","stamp","saying"]) T.b T.f_message_of (by walk_at"sc") nQ (by have:=eQ T;have:=cG T;have:=gD T;have:=iG T;walk_at"dv") oW
def cT:x5:=λds M R=>∃(ps:List (b9×Int)) (a:List (b9×List b9)) (log:List D),ds=[aC ps a,.tup log]/\(∀d∈log,ay ps a d)/\log.length<64/\∀n B,M <+: B->B[n]?=a7 (.dkt<|aB a log)->R (.ref n) B
theorem nP:cZ cT fY:=by rintro ds M R ⟨ps,a,log,rfl,_⟩;rfl
theorem vL{M:t9}{l:List D}(h:∀x∈l,St x):l.all (u7 M ve)=a9:=F0.mpr λx a=>(h x a).ok
theorem wk(a:St x)(h:∀x∈l,St x):LD M x l=decide (x∈l):=by unfold LD;by_cases d:x∈l;rw[dT_ d];exact Lx.mpr ⟨x,d,by rw[show ve=28+2 from rfl,a.eq a];exact dT_ rfl⟩;rw[dF_ d];refine Ly.mpr λz=>?_;obtain⟨y,O,e⟩:=Lx.mp z;rw[show ve=28+2 from rfl,(h y O).eq a]at e;exact d<|oT_ e ▸ O
def gZ:t7:=bn<|u5 iy<|aa (E8 1 [2,3] (ww<|ac 2) (am 0) (aE<|tx me (ac 0)<|ac 2)<|fL<|aa (ac 0)<|aa (jV (ac 1)<|ac 0) ag) ag
def hV:t7:=ax (aT (u5 aL<|aa (ac 1)<|aa (ac 2) ag) 3)<|gZ
def jX:t7:=ax (aT (u5 aV<|aa (ac 0)<|aa (ac 1) ag) 2)<|hV
theorem oV:A5 cT 4 jX:=by
 rintro ds M R ⟨ps,rs,log,rfl,o,F,h⟩;simp only[jX];walk_at"dl";refine⟨ps,rs,log,rfl,o,by lia,λn B H m=>?_⟩;have t:=cW (rs:=rs) (log:=log);have J:=bE (log:=log) (k:=t5 "say");have v:=kK o (λ_ q=>q) t;have I:=t.len;have l:=t.nd;have w:=t.en;have g:aB rs log=(aG rs log).filter λp=>@decide (¬cf (aG rs log) log p.1) (J2 _):=rfl;rw[g]at h;clear g;generalize aG rs log=s at h t I v l w m;simp only[hV];walk_at"dl";refine⟨ps,rs,log,n,s,rfl,o,F,m,λp c=>(v p c).1.nm,λys hs O _ _=>?_⟩;simp only[gZ];walk_at"dl";have f:(B++[MO.lst ys])[n]?=a7 (.dkt s):=ad m;refine⟨s,f,λ_=>?_⟩;have sp:∀p∈s,St p.1:=λp c=>by rw[(w p c).1];exact(v p c).1.st
 refine aO (λk=>decide<|k∉ys) (λk=>.tup [k,(bi s k).getD .non]) (λS=>∃a,S=[a,a7<|.ref n,a7<|.ref B.length]) f _ _ _ ?_ ⟨_,rfl⟩ (by rw[D3,u8];exact ah<|by lia) ?_;rintro x G S ⟨a,rfl⟩;obtain⟨p,c,rfl⟩:=w9.mp G;have d:=sp p c;have r:=uv l c;refine⟨[a7 p.1,a7<|.ref n,a7<|.ref B.length],⟨_,rfl⟩,λY Z b=>?_⟩;rw[r]at b;obtain⟨A,e⟩:=d.tup;have y:=d.key;rw[e]at b r y d ⊢;walk_at"dl";refine⟨ys,ae,⟨d.ok,vL hs⟩,?_⟩;rw[wk d hs];by_cases j:D.tup A∈ys;rw[dT_ j];rw[dF_<|λz=>z j]at b;exact dz b;rw[dF_ j];rw[dT_ j,o5 rfl]at b;exact dB ⟨s,_,f,y,r,ah (by lia),b⟩;rw[Fn];have E:((s.map (·.1)).filter λk=>decide<|k∉ys).map (λk=>D.tup [k,(bi s k).getD .non])=(s.filter λp=>decide<|p.1∉ys).map λp=>.tup [p.1,p.2]:=by rw[List.filter_map,E7];refine M9 λp c=>?_;show D.tup [p.1,(bi s p.1).getD .non]=_;rw[uv l (E6.mp c).1];rfl
 rw[E];have u:((s.filter λp=>decide<|p.1∉ys).map (·.1)).Nodup:=(Ph.map _).nodup l;refine⟨_,ae,λp c=>?_,?_,?_⟩;have d:=sp p (E6.mp c).1;obtain⟨A,e⟩:=d.tup;exact⟨d.key,by rw[e];rfl⟩;have:=KZ (λp:D×D=>decide<|p.1∉ys) s;lia;rw[sW _ u];refine .inl<|h _ _ (((H.trans aY).trans aY).trans aY) ?_;have C:(s.filter λp=>decide<|p.1∉ys)=s.filter λp=>@decide (¬cf s log p.1) (J2 _):=List.filter_congr λp _=>by by_cases i:cf s log p.1;rw[dF_<|show ¬¬p.1∈ys from λz=>z<|(O _).mpr i,@decide_eq_false _ (J2 _)<|λz=>z i];rw[dT_<|show ¬p.1∈ys from λz=>i<|(O _).mp z,@decide_eq_true _ (J2 _) i]
 rw[<-C];exact af
theorem pE(T:Tops P w K mg base):v4 P w K mg base 5 "says_shown" fY cT:=v4.byD (N:=["house","log","says","backs"]) T.b T.f_says_shown (by walk_at"sc") nP (by have:=dG T;have:=cQ T;walk_at"dv") oV
def bo:x5:=λds M R=>∃(ps:List (b9×Int)) (a:List (b9×List b9)) (log:List D) (e:b9),ds=[.tup log,.str e]/\(∀d∈log,ay ps a d)/\log.length<1000/\∀n B b,M <+: B->VbAt B n b (qE log e)->R (.ref n) B
theorem iJ:cZ bo cw:=by rintro ds M R ⟨ps,a,log,e,rfl,_⟩;rfl
def da:t7:=bn<|ac 2
def db:t7:=ax (nG (bN<|u5 dA<|aa (ac 0)<|aa (dC<|.str "read")<|aa (ac 1) ag) (am 3)<|jy<|K8 cv (NQ vP (ac 2)<|aa (tx v7 (tx v7 (ac 3)<|dC<|.int 3)<|dC<|.int 1)<|aa (fN ag) ag)<|aa (tx v7 (tx v7 (ac 3)<|dC<|.int 3)<|dC<|.int 2) ag)<|da
def eB:t7:=ax (aT (CY) 2)<|db
theorem iU:A5 bo 4 eB:=by
 rintro ds M R ⟨ps,Y,log,name,rfl,b,Z,h⟩;simp only[eB,db];walk_at"dl";refine⟨ps,Y,log,t5 "read",name,rfl,b,by lia,?_⟩;have X:=mO (log:=log) (k:=t5 "read") (name:=name);have K:∀d∈kC log (t5 "read") name,∃(t:Int) (z:b9) (k n:Int) (r:b9) (hs:List (D×Int)),d=.tup [.int t,.tup [.str z,.int k],.int n,.tup [.str<|t5 "read",.str r,.tup<|oZ hs]]:=λd P=>by obtain⟨h1,h2,_⟩:=mM P;obtain⟨t,z,k,n,r,hs,e,_⟩:=yT (b d h1) h2;exact⟨t,z,k,n,r,hs,e⟩
 have V:qE log name=λr=>((kC log (t5 "read") name).filter λd=>decide<|cF d=r).map ir:=rfl;rw[V]at h;generalize kC log (t5 "read") name=F at X K h;have l:(M++[MO.dct []]).length=M.length+1:=by simp
 have J:(M++[MO.dct []]++[MO.lst F])[M.length+1]?=a7 (.lst F):=by rw[<-l];exact af
 rw[l];refine⟨F,.inl J,λ_=>?_⟩;refine bf (λi S f=>∃(c:List (b9×D)) (a:Option D),M <+: f/\f[M.length+1]?=a7 (.lst F)/\VbAt f M.length c (λr=>((F.take i).filter λd=>decide<|cF d=r).map ir)/\c.length<=i/\S=[a7<|.tup log,a7<|.str name,a7<|.ref M.length,a]) ?_ ?_ ⟨[],_,aY.trans aY,J,⟨ad af,λk d z=>(by cases z),λk _=>rfl,λ_ _ _ z=>(by cases z)⟩,u6 _,rfl⟩;rintro S f ⟨c,a,pM,p,tr,_,rfl⟩;rw[LO]at tr;refine⟨.inl p,?_⟩;simp only[da];walk_at"dl";exact .inl<|h _ _ _ pM tr;rintro i y S f O ⟨c,a,pM,p,tr,tl,rfl⟩ G x;have L:F.take (i+1)=F.take i++[y]:=by rw[Ma,O];rfl
 rw[L]at x;have hi:=(z6.mp O).1;obtain⟨t,z,k,n,r,hs,rfl⟩:=K y<|J1 O;have E:∀k,(((F.take i).filter λd=>decide<|cF d=k).map ir).length<=i:=λk=>by rw[u8];refine J4 (KZ _ _) ?_;rw[Kt];lia
 generalize q:(λH=>(((F.take i++[D.tup [.int t,.tup [.str z,.int k],.int n,.tup [.str<|t5 "read",.str r,.tup<|oZ hs]]]).filter λd=>decide<|cF d=H).map ir))=N at x;have v:∀H,N H=if r=H then(((F.take i).filter λd=>decide<|cF d=H).map ir)++[.tup<|oZ hs]else(((F.take i).filter λd=>decide<|cF d=H).map ir):=λH=>by rw[<-q];dsimp only;rw[Pd,Kr,Nw,List.filter_nil];by_cases e:r=H;rw[o5 e,show decide (cF (.tup [.int t,.tup [.str z,.int k],.int n,.tup [.str<|t5 "read",.str r,.tup<|oZ hs]])=H)=a9 from dT_ e];rfl;rw[o6 e,show decide (cF (.tup [.int t,.tup [.str z,.int k],.int n,.tup [.str<|t5 "read",.str r,.tup<|oZ hs]])=H)=bt from dF_ e];exact KO _
 clear q;refine⟨.inl p,?_⟩;walk_at"dl";have I:atI [D.int t,.tup [.str z,.int k],.int n,.tup [.str<|t5 "read",.str r,.tup<|oZ hs]] 3=a7 (.tup [.str<|t5 "read",.str r,.tup<|oZ hs]):=ap (j:=3) rfl;rw[I];dsimp only;rw[PH];dsimp only;show (∃kvs,f[M.length]?=a7 (MO.dct kvs))/\_;refine⟨⟨_,tr.at_⟩,?_⟩;walk_at"dl";rw[I];dsimp only;rw[Ml];dsimp only;refine⟨z5 _,c,ad tr.at_,av (by lia),λy O=>?_,λQ=>?_⟩;obtain⟨m,rfl,nm,C⟩:=tr.got r y O;refine⟨⟨_,.inl<|ad C⟩,_,ad C,av (by have:=E r;lia),C4.now<|x _ _ ⟨c,_,cu (pM.trans aY) (by lia),aM (by lia)<|ad p,⟨aM (by lia)<|ad tr.at_,λH d b=>?_,λH b=>?_,tr.one⟩,by lia,rfl⟩⟩;obtain⟨s,rfl,o,g⟩:=tr.got H d b;refine⟨s,rfl,o,?_⟩;rw[v];by_cases e:r=H;subst e;rw[O]at b;obtain rfl:m=s:=by injection b with b;injection b
 rw[bU<|ad C,o5 rfl];rw[o6 e];exact aM (λz=>e<|tr.one _ _ _ (z ▸ O) b)<|ad g;have e:r≠H:=λz=>by rw[<-z,O]at b;cases b
 rw[v,o6 e];exact tr.no H b;have W:M.length+1<f.length:=bq p;have A:((f++[MO.lst []]).set M.length<|.dct<|qq c r<|.ref f.length)[f.length]?=a7 (.lst []):=aM (by lia) af;have B:∀H,gU (qq c r<|.ref f.length) H=if r=H then a7 (.ref f.length)else gU c H:=λH=>by by_cases e:r=H;rw[o5 e,<-e,ye];rw[o6 e,wS<|D2 e]
 refine⟨⟨_,.inl A⟩,_,A,av (by rw[D3];lia),C4.now<|x _ _ ⟨qq c r<|.ref f.length,_,cu (cu (pM.trans aY)<|u6 _) (by lia),aM (by lia)<|aM (by lia)<|ad p,⟨aM (by lia)<|bU<|ad tr.at_,λH d b=>?_,λH b=>?_,λT U m h1 h2=>?_⟩,by have:=(Bs (kvs:=c) (k:=r) (d:=.ref f.length)).1;lia,rfl⟩⟩;rw[B]at b;by_cases e:r=H;rw[o5 e]at b;subst e;exact⟨f.length,by injection b with b;exact b.symm,W,by rw[bU A,v,o5 rfl,tr.no _ Q]⟩;rw[o6 e]at b;obtain⟨s,rfl,o,g⟩:=tr.got H d b;have:=bq g;exact⟨s,rfl,o,by rw[v,o6 e];exact aM (by lia)<|aM (by lia)<|ad g⟩;rw[B]at b;by_cases e:r=H;rw[o5 e]at b;cases b;rw[o6 e]at b;rw[v,o6 e];exact tr.no H b;rw[B]at h1 h2;have u:∀H m,gU c H=a7 (.ref m)->m<f.length:=λH m h'=>by obtain⟨s,e,_,g⟩:=tr.got H _ h';injection e with e;rw[e];exact bq g
 by_cases l:r=T<;>by_cases w:r=U;rw[<-l,<-w];rw[o5 l]at h1;rw[o6 w]at h2;have:=u _ _ h2;injection h1 with h1;injection h1 with h1;lia;rw[o6 l]at h1;rw[o5 w]at h2;have:=u _ _ h1;injection h2 with h2;injection h2 with h2;lia;rw[o6 l]at h1;rw[o6 w]at h2;exact tr.one _ _ _ h1 h2
theorem jp(T:Tops P w K mg base):v4 P w K mg base 3 "vectors_by_room" cw bo:=v4.byD (N:=["log","name","vectors","deed"]) T.b T.f_vectors_by_room (by walk_at"sc") iJ (by have:=mJ T;walk_at"dv") iU
def gQ:x5:=λds M R=>∃(ps:List (b9×Int)) (a:List (b9×List b9)) (log:List D) (n:b9) (e:D) (v qs:Nat) (b:List (b9×D)),ds=[e,.str n,.ref v,.ref qs]/\(∀d∈log,ay ps a d)/\log.length<=1000/\ay ps a e/\cH e=t5 "say"/\VbAt M v b (qE log n)/\M[qs]?=a7 (.lst<|kB log (t5 "seen") n)/\(∀x∈kB log (t5 "seen") n,St x)/\R (.bl<|pk log n e) M
theorem uG:cZ gQ mC:=by rintro ds M R ⟨ps,a,log,n,e,v,qs,b,rfl,_⟩;rfl
theorem DZ(h:∀d∈log,ay ps rs d):∀v∈qE log name r,∃hs:List (D×Int),v=.tup (oZ hs)/\(∀p∈hs,Hd p.1)/\hs.length<=12:=λv c=>by obtain⟨d,m,rfl⟩:=w9.mp c;obtain⟨h1,h2,_⟩:=mM (E6.mp m).1;obtain⟨t,z,k,n,r,hs,rfl,b,g⟩:=yT (h d h1) h2;exact⟨hs,rfl,b,g⟩
theorem AX:(qE log name r).length<=log.length:=by unfold qE;rw[u8];exact J4 (KZ _ _) mO
def lL:t7:=bn<|u5 GJ<|aa (E8 1 [0] (bN<|NQ vQ (ac 2)<|aa (u5 bx<|aa (ac 0) ag)<|aa (fN ag) ag) (am 0) nF<|u5 dJ<|aa (ac 1)<|aa (ac 0) ag) ag
def rA:t7:=ax (B6 (Ng (aE<|tx C5 (u5 aW<|aa (ac 0) ag)<|ac 1)<|aE<|tx Nf (u5 bK<|aa (ac 0) ag)<|ac 3) (bn<|dC<|.bl a9) bj)<|lL
theorem wN:A5 gQ 4 rA:=by
 rintro ds M R ⟨ps,G,log,name,e,A,qs,f,rfl,w,F,n,y,i,o,hs,h⟩;obtain⟨t,z,k,m,r,u,s,rfl,_⟩:=fV n y;have c:St (.tup [.int t,.tup [.str z,.int k]]):=⟨_,_,_,rfl⟩
 simp only[rA];walk_at"dl";refine⟨_,_,_,_,rfl,⟨aJ,aJ⟩,?_⟩;rw[cA];unfold pk at h;rw[show jP (.tup [.int t,.tup [.str z,.int k],.int m,.tup [.str<|t5 "say",.str r,u,.str s]])=z from rfl,show w4 (.tup [.int t,.tup [.str z,.int k],.int m,.tup [.str<|t5 "say",.str r,u,.str s]])=.tup [.int t,.tup [.str z,.int k]]from rfl,show cF (.tup [.int t,.tup [.str z,.int k],.int m,.tup [.str<|t5 "say",.str r,u,.str s]])=r from rfl]at h;by_cases b:z=name;rw[beq_iff_eq.mpr b];rw[dT_ b]at h;exact dB<|aQ.now h;rw[beq_eq_false_iff_ne.mpr b];rw[dF_ b,Bool.false_or]at h;refine dz ⟨_,_,_,rfl,_,.inl o,⟨c.ok,vL hs⟩,?_⟩;rw[wk c hs];by_cases l:D.tup [.int t,.tup [.str z,.int k]]∈kB log (t5 "seen") name;rw[dT_ l];rw[dT_ l]at h;exact dB<|aQ.now h;rw[dF_ l];rw[dF_ l,Bool.false_or]at h;refine dz ?_;simp only[lL];walk_at"dl";show (∃d,M[A]?=a7 (MO.dct d))/\_;refine⟨⟨_,i.at_⟩,?_⟩;walk_at"dl";refine⟨_,_,_,_,_,_,rfl,z5 _,f,ad i.at_,?_⟩;obtain⟨q,X,g⟩:=(i.pre<|aY (mo:=MO.lst [])).kids (k:=r) af;rw[X];have pM:M <+: M++[MO.lst []]:=aY;generalize M++[MO.lst []]=B at g pM;have E:=AX (log:=log) (name:=name) (r:=r);have V:=DZ (name:=name) (r:=r) w;generalize qE log name r=L at g h E V;refine⟨_,.inl g,λ_=>?_⟩;refine aU (λv=>.bl<|fj (GE v) (.tup [.str z,.int k]) m) (λS=>∃a,S=[a,a7<|.tup [.int t,.tup [.str z,.int k],.int m,.tup [.str<|t5 "say",.str r,u,.str s]]]) (.inl g) _ _ _ (λv x S p=>?_) ⟨_,rfl⟩ (by rw[D3];exact ah<|by lia) ?_;obtain⟨a,rfl⟩:=p;obtain⟨hs,rfl,C,P⟩:=V v x;refine⟨[a7<|.tup<|oZ hs,a7<|.tup [.int t,.tup [.str z,.int k],.int m,.tup [.str<|t5 "say",.str r,u,.str s]]],⟨_,rfl⟩,λY j=>?_⟩;rw[AY]at j;walk_at"dl";exact⟨_,_,_,_,hs,rfl,⟨_,_,rfl⟩,C,by lia,j⟩;refine⟨L.map λv=>fj (GE v) (.tup [.str z,.int k]) m,?_,?_⟩;rw[Fn,show bls (L.map λv=>fj (GE v) (.tup [.str z,.int k]) m)=L.map λv=>.bl (fj (GE v) (.tup [.str z,.int k]) m) by unfold bls;rw[E7];rfl];exact ae;rw[List.any_map];exact aQ.bl h<|pM.trans aY
theorem xm(T:Tops P w K mg base):v4 P w K mg base 2 "is_read" mC gQ:=v4.byD (N:=["say","name","vectors","seen"]) T.b T.f_is_read (by walk_at"sc") uG (by have:=eQ T;have:=cG T;have:=si T;have:=gD T;walk_at"dv") wN
def bp:x5:=λds M R=>∃(ps:List (b9×Int)) (a:List (b9×List b9)) (log:List D) (e:b9),ds=[aC ps a,.tup log,.str e]/\(∀d∈log,ay ps a d)/\log.length<64/\R (.ref M.length) (M++[.lst<|(dP a log e).map<|mL<|az (aB a log) log])
theorem iK:cZ bp cx:=by rintro ds M R ⟨ps,a,log,e,rfl,_⟩;rfl
theorem cr(h:∀d∈log,ay ps rs d):∀p∈aB rs log,p.1=w4 p.2/\ay ps rs p.2/\cH p.2=t5 "say":=λp a=>by have h1:=(rU.mp a).1;have b:=cW (rs:=rs) (log:=log);exact⟨(b.en p h1).1,kK h (λ_ q=>q) b p h1⟩
theorem vX(f:∀p∈ch,∃s,p.2=.str s)(h:ay ps rs d)(c:cH d=t5 "say"):C8 n (mL ch d):=by
 obtain⟨t,z,k,m,r,u,s,rfl,_,_,_,g⟩:=fV h c;have b:C8 n u:=by rcases g with rfl|g;exact .non;exact bA 2 u g.pl
 refine .tup<|.cons (bA 2 _<|St.pl (n:=0) ⟨t,z,k,rfl⟩)<|.cons (.str _)<|.cons b<|.cons (.str _)<|.cons ?_<|.cons (.bl _) .nil;cases e:bi ch (w4<|.tup [.int t,.tup [.str z,.int k],.int m,.tup [.str<|t5 "say",.str r,u,.str s]]) with
 |none=>exact .str _
 |some v=>obtain⟨s',a⟩:=f _<|eA e;dsimp only at a;rw[a];exact .str _
def dc:t7:=bn<|E8 1 [6,2,3,4] (sX<|ac 5) (am 0) (Gs<|aE<|u5 gQ<|aa (ac 0)<|aa (ac 2)<|aa (ac 3)<|aa (ac 4) ag)<|u5 cU<|aa (ac 0)<|aa (ac 1) ag
def dg:t7:=ax (aT (u5 cb<|aa (ac 1)<|aa (ac 5) ag) 6)<|dc
def dh:t7:=ax (aT (u5 cT<|aa (ac 0)<|aa (ac 1) ag) 5)<|dg
def dj:t7:=ax (aT (u5 cD<|aa (ac 1)<|aa (dC<|.str "seen")<|aa (ac 2) ag) 4)<|dh
def eD:t7:=ax (aT (u5 bo<|aa (ac 1)<|aa (ac 2) ag) 3)<|dj
theorem iV:A5 bp 7 eD:=by
 rintro ds M R ⟨ps,rs,log,b,rfl,g,D,h⟩;simp only[eD];walk_at"dl";refine⟨ps,rs,log,b,rfl,g,by lia,λn B u H G=>?_⟩;simp only[dj];walk_at"dl";refine⟨ps,rs,log,_,b,rfl,g,by lia,.inl rfl,λhs=>?_⟩;have v:=G.pre<|aY (mo:=MO.lst<|kB log (t5 "seen") b);have o:(B++[MO.lst<|kB log (t5 "seen") b])[B.length]?=a7 (.lst<|kB log (t5 "seen") b):=af;have C:=H.trans<|aY (mo:=MO.lst<|kB log (t5 "seen") b);generalize B++[MO.lst<|kB log (t5 "seen") b]=I at v o C;generalize B.length=qs at o;simp only[dh];walk_at"dl";refine⟨ps,rs,log,rfl,g,D,λE J i z=>?_⟩;have s:=cr (rs:=rs) g;have O:(aB rs log).length<=1000:=by have h1:=(cW (rs:=rs) (log:=log)).len;have h2:=bE (log:=log) (k:=t5 "say");have N:(aB rs log).length<=(aG rs log).length:=KZ _ _;lia
 simp only[dg];walk_at"dl";refine⟨ps,rs,log,E,aB rs log,rfl,g,by lia,z,λp j=>(s p j).2.1.nm,λt K f g3=>?_⟩;have w:=v.pre<|i.trans f;have m:=bJ (i.trans f) o;have l:=bJ f z;have F:=C.trans<|i.trans f;simp only[dc];walk_at"dl";refine⟨_,l,λ_=>?_⟩;refine aO (λe=>!pk log b e) (mL<|az (aB rs log) log) (λS=>∃a,S=[a,a7<|.ref t,a7<|.str b,a7<|.ref n,a7<|.ref qs]) l _ _ _ ?_ ⟨_,rfl⟩ (by rw[D3,u8];exact ah<|by lia) ?_;rintro e r S ⟨a,rfl⟩;refine⟨[a7 e,a7<|.ref t,a7<|.str b,a7<|.ref n,a7<|.ref qs],⟨_,rfl⟩,λY Z c=>?_⟩;obtain⟨p,j,rfl⟩:=w9.mp r;obtain⟨_,x,y⟩:=s p j;walk_at"dl";refine⟨ps,rs,log,b,p.2,n,qs,u,rfl,g,by lia,x,y,w,m,hs,?_⟩;cases A:pk log b p.2 with
 |true=>rw[A]at c;exact c
 |false=>rw[A]at c;exact⟨ps,rs,p.2,t,_,rfl,x,y,g3,c⟩
 rw[Fn];obtain⟨L,rfl⟩:=F;rw[G5];have U:((aB rs log).map (·.2)).filter (λe=>!pk log b e)=dP rs log b:=rfl;rw[U];refine aQ.lst h (by simp) (by simp)<|Bels.of λd q=>?_;obtain⟨e,r,rfl⟩:=w9.mp q;obtain⟨p,j,rfl⟩:=w9.mp (E6.mp r).1;exact vX (nu g) (s p j).2.1 (s p j).2.2
theorem jq(T:Tops P w K mg base):v4 P w K mg base 6 "unread_messages" cx bp:=v4.byD (N:=["house","log","name","vectors","seen","says","changes"]) T.b T.f_unread_messages (by walk_at"sc") iK (by have:=nL T;have:=mH T;have:=pF T;have:=pE T;have:=jp T;have:=xm T;walk_at"dv") iV
def bw:x5:=λds M R=>∃(ps:List (b9×Int)) (a:List (b9×List b9)) (q:Nat) (r:b9) (s:List (D×D)),ds=[.ref q,.str r]/\M[q]?=a7 (.dkt s)/\(∀p∈s,ay ps a p.2/\cH p.2=t5 "say")/\s.length<=1000/\∀n B b,M <+: B->TreeAt B n b (aK r (s.map (·.2)))->R (.ref n) B
theorem jt:cZ bw cK:=by rintro ds M R ⟨ps,a,q,r,s,rfl,_⟩;rfl
def dD:t7:=bn<|ac 2
def dE:t7:=ax (nG (sX<|ac 0) (am 3)<|B6 (aE<|tx C5 (u5 bx<|aa (ac 3) ag)<|ac 1) (jy<|K8 cv (MC sd (ac 2)<|aa (u5 cB<|aa (ac 3) ag)<|aa (fN ag) ag)<|aa (u5 bK<|aa (ac 3) ag) ag) bj)<|dD
def fq:t7:=ax (aT (CW) 2)<|dE
theorem jB:A5 bw 4 fq:=by
 rintro ds M R ⟨ps,rs,q,r,j,rfl,I,Z,kl,h⟩;simp only[fq,dE];walk_at"dl";refine⟨j,ad I,λ_=>?_⟩;have ab:=bq I;refine bf (λi S f=>∃(c:List (D×D)) (a:Option D),M <+: f/\TreeAt f M.length c (aK r ((j.map (·.2)).take i))/\c.length<=i/\S=[a7<|.ref q,a7<|.str r,a7<|.ref M.length,a]) ?_ ?_ ⟨[],_,aY,⟨af,λk d z=>(by cases z),λk _=>rfl,λ_ _ _ z=>(by cases z)⟩,u6 _,rfl⟩;rintro S f ⟨c,a,pM,tr,_,rfl⟩;rw[LO]at tr;refine⟨bJ pM I,?_⟩;simp only[dD];walk_at"dl";exact .inl<|h _ _ _ pM tr;rintro i e S f F ⟨c,a,pM,tr,tl,rfl⟩ G n;have U:(j.map (·.2)).take (i+1)=(j.map (·.2)).take i++[e]:=by rw[Ma,F];rfl
 rw[U]at n;have hi:=(z6.mp F).1;rw[u8]at hi;have hm:=J1 F;obtain⟨p,hp,rfl⟩:=w9.mp hm;obtain⟨T,W⟩:=Z p hp;generalize p.2=e at F U n T W;refine⟨bJ pM I,?_⟩;walk_at"dl";have E:∀k,(aK r ((j.map (·.2)).take i) k).length<=i:=λk=>by unfold aK;rw[u8];refine J4 (KZ _ _) ?_;rw[Kt];lia
 generalize (j.map (·.2)).take i=es at tr n E;obtain⟨t,z,k,x,r',u,s,rfl,_,_,_,hu⟩:=fV T W;have L:∀H,aK r (es++[.tup [.int t,.tup [.str z,.int k],.int x,.tup [.str<|t5 "say",.str r',u,.str s]]]) H=if r'=r/\u=H then aK r es H++[.tup [.int t,.tup [.str z,.int k]]]else aK r es H:=λH=>zP
 generalize es++[.tup [.int t,.tup [.str z,.int k],.int x,.tup [.str<|t5 "say",.str r',u,.str s]]]=l at L n;have ku:xA u=a9:=by
  rcases hu with rfl|⟨t',z',H,rfl⟩
  rfl;rfl
 refine⟨_,_,_,_,_,_,rfl,⟨aJ,aJ⟩,?_⟩;rw[cA];by_cases J:r'=r;rw[beq_iff_eq.mpr J];have Y:aK r l u=aK r es u++[.tup [.int t,.tup [.str z,.int k]]]:=by rw[L,o5 ⟨J,rfl⟩]
 have K:∀H,H≠u->aK r l H=aK r es H:=λH ne=>by rw[L,o6 λw=>ne w.2.symm]
 refine dB ⟨⟨_,tr.at_⟩,_,_,_,_,_,_,_,rfl,z5 _,c,ad tr.at_,ku,av (by lia),λy O=>?_,λV=>?_⟩;obtain⟨m,rfl,nm,P⟩:=tr.got u y O;refine⟨⟨_,.inl<|ad P⟩,_,_,_,rfl,_,ad P,av (by have:=E u;lia),C4.now<|n _ _ ⟨c,_,cu (pM.trans aY)<|LZ nm,⟨aM (by lia)<|ad tr.at_,λH d b=>?_,λH b=>?_,tr.one⟩,by lia,rfl⟩⟩;obtain⟨v,rfl,o,g⟩:=tr.got H d b;refine⟨v,rfl,o,?_⟩;by_cases e:H=u;subst e;rw[O]at b;obtain rfl:m=v:=by injection b with b;injection b
 rw[bU<|ad P,Y];rw[K H e];exact aM (λz=>e<|tr.one _ _ _ (z ▸ b) O)<|ad g;have e:H≠u:=λz=>by rw[z,O]at b;cases b
 rw[K H e];exact tr.no H b;have lM:M.length<f.length:=bq tr.at_;have N:((f++[MO.lst []]).set M.length<|.dkm<|c++[(u,.ref f.length)])[f.length]?=a7 (.lst []):=aM (by lia) af;have Q:∀H,bi (c++[(u,.ref f.length)]) H=if H=u then a7 (.ref f.length)else bi c H:=λH=>by rw[<-sf V];by_cases e:H=u;rw[o5 e,e,jv];rw[o6 e,gi e]
 refine⟨⟨_,.inl N⟩,_,_,_,rfl,_,N,av (by rw[D3];lia),C4.now<|n _ _ ⟨c++[(u,.ref f.length)],_,cu (cu (pM.trans aY)<|u6 _) (by lia),⟨aM (by lia)<|bU<|ad tr.at_,λH d b=>?_,λH b=>?_,λk1 k2 m h1 h2=>?_⟩,by rw[A1,F8];lia,rfl⟩⟩;rw[Q]at b;by_cases e:H=u;rw[o5 e]at b;subst e;exact⟨f.length,by injection b with b;exact b.symm,lM,by rw[bU N,Y,tr.no _ V]⟩;rw[o6 e]at b;obtain⟨v,rfl,o,g⟩:=tr.got H d b;have:=bq g;exact⟨v,rfl,o,by rw[K H e];exact aM (by lia)<|aM (by lia)<|ad g⟩;rw[Q]at b;by_cases e:H=u;rw[o5 e]at b;cases b;rw[o6 e]at b;rw[K H e];exact tr.no H b;rw[Q]at h1 h2;have A:∀H m,bi c H=a7 (.ref m)->m<f.length:=λH m h'=>by obtain⟨v,e,_,g⟩:=tr.got H _ h';injection e with e;rw[e];exact bq g
 by_cases B:k1=u<;>by_cases C:k2=u;rw[B,C];rw[o5 B]at h1;rw[o6 C]at h2;have:=A _ _ h2;injection h1 with h1;injection h1 with h1;lia;rw[o6 B]at h1;rw[o5 C]at h2;have:=A _ _ h1;injection h2 with h2;injection h2 with h2;lia;rw[o6 B]at h1;rw[o6 C]at h2;exact tr.one _ _ _ h1 h2;rw[beq_eq_false_iff_ne.mpr J];have X:∀H,aK r l H=aK r es H:=λH=>by rw[L,o6 λw=>J w.1]
 exact dz<|C4.now<|n _ _ ⟨c,_,pM,⟨tr.at_,λH d b=>by rw[X];exact tr.got H d b,λH b=>by rw[X];exact tr.no H b,tr.one⟩,by lia,rfl⟩
theorem jM(T:Tops P w K mg base):v4 P w K mg base 2 "stamps_beneath" cK bw:=v4.byD (N:=["says","room","beneath","say"]) T.b T.f_stamps_beneath (by walk_at"sc") jt (by have:=eQ T;have:=gD T;have:=iG T;walk_at"dv") jB
def bZ:x5:=λds M R=>∃(n:Int) (q:Nat) (xs:List D),ds=[.int n,.ref q]/\al M q xs/\(∀x∈xs,St x)/\R (.ref M.length) (M++[.lst<|cS n xs])
theorem nS:cZ bZ gd:=by rintro ds M R ⟨n,q,xs,rfl,_⟩;rfl
def kc:t7:=bn<|E8 1 [0] (CU<|aa (ac 1) ag) (am 0) nF<|fL<|aa (ac 1)<|aa (ac 0) ag
theorem oY:A5 bZ 2 kc:=by rintro ds M R ⟨n,q,xs,rfl,L,hs,h⟩;simp only[kc];walk_at"dl";refine⟨xs,L,λg=>?_⟩;refine aU (λx=>.tup [.int n,x]) (λS=>∃a,S=[a,a7<|.int n]) L _ _ _ (λx c S b=>?_) ⟨_,rfl⟩ (by rw[D3,ACy];lia)<|.inl h;obtain⟨a,rfl⟩:=b;refine⟨[a7 x,a7<|.int n],⟨_,rfl⟩,λY D=>?_⟩;walk_at"dl";exact⟨ah (by lia),D⟩
theorem pG(T:Tops P w K mg base):v4 P w K mg base 1 "last_first" gd bZ:=v4.byD (N:=["depth","stamps"]) T.b T.f_last_first (by walk_at"sc") nS (by walk_at"dv") oY
def bX:x5:=λds M R=>∃(n:Nat) (b:List (D×D)) (es:List D) (r:b9),ds=[.ref n]/\TreeAt M n b (aK r es)/\(∀e∈es,St (w4 e)/\(ir e=.non\/St (ir e)))/\(es.map w4).Nodup/\es.length<=100/\∀out,RunW (aK r es) [] (cS 0<|aK r es .non) out->(∀x∈out,∃k s,x=.tup [.int k,s]/\St s)->out.length<=es.length->R (.ref M.length) (M++[.lst out])
theorem kD:cZ bX dS:=by rintro ds M R ⟨n,b,es,r,rfl,_⟩;rfl
theorem wZ(h:a<=1000):a<=sizeLine:=ah<|by lia
theorem iteT'{b:Bool}{A B:Prop}(e:b=a9)(h:A):if b=a9 then A else B:=by rw[o5 e];exact h
def fu:t7:=bn<|ac 1
def fv:t7:=jy<|K8 mh (ac 2)<|aa (u5 bZ<|aa (tx aA (tx v7 (ac 3)<|dC<|.int 0)<|dC<|.int 1)<|aa (MC oJ (ac 0)<|aa (tx v7 (ac 3)<|dC<|.int 1)<|aa (fN ag) ag) ag) ag
def fx:t7:=ax (jy<|K8 cv (ac 1)<|aa (ac 3) ag)<|fv
def fy:t7:=ax (wu (aE<|tx LC (u5 jH<|aa (ac 2) ag)<|dC<|.int 0)<|ax (aT (dMl0 Hl<|ac 2) 3)<|fx)<|fu
def fA:t7:=ax (aT (u5 bZ<|aa (dC<|.int 0)<|aa (MC oJ (ac 0)<|aa (dC .non)<|aa (fN ag) ag) ag) 2)<|fy
def hW:t7:=ax (aT (fN ag) 1)<|fA
theorem kW:A5 bX 4 hW:=by
 rintro ds M R ⟨n,O,es,r,rfl,tr,hs,X,el,h⟩;have A:M <+: M++[MO.lst []]++[MO.lst []]:=aY.trans aY;have g0:(M++[MO.lst []]++[MO.lst []])[(M++[MO.lst []]).length]?=a7 (.lst []):=af;have E:(M++[MO.lst []]++[MO.lst []])[M.length]?=a7 (.lst []):=ad af;have V:∀k,∀x∈aK r es k,St x:=λk x K=>by obtain⟨e,u,rfl,_⟩:=kO.mp K;exact(hs e u).1
 simp only[hW,fA];walk_at"dl";refine⟨z5 _,⟨_,ad tr.at_⟩,z5 _,_,ad<|ad tr.at_,rfl,?_⟩;obtain⟨q,eq,gq⟩:=(tr.pre A).kids (k:=.non) g0;rw[eq];refine⟨0,q,_,rfl,.inl gq,V _,?_⟩;have W:M.length<(M++[MO.lst []]++[MO.lst []]).length:=by simp
 have J:(M++[MO.lst []]++[MO.lst []]++[MO.lst<|cS 0<|aK r es .non])[(M++[MO.lst []]++[MO.lst []]).length]?=a7 (.lst<|cS 0<|aK r es .non):=af;replace E:=ad (a:=MO.lst<|cS 0<|aK r es .non) E;replace A:=A.trans<|aY (mo:=MO.lst<|cS 0<|aK r es .non);generalize M++[MO.lst []]++[MO.lst []]++[MO.lst<|cS 0<|aK r es .non]=B at J E A;generalize (M++[MO.lst []]++[MO.lst []]).length=N at J W;have eS:∀e∈es,w4 e≠.non:=λe u z=>by obtain⟨t,z',k,Q⟩:=(hs e u).1;rw[z]at Q;cases Q
 simp only[fy];walk_at"dl";refine⟨λm S j=>∃(b o:List D) (a:Option D),M <+: j/\j[M.length]?=a7 (.lst b)/\j[N]?=a7 (.lst o)/\TreeW r es b o/\(∀out,RunW (aK r es) b o out->RunW (aK r es) [] (cS 0<|aK r es .non) out)/\m+b.length=es.length/\S=[a7<|.ref n,a7<|.ref M.length,a7<|.ref N,a],⟨es.length,[],_,_,A,E,J,.start X,λ_ z=>z,rfl,rfl⟩,?_⟩;rintro m S j ⟨b,o,a,pM,U,F,w,T,hm,rfl⟩;have wl:=w.len;walk_at"dl";refine⟨_,.inl F,?_⟩;have l:∀x∈b,∃k s,x=D.tup [.int k,s]/\St s:=λx K=>by obtain⟨k,e,q1,q2,_⟩:=w.ok x<|Ld _ K;exact⟨k,_,q1,(hs e q2).1⟩
 rcases List.eq_nil_or_concat o with rfl|⟨c,x,rfl⟩
 refine dz ?_;simp only[fu];walk_at"dl";refine aQ.chgL .refl (h b (T _ .done) l<|by lia) (u6 _) U pM<|Bels.of λd hd=>?_;obtain⟨k,s,rfl,q⟩:=l d hd;exact .tup<|.cons (.int _)<|.cons (bA 2 _ q.pl) .nil;rw[List.concat_eq_append]at *;have wo:=w.ok x (by simp);obtain⟨k,e,rfl,u,_⟩:=wo;have Y:=w.step X eS;have P:=Y.len;have H:∀out,RunW (aK r es) (b++[.tup [.int k,w4 e]]) (c++cS (k+1) (aK r es<|w4 e)) out->RunW (aK r es) [] (cS 0<|aK r es .non) out:=λout z=>T out (by have:=RunW.step z;simpa using this);have ks:=Cf (r:=r) (es:=es) (k:=w4 e);have ke:xA (w4 e)=a9:=by obtain⟨t,z,k,q⟩:=(hs e u).1;rw[q];rfl
 have L:=V<|w4 e;rw[A1,A1,F8]at P;generalize w4 e=s at *;rw[A1,F8]at wl;refine iteT' (dT_<|by rw[A1,F8];lia) ⟨⟨_,.inl F⟩,c,_,F,?_⟩;have C:=cu (x:=MO.lst c) pM<|LZ W;have g:=aM (x:=MO.lst c) (x9 W) U;have y:=bU (a:=MO.lst c) F;generalize j.set N (MO.lst c)=Z at C g y;simp only[fx];walk_at"dl";refine⟨⟨_,.inl g⟩,_,g,av (by lia),?_⟩;have p:=cu (x:=MO.lst<|b++[.tup [.int k,s]]) C<|u6 _;have v:=bU (a:=MO.lst<|b++[.tup [.int k,s]]) g;have f:=aM (x:=MO.lst<|b++[.tup [.int k,s]]) (D2<|x9 W) y;generalize Z.set M.length (MO.lst<|b++[.tup [.int k,s]])=M2 at p v f;simp only[fv];walk_at"dl";have i:=tr.pre p;refine⟨⟨_,.inl f⟩,⟨_,i.at_⟩,z5 _,O,ad i.at_,ke,?_⟩;obtain⟨q',G,I⟩:=(i.pre<|aY (mo:=MO.lst [])).kids (k:=s) (q0:=M2.length) af;rw[G];refine⟨k+1,q',_,rfl,.inl I,L,?_⟩;have lq:=bq f;refine⟨_,_,ad<|ad f,af,by rw[A1];lia,wZ (by unfold cS;rw[u8,ACy];lia),m-1,?_,b++[.tup [.int k,s]],_,_,cu ((p.trans aY).trans aY)<|LZ W,aM (x9 W)<|ad<|ad v,bU<|ad<|ad f,Y,H,?_,rfl⟩;lia;rw[A1,F8];lia
theorem mG(T:Tops P w K mg base):v4 P w K mg base 2 "rows_of_tree" dS bX:=v4.byD (N:=["beneath","rows","to_do","row"]) T.b T.f_rows_of_tree (by walk_at"sc") kD (by have:=pG T;walk_at"dv") kW
def gL:x5:=λds M R=>∃(ps:List (b9×Int)) (a:List (b9×List b9)) (log:List D) (r:b9),ds=[aC ps a,.tup log,.str r]/\r∈a.map (·.1)/\(∀d∈log,ay ps a d)/\log.length<64/\∀out,RunW (aK r ((aG a log).map (·.2))) [] (cS 0 (aK r ((aG a log).map (·.2)) .non)) out->(∀x∈out,∃k s,x=.tup [.int k,s]/\St s)->out.length<=log.length->R (.ref M.length) (M++[.lst<|out.filter λx=>@decide (¬cf (aG a log) log (fJ x))<|J2 _])
theorem uA:cZ gL mv:=by rintro ds M R ⟨ps,a,log,r,rfl,_⟩;rfl
def lh:t7:=bn<|E8 1 [4] (bN<|u5 bX<|aa (u5 bw<|aa (ac 3)<|aa (ac 2) ag) ag) (am 0) (aE<|tx me (tx v7 (ac 0)<|dC<|.int 1)<|ac 1)<|ac 0
def ls:t7:=ax (aT (u5 aL<|aa (ac 1)<|aa (ac 3) ag) 4)<|lh
def lu:t7:=ax (aT (u5 aV<|aa (ac 0)<|aa (ac 1) ag) 3)<|ls
def qL:t7:=ax (B6 (Gs<|aE<|u5 gP<|aa (ac 0)<|aa (ac 2) ag) (wv) bj)<|lu
theorem wH:A5 gL 5 qL:=by
 rintro ds M R ⟨ps,rs,log,r,rfl,N,w,K,h⟩;simp only[qL];walk_at"dl";refine⟨ps,rs,r,rfl,N,dz ?_⟩;simp only[lu];walk_at"dl";refine⟨ps,rs,log,rfl,w,by lia,λn B H c=>?_⟩;have l:=cW (rs:=rs) (log:=log);have C:=kK w (λ_ q=>q) l;have kl:=bE (log:=log) (k:=t5 "say");have tl:=l.len;simp only[ls];walk_at"dl";refine⟨ps,rs,log,n,aG rs log,rfl,w,K,c,λp f=>(C p f).1.nm,λys j O ab _=>?_⟩;have o:(B++[MO.lst ys])[B.length]?=a7 (.lst ys):=af;replace c:=ad (a:=MO.lst ys) c;replace H:=H.trans<|aY (mo:=MO.lst ys);generalize B++[MO.lst ys]=B1 at o c H;generalize B.length=F at o;simp only[lh];walk_at"dl";refine⟨ps,rs,n,r,aG rs log,rfl,c,C,by lia,λU J D E tr=>?_⟩;have G:∀e∈(aG rs log).map (·.2),St (w4 e)/\(ir e=.non\/St (ir e)):=λe I=>by obtain⟨p,f,rfl⟩:=w9.mp I;obtain⟨h1,h2⟩:=C p f;generalize p.2=e at h1 h2;obtain⟨t,z,k,W,r',u,s,rfl,_,_,_,P⟩:=fV h1 h2;exact⟨⟨t,z,k,rfl⟩,P⟩
 have V:(((aG rs log).map (·.2)).map w4).Nodup:=by
  have:((aG rs log).map (·.2)).map w4=(aG rs log).map (·.1):=by rw[E7];exact M9 λp f=>(l.en p f).1.symm
  rw[this];exact l.nd
 refine⟨U,D,_,r,rfl,tr,G,V,by rw[u8];lia,λout Q A X=>?_⟩;rw[u8]at X;have g:=ad (a:=MO.lst out)<|bJ E o;have i:=(H.trans E).trans<|aY (mo:=MO.lst out);have v:(J++[MO.lst out])[J.length]?=a7 (.lst out):=af;generalize J++[MO.lst out]=B3 at g i v;refine⟨_,.inl v,λ_=>?_⟩;refine aO (λx=>@decide (¬cf (aG rs log) log (fJ x))<|J2 _) id (λS=>∃a,S=[a,a7<|.ref F]) (.inl v) _ _ _ ?_ ⟨_,rfl⟩ (by rw[D3];exact ah<|by lia) ?_;rintro x T S ⟨a,rfl⟩;refine⟨[a7 x,a7<|.ref F],⟨_,rfl⟩,λY Z b=>?_⟩;obtain⟨k,s,rfl,hs⟩:=A x T;walk_at"dl";refine⟨_,.inl g,⟨hs.ok,vL j⟩,?_⟩;rw[wk hs j];by_cases m:s∈ys;rw[dT_ m];rw[show @decide (¬cf (aG rs log) log (fJ<|.tup [.int k,s])) (J2 _)=bt from @decide_eq_false _ (J2 _) λz=>z<|(O s).mp m]at b;exact b;rw[dF_ m];rw[show @decide (¬cf (aG rs log) log (fJ<|.tup [.int k,s])) (J2 _)=a9 from @decide_eq_true _ (J2 _) λz=>m<|(O s).mpr z]at b;exact b;rw[Fn,MN];refine aQ.chgL .refl (h out Q A<|by lia) (by obtain⟨L,rfl⟩:=i;simp) af (i.trans aY)<|Bels.of λd y=>?_;obtain⟨k,s,rfl,q⟩:=A d (E6.mp y).1;exact .tup<|.cons (.int _)<|.cons (bA 2 _ q.pl) .nil
theorem xh(T:Tops P w K mg base):v4 P w K mg base 5 "rows_of" mv gL:=v4.byD (N:=["house","log","room","says","backs"]) T.b T.f_rows_of (by walk_at"sc") uA (by have:=xk T;have:=dG T;have:=cQ T;have:=jM T;have:=mG T;walk_at"dv") wH
def bu:xV:=λds M R RX=>∃(ps:List (b9×Int)) (a:List (b9×List b9)) (log:List D) (e r:b9),ds=[aC ps a,.tup log,.str e,.str r]/\(∀d∈log,ay ps a d)/\log.length<64/\(e∉iT a r->RX (t5 "NoRoom") M)/\(e∈iT a r->(ik a log e r).length<=log.length->R (.ref M.length) (M++[.lst<|(ik a log e r).map<|mL<|az (aB a log) log]))
theorem kE:GO bu dU:=by rintro ds M R RX ⟨ps,a,log,e,r,rfl,_⟩;rfl
theorem yf(h:∀d∈log,ay ps rs d):∀e∈dP rs log name,ay ps rs e/\cH e=t5 "say":=λe i=>by obtain⟨p,a,rfl⟩:=w9.mp (E6.mp i).1;exact(cr h p a).2
theorem Bc(h:∀d∈log,ay ps rs d):bi (tN rs log name) s=(Dr rs log name s).map (mL<|az (aB rs log) log):=xG (λq a=>(cr h q a).1) vO
theorem Ea(h:∀d∈log,ay ps rs d):((tN rs log name).map (·.1)).Nodup:=by
 have e:(tN rs log name).map (·.1)=(dP rs log name).map w4:=by unfold tN;rw[E7];rfl
 have l:((aB rs log).map (·.2)).map w4=(aB rs log).map (·.1):=by rw[E7];exact M9 λp a=>(cr h p a).1.symm
 rw[e];refine(Ph.map _).nodup ?_;rw[l];exact vO
theorem vV{rs:List (b9×List b9)}{log:List D}{name:b9}{f:D->D}{g:D->Option D}(hg:∀s,g s=(Dr rs log name s).map f):∀out:List D,(((out.filter λx=>@decide (¬cf (aG rs log) log (fJ x))<|J2 _).filter λx=>(g<|fJ x).isSome).map λx=>(g<|fJ x).getD .non)=(out.filterMap λx=>Dr rs log name<|fJ x).map f
 | []=>rfl
 |x::out=>by
  have ih:=vV hg out;rw[Nw,Me];cases hn:Dr rs log name (fJ x) with
  |none=>rw[<-ih];split;rw[Nw,hg,hn];rfl;rfl
  |some e =>
   have hb:=(rU.mp<|eA (zp hn).1).2;have hs:(g<|fJ x).isSome=a9:=by rw[hg,hn];rfl
   rw[@decide_eq_true _ (J2 _) hb,o5 rfl,Nw,o5 hs,B8,ih,hg,hn];rfl
theorem zZ(h:name∈iT rs r):r∈rs.map (·.1):=by
 unfold iT at h;cases S:rs.find? λp=>decide (p.1=r) with
 |none=>rw[S]at h;cases h
 |some p=>have:=MT S;exact oT_ this ▸ Lb (Qi S)
def fB:D8:=Mh<|bn<|E8 2 [4] (bN<|u5 gL<|aa (ac 0)<|aa (ac 1)<|aa (ac 3) ag) (ng 2<|bV (am 0)<|bV (am 1) nh) (aE<|tx Ep (ac 1)<|ac 2)<|jV (ac 2)<|ac 1
def fE:D8:=GD (Mh<|aT (u5 iy<|aa (E8 1 [] (bN<|u5 bp<|aa (ac 0)<|aa (ac 1)<|aa (ac 2) ag) (am 0) nF<|fL<|aa (tx v7 (ac 0)<|dC<|.int 0)<|aa (ac 0) ag) ag) 4)<|fB
def hZ:D8:=GD (xIfE (xOpR me (ac 2)<|LR bY<|aa (ac 0)<|aa (ac 3) ag) (qu "NoRoom"<|aa (dC<|.str "this person is no member of the room") ag)<|Mh bj)<|fE
theorem kX:NS bu 5 hZ:=by
 rintro ds M R RX ⟨ps,rs,log,name,r,rfl,g,E,X,h⟩;simp only[hZ];walk_at"dl";refine⟨ps,rs,r,rfl,λz=>.inl<|X λq=>z<|zZ q,λV=>⟨⟨aJ,lV⟩,?_⟩⟩;rw[mX];by_cases n:name∈iT rs r
 case neg =>
  rw[dF_ n];exact dB ⟨ah (by decide),.inl<|X n⟩
 rw[dT_ n];replace h:=h n;refine dz ?_;simp only[fE];walk_at"dl";refine⟨ps,rs,log,name,rfl,g,E,_,ae,λ_=>?_⟩;have o:=yf (name:=name) g;have ul:(dP rs log name).length<=100:=by have h1:=(cW (rs:=rs) (log:=log)).len;have h2:=bE (log:=log) (k:=t5 "say");have h3:(aB rs log).length<=(aG rs log).length:=KZ _ _;have O:(dP rs log name).length<=((aB rs log).map (·.2)).length:=KZ _ _;rw[u8]at O;lia
 refine aU (λm=>.tup [fH m,m]) (λS=>∃a,S=[a]) ae _ _ _ (λm Q S P=>?_) ⟨_,rfl⟩ (by rw[D3,u8];exact ah<|by lia) ?_;obtain⟨a,rfl⟩:=P;obtain⟨e,i,rfl⟩:=w9.mp Q;refine⟨[a7<|mL (az (aB rs log) log) e],⟨_,rfl⟩,λY C=>?_⟩;obtain⟨t,z,k,y,r',u,s,rfl,_⟩:=fV (o e i).1 (o e i).2;unfold mL at C ⊢;walk_at"dl";exact⟨ah (by decide),C⟩;rw[Fn,E7];have K:(dP rs log name).map ((λm=>D.tup [fH m,m]) ∘ mL (az (aB rs log) log))=(tN rs log name).map λp=>.tup [p.1,p.2]:=by unfold tN;rw[E7];refine M9 λe i=>?_;obtain⟨t,z,k,y,r',u,s,rfl,_⟩:=fV (o e i).1 (o e i).2;rfl
 rw[K];refine⟨_,ae,λp U=>?_,by unfold tN;rw[u8];lia,?_⟩;obtain⟨e,i,rfl⟩:=w9.mp U;have J:=(o e i).1.st;obtain⟨F,q⟩:=J.tup;exact⟨J.key,by show gh (w4 e)=a9;rw[q];rfl⟩;rw[sW _<|Ea g];have H:=(aY (M:=M) (mo:=MO.lst<|(dP rs log name).map<|mL<|az (aB rs log) log)).trans<|aY (mo:=MO.lst<|(tN rs log name).map λp=>D.tup [p.1,p.2]);generalize M++[MO.lst<|(dP rs log name).map<|mL<|az (aB rs log) log]++[MO.lst<|(tN rs log name).map λp=>D.tup [p.1,p.2]]=B at H;have j:(B++[MO.dkt<|tN rs log name])[B.length]?=a7 (.dkt<|tN rs log name):=af;replace H:=H.trans<|aY (mo:=MO.dkt<|tN rs log name);generalize B++[MO.dkt<|tN rs log name]=I at j H;generalize B.length=G at j;simp only[fB];walk_at"dl";refine⟨ps,rs,log,r,rfl,V,g,E,λout W T ol=>?_⟩;have N:=W.out;have l:(I++[MO.lst<|out.filter λx=>@decide (¬cf (aG rs log) log (fJ x))<|J2 _])[I.length]?=a7 (.lst<|out.filter λx=>@decide (¬cf (aG rs log) log (fJ x))<|J2 _):=af;replace j:=ad (a:=MO.lst<|out.filter λx=>@decide (¬cf (aG rs log) log (fJ x))<|J2 _) j;replace H:=H.trans<|aY (mo:=MO.lst<|out.filter λx=>@decide (¬cf (aG rs log) log (fJ x))<|J2 _);have fl:=KZ (λx=>@decide (¬cf (aG rs log) log (fJ x))<|J2 _) out;have nr:=vV (rs:=rs) (log:=log) (name:=name) (f:=mL<|az (aB rs log) log) (λs=>Bc (s:=s) g) out;generalize I++[MO.lst<|out.filter λx=>@decide (¬cf (aG rs log) log (fJ x))<|J2 _]=B2 at l j H;generalize I.length=qo at l;refine⟨_,.inl l,λ_=>?_⟩;refine aO (λx=>(bi (tN rs log name)<|fJ x).isSome) (λx=>(bi (tN rs log name)<|fJ x).getD .non) (λS=>∃a b,S=[a,b,a7<|.ref G]) (.inl l) _ _ _ ?_ ⟨_,_,rfl⟩ (by rw[D3];exact ah<|by lia) ?_;rintro x hx S ⟨a,b,rfl⟩;obtain⟨k,s,rfl,hs⟩:=T x (E6.mp hx).1;refine⟨[a7<|.int k,a7 s,a7<|.ref G],⟨_,_,rfl⟩,λY Z c=>?_⟩;have w:=hs.key;obtain⟨F,e⟩:=hs.tup;have es:fJ (.tup [.int k,s])=s:=rfl;rw[es]at c;rw[e]at c w ⊢;walk_at"dl";refine⟨trivial,_,j,w,?_⟩;cases v:bi (tN rs log name) (.tup F) with
 |none=>rw[v]at c;exact c
 |some d=>rw[v]at c;exact⟨_,_,j,w,v,c⟩
 rw[Fn,nr];have A:(out.filterMap λx=>Dr rs log name<|fJ x)=ik rs log name r:=by unfold ik;rw[<-N]
 rw[A];have nl:(ik rs log name r).length<=log.length:=by have:=List.length_filterMap_le (λx=>Dr rs log name<|fJ x) out;rw[A]at this;lia
 refine aQ.chgL .refl (h nl) (by obtain⟨L,rfl⟩:=H;simp) af (H.trans aY)<|Bels.of λd q=>?_;obtain⟨e,i,rfl⟩:=w9.mp q;obtain⟨s,_,h1,_⟩:=vW i;exact vX (nu g) (cr g _<|eA h1).2.1 (cr g _<|eA h1).2.2
theorem gf(T:Tops P w K mg base):uX P w K mg base 7 "new_messages" dU bu:=uX.by (N:=["house","log","name","room","unread"]) T.b T.f_new_messages (by walk_at"sc") kE (by have:=jr T;have:=jq T;have:=xh T;have:=T.cl;walk_at"dvx") kX
def cX:xV:=λds M R RX=>∃(ps:List (b9×Int)) (a:List (b9×List b9)) (log:List D) (e r:b9),ds=[aC ps a,.tup log,.str e,.str r]/\(∀d∈log,ay ps a d)/\log.length<64/\(e∉iT a r->RX (t5 "NoRoom") M)/\(e∈iT a r->(ik a log e r).length<=log.length->(∀x∈(ik a log e r).map w4,St x)->R (.ref M.length) (M++[.lst<|(ik a log e r).map w4]))
theorem uE:GO cX mz:=by rintro ds M R RX ⟨ps,a,log,e,r,rfl,_⟩;rfl
theorem iI(h:∀d∈log,ay ps rs d):∀e∈ik rs log name r,ay ps rs e/\cH e=t5 "say":=λe i=>by obtain⟨s,_,h1,_⟩:=vW i;exact(cr h _<|eA h1).2
def qQ:D8:=xRet<|OA 1 [] (LR bu<|aa (ac 0)<|aa (ac 1)<|aa (ac 2)<|aa (ac 3) ag) (am 0) nF<|tx v7 (ac 0)<|dC<|.int 0
theorem wL:NS cX 4 qQ:=by
 rintro ds M R RX ⟨ps,c,log,n,r,rfl,b,j,X,h⟩;simp only[qQ];walk_at"dl";refine⟨ps,c,log,n,r,rfl,b,j,λz=>.inl<|X z,λp w=>⟨_,ae,λ_=>?_⟩⟩;refine aU fH (λS=>∃a,S=[a]) ae _ _ _ (λm o S g=>?_) ⟨_,rfl⟩ (by rw[D3,u8];exact ah<|by lia) ?_;obtain⟨a,rfl⟩:=g;obtain⟨e,i,rfl⟩:=w9.mp o;refine⟨[a7<|mL (az (aB c log) log) e],⟨_,rfl⟩,λY D=>?_⟩;obtain⟨t,z,k,f,r',u,s,rfl,_⟩:=fV (iI b e i).1 (iI b e i).2;unfold mL at D ⊢;walk_at"dl";exact D;have l:((ik c log n r).map<|mL<|az (aB c log) log).map fH=(ik c log n r).map w4:=by rw[E7];refine M9 λe i=>?_;obtain⟨t,z,k,f,r',u,s,rfl,_⟩:=fV (iI b e i).1 (iI b e i).2;rfl
 have hs:∀x∈(ik c log n r).map w4,St x:=λx v=>by obtain⟨e,i,rfl⟩:=w9.mp v;exact(iI b e i).1.st
 rw[Fn,l];exact aQ.chgL .refl (h p w hs) (by simp) af (aY.trans aY)<|Bels.of λd q=>bA 2 d (hs d q).pl
theorem jN(T:Tops P w K mg base):uX P w K mg base 8 "new_for" mz cX:=uX.by (N:=["house","log","name","room"]) T.b T.f_new_for (by walk_at"sc") uE (by have:=gf T;walk_at"dvx") wL
def cI:xV:=λds M R RX=>∃(ps:List (b9×Int)) (a:List (b9×List b9)) (log:List D) (n r:b9),ds=[aC ps a,.tup log,.str n,.str r]/\(∀d∈log,ay ps a d)/\log.length<64/\n.length<=100/\(n∉iT a r->RX (t5 "NoRoom") M)/\(n∈iT a r->R (.ref M.length) (M++[.lst<|((ik a log n r).filter λe=>eG (AR a log e) n).map w4]))
theorem pO:GO cI iA:=by rintro ds M R RX ⟨ps,a,log,e,r,rfl,_⟩;rfl
noncomputable def fifD:D->D
 |.tup [_,_,_,_,s,_]=>s
 |_=>.non
theorem Bo(h:∀d∈log,ay ps rs d)(n:ay ps rs e)(y:cH e=t5 "say"):∃s:b9,AR rs log e=.str s/\s.length<=100:=by
 unfold AR;cases S:bi (az (aB rs log) log) (w4 e) with
 |none=>exact Ek n y
 |some v=>obtain⟨d,m,t⟩:=w9.mp<|oS _<|eA S;obtain⟨h1,h2⟩:=br (E6.mp m).1;have:=xQ (h d h1) h2;injection t with _ e2;rw[<-e2];exact this
def lJ:D8:=xRet<|OA 1 [2] (LR bu<|aa (ac 0)<|aa (ac 1)<|aa (ac 2)<|aa (ac 3) ag) (am 0) (aE<|u5 fi<|aa (tx v7 (ac 0)<|dC<|.int 4)<|aa (ac 1) ag)<|tx v7 (ac 0)<|dC<|.int 0
theorem qy:NS cI 4 lJ:=by
 rintro ds M R RX ⟨ps,g,log,n,r,rfl,p,v,y,X,h⟩;simp only[lJ];walk_at"dl";refine⟨ps,g,log,n,r,rfl,p,v,λz=>.inl<|X z,λx A=>⟨_,ae,λ_=>?_⟩⟩;have J:∀e∈ik g log n r,∃a b c d s f,mL (az (aB g log) log) e=.tup [a,b,c,d,.str s,f]/\a=w4 e/\AR g log e=.str s/\s.length<=100:=λe i=>by obtain⟨h1,h2⟩:=iI p e i;obtain⟨s,t,l⟩:=Bo p h1 h2;have k:(bi (az (aB g log) log)<|w4 e).getD (sayO e)=.str s:=t;exact⟨_,_,_,_,s,_,by unfold mL;rw[k],rfl,t,l⟩
 refine aO (λm=>eG (fifD m) n) fH (λS=>∃a,S=[a,a7<|.str n]) ae _ _ _ ?_ ⟨_,rfl⟩ (by rw[D3,u8];exact ah<|by lia) ?_;rintro m w S ⟨a,rfl⟩;obtain⟨e,i,rfl⟩:=w9.mp w;refine⟨[a7<|mL (az (aB g log) log) e,a7<|.str n],⟨_,rfl⟩,λY Z o=>?_⟩;obtain⟨a,b,c,d,s,f,t,l,k,I⟩:=J e i;rw[t]at o ⊢;walk_at"dl";rw[show atI [a,b,c,d,D.str s,f] 4=a7 (.str s)from ap (j:=4) rfl];refine⟨s,n,rfl,I,y,?_⟩;exact o;have u:(((ik g log n r).map<|mL<|az (aB g log) log).filter λm=>eG (fifD m) n).map fH=((ik g log n r).filter λe=>eG (AR g log e) n).map w4:=by
  rw[List.filter_map,E7];have C:(ik g log n r).filter ((λm=>eG (fifD m) n) ∘ mL (az (aB g log) log))=(ik g log n r).filter λe=>eG (AR g log e) n:=List.filter_congr λe i=>by obtain⟨a,b,c,d,s,f,t,l,k,I⟩:=J e i;show eG (fifD<|mL (az (aB g log) log) e) n=_;rw[t,k];rfl
  rw[C];refine M9 λe i=>?_;obtain⟨a,b,c,d,s,f,t,l,k,I⟩:=J e (E6.mp i).1;show fH (mL (az (aB g log) log) e)=_;rw[t,<-l];rfl
 rw[Fn,u];refine aQ.chgL .refl (h x) (by simp) af (aY.trans aY)<|Bels.of λd q=>?_;obtain⟨e,i,rfl⟩:=w9.mp q;exact bA 2 _ (iI p e (E6.mp i).1).1.st.pl
theorem kn(T:Tops P w K mg base):uX P w K mg base 8 "named_for" iA cI:=uX.by (N:=["house","log","name","room"]) T.b T.f_named_for (by walk_at"sc") pO (by have:=uk T;have:=gf T;walk_at"dvx") qy
def cJ:xV:=λds M R RX=>∃(ps:List (b9×Int)) (a:List (b9×List b9)) (log:List D) (e r:b9),ds=[aC ps a,.tup log,.str e,.str r]/\(∀d∈log,ay ps a d)/\log.length<64/\(e∉iT a r->RX (t5 "NoRoom") M)/\(e∈iT a r->R (((ik a log e r).map w4).headD .non) M)
theorem pS:GO cJ iE:=by rintro ds M R RX ⟨ps,a,log,e,r,rfl,_⟩;rfl
def jd:D8:=Mh<|bn<|dIfE (aE<|tx LC (u5 jH<|aa (ac 4) ag)<|dC<|.int 0) (tx v7 (ac 4)<|dC<|.int 0)<|dC .non
def lR:D8:=GD (xSet (LR cX<|aa (ac 0)<|aa (ac 1)<|aa (ac 2)<|aa (ac 3) ag) 4)<|jd
theorem qC:NS cJ 5 lR:=by
 rintro ds M R RX ⟨ps,a,log,e,r,rfl,d,g,X,h⟩;simp only[lR];walk_at"dl";refine⟨ps,a,log,e,r,rfl,d,g,λz=>.inl<|X z,λf w hs=>?_⟩;replace h:=h f;generalize (ik a log e r).map w4=xs at h hs;simp only[jd];walk_at"dl";refine⟨_,ae,?_⟩;cases xs with
 |nil=>exact aQ.non h aY
 |cons x xs=>have b:=hs x C9;have p:decide ((0:Int)<((x::xs).length:Int))=a9:=dT_ (by rw[B9];lia);rw[p];refine dB ⟨_,ae,?_⟩;rw[LU];exact aQ.keep h (bA 2 x b.pl) aY
theorem ko(T:Tops P w K mg base):uX P w K mg base 9 "first_new" iE cJ:=uX.by (N:=["house","log","name","room","new"]) T.b T.f_first_new (by walk_at"sc") pS (by have:=jN T;walk_at"dvx") qC
noncomputable def wz(ns:List Int)(k:Nat):Int:=ns.getD k 0
def cY:x5:=λds M R=>∃(n:Nat) (ns:List Int) (k:Nat),ds=[.ref n,.int k]/\al M n (ns.map D.int)/\R (.int<|wz ns k) M
theorem uH:cZ cY mD:=by rintro ds M R ⟨n,ns,k,rfl,_⟩;rfl
def lT:t7:=bn<|dC<|.int 0
def rL:t7:=ax (B6 (aE<|tx LB (ac 1)<|u5 jH<|aa (ac 0) ag) (bn<|tx v7 (ac 0)<|ac 1) bj)<|lT
theorem wO:A5 cY 2 rL:=by rintro ds M R ⟨n,ns,k,rfl,L,h⟩;simp only[rL,lT];walk_at"dl";refine⟨_,L,?_⟩;unfold wz at h;by_cases a:k<ns.length;rw[dT_<|by simpa using a];refine dB ⟨_,L,?_⟩;rw[ap (v:=.int ns[k])<|by rw[D5,v9 a];rfl];rw[Kx,v9 a]at h;exact aQ.now h;rw[dF_<|by simpa using a];rw[Kx,Mf<|by lia]at h;exact dz<|aQ.now h
theorem oN(T:Tops P w K mg base):v4 P w K mg base 1 "_law_cell_at" mD cY:=v4.byD (N:=["_law_script","_law_k"]) T.b T.f_cell_at (by walk_at"sc") uH (by walk_at"dv") wO
def dI:x5:=λds M R=>∃(c k:Int),ds=[.int c,.int k]/\(0<=k/\k<=1000)/\∀i:Int,R (.int i) M
theorem zE:cZ dI ue:=by rintro ds M R ⟨c,k,rfl,_⟩;rfl
def re:t7:=bn<|tx bP (tx aA (tx aA (tx jG (ac 2)<|dC<|.int 69621)<|tx jG (tx jG (dC<|.int 7919)<|ac 1)<|ac 1)<|dC<|.int 5)<|dC<|.int 1999999973
def yk:t7:=ax (aT (tx bP (tx jG (tx aA (tx aA (tx bP (ac 0)<|dC<|.int 2147483629)<|tx jG (dC<|.int 7919)<|ac 1)<|dC<|.int 11)<|dC<|.int 48271)<|dC<|.int 2147483587) 2)<|re
theorem AT:A5 dI 3 yk:=by rintro ds M R ⟨c,k,rfl,⟨L,C⟩,h⟩;simp only[yk,re];walk_at"dl";exact⟨by decide,.inl ⟨by decide,by decide⟩,.inr ⟨by decide,by decide⟩,by decide,.inr ⟨by decide,by decide⟩,.inl ⟨by decide,by decide⟩,.inr ⟨by lia,by lia⟩,by decide,aQ.now<|h _⟩
theorem vT(T:Tops P w K mg base):v4 P w K mg base 1 "_law_mixed" ue dI:=v4.byD (N:=["_law_cell","_law_k","_law_number"]) T.b T.f_mixed (by walk_at"sc") zE (by walk_at"dv") AT
def nC:x5:=λds M R=>∃(c k:Int),ds=[.int c,.int k]/\(0<=k/\k<=900)/\∀i:Int,R (.int i) M
theorem BZ:cZ nC zh:=by rintro ds M R ⟨c,k,rfl,_⟩;rfl
def vF:t7:=bn<|u5 dI<|aa (u5 dI<|aa (ac 0)<|aa (ac 1) ag)<|aa (tx aA (ac 1)<|dC<|.int 9) ag
def Di:t7:=ax (B6 (aE<|tx C5 (tx bP (ac 0)<|dC<|.int 2)<|dC<|.int 0) (bn<|tx aI (ac 0)<|dC<|.int 2) bj)<|vF
theorem DY:A5 nC 2 Di:=by
 rintro ds M R ⟨c,k,rfl,⟨L,C⟩,h⟩;simp only[Di,vF];walk_at"dl";refine⟨by decide,⟨aw,aw⟩,?_⟩;cases u3 M ve (.int<|c % 2) (.int 0) with
 |true=>exact dB ⟨⟨by decide,by decide⟩,aQ.now<|h _⟩
 |false=>exact dz ⟨c,k,rfl,⟨L,by lia⟩,λi=>⟨i,k+9,rfl,⟨by lia,by lia⟩,λj=>aQ.now<|h j⟩⟩
theorem ES(T:Tops P w K mg base):v4 P w K mg base 2 "_law_free" zh nC:=v4.byD (N:=["_law_cell","_law_k"]) T.b T.f_free (by walk_at"sc") BZ (by have:=vT T;walk_at"dv") DY
def gO:x5:=λds M R=>∃(n:Nat) (ns:List Int) (a m:Nat),ds=[.ref n,.int a,.int m]/\al M n (ns.map D.int)/\ns.length<=100/\a<=10/\m<=100/\∀xs:List Int,xs.length<=m->R (.ref M.length) (M++[.lst<|xs.map .int])
theorem uD:cZ gO my:=by rintro ds M R ⟨n,ns,a,m,rfl,_⟩;rfl
theorem Co{ns:List Int}{lo hi:Option Int}:∃l:List Int,cutD (ns.map D.int) lo hi=l.map D.int:=by unfold cutD;rw[<-N7,<-List.map_take];exact⟨_,rfl⟩
theorem CZ{xs:List D}{s m:Nat}:(cutD xs (a7<|(s:Int)+1)<|a7<|(s:Int)+1+(m:Int)).length<=m:=by unfold cutD;rw[Kt,show ((s:Int)+1)=((s+1:Nat):Int) by lia,show (((s+1:Nat):Int)+(m:Int))=((s+1+m:Nat):Int) by lia,HT.sIx_nat,HT.sIx_nat];lia
def jY:t7:=bn<|ac 4
def jZ:t7:=jy<|K8 cv (ac 4)<|aa (tx aA (tx jG (ac 9)<|dC<|.int 1000003)<|u5 dI<|aa (ac 9)<|aa (tx aA (ac 7)<|dC<|.int 5) ag) ag
def fO:t7:=ax (nG (bC<|aa (u5 jH<|aa (ac 8) ag) ag) (am 7)<|ax (aT (u5 dI<|aa (u5 dI<|aa (tx v7 (ac 8)<|ac 7)<|aa (ac 7) ag)<|aa (dC<|.int 3) ag) 9)<|jZ)<|jY
def lA:t7:=ax (B6 (aE<|tx C5 (ac 8)<|fN ag) (il 1 [3] (bC<|aa (tx bP (tx aI (ac 3)<|dC<|.int 2)<|tx aA (ac 2)<|dC<|.int 1) ag) (am 0) nF (tx aA (tx aI (ac 1)<|dC<|.int 2)<|tx jG (dC<|.int 7)<|ac 0) 8) bj)<|fO
def lB:t7:=ax (aT (LS (ac 0) (nj<|tx aA (ac 1)<|dC<|.int 1)<|nj<|tx aA (tx aA (ac 1)<|dC<|.int 1)<|ac 2) 8)<|lA
def lC:t7:=bn<|ac 4
def lD:t7:=aT (tx aI (ac 5)<|tx GH (dC<|.int 10)<|dC<|.int 24) 5
def lE:t7:=ax (nG (bC<|aa (ac 6) ag) (am 7)<|ax (jy<|K8 cv (ac 4)<|aa (tx bP (ac 5)<|tx GH (dC<|.int 10)<|dC<|.int 24) ag)<|lD)<|lC
def lF:t7:=ax (aT (tx aI (ac 5)<|tx aA (ac 2)<|dC<|.int 1) 5)<|lE
def lG:t7:=ax (aT (tx bP (ac 5)<|tx aA (ac 2)<|dC<|.int 1) 6)<|lF
def lH:t7:=ax (B6 (aE<|tx C5 (tx bP (ac 3)<|dC<|.int 2)<|dC<|.int 0) (ax (aT (tx aI (ac 3)<|dC<|.int 2) 5)<|lG) bj)<|lB
def lI:t7:=ax (aT (fN ag) 4)<|lH
def qP:t7:=ax (aT (u5 cY<|aa (ac 0)<|aa (ac 1) ag) 3)<|lI
theorem oO{M L:t9}{R:DK}{cs:List Int}{c m:Nat}{q y1 j k l n t u:Option D}(g:al (M++MO.lst []::L) c (cs.map D.int))(p:c≠M.length)(z:cs.length<=m)(V:m<=100)(h:∀xs:List Int,xs.length<=m->R (.ref M.length) (M++[.lst<|xs.map .int])):fO (EE M R) [q,y1,j,k,a7<|.ref M.length,l,n,t,a7<|.ref c,u] (M++MO.lst []::L):=by
 simp only[fO];walk_at"dl";refine⟨_,g,⟨by lia,by rw[u8];lia⟩,?_⟩;refine bf (λi S f=>∃(xs:List Int) (a b:Option D),xs.length=i/\(∃d,f=M++MO.lst (xs.map .int)::d)/\al f c (cs.map D.int)/\S=[q,y1,j,k,a7<|.ref M.length,l,n,a,a7<|.ref c,b]) ?_ ?_ ⟨[],_,_,rfl,⟨L,rfl⟩,g,rfl⟩;rintro S f ⟨xs,a,b,x,⟨d,rfl⟩,O,rfl⟩;rw[aR,u8,KG]at x;refine⟨trivial,?_⟩;simp only[jY];walk_at"dl";exact aQ.lst (h xs<|by lia) (u6 _) cz<|wj xs;rintro i y S f s ⟨xs,a,b,x,⟨d,rfl⟩,O,rfl⟩ G r;obtain⟨hi,rfl⟩:=bG.mp s;rw[u8,KG]at hi;refine⟨trivial,?_⟩;walk_at"dl";have e:atI (cs.map D.int) (0+(i:Int))=a7 (.int cs[i]):=by rw[Mp];exact ap<|by rw[D5,v9 hi];rfl
 refine⟨_,O,?_⟩;rw[e];refine⟨_,_,rfl,⟨by lia,by lia⟩,λv=>⟨v,3,rfl,⟨by decide,by decide⟩,λo=>?_⟩⟩;simp only[jZ];walk_at"dl";refine⟨⟨_,.inl cz⟩,.inr ⟨by decide,by decide⟩,o,_,rfl,⟨by lia,by lia⟩,λw=>⟨xs.map .int,cz,by rw[u8];exact av (by lia),C4.now<|r _ _ ⟨xs++[o*1000003+w],_,_,by simp[x],⟨d,?_⟩,zw p O,rfl⟩⟩⟩;rw[lX];simp
theorem wK:A5 gO 10 qP:=by
 rintro ds M R ⟨n,ns,a,m,rfl,L,H,F,V,h⟩;simp only[qP];walk_at"dl";refine⟨n,ns,a,rfl,L,?_⟩;generalize wz ns a=c;simp only[lI,lH];walk_at"dl";refine⟨z5 _,by decide,⟨aw,aw⟩,?_⟩;have E:(0:Int)<(m:Int)+1:=by lia
 cases u3 (M++[MO.lst []]) ve (.int<|c % 2) (.int 0) with
 |true=>refine dB ?_;simp only[lG,lF];walk_at"dl";have B:=bR (a:=c / 2) E;have C:=cq (a:=c / 2) E;refine⟨⟨by decide,by decide⟩,E,⟨E,by lia⟩,?_⟩;simp only[lE];walk_at"dl";refine⟨⟨by lia,by lia⟩,?_⟩;refine bf (λi S g=>∃(xs:List Int) (r:Int) (b:Option D),xs.length=i/\g=M++MO.lst (xs.map .int)::[]/\S=[a7<|.ref n,a7<|.int a,a7<|.int m,a7<|.int c,a7<|.ref M.length,a7<|.int r,a7<|.int<|c / 2 % ((m:Int)+1),b,a8,a8]) ?_ ?_ ⟨[],_,_,rfl,rfl,rfl⟩;rintro S g ⟨xs,r,b,f,rfl,rfl⟩;rw[aR]at f;refine⟨trivial,?_⟩;simp only[lC];walk_at"dl";exact aQ.lst (h xs<|by lia) (u6 _) cz<|wj xs;rintro i y S g O ⟨xs,r,b,f,rfl,rfl⟩ G u;obtain⟨hi,rfl⟩:=bG.mp O;refine⟨trivial,?_⟩;simp only[lD];walk_at"dl";refine⟨⟨_,.inl cz⟩,⟨by decide,by decide,by decide⟩,by decide,xs.map .int,cz,by rw[u8];exact av (by lia),⟨by decide,by decide,by decide⟩,⟨by decide,by decide⟩,C4.now<|u _ _ ⟨xs++[r % 10 ^ Int.toNat 24],_,_,by simp[f],?_,rfl⟩⟩;rw[lX];simp
 |false =>
  refine dz ?_;simp only[lB];walk_at"dl";obtain⟨cs,e⟩:=Co (ns:=ns) (lo:=a7<|(a:Int)+1) (hi:=a7<|(a:Int)+1+(m:Int));have p:cs.length<=m:=by have:=CZ (xs:=ns.map D.int) (s:=a) (m:=m);rw[e,u8]at this;exact this
  refine⟨_,L.more _,?_⟩;rw[e,G5];simp only[lA];walk_at"dl";have t:(M++[MO.lst []]).length=M.length+1:=by simp
  rw[t];have A:al (M++MO.lst []::[MO.lst<|cs.map D.int]) (M.length+1) (cs.map D.int):=.inl kQ;obtain⟨o,l⟩:=pJ A λx f=>by obtain⟨i,_,rfl⟩:=w9.mp f;exact aw
  refine⟨z5 _,o,?_⟩;rw[l];cases hs:(cs.map D.int).isEmpty with
  |true =>
   have B:=bR (a:=c / 2) E;have C:=cq (a:=c / 2) E;refine dB ⟨⟨by decide,by decide⟩,E,⟨by lia,by lia⟩,?_⟩;refine aU (λd=>match d with|.int k=>.int (c / 2+7*k)|_=>.non) (λS=>∃b,S=[b,a7<|.int c]) trivial _ _ _ (λk z S v=>?_) ⟨_,rfl⟩ ?_ ?_;obtain⟨b,rfl⟩:=v;obtain⟨i,hi⟩:=Lc z;obtain⟨_,rfl⟩:=bG.mp hi;refine⟨[a7<|.int<|0+(i:Int),a7<|.int c],⟨_,rfl⟩,λY w=>?_⟩;walk_at"dl";exact⟨⟨by decide,by decide⟩,.inl ⟨by decide,by decide⟩,w⟩;rw[D3,aR];exact ah (by lia);obtain⟨ds,j,q⟩:∃ds:List Int,(gy 0 (c / 2 % ((m:Int)+1)).toNat).map (λd=>match d with|.int k=>D.int (c / 2+7*k)|_=>.non)=ds.map D.int/\ds.length<=m:=by refine⟨(A7 (c / 2 % ((m:Int)+1)).toNat).map λ(i:Nat)=>c / 2+7*(0+(i:Int)),?_,by rw[u8,Mc];lia⟩;unfold gy;rw[E7,E7];rfl
   rw[Fn,j,G5,G5];refine oO (cs:=ds) ?_ ?_ q V h;exact .inl (by simp);simp
  |false=>refine dz ?_;rw[G5];exact oO (.inl kQ) (by lia) p V h
theorem xj(T:Tops P w K mg base):v4 P w K mg base 2 "_law_numbers" my gO:=v4.byD (N:=["_law_script","_law_start","_law_most","_law_head","_law_found","_law_rest","_law_many","_law_k","_law_cells","_law_one"]) T.b T.f_numbers (by walk_at"sc") uD (by have:=oN T;have:=vT T;walk_at"dv") wK
def jz:x5:=λds M R=>∃(c:Int) (m:Nat),ds=[.int c,.int m]/\1<=m/\m<=4/\∀xs:List b9,xs.length=m->(∀x∈xs,x.length<=8)->xs.Nodup->R (.ref M.length) (M++[.lst<|xs.map .str])
theorem zD:cZ jz ud:=by rintro ds M R ⟨c,m,rfl,_⟩;rfl
theorem Cp(u:Option Int)(n:Nat):NH a8 u 1 n=NH (a7 ((0:Nat):Int)) u 1 n:=by unfold NH;simp only[show (1:Int) > 0 by decide,p7];congr 1
theorem Jh(l:Option Int)(n:Nat):NH l a8 1 n=NH l (a7 ((n:Nat):Int)) 1 n:=by unfold NH;simp only[show (1:Int) > 0 by decide,p7];congr 1;rw[o6<|by lia];lia
theorem vN(x:b9)(b:Nat):(Kv x a8<|a7 (b:Int)).cps.toList=x.cps.toList.take b:=by have e:=rS x (a:=0) (b:=b)<|z5 _;rw[eJ]at e ⊢;rw[Cp];rw[e];simp
theorem xb(x:b9)(a:Nat)(h:a<=x.length):(Kv x (a7 (a:Int)) a8).cps.toList=x.cps.toList.drop a:=by have e:=rS x (a:=a) (b:=x.length) h;rw[eJ]at e ⊢;rw[Jh];rw[e];rw[NC];rw[KD,bT];lia
theorem wD(a:0<=i)(h1:i<26):∃c:Nat,atI (t5 "abcdefghijklmnopqrstuvwxyz").cps.toList i=a7 c/\(97<=c/\c<=122)/\c=97+i.toNat:=by
 have g:(t5 "abcdefghijklmnopqrstuvwxyz").cps.toList=(A7 26).map (· + 97):=by decide +kernel
 obtain⟨j,L,e,B⟩:=AJ (xs:=(t5 "abcdefghijklmnopqrstuvwxyz").cps.toList) a (by rw[g];simpa using h1);refine⟨_,e,?_⟩;have l:(t5 "abcdefghijklmnopqrstuvwxyz").cps.toList[j]?=a7 (j+97):=by rw[g,u8,Mc]at L;rw[g,D5,List.getElem?_range L];rfl
 rw[v9 L]at l;have R:=B5 l;have h:j<26:=by rw[g,u8,Mc]at L;exact L
 rw[R];lia
theorem Am{at_ s o:Nat}{a:List b9}(l:a.length<=4)(h:∀(j:Nat) z,a[j]?=a7 z->z.length=s/\z.cps.toList[at_]?=a7 (97+(o+j) % 26)):a.Nodup:=by rw[Mz,Ox];intro i j hi L b e;have h1:=(h i _<|v9 hi).2;have h2:=(h j _<|v9 L).2;rw[e,h2]at h1;have:=B5 h1;lia
theorem Dd(h:97<=ch/\ch<=122):∃(i:Nat) (aF:List Nat),NG (t5 "abcdefghijklmnopqrstuvwxyz") ⟨#[ch]⟩ 0 (t5 "abcdefghijklmnopqrstuvwxyz").length 1=i::aF:=by
 have f:=StrLaws.found_one (t5 "abcdefghijklmnopqrstuvwxyz") ch;have g:(t5 "abcdefghijklmnopqrstuvwxyz").cps.toList=(A7 26).map (· + 97):=by decide +kernel
 have d:ch∈(t5 "abcdefghijklmnopqrstuvwxyz").cps.toList:=by rw[g];exact w9.mpr ⟨ch-97,J0.mpr (by lia),by lia⟩
 rw[dT_ d]at f;cases e:NG (t5 "abcdefghijklmnopqrstuvwxyz") ⟨#[ch]⟩ 0 (t5 "abcdefghijklmnopqrstuvwxyz").length 1 with
 |nil=>rw[e]at f;cases f
 |cons i r=>exact⟨i,r,rfl⟩
def jC:t7:=bn<|u5 jF<|aa (ac 8) ag
def qR:t7:=ax (B6 (dAnd (aE<|tx LC (ac 1)<|dC<|.int 1)<|aE<|tx C5 (tx bP (ac 0)<|dC<|.int 3)<|dC<|.int 1) (dAsg (tx aA (tx v7 (ac 8)<|dC<|.int 0)<|dC<|.str "b")<|CS (ac 8)<|dC<|.int 1) bj)<|jC
def qS:t7:=ax (il 1 [5,4,2,7] (bC<|aa (ac 1) ag) (am 0) nF (tx aA (tx aA (LS (ac 1) iR<|nj<|ac 2)<|tx v7 (ac 3)<|tx bP (tx aA (ac 4)<|ac 0)<|dC<|.int 26)<|LS (ac 1) (nj<|tx aA (ac 2)<|dC<|.int 1) iR) 8)<|qR
def qT:t7:=ax (aT (Nh mf (ac 2)<|aa (tx v7 (ac 5)<|ac 4) ag) 7)<|qS
def qU:t7:=aT (tx aI (ac 0)<|dC<|.int 26) 0
def qV:t7:=ax (nG (bC<|aa (ac 3) ag) (am 6)<|ax (aT (tx aA (ac 5)<|tx v7 (ac 2)<|tx bP (ac 0)<|dC<|.int 26) 5)<|qU)<|qT
def qW:t7:=ax (aT (dC<|.str "") 5)<|qV
def qX:t7:=ax (aT (tx aI (ac 0)<|dC<|.int 49) 0)<|qW
def qY:t7:=ax (aT (tx bP (tx aI (ac 0)<|dC<|.int 7)<|ac 3) 4)<|qX
def qZ:t7:=ax (aT (tx aA (dC<|.int 1)<|tx bP (ac 0)<|dC<|.int 7) 3)<|qY
def yj:t7:=ax (aT (dC<|.str "abcdefghijklmnopqrstuvwxyz") 2)<|qZ
theorem pK{M L:t9}{R:DK}{m:Nat}{xs:List b9}{q y1 j k y d n t:Option D}(e:m<=4)(l:xs.length=m)(c:∀x∈xs,x.length<=8)(p:xs.Nodup)(h:∀xs:List b9,xs.length=m->(∀x∈xs,x.length<=8)->xs.Nodup->R (.ref M.length) (M++[.lst<|xs.map .str])):jC (EE M R) [q,y1,j,k,y,d,n,t,a7<|.ref M.length] (M++MO.lst (xs.map .str)::L):=by simp only[jC];walk_at"dl";refine⟨xs.map .str,.inl cz,(wW<|by lia).g,λys O _=>?_⟩;obtain⟨s,rfl,b⟩:=yZ O;rw[G5];exact aQ.lst (h s (by rw[b.length_eq,l]) (λx a=>c x<|b.mem_iff.mp a)<|b.nodup_iff.mpr p) (by simp) (by simp)<|Bi s
theorem AS:A5 jz 9 yj:=by
 rintro ds M R ⟨c,m,rfl,m1,N,h⟩;have o:(t5 "abcdefghijklmnopqrstuvwxyz").length<=sizeLine:=by decide +kernel
 have s0:=bR (a:=c) (b:=7) (by decide);have s1:=cq (a:=c) (b:=7) (by decide);simp only[yj,qZ,qY];walk_at"dl";obtain⟨s,hs⟩:∃n:Nat,(n:Int)=1+c % 7:=⟨(1+c % 7).toNat,by lia⟩
 rw[<-hs];have z1:1<=s:=by lia
 have z7:s<=7:=by lia
 have a0:=bR (a:=c / 7) (b:=s) (by lia);have Q:=cq (a:=c / 7) (b:=s) (by lia);obtain⟨at_,ha⟩:∃n:Nat,(n:Int)=c / 7 % (s:Int):=⟨(c / 7 % (s:Int)).toNat,by lia⟩
 refine⟨by decide,⟨by decide,by decide⟩,by lia,?_⟩;rw[<-ha]at Q ⊢;simp only[qX,qW,qV];walk_at"dl";refine⟨⟨by decide,by decide⟩,⟨by lia,by lia⟩,?_⟩;refine bf (λi S C=>∃(x:b9) (r:Int) (b:Option D),C=M/\x.length=i/\(∀q∈x.cps.toList,97<=q/\q<=122)/\S=[a7<|.int r,a7<|.int m,a7<|.str<|t5 "abcdefghijklmnopqrstuvwxyz",a7<|.int s,a7<|.int at_,a7<|.str x,b,a8,a8]) ?_ ?_ ⟨t5 "",_,_,rfl,by decide +kernel,(λq u=>by rw[show (t5 "").cps.toList=[] by decide +kernel]at u;cases u),rfl⟩;rintro S C ⟨base,r,b,rfl,f,u,rfl⟩;rw[aR,KG]at f;refine⟨trivial,?_⟩;have ab:=bT (a:=base);have v:at_<base.cps.toList.length:=by lia
 have T:atI base.cps.toList (at_:Int)=a7 base.cps.toList[at_]:=ap<|v9 v;have w:=u _<|Ln v;simp only[qT];walk_at"dl";refine⟨ah (by lia),?_⟩;rw[T];generalize base.cps.toList[at_]=ch at w;obtain⟨F,t,ho⟩:=Dd w;refine⟨F,t,ho,?_⟩;simp only[qS];walk_at"dl";refine⟨⟨by lia,by lia⟩,?_⟩;have U:(Kv base a8<|a7 (at_:Int)).length=at_:=by rw[bT,vN,Kt];lia
 have B:(Kv base (a7<|(at_:Int)+1) a8).length=s-(at_+1):=by have P:=xb base (at_+1) (by lia);rw[show ((at_+1:Nat):Int)=(at_:Int)+1 by lia]at P;rw[bT,P,KD];lia
 refine gJ (λys acc S E=>∃(d:List b9) (a:Option D),acc=d.map .str/\(∀(j:Nat) z,d[j]?=a7 z->z.length=s/\z.cps.toList[at_]?=a7 (97+(F+j) % 26))/\d.length+ys.length=m/\ys=(gy 0 m).drop d.length/\E=C/\S=[a,a7<|.str base,a7<|.int at_,a7<|.str<|t5 "abcdefghijklmnopqrstuvwxyz",a7<|.int F]) ?_ ?_ _ _ _ _ ⟨[],_,rfl,(λj z o=>by simp at o),by rw[aR,KG];simp,by rw[KG];rfl,rfl,rfl⟩;rintro acc S E ⟨d,a,rfl,l,hl,_,rfl,rfl⟩;rw[D3,Nat.add_zero]at hl;refine⟨trivial,?_⟩;have z7':∀z∈d,z.length=s:=λz o=>by obtain⟨j,L⟩:=Lc o;exact(l j z L).1
 have z8:∀z∈d,z.length<=8:=λz o=>by have:=z7' z o;lia
 have znd:d.Nodup:=Am (by lia) l;simp only[qR];walk_at"dl";by_cases Y:(1:Int)<m;rw[dT_ Y];refine dB ⟨by decide,⟨aw,aw⟩,?_⟩;cases u3 (E++[MO.lst<|d.map .str]) ve (.int<|r % 3) (.int 1) with
 |true =>
  match d,hl,z7',z8,znd with
  |z0::z1::zr,hl,z7',z8,znd =>
   have l0:=z7' z0 (by simp);refine dB ⟨_,ae,?_⟩;rw[B8,LU];refine⟨?_,_,1,af,?_,?_⟩;rw[show (t5 "b").length=1 by decide +kernel];exact ah (by lia);rw[B9,u8,B9];unfold Lq;rw[o5<|by decide];simp;lia;rw[lX,B8,List.set_cons_succ,List.set_cons_zero];have lb:(z0++t5 "b").length=s+1:=by rw[bg,show (t5 "b").length=1 by decide +kernel,l0]
   refine pK (xs:=z0::(z0++t5 "b")::zr) N (by simpa using hl) (λx f=>?_) ?_ h;rcases A0.mp f with rfl|f;lia;rcases A0.mp f with rfl|f;lia;exact z8 x (by simp[f]);rw[KC,KC]at znd ⊢;refine⟨λf=>?_,λf=>?_,znd.2.2⟩;rcases A0.mp f with e|f;rw[<-e]at lb;lia;exact znd.1<|A8 _ f;have:=z7' _<|A8 _<|A8 _ f;lia
  | [z0],hl,_,_,_=>exact o7 hl<|by simp only[F8];lia
  | [],hl,_,_,_=>exact o7 hl<|by simp only[D3];lia
 |false=>exact dz<|pK N hl z8 znd h
 rw[dF_ Y];exact dz<|pK N hl z8 znd h;rintro y ys acc S E ⟨d,a,rfl,l,hl,O,rfl,rfl⟩ K Z;have A:d.length<(gy 0 m).length:=by rw[B9]at hl;rw[aR];lia
 rw[Oy A]at O;obtain⟨rfl,rfl⟩:=N8 O;have W:(gy 0 m)[d.length]=.int (d.length:Int):=by have:=(bG (lo:=0) (n:=m) (i:=d.length) (x:=(gy 0 m)[d.length])).mp<|v9 A;rw[this.2];congr 1;lia
 rw[W];refine⟨trivial,?_⟩;rw[B9]at hl;walk_at"dl";obtain⟨p,I,_,V⟩:=wD (i:=((F:Int)+(d.length:Int)) % 26) (bR<|by decide) (cq<|by decide);refine⟨ah (by lia),by decide,o,?_⟩;rw[I];refine⟨by rw[cL,U];exact ah (by lia),ah (by lia),by rw[bg,cL,U,B];exact ah (by lia),by rw[u8];exact av (by lia),Z _ _ _ ⟨d++[Kv base a8 (a7 (at_:Int))++⟨#[p]⟩++Kv base (a7<|(at_:Int)+1) a8],_,by simp,λj z k=>?_,by rw[A1,F8];lia,by rw[A1,F8],rfl,rfl⟩⟩;by_cases L:j<d.length;rw[Ko L]at k;exact l j z k;obtain⟨rfl,rfl⟩:j=d.length/\z=Kv base a8 (a7 (at_:Int))++⟨#[p]⟩++Kv base (a7<|(at_:Int)+1) a8:=by
  have J:=(z6.mp k).1;rw[A1,F8]at J;obtain rfl:j=d.length:=by lia
  rw[K0<|u6 _,LX]at k;exact⟨rfl,(B5 k).symm⟩
 refine⟨by rw[bg,bg,cL,U,B];lia,?_⟩;have st:=vN base at_;have lt:(base.cps.toList.take at_).length=at_:=by rw[Kt];lia
 rw[ql,ql,st,G5,K0 (by lia),lt,LX];show a7 p=_;rw[V];congr 2;rintro i y S C O ⟨x,r,b,rfl,f,u,rfl⟩ G X;obtain⟨hi,rfl⟩:=bG.mp O;refine⟨trivial,?_⟩;simp only[qU];walk_at"dl";obtain⟨p,I,H⟩:=wD (i:=r % 26) (bR<|by decide) (cq<|by decide);refine⟨by decide,o,?_⟩;rw[I];refine⟨by rw[cL,f];exact ah (by lia),⟨by decide,by decide⟩,C4.now<|X _ _ ⟨x++⟨#[p]⟩,_,_,rfl,by rw[bg,cL,f],λq g=>?_,rfl⟩⟩;rw[ql]at g;rcases F3.mp g with g|g;exact u q g;have:q=p:=by simpa using g
 rw[this];exact H.1
theorem BF(T:Tops P w K mg base):v4 P w K mg base 1 "_law_names" ud jz:=v4.byD (N:=["_law_number","_law_many","_law_letters","_law_size","_law_at","_law_base","_law_j","_law_turned","_law_names_here"]) T.b T.f_names (by walk_at"sc") zD (by walk_at"dv") AS
def kT:x5:=λds M R=>∃(c:Int),ds=[.int c]/\∀ps a,HouseF ps a->R (aC ps a) M
theorem zG:cZ kT uh:=by rintro ds M R ⟨c,rfl,_⟩;rfl
theorem Cq:F4 4 (aC ps rs):=by refine .tup<|.cons (.tup<|nH.of λd h=>?_)<|.cons (.tup<|nH.of λd h=>?_) .nil;obtain⟨p,_,rfl⟩:=w9.mp h;exact .tup<|.cons (.str _)<|.cons (.int _) .nil;obtain⟨p,_,rfl⟩:=w9.mp h;refine .tup<|.cons (.str _)<|.cons (.tup<|nH.of λd h=>?_) .nil;obtain⟨q,_,rfl⟩:=w9.mp h;exact .str _
theorem Ak{a b c d:Int}{k:Nat}(h:k<4)(f:tM 0 a)(e:tM 0 b)(g:tM 0 c)(i:tM 0 d):∃z:Int,atI [D.int a,.int b,.int c,.int d] (0+(k:Int))=a7 (.int z)/\tM 0 z:=by
 rw[Mp]
 match k,h with
 | 0,_=>exact⟨a,ap (j:=0) rfl,f⟩
 | 1,_=>exact⟨b,ap (j:=1) rfl,e⟩
 | 2,_=>exact⟨c,ap (j:=2) rfl,g⟩
 | 3,_=>exact⟨d,ap (j:=3) rfl,i⟩
def oE:t7:=bn<|fL<|aa (u5 ii<|aa (ac 4) ag)<|aa (u5 ii<|aa (E8 1 [9,5] (bC<|aa (u5 jH<|aa (ac 5) ag) ag) (am 0) nF<|fL<|aa (tx v7 (ac 1)<|ac 0)<|aa (tx v7 (ac 2)<|ac 0) ag) ag) ag
def gu:t7:=ax (aT (u5 jz<|aa (tx aI (ac 1)<|dC<|.int 262144)<|aa (u5 jH<|aa (ac 5) ag) ag) 9)<|oE
def lO:t7:=jy<|K8 cv (ac 5)<|aa (u5 ii<|aa (ac 8) ag) ag
def rB:t7:=ax (B6 (aE<|tx C5 (ac 8)<|fN ag) (aT (fN<|aa (tx v7 (ac 3)<|tx bP (ac 7)<|ac 2) ag) 8) bj)<|lO
def rC:t7:=ax (il 1 [3,7] (bC<|aa (ac 2) ag) (am 0) (aE<|tx C5 (tx bP (tx aI (ac 2)<|tx Hk (dC<|.int 1)<|ac 0)<|dC<|.int 2)<|dC<|.int 1) (tx v7 (ac 1)<|ac 0) 8)<|rB
def rD:t7:=ax (nG (bC<|aa (tx aA (dC<|.int 1)<|tx bP (ac 1)<|dC<|.int 4) ag) (am 6)<|ax (aT (tx bP (tx aI (ac 1)<|tx v7 (fN<|aa (dC<|.int 4)<|aa (dC<|.int 64)<|aa (dC<|.int 1024)<|aa (dC<|.int 16384) ag)<|ac 6)<|dC<|.int 16) 7)<|rC)<|gu
def lP:t7:=ax (aT (fN ag) 5)<|rD
def rE:t7:=ax (aT (u5 nC<|aa (tx aI (ac 0)<|dC<|.int 5)<|aa (dC<|.int 2) ag) 1)<|lP
def rF:t7:=ax (il 1 [3,1] (bC<|aa (ac 2) ag) (am 0) nF (fL<|aa (tx v7 (ac 1)<|ac 0)<|aa (tx aA (dC<|.int 1)<|tx bP (tx aI (ac 2)<|tx v7 (fN<|aa (dC<|.int 4)<|aa (dC<|.int 12)<|aa (dC<|.int 36)<|aa (dC<|.int 108) ag)<|ac 0)<|dC<|.int 3) ag) 4)<|rE
def rG:t7:=ax (aT (u5 jz<|aa (tx aI (ac 1)<|dC<|.int 324)<|aa (ac 2) ag) 3)<|rF
def rH:t7:=ax (aT (tx aA (dC<|.int 1)<|tx bP (ac 1)<|dC<|.int 4) 2)<|rG
def yD:t7:=ax (aT (u5 nC<|aa (ac 0)<|aa (dC<|.int 1) ag) 1)<|rH
theorem Cr{M B:t9}{R:DK}{k:Nat}{ps:List (b9×Int)}{s:List (List b9)}{ns:List b9}{o:Int}{G:Nat}{T U W X Y Z:Option D}(J:M <+: B)(F:al B G (ps.map fK))(j:al B k (s.map λm=>.tup<|m.map .str))(H:∀m∈s,m.Sublist ns)(n4:ns.length<=4)(V:1<=s.length)(N:s.length<=4)(w:∀rs,1<=rs.length/\rs.length<=4->(rs.map (·.1)).Nodup->(∀r∈rs,r.2.Sublist ns)->(∀r∈rs,r.1.length<=8)->HouseF ps rs)(h:∀ps rs,HouseF ps rs->R (aC ps rs) M):gu (EE M R) [T,a7<|.int o,U,W,a7<|.ref G,a7<|.ref k,X,Y,Z,a8] B:=by
 simp only[gu];walk_at"dl";refine⟨⟨by decide,by decide⟩,_,j,?_⟩;rw[u8];refine⟨_,s.length,rfl,V,N,λxs xl Q x=>?_⟩;have p:M <+: B++[MO.lst<|xs.map .str]:=J.trans aY;have c:=F.more [MO.lst<|xs.map D.str];have l:=j.more [MO.lst<|xs.map D.str];have f:al (B++[MO.lst<|xs.map .str]) B.length (xs.map .str):=ae;generalize B++[MO.lst<|xs.map .str]=I at p c l f;generalize B.length=P at f;simp only[oE];walk_at"dl";refine⟨_,c,_,l,⟨by lia,by rw[u8];lia⟩,?_⟩;rw[u8,KG];refine gJ (λys acc S e=>∃(rs:List (b9×List b9)) (a:Option D) (i:Nat),acc=rs.map iw/\rs.length=i/\(rs.map (·.1)=xs.take i/\∀r∈rs,r.2.Sublist ns)/\ys=(gy 0 s.length).drop i/\i<=s.length/\e=I/\S=[a,a7<|.ref P,a7<|.ref k]) ?_ ?_ _ _ _ _ ⟨[],_,0,rfl,rfl,⟨rfl,λ_ z=>nomatch z⟩,by simp,z5 _,rfl,rfl⟩;rintro acc S e ⟨rs,a,i,rfl,n,⟨g,L⟩,d,E,rfl,rfl⟩;have hi:i=s.length:=by have:=p8 KB d;rw[D3,KD,aR]at this;lia
 refine⟨trivial,_,ae,ah (by lia),aQ.keep (h ps rs<|w rs ⟨by lia,by lia⟩ (by rw[g];exact x.sublist<|Ol _ _) L λr C=>Q r.1<|List.take_subset _ _<|by rw[<-g];exact Lb C) (bA 4 _ Cq)<|p.trans aY⟩;rintro y ys acc S e ⟨rs,a,i,rfl,n,⟨g,L⟩,d,E,rfl,rfl⟩ K A;have hi:i<s.length:=by have:=p8 KB d;rw[B9,KD,aR]at this;lia
 have O:(gy 0 s.length)[i]?=a7 y/\ys=(gy 0 s.length).drop (i+1):=by
  have t:i<(gy 0 s.length).length:=by rw[aR];exact hi
  rw[Oy t]at d;injection d with h1 h2;exact⟨by rw[v9 t,h1],h2⟩
 obtain⟨_,rfl⟩:=bG.mp O.1;refine⟨trivial,?_⟩;walk_at"dl";have v:atI (xs.map D.str) (0+(i:Int))=a7 (.str<|xs[i]'(by lia)):=by rw[Mp];exact ap<|by rw[D5,v9<|by lia];rfl
 have u:atI (s.map λm=>D.tup<|m.map .str) (0+(i:Int))=a7 (.tup<|(s[i]).map .str):=by rw[Mp];exact ap<|by rw[D5,v9 hi];rfl
 refine⟨_,f,?_⟩;rw[v];refine⟨_,l,?_⟩;rw[u];refine⟨ah (by lia),by rw[u8];exact av (by lia),A _ _ _ ⟨rs++[(xs[i]'(by lia),s[i])],_,i+1,by simp[iw],by simp[n],⟨by rw[Kr,g,Ma,v9<|by lia];rfl,λq b=>?_⟩,O.2,hi,rfl,rfl⟩⟩;rcases F3.mp b with b|b;exact L q b;rw[J7.mp b];exact H _<|Ln _
theorem FO{M B:t9}{R:DK}{many:Nat}{ps:List (b9×Int)}{ns:List b9}{g:Int}{C E:Nat}{y0:Option D}(pB:M <+: B)(l3:al B C (ns.map .str))(l4:al B E (ps.map fK))(nl:ns.length=many)(n1:1<=many)(n4:many<=4)(hf:∀rs,1<=rs.length/\rs.length<=4->(rs.map (·.1)).Nodup->(∀r∈rs,r.2.Sublist ns)->(∀r∈rs,r.1.length<=8)->HouseF ps rs)(h:∀ps rs,HouseF ps rs->R (aC ps rs) M):lP (EE M R) [y0,a7<|.int g,a7<|.int many,a7<|.ref C,a7<|.ref E,a8,a8,a8,a8,a8] B:=by
 have b3:=sA l3;have b4:=sA l4;simp only[lP,rD];walk_at"dl";have s0:=bR (a:=g) (b:=4) (by decide);have s1:=cq (a:=g) (b:=4) (by decide);refine⟨z5 _,by decide,⟨by lia,by lia⟩,?_⟩;obtain⟨rm,ab⟩:∃n:Nat,(n:Int)=1+g % 4:=⟨(1+g % 4).toNat,by lia⟩
 rw[<-ab,KG];refine bf (λi S f=>∃(w:List (List b9)) (a b d:Option D),w.length=i/\(∀m∈w,m.Sublist ns)/\M <+: f/\al f C (ns.map .str)/\al f E (ps.map fK)/\f[B.length]?=a7 (.lst<|w.map λm=>.tup<|m.map .str)/\S=[y0,a7<|.int g,a7<|.int many,a7<|.ref C,a7<|.ref E,a7<|.ref B.length,a,b,d,a8]) ?_ ?_ ⟨[],_,_,_,rfl,(λ_ z=>nomatch z),pB.trans aY,l3.more _,l4.more _,af,rfl⟩;rintro S f ⟨w,a,b,d,ml,mm,pM,k3,k4,X,rfl⟩;rw[aR]at ml;exact⟨trivial,Cr pM k4 (.inl X) mm (by lia) (by lia) (by lia) hf h⟩;rintro i y S f hy ⟨w,a,b,d,ml,mm,pM,k3,k4,X,rfl⟩ G hG;obtain⟨hi,rfl⟩:=bG.mp hy;have bM:=bq X;refine⟨trivial,?_⟩;walk_at"dl";obtain⟨z,ez,hz⟩:=Ak (a:=4) (b:=64) (c:=1024) (d:=16384) (k:=i) (by lia) ⟨by decide,by decide⟩ ⟨by decide,by decide⟩ ⟨by decide,by decide⟩ ⟨by decide,by decide⟩;refine⟨ah (by lia),_,ae,?_⟩;rw[ez];refine⟨hz,by decide,?_⟩;have b0:=bR (a:=g / z) (b:=16) (by decide);generalize g / z % 16=s at b0;have V:M <+: f++[MO.lst [D.int 4,D.int 64,D.int 1024,D.int 16384]]:=pM.trans aY;have t:=k3.more [MO.lst [D.int 4,D.int 64,D.int 1024,D.int 16384]];have U:=k4.more [MO.lst [D.int 4,D.int 64,D.int 1024,D.int 16384]];have J:=ad (a:=MO.lst [D.int 4,D.int 64,D.int 1024,D.int 16384]) X;generalize f++[MO.lst [D.int 4,D.int 64,D.int 1024,D.int 16384]]=M1 at V t U J;simp only[rC];walk_at"dl";refine⟨⟨by lia,by lia⟩,?_⟩;have I:∀(xs:List b9) (W:Nat) (M2:t9),xs.Sublist ns->M <+: M2->al M2 C (ns.map .str)->al M2 E (ps.map fK)->M2[B.length]?=a7 (.lst<|w.map λm=>.tup<|m.map .str)->al M2 W (xs.map .str) -> lO ⟨C4 (B++[MO.lst []]) G,aQ M R,λS f=>gu (EE M R) S f,C4 (B++[MO.lst []]) G⟩ [y0,a7<|.int g,a7<|.int many,a7<|.ref C,a7<|.ref E,a7<|.ref B.length,a7<|.int<|0+(i:Int),a7<|.int s,a7<|.ref W,a8] M2:=λxs W M2 x4 p2 ai aj l an=>by simp only[lO];walk_at"dl";refine⟨⟨_,.inl l⟩,_,an,_,l,by rw[u8];exact av (by lia),C4.now<|hG _ _ ⟨w++[xs],_,_,_,by simp[ml],λm O=>?_,?_,zw (by lia) ai,zw (by lia) aj,?_,rfl⟩⟩;rcases F3.mp O with O|O;exact mm m O;rw[J7.mp O];exact x4;obtain⟨L,rfl⟩:=pB;obtain⟨L2,rfl⟩:=p2;rw[P3 _ _<|by simp];exact KH _ _;rw[bU l];simp
 rw[KG];refine gJ (λys acc S M2=>∃(xs:List b9) (a:Option D) (Y:Nat),acc=xs.map .str/\xs.Sublist (ns.take Y)/\ys=(gy 0 many).drop Y/\Y<=many/\M2=M1/\S=[a,a7<|.ref C,a7<|.int s]) ?_ ?_ _ _ _ _ ⟨[],_,0,rfl,List.nil_sublist _,rfl,z5 _,rfl,rfl⟩;rintro acc S M2 ⟨xs,a2,Y,rfl,T,_,_,rfl,rfl⟩;have T:=T.trans<|Ol _ _;refine⟨trivial,?_⟩;simp only[rB];walk_at"dl";have Q:=t.more [MO.lst<|xs.map D.str];have v:=U.more [MO.lst<|xs.map D.str];have o:=ad (a:=MO.lst<|xs.map D.str) J;have A:M <+: M2++[MO.lst<|xs.map D.str]:=V.trans aY;have Z:al (M2++[MO.lst<|xs.map D.str]) M2.length (xs.map .str):=ae;generalize M2++[MO.lst<|xs.map D.str]=M3 at Q v o A Z;generalize M2.length=W at Z;obtain⟨as,H⟩:=pJ Z λx P=>by obtain⟨i,_,rfl⟩:=w9.mp P;exact aJ
 refine⟨z5 _,as,?_⟩;rw[H];have u:=Q.more [MO.lst []];cases (xs.map D.str).isEmpty with
 |true =>
  have F:∃x:b9,x∈ns/\atI (ns.map D.str) (s % (many:Int))=a7 (.str x):=by obtain⟨d,hd,e⟩:=ip (xs:=ns.map D.str) (i:=s) (by rw[u8];lia);rw[u8,nl]at e;obtain⟨x,P,rfl⟩:=w9.mp hd;exact⟨x,P,e⟩
  obtain⟨x,P,F⟩:=F;refine dB ⟨by lia,_,u,?_⟩;rw[F];refine⟨ah (by lia),I [x] _ _ (List.singleton_sublist.mpr P) ((A.trans aY).trans aY) (u.more _) ((v.more _).more _) (ad<|ad o) ae⟩
 |false=>exact dz<|I xs W _ T (A.trans aY) u (v.more _) (ad o)<|Z.more _
 rintro y' ys acc S M2 ⟨xs,a2,j,rfl,T,p,jm,rfl,rfl⟩ K hK;have hj:j<many:=by have:=p8 KB p;rw[B9,KD,aR]at this;lia
 have q:(gy 0 many)[j]?=a7 y'/\ys=(gy 0 many).drop (j+1):=by
  have N:j<(gy 0 many).length:=by rw[aR];exact hj
  rw[Oy N]at p;injection p with h1 h2;exact⟨by rw[v9 N,h1],h2⟩
 obtain⟨_,rfl⟩:=bG.mp q.1;have et:ns.take (j+1)=ns.take j++[ns[j]'(by lia)]:=by rw[Ma,v9<|by lia];rfl
 have xl:xs.length<=4:=by have:=T.length_le;rw[Kt]at this;lia
 refine⟨trivial,?_⟩;walk_at"dl";have F:atI (ns.map D.str) (0+(j:Int))=a7 (.str<|ns[j]'(by lia)):=by rw[Mp];exact ap<|by rw[D5,v9<|by lia];rfl
 have pw:tM s (1*2 ^ (0+(j:Int)).toNat):=by
  rw[Mp,KG];have:j=0\/j=1\/j=2\/j=3:=by lia
  rcases this with rfl|rfl|rfl|rfl<;>exact⟨by decide,by decide⟩
 refine⟨⟨by lia,by lia,by decide⟩,pw,by decide,⟨aw,aw⟩,?_⟩;split;refine⟨_,t,?_⟩;rw[F];exact⟨by rw[u8];exact av (by lia),hK _ _ _ ⟨xs++[_],_,j+1,by simp;rfl,by rw[et];exact T.append<|Og _,q.2,hj,rfl,rfl⟩⟩;exact hK _ _ _ ⟨xs,_,j+1,rfl,by rw[et];exact T.trans<|List.sublist_append_left _ _,q.2,hj,rfl,rfl⟩
theorem AV:A5 kT 10 yD:=by
 rintro ds M R ⟨c,rfl,h⟩;simp only[yD];walk_at"dl";refine⟨c,1,rfl,⟨by decide,by decide⟩,λf=>?_⟩;simp only[rH];walk_at"dl";have X:=bR (a:=f) (b:=4) (by decide);have T:=cq (a:=f) (b:=4) (by decide);refine⟨by decide,?_⟩;obtain⟨many,x⟩:∃n:Nat,(n:Int)=1+f % 4:=⟨(1+f % 4).toNat,by lia⟩
 rw[<-x];simp only[rG];walk_at"dl";refine⟨⟨by decide,by decide⟩,_,many,rfl,by lia,by lia,λns w G r=>?_⟩;have l:al (M++[MO.lst<|ns.map .str]) M.length (ns.map .str):=ae;have H:M <+: M++[MO.lst<|ns.map D.str]:=aY;generalize M++[MO.lst<|ns.map .str]=B at l H;generalize M.length=I at l;simp only[rF];walk_at"dl";refine⟨⟨by lia,by lia⟩,?_⟩;rw[KG];refine gJ (λys acc S o=>∃(ps:List (b9×Int)) (a:Option D) (i:Nat),acc=ps.map fK/\ps.length=i/\ps.map (·.1)=ns.take i/\(∀p∈ps,(1<=p.2/\p.2<=3)/\p.1.length<=8)/\ys=(gy 0 many).drop i/\i<=many/\B <+: o/\S=[a,a7<|.ref I,a7<|.int f]) ?_ ?_ _ _ _ _ ⟨[],_,0,rfl,rfl,rfl,(λ_ z=>nomatch z),by simp,z5 _,List.prefix_refl _,rfl⟩;rintro acc S o ⟨ps,a,i,rfl,s,m,j,g,F,pM,rfl⟩;have hi:i=many:=by have:=p8 KB g;rw[D3,KD,aR]at this;lia
 refine⟨trivial,?_⟩;simp only[rE];walk_at"dl";refine⟨⟨by decide,by decide⟩,_,2,rfl,⟨by decide,by decide⟩,λP=>?_⟩;exact FO ((H.trans pM).trans aY) ((bI pM l).more _) ae w (by lia) (by lia) (λQ C N L J=>⟨⟨by lia,by lia⟩,λp e=>(j p e).1,λp e=>(j p e).2,C,by rw[m];exact r.sublist<|Ol _ _,N,λq e=>by rw[m,hi,<-w,LO];exact L q e,J⟩) h;rintro y ys acc S o ⟨ps,a,i,rfl,s,m,j,g,F,pM,rfl⟩ K A;have hi:i<many:=by have:=p8 KB g;rw[B9,KD,aR]at this;lia
 have O:(gy 0 many)[i]?=a7 y/\ys=(gy 0 many).drop (i+1):=by
  have t:i<(gy 0 many).length:=by rw[aR];exact hi
  rw[Oy t]at g;injection g with h1 h2;exact⟨by rw[v9 t,h1],h2⟩
 obtain⟨_,rfl⟩:=bG.mp O.1;refine⟨trivial,?_⟩;walk_at"dl";have u:atI (ns.map D.str) (0+(i:Int))=a7 (.str<|ns[i]'(by lia)):=by rw[Mp];exact ap<|by rw[D5,v9<|by lia];rfl
 obtain⟨z,v,E⟩:=Ak (a:=4) (b:=12) (c:=36) (d:=108) (k:=i) (by lia) ⟨by decide,by decide⟩ ⟨by decide,by decide⟩ ⟨by decide,by decide⟩ ⟨by decide,by decide⟩;refine⟨_,bI pM l,?_⟩;rw[u];refine⟨ah (by lia),_,ae,?_⟩;rw[v];have Z:=bR (a:=f / z) (b:=3) (by decide);have U:=cq (a:=f / z) (b:=3) (by decide);refine⟨E,by decide,ah (by lia),by rw[u8];exact av (by lia),A _ _ _ ⟨ps++[(ns[i]'(by lia),1+f / z % 3)],_,i+1,by simp[fK],by simp[s],by rw[Kr,m,Ma,v9<|by lia];rfl,λp e=>?_,O.2,hi,pM.trans aY,rfl⟩⟩;rcases F3.mp e with e|e;exact j p e;rw[J7.mp e];exact⟨⟨by dsimp only;lia,by dsimp only;lia⟩,G _<|Ln _⟩
theorem BH(T:Tops P w K mg base):v4 P w K mg base 3 "_law_house" uh kT:=v4.byD (N:=["_law_cell","_law_number","_law_many","_law_names_here","_law_people","_law_rooms","_law_k","_law_bits","_law_members","_law_called"]) T.b T.f_house (by walk_at"sc") zG (by have:=ES T;have:=BF T;walk_at"dv") AV
def kU:x5:=λds M R=>∃(ps:List (b9×Int)) (r:List D),ds=[.tup<|.tup (ps.map fK)::r]/\PM ps/\R (.ref M.length) (M++[.lst<|aX ps])
theorem zH:cZ kU ui:=by rintro ds M R ⟨ps,r,rfl,_⟩;rfl
def rJ:t7:=bn<|ac 1
def rK:t7:=ax (nG (bN<|tx v7 (ac 0)<|dC<|.int 0) (ng 2<|bV (am 2)<|bV (am 3) nh)<|aT (tx aA (ac 1)<|E8 1 [2] (bC<|aa (ac 3) ag) (am 0) nF<|fL<|aa (ac 1)<|aa (ac 0) ag) 1)<|rJ
def yE:t7:=ax (aT (fN ag) 1)<|rK
theorem AW:A5 kU 4 yE:=by
 rintro ds M R ⟨ps,r,rfl,⟨o,f⟩,h⟩;simp only[yE,rK];walk_at"dl";refine⟨z5 _,λ_=>?_⟩;have n:∀qs:List (b9×Int),(∀p∈qs,p∈ps)->qs.length<=4->(aX qs).length<=12:=λqs h1 h2=>by have:=oR (ps:=qs) λp i=>f p<|h1 p i;lia
 refine jx (λys S d=>∃qs s a b q L,ps=qs++s/\ys=s.map fK/\d=M++L/\M.length<=q/\d[q]?=a7 (.lst<|aX qs)/\S=[a7<|.tup<|.tup (ps.map fK)::r,a7<|.ref q,a,b]) ?_ ?_ _ _ _ ⟨[],ps,_,_,_,[.lst []],rfl,rfl,rfl,u6 _,af,rfl⟩;rintro S d ⟨qs,s,a,b,q,L,e,c,rfl,j,g,rfl⟩;have:s=[]:=by cases s<;>simp_all
 subst this;rw[KO]at e;subst e;refine⟨trivial,?_⟩;simp only[rJ];walk_at"dl";exact aQ.lst h j g xF;rintro x xs S d ⟨qs,s,a,b,q,L,e,c,rfl,j,g,rfl⟩ G l;cases s with
 |nil=>cases c
 |cons p s =>
  rw[B8]at c;injection c with e1 e2;subst e1;have i:=f p (by rw[e];simp);refine⟨trivial,?_⟩;unfold fK;walk_at"dl";refine⟨trivial,⟨by lia,by lia⟩,?_⟩;refine aU (λk=>.tup [.str p.1,k]) (λS=>∃a,S=[a,a7<|.str p.1]) trivial _ _ _ (λk t S m=>?_) ⟨_,rfl⟩ ?_ ?_;obtain⟨a,rfl⟩:=m;refine⟨[a7 k,a7<|.str p.1],⟨_,rfl⟩,λY D=>?_⟩;walk_at"dl";exact⟨ah (by lia),D⟩;simp only[D3,aR];exact ah (by lia);have y:ps.length=qs.length+(s.length+1):=by rw[e];simp
  have u:=n qs (λq c=>by rw[e];simp[c]) (by lia);have v:(cO p).length<=3:=by rw[iO];lia
  rw[Fn];refine⟨aX qs,cO p,ad g,af,ah (by lia),?_⟩;refine C4.now<|l _ _ ⟨qs++[p],s,_,_,_,L++[.lst<|cO p]++[.lst<|aX qs++cO p],by rw[e];simp,e2,by simp[cO],?_,?_,rfl⟩;simp only[A1,F8];lia;have:aX (qs++[p])=aX qs++cO p:=by simp[aX]
  rw[this];exact af
theorem BI(T:Tops P w K mg base):v4 P w K mg base 1 "_law_hands" ui kU:=v4.byD (N:=["_law_house_here","_law_hands_here","_law_name","_law_many"]) T.b T.f_hands (by walk_at"sc") zH (by walk_at"dv") AW
def gp:x5:=λds M R=>∃(c:Int) (q:Nat) (xs:List b9),ds=[.int c,.ref q]/\al M q (xs.map .str)/\1<=xs.length/\xs.length<=1000/\(∀x∈xs,x.length<=8)/\∀x:b9,x.length<=100->R (.str x) M
theorem xy:cZ gp pD:=by rintro ds M R ⟨c,q,xs,rfl,_⟩;rfl
def om:t7:=bn<|ac 4
def oo:t7:=aT (tx aI (ac 0)<|dC<|.int 3) 0
def oq:t7:=ax (nG (bC<|aa (tx aA (dC<|.int 1)<|tx bP (ac 0)<|dC<|.int 8) ag) (am 5)<|ax (aT (tx aA (ac 4)<|tx v7 (tx aA (tx aA (dC<|.str " !@")<|ac 2)<|dC<|.str "abzAZ09.~")<|tx bP (tx aI (ac 0)<|dC<|.int 8)<|tx aA (dC<|.int 12)<|u5 jH<|aa (ac 2) ag) 4)<|oo)<|om
def ou:t7:=ax (aT (tx jG (dC<|.str "@")<|tx bP (ac 3)<|dC<|.int 2) 4)<|oq
def oy:t7:=ax (B6 (aE<|tx LB (ac 3)<|dC<|.int 8) (bn<|tx v7 (fN<|aa (dC<|.str "hi")<|aa (tx aA (dC<|.str "@")<|ac 2)<|aa (tx aA (tx aA (dC<|.str "x @")<|ac 2)<|dC<|.str "!")<|aa (tx aA (tx aA (dC<|.str "@")<|ac 2)<|dC<|.str "b")<|aa (tx aA (dC<|.str "no @ ")<|ac 2)<|aa (tx aA (dC<|.str "Hi @A@")<|ac 2)<|aa (ac 2)<|aa (dC<|.str "?") ag)<|ac 3) bj)<|ou
def oz:t7:=ax (aT (tx aI (ac 0)<|dC<|.int 48) 0)<|oy
def oA:t7:=ax (aT (tx bP (tx aI (ac 0)<|dC<|.int 4)<|dC<|.int 12) 3)<|oz
def vn:t7:=ax (aT (tx v7 (ac 1)<|tx bP (ac 0)<|u5 jH<|aa (ac 1) ag) 2)<|oA
theorem yc:A5 gp 6 vn:=by
 rintro ds M R ⟨c,q,xs,rfl,L,N,Y,P,h⟩;simp only[vn];walk_at"dl";obtain⟨d,t,k⟩:=ip (xs:=xs.map D.str) (i:=c) (by rw[u8];exact N);obtain⟨z,u,rfl⟩:=w9.mp t;have z8:=P z u;refine⟨_,L,by rw[u8];lia,_,L,?_⟩;rw[k];simp only[oA,oz];walk_at"dl";have J:=bR (a:=c / 4) (b:=12) (by decide);have K:=cq (a:=c / 4) (b:=12) (by decide);refine⟨⟨by decide,by decide⟩,by decide,⟨by decide,by decide⟩,?_⟩;generalize c / 4 % 12=w at J K;generalize c / 48=r;simp only[oy];walk_at"dl";have p:(t5 "@").length=1:=by decide +kernel
 have x:(t5 "x @").length=3:=by decide +kernel
 have A:(t5 "!").length=1:=by decide +kernel
 have T:(t5 "b").length=1:=by decide +kernel
 have C:(t5 "no @ ").length=5:=by decide +kernel
 have B:(t5 "Hi @A@").length=6:=by decide +kernel
 by_cases g:w<8;rw[dT_ g];refine dB ⟨by rw[p];exact ah (by lia),by rw[x];exact ah (by lia),by rw[bg,x,A];exact ah (by lia),by rw[p];exact ah (by lia),by rw[bg,p,T];exact ah (by lia),by rw[C];exact ah (by lia),by rw[B];exact ah (by lia),ah (by lia),_,ae,?_⟩;have n:∃y:b9,y.length<=100/\atI [D.str<|t5 "hi",D.str<|t5 "@" ++ z,D.str<|t5 "x @" ++ z++t5 "!",D.str<|t5 "@" ++ z++t5 "b",D.str<|t5 "no @ " ++ z,D.str<|t5 "Hi @A@" ++ z,D.str z,D.str<|t5 "?"] w=a7 (.str y):=by
  have:w=0\/w=1\/w=2\/w=3\/w=4\/w=5\/w=6\/w=7:=by lia
  rcases this with rfl|rfl|rfl|rfl|rfl|rfl|rfl|rfl;exact⟨t5 "hi",by decide +kernel,ap (j:=0) rfl⟩;exact⟨t5 "@" ++ z,by rw[bg];lia,ap (j:=1) rfl⟩;exact⟨t5 "x @" ++ z++t5 "!",by rw[bg,bg];lia,ap (j:=2) rfl⟩;exact⟨t5 "@" ++ z++t5 "b",by rw[bg,bg];lia,ap (j:=3) rfl⟩;exact⟨t5 "no @ " ++ z,by rw[bg];lia,ap (j:=4) rfl⟩;exact⟨t5 "Hi @A@" ++ z,by rw[bg];lia,ap (j:=5) rfl⟩;exact⟨z,by lia,ap (j:=6) rfl⟩;exact⟨t5 "?",by decide +kernel,ap (j:=7) rfl⟩
 obtain⟨y,l,o⟩:=n;rw[o];exact aQ.str (h _ l) aY;rw[dF_ g];refine dz ?_;simp only[ou];walk_at"dl";have Z:=bR (a:=w) (b:=2) (by decide);have W:=cq (a:=w) (b:=2) (by decide);have v:(Txt.mul (t5 "@")<|w % 2).length<=1:=by
  have:w % 2=0\/w % 2=1:=by lia
  rcases this with e|e<;>rw[e]<;>decide +kernel
 refine⟨by decide,⟨Z,by lia,by rw[p];exact ah<|by lia⟩,?_⟩;generalize Txt.mul (t5 "@") (w % 2)=X at v;simp only[oq];walk_at"dl";have U:=bR (a:=r) (b:=8) (by decide);have V:=cq (a:=r) (b:=8) (by decide);refine⟨by decide,⟨by lia,by lia⟩,?_⟩;refine bf (λi S f=>∃(y:b9) (r':Int) (b:Option D),y.length<=1+i/\f=M/\S=[a7<|.int r',a7<|.ref q,a7<|.str z,a7<|.int w,a7<|.str y,b]) ?_ ?_ ⟨X,_,_,by lia,rfl,rfl⟩;rintro S f ⟨y,r',b,l,rfl,rfl⟩;refine⟨trivial,?_⟩;simp only[om];walk_at"dl";refine aQ.now<|h _ ?_;rw[aR]at l;lia;rintro i y' S f O ⟨y,r',b,l,rfl,rfl⟩ G s;obtain⟨hi,rfl⟩:=bG.mp O;refine⟨trivial,?_⟩;simp only[oo];walk_at"dl";have E:(t5 " !@").length=3:=by decide +kernel
 have F:(t5 "abzAZ09.~").length=9:=by decide +kernel
 have I:(t5 " !@" ++ z++t5 "abzAZ09.~").length=12+z.length:=by rw[bg,bg,E,F];lia
 refine⟨by rw[E];exact ah (by lia),by rw[bg,E,F];exact ah (by lia),⟨by decide,by decide⟩,ah (by lia),by lia,ah (by lia),?_⟩;have H:=bT (a:=t5 " !@" ++ z++t5 "abzAZ09.~");obtain⟨Q,_,m⟩:=ip (xs:=(t5 " !@" ++ z++t5 "abzAZ09.~").cps.toList) (i:=r' / 8) (by lia);rw[<-H,I,show (((12+z.length:Nat)):Int)=12+(z.length:Int) by lia]at m;rw[m];exact⟨by rw[cL];exact ah (by lia),⟨by decide,by decide⟩,C4.now<|s _ _ ⟨_,_,_,by rw[bg,cL];lia,rfl,rfl⟩⟩
theorem zk(T:Tops P w K mg base):v4 P w K mg base 1 "_law_saying" pD gp:=v4.byD (N:=["_law_number","_law_names_here","_law_name","_law_way","_law_saying_here","_law_k"]) T.b T.f_saying (by walk_at"sc") xy (by walk_at"dv") yc
def ME(s:List D):Prop:=∀x∈s,∃(t:Int) (z:b9) (k:Int),x=.tup [.int t,.tup [.str z,.int k]]
def nB:x5:=λds M R=>∃(c:Int) (p q:Nat) (s hs:List D),ds=[.int c,.ref p,.ref q]/\al M p s/\ME s/\s.length<=1000/\al M q hs/\(∀x∈hs,Hd x)/\1<=hs.length/\hs.length<=1000/\∀(t:Int) (z:b9) (k:Int),R (.tup [.int t,.tup [.str z,.int k]]) M
theorem BY:cZ nB zg:=by rintro ds M R ⟨c,p,q,s,hs,rfl,_⟩;rfl
theorem rO:C8 n (.tup [.int t,.tup [.str z,.int k]]):=bA 2 _ rfl
def pf:t7:=bn<|tx v7 (ac 1)<|tx GG (tx GG (u5 jH<|aa (ac 1) ag)<|dC<|.int 1)<|tx bP (tx aI (ac 0)<|dC<|.int 8)<|u5 jH<|aa (ac 1) ag
def Dh:t7:=ax (B6 (Ng (aE<|tx C5 (ac 1)<|fN ag)<|aE<|tx C5 (tx bP (ac 0)<|dC<|.int 8)<|dC<|.int 7) (bn<|fL<|aa (tx aA (dC<|.int 1)<|tx bP (tx aI (ac 0)<|dC<|.int 8)<|dC<|.int 50)<|aa (tx v7 (ac 2)<|tx bP (tx aI (ac 0)<|dC<|.int 400)<|u5 jH<|aa (ac 2) ag) ag) bj)<|pf
theorem Bg(H:M <+: B)(a:al B q hs)(e:∀x∈hs,Hd x)(h1:1<=hs.length)(g:hs.length<=1000)(h:∀(t:Int) (z:b9) (k:Int),R (.tup [.int t,.tup [.str z,.int k]]) M):(fL<|aa (tx aA (dC<|.int 1)<|tx bP (tx aI (ac 0)<|dC<|.int 8)<|dC<|.int 50)<|aa (tx v7 (ac 2)<|tx bP (tx aI (ac 0)<|dC<|.int 400)<|u5 jH<|aa (ac 2) ag) ag) [a7<|.int c,y1,a7<|.ref q] B (aQ M R):=by walk_at"dl";obtain⟨d,b,G⟩:=ip (xs:=hs) (i:=c / 400) h1;obtain⟨z,k,rfl⟩:=e d b;refine⟨⟨by decide,by decide⟩,by decide,⟨by decide,by decide⟩,_,a,by lia,_,a,?_⟩;rw[G];exact⟨ah (by lia),aQ.keep (h _ _ _) rO H⟩
theorem DV:A5 nB 3 Dh:=by
 rintro ds M R ⟨c,p,q,s,hs,rfl,f,g,D,w,u,h1,v,h⟩;have e:Dh=ax (B6 (Ng (aE<|tx C5 (ac 1)<|fN ag)<|aE<|tx C5 (tx bP (ac 0)<|dC<|.int 8)<|dC<|.int 7) (bn<|fL<|aa (tx aA (dC<|.int 1)<|tx bP (tx aI (ac 0)<|dC<|.int 8)<|dC<|.int 50)<|aa (tx v7 (ac 2)<|tx bP (tx aI (ac 0)<|dC<|.int 400)<|u5 jH<|aa (ac 2) ag) ag) bj) pf:=rfl;have n:=Bg (M:=M) (B:=M++[MO.lst []]) (R:=R) (c:=c) (q:=q) (hs:=hs) (y1:=a7<|.ref p) aY (w.more _) u h1 v h;rw[e];generalize (fL<|aa (tx aA (dC<|.int 1)<|tx bP (tx aI (ac 0)<|dC<|.int 8)<|dC<|.int 50)<|aa (tx v7 (ac 2)<|tx bP (tx aI (ac 0)<|dC<|.int 400)<|u5 jH<|aa (ac 2) ag) ag)=tn at n;walk_at"dl";obtain⟨o,l⟩:=pJ f λx A=>by obtain⟨t,z,k,rfl⟩:=g x A;rfl
 refine⟨z5 _,o,?_⟩;rw[l];cases y:s.isEmpty with
 |true=>exact dB n
 |false =>
  refine dz ⟨by decide,⟨aw,aw⟩,?_⟩;cases u3 (M++[MO.lst []]) ve (.int<|c % 8) (.int 7) with
  |true=>exact dB n
  |false =>
   refine dz ?_;have C:1<=s.length:=by cases s<;>simp_all
   simp only[pf];walk_at"dl";have d:=f.more [MO.lst []];have E:=bR (a:=c / 8) (b:=s.length) (by lia);have V:=cq (a:=c / 8) (b:=s.length) (by lia);refine⟨_,d,⟨by decide,by decide⟩,_,d,by lia,_,d,?_⟩;obtain⟨j,L,m,_⟩:=AJ (xs:=s) (i:=(s.length:Int)-1-c / 8 % (s.length:Int)) (by lia) (by lia);rw[m];obtain⟨t,z,k,r⟩:=g _<|Ln L;dsimp only;rw[r];exact aQ.keep (h _ _ _) rO aY
theorem zj(T:Tops P w K mg base):v4 P w K mg base 1 "_law_told" zg nB:=v4.byD (N:=["_law_number","_law_says","_law_hands_here"]) T.b T.f_told (by walk_at"sc") BY (by walk_at"dv") DV
def gl:x5:=λds M R=>∃(c:Int) (q n:Nat) (hs:List D) (t:List (D×D)),ds=[.int c,.ref q,.ref n]/\al M q hs/\(∀x∈hs,Hd x)/\hs.Nodup/\hs.length<=12/\M[n]?=a7 (.dkt t)/\(∀x∈hs,∃i:Int,bi t x=a7 (.int i))/\∀vs:List D,nH 3 vs->VecK vs->R (.tup vs) M
theorem xw:cZ gl pC:=by rintro ds M R ⟨c,q,n,hs,t,rfl,_⟩;rfl
theorem kL{k:Nat}{vs:List (D×Int)}(h:∀p∈vs,Hd p.1):nH (k+2) (vs.map λp=>D.tup [p.1,.int p.2]):=nH.of λd a=>by obtain⟨p,b,rfl⟩:=w9.mp a;exact .tup<|.cons (FR<|h p b)<|.cons (.int _) .nil
def nW:t7:=bn<|u5 ii<|aa (ac 3) ag
def nX:t7:=aT (tx aI (ac 0)<|dC<|.int 5) 0
def nY:t7:=ax (nG (bN<|ac 1) (am 4)<|ax (B6 (aE<|tx C5 (tx bP (ac 0)<|dC<|.int 2)<|dC<|.int 1) (jy<|K8 cv (ac 3)<|aa (fL<|aa (ac 4)<|aa (tx aA (dC<|.int 1)<|tx bP (tx aI (ac 0)<|dC<|.int 2)<|dC<|.int 6) ag) ag) bj)<|nX)<|nW
def nZ:t7:=ax (aT (fN ag) 3)<|nY
def og:t7:=ax (aT (tx aI (ac 0)<|dC<|.int 2) 0)<|nZ
def vm:t7:=ax (B6 (aE<|tx C5 (tx bP (ac 0)<|dC<|.int 2)<|dC<|.int 0) (bn<|u5 ii<|aa (E8 1 [2] (bN<|ac 1) (am 0) (aE<|tx LC (jV (ac 1)<|ac 0)<|dC<|.int 0)<|fL<|aa (ac 0)<|aa (jV (ac 1)<|ac 0) ag) ag) bj)<|og
theorem yb:A5 gl 5 vm:=by
 rintro ds M R ⟨c,q,n,hs,t,rfl,e,o,f,B,s,w,h⟩;simp only[vm];walk_at"dl";refine⟨by decide,⟨aw,aw⟩,?_⟩;cases u3 M ve (.int<|c % 2) (.int 0) with
 |true=>refine dB ⟨_,e,λ_=>?_⟩;refine gJ (λys acc S d=>∃(vs:List (D×Int)) (a:Option D),acc=vs.map (λp=>.tup [p.1,.int p.2])/\(∀p∈vs,Hd p.1)/\vs.length+ys.length<=hs.length/\(∀y∈ys,y∈hs)/\(vs.map (·.1)++ys).Sublist hs/\d=M/\S=[a,a7<|.ref n]) ?_ ?_ _ _ _ _ ⟨[],_,rfl,(λ_ z=>nomatch z),by simp,λ_ z=>z,Og _,rfl,rfl⟩;rintro acc S d ⟨vs,a,rfl,v,l,_,T,rfl,rfl⟩;exact⟨e,_,ae,aQ.keep (h _ (kL v) ⟨vs,rfl,v,by simp at l;lia,by rw[KO]at T;exact T.nodup f⟩) (bA 4 _<|.tup<|kL v) aY⟩;rintro y ys acc S d ⟨vs,a,rfl,v,l,O,T,rfl,rfl⟩ K A;refine⟨e,?_⟩;obtain⟨i,hi⟩:=w y (O y<|by simp);obtain⟨z,k,rfl⟩:=o y (O y<|by simp);rw[B9]at l;walk_at"dl";refine⟨t,_,s,rfl,hi,?_⟩;walk_at"dl";split;refine⟨t,_,s,rfl,hi,ah (by lia),by rw[u8];exact av (by lia),A _ _ _ ⟨vs++[(.tup [.str z,.int k],i)],_,by simp,λp b=>?_,by rw[A1,F8];lia,λm h'=>O m<|A8 _ h',by rw[Kr,G5];exact T,rfl,rfl⟩⟩;rcases F3.mp b with b|b;exact v p b;rw[J7.mp b];exact⟨_,_,rfl⟩;exact A _ _ _ ⟨vs,_,rfl,v,by lia,λm h'=>O m<|A8 _ h',((Og _).append<|List.sublist_cons_self _ _).trans T,rfl,rfl⟩
 |false =>
  refine dz ?_;simp only[og,nZ,nY];walk_at"dl";refine⟨⟨by decide,by decide⟩,z5 _,_,e.more _,λ_=>?_⟩;refine bf (λi S d=>∃(vs:List (D×Int)) (r:Int) (a:Option D),vs.length<=i/\(∀p∈vs,Hd p.1)/\(vs.map (·.1)).Sublist (hs.take i)/\d=M++MO.lst (vs.map λp=>.tup [p.1,.int p.2])::[]/\S=[a7<|.int r,a7<|.ref q,a7<|.ref n,a7<|.ref M.length,a]) ?_ ?_ ⟨[],_,_,u6 _,(λ_ z=>nomatch z),Og _,rfl,rfl⟩;rintro S d ⟨vs,r,a,l,v,T,rfl,rfl⟩;rw[LO]at T;refine⟨e.more _,?_⟩;simp only[nW];walk_at"dl";exact⟨_,.inl cz,aQ.keep (h _ (kL v) ⟨vs,rfl,v,by lia,T.nodup f⟩) (bA 4 _<|.tup<|kL v) EB⟩;rintro i y S d O ⟨vs,r,a,l,v,T,rfl,rfl⟩ G g;have u:hs.take (i+1)=hs.take i++[y]:=by rw[Ma,O];rfl
  rw[u]at g;have x:=(z6.mp O).1;have j:=o y<|J1 O;refine⟨e.more _,?_⟩;simp only[nX];walk_at"dl";refine⟨by decide,⟨aw,aw⟩,?_⟩;split;refine⟨⟨_,.inl cz⟩,⟨by decide,by decide⟩,by decide,ah (by lia),_,cz,by rw[u8];exact av (by lia),⟨by decide,by decide⟩,C4.now<|g _ _ ⟨vs++[(y,1+r / 2 % 6)],_,_,by rw[A1,F8];lia,λp b=>?_,by rw[Kr];exact T.append<|Og _,by rw[lX];simp,rfl⟩⟩;rcases F3.mp b with b|b;exact v p b;rw[J7.mp b];exact j;exact⟨⟨by decide,by decide⟩,C4.now<|g _ _ ⟨vs,_,_,by lia,v,T.trans<|List.sublist_append_left _ _,rfl,rfl⟩⟩
theorem zi(T:Tops P w K mg base):v4 P w K mg base 1 "_law_vector" pC gl:=v4.byD (N:=["_law_number","_law_hands_here","_law_counts","_law_found","_law_hand"]) T.b T.f_vector (by walk_at"sc") xw (by walk_at"dv") yb
def qm:x5:=λds M R=>∃(c:Int) (ps:List (b9×Int)) (a:List (b9×List b9)) (p q:Nat) (s hs:List D),ds=[.int c,aC ps a,.ref p,.ref q]/\HouseF ps a/\al M p s/\ME s/\s.length<=1000/\al M q hs/\(∀x∈hs,Hd x)/\1<=hs.length/\hs.length<=1000/\∀w:D,Kj w->R w M
theorem BX:cZ qm zf:=by rintro ds M R ⟨c,ps,a,p,q,s,hs,rfl,_⟩;rfl
def vh:t7:=bn<|fL<|aa (dC<|.str "under")<|aa (u5 nB<|aa (tx aI (ac 0)<|dC<|.int 3)<|aa (ac 2)<|aa (ac 3) ag) ag
def vj:t7:=ax (B6 (aE<|tx C5 (tx bP (ac 0)<|dC<|.int 3)<|dC<|.int 1) (bn<|fL<|aa (dC<|.str "person")<|aa (tx v7 (tx v7 (tx v7 (ac 1)<|dC<|.int 0)<|tx bP (tx aI (ac 0)<|dC<|.int 3)<|u5 jH<|aa (tx v7 (ac 1)<|dC<|.int 0) ag)<|dC<|.int 0) ag) bj)<|vh
def Dg:t7:=ax (B6 (aE<|tx C5 (tx bP (ac 0)<|dC<|.int 3)<|dC<|.int 0) (bn<|fL<|aa (dC<|.str "room")<|aa (tx v7 (tx v7 (tx v7 (ac 1)<|dC<|.int 1)<|tx bP (tx aI (ac 0)<|dC<|.int 3)<|u5 jH<|aa (tx v7 (ac 1)<|dC<|.int 1) ag)<|dC<|.int 0) ag) bj)<|vj
theorem DU:A5 qm 4 Dg:=by
 rintro ds M R ⟨c,ps,l,p,q,s,hs,rfl,f,e,o,m,j,b,h1,g,h⟩;simp only[Dg,aC];walk_at"dl";refine⟨by decide,⟨aw,aw⟩,?_⟩;cases u3 M ve (.int<|c % 3) (.int 0) with
 |true=>obtain⟨d,a,G⟩:=ip (xs:=l.map iw) (i:=c / 3) (by rw[u8];exact f.rl.1);obtain⟨r,_,rfl⟩:=w9.mp a;refine dB ⟨⟨by decide,by decide⟩,by rw[u8];have:=f.rl.1;lia,?_⟩;rw[G];unfold iw;walk_at"dl";exact⟨ah (by lia),aQ.now<|h _<|.inl ⟨_,rfl⟩⟩
 |false =>
  refine dz ?_;simp only[vj];walk_at"dl";refine⟨by decide,⟨aw,aw⟩,?_⟩;cases u3 M ve (.int<|c % 3) (.int 1) with
  |true=>obtain⟨d,a,G⟩:=ip (xs:=ps.map fK) (i:=c / 3) (by rw[u8];exact f.len.1);obtain⟨r,_,rfl⟩:=w9.mp a;refine dB ⟨⟨by decide,by decide⟩,by rw[u8];have:=f.len.1;lia,?_⟩;rw[G];unfold fK;walk_at"dl";exact⟨ah (by lia),aQ.now<|h _<|.inr<|.inl ⟨_,rfl⟩⟩
  |false=>refine dz ?_;simp only[vh];walk_at"dl";exact⟨⟨by decide,by decide⟩,_,p,q,s,hs,rfl,e,o,m,j,b,h1,g,λt z k=>⟨ah (by lia),aQ.now<|h _<|.inr<|.inr ⟨_,_,_,rfl⟩⟩⟩
theorem ER(T:Tops P w K mg base):v4 P w K mg base 2 "_law_what" zf qm:=v4.byD (N:=["_law_number","_law_house_here","_law_says","_law_hands_here"]) T.b T.f_what (by walk_at"sc") BX (by have:=zj T;walk_at"dv") DU
def wF:x5:=λds M R=>∃(c:Int) (ps:List (b9×Int)) (a:List (b9×List b9)) (p q n:Nat) (s hs:List D) (t:List (D×D)),ds=[.int c,aC ps a,.ref p,.ref q,.ref n]/\HouseF ps a/\al M p s/\ME s/\s.length<=1000/\al M q hs/\(∀x∈hs,Hd x)/\1<=hs.length/\hs.length<=12/\hs.Nodup/\M[n]?=a7 (.dkt t)/\(∀x∈hs,∃i:Int,bi t x=a7 (.int i)) /\∀(x:b9) (ds:List D),nH 4 ds->ActK a x ds->R (.tup<|.str x::ds) M
theorem Ff:cZ wF EN:=by rintro ds M R ⟨c,ps,a,p,q,n,s,hs,t,rfl,_⟩;rfl
theorem Bk:F4 (n+2) (.tup [.int t,.tup [.str z,.int k]]):=.tup<|.cons (.int _)<|.cons (.tup<|.cons (.str _)<|.cons (.int _) .nil) .nil
def vG:t7:=bn<|tx v7 (fN<|aa (fL<|aa (dC<|.str "rung")<|aa (ac 8) ag)<|aa (fL<|aa (dC<|.str "read")<|aa (ac 7)<|aa (u5 gl<|aa (tx aI (ac 0)<|dC<|.int 4)<|aa (ac 3)<|aa (ac 4) ag) ag) ag)<|tx bP (tx aI (ac 0)<|dC<|.int 3)<|dC<|.int 2
def vH:t7:=ax (B6 (aE<|tx C5 (ac 5)<|dC<|.int 14) (bn<|fL<|aa (dC<|.str "hush")<|aa (u5 qm<|aa (tx aI (ac 0)<|dC<|.int 3)<|aa (ac 1)<|aa (ac 2)<|aa (ac 3) ag)<|aa (tx LC (tx bP (ac 0)<|dC<|.int 3)<|dC<|.int 0) ag) bj)<|vG
def vI:t7:=ax (B6 (aE<|tx C5 (ac 5)<|dC<|.int 13) (bn<|fL<|aa (dC<|.str "seen")<|aa (ac 8) ag) bj)<|vH
def vJ:t7:=ax (B6 (aE<|tx C5 (ac 5)<|dC<|.int 12) (bn<|fL<|aa (dC<|.str "read")<|aa (ac 7)<|aa (u5 gl<|aa (tx aI (ac 0)<|dC<|.int 4)<|aa (ac 3)<|aa (ac 4) ag) ag) bj)<|vI
def vK:t7:=bn<|fL<|aa (dC<|.str "like")<|aa (ac 8)<|aa (tx v7 (ac 10)<|tx bP (tx aI (ac 0)<|dC<|.int 2000)<|u5 jH<|aa (ac 10) ag)<|aa (tx LC (tx bP (ac 0)<|dC<|.int 4)<|dC<|.int 0) ag
def yF:t7:=ax (B6 (aE<|tx LB (ac 5)<|dC<|.int 12) (ax (aT (tx aA (ac 6)<|fN<|aa (dC<|.str "good") ag) 10)<|vK) bj)<|vJ
def yG:t7:=ax (B6 (aE<|tx C5 (ac 5)<|dC<|.int 8) (bn<|fL<|aa (dC<|.str "back")<|aa (ac 8) ag) bj)<|yF
def yH:t7:=ax (B6 (aE<|tx LB (ac 5)<|dC<|.int 8) (bn<|fL<|aa (dC<|.str "change")<|aa (ac 8)<|aa (u5 gp<|aa (tx aI (ac 0)<|dC<|.int 12)<|aa (ac 6) ag) ag) bj)<|yG
def yI:t7:=bn<|fL<|aa (dC<|.str "say")<|aa (ac 7)<|aa (ac 9)<|aa (u5 gp<|aa (tx aI (ac 0)<|dC<|.int 12)<|aa (ac 6) ag) ag
def tZ:t7:=ax (B6 (aE<|tx LB (ac 5)<|dC<|.int 6) (ax (aT (tx v7 (fN<|aa (dC .non)<|aa (ac 8)<|aa (ac 8) ag)<|tx bP (tx aI (ac 0)<|dC<|.int 4)<|dC<|.int 3) 9)<|yI) bj)<|yH
def yJ:t7:=ax (aT (u5 nB<|aa (tx aI (ac 0)<|dC<|.int 4)<|aa (ac 2)<|aa (ac 3) ag) 8)<|tZ
def yK:t7:=ax (aT (tx v7 (tx v7 (tx v7 (ac 1)<|dC<|.int 1)<|tx bP (ac 0)<|u5 jH<|aa (tx v7 (ac 1)<|dC<|.int 1) ag)<|dC<|.int 0) 7)<|yJ
def yL:t7:=ax (il 2 [] (bN<|tx v7 (ac 1)<|dC<|.int 0) (ng 2<|bV (am 0)<|bV (am 1) nh) nF (ac 0) 6)<|yK
def yM:t7:=ax (aT (tx aI (ac 0)<|dC<|.int 16) 0)<|yL
def GX:t7:=ax (aT (tx bP (ac 0)<|dC<|.int 16) 5)<|yM
theorem gk(H:M <+: B)(h:∀(x:b9) (ds:List D),nH 4 ds->ActK rs x ds->R (.tup<|.str x::ds) M)(p:nH 4 ds)(a:ActK rs x ds):aQ M R (.tup<|.str x::ds) B:=aQ.keep (h x ds p a) (bA 5 _<|.tup<|.cons (.str _) p) H
theorem act_5{M B:t9}{R:DK}{c e:Int}{ps:List (b9×Int)}{rs:List (b9×List b9)}{p q n C:Nat}{s hs:List D}{f:List (D×D)}{m:b9}{t:Int}{z:b9}{k:Int}{ns:List b9}(H:M <+: B)(hf:HouseF ps rs)(hp:al B p s)(so:ME s)(sl:s.length<=1000)(G:al B q hs)(F:∀x∈hs,Hd x)(h1:1<=hs.length)(O:hs.length<=12)(l:hs.Nodup)(P:B[n]?=a7 (.dkt f))(N:∀x∈hs,∃i:Int,bi f x=a7 (.int i))(E:B[C]?=a7 (.lst<|ns.map .str))(V:1<=ns.length)(n4:ns.length<=4)(W:∀x∈ns,x.length<=8)(I:m∈rs.map (·.1))(h:∀(x:b9) (ds:List D),nH 4 ds->ActK rs x ds->R (.tup<|.str x::ds) M):tZ (EE M R) [a7<|.int c,a7<|aC ps rs,a7<|.ref p,a7<|.ref q,a7<|.ref n,a7<|.int e,a7<|.ref C,a7<|.str m,a7<|.tup [.int t,.tup [.str z,.int k]],a8,a8] B:=by
 have sp:∀{j:Nat},F4 (j+2) (.tup [.int t,.tup [.str z,.int k]]):=Bk;have S:St (.tup [.int t,.tup [.str z,.int k]]):=⟨_,_,_,rfl⟩
 generalize hS:D.tup [.int t,.tup [.str z,.int k]]=st at sp S;simp only[tZ];walk_at"dl";by_cases T:e<6;rw[dT_ T];refine dB ?_;have Z:=bR (a:=c / 4) (b:=3) (by decide);have K:=cq (a:=c / 4) (b:=3) (by decide);refine⟨ah (by lia),⟨by decide,by decide⟩,by decide,_,ae,?_⟩;obtain⟨u,Y,pu,hu⟩:∃u,atI [D.non,st,st] (c / 4 % 3)=a7 u/\F4 4 u/\(u=.non\/St u):=by
  generalize c / 4 % 3=v at Z K;have:v=0\/v=1\/v=2:=by lia
  rcases this with rfl|rfl|rfl;exact⟨_,ap (j:=0) rfl,.non,.inl rfl⟩;exact⟨_,ap (j:=1) rfl,sp,.inr S⟩;exact⟨_,ap (j:=2) rfl,sp,.inr S⟩
 rw[Y];simp only[yI];walk_at"dl";exact⟨⟨by decide,by decide⟩,_,C,ns,rfl,.inl<|ad E,V,by lia,W,λx L=>⟨ah (by lia),gk (H.trans aY) h (.cons (.str _)<|.cons pu<|.cons (.str _) .nil)<|.mkSay I hu L⟩⟩;rw[dF_ T];refine dz ?_;simp only[yH];walk_at"dl";by_cases U:e<8;rw[dT_ U];exact dB ⟨⟨by decide,by decide⟩,_,C,ns,rfl,.inl E,V,by lia,W,λx L=>⟨ah (by lia),gk H h (.cons sp<|.cons (.str _) .nil)<|.mkChange S L⟩⟩;rw[dF_ U];refine dz ?_;simp only[yG];walk_at"dl";refine⟨⟨aw,aw⟩,?_⟩;split;exact⟨ah (by lia),gk H h (.cons sp .nil)<|.mkBack S⟩;simp only[yF];walk_at"dl";by_cases o:e<12;rw[dT_ o];have J:(ns.map D.str++[D.str<|t5 "good"]).length=ns.length+1:=by simp
 refine dB ⟨ah (by lia),_,_,ad E,af,by rw[<-A1,J];exact ah (by lia),?_⟩;simp only[vK];walk_at"dl";obtain⟨d,g,X⟩:=ip (xs:=ns.map D.str++[D.str<|t5 "good"]) (i:=c / 2000) (by lia);obtain⟨y,rfl⟩:∃y:b9,d=.str y:=by rcases F3.mp g with g|g;obtain⟨y,_,rfl⟩:=w9.mp g;exact⟨y,rfl⟩;exact⟨_,J7.mp g⟩
 refine⟨⟨by decide,by decide⟩,_,ae,by lia,_,ae,?_⟩;rw[X];exact⟨by decide,ah (by lia),gk ((H.trans aY).trans aY) h (.cons sp<|.cons (.str _)<|.cons (.bl _) .nil)<|.mkLike S⟩;rw[dF_ o];refine dz ?_;simp only[vJ];walk_at"dl";refine⟨⟨aw,aw⟩,?_⟩;have r:∀{vs:List D}{B':t9},M <+: B'->nH 3 vs->VecK vs->aQ M R (.tup [.str<|t5 "read",.str m,.tup vs]) B':=λpb pv A=>gk pb h (.cons (.str _)<|.cons (.tup pv) .nil)<|.mkRead A;split;exact⟨⟨by decide,by decide⟩,_,q,n,hs,f,rfl,G,F,l,O,P,N,λvs pv A=>⟨ah (by lia),r H pv A⟩⟩;simp only[vI];walk_at"dl";refine⟨⟨aw,aw⟩,?_⟩;split;exact⟨ah (by lia),gk H h (.cons sp .nil)<|.mkSeen S⟩;simp only[vH];walk_at"dl";refine⟨⟨aw,aw⟩,?_⟩;split;exact⟨⟨by decide,by decide⟩,_,ps,rs,p,q,s,hs,rfl,hf,hp,so,sl,G,F,h1,by lia,λw Q=>⟨by decide,ah (by lia),gk H h (.cons Q.pl4<|.cons (.bl _) .nil)<|.mkHush Q⟩⟩;simp only[vG];walk_at"dl";have Z:=bR (a:=c / 3) (b:=2) (by decide);have K:=cq (a:=c / 3) (b:=2) (by decide);refine⟨ah (by lia),⟨by decide,by decide⟩,_,q,n,hs,f,rfl,G,F,l,O,P,N,λvs pv A=>⟨ah (by lia),ah (by lia),⟨by decide,by decide⟩,by decide,_,ae,?_⟩⟩;generalize c / 3 % 2=v at Z K;have:v=0\/v=1:=by lia
 rcases this with rfl|rfl;rw[LU];exact gk (H.trans aY) h (.cons sp .nil)<|.mkRung S;rw[Ml];exact r (H.trans aY) pv A
theorem GS:A5 wF 11 GX:=by
 rintro ds M R ⟨c,ps,P,p,q,n,s,hs,E,rfl,f,o,A,y,u,m,h1,L,g,N,K,h⟩;simp only[GX,yM];walk_at"dl";refine⟨by decide,⟨by decide,by decide⟩,?_⟩;generalize c % 16=w;generalize c / 16=C;simp only[yL,aC];walk_at"dl";intro _;refine aU (λd=>match d with|.tup (x::_)=>x|_=>.non) (λS=>∃a b,S=[a,b]) trivial _ _ _ (λd e S I=>?_) ⟨_,_,rfl⟩ ?_ ?_;obtain⟨a,b,rfl⟩:=I;obtain⟨r,v,rfl⟩:=w9.mp e;refine⟨[a7<|.str r.1,a7<|.int r.2],⟨_,_,rfl⟩,λY J=>?_⟩;unfold fK;walk_at"dl";exact⟨trivial,J⟩;rw[D3,u8];have:=f.len.2;exact ah (by lia);have F:(ps.map fK).map (λd=>match d with|.tup (x::_)=>x|_=>.non)=(ps.map (·.1)).map D.str:=by rw[E7,E7];rfl
 rw[Fn,F];have l:(M++[MO.lst ((ps.map (·.1)).map D.str)])[M.length]?=a7 (.lst ((ps.map (·.1)).map D.str)):=af;have H:M <+: M++[MO.lst ((ps.map (·.1)).map D.str)]:=aY;generalize M++[MO.lst ((ps.map (·.1)).map D.str)]=B at l H;generalize M.length=Q at l;simp only[yK];walk_at"dl";obtain⟨d,e,G⟩:=ip (xs:=P.map iw) (i:=C) (by rw[u8];exact f.rl.1);obtain⟨r,v,rfl⟩:=w9.mp e;refine⟨by rw[u8];have:=f.rl.1;lia,?_⟩;rw[G];rw[show iw r=.tup [.str r.1,.tup<|r.2.map .str]from rfl];walk_at"dl";simp only[yJ];walk_at"dl";refine⟨⟨by decide,by decide⟩,_,p,q,s,hs,rfl,bI H o,A,y,bI H u,m,h1,by lia,λt z k=>?_⟩;exact act_5 (ns:=ps.map (·.1)) H f (bI H o) A y (bI H u) m h1 L g (bJ H N) K l (by rw[u8];exact f.len.1) (by rw[u8];exact f.len.2) (λx O=>by obtain⟨r',j,rfl⟩:=w9.mp O;exact f.nm r' j) (Lb v) h
theorem Ih(T:Tops P w K mg base):v4 P w K mg base 3 "_law_act" EN wF:=v4.byD (N:=["_law_number","_law_house_here","_law_says","_law_hands_here","_law_counts","_law_kind","_law_names_here","_law_room","_law_message","_law_under","_law_sorts"]) T.b T.f_act (by walk_at"sc") Ff (by have:=zk T;have:=zj T;have:=zi T;have:=ER T;walk_at"dv") GS
noncomputable def qJ:D->Int
 |.tup (.int t::_)=>t
 |_=>0
theorem sI:∀{xs:List D},(∀x∈xs,f x x=a9)->qr f g xs xs=bt
 | [],_=>rfl
 |x::xs,h=>by show (if f x x=a9 then qr f g xs xs else g x x)=bt;rw[o5<|h x<|by simp];exact sI λy hy=>h y<|A8 _ hy
theorem tz:∀{xs:List D},(∀x∈xs,f x x=a9)->xO f g xs xs=a9
 | [],_=>rfl
 |x::xs,h=>by show (if f x x=a9 then xO f g xs xs else g x x)=a9;rw[o5<|h x<|by simp];exact tz λy hy=>h y<|A8 _ hy
structure GenH(ps:List (b9×Int))(rs:List (b9×List b9))(hs deeds:List D)(cnt las:List (D×D))(g:Int):Prop where
 deed:∀d∈deeds,ay ps rs d
 up:deeds.Pairwise λa b=>Ah a=Ah b->qJ a<qJ b
 last:∀h∈hs,∃t:Int,bi las h=a7 (.int t)/\(0<=t/\t<=g)/\∀d∈deeds,Ah d=h->qJ d<=t
 cnt:∀h∈hs,∃i:Int,bi cnt h=a7 (.int i)/\0<=i
 nn:∀d∈deeds,0<=numD d
 le:∀d∈deeds,qJ d<=g
theorem Ho{α:Type}{r:α->α->Prop}:∀{l:List α}{a b:α},l.Pairwise r->a∈l->b∈l->a≠b->r a b\/r b a
 |x::l,a,b,h,ha,hb,ne=>by rw[List.pairwise_cons]at h;rcases A0.mp ha with e1|h1;rcases A0.mp hb with e2|h2;exact o7 (e1.trans e2.symm) ne;rw[e1];exact .inl<|h.1 b h2;rcases A0.mp hb with e2|h2;rw[e2];exact .inr<|h.1 a h1;exact Ho h.2 h1 h2 ne
theorem GenH.step{ps:List (b9×Int)}{rs:List (b9×List b9)}{hs s:List D}{f l:List (D×D)}{g:Int}(G:GenH ps rs hs s f l g){z:b9}{k t T num i:Int}{x:b9}{ds:List D}(j:D.tup [.str z,.int k]∈hs)(o:bi l (.tup [.str z,.int k])=a7 (.int t))(B:t<T)(y:0<=num)(Y:0<=i)(A:nH 4 ds)(w:ActK rs x ds)(n:∀x∈hs,x∈aX ps):GenH ps rs hs (s++[.tup [.int T,.tup [.str z,.int k],.int num,.tup<|.str x::ds]]) (ji f (.tup [.str z,.int k])<|.int i) (ji l (.tup [.str z,.int k])<|.int T) (if T > g then T else g):=by
 have q:g<=(if T > g then T else g):=by split<;>lia
 have Tle:T<=(if T > g then T else g):=by split<;>lia
 refine⟨λd m=>?_,?_,λh m=>?_,λh m=>?_,λd m=>?_,λd m=>?_⟩;rcases F3.mp m with m|m;exact G.deed d m;rw[J7.mp m];exact⟨T,z,k,num,x,ds,rfl,by obtain⟨t',c,r,_⟩:=G.last _ j;rw[o]at c;injection c with c;injection c with c;lia,n _ j,A,w⟩;refine List.pairwise_append.mpr ⟨G.up,Qc _ _,λa u b v=>?_⟩;rw[J7.mp v];intro e;obtain⟨t',c,_,le⟩:=G.last _ j;rw[o]at c;injection c with c;injection c with c;have:=le a u e;show qJ a<T;lia;by_cases e:h=.tup [.str z,.int k];subst e;refine⟨T,jv,⟨by obtain⟨t',c,r,_⟩:=G.last _ j;rw[o]at c;injection c with c;injection c with c;lia,Tle⟩,λd m e=>?_⟩;rcases F3.mp m with m|m;obtain⟨t',c,_,le⟩:=G.last _ j;rw[o]at c;injection c with c;injection c with c;have:=le d m e;lia;rw[J7.mp m];exact N4 _;obtain⟨t',c,h1,le⟩:=G.last h m;refine⟨t',by rw[gi e];exact c,⟨h1.1,by have:=h1.2;lia⟩,λd m p=>?_⟩;rcases F3.mp m with m|m;exact le d m p;rw[J7.mp m]at p;exact o7 p.symm e;by_cases e:h=.tup [.str z,.int k];subst e;exact⟨_,jv,Y⟩;rw[gi e];exact G.cnt h m;rcases F3.mp m with m|m;exact G.nn d m;rw[J7.mp m];exact y;rcases F3.mp m with m|m;exact Int.le_trans (G.le d m) q;rw[J7.mp m];exact Tle
theorem Av(G:GenH ps rs hs deeds cnt las g)(l:deeds.length<64):SrtG M deeds:=by
 have s:∀d∈deeds,u7 M ve d=a9/\u3 M ve d d=a9:=λd r=>vS 6 ve d (by decide) (G.deed d r).pl;have p:∀{a:D}{xs:List D},a=.tup xs->F4 6 a->∀x∈xs,u3 M 29 x x=a9:=λ{a xs} e h x hx=>by subst e;exact(vS 5 29 x (by decide)<|F0.mp h x hx).2
 have c:∀{t z k n x ds t' F H j S ds'},D.tup [.int t,.tup [.str z,.int k],.int n,.tup<|.str x::ds]∈deeds->D.tup [.int t',.tup [.str F,.int H],.int j,.tup<|.str S::ds']∈deeds->D.tup [.int t,.tup [.str z,.int k],.int n,.tup<|.str x::ds]≠D.tup [.int t',.tup [.str F,.int H],.int j,.tup<|.str S::ds']->t=t'->u3 M 29 (.tup [.str z,.int k]) (.tup [.str F,.int H])=bt:=by intro t z k n x ds t' F H j S ds' f i u m;refine Ly.mpr λe=>?_;have U:=(FS (M:=M) (n:=28) (a:=.tup [.str z,.int k]) (b:=.tup [.str F,.int H]) ⟨_,_,rfl⟩ ⟨_,_,rfl⟩).mp e;rcases Ho G.up f i u with q|q;have:=q U;simp only[qJ]at this;lia;have:=q U.symm;simp only[qJ]at this;lia
 refine⟨l,λd r=>(s d r).1,λa f b i=>?_,.inr<|.inr<|.inr<|.inl λa f=>?_,λd=>E2 ve<|w4 d,λa f b i=>?_⟩
 ·by_cases e:a=b
  subst e;obtain⟨t,z,k,n,x,ds,e,_⟩:=G.deed a f;have:=p e (G.deed a f).pl;rw[e];exact tz this
  ·obtain⟨t,z,k,n,x,ds,rfl,_⟩:=G.deed a f
   obtain⟨t',F,H,j,S,ds',rfl,_⟩:=G.deed b i;have o:=c f i e;show (if u3 M 29 (.int t) (.int t')=a9 then(if u3 M 29 (.tup [.str z,.int k]) (.tup [.str F,.int H])=a9 then xO (u3 M 29) (kz M 29) [.int n,.tup<|.str x::ds] [.int j,.tup<|.str S::ds']else(if u3 M 28 (.str z) (.str F)=a9 then(if u3 M 28 (.int k) (.int H)=a9 then a9 else a9)else a9))else a9)=a9;rw[iP];by_cases m:t=t'
   ·rw[o m]
    repeat' split
    all_goals first|rfl|contradiction
   rw[beq_eq_false_iff_ne.mpr m];rfl
 obtain⟨t,z,k,n,x,ds,rfl,_⟩:=G.deed a f;exact⟨_,_,rfl⟩
 ·have st:∀{t t':Int}{z F:b9}{k H:Int},C1 M ve (.tup [.int t,.tup [.str z,.int k]]) (.tup [.int t',.tup [.str F,.int H]])=decide (E2 ve (.tup [.int t,.tup [.str z,.int k]])<E2 ve (.tup [.int t',.tup [.str F,.int H]])):=λ{t t' z F k H}=>by
   refine uw rfl rfl ?_;show (if u3 M 29 (.int t) (.int t')=a9 then(if u3 M 29 (.tup [.str z,.int k]) (.tup [.str F,.int H])=a9 then a9 else(if u3 M 28 (.str z) (.str F)=a9 then(if u3 M 28 (.int k) (.int H)=a9 then a9 else a9)else a9))else a9)=a9
   repeat' split
   all_goals rfl
  by_cases e:a=b;subst e;obtain⟨t,z,k,n,x,ds,e,_⟩:=G.deed a f;have:=p e (G.deed a f).pl;rw[dF_<|Nv _,e];exact sI this;obtain⟨t,z,k,n,x,ds,rfl,_⟩:=G.deed a f;obtain⟨t',F,H,j,S,ds',rfl,_⟩:=G.deed b i;have o:=c f i e;refine Eq.trans ?_ st;show (if u3 M 29 (.int t) (.int t')=a9 then(if u3 M 29 (.tup [.str z,.int k]) (.tup [.str F,.int H])=a9 then qr (u3 M 29) (C1 M 29) [.int n,.tup<|.str x::ds] [.int j,.tup<|.str S::ds']else C1 M 29 (.tup [.str z,.int k]) (.tup [.str F,.int H]))else C1 M 29 (.int t) (.int t'))=(if u3 M 29 (.int t) (.int t')=a9 then(if u3 M 29 (.tup [.str z,.int k]) (.tup [.str F,.int H])=a9 then bt else C1 M 29 (.tup [.str z,.int k]) (.tup [.str F,.int H]))else C1 M 29 (.int t) (.int t'))
  rw[iP];by_cases m:t=t';rw[o m];rfl;rw[beq_eq_false_iff_ne.mpr m];rfl
def wE:x5:=λds M R=>∃(ps:List (b9×Int)) (a:List (b9×List b9)) (p q:Nat) (ns:List Int) (hs:List D),ds=[aC ps a,.ref p,.ref q]/\HouseF ps a/\al M p (ns.map .int)/\ns.length<=40/\al M q hs/\(∀x∈hs,x∈aX ps)/\1<=hs.length/\hs.length<=12/\hs.Nodup/\∀log:List D,(∀d∈log,ay ps a d)->(∀d∈log,qJ d<=200)->(∀d∈log,0<=numD d)->log.length<=40->R (.tup log) M
theorem Fd:cZ wE EL:=by rintro ds M R ⟨ps,a,p,q,ns,hs,rfl,_⟩;rfl
structure J3(M B:t9)(deeds sts:List D)(cnt las:List (D×D)):Prop where
 pre:M <+: B
 deeds:B[M.length]?=a7 (.lst deeds)
 sts:B[M.length+1]?=a7 (.lst sts)
 cnt:B[M.length+2]?=a7 (.dkt cnt)
 las:B[M.length+3]?=a7 (.dkt las)
section
variable{M B:t9}{deeds sts:List D}{cnt las:List (D×D)}
theorem J3.more{L:t9}(g:J3 M B deeds sts cnt las):J3 M (B++L) deeds sts cnt las:=⟨g.pre.trans<|KH _ _,bJ (KH _ _) g.deeds,bJ (KH _ _) g.sts,bJ (KH _ _) g.cnt,bJ (KH _ _) g.las⟩
theorem J3.setDeeds(g:J3 M B deeds sts cnt las):J3 M (B.set M.length<|.lst deeds') deeds' sts cnt las:=⟨cu g.pre<|u6 _,bU g.deeds,aM (by lia) g.sts,aM (by lia) g.cnt,aM (by lia) g.las⟩
theorem J3.setSts(g:J3 M B deeds sts cnt las):J3 M (B.set (M.length+1)<|.lst sts') deeds sts' cnt las:=⟨cu g.pre (by lia),aM (by lia) g.deeds,bU g.sts,aM (by lia) g.cnt,aM (by lia) g.las⟩
theorem J3.setCnt(g:J3 M B deeds sts cnt las):J3 M (B.set (M.length+2)<|.dkt cnt') deeds sts cnt' las:=⟨cu g.pre (by lia),aM (by lia) g.deeds,aM (by lia) g.sts,bU g.cnt,aM (by lia) g.las⟩
theorem J3.setLas(g:J3 M B deeds sts cnt las):J3 M (B.set (M.length+3)<|.dkt las') deeds sts cnt las':=⟨cu g.pre (by lia),aM (by lia) g.deeds,aM (by lia) g.sts,aM (by lia) g.cnt,bU g.las⟩
end
def vp:t7:=bn<|u5 ii<|aa (u5 jF<|aa (ac 3) ag) ag
def vq:t7:=B6 (aE<|tx C5 (tx v7 (ac 11)<|dC<|.int 0)<|dC<|.str "say") (jy<|K8 cv (ac 4)<|aa (fL<|aa (ac 10)<|aa (ac 7) ag) ag) bj
def vt:t7:=ax (aT (u5 yV<|aa (ac 8)<|aa (ac 10) ag) 8)<|vq
def vA:t7:=ax (sY (ac 6) (ac 7)<|ac 10)<|vt
def vB:t7:=ax (sY (ac 5) (ac 7)<|tx aA (jV (ac 5)<|ac 7)<|dC<|.int 1)<|vA
def vC:t7:=ax (jy<|K8 cv (ac 3)<|aa (fL<|aa (ac 10)<|aa (ac 7)<|aa (jV (ac 5)<|ac 7)<|aa (ac 11) ag) ag)<|vB
def vD:t7:=ax (aT (u5 wF<|aa (tx aI (ac 9)<|dC<|.int 20)<|aa (ac 0)<|aa (ac 4)<|aa (ac 2)<|aa (ac 5) ag) 11)<|vC
def ym:t7:=ax (aT (tx aA (tx v7 (fN<|aa (ac 8)<|aa (jV (ac 6)<|ac 7)<|aa (tx aA (jV (ac 6)<|ac 7)<|tx bP (tx aI (ac 9)<|dC<|.int 4)<|dC<|.int 5)<|aa (ac 8) ag)<|tx bP (ac 9)<|dC<|.int 4)<|dC<|.int 1) 10)<|vD
def tX:t7:=ax (aT (tx aI (ac 9)<|dC<|.int 12) 9)<|ym
def yn:t7:=ax (nG (bN<|ac 1) (am 9)<|ax (aT (tx v7 (ac 2)<|tx bP (ac 9)<|u5 jH<|aa (ac 2) ag) 7)<|tX)<|vp
def yo:t7:=ax (aT (dC<|.int 0) 8)<|yn
def yp:t7:=sY (ac 6) (ac 7)<|dC<|.int 0
def yq:t7:=ax (nG (bN<|ac 2) (am 7)<|ax (sY (ac 5) (ac 7)<|dC<|.int 0)<|yp)<|yo
def yr:t7:=ax (aT (xM) 6)<|yq
def yt:t7:=ax (aT (xM) 5)<|yr
def yu:t7:=ax (aT (fN ag) 4)<|yt
def GV:t7:=ax (aT (fN ag) 3)<|yu
theorem BW{M B:t9}{E:DEnds}{s f hs:List D}{e l:List (D×D)}{r num:Int}{ps:List (b9×Int)}{rs:List (b9×List b9)}{p q:Nat}{y7 P Q:Option D}{n:Nat}(g:J3 M B s f e l)(G:GenH ps rs hs s e l r)(hf:HouseF ps rs)(V:al M q hs)(h:∀x∈hs,x∈aX ps)(h1:1<=hs.length)(hl:hs.length<=12)(I:hs.Nodup)(N:ME f)(sl:f.length<=n)(dl:s.length<=n)(cl:e.length<=12+n)(ll:l.length<=12+n)(ab:n<40)(gn:r<=5*(n:Int))(S:∀deeds' sts' cnt' las' gr' B' a b c d,J3 M B' deeds' sts' cnt' las'->GenH ps rs hs deeds' cnt' las' gr'->gr'<=5*((n:Int)+1)->ME sts'->sts'.length<=n+1->deeds'.length<=n+1->cnt'.length<=12+(n+1)->las'.length<=12+(n+1)->E.nx [a7<|aC ps rs,a7<|.ref p,a7<|.ref q,a7<|.ref M.length,a7<|.ref<|M.length+1,a7<|.ref<|M.length+2,a7<|.ref<|M.length+3,a,a7<|.int gr',b,c,d] B'):(ax (aT (tx v7 (ac 2)<|tx bP (ac 9)<|u5 jH<|aa (ac 2) ag) 7)<|tX) E [a7<|aC ps rs,a7<|.ref p,a7<|.ref q,a7<|.ref M.length,a7<|.ref<|M.length+1,a7<|.ref<|M.length+2,a7<|.ref<|M.length+3,y7,a7<|.int r,a7<|.int num,P,Q] B:=by
 have A:=bI g.pre V;have U:∀x∈hs,Hd x:=λx K=>pX x<|h x K;obtain⟨d,F,ed⟩:=ip (xs:=hs) (i:=num) h1;obtain⟨z,k,rfl⟩:=U d F;obtain⟨t,J,⟨_,X⟩,_⟩:=G.last _ F;walk_at"dl";refine⟨_,A,by lia,_,A,?_⟩;rw[ed];simp only[tX,ym];walk_at"dl";refine⟨⟨by decide,by decide⟩,l,_,g.las,rfl,J,l,_,g.las,rfl,J,⟨by decide,by decide⟩,by decide,ah (by lia),by decide,_,ae,?_⟩;generalize num / 12=c;have v0:=bR (a:=c) (b:=4) (by decide);have v1:=cq (a:=c) (b:=4) (by decide);have w0:=bR (a:=c / 4) (b:=5) (by decide);have w1:=cq (a:=c / 4) (b:=5) (by decide);obtain⟨u,eu,tu,ug⟩:∃u:Int,atI [D.int r,D.int t,D.int<|t+c / 4 % 5,D.int r] (c % 4)=a7 (.int u)/\t<=u/\u<=r+4:=by
  generalize c / 4 % 5=w at w0 w1;generalize c % 4=v at v0 v1;have:v=0\/v=1\/v=2\/v=3:=by lia
  rcases this with rfl|rfl|rfl|rfl;exact⟨_,ap (j:=0) rfl,X,by lia⟩;exact⟨_,ap (j:=1) rfl,N4 _,by lia⟩;exact⟨_,ap (j:=2) rfl,by lia,by lia⟩;exact⟨_,ap (j:=3) rfl,X,by lia⟩
 rw[eu];walk_at"dl";have g1:=g.more (L:=[MO.lst [D.int r,D.int t,D.int<|t+c / 4 % 5,D.int r]]);generalize B++[MO.lst [D.int r,D.int t,D.int<|t+c / 4 % 5,D.int r]]=Y at g1;have W:t<u+1:=by lia
 have Tg:u+1<=r+5:=by lia
 generalize u+1=T at W Tg;obtain⟨i,hi,i0⟩:=G.cnt _ F;simp only[vD];walk_at"dl";refine⟨⟨by decide,by decide⟩,_,ps,rs,M.length+1,q,M.length+2,f,hs,e,rfl,hf,.inl g1.sts,N,by lia,bI g1.pre V,U,h1,hl,I,g1.cnt,λx K=>(G.cnt x K).imp λ_ q=>q.1,λx ds pl H=>?_⟩;simp only[vC];walk_at"dl";refine⟨⟨_,.inl g1.deeds⟩,e,_,g1.cnt,rfl,hi,ah (by lia),_,g1.deeds,av (by lia),?_⟩;have C:=g1.setDeeds (deeds':=s++[.tup [.int T,.tup [.str z,.int k],.int i,.tup<|.str x::ds]]);generalize Y.set M.length _=Z at C;simp only[vB];walk_at"dl";refine⟨e,_,C.cnt,rfl,hi,?_⟩;walk_at"dl";refine⟨e,C.cnt,rfl,av (by lia),?_⟩;have g3:=C.setCnt (cnt':=ji e (.tup [.str z,.int k])<|.int<|i+1);generalize Z.set (M.length+2) _=B3 at g3;simp only[vA];walk_at"dl";refine⟨l,g3.las,rfl,av (by lia),?_⟩;have m:=g3.setLas (las':=ji l (.tup [.str z,.int k])<|.int T);generalize B3.set (M.length+3) _=B4 at m;have R:=G.step (num:=i) (i:=i+1) F J W i0 (by lia) pl H h;have o:(if T > r then T else r)<=5*((n:Int)+1):=by split<;>lia
 have l1:=gB (kvs:=e) (k:=.tup [.str z,.int k]) (d:=.int<|i+1);have l2:=gB (kvs:=l) (k:=.tup [.str z,.int k]) (d:=.int T);simp only[vt];walk_at"dl";simp only[vq];walk_at"dl";refine⟨⟨aJ,aJ⟩,?_⟩;split;refine⟨⟨_,.inl m.sts⟩,ah (by lia),f,m.sts,av (by lia),S _ _ _ _ _ _ _ _ _ _ m.setSts R o (λy O=>?_) (by rw[A1,F8];lia) (by rw[A1,F8];lia) (by lia)<|by lia⟩;rcases F3.mp O with O|O;exact N y O;exact⟨T,z,k,J7.mp O⟩;exact S _ _ _ _ _ _ _ _ _ _ m R o N (by lia) (by rw[A1,F8];lia) (by lia)<|by lia
theorem GQ:A5 wE 12 GV:=by
 rintro ds M R ⟨ps,A,p,q,ns,hs,rfl,hf,L,nl,v,o,h1,hl,J,h⟩;have hh:∀x∈hs,Hd x:=λx f=>pX x<|o x f;simp only[GV,yu,yt,yr];walk_at"dl";refine⟨z5 _,z5 _,?_⟩;have P:(M++[MO.lst []]).length=M.length+1:=by simp
 have Q:(M++[MO.lst []]++[MO.lst []]).length=M.length+2:=by simp
 have U:(M++[MO.lst []]++[MO.lst []]++[MO.dkt []]).length=M.length+3:=by simp
 rw[P,Q,U];have C:J3 M (M++[MO.lst []]++[MO.lst []]++[MO.dkt []]++[MO.dkt []]) [] [] [] []:=by refine⟨((aY.trans aY).trans aY).trans aY,ad<|ad<|ad af,?_,?_,?_⟩;rw[<-P];exact ad<|ad af;rw[<-Q];exact ad af;rw[<-U];exact af
 generalize M++[MO.lst []]++[MO.lst []]++[MO.dkt []]++[MO.dkt []]=B0 at C;simp only[yq];walk_at"dl";refine⟨_,bI C.pre v,λ_=>?_⟩;refine bf (λi S n=>∃(t l:List (D×D)) (a:Option D),J3 M n [] [] t l/\(∀x∈hs.take i,bi t x=a7 (.int 0)/\bi l x=a7 (.int 0))/\t.length<=i/\l.length<=i/\S=[a7<|aC ps A,a7<|.ref p,a7<|.ref q,a7<|.ref M.length,a7<|.ref<|M.length+1,a7<|.ref<|M.length+2,a7<|.ref<|M.length+3,a,a8,a8,a8,a8]) ?_ ?_ ⟨[],[],_,C,(λ_ z=>nomatch z),u6 _,u6 _,rfl⟩;rintro S n ⟨t,l,a,g,r,u,w,rfl⟩;rw[LO]at r;refine⟨bI g.pre v,?_⟩;simp only[yo,yn];walk_at"dl";refine⟨_,bI g.pre L,λ_=>?_⟩;refine bf (λi S n=>∃(s j:List D) (t l:List (D×D)) (E:Int) (a b c d:Option D),J3 M n s j t l/\GenH ps A hs s t l E/\E<=5*(i:Int)/\ME j/\j.length<=i/\s.length<=i/\t.length<=12+i/\l.length<=12+i/\S=[a7<|aC ps A,a7<|.ref p,a7<|.ref q,a7<|.ref M.length,a7<|.ref<|M.length+1,a7<|.ref<|M.length+2,a7<|.ref<|M.length+3,a,a7<|.int E,b,c,d]) ?_ ?_ ⟨[],[],t,l,0,_,_,_,_,g,⟨(λ_ z=>nomatch z),.nil,λx f=>⟨0,(r x f).2,⟨N4 _,N4 _⟩,(λ_ z=>nomatch z)⟩,λx f=>⟨0,(r x f).1,N4 _⟩,(λ_ z=>nomatch z),(λ_ z=>nomatch z)⟩,by lia,(λ_ z=>nomatch z),u6 _,u6 _,by lia,by lia,rfl⟩;rintro S n ⟨s,j,t,l,E,a,b,c,d,g,G,T,X,W,B,u,w,rfl⟩;rw[u8]at B T;refine⟨bI g.pre L,?_⟩;simp only[vp];walk_at"dl";refine⟨s,.inl g.deeds,Av G (by lia),λys O _=>⟨ys,ae,?_⟩⟩;have V:∀d∈ys,ay ps A d:=λd m=>G.deed d<|O.mem_iff.mp m;exact aQ.keep (h ys V (λd m=>Int.le_trans (G.le d<|O.mem_iff.mp m)<|by lia) (λd m=>G.nn d<|O.mem_iff.mp m)<|by rw[O.length_eq];lia) (.tup<|ay.bels V)<|g.pre.trans aY;rintro i y S n O ⟨s,j,t,l,E,a,b,c,d,g,G,T,X,W,B,u,w,rfl⟩ K I;refine⟨bI g.pre L,?_⟩;rw[D5]at O;obtain⟨ab,hn,rfl⟩:=ND.mp O;have hi:=(z6.mp hn).1;simp only[am,List.set_cons_zero,List.set_cons_succ];exact BW g G hf v o h1 hl J X W B u w (by lia) T λdeeds' sts' cnt' las' gr' B' a b c d Z Y H N s1 s2 s3 s4=>C4.now<|I _ _ ⟨deeds',sts',cnt',las',gr',_,_,_,_,Z,Y,H,N,s1,s2,s3,s4,rfl⟩;rintro i y S n O ⟨t,l,a,g,r,u,w,rfl⟩ K I;have hi:=(z6.mp O).1;refine⟨bI g.pre v,?_⟩;obtain⟨z,k,rfl⟩:=hh y<|J1 O;simp only[yp];walk_at"dl";refine⟨t,g.cnt,rfl,av (by lia),?_⟩;have F:=g.setCnt (cnt':=ji t (.tup [.str z,.int k])<|.int 0);have l1:=gB (kvs:=t) (k:=.tup [.str z,.int k]) (d:=.int 0);have l2:=gB (kvs:=l) (k:=.tup [.str z,.int k]) (d:=.int 0);generalize n.set (M.length+2) _=B2 at F;refine⟨l,F.las,rfl,av (by lia),C4.now<|I _ _ ⟨_,_,_,F.setLas,λx f=>?_,by lia,by lia,rfl⟩⟩;rw[Ma,O]at f;by_cases e:x=.tup [.str z,.int k];subst e;exact⟨jv,jv⟩;rw[gi e,gi e];rcases F3.mp f with f|f;exact r x f;exact o7 (by simpa using f) e
theorem Ig(T:Tops P w K mg base):v4 P w K mg base 4 "_law_log" EL wE:=v4.byD (N:=["_law_house_here","_law_numbers_here","_law_hands_here","_law_log_here","_law_says","_law_counts","_law_last","_law_hand","_law_greatest","_law_number","_law_time","_law_act_here"]) T.b T.f_log (by walk_at"sc") Fd (by have:=Ih T;walk_at"dv") GQ
noncomputable def Ky:List D:=[.bl a9,.bl bt,.bl bt,.bl bt,.bl bt,.bl bt,.bl bt,.bl bt,.bl bt,.bl bt,.bl bt,.bl bt]
def jA:x5:=λds M R=>∃q,ds=[.ref q]/\M[q]?=a7 (.exc<|t5 "NoRoom")/\R (.ref M.length) (M++[.lst Ky])
theorem zF:cZ jA uf:=by rintro ds M R ⟨q,rfl,_⟩;rfl
def rh:t7:=bn<|tx aA (ac 1)<|fN<|aa (wx T_ "Strange"<|ac 0)<|aa (wx T_ "NoRow"<|ac 0)<|aa (wx T_ "Clash"<|ac 0)<|aa (wx T_ "Gap"<|ac 0) ag
def rj:t7:=ax (aT (tx aA (ac 1)<|fN<|aa (wx T_ "NoSaying"<|ac 0)<|aa (wx T_ "NoName"<|ac 0)<|aa (wx T_ "NoWhat"<|ac 0)<|aa (wx T_ "NoDeed"<|ac 0) ag) 1)<|rh
def yC:t7:=ax (aT (fN<|aa (wx T_ "NoRoom"<|ac 0)<|aa (wx T_ "NoMessage"<|ac 0)<|aa (wx T_ "NoHouse"<|ac 0)<|aa (wx T_ "NotYours"<|ac 0) ag) 1)<|rj
theorem AU:A5 jA 2 yC:=by
 rintro ds M R ⟨q,rfl,g,h⟩;simp only[yC];walk_at"dl";have t:nE T_ (t5 "NoRoom") (t5 "NoRoom")=a7 a9:=by decide +kernel
 have l:nE T_ (t5 "NoRoom") (t5 "NoMessage")=a7 bt:=by decide +kernel
 have e:nE T_ (t5 "NoRoom") (t5 "NoHouse")=a7 bt:=by decide +kernel
 have I:nE T_ (t5 "NoRoom") (t5 "NotYours")=a7 bt:=by decide +kernel
 simp only[g,t,l,e,I];refine⟨ah (by decide),?_⟩;have i:=ad (a:=MO.lst [.bl a9,.bl bt,.bl bt,.bl bt]) g;have b:(M++[MO.lst [.bl a9,.bl bt,.bl bt,.bl bt]])[M.length]?=a7 (.lst [.bl a9,.bl bt,.bl bt,.bl bt]):=af;have j:M <+: M++[MO.lst [.bl a9,.bl bt,.bl bt,.bl bt]]:=aY;generalize M++[MO.lst [.bl a9,.bl bt,.bl bt,.bl bt]]=J at i b j;generalize m:M.length=f at b;simp only[rj];walk_at"dl";have t:nE T_ (t5 "NoRoom") (t5 "NoSaying")=a7 bt:=by decide +kernel
 have l:nE T_ (t5 "NoRoom") (t5 "NoName")=a7 bt:=by decide +kernel
 have e:nE T_ (t5 "NoRoom") (t5 "NoWhat")=a7 bt:=by decide +kernel
 have I:nE T_ (t5 "NoRoom") (t5 "NoDeed")=a7 bt:=by decide +kernel
 simp only[i,t,l,e,I];refine⟨ah (by decide),_,_,ad b,af,ah (by decide),?_⟩;simp only[Od,Fn];have g3:=ad (a:=MO.lst [.bl a9,.bl bt,.bl bt,.bl bt,.bl bt,.bl bt,.bl bt,.bl bt])<|ad (a:=MO.lst [.bl bt,.bl bt,.bl bt,.bl bt]) i;have c:(J++[MO.lst [.bl bt,.bl bt,.bl bt,.bl bt]]++[MO.lst [.bl a9,.bl bt,.bl bt,.bl bt,.bl bt,.bl bt,.bl bt,.bl bt]])[(J++[MO.lst [.bl bt,.bl bt,.bl bt,.bl bt]]).length]?=a7 (.lst [.bl a9,.bl bt,.bl bt,.bl bt,.bl bt,.bl bt,.bl bt,.bl bt]):=af;have p:=(j.trans<|aY (mo:=MO.lst [.bl bt,.bl bt,.bl bt,.bl bt])).trans<|aY (mo:=MO.lst [.bl a9,.bl bt,.bl bt,.bl bt,.bl bt,.bl bt,.bl bt,.bl bt]);generalize J++[MO.lst [.bl bt,.bl bt,.bl bt,.bl bt]]++[MO.lst [.bl a9,.bl bt,.bl bt,.bl bt,.bl bt,.bl bt,.bl bt,.bl bt]]=K at g3 c p;generalize (J++[MO.lst [.bl bt,.bl bt,.bl bt,.bl bt]]).length=k at c;simp only[rh];walk_at"dl";have t:nE T_ (t5 "NoRoom") (t5 "Strange")=a7 bt:=by decide +kernel
 have l:nE T_ (t5 "NoRoom") (t5 "NoRow")=a7 bt:=by decide +kernel
 have e:nE T_ (t5 "NoRoom") (t5 "Clash")=a7 bt:=by decide +kernel
 have I:nE T_ (t5 "NoRoom") (t5 "Gap")=a7 bt:=by decide +kernel
 simp only[g3,t,l,e,I];refine⟨ah (by decide),_,_,ad c,af,ah (by decide),?_⟩;simp only[Od,Fn];have d:=(p.trans<|aY (mo:=MO.lst [.bl bt,.bl bt,.bl bt,.bl bt])).trans<|aY (mo:=MO.lst Ky);exact aQ.chgL .refl h (p.trans aY).length_le af d<|.cons (.bl _)<|.cons (.bl _)<|.cons (.bl _)<|.cons (.bl _)<|.cons (.bl _)<|.cons (.bl _)<|.cons (.bl _)<|.cons (.bl _)<|.cons (.bl _)<|.cons (.bl _)<|.cons (.bl _)<|.cons (.bl _) .nil
theorem BG(T:Tops P w K mg base):Km P w K mg base 1 "_law_kinds" uf jA:=Km.by (N:=["_law_e","_law_kinds_here"]) T.b T.f_kinds (by walk_at"sc") zF (by have:=T.cl;walk_at"dv") AU
def gM:x5:=λds M R=>∃(ps:List (b9×Int)) (a:List (b9×List b9)) (log:List D) (e r:b9) (w:Int),ds=[aC ps a,.tup log,.str e,.str r,.int w]/\(∀d∈log,ay ps a d)/\log.length<64/\e.length<=100/\e∉iT a r/\R (.bl a9) M
theorem uC:cZ gM mx:=by rintro ds M R ⟨ps,a,log,e,r,w,rfl,_⟩;rfl
theorem ma(hi:al M i xs)(L:al M j xs)(h:∀x∈xs,u7 M 29 x=a9/\u3 M 29 x x=a9):(u7 M ve (.ref i)=a9/\u7 M ve (.ref j)=a9)/\u3 M ve (.ref i) (.ref j)=a9:=⟨⟨pH (n:=29) hi λx a=>(h x a).1,pH (n:=29) L λx a=>(h x a).1⟩,(wq (n:=29) hi L).trans<|qa λx a=>(h x a).2⟩
def iu:t7:=bn<|tx C5 (ac 5)<|tx aA (E8 1 [] (bC<|aa (dC<|.int 12) ag) (am 0) nF<|tx C5 (ac 0)<|dC<|.int 0)<|fN<|aa (dC<|.bl a9) ag
def lx:t7:=ax (dTry T_ "TalkError" 6 (OB (aE<|tx C5 (ac 4)<|dC<|.int 0) (ya<|LR cX<|aa (ac 0)<|aa (ac 1)<|aa (ac 2)<|aa (ac 3) ag)<|OB (aE<|tx C5 (ac 4)<|dC<|.int 1) (ya<|LR cI<|aa (ac 0)<|aa (ac 1)<|aa (ac 2)<|aa (ac 3) ag)<|ya<|LR cJ<|aa (ac 0)<|aa (ac 1)<|aa (ac 2)<|aa (ac 3) ag)<|aT (tx aA (u5 jA<|aa (ac 6) ag)<|fN<|aa (dIsV T_<|ac 6) ag) 5)<|iu
def qO:t7:=ax (aT (fN ag) 5)<|lx
theorem ix(t:M <+: B0)(h:R (.bl a9) M):nE T_ (t5 "NoRoom") (t5 "TalkError")=a7 a9/\aT (tx aA (u5 jA<|aa (ac 6) ag)<|fN<|aa (dIsV T_<|ac 6) ag) 5 ⟨λS' M''=>iu (EE M R) (S'.set 6 a8) M'',λ_ _=>False,λ_ _=>False,λ_ _=>False⟩ [a,b,c,d,e,f,a7<|.ref B0.length] (B0++[.exc<|t5 "NoRoom"]):=by
 refine⟨by decide +kernel,?_⟩;walk_at"dl";have g:(B0++[MO.exc<|t5 "NoRoom"])[B0.length]?=a7 (.exc<|t5 "NoRoom"):=af;have p:M <+: B0++[MO.exc<|t5 "NoRoom"]:=t.trans aY;generalize B0++[MO.exc<|t5 "NoRoom"]=B at g p;generalize B0.length=v at g;refine⟨_,rfl,g,?_⟩;have o:(List.lookup (t5 "NoRoom") T_).isSome=a9:=by decide +kernel
 simp only[ad g,o];refine⟨trivial,ah (by decide),_,_,ad af,af,ah (by decide),?_⟩;have m:(B++[MO.lst Ky]++[MO.lst [.bl a9]]++[MO.lst<|Ky++[.bl a9]])[(B++[MO.lst Ky]++[MO.lst [.bl a9]]).length]?=a7 (.lst<|Ky++[.bl a9]):=af;have n:M <+: B++[MO.lst Ky]++[MO.lst [.bl a9]]++[MO.lst<|Ky++[.bl a9]]:=((p.trans aY).trans aY).trans aY;generalize B++[MO.lst Ky]++[MO.lst [.bl a9]]++[MO.lst<|Ky++[.bl a9]]=K at m n;generalize (B++[MO.lst Ky]++[MO.lst [.bl a9]]).length=u at m;simp only[iu];walk_at"dl";refine⟨⟨by decide,by decide⟩,?_⟩;refine aU (λd=>.bl<|u3 K ve d<|.int 0) (λS=>∃a,S=[a]) trivial _ _ _ (λx k S q=>?_) ⟨_,rfl⟩ (by rw[D3];exact ah<|by decide) ?_;obtain⟨a,rfl⟩:=q;obtain⟨i,hi⟩:=Lc k;obtain⟨_,rfl⟩:=bG.mp hi;refine⟨[a7<|.int<|0+(i:Int)],⟨_,rfl⟩,λY s=>?_⟩;walk_at"dl";exact⟨⟨rfl,rfl⟩,s⟩;rw[Fn];have l:(gy 0<|Int.toNat 12).map (λd=>D.bl<|u3 K ve d<|.int 0)=Ky:=rfl;rw[l];refine⟨ah (by decide),_,_,ad af,af,ah (by decide),?_⟩;have r:=ma (M:=K++[MO.lst Ky]++[MO.lst [.bl a9]]++[MO.lst<|Ky++[.bl a9]]) (i:=u) (j:=(K++[MO.lst Ky]++[MO.lst [.bl a9]]).length) (xs:=Ky++[.bl a9]) (.inl<|ad<|ad<|ad m) ae λx k=>by
  have:∃b,x=.bl b:=by simp only[Ky,Od,Fn,A0,Nx,or_false]at k;rcases k with rfl|rfl|rfl|rfl|rfl|rfl|rfl|rfl|rfl|rfl|rfl|rfl|rfl<;>exact⟨_,rfl⟩
  obtain⟨b,rfl⟩:=this;exact⟨rfl,by cases b<;>rfl⟩
 refine⟨r.1,?_⟩;rw[r.2];exact aQ.bl h<|((n.trans aY).trans aY).trans aY
theorem wJ:A5 gM 7 qO:=by rintro ds M R ⟨ps,a,log,e,r,w,rfl,d,g,b,n,h⟩;simp only[qO];walk_at"dl";refine⟨z5 _,?_⟩;have t:M <+: M++[MO.lst []]:=aY;generalize M.length=A;generalize M++[MO.lst []]=B at t;simp only[lx];walk_at"dl";refine⟨⟨aw,aw⟩,?_⟩;split;exact⟨ps,a,log,e,r,rfl,d,g,λ_=>ix (f:=a8) t h,λz=>o7 z n⟩;refine⟨⟨aw,aw⟩,?_⟩;split;exact⟨ps,a,log,e,r,rfl,d,g,b,λ_=>ix (f:=a8) t h,λz=>o7 z n⟩;exact⟨ps,a,log,e,r,rfl,d,g,λ_=>ix (f:=a8) t h,λz=>o7 z n⟩
theorem xi(T:Tops P w K mg base):v4 P w K mg base 10 "_law_refused" mx gM:=v4.byD (N:=["_law_house_here","_law_log_here","_law_name","_law_room","_law_way","_law_kinds_here","_law_e"]) T.b T.f_refused (by walk_at"sc") uC (by have:=jN T;have:=kn T;have:=ko T;have:=BG T;have:=T.cl;walk_at"dv") wJ
def cE:x5:=λds M R=>∃(ps:List (b9×Int)) (a:List (b9×List b9)) (log:List D) (e r:b9),ds=[aC ps a,.tup log,.str e,.str r]/\(∀d∈log,ay ps a d)/\log.length<64/\e.length<=100/\e∈iT a r/\R (.bl a9) M
theorem mR:cZ cE eP:=by rintro ds M R ⟨ps,a,log,e,r,rfl,_⟩;rfl
def fP:t7:=bn<|tq (u5 GI<|aa (ac 4)<|aa (dC<|.ty "list") ag)<|tq (u5 GI<|aa (ac 5)<|aa (dC<|.ty "list") ag)<|tx C5 (E8 1 [4] (bN<|ac 5) (am 0) (aE<|tx me (ac 0)<|ac 1)<|ac 0)<|fN ag
def fQ:t7:=ax (B6 (aE<|tx OE (u5 (NM cJ)<|aa (ac 0)<|aa (ac 1)<|aa (ac 2)<|aa (ac 3) ag)<|tx v7 (tx aA (ac 4)<|fN<|aa (dC .non) ag)<|dC<|.int 0) (bn<|dC<|.bl bt) bj)<|fP
def fR:t7:=ax (aT (u5 (NM cI)<|aa (ac 0)<|aa (ac 1)<|aa (ac 2)<|aa (ac 3) ag) 5)<|fQ
def jb:t7:=ax (aT (u5 (NM cX)<|aa (ac 0)<|aa (ac 1)<|aa (ac 2)<|aa (ac 3) ag) 4)<|fR
theorem nK:A5 cE 6 jb:=by
 rintro ds M R ⟨ps,s,log,b,r,rfl,l,m,F,o,h⟩;simp only[jb];walk_at"dl";refine⟨ps,s,log,b,r,rfl,l,m,(λz=>z o),λ_ K hs=>?_⟩;have c:∀x∈((ik s log b r).filter λe=>eG (AR s log e) b).map w4,x∈(ik s log b r).map w4:=λx d=>by obtain⟨e,D,rfl⟩:=w9.mp d;exact Lb (E6.mp D).1
 have y:(((ik s log b r).filter λe=>eG (AR s log e) b).map w4).length<=64:=by have:=KZ (λe=>eG (AR s log e) b)<|ik s log b r;rw[u8];lia
 have E:((ik s log b r).map w4).length<=64:=by rw[u8];lia
 have g:(M++[MO.lst<|(ik s log b r).map w4])[M.length]?=a7 (.lst<|(ik s log b r).map w4):=af;have t:M <+: M++[MO.lst<|(ik s log b r).map w4]:=aY;generalize M++[MO.lst<|(ik s log b r).map w4]=B at g t;generalize M.length=G at g;simp only[fR];walk_at"dl";refine⟨ps,s,log,b,r,rfl,l,m,F,(λz=>z o),λ_=>?_⟩;generalize C:((ik s log b r).filter λe=>eG (AR s log e) b).map w4=N at c y;have f:(B++[MO.lst N])[B.length]?=a7 (.lst N):=af;replace g:=ad (a:=MO.lst N) g;replace t:=t.trans<|aY (mo:=MO.lst N);generalize B++[MO.lst N]=I at g f t;generalize B.length=H at f;simp only[fQ];walk_at"dl";refine⟨ps,s,log,b,r,rfl,l,m,(λz=>z o),λ_=>?_⟩;generalize A:(ik s log b r).map w4=L at g c E hs;clear C A;refine⟨ah (by decide),_,_,ad g,af,ah (by rw[F8];lia),_,ae,?_⟩;have p:atI (L++[.non]) 0=a7 (L.headD .non):=by
  cases L with
  |nil=>exact LU
  |cons x L=>exact LU
 have ok:u7 (I++[MO.lst [.non]]++[MO.lst<|L++[.non]]) ve (L.headD .non)=a9/\u3 (I++[MO.lst [.non]]++[MO.lst<|L++[.non]]) ve (L.headD .non) (L.headD .non)=a9:=by
  cases L with
  |nil=>exact⟨rfl,rfl⟩
  |cons x L=>exact vS 2 ve x (by decide) (hs x C9).pl
 rw[p];refine⟨⟨ok.1,ok.1⟩,?_⟩;rw[ok.2];refine dz ?_;replace g:=ad (a:=MO.lst<|L++[.non])<|ad (a:=MO.lst [.non]) g;replace f:=ad (a:=MO.lst<|L++[.non])<|ad (a:=MO.lst [.non]) f;replace t:=(t.trans<|aY (mo:=MO.lst [.non])).trans<|aY (mo:=MO.lst<|L++[.non]);clear ok p;generalize I++[MO.lst [.non]]++[MO.lst<|L++[.non]]=J at g f t;simp only[fP];have q:=(al.ty (M:=J) (n:=G)<|.inl g)
 have u:=(al.ty (M:=J) (n:=H)<|.inl f)
 simp only[Kp]at q u;walk_at"dl";simp(config:={ decide:=a9 }) only[q,u,and_self,true_and,↓reduceIte];refine⟨_,.inl f,λ_=>?_⟩;have w:∀x∈N,St x:=λx d=>hs x<|c x d;refine aO (λ_=>bt) id (λS=>∃a,S=[a,a7<|.ref G]) (.inl f) _ _ _ ?_ ⟨_,rfl⟩ (by rw[D3];exact ah<|by lia) ?_;rintro x d S ⟨a,rfl⟩;refine⟨[a7 x,a7<|.ref G],⟨_,rfl⟩,λY Z k=>?_⟩;walk_at"dl";refine⟨_,.inl g,⟨(w x d).ok,vL hs⟩,?_⟩;rw[wk (w x d) hs,dT_<|c x d];exact k;rw[show (N.filter λ_=>bt)=[]from List.filter_eq_nil_iff.mpr λ_ _=>by decide,List.map_nil,Fn];have v:=ma (M:=J++[MO.lst []]++[MO.lst []]) (i:=J.length) (j:=(J++[MO.lst []]).length) (xs:=[]) (.inl<|ad af) ae λ_ z=>nomatch z
 refine⟨v.1,?_⟩;rw[v.2];exact aQ.bl h<|(t.trans aY).trans aY
theorem nM(T:Tops P w K mg base):v4 P w K mg base 10 "_law_member_told" eP cE:=v4.byD (N:=["_law_house_here","_law_log_here","_law_name","_law_room","_law_fresh","_law_named"]) T.b T.f_member_told (by walk_at"sc") mR (by have:=(jN T).nev;have:=(kn T).nev;have:=(ko T).nev;walk_at"dv") nK
theorem Fe:cZ Fi EM:=by rintro ds M R ⟨ns,m,_,_,rfl,_⟩;rfl
theorem Ag(hf:HouseF ps rs):PM ps/\1<=(aX ps).length/\(aX ps).length<=12:=by
 have f:PM ps:=⟨hf.len.2,λq h=>⟨by have:=hf.many q h;lia,(hf.many q h).2⟩⟩
 have n:=oR f.2;refine⟨f,?_,by have:=f.1;lia⟩
 match ps,hf with
 | [],hf=>have:=hf.len.1;simp at this
 |p::ps,hf=>have:=(hf.many p<|by simp).1;rw[aX,List.flatMap_cons,A1,iO];lia
theorem CA(h:(ps.map (·.1)).Nodup):(aX ps).Nodup:=by unfold aX;rw[Mz,List.pairwise_flatMap];refine⟨λp _=>?_,?_⟩;unfold cO gy;rw[E7,Oh];refine(Mz.mp O3).imp λ{a b} hne e=>hne ?_;have e:D.tup [.str p.1,.int<|0+(a:Int)]=.tup [.str p.1,.int<|0+(b:Int)]:=e;injection e with e;injection e with _ e;injection e with e;injection e with e;lia;refine(List.pairwise_map.mp<|Mz.mp h).imp λ{a b} hne x hx y hy e=>hne ?_;unfold cO at hx hy;obtain⟨i,_,rfl⟩:=w9.mp hx;obtain⟨j,_,c⟩:=w9.mp hy;rw[<-c]at e;injection e with e;injection e with e _;injection e with e
theorem vY:∀{rs:List (b9×List b9)},(rs.map (·.1)).Nodup->r∈rs->iT rs r.1=r.2
 |p::rs,nd,h=>by rw[sy];rw[B8,KC]at nd;rcases A0.mp h with rfl|h;rw[o5 rfl];have ne:p.1≠r.1:=λz=>nd.1 (by rw[z];exact Lb h);rw[o6 ne];exact vY nd.2 h
theorem five{α:Type}{l:List α}{a z y x w:α}(p:[z,y,x,w].Nodup)(g:l.length<=4)(f:a∈l)(hz:z∈l)(O:y∈l)(d:x∈l)(c:w∈l):a=z\/a=y\/a=x\/a=w:=by
 refine Mg λh=>?_;have u:[a,z,y,x,w].Nodup:=by rw[KC];refine⟨λq=>h ?_,p⟩;simpa using q
 have le:∀{k l:List α},k.Nodup->(∀x∈k,x∈l)->k.length<=l.length:=λ{k}=>by
  induction k with
  |nil=>intro l _ _;exact z5 _
  |cons x k i =>
   intro l p h;obtain⟨n,o⟩:=KC.mp p;obtain⟨s,t,rfl⟩:=List.append_of_mem (h x<|by simp);have:=i (l:=s++t) o λy O=>by have:=h y<|A8 _ O;rcases F3.mp this with q|q;exact Ld _ q;rcases A0.mp q with rfl|q;exact o7 O n;exact F9 _ q
   rw[A1]at this;rw[A1,B9,B9];lia
 have:=le (l:=l) u λq b=>by simp only[A0,Nx,or_false]at b;rcases b with rfl|rfl|rfl|rfl|rfl<;>assumption
 simp only[B9,D3]at this;lia
noncomputable def xp(j:Nat)(n:Int):b9:=Txt.mul ⟨#[122-j]⟩ n
theorem zq(k:Nat):[xp 0<|1+(k:Int) % 8,xp 1<|1+(k:Int) % 8,xp 2<|1+(k:Int) % 8,xp 3<|1+(k:Int) % 8].Nodup/\∀j,j<4->(xp j<|1+(k:Int) % 8).length=1+k % 8:=by
 have:(k:Int) % 8=((k % 8:Nat):Int):=by lia
 rw[this];have lt:k % 8<8:=Nat.mod_lt _ (by decide);generalize k % 8=m at lt;have a:∀m:Fin 8,[xp 0<|1+(m.val:Int),xp 1<|1+(m.val:Int),xp 2<|1+(m.val:Int),xp 3<|1+(m.val:Int)].Nodup/\∀j:Fin 4,(xp j.val<|1+(m.val:Int)).length=1+m.val:=by decide +kernel
 exact⟨(a ⟨m,lt⟩).1,λj L=>(a ⟨m,lt⟩).2 ⟨j,L⟩⟩
def yw:t7:=bn<|tx C5 (u5 xc<|aa (ac 2) ag)<|ac 3
def yx:t7:=ax (nG (bN<|tx v7 (ac 1)<|dC<|.int 0) (ng 2<|bV (am 7)<|bV (am 8) nh)<|nG (bN<|tx aA (tx v7 (ac 1)<|dC<|.int 1)<|fL<|aa (fL<|aa (ac 5)<|aa (fL ag) ag) ag) (ng 2<|bV (am 9)<|bV (am 10) nh)<|B6 (aE<|tx Nf (ac 7)<|ac 10) (B6 (Gs<|aE<|u5 cE<|aa (ac 1)<|aa (ac 2)<|aa (ac 7)<|aa (ac 9) ag) (bn<|dC<|.bl bt) bj)<|nG (bN<|fL<|aa (dC<|.int 0)<|aa (dC<|.int 1)<|aa (dC<|.int 2)<|aa (dC<|.int 0)<|aa (dC<|.int 1)<|aa (dC<|.int 2) ag) (am 11)<|B6 (Gs<|aE<|u5 gM<|aa (ac 1)<|aa (ac 2)<|aa (ac 7)<|aa (ac 9)<|aa (ac 11) ag) (bn<|dC<|.bl bt) bj)<|yw
def yy:t7:=ax (nG (bC<|aa (dC<|.int 4) ag) (am 6)<|B6 (aE<|tx Nf (ac 5)<|ac 4) (aT (tx jG (tx v7 (dC<|.str "zyxw")<|ac 6)<|tx aA (dC<|.int 1)<|tx bP (u5 jH<|aa (tx v7 (ac 4)<|dC<|.int 0) ag)<|dC<|.int 8) 5) bj)<|yx
def tY:t7:=ax (aT (tx aA (tx v7 (dC<|.str "abcdefghijklmnopqrstuvwxyz")<|tx bP (u5 cY<|aa (ac 0)<|aa (dC<|.int 1) ag)<|dC<|.int 26)<|LS (tx v7 (ac 4)<|dC<|.int 0) (nj<|dC<|.int 1) iR) 5)<|yy
def yz:t7:=ax (il 2 [] (bN<|tx v7 (ac 1)<|dC<|.int 1) (ng 2<|bV (am 0)<|bV (am 1) nh) nF (ac 0) 4)<|tY
def yA:t7:=ax (aT (u5 xc<|aa (ac 2) ag) 3)<|yz
def yB:t7:=ax (aT (u5 wE<|aa (ac 1)<|aa (u5 gO<|aa (ac 0)<|aa (dC<|.int 2)<|aa (dC<|.int 30) ag)<|aa (u5 kU<|aa (ac 1) ag) ag) 2)<|yA
def GW:t7:=ax (aT (u5 kT<|aa (u5 cY<|aa (ac 0)<|aa (dC<|.int 0) ag) ag) 1)<|yB
theorem GR:A5 Fi 12 GW:=by
 rintro ds M R ⟨ns,mo,bk,⟨ai,ab⟩,rfl,rfl,h⟩;have l:al [mo] 0 (ns.map D.int):=by have:=sB (M:=[mo]) (n:=0) (mo:=mo) rfl ab;rw[ai]at this;exact this
 simp only[GW];walk_at"dl";refine⟨0,ns,0,rfl,l,_,rfl,λps s p=>?_⟩;obtain⟨V,n1,aD⟩:=Ag p;simp only[yB];walk_at"dl";refine⟨0,ns,2,30,rfl,l,by lia,by decide,by decide,λxs xl=>⟨ps,_,rfl,V,ps,s,1,2,xs,aX ps,rfl,p,?_,by lia,?_,λ_ q=>q,n1,aD,CA p.pnd,λlog P tm nn ll=>?_⟩⟩;exact .inl rfl;exact .inl rfl;generalize C:[mo]++[MO.lst<|xs.map D.int]++[MO.lst<|aX ps]=B;have p0:[mo] <+: B:=by rw[<-C,G5];exact KH _ _
 clear C;have L:al B 0 (ns.map D.int):=bI p0 l;simp only[yA];walk_at"dl";have g3:(B++[MO.lst log])[B.length]?=a7 (.lst log):=af;replace L:=al.more L [MO.lst log];generalize B++[MO.lst log]=I at g3 L;generalize B.length=u at g3;simp only[yz,aC];walk_at"dl";intro _;have rl:=p.rl;refine aU fH (λS=>∃a b,S=[a,b]) trivial _ _ _ (λx hx S hS=>?_) ⟨_,_,rfl⟩ (by rw[D3,u8];exact ah<|by lia) ?_;obtain⟨a,b,rfl⟩:=hS;obtain⟨y,_,rfl⟩:=w9.mp hx;refine⟨[a7<|.str y.1,a7<|.tup<|y.2.map .str],⟨_,_,rfl⟩,λY hY=>?_⟩;unfold iw;walk_at"dl";exact⟨trivial,hY⟩;have e:(s.map iw).map fH=(s.map (·.1)).map .str:=by rw[E7,E7];rfl
 rw[Fn,e];change tY _ [a7<|.ref 0,a7<|aC ps s,a7<|.tup log,a7<|.ref u,a7<|.ref I.length,a8,a8,a8,a8,a8,a8,a8] _;have A:(I++[MO.lst ((s.map (·.1)).map D.str)])[I.length]?=a7 (.lst ((s.map (·.1)).map D.str)):=af;replace g3:=ad (a:=MO.lst ((s.map (·.1)).map D.str)) g3;replace L:=al.more L [MO.lst ((s.map (·.1)).map D.str)];generalize I++[MO.lst ((s.map (·.1)).map D.str)]=B2 at g3 A L;generalize I.length=J at A;obtain⟨U,Z,g⟩:∃U Z,s=U::Z:=by
  cases s with
  |nil=>have:=rl.1;simp at this
  |cons a b=>exact⟨a,b,rfl⟩
 have n0:(s.map (·.1)).map D.str=.str U.1::(Z.map (·.1)).map D.str:=by rw[g];rfl
 have bm:U.1.length<=8:=p.rn8 U (by rw[g];exact C9);simp only[tY];walk_at"dl";refine⟨0,ns,1,rfl,L,?_⟩;have tc:=bT (a:=t5 "abcdefghijklmnopqrstuvwxyz");have be:(t5 "abcdefghijklmnopqrstuvwxyz").length=26:=by decide +kernel
 obtain⟨ch,_,Q⟩:=ip (xs:=(t5 "abcdefghijklmnopqrstuvwxyz").cps.toList) (i:=wz ns 1) (by lia);rw[<-tc,be]at Q;refine⟨by decide,ah (by lia),?_⟩;rw[show ((26:Nat):Int)=26 from rfl]at Q;rw[Q];refine⟨_,.inl A,?_⟩;rw[n0,LU];have s1:=Txt.slice_le U.1 (a7 1) a8;refine⟨ah (by lia),by rw[cL];exact ah (by lia),?_⟩;have ol:({ cps:=#[ch] }++Kv U.1 (a7 1) a8:b9).length<=9:=by rw[bg,cL];lia
 generalize ({ cps:=#[ch] }++Kv U.1 (a7 1) a8:b9)=bd at ol;clear L;simp only[yy];walk_at"dl";refine⟨⟨by decide,by decide⟩,?_⟩;have aS:(s.map (·.1)).length<=4:=by rw[u8];exact rl.2
 have an:U.1∈s.map (·.1):=by rw[g];exact C9
 have bl:U.1.length % 8<=7:=by lia
 refine bf (λi S t=>∃(o:b9) (a:Option D),t=B2/\(o∉s.map (·.1)\/∀j,j+1<i->xp j (1+(U.1.length:Int) % 8)∈s.map (·.1))/\(∀j,i=j+1->o∉s.map (·.1)\/o=xp j (1+(U.1.length:Int) % 8))/\o.length<=9/\S=[a7<|.ref 0,a7<|aC ps s,a7<|.tup log,a7<|.ref u,a7<|.ref J,a7<|.str o,a,a8,a8,a8,a8,a8]) ?_ ?_ ⟨bd,_,rfl,.inr (λj z=>by lia),(λj z=>by lia),ol,rfl⟩;rintro S t ⟨o,a,rfl,h1,h2,o9,rfl⟩;refine⟨trivial,?_⟩;have no:o∉s.map (·.1):=by rcases h2 3 rfl with q|q;exact q;rcases h1 with F|F;exact F;intro m;rw[q]at m;obtain⟨nd,as⟩:=zq<|U.1.length;have:=five nd aS an (F 0<|by decide) (F 1<|by decide) (F 2<|by decide) m;rcases this with z|z|z|z<;>(have:=p8 Str.length z;rw[as _<|by decide]at this;lia)
 clear h1 h2;simp only[yx];rw[show aC ps s=.tup [.tup<|ps.map fK,.tup<|s.map iw]from rfl];walk_at"dl";intro _;refine bf (λi S v=>∃a b c d e f,t <+: v/\S=[a7<|.ref 0,a7<|aC ps s,a7<|.tup log,a7<|.ref u,a7<|.ref J,a7<|.str o,a,b,c,d,e,f]) ?_ ?_ ⟨_,_,_,_,_,_,L7,rfl⟩;rintro S v ⟨a,b,c,d,e,f,pM,rfl⟩;refine⟨trivial,?_⟩;simp only[yw];walk_at"dl";have rf:=ma (M:=v++[MO.lst log]) (i:=v.length) (j:=u) (xs:=log) ae (.inl<|ad<|bJ pM g3) λx hx=>vS 6 29 x (by decide) (P x hx).pl;refine⟨rf.1,?_⟩;rw[rf.2];exact .inl<|h _;rintro i y S v O ⟨x6,b,c,d,e,f,pM,rfl⟩ G H;obtain⟨⟨name,many⟩,aj,rfl⟩:=w9.mp<|J1 O;have nl:name.length<=100:=by have:=p.nm _ aj;dsimp only at this;lia
 refine⟨trivial,?_⟩;rw[show aC ps s=.tup [.tup<|ps.map fK,.tup<|s.map iw]from rfl];unfold fK;walk_at"dl";have mo:iT s o=[]:=by
  cases m:iT s o with
  |nil=>rfl
  |cons x y=>exact o7 (zZ (name:=x)<|by rw[m];exact C9) no
 have N:∀y∈s.map iw++[D.tup [.str o,.tup []]],∃r,y=.tup [.str r,.tup<|(iT s r).map .str]:=λy O=>by rcases F3.mp O with O|O;obtain⟨rm,m,rfl⟩:=w9.mp O;refine⟨rm.1,?_⟩;rw[vY p.rnd m];rfl;rw[J7.mp O];exact⟨o,by rw[mo];rfl⟩
 refine⟨trivial,ah (by decide),ah (by decide),ah (by decide),ah (by rw[u8];lia),λ_=>?_⟩;refine bf (λi S M2=>∃a b c,t <+: M2/\S=[a7<|.ref 0,a7<|aC ps s,a7<|.tup log,a7<|.ref u,a7<|.ref J,a7<|.str o,x6,a7<|.str name,a7<|.int many,a,b,c]) ?_ ?_ ⟨_,_,_,pM,rfl⟩;rintro S M2 ⟨a,b,c,pM,rfl⟩;exact⟨trivial,C4.now<|H _ _ ⟨_,_,_,_,_,_,pM,rfl⟩⟩;rintro j y S M2 O ⟨a,b,c,pM,rfl⟩ G2 E;obtain⟨r,rfl⟩:=N y<|J1 O;refine⟨trivial,?_⟩;walk_at"dl";refine⟨trivial,⟨aJ,lV⟩,?_⟩;rw[mX,Bool.bne_false];by_cases m:name∈iT s r;rw[dT_ m];refine dB ⟨ps,s,log,name,r,rfl,P,by lia,nl,m,?_⟩;walk_at"ifs";exact C4.now<|E _ _ ⟨_,_,_,pM,rfl⟩;rw[dF_ m];refine dz ⟨ah (by decide),λ_=>?_⟩;refine bf (λi S K=>∃c,t <+: K/\S=[a7<|.ref 0,a7<|aC ps s,a7<|.tup log,a7<|.ref u,a7<|.ref J,a7<|.str o,x6,a7<|.str name,a7<|.int many,a7<|.str r,a7<|.tup<|(iT s r).map .str,c]) ?_ ?_ ⟨_,pM,rfl⟩;rintro S K ⟨c,pM,rfl⟩;exact⟨trivial,C4.now<|E _ _ ⟨_,_,_,pM,rfl⟩⟩;rintro k y S K O ⟨c,pM,rfl⟩ G3 W;obtain⟨w,rfl⟩:∃w:Int,y=.int w:=by have:=J1 O;simp only[A0,Nx,or_false]at this;rcases this with rfl|rfl|rfl|rfl|rfl|rfl<;>exact⟨_,rfl⟩
 refine⟨trivial,?_⟩;walk_at"dl";refine⟨ps,s,log,name,r,w,rfl,P,by lia,nl,m,?_⟩;walk_at"ifs";exact C4.now<|W _ _ ⟨_,pM,rfl⟩;rintro i y S t O ⟨o,a,rfl,h1,h2,o9,rfl⟩ G H;obtain⟨hi,rfl⟩:=bG.mp O;refine⟨trivial,?_⟩;walk_at"dl";refine⟨_,.inl A,⟨aJ,lV⟩,?_⟩;rw[mX,Bool.bne_false];by_cases m:o∈s.map (·.1);rw[dT_ m];have i4:i<4:=hi;have T:atI (t5 "zyxw").cps.toList (0+(i:Int))=a7 (122-i):=by
  rw[Mp];refine ap ?_;have:i=0\/i=1\/i=2\/i=3:=by lia
  rcases this with rfl|rfl|rfl|rfl<;>decide +kernel
 have z4:(t5 "zyxw").length=4:=by decide +kernel
 refine dB ⟨ah (by lia),?_⟩;rw[T];refine⟨_,.inl A,?_⟩;rw[n0,LU];refine⟨ah (by lia),by decide,⟨by lia,by lia,by rw[cL];exact ah<|by lia⟩,C4.now<|H _ _ ⟨xp i<|1+(U.1.length:Int) % 8,_,rfl,.inr λj hj=>?_,(λj e=>.inr<|by rw[show j=i by lia]),?_,rfl⟩⟩;rcases h1 with q|q;exact o7 m q;by_cases X:j+1<i;exact q j X;rcases h2 j (by lia)with z|z;exact o7 m z;rw[<-z];exact m;rw[(zq U.1.length).2 i i4];lia;rw[dF_ m];exact dz<|C4.now<|H _ _ ⟨o,_,rfl,.inl m,λj _=>.inl m,o9,rfl⟩
theorem ok_law(T:Tops P w K mg base)(F:Lh K "law" "law" (top 72) f fd):FnOk P w K mg base Ix 11 f fd EM (K1 K Fi):=CC (N:=["_law_script","_law_house_here","_law_log_here","_law_handed","_law_called","_law_other","_law_turn","_law_name","_law_many","_law_room","_law_members","_law_way"]) T.b F (by walk_at"sc") Fe (by have:=oN T;have:=xj T;have:=BH T;have:=BI T;have:=Ig T;have:=xi T;have:=nM T;walk_at"dv") GR
end
end LW
namespace PySem.W.Fast
def tw10021365949899207292:=Nat
def tw10025709681692714195:=Nat
def tw10055892237748774566:=Nat
def tw10090221768542021911:=Nat
def tw1014169830943970817:=Nat
def tw1020064004438825483:=Nat
def tw10210921759673662237:=Nat
def tw10271549408352637755:=Nat
def tw10285628733504849781:=Nat
def tw10301359856365281923:=Nat
def tw10320842380572979228:=Nat
def tw1039066144224676787:=Nat
def tw10403216582516485204:=Nat
def tw10498978166719254548:=Nat
def tw10627432393374324011:=Nat
def tw10683578428816673543:=Nat
def tw10698689570932911849:=Nat
def tw10848879219002231998:=Nat
def tw10901506188801715083:=Nat
def tw10908803232856981624:=Nat
def tw10910937475486697561:=Nat
def tw1091444923317102302:=Nat
def tw10954498353439362569:=Nat
def tw10955385217985614114:=Nat
def tw10999018930343815416:=Nat
def tw11019616439769109632:=Nat
def tw11041998309976003727:=Nat
def tw11112582356738163921:=Nat
def tw11151418130972738955:=Nat
def tw11171874443298586071:=Nat
def tw11172092534735298399:=Nat
def tw11175482072087645313:=Nat
def tw1124988177365095857:=Nat
def tw11285293967152397406:=Nat
def tw11326196504295582950:=Nat
def tw11368494643803721611:=Nat
def tw1140611218913434111:=Nat
def tw11416646970829249988:=Nat
def tw11439578365041158878:=Nat
def tw1146296091406051747:=Nat
def tw11472244567976196068:=Nat
def tw11500965589300834728:=Nat
def tw11504867416074552519:=Nat
def tw11533899212667246113:=Nat
def tw116155563481183743:=Nat
def tw11664781904287249202:=Nat
def tw11671196169219208416:=Nat
def tw11704377439879118949:=Nat
def tw11719465395799982063:=Nat
def tw1172070190133505006:=Nat
def tw11744488471271626140:=Nat
def tw11777643348047078275:=Nat
def tw11800564685026023959:=Nat
def tw11818739084389562058:=Nat
def tw11825883678159307171:=Nat
def tw11845571995529291259:=Nat
def tw11953050000596457102:=Nat
def tw1198023350974601105:=Nat
def tw11989527230843202869:=Nat
def tw12009790771515771976:=Nat
def tw12088215837840437625:=Nat
def tw12096232423141012491:=Nat
def tw12108095653935785745:=Nat
def tw12166043017284463302:=Nat
def tw12191916137349791876:=Nat
def tw12211944025469765268:=Nat
def tw12261046207520094973:=Nat
def tw12279527487174186799:=Nat
def tw12294310192443481140:=Nat
def tw12327791051582555683:=Nat
def tw12343352187467670241:=Nat
def tw12357487091760997367:=Nat
def tw12359382243061000398:=Nat
def tw12396267175219320023:=Nat
def tw12474178779961630719:=Nat
def tw12478714903812616561:=Nat
def tw12490056437228122184:=Nat
def tw12533511610558347042:=Nat
def tw12589014251814729668:=Nat
def tw12592785613525393156:=Nat
def tw12658083976232722911:=Nat
def tw12676581848613131969:=Nat
def tw1273605226704444738:=Nat
def tw12740154627624943428:=Nat
def tw12783045091108690770:=Nat
def tw12786344524330363402:=Nat
def tw12817833059401030703:=Nat
def tw12826587108379565887:=Nat
def tw12828655378210038346:=Nat
def tw13007090968877297846:=Nat
def tw13054197552171793528:=Nat
def tw13075461639562698040:=Nat
def tw13206563069356605982:=Nat
def tw13225129651851332432:=Nat
def tw13243523165097385657:=Nat
def tw13266163892680144751:=Nat
def tw13336256926802489313:=Nat
def tw13373611243179917151:=Nat
def tw13397446144389994972:=Nat
def tw134211914825291013:=Nat
def tw13439619157964259661:=Nat
def tw13479538603598678369:=Nat
def tw13534227683564964098:=Nat
def tw13567512601459191082:=Nat
def tw13611623631648157205:=Nat
def tw13667022710549968695:=Nat
def tw13683480358652813453:=Nat
def tw13710649864884429737:=Nat
def tw13788847921390329364:=Nat
def tw13822578897821966337:=Nat
def tw13826414860401809077:=Nat
def tw13854552435004213227:=Nat
def tw13907452137603790762:=Nat
def tw13909333710965439794:=Nat
def tw13914094381373190642:=Nat
def tw13960493724369938014:=Nat
def tw13993173529554515597:=Nat
def tw14013429892327600585:=Nat
def tw14024684051492978755:=Nat
def tw14099468921943880124:=Nat
def tw14103763851704499871:=Nat
def tw14163229574502138141:=Nat
def tw14235870369993651012:=Nat
def tw14275240103081674171:=Nat
def tw14291434499193986288:=Nat
def tw14309559708060249706:=Nat
def tw14362302202545207321:=Nat
def tw14365356644889434679:=Nat
def tw14365436923408316571:=Nat
def tw14399319724854567184:=Nat
def tw14412102493703292270:=Nat
def tw14438468968190063322:=Nat
def tw14446302447888202400:=Nat
def tw14479995510765365683:=Nat
def tw14512364394286063924:=Nat
def tw14512969241322483603:=Nat
def tw14557917617124502790:=Nat
def tw14603154187529943774:=Nat
def tw1460351735575513246:=Nat
def tw14604773440675784847:=Nat
def tw14639808499950447525:=Nat
def tw1464601133044475122:=Nat
def tw14657168542007825459:=Nat
def tw14850175325407985286:=Nat
def tw14859928070506253749:=Nat
def tw14958427891844138439:=Nat
def tw14974698609062777802:=Nat
def tw14989752323636443764:=Nat
def tw14997955186252228649:=Nat
def tw15078505654170987724:=Nat
def tw1509050600847907667:=Nat
def tw15094359025068342975:=Nat
def tw1510239366786476079:=Nat
def tw15119072625629351468:=Nat
def tw15124263136022672781:=Nat
def tw15133951907984923544:=Nat
def tw15178993737177635298:=Nat
def tw15192148532656597642:=Nat
def tw15202335461667078867:=Nat
def tw15225956668772582146:=Nat
def tw15296434459015379768:=Nat
def tw15356085579016295772:=Nat
def tw15403326148088844533:=Nat
def tw15427622196020079785:=Nat
def tw15448123988705170971:=Nat
def tw15461226864677085941:=Nat
def tw15467809283259838324:=Nat
def tw15469118131838318812:=Nat
def tw15483747220988474437:=Nat
def tw15505737010581970399:=Nat
def tw15524228848277320012:=Nat
def tw15576097199132802125:=Nat
def tw15644166631609752300:=Nat
def tw15652306776702559375:=Nat
def tw15675539429941794809:=Nat
def tw15744245319651238441:=Nat
def tw15760692063661242771:=Nat
def tw15808572157501404586:=Nat
def tw15810950618469723974:=Nat
def tw15845507913966942046:=Nat
def tw15849701349752123087:=Nat
def tw15953196842872124263:=Nat
def tw15989688578261741567:=Nat
def tw16047199215412324431:=Nat
def tw16161611280657614006:=Nat
def tw16183449474053294970:=Nat
def tw16206891946440926422:=Nat
def tw16273480268587496060:=Nat
def tw16318826391250790527:=Nat
def tw16352506992115990600:=Nat
def tw16376339675287047344:=Nat
def tw16398815749090469917:=Nat
def tw16427361622354266017:=Nat
def tw16518584480261910868:=Nat
def tw16557778006257381172:=Nat
def tw16629589524285809251:=Nat
def tw16644183958235094722:=Nat
def tw16667620419930850015:=Nat
def tw16674873471885456411:=Nat
def tw16712394806187558867:=Nat
def tw16725040754250998394:=Nat
def tw16741036612225736367:=Nat
def tw16770028342368371192:=Nat
def tw1686052163828321972:=Nat
def tw16920543376465468069:=Nat
def tw16935290571260405775:=Nat
def tw1698097296609187394:=Nat
def tw17004952297170239838:=Nat
def tw17019495016017323978:=Nat
def tw17034689260755061207:=Nat
def tw17083662431114112670:=Nat
def tw17173487782920399919:=Nat
def tw17210110648359603411:=Nat
def tw1721258056319825014:=Nat
def tw17261294727468969494:=Nat
def tw17303885070458346090:=Nat
def tw17305030436733785796:=Nat
def tw17374404964941635794:=Nat
def tw17412693560100731856:=Nat
def tw1747821482215624988:=Nat
def tw17535924252660527642:=Nat
def tw17605786953312918476:=Nat
def tw1761044452597088418:=Nat
def tw17623808834378249342:=Nat
def tw1770797142826153508:=Nat
def tw17727720111958930042:=Nat
def tw17729426445028744889:=Nat
def tw17805424576138486597:=Nat
def tw17819380654014979248:=Nat
def tw17823508249128871561:=Nat
def tw17830710062710302956:=Nat
def tw17852425016763465596:=Nat
def tw17906100402686831922:=Nat
def tw17946944236559778069:=Nat
def tw17966026652823753575:=Nat
def tw17988361910665992266:=Nat
def tw18015711360147800752:=Nat
def tw18031841590253889738:=Nat
def tw18104958517506021599:=Nat
def tw1810710342826932612:=Nat
def tw18122493757508653252:=Nat
def tw18130107892151843034:=Nat
def tw18232476499250117161:=Nat
def tw18240122270905752034:=Nat
def tw18308177860889441747:=Nat
def tw1832073171668828921:=Nat
def tw18400644416241156826:=Nat
def tw18437627158443997200:=Nat
def tw1891399342853393601:=Nat
def tw1926876902580287598:=Nat
def tw1959615447687001542:=Nat
def tw2002121527540389364:=Nat
def tw2034421729140370301:=Nat
def tw2054991136081750034:=Nat
def tw2055213279124225419:=Nat
def tw2143721886033104945:=Nat
def tw2208797093453720190:=Nat
def tw2251840990283034975:=Nat
def tw2390143547684188768:=Nat
def tw2409404159725745728:=Nat
def tw2416455850658637847:=Nat
def tw2435745021652006253:=Nat
def tw2448487455125923346:=Nat
def tw2453963969733875786:=Nat
def tw2471967676902802692:=Nat
def tw2631968212667728387:=Nat
def tw265559512344227969:=Nat
def tw274547497151002397:=Nat
def tw2751135947743793432:=Nat
def tw2769822670846857730:=Nat
def tw2938437103020597125:=Nat
def tw2944998973094766307:=Nat
def tw3020530273396880500:=Nat
def tw304398951539762143:=Nat
def tw3067019550090131547:=Nat
def tw3119460282095189874:=Nat
def tw313635835545578946:=Nat
def tw3161334382915394506:=Nat
def tw3202811069755260402:=Nat
def tw3270194466836904652:=Nat
def tw3334179861008011337:=Nat
def tw3368007986571827399:=Nat
def tw3402954368794539736:=Nat
def tw3427724273261495894:=Nat
def tw3456655821870377616:=Nat
def tw3469414673836544928:=Nat
def tw3484290050746256108:=Nat
def tw3539394324480858656:=Nat
def tw3540296739329151101:=Nat
def tw3577215273096285891:=Nat
def tw3666202135420468019:=Nat
def tw3679017267305635685:=Nat
def tw3696526689708837673:=Nat
def tw3706667630400387853:=Nat
def tw3739481532368234178:=Nat
def tw374858129512180845:=Nat
def tw3764912808909788778:=Nat
def tw3805874855103811097:=Nat
def tw3848400605057469545:=Nat
def tw3849000131234790352:=Nat
def tw3900413320843001927:=Nat
def tw3940773721491102466:=Nat
def tw39969514473008833:=Nat
def tw4003998357641073127:=Nat
def tw4010894465518355742:=Nat
def tw4042163847957817162:=Nat
def tw4076054460250846553:=Nat
def tw4083395564857213935:=Nat
def tw4084567306215244714:=Nat
def tw4114915660972757965:=Nat
def tw4120896776749471877:=Nat
def tw4134749557233113404:=Nat
def tw4202994652547461644:=Nat
def tw4236105703349246289:=Nat
def tw4255628792917773653:=Nat
def tw4304918122447927677:=Nat
def tw4373874050173081500:=Nat
def tw4436643989903864867:=Nat
def tw4439220846510839254:=Nat
def tw4465815459647391103:=Nat
def tw4484484112652519230:=Nat
def tw4504834499141500378:=Nat
def tw4540055068897613699:=Nat
def tw4555476282435571576:=Nat
def tw4711530127344897322:=Nat
def tw4750612654822270743:=Nat
def tw4778291162970181531:=Nat
def tw4806963665300441139:=Nat
def tw4807001103356498086:=Nat
def tw4844455561220613141:=Nat
def tw4853767243112799890:=Nat
def tw4864847280238300129:=Nat
def tw4907587197360411531:=Nat
def tw4943487034008969485:=Nat
def tw4982215697811647357:=Nat
def tw5055755530736448829:=Nat
def tw5067315263668250393:=Nat
def tw5101284692033187060:=Nat
def tw5112355304922444037:=Nat
def tw5147993690745204052:=Nat
def tw5152789166152895774:=Nat
def tw5156493513845515358:=Nat
def tw5248777854887896769:=Nat
def tw5276180728307708557:=Nat
def tw5315795478614776956:=Nat
def tw5332833392951231374:=Nat
def tw5348990458694434665:=Nat
def tw5355453987745374058:=Nat
def tw544970629821430123:=Nat
def tw5485170643550486475:=Nat
def tw5486589673074612809:=Nat
def tw549876392806584686:=Nat
def tw5532325636269334133:=Nat
def tw5607859480275022783:=Nat
def tw5616050841499150931:=Nat
def tw5645647500959016259:=Nat
def tw5702591320531016354:=Nat
def tw5777897366641155160:=Nat
def tw5871688047651674265:=Nat
def tw5934726994139503779:=Nat
def tw5937854297617720653:=Nat
def tw5976439616216210139:=Nat
def tw6021020421723615909:=Nat
def tw6079310909824699151:=Nat
def tw6138020433029910532:=Nat
def tw6158649050854879714:=Nat
def tw6216891275534770364:=Nat
def tw6254577424727180900:=Nat
def tw6259410046209198651:=Nat
def tw6304149769505646742:=Nat
def tw6321543800330217680:=Nat
def tw6354207508271199981:=Nat
def tw6415778444760458756:=Nat
def tw6452615991081474664:=Nat
def tw6469682792110808026:=Nat
def tw6518487022295396009:=Nat
def tw6523900563621799874:=Nat
def tw6557653229050890644:=Nat
def tw6591323574161742523:=Nat
def tw6600645188717354685:=Nat
def tw6617714489182269162:=Nat
def tw6638980400582590965:=Nat
def tw6643854842849654596:=Nat
def tw6667231696669595052:=Nat
def tw6786984604119995488:=Nat
def tw6847318724999265134:=Nat
def tw6881137251867577186:=Nat
def tw6982853794466194490:=Nat
def tw7034773862434507917:=Nat
def tw7036231872672187023:=Nat
def tw7062314972427916165:=Nat
def tw7122172182302585337:=Nat
def tw712711808538102687:=Nat
def tw7163095602045974775:=Nat
def tw7163967723163184927:=Nat
def tw7195752948494291135:=Nat
def tw7196476017004762155:=Nat
def tw7230753966982224683:=Nat
def tw7269542676802546780:=Nat
def tw7399210672612539454:=Nat
def tw741457127023826347:=Nat
def tw7428474244687956165:=Nat
def tw744596272835734572:=Nat
def tw7470888389878759530:=Nat
def tw7514724891418160202:=Nat
def tw7522071156983036421:=Nat
def tw7525188377260138072:=Nat
def tw7544241002333825253:=Nat
def tw7619505504534351060:=Nat
def tw7698751623233699466:=Nat
def tw7717714619795951963:=Nat
def tw7726701627677427743:=Nat
def tw7739906788533557507:=Nat
def tw7754907486572559988:=Nat
def tw7769864170050541694:=Nat
def tw7796304041847244179:=Nat
def tw7831460758923110578:=Nat
def tw7863015717214783400:=Nat
def tw787608656839481213:=Nat
def tw7878210005648330486:=Nat
def tw7891294636926797519:=Nat
def tw7924720136751108227:=Nat
def tw7959056247978229426:=Nat
def tw7964380434121846935:=Nat
def tw8016494764333029449:=Nat
def tw802359497579005768:=Nat
def tw8063739987781978923:=Nat
def tw8145275926223432424:=Nat
def tw8158151986168467419:=Nat
def tw8209521436175852900:=Nat
def tw8218732389600030639:=Nat
def tw8262781650146154050:=Nat
def tw8265147558614342042:=Nat
def tw8305158419382271942:=Nat
def tw8323363180331402591:=Nat
def tw8394206415671305864:=Nat
def tw8433599044545796747:=Nat
def tw8488780606120374661:=Nat
def tw8513614704798206046:=Nat
def tw8574683143719314264:=Nat
def tw8586962650546538200:=Nat
def tw8594324994533313425:=Nat
def tw8634759886861116386:=Nat
def tw8661969201792136317:=Nat
def tw8678889211570981418:=Nat
def tw8727789708300624864:=Nat
def tw873608178854162555:=Nat
def tw8843021464696241337:=Nat
def tw8941558740379193125:=Nat
def tw9012912570589489508:=Nat
def tw9037207962883746827:=Nat
def tw9048598608117891970:=Nat
def tw9099899356122104969:=Nat
def tw9100025577365401466:=Nat
def tw9123025325077770514:=Nat
def tw9180142006174657838:=Nat
def tw9188800691200348945:=Nat
def tw9228554816185958360:=Nat
def tw9257750556204221081:=Nat
def tw9266497163231692327:=Nat
def tw929125534169218582:=Nat
def tw9409231646346005818:=Nat
def tw9417044075837202160:=Nat
def tw9517661835134996587:=Nat
def tw9541569454624819588:=Nat
def tw956291847107962076:=Nat
def tw9577492750008823668:=Nat
def tw9595420762699237937:=Nat
def tw9653032506238234216:=Nat
def tw9672383937919574331:=Nat
def tw9687352951839987596:=Nat
def tw9713694111207048512:=Nat
def tw9759680842083079392:=Nat
def tw9791669491303591908:=Nat
def tw9830465813826656679:=Nat
def tw9851786715397267226:=Nat
def tw9857747292559469616:=Nat
def tw9950752005132977097:=Nat
def tw9953096004763652996:=Nat
def tw9960560396565222327:=Nat
end PySem.W.Fast
theorem L2.us1{P:List ACz->Prop}(h:∀a0,P [a0]):∀us:List ACz,us.length=1->P us
 | [a0],_=>h a0
theorem L2.us2{P:List ACz->Prop}(h:∀a0 a1,P [a0,a1]):∀us:List ACz,us.length=2->P us
 | [a0,a1],_=>h a0 a1
theorem L2.us3{P:List ACz->Prop}(h:∀a0 a1 a2,P [a0,a1,a2]):∀us:List ACz,us.length=3->P us
 | [a0,a1,a2],_=>h a0 a1 a2
theorem L2.us4{P:List ACz->Prop}(h:∀a0 a1 a2 a3,P [a0,a1,a2,a3]):∀us:List ACz,us.length=4->P us
 | [a0,a1,a2,a3],_=>h a0 a1 a2 a3
theorem L2.us5{P:List ACz->Prop}(h:∀a0 a1 a2 a3 a4,P [a0,a1,a2,a3,a4]):∀us:List ACz,us.length=5->P us
 | [a0,a1,a2,a3,a4],_=>h a0 a1 a2 a3 a4
local macro_rules | `(tactic| walk_at"fk")=>`(tactic| ((case a=>k_is);(case l=>k_is);(case c=>k_is);(case k=>k_is)))
local macro_rules | `(tactic| walk_at"f1")=>`(tactic| (refine' L2.fnat_mk (by assumption) (by assumption) ?a ?l ?c ?k (λ_ _ _ _ _ _=>L2.us1 (λ_=>rfl));walk_at"fk"))
local macro_rules | `(tactic| walk_at"f2")=>`(tactic| (refine' L2.fnat_mk (by assumption) (by assumption) ?a ?l ?c ?k (λ_ _ _ _ _ _=>L2.us2 (λ_ _=>rfl));walk_at"fk"))
local macro_rules | `(tactic| walk_at"f3")=>`(tactic| (refine' L2.fnat_mk (by assumption) (by assumption) ?a ?l ?c ?k (λ_ _ _ _ _ _=>L2.us3 (λ_ _ _=>rfl));walk_at"fk"))
local macro_rules | `(tactic| walk_at"f4")=>`(tactic| (refine' L2.fnat_mk (by assumption) (by assumption) ?a ?l ?c ?k (λ_ _ _ _ _ _=>L2.us4 (λ_ _ _ _=>rfl));walk_at"fk"))
local macro_rules | `(tactic| walk_at"f5")=>`(tactic| (refine' L2.fnat_mk (by assumption) (by assumption) ?a ?l ?c ?k (λ_ _ _ _ _ _=>L2.us5 (λ_ _ _ _ _=>rfl));walk_at"fk"))
open PySem PySem.W PyProof.Rows
set_option maxRecDepth 100000 in
set_option maxHeartbeats 0 in
theorem PySem.Challenge.cw_talkmarks_k44_rooms_for_members_alone_holds : PySem.Challenge.rw_talkmarks_k44_rooms_for_members_alone.Holds := by
 w_on; o_law; k_head; (case hw=>w_witness2)
 k_fill
 refine L2.law_walk (l:=PySem.Challenge.rw_talkmarks_k44_rooms_for_members_alone) (k:=11) (st:=LW.top 72) (x:="_law_script") rfl rfl rfl ⟨rfl,by decide,by decide⟩ (fun w h Y=>PySem.W.kIn_of Y) ?F<|fun _ _ _ _ _ _ _=>rfl
 case F =>
  intro w mg h X G;have T:∀ P base,LW.Tops P w (L2.KOf X) mg base:=by
   intro P base;dsimp only[L2.KOf];constructor;walk_at"f1";walk_at"f2";walk_at"f2";walk_at"f1";walk_at"f2";walk_at"f2";walk_at"f1";walk_at"f1";walk_at"f2";walk_at"f2";walk_at"f3";walk_at"f3";walk_at"f1";walk_at"f1";walk_at"f3";walk_at"f2";walk_at"f2";walk_at"f3";walk_at"f2";walk_at"f2";walk_at"f2";walk_at"f2";walk_at"f2";walk_at"f4";walk_at"f3";walk_at"f2";walk_at"f2";walk_at"f1";walk_at"f3";walk_at"f4";walk_at"f4";walk_at"f4";walk_at"f4";walk_at"f2";walk_at"f2";walk_at"f2";walk_at"f3";walk_at"f2";walk_at"f1";walk_at"f1";walk_at"f2";walk_at"f3";walk_at"f3";walk_at"f4";walk_at"f5";walk_at"f3";walk_at"f1";walk_at"f5";walk_at"f4";walk_at"f1"
   ·unfold LW.B_ LW.C_
    iterate 12 (refine' L2.TopB.b ?tq ?_; (case tq=>refine' PySem.W.mg_none_of X G ?tr; (case tr=>k_is)))
    exact .nil
   kernel_rfl
  exact ⟨(T PySem.Challenge.pw_talkmarks_k44_rooms_for_members_alone {}).f_law,fun base f d F=>LW.ok_law (T _ base) F⟩
