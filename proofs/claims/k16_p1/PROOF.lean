import PyProof.Rows.All
import Wide.All
import OpenK.AllK
import Wide.FinOn
import Lean
import PyProof.EqAt
import PyProof.EqKinds
import PyProof.TupleCall
import PyProof.CompFree
import PyProof.NeKinds
import KE.KSortTup
import KE.KRevSl
import KE.KDictSum
import KE.KEqDict
import PyProof.Conv_int_bool
import PyProof.AttrMissHeap
import KE.KLam
import KE.KRevIter
import KE.KTryMore
import PyProof.ExcArgsOwn
import PySem.Challenge.RW_talkmarks_k16_logs_that_clash
open PySem renaming wpAny_bind->AA0,wpAny_pure->AA3,Spec->AA8,wpAny_holding->AAW,wpAny_newObj_type->AAa,wpAny_mono->AAl,wpAny_call_entry->AAu,wpAny_callSpecial?_slot->AAz,mem_of_lookup->ABJ,codeAny_builtin->ABL,sizeLine_eq->ABQ,wpAny_fieldsOf->ABW,wpAny_field->ABZ,wpAny_dictEntries->ABb,wpAny_loadPart_at->ABj,wpAny_dictEpoch->ABq,wpAny_typeNameOfWhole_itemiter->ABr,wpAny_Call_Name_kw->ABu,wpAny_typeNameOfWhole_keyiter->ABz,wpAny_typeNameOfWhole_valiter->AC0,wpAny_attempt->AC4,plainId_quiet->AC5,wpAny_setField->AC7,wpAny_notOrdered_dict->ACH,wpAny_setField_rec->ACK,wpAny_typeNameOf_itemiter->ACP,codeAny_call_builtin->ACQ,wpAny_truthy_bool->ACR,wpAny_typeNameOf_keyiter->ACX,wpAny_typeNameOf_valiter->ACY,wpAny_execs_nil->ACs,codeAny_mono->ACu,wpAny_loadPart'->ACw,wpAny_typeOf->ACx,wpAny_updateSeq->AD0,wpAny_newList->AD4,wpAny_rule->ADQ,wpAny_standAt->ADS,wpAny_passesOwn->ADT,wpAny_isOneOf_itemiter->ADl,wpAny_pyIter_list->ADp,eqIsQuiet_byValue->ADt,atKey_none_of_get->ADu,wpAny_seqItems->ADy,wpAny_tryCatch->ADz,wpAny_isOneOf_valiter->AE3,wpAny_execs_cons->AE4,wpAny_isInstance->AE5,argBest->AEB,wpAny_call->AEC,wpAny_specialOf->AEF,wpAny_of_eq->AEK,Value->AEP
open PySem.W renaming Frag->AA1,findIn->AAi,kitOne->AB8,nsIn->ABA,hideAll->ABI,keepIn->ABk,kas_desc->ABw,fnOf->AC6,kas_rev->AD8,kas_place->ADC,of_hideAll->ADR,kas_asc->ADq,codeIn->ADw,kas_sort->ADx,kas_descPart->AE0,mroIn->AEA,hideAll_get->AED,isFn->AER,exmOne->AEX,notCls->AEY,methodObj->AEZ,hasDictIn->AEa,mg_of->AEc
open PySem.Str renaming ofString->AA2
open PySem.Heap renaming get?_push_of_some->AA4,lt_size->AAD,get?_push_size->AAE,get?_update_self->AAd,get?_update_other->AAj,SameBut->AB9,get?_update_ne->ABK,size_push->ACN,MadeExcOf->ACm,get?_none_of_le->AE7
open List renaming getElem?_eq_some_iff->AA5,length_map->AA6,getElem?_eq_getElem->AA7,mem_cons_of_mem->AA9,size_toArray->AAA,length_append->AAC,mem_map->AAF,length_cons->AAG,getD_eq_getElem?_getD->AAI,getElem?_append_left->AAJ,mem_cons->AAL,map_cons->AAN,mem_cons_self->AAO,mem_append_right->AAP,mem_singleton->AAS,mem_append->AAT,getElem?_map->AAU,mem_filter->AAX,length_nil->AAY,all_eq_true->AAb,mem_of_getElem?->AAc,getElem?_set_ne->AAf,map_append->AAk,length_singleton->AAm,getElem?_set_self->AAn,length_take->AAo,getElem?_append_right->AAp,append_nil->AAq,nil_append->AAr,pairwise_map->AAt,lookup_cons->AAv,range->AAx,getElem_mem->AAy,cons_lt_cons_iff->AB0,length_set->AB5,take_add_one->AB6,map_map->ABE,getElem?_take_of_lt->ABH,append_assoc->ABO,mem_append_left->ABP,prefix_append->ABS,zip_cons_cons->ABT,mem_range->ABV,take_length->ABX,all_cons->ABY,find?_cons->ABc,toArray->ABf,mem_of_find?_eq_some->ABm,nodup_cons->ABn,getElem?_eq_none->ABo,length_filter_le->ABt,any_eq_true->ABx,eq_nil_of_length_eq_zero->ABy,getElem?_of_mem->AC1,lookup->AC8,length->AC9,prefix_rfl->ACA,take_of_length_le->ACC,getElem_map->ACF,replicate->ACL,nodup_append->ACW,getElem?_replicate->ACa,pairwise_singleton->ACc,mem_map_of_mem->ACd,getElem_of_mem->ACe,length_drop->ACf,cons_append->ACh,filter_cons->ACi,lt_irrefl->ACl,length_replicate->ACv,set_append_right->ACz,take_sublist->AD1,nodup_nil->ADF,pairwise_iff_getElem->ADH,mem_or_eq_of_mem_set->ADI,filterMap_cons->ADJ,map_congr_left->ADK,contains_cons->ADa,set_cons_zero->ADc,set_cons_succ->ADd,find?_some->ADe,filter_append->ADf,filter_map->ADg,drop_eq_nil_of_le->ADk,ext_getElem?->ADr,mem_of_mem_take->AE9,of_mem_zip->AEE,map_id->AEI,length_pos_iff->AEM,map_nil->AET
open Nat renaming le_refl->AAB,ne_of_lt->AAH,lt_of_lt_of_le->AAQ,zero_le->AAV,lt_irrefl->AAe,le_trans->AAh,ne_of_gt->ABR,lt_succ_of_lt->ABi,lt_succ_self->ACg,le_of_ble_eq_true->ACy,le_succ->ADo,lt_trichotomy->ADs,min_eq_left->AEJ,lt_trans->AEU,sub_self->AEV
open Bool renaming and_eq_true->AAK,false_eq_true->AAR,false_ne_true->AB7,eq_false_iff->ACT,not_eq_true'->AD6,false_and->ADv
open Option.some renaming inj->AAM
open PySem.Value renaming ref->AAZ,none->ABB,builtin->AC3,bool->ACj,type->ACk
open List.Pairwise renaming and_mem->AAg,nil->ADn
open PySem.Builtin.Dict_items renaming ownsTuple->AAs,ownedTupleFields->ADM,ownedTupleIsFree->ADN,pairFromOwner->ADi,newIterator->AE2,dictOf->AEW
open Array renaming getD_eq_getD_getElem?->AAw,getElem?_eq_getElem->AB1,length_toList->ABg,getElem?_eq_some_iff->ACD,getElem?_toList->ACG,getElem?_eq_none->ACo,forIn_toList->ADY
open PySem.Obj renaming mapSeq->AB2,data_mapFields->ABe,mapFields->ACI,isFreed_of_fields->ACJ,data_mapDictKeys->AD9,isFreed_of_dict->ADL,data_mapDict->AE6
open Option renaming map_eq_some_iff->AB3,isSome_iff_exists->ABv,isSome_map->AD2
open PyProof.Rows renaming slot_tuple_getitem->AB4,get?_update_seq->ACV,callWith_type1->ACt,listUpdate_at->AD5,listItems_at->AE1
open PySem.NameKind renaming free->ABC,cell->ACb
open PySem.Heap.SameBut renaming update->ABD
open PySem.Around renaming under_plainId->ABF
open Ne renaming symm->ABG
open PySem.Builtin.Str renaming strSliceIndices->ABM,occurrences->ADX
open False renaming elim->ABN
open PySem.F renaming plain_min_loop->ABU,slot_dict_itemiterator_next->ABa,plain_extend_loop->ABl,slot_list_getattribute->ABs,args_dict_itemiterator_next_1->ADA,entry_dict_itemiterator_next->ADG,args_tuple_add_2->ADO,entry_tuple_add->ADU,plainAttrs_dict->ADZ,slot_tuple_add->ADj,entry_min_loop->ADm
open PySem.Txt renaming slice->ABd
open Int renaming toNat_natCast->ABh,emod_lt_of_pos->ADh,emod_nonneg->AEO,toNat->AEb
open PySem.Builtin.Dict renaming showsAll->ABp
open Sum renaming inr->AC2
open PySem.Builtin.List renaming listExtendWith->ACB,listTooLong->ADP
open True renaming intro->ACE
open PySem.Builtin.Slice renaming slicePlaces->ACM,sliceAdjust->ADB,sliceApplied->AEQ
open PySem.Builtin.Tuple renaming tupleHashOf->ACO,tupleExact->ACS,tupleItemsOf->AD7
open List.cons renaming injEq->ACU,inj->AEd
open List.Perm renaming eq_of_pairwise->ACZ,refl->ADD
open PySem.Calls renaming callWith_builtin->ACn,evalArgs_plain->AE8,spliced_cons->AES
open PySem.SeqAt.EqAt renaming int_str->ACp,str_int->ACq,int_int->ACr,str_str->ADV,same->AEH
open PySem.SeqAt renaming EqAt->AD3
open PySem.SetTable renaming Probe->ADE,leap->ADW,bits->AEe
open PySem.Code renaming quiet_builtin->ADb
open ForInStep renaming yield->AEG
open PySem.Expr renaming Call->AEL
open PySem.Builtin.Builtins renaming bindParams->AEN
open PySem.Shared renaming TypeIs->AEf
set_option autoImplicit true
set_option relaxedAutoImplicit true
set_option compiler.extract_closed false
set_option Elab.async false
set_option linter.all false
set_option maxRecDepth 100000
-- CHANGE: your row's module here,as the last of these rows
theorem dF_{p:Prop}[Decidable p](h:¬p):decide p=false:=decide_eq_false h
theorem dT_{p:Prop}[Decidable p](h:p):decide p=true:=decide_eq_true h
theorem oT_{p:Prop}[Decidable p](h:decide p=true):p:=of_decide_eq_true h
namespace L2
open PySem PySem.Spec PyProof.Rows
noncomputable abbrev Key:=Sum Int Str
noncomputable def og:Key->Value->Bool
 | .inl k,v=>Value.isInt k v
 | .inr x,v=>Value.isStrOf x v
noncomputable def keyH(w:World):Key->Int
 | .inl k=>hashInt k
 | .inr x=>hashStr w x
theorem aQ:∀{k:Key}{v:Value},og k v=true->(∃i t,k=Sum.inl i/\v=Value.int i t)\/(∃x t,k=AC2 x/\v=Value.str x t)
 | .inl i,v,h=>by
  obtain⟨t,e⟩:=Value.isInt_shape (k:=i) (v:=v) h
  exact .inl ⟨i,t,rfl,e⟩
 | .inr x,v,h=>by
  obtain⟨t,e⟩:=Value.isStrOf_shape (x:=x) (v:=v) h
  exact .inr ⟨x,t,rfl,e⟩
theorem vn(i:Int)(t:Tok):og (.inl i) (.int i t)=true:=by simp[og,Value.isInt]
theorem vm(x:Str)(t:Tok):og (.inr x) (.str x t)=true:=by simp[og,Value.isStrOf]
theorem Ez(a b:Int):decide ((Sum.inl a:Key)=Sum.inl b)=(a==b):=by
 by_cases e:a=b
 ·subst e;simp
 ·have h:¬(Sum.inl a:Key)=Sum.inl b:=λq=>e (Sum.inl.inj q)
  rw[dF_ h]
  exact(beq_eq_false_iff_ne.mpr e).symm
theorem zb(a b:Str):decide ((AC2 a:Key)=AC2 b)=decide (a=b):=by
 by_cases e:a=b
 ·subst e;simp
 ·have h:¬(AC2 a:Key)=AC2 b:=λq=>e (Sum.inr.inj q)
  rw[dF_ h,dF_ e]
theorem Ey(a:Int)(b:Str):decide ((Sum.inl a:Key)=AC2 b)=false:=dF_ (λq=>nomatch q)
theorem Ew(a:Str)(b:Int):decide ((AC2 a:Key)=Sum.inl b)=false:=dF_ (λq=>nomatch q)
noncomputable def aX(prog:Program)(w:World):PySem.KeyKind prog w Key where
 is:=og
 hash:=keyH w
 inj:=λv a b ha hb=>by
  rcases aQ ha with⟨i,t,rfl,rfl⟩|⟨x,t,rfl,rfl⟩
  ·rcases aQ hb with⟨j,u,rfl,e⟩|⟨y,u,rfl,e⟩
   ·injection e with e1 _;rw[e1]
   ·exact nomatch e
  ·rcases aQ hb with⟨j,u,rfl,e⟩|⟨y,u,rfl,e⟩
   ·exact nomatch e
   ·injection e with e1 _;rw[e1]
 byValue:=λk v h=>by
  rcases aQ h with⟨i,t,rfl,rfl⟩|⟨x,t,rfl,rfl⟩<;>rfl
 pyHash:=λhv h=>by
  rcases aQ hv with⟨i,t,rfl,rfl⟩|⟨x,t,rfl,rfl⟩
  ·exact wpAny_pyHash_int h
  ·exact wpAny_pyHash_str h
 eqBool:=λhu hv h=>by
  rcases aQ hu with⟨i,t,rfl,rfl⟩|⟨x,t,rfl,rfl⟩
  ·rcases aQ hv with⟨j,u,rfl,rfl⟩|⟨y,u,rfl,rfl⟩
   ·rw[Ez]at h;exact wpAny_eqBool_int h
   ·rw[Ey]at h;exact ACp i t y u _ _ _ _ h
  ·rcases aQ hv with⟨j,u,rfl,rfl⟩|⟨y,u,rfl,rfl⟩
   ·rw[Ew]at h;exact ACq x t j u _ _ _ _ h
   ·rw[zb]at h;exact wpAny_eqBool_str h
 «strs»:=λk x t v h=>by
  rcases aQ h with⟨i,u,rfl,e⟩|⟨y,u,rfl,e⟩
  ·exact nomatch e
  ·injection e with e1 _
   subst e1
   cases v<;>rfl
theorem nP(prog:Program)(w:World)(i:Int)(t:Tok):(aX prog w).is (.inl i) (.int i t)=true:=vn i t
theorem nO(prog:Program)(w:World)(x:Str)(t:Tok):(aX prog w).is (.inr x) (.str x t)=true:=vm x t
inductive V where
 | non | bl (b:Bool) | int (i:Int) | str (x:Str) | byt (b:Array UInt8) | flt (b:UInt64) | ref (a:Addr) | ty (n:String)
 deriving DecidableEq
def aR:V->Value->Prop
 | .non,u=>u=ABB
 | .bl b,u=>u=ACj b
 | .int i,u=>∃t,u=Value.int i t
 | .str x,u=>∃t,u=Value.str x t
 | .byt b,u=>∃t,u=Value.bytes b t
 | .flt b,u=>∃t,u=Value.float b t
 | .ref a,u=>u=AAZ a
 | .ty n,u=>u=ACk n
abbrev ay:List V->List Value->Prop:=Paired aR
theorem ay.length(r:ay xs us):xs.length=us.length:=Paired.length r
theorem ay.get:∀{xs:List V}{us:List Value}{i:Nat}{x:V},ay xs us->xs[i]?=some x->∃u,us[i]?=some u/\aR x u
 | _,_,_,_,.nil,e=>by simp at e
 | _,_,0,_,.cons r _,e=>by simp at e;subst e;exact⟨_,rfl,r⟩
 | _,_,i+1,x,.cons _ t,e=>by
  obtain⟨u,h1,h2⟩:=ay.get (i:=i) (x:=x) t (by simpa using e)
  exact⟨u,by simpa using h1,h2⟩
theorem ay.set(r:aR x u):∀{xs:List V}{us:List Value} (i:Nat),ay xs us->ay (xs.set i x) (us.set i u)
 | _,_,_,.nil=>.nil
 | _,_,0,.cons _ t=>.cons r t
 | _,_,i+1,.cons q t=>.cons q (ay.set r i t)
theorem ay.append(h:ay xs us)(s:ay ys ws):ay (xs++ys) (us++ws):=by
 induction h with
 | nil=>exact s
 | cons r t ih=>exact .cons r ih
theorem ay.take:∀{xs:List V}{us:List Value} (n:Nat),ay xs us->ay (xs.take n) (us.take n)
 | _,_,0,_=>.nil
 | _,_,_+1,.nil=>.nil
 | _,_,n+1,.cons r t=>.cons r (ay.take n t)
theorem ay.drop:∀{xs:List V}{us:List Value} (n:Nat),ay xs us->ay (xs.drop n) (us.drop n)
 | _,_,0,r=>r
 | _,_,_+1,.nil=>.nil
 | _,_,n+1,.cons _ t=>ay.drop n t
def wA:Option V->Option Value->Prop
 | some v,some u=>aR v u
 | none,none=>True
 | _,_=>False
def KV{κ:Type}:List (κ×V)->List (κ×Value)->Prop:=Paired λ(p:κ×V) (q:κ×Value)=>p.1=q.1/\aR p.2 q.2
noncomputable def kV:Key->V
 | .inl i=>.int i
 | .inr x=>.str x
inductive HO where
 | lst (xs:List V)
 | tup (xs:List V)
 | dK (kvs:List (Key×V)) | dT (kvs:List (List Key×V))
 | set (S:Int->Bool) (n:Nat)
 | ins (C dx:Addr) (fs:List (Str×V))
 | own (x:Addr)
 | xd (fs:List (Str×V))
 | met (f x:Addr)
 | rng (lo hi:Int)
 | frz (o:Obj) (u:HO)
 | tbl (ps:Array Value)
 | ext (φ:Program->World->Heap->Prop)
abbrev Hp:=Addr->Option HO
noncomputable def upd(H:Hp)(a:Addr)(o:HO):Hp:=λb=>if b=a then some o else H b
theorem aC:upd H a o a=some o:=by unfold upd;rw[if_pos rfl]
theorem av(h:b≠a):upd H a o b=H b:=by unfold upd;rw[if_neg h]
theorem ne_of{H:Hp}{a b:Addr}{o u:HO}(h:H a=some o)(h':H b=some u)(d:o≠u):a≠b:=by
 intro e;subst e;rw[h]at h';exact d (AAM h')
theorem ad{H:Hp}{a b:Addr}{o:HO}(h:H a=some o)(h':H b=none):a≠b:=by
 intro e;subst e;rw[h]at h';cases h'
section
variable(P:Program)(w:World)
def zu(h:Heap)(a:Addr)(items:Array Value):Prop:=∃o,h.get? a=some o/\o.cls=.type "tuple"/\(∃n,o.data=.seq items n)/\o.dict=none
theorem zu.tup:zu h a items->IsTup h a items:=λ⟨o,e,c,⟨n,d⟩,_⟩=>⟨o,e,c,n,d⟩
theorem zu.new(h:Heap)(items:Array Value):zu (h.push { cls:=.type "tuple",data:=.seq items }) h.objs.size items:=⟨_,AAE _ rfl,rfl,⟨_,rfl⟩,rfl⟩
def aY(H:Hp)(h:Heap)(a:Addr):HO->Prop
 | .lst xs=>xs.length<=sizeLine/\∃(its:List Value) (n:Nat),ay xs its/\h.get? a=some { cls:=.type "list",data:=.seq its.toArray n }
 | .tup xs=>xs.length<=sizeLine/\∃its:List Value,ay xs its/\zu h a its.toArray
 | .dK kvs=>kvs.length<=sizeLine/\(a==sysModules)=false/\∃vs,KV kvs vs/\h.DictOf (aX P w) a vs
 | .dT kvs=>kvs.length<=sizeLine/\(a==sysModules)=false/\∃xs:List (List Key×Addr×Value),
   Paired (λ(p:List Key×V) (q:List Key×Addr×Value)=>p.1=q.1/\H q.2.1=some (.tup (p.1.map kV))/\aR p.2 q.2.2) kvs xs /\
   ∃o es ep,h.get? a=some o/\o.ExactDict/\o.data=.dict es ep/\es.toList=xs.map (entryOfKey (tupleKind (aX P w)))/\(xs.map (·.1)).Nodup
 | .set S n=>h.SetOf (intKind P w) a S n
 | .ins C dx fs=>H dx=some (.own a)/\fs.length<=1000/\dx≠a/\h.get? a=some (PySem.W.instObj C dx) /\
   ∃mA,h.Ns1 dx mA/\(∀f,wA (fs.lookup f) (mA f))/\PySem.Within mA (fs.map (·.1))
 | .own _=>∃o,h.get? a=some o
 | .xd fs=>∃mA,h.Ns1 a mA/\∀f,wA (fs.lookup f) (mA f)
 | .rng lo hi=>∃t u v,h.get? a=some { cls:=.type "range",data:=.fields #[.int lo t,.int hi u,.int 1 v] }
 | .frz o u=>h.get? a=some o/\aY H h a u
 | .tbl ps=>h.get? a=some { cls:=.none,data:=.fields ps }
 | .met f x=>h.get? a=some (AEZ (.ref f) (.ref x))
 | .ext φ=>φ P w h/\(∃o,h.get? a=some o)/\∀h1 h2:Heap,φ P w h1->(∀o,h1.get? a=some o->h2.get? a=some o)->φ P w h2
def HOk(H:Hp)(h:Heap):Prop:=∀a o,H a=some o->aY P w H h a o
end
theorem aY.lt(x:aY P w H h a o):a<h.objs.size:=by
 cases o with
 | lst xs=>obtain⟨_,_,_,_,e⟩:=x;exact AAD e
 | tup xs=>obtain⟨_,_,_,p⟩:=x;exact p.tup.lt
 | dK kvs=>obtain⟨_,_,_,_,o,_,_,e,_⟩:=x;exact AAD e
 | dT kvs=>obtain⟨_,_,_,_,o,_,_,e,_⟩:=x;exact AAD e
 | set S n=>obtain⟨o,_,_,_,e,_⟩:=x;exact AAD e
 | ins C dx fs=>obtain⟨_,_,_,e,_⟩:=x;exact AAD e
 | own y=>obtain⟨_,e⟩:=x;exact AAD e
 | xd fs=>obtain⟨_,⟨_,_,_,e,_⟩,_⟩:=x;exact AAD e
 | rng lo hi=>obtain⟨_,_,_,e⟩:=x;exact AAD e
 | frz ob u=>obtain⟨e,_⟩:=x;exact AAD e
 | tbl ps=>exact AAD (show h.get? a=some _ from x)
 | met f y=>exact AAD (show h.get? a=some _ from x)
 | ext φ=>obtain⟨_,⟨_,e⟩,_⟩:=x;exact AAD e
theorem Paired.mapP{α β:Type}{F G:α->β->Prop}:∀{l₁:List α}{l₂:List β},Paired F l₁ l₂->(∀a b,F a b->G a b)->Paired G l₁ l₂
 | _,_,.nil,_=>.nil
 | _,_,.cons r t,f=>.cons (f _ _ r) (Paired.mapP t f)
theorem aY.stay(x:aY P w H h a o)(k:∀b u,(b=a\/H b=some (.own a))->h.get? b=some u->h'.get? b=some u)
  (ho:∀b,H b=some (.own a)->H' b=some (.own a)) (ht:∀b xs,H b=some (.tup xs)->H' b=some (.tup xs)):aY P w H' h' a o:=by
 induction o with
 | lst xs=>obtain⟨z,its,n,r,e⟩:=x;exact⟨z,its,n,r,k _ _ (.inl rfl) e⟩
 | tup xs=>obtain⟨z,its,r,ob,e,c⟩:=x;exact⟨z,its,r,ob,k _ _ (.inl rfl) e,c⟩
 | dK kvs=>obtain⟨z,y,vs,r,ob,es,ep,e,c⟩:=x;exact⟨z,y,vs,r,ob,es,ep,k _ _ (.inl rfl) e,c⟩
 | dT kvs =>
  obtain⟨z,y,xs,r,ob,es,ep,e,c⟩:=x
  exact⟨z,y,xs,Paired.mapP r λp q z=>⟨z.1,ht _ _ z.2.1,z.2.2⟩,ob,es,ep,k _ _ (.inl rfl) e,c⟩
 | set S n=>obtain⟨ob,es,ep,t,e,c⟩:=x;exact⟨ob,es,ep,t,k _ _ (.inl rfl) e,c⟩
 | ins C dx fs =>
  obtain⟨d,z,ne,e,mA,⟨od,es,ep,e2,c⟩,r⟩:=x
  exact⟨ho _ d,z,ne,k _ _ (.inl rfl) e,mA,⟨od,es,ep,k _ _ (.inr d) e2,c⟩,r⟩
 | own y=>obtain⟨ob,e⟩:=x;exact⟨ob,k _ _ (.inl rfl) e⟩
 | xd fs=>obtain⟨mA,⟨od,es,ep,e,c⟩,r⟩:=x;exact⟨mA,⟨od,es,ep,k _ _ (.inl rfl) e,c⟩,r⟩
 | rng lo hi=>obtain⟨t,u,v,e⟩:=x;exact⟨t,u,v,k _ _ (.inl rfl) e⟩
 | frz ob u ih=>obtain⟨e,q⟩:=x;exact⟨k _ _ (.inl rfl) e,ih q⟩
 | tbl ps =>
  have e:h.get? a=some { cls:=.none,data:=.fields ps }:=x
  show h'.get? a=some { cls:=.none,data:=.fields ps }
  exact k a _ (.inl rfl) e
 | met f y =>
  have e:h.get? a=some (AEZ (.ref f) (.ref y)):=x
  show h'.get? a=some (AEZ (.ref f) (.ref y))
  exact k a _ (.inl rfl) e
 | ext φ=>obtain⟨p,⟨o,e⟩,st⟩:=x;exact⟨st _ _ p λo q=>k _ _ (.inl rfl) q,⟨o,k _ _ (.inl rfl) e⟩,st⟩
theorem HOk.lt(x:HOk P w H h)(e:H a=some o):a<h.objs.size:=(x a o e).lt
theorem HOk.fresh(x:HOk P w H h)(e:h.objs.size<=a):H a=none:=by
 cases q:H a with
 | none=>rfl
 | some u=>exact absurd (AAQ (x.lt q) e) (AAe _)
theorem HOk.kept(x:HOk P w H h)(k:∀b u,h.get? b=some u->h'.get? b=some u):HOk P w H h':=λa o e =>
 (x a o e).stay (λb u _ q=>k b u q) (λ_ q=>q) λ_ _ q=>q
theorem HOk.laid(x:HOk P w H h)(k:∀b u,h.get? b=some u->h'.get? b=some u)(hp:h.objs.size<=a)(new:aY P w (upd H a o) h' a o):HOk P w (upd H a o) h':=λb u e=>by
 have hn:=x.fresh hp
 by_cases hb:b=a
 ·subst hb;rw[aC]at e;cases e;exact new
 ·rw[av hb]at e
  exact(x b u e).stay (λc v _ q=>k c v q) (λc q=>by rw[av (ad q hn)];exact q) λc xs q=>by rw[av (ad q hn)];exact q
def Rd(H:Hp)(a:Addr)(u:HO):Prop:=H a=some u\/∃o,H a=some (.frz o u)
theorem Rd.ok(r:Rd H a u)(x:HOk P w H h):aY P w H h a u:=by
 rcases r with r | ⟨o,r⟩
 ·exact x a u r
 ·obtain⟨_,q⟩:=x a _ r
  exact q
def Mut:Option HO->Prop
 | some (.lst _)=>True
 | some (.dK _)=>True
 | some (.dT _)=>True
 | some (.set _ _)=>True
 | some (.ins _ _ _)=>True
 | some (.ext _)=>True
 | _=>False
theorem HOk.write(ok:HOk P w H h)(mu:Mut (H x))(he:e=x\/H e=some (.own x))(k:∀b u,b≠e->h.get? b=some u->h'.get? b=some u)(heo:∃u,h'.get? e=some u)
  (new:aY P w (upd H x o') h' x o'):HOk P w (upd H x o') h':=λb u q=>by
 have nown:∀c y,H c=some (.own y)->c≠x:=λc y r z=>by subst z;rw[r]at mu;exact mu
 have ntup:∀c xs,H c=some (.tup xs)->c≠x:=λc xs r z=>by subst z;rw[r]at mu;exact mu
 by_cases hb:b=x
 ·subst hb;rw[aC]at q;cases q;exact new
 ·rw[av hb]at q
  by_cases hbe:b=e
  ·have q':H b=some (.own x):=by
    rcases he with z | z
    ·exact absurd (hbe.trans z) hb
    ·rw[hbe];exact z
   rw[q]at q';cases q'
   obtain⟨v,hv⟩:=heo
   exact⟨v,by rw[hbe];exact hv⟩
  ·refine(ok b u q).stay (λc v hc r=>k c v ?_ r) (λc r=>by rw[av (nown c b r)];exact r) λc xs r=>by rw[av (ntup c xs r)];exact r
   rcases hc with rfl | hc
   ·exact hbe
   ·rintro rfl
    rcases he with z | z
    ·exact nown c b hc z
    ·rw[hc]at z;cases z;exact hb rfl
structure Un(fs ex:List Addr)(H H':Hp)(h h':Heap):Prop where
 keep:∀b o,h.get? b=some o->H b=none->b∉fs->b∉ex->h'.get? b=some o
 slot:∀b o,h.get? b=some o->H b=none->b∈fs->b∉ex->∃sl,h'.get? b=some { o with slots:=sl }
 free:∀b o,h.get? b=some o->H b=none->b∉ex->H' b=none
 there:∀b o,h.get? b=some o->b∉ex->∃o',h'.get? b=some o'
 tups:∀b xs,H b=some (.tup xs)->H' b=some (.tup xs)
 frzs:∀b o u,H b=some (.frz o u)->H' b=some (.frz o u)
 tbls:∀b ps,H b=some (.tbl ps)->∃more,H' b=some (.tbl (ps++more))
theorem Un.any(u:Un fs ex H H1 h h1)(q:h.get? b=some ob)(n:H b=none)(hx:b∉ex):∃sl,h1.get? b=some { ob with slots:=sl }:=by
 by_cases hb:b∈fs
 ·exact u.slot b ob q n hb hx
 ·exact⟨ob.slots,u.keep b ob q n hb hx⟩
theorem Un.kept(k:∀b u,h.get? b=some u->h'.get? b=some u):Un fs ex H H h h' :=
 ⟨λb ob q _ _ _=>k b ob q,λb ob q _ _ _=>⟨ob.slots,k b ob q⟩,λ_ _ _ n _=>n,λb ob q _=>⟨ob,k b ob q⟩,λ_ _ q=>q,λ_ _ _ q=>q,λ_ ps q=>⟨#[],by rw[q];simp⟩⟩
theorem Un.refl:Un fs ex H H h h:=Un.kept λ_ _ q=>q
theorem Un.laid(k:∀b u,h.get? b=some u->h'.get? b=some u)(hp:h.objs.size<=a)(hn:H a=none):Un fs ex H (upd H a o) h h' where
 keep:=λb u q _ _ _=>k b u q
 slot:=λb u q _ _ _=>⟨u.slots,k b u q⟩
 free:=λb u q n _=>by rw[av (AAH (AAQ (AAD q) hp))];exact n
 there:=λb u q _=>⟨u,k b u q⟩
 tups:=λb xs q=>by rw[av (ad q hn)];exact q
 frzs:=λb u xs q=>by rw[av (ad q hn)];exact q
 tbls:=λb ps q=>⟨#[],by rw[av (ad q hn),q];simp⟩
theorem Un.write(mu:Mut (H x))(he:e=x\/H e=some (.own x))(k:∀b u,b≠e->h.get? b=some u->h'.get? b=some u)(heo:∃u,h'.get? e=some u):Un fs ex H (upd H x o) h h':=by
 have hx:∀b,H b=none->b≠x:=λb n z=>by subst z;rw[n]at mu;exact mu
 have hb:∀b,H b=none->b≠e:=λb n z=>by
  subst z
  rcases he with r | r
  ·exact hx b n r
  ·rw[n]at r;cases r
 have hm:∀b u,H b=some u->¬Mut (some u)->b≠x:=λb u q nm z=>by subst z;rw[q]at mu;exact nm mu
 refine⟨λb u q n _ _=>k b u (hb b n) q,λb u q n _ _=>⟨u.slots,k b u (hb b n) q⟩,λb u q n _=>by rw[av (hx b n)];exact n,λb u q _=>?_,
  λb xs q=>by rw[av (hm b _ q λz=>z)];exact q,λb u xs q=>by rw[av (hm b _ q λz=>z)];exact q,λb ps q=>⟨#[],by rw[av (hm b _ q λz=>z),q];simp⟩⟩
 by_cases hbe:b=e
 ·subst hbe;exact heo
 ·exact⟨u,k b u hbe q⟩
noncomputable def trk(h:Heap)(H:Hp):List Addr:=(AAx h.objs.size).filter λa=>(H a).isSome
noncomputable def xT(h:Heap)(H:Hp):Heap:=ABI h (trk h H)
theorem vG(h:Heap)(H:Hp):(xT h H).objs.size=h.objs.size:=PySem.W.hideAll_size _ _
theorem xS(e:h.get? b=some o)(n:H b=none):(xT h H).get? b=some o :=
 AED _ e λhm=>by
  have q:(H b).isSome=true:=(AAX.mp hm).2
  rw[n]at q;simp at q
theorem Aw(e:(xT h H).get? b=some o):h.get? b=some o/\H b=none:=by
 have e':h.get? b=some o:=ADR (trk h H) e
 refine⟨e',?_⟩
 cases q:H b with
 | none=>rfl
 | some x =>
  have hm:b∈trk h H:=AAX.mpr ⟨ABV.mpr (AAD e'),by simp[q]⟩
  have z:(xT h H).get? b=none:=PySem.W.hideAll_none (trk h H) hm
  rw[z]at e;cases e
noncomputable def Cq(g h:Heap)(L:Addr):List (Addr×Obj):=(AAx h.objs.size).filterMap λa=>if a=L\/(g.get? a).isSome=true then none else(h.get? a).map λo=>(a,o)
noncomputable def aP(g h:Heap)(L d:Addr):List (Addr×Obj):=(Cq g h L).filter λp=>decide (p.1≠d)
structure Mod(K:AA1)(mg:Str->Option Value)(base:Heap):Prop where
 kin:K.In base
 glob:base.Ns mainGlobals mg
 blt:∃mb,base.Ns builtinsNs mb/\∀x:Str,x≠"__name__"->mb x=bootBuiltins x
 nolimit:base.NoLimit
/-- the context: a def's body (or a comprehension's block) running. base: fixed through the whole law;s₀,H₀: the entry;outer: the frames whose slots others may change (a def's callers);stack: all frames that run;
  ex: iterators that were made FL of the entry and are walked here (a comprehension's);fn: the names whose cells were made at the entry (a def: all;a comprehension's block: its own);calm: not dG an except suite;pn: pins that every state bears;xe: what is wanted of an exception that leaves the code -/
structure Cx where
 prog:Program
 w:World
 K:AA1
 mg:Str->Option Value
 base:Heap
 A:Around
 N:List Str
 s₀:Shared
 H₀:Hp
 env:Env
 outer:List Env
 stack:List Env
 ex:List Addr
 fn:Str->Bool
 calm:Bool
 pn:List (Addr×Obj)
 xe:Value->Shared->Prop
noncomputable def frs(l:List Env):List Addr:=l.filterMap (·.frame)
noncomputable abbrev Cx.fs(X:Cx):List Addr:=frs X.outer
def Vis(sc:Scope)(x:Str):Prop:=sc.names.lookup x=some .local\/sc.names.lookup x=some .cell\/sc.names.lookup x=some .free
def Loc(sc:Scope)(x:Str):Prop:=sc.names.lookup x=some .local\/sc.names.lookup x=some .cell
def Look(env:Env)(h:Heap)(m:Str->Option Value)(x:Str)(u:Value):Prop :=
 (env.kindOf x=some .local/\m x=some u)\/((env.kindOf x=some .cell\/env.kindOf x=some .free)/\∃c,env.cells.lookup x=some c/\h.IsCell c (some u))
structure Cx.Ok(X:Cx):Prop where
 mod:Mod X.K X.mg X.base
 kind:X.env.scope.kind=.function
 glob:X.env.globals=mainGlobals
 blt:X.env.builtins=builtinsNs
 above:X.s₀.heap.objs.size<=X.env.locals
 inj:∀x y c,X.env.cells.lookup x=some c->X.env.cells.lookup y=some c->x=y
 has:∀x,(X.env.kindOf x=some .cell\/X.env.kindOf x=some .free)->∃c,X.env.cells.lookup x=some c
 cab:∀x c,X.fn x=true->X.env.cells.lookup x=some c->X.s₀.heap.objs.size<=c
 hd:X.calm=true->X.A.handled=none
 frames:X.A.frames=some X.stack
 stk:X.stack=X.outer\/(X.stack=X.env::X.outer/\X.env.frame=some X.env.locals)
 exf:∀b∈X.ex,b≠X.env.locals/\∀x c,X.env.cells.lookup x=some c->c≠b
 bs:∀b o,X.base.get? b=some o->X.s₀.heap.get? b=some o/\X.H₀ b=none
 bsz:X.base.objs.size<=X.s₀.heap.objs.size
 noex:∀b o,X.base.get? b=some o->b∉X.ex
 exfs:∀b∈X.ex,b∉X.fs
 funs:X.s₀.heap.FunFrames X.base X.outer
 frf:∀b∈X.fs,X.H₀ b=none
structure Inv(X:Cx)(pins:List (Addr×Obj))(σ:List (Option V))(H:Hp)(s:Shared):Prop where
 ok:X.Ok
 os:s.os=X.s₀.os
 bare:AllBare s.gens
 base:Un X.fs X.ex X.H₀ H X.s₀.heap s.heap
 loc:∃m,s.heap.Ns X.env.locals m/\∀(i:Nat) (x:Str) (v:V),X.N[i]?=some x->σ[i]?=some (some v)->Vis X.env.scope x->∃u,aR v u/\Look X.env s.heap m x u
 cell:∀x c,X.env.cells.lookup x=some c->∃v,s.heap.IsCell c v
 free:H X.env.locals=none
 freeC:∀x c,X.env.cells.lookup x=some c->H c=none
 pin:∀p∈X.pn++pins,s.heap.get? p.1=some p.2/\H p.1=none/\p.1≠X.env.locals/\p.1∉X.fs/\∀v,p.2.data≠.cell v
 hok:HOk X.prog X.w H s.heap
 len:σ.length=X.N.length
theorem Cx.Ok.nofr{X:Cx}(ok:X.Ok)(e:X.base.get? b=some o):b∉X.fs:=λhb=>by
 have:=(ok.funs.mem hb).1
 rw[e]at this;cases this
theorem Inv.bs{X:Cx}{pins:List (Addr×Obj)}{σ:List (Option V)}{H:Hp}{s:Shared}(I:Inv X pins σ H s):∀b o,X.base.get? b=some o->s.heap.get? b=some o/\H b=none:=λb o e =>
 ⟨I.base.keep b o (I.ok.bs b o e).1 (I.ok.bs b o e).2 (I.ok.nofr e) (I.ok.noex b o e),I.base.free b o (I.ok.bs b o e).1 (I.ok.bs b o e).2 (I.ok.noex b o e)⟩
theorem Inv.bk(I:Inv X pins σ H s):∀b o,X.base.get? b=some o->s.heap.get? b=some o:=λb o e=>(I.bs b o e).1
theorem Inv.mod(I:Inv X pins σ H s):Mod X.K X.mg X.base:=I.ok.mod
theorem Inv.kIn(I:Inv X pins σ H s):X.K.In s.heap:=I.ok.mod.kin.keeps I.bk
theorem Inv.lt(I:Inv X pins σ H s):X.env.locals<s.heap.objs.size:=let ⟨_,hn,_⟩:=I.loc;hn.lt
theorem Inv.sz(I:Inv X pins σ H s):X.s₀.heap.objs.size<=s.heap.objs.size:=AAh I.ok.above (Nat.le_of_lt I.lt)
theorem Inv.nofs(I:Inv X pins σ H s)(h:s.heap.objs.size<=a):a∉X.fs:=λhb=>by
 obtain⟨_,o,ho,_⟩:=I.ok.funs.mem hb
 exact absurd (AAQ (AAD ho) (AAh I.sz h)) (AAe _)
theorem Inv.cne(I:Inv X pins σ H s):∀x c,X.env.cells.lookup x=some c->c≠X.env.locals:=λx c e z=>by
 obtain⟨v,o,ho,hd⟩:=I.cell x c e
 obtain⟨m,⟨o',es,ep,ho',hd',_⟩,_⟩:=I.loc
 rw[z,ho']at ho;cases ho;rw[hd']at hd;cases hd
theorem Inv.funs(I:Inv X pins σ H s):s.heap.FunFrames X.base X.outer:=by
 have all:∀(l:List Env),(∀b∈frs l,b∈X.fs)->X.s₀.heap.FunFrames X.base l->s.heap.FunFrames X.base l:=by
  intro l
  induction l with
  | nil=>intro _ _;trivial
  | cons env r ih =>
   intro hs hl
   obtain⟨hk,⟨L,o,hf,hn,ho,hd⟩,hr⟩:=hl
   have hL:L∈X.fs:=hs L (by unfold frs;rw[ADJ,hf];exact AAO)
   obtain⟨sl,e⟩:=I.base.slot L o ho (I.ok.frf L hL) hL λz=>I.ok.exfs L z hL
   exact⟨hk,⟨L,_,hf,hn,e,hd⟩,ih (λb hb=>hs b (by unfold frs;rw[ADJ,hf];exact AA9 _ hb)) hr⟩
 exact all X.outer (λ_ hb=>hb) I.ok.funs
theorem Inv.stack(I:Inv X pins σ H s):s.heap.FunFrames X.base X.stack:=by
 rcases I.ok.stk with e | ⟨e,hf⟩
 ·rw[e];exact I.funs
 ·rw[e]
  obtain⟨m,hn,_⟩:=I.loc
  refine .cons (by rw[I.ok.kind];decide) hf hn ?_ I.funs
  exact AE7 (AAh I.ok.bsz I.ok.above)
theorem Inv.stkSub(I:Inv X pins σ H s):∀b∈frs X.stack,b∈X.env.locals::X.fs:=λb hb=>by
 rcases I.ok.stk with e | ⟨e,hf⟩
 ·rw[e]at hb;exact AA9 _ hb
 ·rw[e]at hb
  unfold frs at hb
  rw[ADJ,hf]at hb
  exact hb
theorem Inv.stkFree(I:Inv X pins σ H s):∀b∈frs X.stack,H b=none:=λb hb=>by
 rcases AAL.mp (I.stkSub b hb)with e | hb
 ·rw[e];exact I.free
 ·obtain⟨_,o,ho,_⟩:=I.ok.funs.mem hb
  exact I.base.free b o ho (I.ok.frf b hb) λz=>I.ok.exfs b z hb
theorem Inv.step{g':Array GenState}{t':Nat}{d':Drawn}{ch:List Addr}(I:Inv X pins σ H s)
  (hch:∀b∈ch,(b∈X.ex\/X.s₀.heap.objs.size<=b)/\b≠X.env.locals/\(∀x c,X.env.cells.lookup x=some c->c≠b)/\∀p∈X.pn++pins,p.1≠b)
  (keep:∀b o,b≠X.env.locals->b∉X.fs->b∉ch->s.heap.get? b=some o->H b=none->h'.get? b=some o)
  (slot:∀b o,b≠X.env.locals->b∈X.fs->b∉ch->s.heap.get? b=some o->H b=none->∃sl,h'.get? b=some { o with slots:=sl }) (free:∀b o,b∉ch->s.heap.get? b=some o->H b=none->H' b=none)
  (there:∀b o,b∉ch->s.heap.get? b=some o->∃o',h'.get? b=some o')
  (tups:∀b xs,H b=some (.tup xs)->H' b=some (.tup xs)) (frzs:∀b o u,H b=some (.frz o u)->H' b=some (.frz o u)) (tbls:∀b ps,H b=some (.tbl ps)->∃more,H' b=some (.tbl (ps++more)))
  (ns:∀m,s.heap.Ns X.env.locals m->h'.Ns X.env.locals m) (hok:HOk X.prog X.w H' h') (hg:AllBare g') :
  Inv X pins σ H' { s with heap:=h',gens:=g',drawn:=d',toks:=t' }:=by
 have neL:∀b o,X.s₀.heap.get? b=some o->b≠X.env.locals:=λb o e=>AAH (AAQ (AAD e) I.ok.above)
 have neC:∀b o,X.s₀.heap.get? b=some o->b∉X.ex->b∉ch:=λb o e hx hb=>by
  rcases(hch b hb).1 with z | z
  ·exact hx z
  ·exact absurd (AAQ (AAD e) z) (AAe _)
 have cellK:∀x c,X.env.cells.lookup x=some c->∀v,s.heap.IsCell c v->h'.IsCell c v:=λx c e v ⟨o,ho,hd⟩=>by
  have nch:c∉ch:=λz=>(hch c z).2.2.1 x c e rfl
  by_cases hc:c∈X.fs
  ·obtain⟨sl,q⟩:=slot c o (I.cne x c e) hc nch ho (I.freeC x c e)
   exact⟨_,q,hd⟩
  ·exact⟨o,keep c o (I.cne x c e) hc nch ho (I.freeC x c e),hd⟩
 refine⟨I.ok,I.os,hg,⟨λb o e n hb hx=>?_,λb o e n hb hx=>?_,λb o e n hx=>?_,λb o e hx=>?_,λb xs e=>tups b xs (I.base.tups b xs e),λb o xs e=>frzs b o xs (I.base.frzs b o xs e),λb ps e=>?_⟩,?_,λx c e=>?_,?_,λx c e=>?_,λp hp=>?_,hok,I.len⟩
 ·exact keep b o (neL b o e) hb (neC b o e hx) (I.base.keep b o e n hb hx) (I.base.free b o e n hx)
 ·obtain⟨sl,e1⟩:=I.base.slot b o e n hb hx
  obtain⟨sl',e2⟩:=slot b _ (neL b o e) hb (neC b o e hx) e1 (I.base.free b o e n hx)
  exact⟨sl',e2⟩
 ·obtain⟨o',e1⟩:=I.base.there b o e hx
  exact free b o' (neC b o e hx) e1 (I.base.free b o e n hx)
 ·obtain⟨o',e1⟩:=I.base.there b o e hx
  exact there b o' (neC b o e hx) e1
 ·obtain⟨m1,e1⟩:=I.base.tbls b ps e
  obtain⟨m2,e2⟩:=tbls b _ e1
  exact⟨m1++m2,by rw[e2,Array.append_assoc]⟩
 ·obtain⟨m,hn,hl⟩:=I.loc
  refine⟨m,ns m hn,λi x v e1 e2 e3=>?_⟩
  obtain⟨u,r,l⟩:=hl i x v e1 e2 e3
  refine⟨u,r,?_⟩
  rcases l with l | ⟨k,c,e,z⟩
  ·exact .inl l
  ·exact .inr ⟨k,c,e,cellK x c e _ z⟩
 ·obtain⟨v,z⟩:=I.cell x c e
  exact⟨v,cellK x c e v z⟩
 ·obtain⟨m,⟨o,_,_,ho,_⟩,_⟩:=I.loc
  exact free _ o (λz=>(hch _ z).2.1 rfl) ho I.free
 ·obtain⟨v,o,ho,hd⟩:=I.cell x c e
  exact free c o (λz=>(hch c z).2.2.1 x c e rfl) ho (I.freeC x c e)
 ·obtain⟨e,n,ne,nf,d⟩:=I.pin p hp
  have nch:p.1∉ch:=λz=>(hch p.1 z).2.2.2 p hp rfl
  exact⟨keep p.1 p.2 ne nf nch e n,free p.1 p.2 nch e n,ne,nf,d⟩
theorem Inv.un{t':Nat}(I:Inv X pins σ H s)(u:Un X.fs [] H H' s.heap h')(hok:HOk X.prog X.w H' h'):Inv X pins σ H' { s with heap:=h',toks:=t' }:=by
 obtain⟨m,⟨o,es,ep,ho,r⟩,_⟩:=id I.loc
 obtain⟨sl,hL⟩:=u.any ho I.free (by simp)
 exact I.step (g':=s.gens) (d':=s.drawn) (ch:=[]) (λ_ z=>nomatch z) (λb o _ hb _ e n=>u.keep b o e n hb (by simp)) (λb o _ hb _ e n=>u.slot b o e n hb (by simp)) (λb o _ e n=>u.free b o e n (by simp)) (λb o _ e=>u.there b o e (by simp)) u.tups u.frzs u.tbls (λm' hm=>by
  obtain⟨o',es',ep',ho',r'⟩:=hm
  rw[ho]at ho';cases ho'
  exact⟨_,es',ep',hL,r'⟩) hok I.bare
theorem Inv.call{g':Array GenState}{t':Nat}{d':Drawn}{ch:List Addr}(I:Inv X pins σ H s)(u:Un (frs X.stack) ch H H' s.heap h')(hok:HOk X.prog X.w H' h')(hg:AllBare g')
  (hch:∀b∈ch,(b∈X.ex\/X.s₀.heap.objs.size<=b)/\b≠X.env.locals/\(∀x c,X.env.cells.lookup x=some c->c≠b)/\∀p∈X.pn++pins,p.1≠b) :
  Inv X pins σ H' { s with heap:=h',gens:=g',drawn:=d',toks:=t' }:=by
 obtain⟨m,⟨o,es,ep,ho,r⟩,_⟩:=id I.loc
 obtain⟨sl,hL⟩:=u.any ho I.free λz=>(hch _ z).2.1 rfl
 exact I.step (ch:=ch) hch (λb o hL hb hc e n=>u.keep b o e n (λz=>(AAL.mp (I.stkSub b z)).elim hL hb) hc) (λb o _ _ hc e n=>u.any e n hc) (λb o hc e n=>u.free b o e n hc) (λb o hc e=>u.there b o e hc) u.tups u.frzs u.tbls (λm' hm=>by
  obtain⟨o',es',ep',ho',r'⟩:=hm
  rw[ho]at ho';cases ho'
  exact⟨_,es',ep',hL,r'⟩) hok hg
theorem Inv.turned{t':Nat}{it:Addr}(I:Inv X pins σ H s)(k:∀b o,b≠it->s.heap.get? b=some o->h'.get? b=some o)(hn:H it=none)(hL:it≠X.env.locals)
  (h1:it∈X.ex\/X.s₀.heap.objs.size<=it) (h2:∀x c,X.env.cells.lookup x=some c->c≠it) (h3:∀p∈X.pn++pins,p.1≠it):Inv X pins σ H { s with heap:=h',toks:=t' }:=by
 have nit:∀b u,H b=some u->b≠it:=λb u e z=>by rw[z,hn]at e;cases e
 refine I.step (g':=s.gens) (d':=s.drawn) (ch:=[it]) (λb hb=>?_) (λb o _ _ hc e _=>k b o (λz=>hc (by simp[z])) e) (λb o _ _ hc e _=>⟨o.slots,k b o (λz=>hc (by simp[z])) e⟩) (λ_ _ _ _ n=>n)
  (λb o hc e=>⟨o,k b o (λz=>hc (by simp[z])) e⟩) (λ_ _ e=>e) (λ_ _ _ e=>e) (λb ps e=>⟨#[],by rw[e];simp⟩) (λm hm=>?_) (λb u e=>?_) I.bare
 ·have e:b=it:=by simpa using hb
  subst e
  exact⟨h1,hL,h2,h3⟩
 ·obtain⟨o,es,ep,ho,r⟩:=hm
  exact⟨o,es,ep,k _ o (ABG hL) ho,r⟩
 ·refine(I.hok b u e).stay (λc v hc q=>k c v ?_ q) (λ_ q=>q) λ_ _ q=>q
  rcases hc with z | z
  ·rw[z];exact nit b u e
  ·exact nit c _ z
theorem Inv.tok(I:Inv X pins σ H s)(t:Nat):Inv X pins σ H { s with toks:=t }:=I.un (h':=s.heap) (t':=t) Un.refl I.hok
theorem Inv.kept(I:Inv X pins σ H s)(k:∀b u,s.heap.get? b=some u->h'.get? b=some u):Inv X pins σ H { s with heap:=h',toks:=t' }:=I.un (Un.kept k) (I.hok.kept k)
theorem Inv.laid(I:Inv X pins σ H s)(k:∀b u,s.heap.get? b=some u->h'.get? b=some u)(hp:s.heap.objs.size<=a)(new:aY X.prog X.w (upd H a o) h' a o) :
  Inv X pins σ (upd H a o) { s with heap:=h',toks:=t' }:=I.un (Un.laid k hp (I.hok.fresh hp)) (I.hok.laid k hp new)
theorem Inv.write(I:Inv X pins σ H s)(mu:Mut (H x))(he:e=x\/H e=some (.own x))(k:∀b u,b≠e->s.heap.get? b=some u->h'.get? b=some u)(heo:∃u,h'.get? e=some u)
  (new:aY X.prog X.w (upd H x o) h' x o):Inv X pins σ (upd H x o) { s with heap:=h',toks:=t' }:=I.un (Un.write mu he k heo) (I.hok.write mu he k heo new)
theorem Inv.pins_of(I:Inv X pins σ H s)(h:∀p∈pins',s.heap.get? p.1=some p.2/\H p.1=none/\p.1≠X.env.locals/\p.1∉X.fs/\∀v,p.2.data≠.cell v):Inv X pins' σ H s :=
 ⟨I.ok,I.os,I.bare,I.base,I.loc,I.cell,I.free,I.freeC,λp hp=>(AAT.mp hp).elim (λz=>I.pin p (ABP _ z)) (h p),I.hok,I.len⟩
theorem jM{N:List Str}(hN:N.Nodup){i j:Nat}{x:Str}(a:N[i]?=some x)(b:N[j]?=some x):i=j:=by
 obtain⟨h1,e1⟩:=AA5.mp a
 obtain⟨h2,e2⟩:=AA5.mp b
 exact(List.getElem_inj hN).mp (e1.trans e2.symm)
theorem tx{M:Model}{A:Around}{E:Value->Shared->Prop}{i:Nat}{x:Str}{v:V}{u:Value}{Q:Unit->Shared->Prop}(I:Inv X pins σ H s)(hN:X.N.Nodup)(hi:X.N[i]?=some x)(hx:Loc X.env.scope x)(r:aR v u)
  (h:∀s',Inv X pins (σ.set i (some v)) H s'->(∃a,AB9 a s.heap s'.heap/\(a=X.env.locals\/X.env.cells.lookup x=some a))->Q () s') (hf:X.fn x=true\/X.env.scope.names.lookup x=some .local:=by first | exact .inl rfl | exact .inr rfl | assumption):wpAny M A (storeName X.env x u) Q E s:=by
 obtain⟨m,hn,hl⟩:=id I.loc
 have hcls:(X.env.scope.kind==.class||(X.env.scope.kind==.module&&X.env.locals != X.env.globals))=false:=by rw[I.ok.kind];rfl
 have hiσ:i<σ.length:=by rw[I.len];exact(AA5.mp hi).1
 have cne:=I.cne
 have tracked:∀{a:Addr}{h':Heap},(∃o,s.heap.get? a=some o/\H a=none)->AB9 a s.heap h'->HOk X.prog X.w H h':=λ{a h'} ha hs b ob e=>by
  obtain⟨_,_,hfree⟩:=ha
  refine(I.hok b ob e).stay (λc w' hc q=>(hs.2 c ?_).trans q) (λ_ q=>q) λ_ _ q=>q
  rintro rfl
  rcases hc with rfl | hc
  ·rw[hfree]at e;cases e
  ·rw[hfree]at hc;cases hc
 rcases hx with hk | hk
 ·refine wpAny_storeName_local hk hn (λh' hn' hs=>?_) hcls
  obtain⟨oL,_,_,hoL,_⟩:=id hn
  refine h _ ⟨I.ok,I.os,I.bare,⟨λb o e n hb hx=>?_,λb o e n hb hx=>?_,I.base.free,λb o e hx=>?_,I.base.tups,I.base.frzs,I.base.tbls⟩,⟨_,hn',λj y v' e1 e2 e3=>?_⟩,λy c e=>?_,I.free,I.freeC,λp hp=>?_,tracked ⟨oL,hoL,I.free⟩ hs,by simpa using I.len⟩ ⟨_,hs,.inl rfl⟩
  ·exact(hs.2 b (AAH (AAQ (AAD e) I.ok.above))).trans (I.base.keep b o e n hb hx)
  ·obtain⟨sl,e1⟩:=I.base.slot b o e n hb hx
   exact⟨sl,(hs.2 b (AAH (AAQ (AAD e) I.ok.above))).trans e1⟩
  ·obtain⟨o',e1⟩:=I.base.there b o e hx
   exact⟨o',(hs.2 b (AAH (AAQ (AAD e) I.ok.above))).trans e1⟩
  ·by_cases hj:j=i
   ·subst hj
    rw[hi]at e1;cases e1
    rw[AAn hiσ]at e2
    cases e2
    exact⟨u,r,.inl ⟨hk,by simp⟩⟩
   ·rw[AAf (ABG hj)]at e2
    obtain⟨u',r',q⟩:=hl j y v' e1 e2 e3
    refine⟨u',r',?_⟩
    rcases q with⟨k,e⟩|⟨k,c,e,z⟩
    ·refine .inl ⟨k,?_⟩
     have:y≠x:=λe=>hj (jM hN e1 (e ▸ hi))
     simp[this,e]
    ·exact .inr ⟨k,c,e,z.sameBut hs (cne y c e)⟩
  ·obtain⟨w',z⟩:=I.cell y c e
   exact⟨w',z.sameBut hs (cne y c e)⟩
  ·obtain⟨e,n,ne,nf,d⟩:=I.pin p hp
   exact⟨(hs.2 p.1 ne).trans e,n,ne,nf,d⟩
 ·have hfn:X.fn x=true:=by
   rcases hf with z | z
   ·exact z
   ·rw[z]at hk;cases hk
  obtain⟨c,hc⟩:=I.ok.has x (.inl hk)
  obtain⟨w',z⟩:=I.cell x c hc
  refine wpAny_storeName_cell I.ok.kind hk hc z (λh' hc' hs=>?_)
  obtain⟨oc,hoc,hocd⟩:=id z
  refine h { s with heap:=h' } ⟨I.ok,I.os,I.bare,⟨λb o e n hb hx=>?_,λb o e n hb hx=>?_,I.base.free,λb o e hx=>?_,I.base.tups,I.base.frzs,I.base.tbls⟩,⟨m,hn.sameBut hs (ABG (cne x c hc)),λj y v' e1 e2 e3=>?_⟩,λy c' e=>?_,I.free,I.freeC,λp hp=>?_,tracked ⟨oc,hoc,I.freeC x c hc⟩ hs,by simpa using I.len⟩ ⟨c,hs,.inr hc⟩
  ·exact(hs.2 b (AAH (AAQ (AAD e) (I.ok.cab x c hfn hc)))).trans (I.base.keep b o e n hb hx)
  ·obtain⟨sl,e1⟩:=I.base.slot b o e n hb hx
   exact⟨sl,(hs.2 b (AAH (AAQ (AAD e) (I.ok.cab x c hfn hc)))).trans e1⟩
  ·obtain⟨o',e1⟩:=I.base.there b o e hx
   exact⟨o',(hs.2 b (AAH (AAQ (AAD e) (I.ok.cab x c hfn hc)))).trans e1⟩
  ·by_cases hj:j=i
   ·subst hj
    rw[hi]at e1;cases e1
    rw[AAn hiσ]at e2
    cases e2
    exact⟨u,r,.inr ⟨.inl hk,c,hc,hc'⟩⟩
   ·rw[AAf (ABG hj)]at e2
    obtain⟨u',r',q⟩:=hl j y v' e1 e2 e3
    refine⟨u',r',?_⟩
    rcases q with q | ⟨k,c',e,z'⟩
    ·exact .inl q
    ·refine .inr ⟨k,c',e,z'.sameBut hs ?_⟩
     rintro rfl
     exact hj (jM hN e1 (I.ok.inj _ _ _ e hc ▸ hi))
  ·by_cases hcc:c'=c
   ·subst hcc;exact⟨_,hc'⟩
   ·obtain⟨w2,z2⟩:=I.cell y c' e
    exact⟨w2,z2.sameBut hs hcc⟩
  ·obtain⟨e,n,ne,nf,d⟩:=I.pin p hp
   refine⟨(hs.2 p.1 ?_).trans e,n,ne,nf,d⟩
   intro q
   rw[q,hoc]at e
   have q':oc=p.2:=AAM e
   exact d w' (by rw[<-q'];exact hocd)
theorem fZ(I:Inv X pins σ H s)(hN:X.N.Nodup)(hi:X.N[i]?=some x)(hx:Loc X.env.scope x)(r:aR v u)
  (h:∀s',Inv X pins (σ.set i (some v)) H s'->Q () s') (hf:X.fn x=true\/X.env.scope.names.lookup x=some .local:=by first | exact .inl rfl | exact .inr rfl | assumption):wpAny M A (storeName X.env x u) Q E s :=
 tx I hN hi hx r (λs' I' _=>h s' I') hf
theorem Inv.call'(I:Inv X pins σ H s)(ho:s'.os=s.os)(u:Un (frs X.stack) ch H H' s.heap s'.heap)(hok:HOk X.prog X.w H' s'.heap)(hg:AllBare s'.gens)
  (hch:∀b∈ch,(b∈X.ex\/X.s₀.heap.objs.size<=b)/\b≠X.env.locals/\(∀x c,X.env.cells.lookup x=some c->c≠b)/\∀p∈X.pn++pins,p.1≠b):Inv X pins σ H' s':=by
 obtain⟨h',g',d',t',o'⟩:=s'
 have e:o'=s.os:=ho
 subst e
 exact I.call (g':=g') (t':=t') (d':=d') u hok hg hch
abbrev XK:=Value->Option Addr->Hp->Prop
noncomputable abbrev St:=List (Option V)
abbrev VK:=V->Hp->Prop
abbrev TE:=St->Hp->VK->Prop
abbrev TT:=St->Hp->(Bool->Hp->Prop)->Prop
abbrev TA:=St->Hp->(List V->Hp->Prop)->Prop
structure Ends where
 nx:St->Hp->Prop
 rt:VK
 bk:St->Hp->Prop:=λ_ _=>False
 ct:St->Hp->Prop:=λ_ _=>False
abbrev TS:=Ends->St->Hp->Prop
inductive EP(X:Cx)(pins:List (Addr×Obj))(σ:St)(Q:VK)(u:Value)(s':Shared):Prop
 | mk (v:_) (H':_) (f0:Inv X pins σ H' s') (f1:aR v u) (f2:Q v H')
inductive TP(X:Cx)(pins:List (Addr×Obj))(σ:St)(Q:Bool->Hp->Prop)(b:Bool)(s':Shared):Prop
 | mk (H':_) (f0:Inv X pins σ H' s') (f1:Q b H')
inductive AP(X:Cx)(pins:List (Addr×Obj))(σ:St)(Q:List V->Hp->Prop)(us:List Value)(s':Shared):Prop
 | mk (vs:_) (H':_) (f0:Inv X pins σ H' s') (f1:ay vs us) (f2:Q vs H')
def SP(X:Cx)(pins:List (Addr×Obj))(D:Ends)(f:Flow)(s':Shared):Prop :=
 match f with
 | .next=>∃σ' H',Inv X pins σ' H' s'/\D.nx σ' H'
 | .brk=>∃σ' H',Inv X pins σ' H' s'/\D.bk σ' H'
 | .cont=>∃σ' H',Inv X pins σ' H' s'/\D.ct σ' H'
 | .ret u=>∃v σ' H',Inv X pins σ' H' s'/\aR v u/\D.rt v H'
def PE(X:Cx)(e:Expr)(t:TE):Prop :=
 ∀(pins:List (Addr×Obj)) (s:Shared) (σ:St) (H:Hp) (Q:VK),Inv X pins σ H s->t σ H Q->wpAny (model X.prog X.w) X.A (eval e X.env) (EP X pins σ Q) X.xe s
def PT(X:Cx)(e:Expr)(t:TT):Prop :=
 ∀(pins:List (Addr×Obj)) (s:Shared) (σ:St) (H:Hp) (Q:Bool->Hp->Prop),Inv X pins σ H s->t σ H Q->wpAny (model X.prog X.w) X.A (isTrue e X.env (eval e X.env)) (TP X pins σ Q) X.xe s
def PW(X:Cx)(e:Expr)(t:TT):Prop :=
 ∀(whole:Sem Value) (pins:List (Addr×Obj)) (s:Shared) (σ:St) (H:Hp) (Q:Bool->Hp->Prop),Inv X pins σ H s->t σ H Q->wpAny (model X.prog X.w) X.A (isTrue e X.env whole) (TP X pins σ Q) X.xe s
theorem PW.pt(h:PW X e t):PT X e t:=h _
def PA(X:Cx)(es:List Expr)(t:TA):Prop :=
 ∀(pos:Pos) (pins:List (Addr×Obj)) (s:Shared) (σ:St) (H:Hp) (Q:List V->Hp->Prop),Inv X pins σ H s->t σ H Q->wpAny (model X.prog X.w) X.A (spliced (backTo pos (starEach es X.env))) (AP X pins σ Q) X.xe s
def PS(X:Cx)(st:Stmt)(t:TS):Prop :=
 ∀(pins:List (Addr×Obj)) (s:Shared) (σ:St) (H:Hp) (D:Ends),Inv X pins σ H s->t D σ H->wpAny (model X.prog X.w) X.A (exec st X.env) (SP X pins D) X.xe s
def PSs(X:Cx)(st:List Stmt)(t:TS):Prop :=
 ∀(pins:List (Addr×Obj)) (s:Shared) (σ:St) (H:Hp) (D:Ends),Inv X pins σ H s->t D σ H->wpAny (model X.prog X.w) X.A (execs st X.env) (SP X pins D) X.xe s
theorem thn{α:Type}{t:Sem α}{Q Q':α->Shared->Prop}{M:Model}{A:Around}{E:Value->Shared->Prop}{s:Shared}(h:wpAny M A t Q E s)(hQ:∀a s,Q a s->Q' a s):wpAny M A t Q' E s:=AAl h hQ λ_ _ x=>x
section
variable{X:Cx}
def tVar(i:Nat):TE:=λσ H Q=>∃v,σ[i]?=some (some v)/\Q v H
def tC(v:V):TE:=λ_ H Q=>Q v H
theorem jb(hN:X.N[i]?=some x)(hv:Vis X.env.scope x)(hd:(x==("__debug__":Str))=false:=by decide)(hcd:(x==("__classdict__":Str))=false:=by decide):PE X (.Name x pos) (tVar i):=by
 intro pins s σ H Q I h
 obtain⟨v,e,h⟩:=h
 obtain⟨m,hn,hl⟩:=I.loc
 obtain⟨u,r,l⟩:=hl i x v hN e hv
 have fin:EP X pins σ Q u s:=⟨v,H,I,r,h⟩
 rcases l with⟨hk,hm⟩|⟨hk,c,hc,hcell⟩
 ·exact wpAny_Name (wpAny_loadName_local I.ok.kind hk hn hm fin) hd
 ·rcases hk with hk | hk
  ·exact wpAny_Name (wpAny_loadName_cell I.ok.kind hk hc hcell fin) hd
  ·exact wpAny_Name (wpAny_loadName_free I.ok.kind hk hc hcell fin hcd) hd
theorem Dz{i j pos}:PE X (.Constant (.int i) j pos) (tC (.int i)):=λ_ _ _ H _ I h=>wpAny_Constant_int ⟨.int i,H,I.tok _,⟨_,rfl⟩,h⟩
theorem DC{b j pos}:PE X (.Constant (.bool b) j pos) (tC (.bl b)):=λ_ _ _ H _ I h=>Constant_bool ⟨.bl b,H,I,rfl,h⟩
theorem Dw{j pos}:PE X (.Constant .none j pos) (tC .non):=λ_ _ _ H _ I h=>Constant_none ⟨.non,H,I,rfl,h⟩
theorem Dt{x j pos}:PE X (.Constant (.str x) j pos) (tC (.str x)):=λ_ _ _ H _ I h=>Calls.Constant_str ⟨.str x,H,I.tok _,⟨_,rfl⟩,h⟩
def Gl(X:Cx)(x:Str):Prop:=X.env.kindOf x=some .globalImplicit
theorem fi(I:Inv X pins σ H s)(hg:Gl X x)(hm:X.mg x=some u)(h:Q u s)
  (hd:(x==("__debug__":Str))=false:=by decide):wpAny (model X.prog X.w) X.A (eval (.Name x pos) X.env) Q E s :=
 Calls.Name_function_global I.ok.kind hg (Calls.loadGlobal_global (by rw[I.ok.glob];exact I.mod.glob.keeps I.bk) hm h) hd
theorem fB(I:Inv X pins σ H s)(hg:Gl X x)(hm:X.mg x=none)(hv:bootBuiltins x=some u)(h:Q u s)
  (hn:x≠"__name__":=by decide) (hd:(x==("__debug__":Str))=false:=by decide):wpAny (model X.prog X.w) X.A (eval (.Name x pos) X.env) Q E s:=by
 obtain⟨mb,h1,h2⟩:=I.mod.blt
 exact Calls.Name_function_global I.ok.kind hg (Calls.loadGlobal_builtin (by rw[I.ok.glob];exact I.mod.glob.keeps I.bk) hm (by rw[I.ok.blt];exact h1.keeps I.bk) ((h2 x hn).trans hv) h) hd
theorem Af(hg:Gl X x)(hm:X.mg x=some u)(r:aR v u)(hd:(x==("__debug__":Str))=false:=by decide):PE X (.Name x pos) (tC v) :=
 λ_ _ _ H _ I h=>fi I hg hm ⟨v,H,I,r,h⟩ hd
theorem ua(hg:Gl X x)(hm:X.mg x=none)(hv:bootBuiltins x=some u)(r:aR v u)(hn:x≠"__name__":=by decide)(hd:(x==("__debug__":Str))=false:=by decide):PE X (.Name x pos) (tC v) :=
 λ_ _ _ H _ I h=>fB I hg hm hv ⟨v,H,I,r,h⟩ hn hd
variable{a b:Expr}{ta tb:TE}{pos:Pos}
def tB(t:TE):TT:=λσ H Q=>t σ H λx H1=>∃c,x=.bl c/\Q c H1
theorem Dh(h:PE X e t)(he:∀whole,isTrue e X.env whole=(do let v <-whole;standAt e.pos;holding [v] (truthy v)):=by intro _;rfl):PT X e (tB t):=by
 intro pins s σ H Q I hw
 refine isTrue_plain (thn (h pins s σ H _ I hw) ?_) (he _)
 rintro v s1 ⟨x,H1,I1,r1,q1⟩
 obtain⟨d,rfl,q⟩:=q1
 cases r1
 exact ACR ⟨H1,I1,q⟩
variable{tA tB':TT}{aP:List Expr}
def tAnd(t u:TT):TT:=λσ H Q=>t σ H λc H1=>if c=true then u σ H1 Q else Q false H1
def tOr(t u:TT):TT:=λσ H Q=>t σ H λc H1=>if c=true then Q true H1 else u σ H1 Q
def tNot(t:TT):TT:=λσ H Q=>t σ H λc H1=>Q (!c) H1
theorem zS(ha:PT X a tA):PW X (.BoolOp .And [a] pos) tA:=by
 intro wh pins s σ H Q I h
 refine isTrue_and (thn (ha pins s σ H Q I h) λc s1 e=>?_)
 cases c with
 | true=>exact isTrue_and_nil e
 | false=>exact e
theorem Df(ha:PT X a tA):PW X (.BoolOp .Or [a] pos) tA:=by
 intro wh pins s σ H Q I h
 refine isTrue_or (thn (ha pins s σ H Q I h) λc s1 e=>?_)
 cases c with
 | false=>exact isTrue_or_nil e
 | true=>exact e
theorem Dg(ha:PT X a tA)(hb:PW X (.BoolOp .And (b::aP) pos) tB'):PW X (.BoolOp .And (a::b::aP) pos) (tAnd tA tB'):=by
 intro wh pins s σ H Q I h
 refine isTrue_and (thn (ha pins s σ H _ I h) ?_)
 rintro c s1 ⟨H1,I1,q1⟩
 cases c with
 | true=>exact hb wh pins s1 σ H1 Q I1 q1
 | false=>exact⟨H1,I1,q1⟩
theorem pw_or(ha:PT X a tA)(hb:PW X (.BoolOp .Or (b::aP) pos) tB'):PW X (.BoolOp .Or (a::b::aP) pos) (tOr tA tB'):=by
 intro wh pins s σ H Q I h
 refine isTrue_or (thn (ha pins s σ H _ I h) ?_)
 rintro c s1 ⟨H1,I1,q1⟩
 cases c with
 | true=>exact⟨H1,I1,q1⟩
 | false=>exact hb wh pins s1 σ H1 Q I1 q1
theorem Di(ha:PT X a tA):PT X (.UnaryOp .Not a pos) (tNot tA):=by
 intro pins s σ H Q I h
 refine isTrue_not (thn (ha pins s σ H (λc H1=>Q (!c) H1) I h) ?_)
 rintro c s1 ⟨H1,I1,q1⟩
 exact⟨H1,I1,q1⟩
def tAndV(ta tb:TE):TE:=λσ H Q=>ta σ H λx H1=>∃c,x=.bl c/\if c=true then tb σ H1 Q else Q (.bl false) H1
def tNotV(ta:TE):TE:=λσ H Q=>ta σ H λx H1=>∃c,x=.bl c/\Q (.bl (!c)) H1
theorem Du{op}(h:PE X a t):PE X (.BoolOp op [a] pos) t:=λpins s σ H Q I hw=>BoolOp_one (h pins s σ H Q I hw)
theorem DF(ha:PE X a ta)(hb:PE X (.BoolOp .And (b::aP) pos) tb):PE X (.BoolOp .And (a::b::aP) pos) (tAndV ta tb):=by
 intro pins s σ H Q I h
 refine BoolOp_and (thn (ha pins s σ H _ I h) ?_)
 rintro v s1 ⟨x,H1,I1,r1,q1⟩
 obtain⟨c,rfl,q1⟩:=q1
 cases r1
 refine ACR ?_
 cases c with
 | true=>exact hb pins s1 σ H1 Q I1 q1
 | false=>exact⟨.bl false,H1,I1,rfl,q1⟩
theorem Dv(ha:PE X a ta):PE X (.UnaryOp .Not a pos) (tNotV ta):=by
 intro pins s σ H Q I h
 refine UnaryOp_ (thn (ha pins s σ H _ I h) ?_)
 rintro v s1 ⟨x,H1,I1,r1,q1⟩
 obtain⟨c,rfl,q1⟩:=q1
 cases r1
 exact not_of (ACR ⟨.bl (!c),H1,I1,rfl,q1⟩)
end
def SqL(K:AA1)(H:Hp)(a:Addr)(xs:List V):Prop :=
 Rd H a (.lst xs) \/
  ∃(o:Obj) (its:Array Value) (n:Nat),K.lookup a=some o/\o.cls=.type "list"/\o.dict=none/\o.data=.seq its n/\its.size<=sizeLine/\ay xs its.toList
def SqT(K:AA1)(H:Hp)(a:Addr)(xs:List V):Prop :=
 Rd H a (.tup xs) \/
  ∃(o:Obj) (its:Array Value) (n:Nat),K.lookup a=some o/\o.cls=.type "tuple"/\o.dict=none/\o.data=.seq its n/\its.size<=sizeLine/\ay xs its.toList
noncomputable def absV:Value->Option V
 | .none=>some .non
 | .bool b=>some (.bl b)
 | .int i _=>some (.int i)
 | .str x _=>some (.str x)
 | .bytes b _=>some (.byt b)
 | .float b _=>some (.flt b)
 | .ref a=>some (.ref a)
 | .type n=>some (.ty n)
 | _=>none
theorem aR.abs(r:aR x u):absV u=some x:=by
 cases x with
 | non=>cases r;rfl
 | bl _=>cases r;rfl
 | int _=>obtain⟨t,rfl⟩:=r;rfl
 | str _=>obtain⟨t,rfl⟩:=r;rfl
 | byt _=>obtain⟨t,rfl⟩:=r;rfl
 | flt _=>obtain⟨t,rfl⟩:=r;rfl
 | ref _=>cases r;rfl
 | ty _=>cases r;rfl
theorem aR.inj(r:aR x u)(q:aR y u):x=y:=AAM (r.abs.symm.trans q.abs)
theorem ay.inj(h:ay xs us)(h':ay ys us):xs=ys:=by
 induction h generalizing ys with
 | nil=>cases h';rfl
 | cons r t ih=>cases h' with
  | cons r' t'=>rw[r.inj r',ih t']
theorem SqT.of{K:AA1}(h:H a=some (.tup xs)):SqT K H a xs:=.inl (.inl h)
theorem Inv.list(I:Inv X pins σ H s)(h:SqL X.K H a xs):∃its:List Value,ay xs its/\PlainL s.heap a its.toArray/\xs.length<=sizeLine:=by
 rcases h with h | ⟨o,its,n,hk,hc,hd,hs,hz,r⟩
 ·obtain⟨z,its,n,r,e⟩:=h.ok I.hok
  exact⟨its,r,⟨_,n,e,rfl,rfl,rfl⟩,z⟩
 ·refine⟨its.toList,r,⟨o,n,I.kIn a o hk,hc,hd,by simpa using hs⟩,?_⟩
  have e:=r.length
  simp only[ABg]at e
  lia
theorem Inv.tuple(I:Inv X pins σ H s)(h:SqT X.K H a xs):∃its:List Value,ay xs its/\IsTup s.heap a its.toArray/\xs.length<=sizeLine:=by
 rcases h with h | ⟨o,its,n,hk,hc,_,hs,hz,r⟩
 ·obtain⟨z,its,r,p⟩:=h.ok I.hok
  exact⟨its,r,p.tup,z⟩
 ·refine⟨its.toList,r,⟨o,I.kIn a o hk,hc,n,by simpa using hs⟩,?_⟩
  have e:=r.length
  simp only[ABg]at e
  lia
theorem Inv.list_inj(I:Inv X pins σ H s)(h:SqL X.K H a xs)(h':SqL X.K H a ys):xs=ys:=by
 obtain⟨its,r,⟨o,n,e,_,_,d⟩,_⟩:=I.list h
 obtain⟨its',r',⟨o',n',e',_,_,d'⟩,_⟩:=I.list h'
 rw[e]at e';cases e'
 rw[d]at d'
 injection d' with d1 _
 have:its=its':=by simpa using congrArg Array.toList d1
 subst this
 exact r.inj r'
theorem Inv.tuple_inj(I:Inv X pins σ H s)(h:SqT X.K H a xs)(h':SqT X.K H a ys):xs=ys:=by
 obtain⟨its,r,⟨o,e,_,n,d⟩,_⟩:=I.tuple h
 obtain⟨its',r',⟨o',e',_,n',d'⟩,_⟩:=I.tuple h'
 rw[e]at e';cases e'
 rw[d]at d'
 injection d' with d1 _
 have:its=its':=by simpa using congrArg Array.toList d1
 subst this
 exact r.inj r'
noncomputable abbrev Cx.wish(X:Cx)(E:Value->Shared->Prop):Cx:={ X with xe:=E }
noncomputable abbrev Cx.nox(X:Cx):Cx:=X.wish λ_ _=>False
theorem Cx.Ok.wish{X:Cx}(ok:X.Ok)(E:Value->Shared->Prop):(X.wish E).Ok :=
 ⟨ok.mod,ok.kind,ok.glob,ok.blt,ok.above,ok.inj,ok.has,ok.cab,ok.hd,ok.frames,ok.stk,ok.exf,ok.bs,ok.bsz,ok.noex,ok.exfs,ok.funs,ok.frf⟩
theorem Cx.Ok.unwish{X:Cx}{E:Value->Shared->Prop}(ok:(X.wish E).Ok):X.Ok :=
 ⟨ok.mod,ok.kind,ok.glob,ok.blt,ok.above,ok.inj,ok.has,ok.cab,ok.hd,ok.frames,ok.stk,ok.exf,ok.bs,ok.bsz,ok.noex,ok.exfs,ok.funs,ok.frf⟩
theorem Inv.wish(I:Inv X pins σ H s)(E:Value->Shared->Prop):Inv (X.wish E) pins σ H s:=⟨I.ok.wish E,I.os,I.bare,I.base,I.loc,I.cell,I.free,I.freeC,I.pin,I.hok,I.len⟩
theorem Inv.unwish(I:Inv (X.wish E) pins σ H s):Inv X pins σ H s:=⟨I.ok.unwish,I.os,I.bare,I.base,I.loc,I.cell,I.free,I.freeC,I.pin,I.hok,I.len⟩
theorem SP.unwish(h:SP (X.wish E) pins D f s'):SP X pins D f s':=by
 cases f with
 | next=>obtain⟨σ',H',I,q⟩:=h;exact⟨σ',H',I.unwish,q⟩
 | brk=>obtain⟨σ',H',I,q⟩:=h;exact⟨σ',H',I.unwish,q⟩
 | cont=>obtain⟨σ',H',I,q⟩:=h;exact⟨σ',H',I.unwish,q⟩
 | ret u=>obtain⟨v,σ',H',I,r,q⟩:=h;exact⟨v,σ',H',I.unwish,r,q⟩
theorem PSs.nox{st:List Stmt}{t:TS}(h:PSs X.nox st t):PSs X st t:=λpins s σ H D I hw =>
 AAl (h pins s σ H D (I.wish _) hw) (λ_ _ q=>q.unwish) λ_ _ z=>ABN z
def tNext:TS:=λD σ H=>D.nx σ H
def tSeq(t u:TS):TS:=λD σ H=>t { D with nx:=u D } σ H
theorem zX:PSs X [] tNext:=λ_ _ σ H _ I h=>ACs ⟨σ,H,I,h⟩
theorem pY{X:Cx}{st:Stmt}{aP:List Stmt}{t u:TS}(h1:PS X st t)(h2:PSs X aP u):PSs X (st::aP) (tSeq t u):=by
 intro pins s σ H D I h
 refine AE4 (thn (h1 pins s σ H { D with nx:=u D } I h) λf s1 q=>?_)
 cases f with
 | next =>
  obtain⟨σ',H',I',q⟩:=q
  exact h2 pins s1 σ' H' D I' q
 | ret v=>exact q
 | brk=>exact q
 | cont=>exact q
theorem tQ{X:Cx}{st:Stmt}{t:TS}(h1:PS X st t):PSs X [st] t:=by
 intro pins s σ H D I h
 refine AE4 (thn (h1 pins s σ H D I h) λf s1 q=>?_)
 cases f with
 | next=>exact ACs q
 | ret v=>exact q
 | brk=>exact q
 | cont=>exact q
theorem Inv.quiet(I:Inv X pins σ H s):interactive X.env=false:=by simp[interactive,I.ok.kind]
def tDrop(te:TE):TS:=λD σ H=>te σ H λ_ H1=>D.nx σ H1
theorem zY(he:PE X e te)(hs:swapsWith e none pos.line X.env=pure false:=by rfl):PS X (.Expr e pos) (tDrop te):=by
 intro pins s σ H D I h
 exact wpAny_Expr_any (thn (he pins s σ H _ I h) λv s1 ⟨x,H1,I1,r1,q1⟩=>⟨σ,H1,I1,q1⟩) I.quiet hs
def tRet(te:TE):TS:=λD σ H=>te σ H D.rt
theorem Dk(he:PE X e te):PS X (.Return (some e) pos) (tRet te):=by
 intro pins s σ H D I h
 refine wpAny_Return_some (thn (he pins s σ H _ I h) ?_)
 rintro v s1 ⟨x,H1,I1,r1,q1⟩
 exact⟨x,σ,H1,I1,r1,q1⟩
def tIfS(c:TT)(t u:TS):TS:=λD σ H=>c σ H λb H1=>if b=true then t D σ H1 else u D σ H1
theorem ps_if(hc:PT X c tc)(ha:PSs X a t)(hb:PSs X b u):PS X (.If c a b pos) (tIfS tc t u):=by
 intro pins s σ H D I h
 refine wpAny_If (thn (hc pins s σ H _ I h) ?_)
 rintro d s1 ⟨H1,I1,q1⟩
 cases d with
 | true=>exact ha pins s1 σ H1 D I1 q1
 | false=>exact hb pins s1 σ H1 D I1 q1
abbrev TG:=V->St->Hp->(St->Hp->Prop)->Prop
abbrev TGs:=List V->St->Hp->(St->Hp->Prop)->Prop
def PG(X:Cx)(target:Expr)(t:TG):Prop :=
 ∀(pins:List (Addr×Obj)) (s:Shared) (σ:St) (H:Hp) (v:V) (u:Value) (Q:St->Hp->Prop),Inv X pins σ H s->aR v u->t v σ H Q ->
  wpAny (model X.prog X.w) X.A (assign target X.env u) (λ_ s'=>∃σ' H',Inv X pins σ' H' s'/\Q σ' H') X.xe s
def PGs(X:Cx)(ts:List Expr)(t:TGs):Prop :=
 ∀(pins:List (Addr×Obj)) (s:Shared) (σ:St) (H:Hp) (vs:List V) (us:List Value) (Q:St->Hp->Prop),Inv X pins σ H s->ay vs us->t vs σ H Q ->
  wpAny (model X.prog X.w) X.A (assignInOrder ((assignEach ts X.env).map (·.2)) us) (λ_ s'=>∃σ' H',Inv X pins σ' H' s'/\Q σ' H') X.xe s
abbrev TSet:=V->V->V->Hp->(Hp->Prop)->Prop
def PSet(X:Cx)(t:TSet):Prop :=
 ∀(pins:List (Addr×Obj)) (s:Shared) (σ:St) (H:Hp) (o i v:V) (ov iv u:Value) (Q:Hp->Prop),Inv X pins σ H s->aR o ov->aR i iv->aR v u->t o i v H Q ->
  wpAny (model X.prog X.w) X.A (setItem ov iv u) (λ_ s'=>∃H',Inv X pins σ H' s'/\Q H') X.xe s
def EY(i:Nat):TG:=λv σ H Q=>Q (σ.set i (some v)) H
theorem Ae(hN:X.N.Nodup)(hi:X.N[i]?=some x)(hx:Loc X.env.scope x)(hf:X.fn x=true\/X.env.scope.names.lookup x=some .local:=by first | exact .inl rfl | exact .inr rfl | assumption):PG X (.Name x pos) (EY i):=by
 intro pins s σ H v u Q I r h
 exact wpAny_assign_Name (fZ I hN hi hx r (λs' I'=>⟨_,H,I',h⟩) hf)
def gNil:TGs:=λvs σ H Q=>vs=[]/\Q σ H
def gCons(t:TG)(u:TGs):TGs:=λvs σ H Q=>∃v r,vs=v::r/\t v σ H λσ' H'=>u r σ' H' Q
theorem Ad:PGs X [] gNil:=by
 intro pins s σ H vs us Q I r h
 obtain⟨e,h⟩:=h
 subst e
 cases r
 exact assignInOrder_nil ⟨σ,H,I,h⟩
theorem xb(h1:PG X e t)(h2:PGs X es u)
  (hs:(assignEach (e::es) X.env).map (·.2)=assign e X.env::(assignEach es X.env).map (·.2):=by rfl):PGs X (e::es) (gCons t u):=by
 intro pins s σ H vs us Q I r h
 obtain⟨v,vr,e1,h⟩:=h
 subst e1
 cases r with
 | cons r rr =>
  rw[hs]
  refine assignInOrder_cons (thn (h1 pins s σ H _ _ _ I r h) ?_)
  rintro _ s1 ⟨σ1,H1,I1,q1⟩
  exact h2 pins s1 σ1 H1 _ _ Q I1 rr q1
def gTup(K:AA1)(n:Nat)(t:TGs):TG:=λv σ H Q=>∃a xs,v=.ref a/\SqT K H a xs/\xs.length=n/\t xs σ H Q
theorem Dq(hc:X.calm=true)(h:PGs X es t)
  (hn:(assignEach es X.env).length=n:=by rfl) (hst:(assignEach es X.env).findIdx? (·.1)=none:=by rfl):PG X (.Tuple es k pos) (gTup X.K n t):=by
 intro pins s σ H v u Q I r hw
 obtain⟨a,xs,e1,hq,hl,hw⟩:=hw
 subst e1
 cases r
 obtain⟨its,rv,ht,hz⟩:=I.tuple hq
 refine assign_Tuple_tuple (I.ok.hd hc) ht (by simp[hn,<-hl,rv.length]) hst λh' hx=>?_
 have I1:Inv X pins σ H { s with heap:=h' }:=I.kept (t':=s.toks) λb o e=>hx b o (AAH (AAD e)) e
 exact h pins _ σ H xs _ Q I1 (by simpa using rv) hw
def gSub(to ti:TE)(t:TSet):TG:=λv σ H Q=>to σ H λo H1=>ti σ H1 λi H2=>t o i v H2 λH3=>Q σ H3
theorem Dr(ho:PE X o to)(hi:PE X i ti)(hs:PSet X t)
  (ha:∀v,assign (.Subscript o i pos) X.env v=(do
   let ov <-holding [v] (eval o X.env)
   let iv <-holding [v,ov] (eval i X.env)
   standAt pos
   holding [v,ov,iv] (setItem ov iv v)
   release [v,ov,iv] []):=by intro _;rfl):PG X (.Subscript o i pos) (gSub to ti t):=by
 intro pins s σ H v u Q I r h
 rw[ha]
 refine AA0 (AAW (thn (ho pins s σ H _ I h) ?_))
 rintro ov s1 ⟨x,H1,I1,r1,q1⟩
 refine AA0 (AAW (thn (hi pins s1 σ H1 _ I1 q1) ?_))
 rintro iv s2 ⟨y,H2,I2,r2,q2⟩
 refine AA0 (ADS (AA0 (AAW (thn (hs pins s2 σ H2 x y v ov iv u _ I2 r1 r2 r q2) ?_))))
 rintro _ s3 ⟨H3,I3,q3⟩
 exact wpAny_release ⟨σ,H3,I3,q3⟩
def tAsg(te:TE)(g:TG):TS:=λD σ H=>te σ H λx H1=>g x σ H1 D.nx
theorem Dm(he:PE X e te)(hg:PG X tg g)(hs:swapsWithSole [tg] e pos.line X.env=pure false:=by rfl)(hw:swappedStores [tg] e X.env=pure none:=by rfl)
  (h1:(assignEach [tg] X.env).map (·.2)=[assign tg X.env]:=by rfl):PS X (.Assign [tg] e pos) (tAsg te g):=by
 intro pins s σ H D I h
 refine wpAny_Assign_stores (thn (he pins s σ H _ I h) ?_) hs hw
 rintro v s1 ⟨x,H1,I1,r1,q1⟩
 rw[h1]
 exact thn (hg pins s1 σ H1 x v _ I1 r1 q1) λ_ s2 q=>q
theorem Dj(hN:X.N.Nodup)(hi:X.N[i]?=some x)(hx:Loc X.env.scope x)(he:PE X e te)(hs:swapsWith e (some (.Name x pos')) pos.line X.env=pure false:=by rfl)(hf:X.fn x=true\/X.env.scope.names.lookup x=some .local:=by first | exact .inl rfl | exact .inr rfl | assumption) :
  PS X (.Assign [.Name x pos'] e pos) (tAsg te (EY i)):=by
 intro pins s σ H D I h
 refine wpAny_Assign_Name (thn (he pins s σ H _ I h) ?_) hs
 rintro v s1 ⟨y,H1,I1,r1,q1⟩
 exact fZ I1 hN hi hx r1 (λs2 I2=>⟨_,H1,I2,q1⟩) hf
structure It where
 go:Nat->Hp->Prop
 yld:Nat->Hp->V->Hp->Prop
 stop:Nat->Hp->Prop
def oR(X:Cx)(pins:List (Addr×Obj))(H:Hp)(b:Addr):Prop :=
 H b=none/\b≠X.env.locals/\b∉X.fs/\(b∈X.ex\/X.s₀.heap.objs.size<=b)/\(∀x c,X.env.cells.lookup x=some c->c≠b)/\∀p∈X.pn++pins,p.1≠b
theorem Inv.fpOk(I:Inv X pins σ H s)(hb:s.heap.objs.size<=b)(hn:H' b=none):oR X pins H' b:=by
 refine⟨hn,ABR (AAQ I.lt hb),I.nofs hb,.inr (AAh I.sz hb),λx c e z=>?_,λp hp z=>?_⟩
 ·obtain⟨v,q⟩:=I.cell x c e
  exact absurd (AAQ q.lt (by rw[z];exact hb)) (AAe _)
 ·exact absurd (AAQ (AAD (I.pin p hp).1) (by rw[z];exact hb)) (AAe _)
structure Turn(P:Program)(w:World)(K:AA1)(tg:Expr)(J:It)(fp:List Addr)(it:Addr)(tn:Nat->Heap->Prop):Prop where
 mem:it∈fp
 obj:∀i h,tn i h->∀b∈fp,∃o,h.get? b=some o/\∀v,o.data≠.cell v
 keep:∀i h h',tn i h->(∀b∈fp,∀o,h.get? b=some o->h'.get? b=some o)->tn i h'
 item:∀(X:Cx),X.prog=P->X.w=w->X.K=K->X.calm=true->∀(i:Nat) (pins:List (Addr×Obj)) (s:Shared) (σ:St) (H:Hp) (E:Value->Shared->Prop),Inv X pins σ H s->(∀b∈fp,oR X pins H b)->tn i s.heap->J.go i H ->
  wpAny (model P w) X.A (pyNext (.ref it)) (λr s1=>∃u,r=some u /\
   wpAny (model P w) X.A (letOwnedTupleGo tg (.ref it) u) (λ_ s2=>∃x H',Inv X pins σ H' s2/\aR x u/\J.yld i H x H'/\tn (i+1) s2.heap/\∀b∈fp,H' b=none) E s1) E s
 done:∀(X:Cx),X.prog=P->X.w=w->X.K=K->X.calm=true->∀(i:Nat) (pins:List (Addr×Obj)) (s:Shared) (σ:St) (H:Hp) (E:Value->Shared->Prop),Inv X pins σ H s->(∀b∈fp,oR X pins H b)->tn i s.heap->J.stop i H ->
  wpAny (model P w) X.A (pyNext (.ref it)) (λr s1=>r=none/\Inv X pins σ H s1) E s
 self:∀(A:Around) (i:Nat) (s:Shared) (Q:Value->Shared->Prop) (E:Value->Shared->Prop),tn i s.heap->Q (.ref it) s->wpAny (model P w) A (pyIter (.ref it)) Q E s
abbrev TI:=St->Hp->(It->Hp->Prop)->Prop
inductive PIE(X:Cx)(pins:List (Addr×Obj))(σ:St)(tg:Expr)(R:It->Hp->Prop)(itv:Value)(s2:Shared):Prop
 | mk (it:Addr) (fp:List Addr) (tn:Nat->Heap->Prop) (J:It) (H':Hp) (f0:itv=.ref it) (f1:Inv X pins σ H' s2) (f2:Turn X.prog X.w X.K tg J fp it tn) (f3:tn 0 s2.heap) (f4:(∀b∈fp,oR X pins H' b)) (f5:R J H')
def PI(X:Cx)(tg iter:Expr)(wi:TI):Prop :=
 ∀(pins:List (Addr×Obj)) (s:Shared) (σ:St) (H:Hp) (R:It->Hp->Prop),Inv X pins σ H s->wi σ H R ->
  wpAny (model X.prog X.w) X.A (eval iter X.env) (λv s1=>wpAny (model X.prog X.w) X.A (pyIter v) (PIE X pins σ tg R) X.xe s1) X.xe s
theorem xW(ho:s.heap.get? it=some o)(hc:o.cls=.type n)(hd:o.data=.fields vs)
  (hn:["enumerate","zip","dict_itemiterator","dict_reverseitemiterator","odict_iterator","itertools.zip_longest","itertools.pairwise"].contains n=false) (hQ:Q () s):wpAny M A (letOwnedTupleGo tg (.ref it) u) Q E s:=by
 unfold letOwnedTupleGo
 cases tg<;>first
  | exact AA3 hQ
  | (cases u<;>first
    | exact AA3 hQ
    | (refine AA0 (wpAny_load ho ?_);rw[hc,hd];show wpAny M A (if (["enumerate","zip","dict_itemiterator","dict_reverseitemiterator","odict_iterator","itertools.zip_longest","itertools.pairwise"].contains n&&vs[0]?==some (rawInt _))=true then _ else _) Q E s;rw[if_neg (by intro h;rw[hn,ADv]at h;cases h)];exact AA3 hQ))
noncomputable def Itl(K:AA1)(a:Addr):It :=
 ⟨λi H=>∃xs x,SqL K H a xs/\xs[i]?=some x,λi H x H'=>H'=H/\∀xs,SqL K H a xs->xs[i]?=some x,λi H=>∃xs,SqL K H a xs/\xs.length<=i⟩
noncomputable def Itt(K:AA1)(a:Addr):It :=
 ⟨λi H=>∃xs x,SqT K H a xs/\xs[i]?=some x,λi H x H'=>H'=H/\∀xs,SqT K H a xs->xs[i]?=some x,λi H=>∃xs,SqT K H a xs/\xs.length<=i⟩
noncomputable def Itr(lo:Int)(n:Nat):It:=⟨λi _=>i<n,λi H x H'=>H'=H/\x=.int (lo+i),λi _=>n<=i⟩
theorem sA{P:Program}{w:World}{K:AA1}{tg:Expr}(a it:Addr):Turn P w K tg (Itl K a) [it] it (λi h=>h.IsListIter it a i) where
 mem:=by simp
 obj:=λi h st b hb=>by
  have e:b=it:=by simpa using hb
  subst e
  obtain⟨o,e,c,d⟩:=st
  exact⟨o,e,λv z=>by rw[d]at z;cases z⟩
 keep:=λi h h' st k=>st.at λo e=>k it (by simp) o e
 item:=by
  intro X hP hw hK hc i pins s σ H E I hf st hg
  subst hP hw hK
  obtain⟨xs,x,hq,hx⟩:=hg
  obtain⟨its,rv,p,hz⟩:=I.list hq
  obtain⟨u,hu,ru⟩:=rv.get hx
  obtain⟨f0,f1,f2,f3,f4,f5⟩:=hf it (by simp)
  refine wpAny_pyNext_list_item st p.isList (x:=u) (by simpa using hu) λh' st' sb=>?_
  have I1:Inv X pins σ H { s with heap:=h' }:=I.turned (t':=s.toks) (λb o hb e=>(sb.2 b hb).trans e) f0 f1 f3 f4 f5
  obtain⟨o,e,c,d⟩:=id st'
  exact⟨u,rfl,xW (s:={ s with heap:=h' }) e c d (by decide) ⟨x,H,I1,ru,⟨rfl,λys hy=>by rw[I.list_inj hy hq];exact hx⟩,st',λb hb=>(hf b hb).1⟩⟩
 done:=by
  intro X hP hw hK hc i pins s σ H E I hf st hg
  subst hP hw hK
  obtain⟨xs,hq,hx⟩:=hg
  obtain⟨its,rv,p,hz⟩:=I.list hq
  obtain⟨f0,f1,f2,f3,f4,f5⟩:=hf it (by simp)
  have hl:=rv.length
  exact wpAny_pyNext_list_end (I.ok.hd hc) st p.isList (by simp;lia) λh' eb=>⟨rfl,I.turned (t':=s.toks) (λb o hb e=>eb b o hb e) f0 f1 f3 f4 f5⟩
 self:=λ_ _ _ _ _ st h=>wpAny_pyIter_listiter st h
theorem qN{P:Program}{w:World}{K:AA1}{tg:Expr}(a it:Addr):Turn P w K tg (Itt K a) [it] it (λi h=>h.IsTupleIter it a i) where
 mem:=by simp
 obj:=λi h st b hb=>by
  have e:b=it:=by simpa using hb
  subst e
  obtain⟨o,e,c,d⟩:=st
  exact⟨o,e,λv z=>by rw[d]at z;cases z⟩
 keep:=λi h h' st k=>st.at λo e=>k it (by simp) o e
 item:=by
  intro X hP hw hK hc i pins s σ H E I hf st hg
  subst hP hw hK
  obtain⟨xs,x,hq,hx⟩:=hg
  obtain⟨its,rv,p,hz⟩:=I.tuple hq
  obtain⟨u,hu,ru⟩:=rv.get hx
  obtain⟨f0,f1,f2,f3,f4,f5⟩:=hf it (by simp)
  refine wpAny_pyNext_tuple_item st (show s.heap.IsTuple a its.toArray from p) (x:=u) (by simpa using hu) λh' st' sb=>?_
  have I1:Inv X pins σ H { s with heap:=h' }:=I.turned (t':=s.toks) (λb o hb e=>(sb.2 b hb).trans e) f0 f1 f3 f4 f5
  obtain⟨o,e,c,d⟩:=id st'
  exact⟨u,rfl,xW (s:={ s with heap:=h' }) e c d (by decide) ⟨x,H,I1,ru,⟨rfl,λys hy=>by rw[I.tuple_inj hy hq];exact hx⟩,st',λb hb=>(hf b hb).1⟩⟩
 done:=by
  intro X hP hw hK hc i pins s σ H E I hf st hg
  subst hP hw hK
  obtain⟨xs,hq,hx⟩:=hg
  obtain⟨its,rv,p,hz⟩:=I.tuple hq
  obtain⟨f0,f1,f2,f3,f4,f5⟩:=hf it (by simp)
  have hl:=rv.length
  exact wpAny_pyNext_tuple_end (I.ok.hd hc) st (show s.heap.IsTuple a its.toArray from p) (by simp;lia) λh' eb=>⟨rfl,I.turned (t':=s.toks) (λb o hb e=>eb b o hb e) f0 f1 f3 f4 f5⟩
 self:=λ_ _ _ _ _ st h=>wpAny_pyIter_tupleiter st h
theorem qO{P:Program}{w:World}{K:AA1}{tg:Expr}(it:Addr)(lo:Int)(n:Nat):Turn P w K tg (Itr lo n) [it] it (λi h=>IsRangeIter h it (lo+(i:Nat)*1) ((n:Int)-(i:Nat)) 1) where
 mem:=by simp
 obj:=λi h st b hb=>by
  have e:b=it:=by simpa using hb
  subst e
  exact⟨_,st,λv z=>by
   have z':Data.fields _=Data.cell v:=z
   cases z'⟩
 keep:=λi h h' st k=>k it (by simp) _ st
 item:=by
  intro X hP hw hK hc i pins s σ H E I hf st hg
  subst hP hw hK
  obtain⟨f0,f1,f2,f3,f4,f5⟩:=hf it (by simp)
  have W:=Walks.range (prog:=X.prog) (w:=X.w) (I.ok.hd hc) it lo 1 n
  refine W.item i s _ _ hg st λv h' tk hv st' kk=>?_
  obtain⟨t,rfl⟩:=hv
  have I1:Inv X pins σ H { s with heap:=h',toks:=tk }:=I.turned (λb o hb e=>kk b o (by simpa using hb) e) f0 f1 f3 f4 f5
  refine⟨_,rfl,xW (s:={ s with heap:=h',toks:=tk }) (n:="range_iterator") st' rfl rfl (by decide) ⟨.int (lo+i),H,I1,⟨t,?_⟩,⟨rfl,rfl⟩,st',λb hb=>(hf b hb).1⟩⟩
  rw[Int.mul_one]
 done:=by
  intro X hP hw hK hc i pins s σ H E I hf st hg
  subst hP hw hK
  obtain⟨f0,f1,f2,f3,f4,f5⟩:=hf it (by simp)
  exact wpAny_pyNext_range_end (I.ok.hd hc) st (by have:n<=i:=hg;lia) λh' eb=>⟨rfl,I.turned (t':=s.toks) (λb o hb e=>eb b o hb e) f0 f1 f3 f4 f5⟩
 self:=λ_ _ _ _ _ st h=>wpAny_pyIter_rangeiter st h
theorem pT{pins:List (Addr×Obj)}{σ:St}{H:Hp}{s:Shared}{R:It->Hp->Prop}{E:Value->Shared->Prop}{lo hi:Int}{t u v:Tok}{tk:Nat}(I:Inv X pins σ H s)(h1:-(2 ^ 62)<=lo)(h2:lo<2 ^ 62)(h3:-(2 ^ 62)<=hi)(h4:hi<2 ^ 62)
  (q:R (Itr lo (hi-lo).toNat) H):wpAny (model X.prog X.w) X.A (pyIter (.ref s.heap.objs.size)) (PIE X pins σ tg R) E { s with heap:=s.heap.push { cls:=.type "range",data:=.fields #[.int lo t,.int hi u,.int 1 v] },toks:=tk }:=by
 refine wpAny_pyIter_range (IsRange.new ..) (small_one h1 h2 h3 h4) ?_
 have I1:Inv X pins σ H { s with heap:=s.heap.push { cls:=.type "range",data:=.fields #[.int lo t,.int hi u,.int 1 v] },toks:=tk }:=I.kept λb o e=>AA4 _ e
 refine⟨(s.heap.push { cls:=.type "range",data:=.fields #[.int lo t,.int hi u,.int 1 v] }).objs.size,[(s.heap.push { cls:=.type "range",data:=.fields #[.int lo t,.int hi u,.int 1 v] }).objs.size],_,_,H,rfl,
  I1.kept (t':=tk) λb o e=>AA4 _ e,qO _ lo (hi-lo).toNat,?_,λb hb=>?_,q⟩
 ·have e1:lo+((0:Nat):Int)*1=lo:=by simp
  have e2:(((hi-lo).toNat:Nat):Int)-((0:Nat):Int)=Builtin.Range.rangeSize lo hi 1:=by rw[rangeSize_one];split<;>lia
  show IsRangeIter _ _ (lo+((0:Nat):Int)*1) ((((hi-lo).toNat:Nat):Int)-((0:Nat):Int)) 1
  rw[e1,e2]
  exact AAE _ rfl
 ·have e:b=(s.heap.push { cls:=.type "range",data:=.fields #[.int lo t,.int hi u,.int 1 v] }).objs.size:=by simpa using hb
  subst e
  exact I1.fpOk (AAB _) (I1.hok.fresh (AAB _))
def EM(ta:TA):TI:=λσ H R=>ta σ H λvs H1=>∃j:Int,vs=[.int j]/\-(2 ^ 62)<=j/\j<2 ^ 62/\R (Itr 0 j.toNat) H1
def iRng2(ta:TA):TI:=λσ H R=>ta σ H λvs H1=>∃i j:Int,vs=[.int i,.int j]/\(-(2 ^ 62)<=i/\i<2 ^ 62/\-(2 ^ 62)<=j/\j<2 ^ 62)/\R (Itr i (j-i).toNat) H1
theorem tX{a:Expr}{ta:TA}{p pos:Pos}(hg:Gl X "range")(hm:X.mg "range" = none)(ha:PA X [a] ta)(hs:starEach [a] X.env=[(false,eval a X.env)]:=by rfl):PI X tg (.Call (.Name "range" p) [a] [] pos) (EM ta):=by
 intro pins s σ H R I h
 refine Call_ (fB I hg hm boot_range (ACt (thn (ha pos pins s σ H _ I h) ?_) hs rfl))
 rintro us s1 ⟨vs,H1,I1,r1,q1⟩
 obtain⟨j,e,q1,q2,q⟩:=q1
 subst e
 cases r1 with
 | cons r rr =>
  cases rr
  obtain⟨t,rfl⟩:=r
  exact call_range_1 (pT I1 (by lia) (by lia) q1 q2 (by simpa using q))
theorem tW(hg:Gl X "range")(hm:X.mg "range" = none)(ha:PA X [a,b] ta)(hs:starEach [a,b] X.env=[(false,eval a X.env),(false,eval b X.env)]:=by rfl)(hs2:starEach [b] X.env=[(false,eval b X.env)]:=by rfl) :
  PI X tg (.Call (.Name "range" p) [a,b] [] pos) (iRng2 ta):=by
 intro pins s σ H R I h
 refine Call_ (fB I hg hm boot_range (ACt (thn (ha pos pins s σ H _ I h) ?_) (by rw[hs,hs2]) (by rw[hs2];rfl)))
 rintro us s1 ⟨vs,H1,I1,r1,q1⟩
 obtain⟨i,j,e,⟨q1,q2,q3,q4⟩,q⟩:=q1
 subst e
 cases r1 with
 | cons r rr =>
  cases rr with
  | cons r' rr =>
   cases rr
   obtain⟨t,rfl⟩:=r
   obtain⟨t',rfl⟩:=r'
   exact call_range_2 (pT I1 q1 q2 q3 q4 q)
def tFor(wi:TI)(g:TG)(tb:TS):TS:=λD σ H=>wi σ H λJ H1=>∃W:Nat->Nat->St->Hp->Prop,(∃m,W 0 m σ H1)/\∀i m σ H,W i m σ H ->
 (J.stop i H/\D.nx σ H)\/(J.go i H/\∃N:St->Hp->Prop,(∀σ' H',N σ' H'->∃m',m' < m/\W (i+1) m' σ' H')/\∀x H',J.yld i H x H'->g x σ H' λσ2 H2=>tb { D with nx:=N,ct:=N,bk:=D.nx } σ2 H2)
noncomputable def eJ(fp:List Addr)(h:Heap):List (Addr×Obj):=fp.filterMap λb=>(h.get? b).map λo=>(b,o)
theorem du(hb:b∈fp)(e:h.get? b=some o):(b,o)∈eJ fp h:=List.mem_filterMap.mpr ⟨b,hb,by rw[e];rfl⟩
theorem lI(hp:p∈eJ fp h):p.1∈fp/\h.get? p.1=some p.2:=by
 obtain⟨b,hb,e⟩:=List.mem_filterMap.mp hp
 cases q:h.get? b with
 | none=>rw[q]at e;cases e
 | some o =>
  rw[q]at e
  have e':(b,o)=p:=AAM e
  subst e'
  exact⟨hb,q⟩
theorem Inv.pinned(I:Inv X pins σ H s)(hf:∀b∈fp,oR X pins H b)(ho:∀b∈fp,∃o,s.heap.get? b=some o/\∀v,o.data≠.cell v):Inv X (pins++eJ fp s.heap) σ H s :=
 I.pins_of λp hp=>(AAT.mp hp).elim (λz=>I.pin p (AAP _ z)) λz=>by
  obtain⟨hb,e⟩:=lI z
  obtain⟨f0,f1,f2,_⟩:=hf p.1 hb
  obtain⟨o,e',d⟩:=ho p.1 hb
  rw[e]at e';cases e'
  exact⟨e,f0,f1,f2,d⟩
theorem Inv.unpinned(I:Inv X (pins++pl) σ H s):Inv X pins σ H s:=I.pins_of λp hp=>I.pin p (AAP _ (ABP _ hp))
theorem Dl(hp:PassesOwn (model X.prog X.w) X.A X.env X.xe)(hc:X.calm=true)(hi:PI X tg iter wi)(hg:PG X tg g)(hb:PSs X body tb)
  (hs:∀x,foldedSetIterable iter X.env x=pure x:=by intro _;rfl):PS X (.For tg iter body [] pos) (tFor wi g tb):=by
 intro pins s σ H D I h
 refine wpAny_For (thn (hi pins s σ H _ I h) λv s1 h1=>thn h1 λitv s2 h2=>?_) hs
 obtain⟨it,fp,tn,J,H2,e,I2,T,st2,f2,W,⟨m0,w0⟩,turn⟩:=h2
 subst e
 -- what stays true of the iterator's objects through the loop
 have stat:∀{H':Hp},(∀b∈fp,H' b=none)->∀b∈fp,oR X pins H' b:=λhn b hb=>⟨hn b hb,(f2 b hb).2⟩
 refine codeAny_forLoop_any (λn s'=>∃i σ' H',Inv X pins σ' H' s'/\tn i s'.heap/\(∀b∈fp,H' b=none)/\W i n σ' H') ?_ m0 ⟨0,σ,H2,I2,st2,λb hb=>(f2 b hb).1,w0⟩
 rintro n s3 ⟨i,σ3,H3,I3,st3,fr3,w3⟩
 rcases turn i n σ3 H3 w3 with⟨stop,qn⟩|⟨go,N,hN,step⟩
 ·refine ADT hp (thn (T.done X rfl rfl rfl hc i pins s3 σ3 H3 X.xe I3 (stat fr3) st3 stop) ?_)
  rintro r s4 ⟨hr,I4⟩
  subst hr
  exact ACs ⟨σ3,H3,I4,qn⟩
 ·refine ADT hp (thn (T.item X rfl rfl rfl hc i pins s3 σ3 H3 X.xe I3 (stat fr3) st3 go) ?_)
  rintro r s4 ⟨u,hr,h4⟩
  subst hr
  refine ADT hp (thn h4 ?_)
  rintro _ s5 ⟨x,H5,I5,r5,y5,st5,fr5⟩
  have I5':=I5.pinned (stat fr5) (T.obj _ _ st5)
  refine ADT hp (thn (hg _ s5 σ3 H5 x u _ I5' r5 (step x H5 y5)) ?_)
  rintro _ s6 ⟨σ6,H6,I6,q6⟩
  refine ADT hp (thn (hb _ s6 σ6 H6 _ I6 q6) λf s7 q7=>?_)
  have again:∀{σ7:St}{H7:Hp},Inv X (pins++eJ fp s5.heap) σ7 H7 s7->N σ7 H7->∃m,m<n/\∃i σ' H',Inv X pins σ' H' s7/\tn i s7.heap/\(∀b∈fp,H' b=none)/\W i m σ' H':=λ{σ7 H7} I7 n7=>by
   obtain⟨m',hm,w7⟩:=hN σ7 H7 n7
   refine⟨m',hm,i+1,σ7,H7,I7.unpinned,T.keep _ _ _ st5 λb hb o e=>(I7.pin (b,o) (AAP _ (AAP _ (du hb e)))).1,λb hb=>?_,w7⟩
   obtain⟨o,e,d⟩:=T.obj _ _ st5 b hb
   exact(I7.pin (b,o) (AAP _ (AAP _ (du hb e)))).2.1
  cases f with
  | next=>obtain⟨σ7,H7,I7,n7⟩:=q7;exact again I7 n7
  | cont=>obtain⟨σ7,H7,I7,n7⟩:=q7;exact again I7 n7
  | brk=>obtain⟨σ7,H7,I7,q7⟩:=q7;exact⟨σ7,H7,I7.unpinned,q7⟩
  | ret v=>obtain⟨x7,σ7,H7,I7,r7,q7⟩:=q7;exact⟨x7,σ7,H7,I7.unpinned,r7,q7⟩
abbrev R2:=V->V->Hp->VK->Prop
def OpR(X:Cx)(f:Value->Value->Sem Value)(r:R2):Prop :=
 ∀(pins:List (Addr×Obj)) (s:Shared) (σ:St) (H:Hp) (x y:V) (v u:Value) (Q:VK),Inv X pins σ H s->aR x v->aR y u->r x y H Q ->
  wpAny (model X.prog X.w) X.A (f v u) (EP X pins σ Q) X.xe s
def UnR(X:Cx)(f:Value->Sem Value)(r:V->Hp->VK->Prop):Prop :=
 ∀(pins:List (Addr×Obj)) (s:Shared) (σ:St) (H:Hp) (x:V) (v:Value) (Q:VK),Inv X pins σ H s->aR x v->r x H Q ->
  wpAny (model X.prog X.w) X.A (f v) (EP X pins σ Q) X.xe s
def cQ(X:Cx)(f:Value)(r:List V->Hp->VK->Prop):Prop :=
 ∀(pins:List (Addr×Obj)) (s:Shared) (σ:St) (H:Hp) (xs:List V) (us:List Value) (Q:VK),Inv X pins σ H s->ay xs us->r xs H Q ->
  wpAny (model X.prog X.w) X.A (call f us) (EP X pins σ Q) X.xe s
def tOp(r:R2)(ta tb:TE):TE:=λσ H Q=>ta σ H λx H1=>tb σ H1 λy H2=>r x y H2 Q
def rI(C:Int->Int->Prop)(g:Int->Int->V):R2:=λx y H Q=>∃i j,x=.int i/\y=.int j/\C i j/\Q (g i j) H
def rI0(g:Int->Int->V):R2:=λx y H Q=>∃i j,x=.int i/\y=.int j/\Q (g i j) H
theorem binT(ha:PE X a ta)(hb:PE X b tb){pins:List (Addr×Obj)}{s:Shared}{σ:St}{H:Hp}{R:V->V->Hp->Prop}(I:Inv X pins σ H s)
  (h:ta σ H λx H1=>tb σ H1 λy H2=>R x y H2) {Q:Value->Shared->Prop}{f:Value->Value->Sem Value}
  (hf:∀v u s2 x y H2,Inv X pins σ H2 s2->aR x v->aR y u->R x y H2->wpAny (model X.prog X.w) X.A (f v u) Q X.xe s2) :
  wpAny (model X.prog X.w) X.A (eval a X.env) (λv s₁=>wpAny (model X.prog X.w) X.A (eval b X.env) (λu s₂=>wpAny (model X.prog X.w) X.A (f v u) Q X.xe s₂) X.xe s₁) X.xe s:=by
 refine thn (ha pins s σ H _ I h) ?_
 rintro v s1 ⟨x,H1,I1,r1,q1⟩
 refine thn (hb pins s1 σ H1 _ I1 q1) ?_
 rintro u s2 ⟨y,H2,I2,r2,q2⟩
 exact hf v u s2 x y H2 I2 r1 r2 q2
theorem pe_op{op:Operator}{r:R2}(ho:OpR X (binaryOp op) r)(ha:PE X a ta)(hb:PE X b tb):PE X (.BinOp a op b pos) (tOp r ta tb):=by
 intro pins s σ H Q I h
 exact wpAny_BinOp (binT ha hb I h λv u s2 x y H2 I2 rx ry q=>ho pins s2 σ H2 x y v u Q I2 rx ry q)
theorem opI{f:Value->Value->Sem Value}{C:Int->Int->Prop}{g:Int->Int->Int}
  (rule:∀(i j:Int) (t u:Tok) (s:Shared) (Q:Value->Shared->Prop) (E:Value->Shared->Prop),C i j->Q (.int (g i j) s.toks) { s with toks:=s.toks+1 }->wpAny (model X.prog X.w) X.A (f (.int i t) (.int j u)) Q E s) :
  OpR X f (rI C λi j=>.int (g i j)):=by
 intro pins s σ H x y v u Q I rx ry h
 obtain⟨i,j,rfl,rfl,hc,q⟩:=h
 obtain⟨t,rfl⟩:=rx
 obtain⟨t',rfl⟩:=ry
 exact rule i j t t' s _ _ hc ⟨.int (g i j),H,I.tok _,⟨_,rfl⟩,q⟩
theorem opI0{f:Value->Value->Sem Value}{g:Int->Int->Int}
  (rule:∀(i j:Int) (t u:Tok) (s:Shared) (Q:Value->Shared->Prop) (E:Value->Shared->Prop),Q (.int (g i j) s.toks) { s with toks:=s.toks+1 }->wpAny (model X.prog X.w) X.A (f (.int i t) (.int j u)) Q E s) :
  OpR X f (rI0 λi j=>.int (g i j)):=by
 intro pins s σ H x y v u Q I rx ry h
 obtain⟨i,j,rfl,rfl,q⟩:=h
 obtain⟨t,rfl⟩:=rx
 obtain⟨t',rfl⟩:=ry
 exact rule i j t t' s _ _ ⟨.int (g i j),H,I.tok _,⟨_,rfl⟩,q⟩
theorem opB0{f:Value->Value->Sem Value}{g:Int->Int->Bool}
  (rule:∀(i j:Int) (t u:Tok) (s:Shared) (Q:Value->Shared->Prop) (E:Value->Shared->Prop),Q (.bool (g i j)) s->wpAny (model X.prog X.w) X.A (f (.int i t) (.int j u)) Q E s) :
  OpR X f (rI0 λi j=>.bl (g i j)):=by
 intro pins s σ H x y v u Q I rx ry h
 obtain⟨i,j,rfl,rfl,q⟩:=h
 obtain⟨t,rfl⟩:=rx
 obtain⟨t',rfl⟩:=ry
 exact rule i j t t' s _ _ ⟨.bl (g i j),H,I,rfl,q⟩
def CPow(i j:Int):Prop:=0<=j/\j<=1000000/\i.natAbs<2 ^ 64
def CMul(i j:Int):Prop:=(-(2 ^ 64)<i/\i<2 ^ 64)\/(-(2 ^ 64)<j/\j<2 ^ 64)
theorem CMul.ok(h:CMul i j):IntMulOk i j:=by
 rcases h with⟨h1,h2⟩|⟨h1,h2⟩
 ·exact .of_left (intBits_le_64 h1 h2)
 ·exact .of_right (intBits_le_64 h1 h2)
theorem DP:OpR X (binaryOp .Add) (rI0 λi j=>.int (i+j)):=opI0 λ_ _ _ _ _ _ _ q=>add_int q
theorem DH:OpR X (binaryOp .Sub) (rI0 λi j=>.int (i-j)):=opI0 λ_ _ _ _ _ _ _ q=>sub_int q
theorem DM:OpR X (binaryOp .Mult) (rI CMul λi j=>.int (i*j)):=opI λ_ _ _ _ _ _ _ hc q=>mul_int q hc.ok
theorem DN:OpR X (binaryOp .Mod) (rI (λ_ j=>0<j) λi j=>.int (i % j)):=opI λi j _ _ _ _ _ hc q=>by
 have h1:(0:Int)<j:=hc
 exact mod_int' (by lia) (by rw[Int.fmod_eq_emod_of_nonneg i (by lia)];exact q)
theorem DJ:OpR X (binaryOp .Pow) (rI CPow λi j=>.int (i ^ j.toNat)):=opI λ_ _ _ _ _ _ _ hc q=>pow_int_small hc.1 hc.2.1 hc.2.2 q
theorem op_lt:OpR X (compareOp .Lt) (rI0 λi j=>.bl (decide (i<j))):=opB0 λ_ _ _ _ _ _ _ q=>lt_int q
theorem op_gt:OpR X (compareOp .Gt) (rI0 λi j=>.bl (decide (j<i))):=opB0 λ_ _ _ _ _ _ _ q=>gt_int q
theorem OpR.or(h:OpR X f r)(h':OpR X f r'):OpR X f (λx y H Q=>r x y H Q\/r' x y H Q):=by
 intro pins s σ H x y v u Q I rx ry q
 rcases q with q | q
 ·exact h pins s σ H x y v u Q I rx ry q
 ·exact h' pins s σ H x y v u Q I rx ry q
theorem Ah(ho:OpR X (compareOp op) r)(ha:PE X a ta)(hb:PE X b tb)(hm:behindInMarks op b=false):PE X (.Compare a [op] [b] pos) (tOp r ta tb):=by
 intro pins s σ H Q I h
 exact wpAny_Compare1 (binT ha hb I h λv u s2 x y H2 I2 rx ry q=>ho pins s2 σ H2 x y v u Q I2 rx ry q) hm
def CP(t:TE):TT:=λσ H Q=>t σ H λx H'=>∃k,x=.bl k/\Q k H'
theorem zW(ho:OpR X (compareOp op) r)(ha:PE X a ta)(hb:PE X b tb)(hm:behindInMarks op b=false):PT X (.Compare a [op] [b] pos) (CP (tOp r ta tb)):=by
 intro pins s σ H Q I h
 refine wpAny_isTrue_Compare1 (thn (ha pins s σ H _ I h) λv s1 ⟨x,H1,I1,r1,q1⟩=>thn (hb pins s1 σ H1 _ I1 q1) λu s2 ⟨y,H2,I2,r2,q2⟩ =>
  thn (ho pins s2 σ H2 x y v u _ I2 r1 r2 q2) λc s3 ⟨z,H3,I3,r3,k,e,q3⟩=>?_) hm
 subst e
 cases r3
 exact ACR ⟨H3,I3,q3⟩
theorem jg:(sizeLine:Nat)<2 ^ 63:=by rw[ABQ];decide
theorem qY:OpR X (binaryOp .Add) (λx y H Q=>∃i j,x=.str i/\y=.str j/\i.length+j.length<=sizeLine/\Q (.str (i++j)) H):=by
 intro pins s σ H x y v u Q I rx ry h
 obtain⟨i,j,rfl,rfl,hz,q⟩:=h
 obtain⟨t,rfl⟩:=rx
 obtain⟨t',rfl⟩:=ry
 exact add_str (λt' tk=>⟨.str (i++j),H,I.tok _,⟨_,rfl⟩,q⟩) hz
theorem wN(r:ay [x] us):∃u,us=[u]/\aR x u:=by
 cases r with
 | cons r1 r2=>cases r2;exact⟨_,rfl,r1⟩
structure ObjM(h:Heap)(x dx C:Addr)(mA:Str->Option Value):Prop where
 obj:h.get? x=some (PySem.W.instObj C dx)
 ns:h.Ns1 dx mA
 ne:dx≠x
theorem uG{h:Heap}{dx:Addr}{mA:Str->Option Value}(n:h.Ns1 dx mA):∃od,h.get? dx=some od/\∀name,PySem.W.lookIn name od=some (mA name):=by
 obtain⟨o,es,ep,ho,hd,hk,_,hm⟩:=n
 refine⟨o,ho,λname=>?_⟩
 have e:=hm name
 unfold nsFind findBy at e
 rw[<-Array.find?_toList]at e
 unfold PySem.W.lookIn
 rw[hd]
 dsimp only
 split
 ·rename_i y q
  rw[q]at e
  exact congrArg some e
 ·rename_i q
  rw[q]at e
  have a:es.toList.any (·.refKey)=false:=by
   rw[List.any_eq_false]
   intro y hy
   obtain⟨z,t,hkey⟩:=hk y (Array.mem_toList_iff.mp hy)
   simp[DictEntry.refKey,hkey]
  have a':¬es.toList.any (·.refKey)=true:=by rw[a];exact AB7
  rw[if_neg a']
  exact congrArg some e
noncomputable def pW(f:Str)(v:V):List (Str×V)->List (Str×V)
 | []=>[(f,v)]
 | (g,x)::r=>if g=f then(g,v)::r else(g,x)::pW f v r
theorem il(f g:Str)(v:V):∀fs:List (Str×V),(pW f v fs).lookup g=if g=f then some v else fs.lookup g
 | []=>by
  show AC8 g [(f,v)]=_
  by_cases h:g=f
  ·have hb:(g==f)=true:=beq_iff_eq.mpr h
   simp only[AC8,hb,if_pos h]
  ·have hb:(g==f)=false:=beq_eq_false_iff_ne.mpr h
   simp only[AC8,hb,if_neg h]
 | (k,x)::r=>by
  have ih:=il f g v r
  rw[show pW f v ((k,x)::r)=(if k=f then(k,v)::r else(k,x)::pW f v r)from rfl]
  by_cases hk:k=f
  ·rw[if_pos hk]
   by_cases h:g=k
   ·have hb:(g==k)=true:=beq_iff_eq.mpr h
    simp only[AC8,hb,if_pos (h.trans hk)]
   ·have hb:(g==k)=false:=beq_eq_false_iff_ne.mpr h
    simp only[AC8,hb,if_neg (λe:g=f=>h (e.trans hk.symm))]
  ·rw[if_neg hk]
   by_cases h:g=k
   ·have hb:(g==k)=true:=beq_iff_eq.mpr h
    simp only[AC8,hb,if_neg (λe:g=f=>hk (h.symm.trans e))]
   ·have hb:(g==k)=false:=beq_eq_false_iff_ne.mpr h
    simp only[AC8,hb]
    exact ih
theorem io(f:Str)(v:V):∀fs:List (Str×V),f∈(pW f v fs).map (·.1)/\∀g,g∈fs.map (·.1)->g∈(pW f v fs).map (·.1)
 | []=>⟨by simp[pW],λg h=>by simp at h⟩
 | (k,x)::r=>by
  obtain⟨i1,i2⟩:=io f v r
  rw[show pW f v ((k,x)::r)=(if k=f then(k,v)::r else(k,x)::pW f v r)from rfl]
  by_cases hk:k=f
  ·rw[if_pos hk]
   subst hk
   exact⟨by simp,λg h=>by simpa using h⟩
  ·rw[if_neg hk]
   refine⟨?_,λg h=>?_⟩
   ·rw[AAN]
    exact AA9 _ i1
   ·rw[AAN]at h ⊢
    rcases AAL.mp h with e | e
    ·exact List.mem_cons.mpr (.inl e)
    ·exact AA9 _ (i2 g e)
theorem wA.some_of(r:wA (some v) o):∃u,o=some u/\aR v u:=by
 cases o with
 | none=>exact(show False from r).elim
 | some u=>exact⟨u,rfl,r⟩
theorem vK(r:aR v u):PySem.W.handedIn u=true:=by
 cases v with
 | non=>cases (show u=ABB from r);rfl
 | bl b=>cases (show u=ACj b from r);rfl
 | int i=>obtain⟨t,e⟩:=(show ∃t,u=Value.int i t from r);cases e;rfl
 | str x=>obtain⟨t,e⟩:=(show ∃t,u=Value.str x t from r);cases e;rfl
 | byt b=>obtain⟨t,e⟩:=(show ∃t,u=Value.bytes b t from r);cases e;rfl
 | flt b=>obtain⟨t,e⟩:=(show ∃t,u=Value.float b t from r);cases e;rfl
 | ref a=>cases (show u=AAZ a from r);rfl
 | ty n=>cases (show u=ACk n from r);rfl
structure Cls(K:AA1)(C:Addr):Prop where
 pg:PySem.W.plainGet K C Str.empty=true
 hd:AEa K C=true
 po:PySem.W.plainOver K C=true
 sa:AAi K (.ref C) "__setattr__" = some (some (.builtin "object.__setattr__"))
def eT(K:AA1)(C:Addr)(f:Str):Prop:=AAi K (.ref C) f=some none
structure Con(K:AA1)(C:Addr)(f:Str)(v:V)(u:Value):Prop where
 at_:AAi K (.ref C) f=some (some u)
 rel:aR v u
 get:PySem.W.specialIn K u "__get__" = some none
 cp:PySem.W.copiedNames.contains f=false
structure Meth(K:AA1)(C:Addr)(m:Str)(f:Addr):Prop where
 at_:AAi K (.ref C) m=some (some (.ref f))
 fn:AER K (.ref f)=true
 kp:ABk K (.ref f)=true
theorem Co(hb:attributeBase e f env (eval e env)=eval e env)
  (h:wpAny (model prog w) A (eval e env) (λo s₁=>wpAny (model prog w) A (getAttr o f true) Q E s₁) E s):wpAny (model prog w) A (eval (.Attribute e f pos) env) Q E s :=
 Attribute_any_ h (by rw[arm_eval_Attribute,hb])
inductive TyOf(K:AA1)(H:Hp):V->Value->Prop where
 | non:TyOf K H .non (.type "NoneType")
 | bl (x:Bool):TyOf K H (.bl x) (.type "bool")
 | int (i:Int):TyOf K H (.int i) (.type "int")
 | str (x:Str):TyOf K H (.str x) (.type "str")
 | flt (x:UInt64):TyOf K H (.flt x) (.type "float")
 | lst {a:Addr}{xs:List V} (e:H a=some (.lst xs)):TyOf K H (.ref a) (.type "list")
 | frz {a:Addr}{o:Obj}{xs:List V} (e:H a=some (.frz o (.lst xs))):TyOf K H (.ref a) (.type "list")
 | tup {a:Addr}{xs:List V} (e:H a=some (.tup xs)):TyOf K H (.ref a) (.type "tuple")
 | dK {a:Addr}{kvs:List (Key×V)} (e:H a=some (.dK kvs)):TyOf K H (.ref a) (.type "dict")
 | dT {a:Addr}{kvs:List (List Key×V)} (e:H a=some (.dT kvs)):TyOf K H (.ref a) (.type "dict")
 | ins {a C dx:Addr}{fs:List (Str×V)} (e:H a=some (.ins C dx fs)) (cl:Cls K C) (ha:AAi K (.ref C) "__class__" = some (some (.builtin "object.__class__")))
   (hn:PySem.W.specialIn K (.builtin "object.__class__") "__get__" = some (some (.builtin "getset_descriptor.__get__"))) (htk:PySem.W.takesIn K (.builtin "object.__class__")=some true)
   (hm:AEA K C (.type "object")=some true):TyOf K H (.ref a) (.ref C)
structure Room(k:Nat)(A:Around):Prop where
 hd:A.handled=none
 dp:A.depth+3*k+5<recursionLimit
 un:A.units+16*k+200<cLine
theorem Room.mono(r:Room k A)(h:j<=k):Room j A:=⟨r.hd,by have:=r.dp;lia,by have:=r.un;lia⟩
theorem Room.deeper(r:Room (k+1) A)(env:Env):Room k (A.deeper env) :=
 ⟨r.hd,by have:=r.dp;show A.depth+1+3*k+5<_;lia,by have:=r.un;show A.units+3+16*k+200<_;lia⟩
theorem Room.in1(r:Room (k+1) A):Room k A.in1 :=
 ⟨r.hd,by have:=r.dp;show A.depth+3*k+5<_;lia,by have:=r.un;show A.units+1+16*k+200<_;lia⟩
theorem rB{A:Around}{C:Addr}{us:List Value}{kw:List (Str×Value)}:(A.under (.builtin "type.__call__" ⟨.ref C::us,kw⟩)).depth=A.depth+1:=by
 first | rfl | simp[Around.under,Code.weight,Code.isCreation,Code.isGuard,Code.isCaller,Code.frames,Code.isFrame,guardIds]
theorem rA{A:Around}{C:Addr}{us:List Value}{kw:List (Str×Value)}:(A.under (.builtin "type.__call__" ⟨.ref C::us,kw⟩)).units=A.units+1:=by
 first | rfl | simp[Around.under,Code.cUnits,Code.frames,Code.isFrame]
theorem Room.make(r:Room (k+1) A)(C:Addr)(us:List Value)(kw:List (Str×Value)):Room k (A.under (.builtin "type.__call__" ⟨.ref C::us,kw⟩)) :=
 ⟨r.hd,by have:=r.dp;rw[rB];lia,by have:=r.un;rw[rA];lia⟩
theorem Room.depth(r:Room k A):A.depth<recursionLimit:=by have:=r.dp;lia
def tNil:TA:=λ_ H Q=>Q [] H
def tCons(ta:TE)(tr:TA):TA:=λσ H Q=>ta σ H λx H1=>tr σ H1 λxs H2=>Q (x::xs) H2
theorem uc:PA X [] tNil:=λ_ _ _ _ H Q I h=>Calls.spliced_nil ⟨[],H,I,.nil,h⟩
theorem ic(ha:PE X e te)(hr:PA X es t)(hs:starEach (e::es) X.env=(false,eval e X.env)::starEach es X.env:=by rfl):PA X (e::es) (tCons te t):=by
 intro pos pins s σ H Q I h
 rw[hs]
 show wpAny _ _ (spliced ((false,eval e X.env)::backTo pos (starEach es X.env))) _ _ s
 refine AES (thn (ha pins s σ H _ I h) ?_)
 rintro u s1 ⟨x,H1,I1,r1,q1⟩
 refine thn (hr pos pins s1 σ H1 _ I1 q1) ?_
 rintro us s2 ⟨xs,H2,I2,r2,q2⟩
 exact⟨x::xs,H2,I2,.cons r1 r2,q2⟩
def tTup(t:TA):TE:=λσ H Q=>t σ H λxs H1=>xs.length<=sizeLine/\∀p,H1 p=none->Q (.ref p) (upd H1 p (.tup xs))
def tLst(t:TA):TE:=λσ H Q=>t σ H λxs H1=>xs.length<=sizeLine/\∀p,H1 p=none->Q (.ref p) (upd H1 p (.lst xs))
theorem Ds{x1}(h:PA X es t):PE X (.Tuple es x1 pos) (tTup t):=by
 intro pins s σ H Q I hq
 refine wpAny_Tuple_spliced (thn (h pos pins s σ H _ I hq) λus s1 ⟨xs,H1,I1,r,z,q⟩=>⟨by rw[<-r.length];exact z,?_⟩)
 have hf:H1 s1.heap.objs.size=none:=I1.hok.fresh (AAB _)
 refine⟨.ref s1.heap.objs.size,upd H1 s1.heap.objs.size (.tup xs),I1.laid (t':=s1.toks) (λb u e=>AA4 _ e) (AAB _) ?_,rfl,q _ hf⟩
 exact⟨z,us,r,⟨_,AAE _ rfl,rfl,⟨_,rfl⟩,rfl⟩⟩
theorem Dx(h:PA X es t):PE X (.List es pos) (tLst t):=by
 intro pins s σ H Q I hq
 refine wpAny_List_spliced (thn (h pos pins s σ H _ I hq) λus s1 ⟨xs,H1,I1,r,z,q⟩=>⟨by rw[<-r.length];exact z,?_⟩)
 have hf:H1 s1.heap.objs.size=none:=I1.hok.fresh (AAB _)
 refine⟨.ref s1.heap.objs.size,upd H1 s1.heap.objs.size (.lst xs),I1.laid (t':=s1.toks) (λb u e=>AA4 _ e) (AAB _) ?_,rfl,q _ hf⟩
 exact⟨z,us,0,r,AAE _ rfl⟩
abbrev Sp:=List V->Hp->VK->XK->Prop
abbrev CXT:=List Env->Hp->Shared->XK->Value->Shared->Prop
structure Env0(P:Program)(w:World)(K:AA1)(mg:Str->Option Value)(base:Heap)(A:Around)(outer:List Env)(s:Shared)(H:Hp):Prop where
 frames:A.frames=some outer
 mod:Mod K mg base
 bs:∀b o,base.get? b=some o->s.heap.get? b=some o/\H b=none
 bsz:base.objs.size<=s.heap.objs.size
 funs:s.heap.FunFrames base outer
 frf:∀b∈frs outer,H b=none
 hok:HOk P w H s.heap
 bare:AllBare s.gens
inductive CE(outer:List Env)(P:Program)(w:World)(H:Hp)(s:Shared)(Q:VK)(u:Value)(s':Shared):Prop
 | mk (v:_) (H':_) (f0:s'.os=s.os) (f1:AllBare s'.gens) (f2:Un (frs outer) [] H H' s.heap s'.heap) (f3:HOk P w H' s'.heap) (f4:aR v u) (f5:Q v H')
def CR(CX:CXT)(outer:List Env)(P:Program)(w:World)(H:Hp)(s:Shared)(Q:VK)(E:XK)(r:Result)(s':Shared):Prop :=
 match r with
 | .ok (.ret u)=>CE outer P w H s Q u s'
 | .ok _=>False
 | .error e=>CX outer H s E e s'
structure FnOk(P:Program)(w:World)(K:AA1)(mg:Str->Option Value)(base:Heap)(CX:CXT)(k:Nat)(f:Addr)(fd:FuncData)(ps:List Str)(sp:Sp):Prop where
 len:∀vs H Q E,sp vs H Q E->vs.length=ps.length
 run:∀(A:Around) (outer:List Env) (s:Shared) (H:Hp) (args:Args) (us:List Value) (vs:List V) (Q:VK) (E:XK),Room k A->Env0 P w K mg base A outer s H->BindsTo s fd args (ps.zip us)->ay vs us->sp vs H Q E ->
  codeAny (model P w) A (.call (.ref f) args) (CR CX outer P w H s Q E) s
theorem Env0.make{P:Program}{w:World}{K:AA1}{mg:Str->Option Value}{base:Heap}{A:Around}{outer:List Env}{s:Shared}{H:Hp}(e:Env0 P w K mg base A outer s H)(C:Addr)(us:List Value)(kw:List (Str×Value)) :
  Env0 P w K mg base (A.under (.builtin "type.__call__" ⟨.ref C::us,kw⟩)) outer s H:=⟨by first | exact e.frames | (simpa [Around.under,Code.envs,Code.isFrame,pushEnvs]using e.frames),e.mod,e.bs,e.bsz,e.funs,e.frf,e.hok,e.bare⟩
theorem Env0.in1{P:Program}{w:World}{K:AA1}{mg:Str->Option Value}{base:Heap}{A:Around}{outer:List Env}{s:Shared}{H:Hp}(e:Env0 P w K mg base A outer s H) :
  Env0 P w K mg base A.in1 outer s H:=⟨e.frames,e.mod,e.bs,e.bsz,e.funs,e.frf,e.hok,e.bare⟩
theorem Inv.env0(I:Inv X pins σ H s):Env0 X.prog X.w X.K X.mg X.base X.A X.stack s H :=
 ⟨I.ok.frames,I.ok.mod,I.bs,AAh I.ok.bsz I.sz,I.stack,I.stkFree,I.hok,I.bare⟩
theorem Inv.after(I:Inv X pins σ H s)(h:CE X.stack X.prog X.w H s Q u s'):EP X pins σ Q u s':=by
 obtain⟨v,H',os,bare,un,hok,r,q⟩:=h
 obtain⟨hh,g,d,t,os'⟩:=s'
 obtain rfl:os'=s.os:=os
 exact⟨v,H',I.call (h':=hh) (g':=g) (d':=d) (t':=t) (ch:=[]) un hok bare (λb z=>absurd z (by simp)),r,q⟩
def CS(sp:Sp)(dvs:List V)(E:XK)(t:TA):TE:=λσ H Q=>t σ H λvs H1=>sp (vs++dvs) H1 Q E
def fV(K:AA1)(fd:FuncData)(ps:List Str)(ds:List Value):Prop :=
 ∀(s:Shared) (us:List Value),K.In s.heap->(us++ds).length=ps.length->BindsTo s fd ⟨us,[]⟩ (ps.zip (us++ds))
theorem fV.all{K:AA1}{fd:FuncData}{ps:List Str}(h:∀us:List Value,us.length=ps.length->bindArgs fd ⟨us,[]⟩=pure (ps.zip us)):fV K fd ps []:=λs us _ hl=>by
 rw[AAq]at hl ⊢
 exact .of_eq (h us hl)
def qH(CX:CXT)(X:Cx)(E:XK):Prop:=∀(pins:List (Addr×Obj)) (σ:St) (H:Hp) (s:Shared) (e:Value) (s':Shared),Inv X pins σ H s->CX X.stack H s E e s'->X.xe e s'
theorem Da(F:FnOk X.prog X.w X.K X.mg X.base CX k f fd ps sp)(hr:Room k X.A)(hb:fV X.K fd ps ds)(hd:ay dvs ds)(hx:qH CX X E)
  (I:Inv X pins σ H s) (r:ay vs us) (h:sp (vs++dvs) H Q E):wpAny (model X.prog X.w) X.A (call (.ref f) us) (EP X pins σ Q) X.xe s:=by
 have r2:ay (vs++dvs) (us++ds):=r.append hd
 have hl:(us++ds).length=ps.length:=by rw[<-r2.length];exact F.len _ _ _ _ h
 refine AEC (ACu (F.run X.A X.stack s H ⟨us,[]⟩ (us++ds) (vs++dvs) Q E hr I.env0 (hb s us I.kIn hl) r2 h) λr s' hq=>?_)
 cases r with
 | error e=>exact hx pins σ H s e s' I hq
 | ok fl =>
  cases fl with
  | ret u=>exact I.after hq
  | next=>exact ABN hq
  | brk=>exact ABN hq
  | cont=>exact ABN hq
theorem Ai(F:FnOk X.prog X.w X.K X.mg X.base CX k f fd ps sp)(hr:Room k X.A)(hg:Gl X x)(hm:X.mg x=some (.ref f))(hk:ABk X.K (.ref f)=true)(hb:fV X.K fd ps ds)(hd:ay dvs ds)(hx:qH CX X E)
  (ha:PA X (e::es) t) (hdb:(x==("__debug__":Str))=false:=by decide) (he:starEach (e::es) X.env=(false,eval e X.env)::starEach es X.env:=by rfl) (hpl:(backTo pos (starEach es X.env)).any (·.1)=false:=by rfl) :
  PE X (.Call (.Name x p) (e::es) [] pos) (CS sp dvs E t):=by
 intro pins s σ H Q I h
 refine ABu (fi I hg hm ?_ hdb)
 refine PySem.W.callWith_K (h₀:=X.base) I.ok.mod.kin hk (thn (ha pos pins s σ H _ I h) λus s1 ⟨vs,H1,I1,r,q⟩=>⟨I1.kIn,?_⟩) he hpl
 exact Da F hr hb hd hx I1 r q
structure Mk(K:AA1)(C f:Addr):Prop where
 makes:PySem.W.makesIn K C=true
 init:AAi K (.ref C) "__init__" = some (some (.ref f))
 fn:AER K (.ref f)=true
 kp:ABk K (.ref C)=true
structure KBinds(K:AA1)(fd:FuncData)(ps ks:List Str)(g:List Value->List Value->List Value)(gV:List V->List V->List V):Prop where
 to:∀(s:Shared) (us ws:List Value),K.In s.heap->(g us ws).length=ps.length->BindsTo s fd ⟨us,ks.zip ws⟩ (ps.zip (g us ws))
 rel:∀{vs:List V}{us:List Value}{zs:List V}{ws:List Value},ay vs us->ay zs ws->ay (gV vs zs) (g us ws)
structure FnScope(N P:List Str)(sc:Scope):Prop where
 kind:sc.kind=.function
 co:sc.isCoroutine=false
 gen:sc.isGenerator=false
 nd:N.Nodup
 pre:N.take P.length=P
 par:∀x∈P,sc.names.lookup x=some .local\/sc.names.lookup x=some .cell
 nofree:∀y∈sc.names,y.2≠.free
theorem mH{kindOf:Str->Option NameKind}{x:Str}:∀{binds:List (Str×Value)}{m:Str->Option Value},(∀v,(x,v)∉binds)->bindL kindOf binds m x=m x
 | [],_,_=>rfl
 | (n,v)::r,m,h=>by
  unfold bindL
  rw[mH λw hw=>h w (AA9 _ hw)]
  split
  ·have:x≠n:=by rintro rfl;exact h v AAO
   simp[this]
  ·rfl
theorem mJ{kindOf:Str->Option NameKind}{x:Str}:∀{binds:List (Str×Value)}{m:Str->Option Value},(∀v,(x,v)∉binds)->bindC kindOf binds m x=m x
 | [],_,_=>rfl
 | (n,v)::r,m,h=>by
  unfold bindC
  rw[mJ λw hw=>h w (AA9 _ hw)]
  split
  ·rfl
  ·have:x≠n:=by rintro rfl;exact h v AAO
   simp[this]
theorem mI{kindOf:Str->Option NameKind}{x:Str}{v:Value}:∀{P:List Str}{vs:List Value}{i:Nat}{m:Str->Option Value},P.Nodup->P[i]?=some x->vs[i]?=some v->kindOf x=some .local ->
  bindL kindOf (P.zip vs) m x=some v
 | [],_,_,_,_,h,_,_=>by simp at h
 | _::_,[],_,_,_,_,h,_=>by simp at h
 | p::P,w::vs,0,m,nd,h1,h2,hk=>by
  simp at h1 h2;subst h1;subst h2
  show bindL kindOf ((p,w)::P.zip vs) m p=_
  unfold bindL
  rw[mH λv hv=>(ABn.mp nd).1 (AEE hv).1,if_pos hk]
  simp
 | p::P,w::vs,i+1,m,nd,h1,h2,hk=>by
  show bindL kindOf ((p,w)::P.zip vs) m x=_
  unfold bindL
  exact mI (i:=i) (ABn.mp nd).2 (by simpa using h1) (by simpa using h2) hk
theorem mK{kindOf:Str->Option NameKind}{x:Str}{v:Value}:∀{P:List Str}{vs:List Value}{i:Nat}{m:Str->Option Value},P.Nodup->P[i]?=some x->vs[i]?=some v->kindOf x≠some .local ->
  bindC kindOf (P.zip vs) m x=some v
 | [],_,_,_,_,h,_,_=>by simp at h
 | _::_,[],_,_,_,_,h,_=>by simp at h
 | p::P,w::vs,0,m,nd,h1,h2,hk=>by
  simp at h1 h2;subst h1;subst h2
  show bindC kindOf ((p,w)::P.zip vs) m p=_
  unfold bindC
  rw[mJ λv hv=>(ABn.mp nd).1 (AEE hv).1,if_neg hk]
  simp
 | p::P,w::vs,i+1,m,nd,h1,h2,hk=>by
  show bindC kindOf ((p,w)::P.zip vs) m x=_
  unfold bindC
  exact mK (i:=i) (ABn.mp nd).2 (by simpa using h1) (by simpa using h2) hk
noncomputable def start(N:List Str)(vs:List V):St:=vs.map some++ACL (N.length-vs.length) none
noncomputable def iE(CX:CXT)(P:Program)(w:World)(K:AA1)(mg:Str->Option Value)(base:Heap)(N:List Str)(qual:Str)(scope:Scope)(f:Addr)(cd:Value)(A:Around)(outer:List Env)(s:Shared)(H:Hp)(E:XK):Cx where
 prog:=P
 w:=w
 K:=K
 mg:=mg
 base:=base
 A:=A.deeper (envOfC qual scope s.heap.objs.size f cd)
 N:=N
 s₀:=s
 H₀:=H
 env:=envOfC qual scope s.heap.objs.size f cd
 outer:=outer
 stack:=envOfC qual scope s.heap.objs.size f cd::outer
 ex:=[]
 calm:=true
 fn:=λ_=>true
 pn:=[]
 xe:=λe s'=>wpAny (model P w) (A.deeper (envOfC qual scope s.heap.objs.size f cd)) (leaving (envOfC qual scope s.heap.objs.size f cd) e) (λ_ s''=>CX outer H s E e s'') (λe' s''=>CX outer H s E e' s'') s'
theorem qy{sc:Scope}{n:Nat}{x:Str}(h:sc.names.lookup x=some .cell):∃c,(cellsFrom n sc.names []).lookup x=some c:=by
 have q:=PySem.W.cellsFrom_some sc.names n [] (.inl h)
 exact ABv.mp q
theorem vz{CX:CXT}{P:Program}{w:World}{K:AA1}{mg:Str->Option Value}{base:Heap}{N ps:List Str}{qual:Str}{scope:Scope}{f:Addr}{cd:Value}{A:Around}{outer:List Env}{s s1:Shared}{H:Hp}{E:XK}{us:List Value}{vs:List V}
  (S:FnScope N ps scope) (hd:A.handled=none) (e0:Env0 P w K mg base A outer s H) (hl:vs.length=ps.length) (r:ay vs us)
  (x:InCallC s s.heap.objs.size (bindL (envOfC qual scope s.heap.objs.size f cd).kindOf (ps.zip us) λ_=>none) (cellsFrom (s.heap.objs.size+1) scope.names []) (bindC (envOfC qual scope s.heap.objs.size f cd).kindOf (ps.zip us) λ_=>none) s1) :
  Inv (iE CX P w K mg base N qual scope f cd A outer s H E) [] (start N vs) H s1:=by
 have hpl:ps.length<=N.length:=by have:=congrArg AC9 S.pre;rw[AAo]at this;lia
 obtain⟨h1,tk,rfl,hk⟩:=x.done
 have noA:∀b:Addr,b∉(iE CX P w K mg base N qual scope f cd A outer s H E).ex:=λb z=>absurd (show b∈([]:List Addr)from z) (by simp)
 refine⟨⟨e0.mod,S.kind,rfl,rfl,AAB _,λy z c h1 h2=>?_,λy hy=>?_,λy c _ h=>?_,λ_=>hd,Around.frames_deeper e0.frames,.inr ⟨rfl,rfl⟩,λb z=>absurd z (noA b),e0.bs,e0.bsz,λb _ _=>noA b,λb z=>absurd z (noA b),e0.funs,e0.frf⟩,
  rfl,e0.bare,Un.kept hk,⟨_,x.toInCall.ns,λi y v h1 h2 h3=>?_⟩,λy c h=>⟨_,x.cell y c h⟩,e0.hok.fresh (AAB _),λy c h=>?_,λp hp=>absurd (show p∈([]:List (Addr×Obj))from hp) (by simp),e0.hok.kept hk,?_⟩
 ·exact name_of_addr x.apart (ABJ h1) (ABJ h2)
 ·have hy:scope.names.lookup y=some .cell\/scope.names.lookup y=some .free:=hy
  rcases hy with hy | hy
  ·exact qy hy
  ·exact absurd rfl (S.nofree _ (ABJ hy))
 ·exact Nat.le_of_lt (x.above y c (ABJ h))
 ·have hi:i<vs.length:=by
   unfold start at h2
   by_cases hi:i<vs.length
   ·exact hi
   ·rw[AAp (by simpa using hi)]at h2
    rw[ACa]at h2
    split at h2<;>cases h2
  have ha:vs[i]?=some v:=by
   unfold start at h2
   rw[AAJ (by simpa using hi),AAU]at h2
   cases e:vs[i]? with
   | none=>rw[e]at h2;cases h2
   | some a=>rw[e]at h2;cases h2;rfl
  obtain⟨u,hu,rv⟩:=r.get ha
  have hp:ps[i]?=some y:=by
   rw[<-S.pre,ABH (by lia)];exact h1
  have ndP:ps.Nodup:=by rw[<-S.pre];exact S.nd.sublist (AD1 _ _)
  refine⟨u,rv,?_⟩
  rcases S.par y (AAc hp)with k | k
  ·exact .inl ⟨k,mI ndP hp hu k⟩
  ·obtain⟨c,e⟩:=qy (n:=s.heap.objs.size+1) k
   refine .inr ⟨.inl k,c,e,?_⟩
   have q:=x.cell y c e
   rw[mK ndP hp hu (by show scope.names.lookup y≠_;rw[k];decide)]at q
   exact q
 ·exact e0.hok.fresh (Nat.le_of_lt (x.above y c (ABJ h)))
 ·unfold start
  show _=N.length
  rw[AAC,AA6,ACv]
  lia
theorem Fa{CX:CXT}{P:Program}{w:World}{K:AA1}{mg:Str->Option Value}{base:Heap}{k:Nat}{f:Addr}{name qual:Str}{params:Arguments}{body:List Stmt}{scope:Scope}{dV kV doc pm cdv ct oc:Value}{an od:Option Addr}
  {osl:Array (Option Value)}{N ps:List Str}{sp:Sp} (lk:K.lookup f=some ⟨oc,od,.func (AC6 name qual params body scope dV kV doc pm an cdv ct),osl⟩) (hcd:ADw K cdv qual=true) (S:FnScope N ps scope)
  (len:∀vs H Q E,sp vs H Q E->vs.length=ps.length)
  (hbody:∀(A:Around) (outer:List Env) (s:Shared) (H:Hp) (vs:List V) (Q:VK) (E:XK),Room k (A.deeper (envOfC qual scope s.heap.objs.size f cdv))->sp vs H Q E ->
   ∃t,PSs (iE CX P w K mg base N qual scope f cdv A outer s H E) body t/\t { nx:=λ_ H'=>Q .non H',rt:=Q } (start N vs) H) :
  FnOk P w K mg base CX (k+1) f (AC6 name qual params body scope dV kV doc pm an cdv ct) ps sp:=by
 refine⟨len,λA outer s H args us vs Q E hr e0 hb r hsp=>?_⟩
 have hl:=len _ _ _ _ hsp
 have KX:K.In s.heap:=e0.mod.kin.keeps λb o e=>(e0.bs b o e).1
 have lim:s.heap.NoLimit:=e0.mod.nolimit.keeps λb o e=>(e0.bs b o e).1
 have hkind:∀y∈ps.zip us,scope.names.lookup y.1=some .local\/(scope.names.lookup y.1=some .cell/\((cellsFrom (s.heap.objs.size+1) scope.names []).lookup y.1).isSome=true):=λ⟨n,v⟩ hy=>by
  rcases S.par n (AEE hy).1 with q | q
  ·exact .inl q
  ·exact .inr ⟨q,PySem.W.cellsFrom_some _ _ _ (.inl q)⟩
 refine codeAny_call_function hr.depth (KX _ _ lk) rfl S.co S.gen rfl (PySem.W.codeRec_of KX hcd) (hb _ _ _ _ ?_)
 refine wpAny_newFunctionEnv_cells S.kind hkind λenv he s1 x=>?_
 subst he
 refine⟨lim.keeps x.toInCall.keep,codeAny_func ?_⟩
 obtain⟨t,ht,hq⟩:=hbody A outer s H vs Q E (hr.deeper _) hsp
 have I:Inv (iE CX P w K mg base N qual scope f cdv A outer s H E) [] (start N vs) H s1:=vz S hr.hd e0 hl r x
 refine AAl (ht [] s1 (start N vs) H _ I hq) (λfl s' hs=>?_) λe s' hs=>hs
 have fin:∀{σ':St}{H':Hp}{v:V}{u:Value},Inv (iE CX P w K mg base N qual scope f cdv A outer s H E) [] σ' H' s'->aR v u->Q v H'->CE outer P w H s Q u s' :=
  λ{σ' H' v u} J rv q=>⟨v,H',J.os,J.bare,J.base,J.hok,rv,q⟩
 cases fl with
 | ret u =>
  obtain⟨v,σ',H',J,rv,q⟩:=hs
  exact fin J rv q
 | next =>
  obtain⟨σ',H',J,q⟩:=hs
  exact fin (v:=V.non) (u:=ABB) J rfl q
 | brk =>
  obtain⟨_,_,_,q⟩:=hs
  exact ABN q
 | cont =>
  obtain⟨_,_,_,q⟩:=hs
  exact ABN q
def tCB(r:List V->Hp->VK->Prop)(t:TA):TE:=λσ H Q=>t σ H λvs H1=>r vs H1 Q
theorem jF{X:Cx}{x:Str}{p pos:Pos}{e:Expr}{es:List Expr}{t:TA}{id:String}{r:List V->Hp->VK->Prop}(hc:cQ X (.builtin id) r)(hg:Gl X x)(hm:X.mg x=none)(hv:bootBuiltins x=some (.builtin id))(ha:PA X (e::es) t)(hn:x≠"__name__":=by decide)(hdb:(x==("__debug__":Str))=false:=by decide)
  (he:starEach (e::es) X.env=(false,eval e X.env)::starEach es X.env:=by rfl) (hpl:(backTo pos (starEach es X.env)).any (·.1)=false:=by rfl):PE X (.Call (.Name x p) (e::es) [] pos) (tCB r t):=by
 intro pins s σ H Q I h
 refine ABu (fB I hg hm hv ?_ hn hdb)
 exact PyProof.Rows.callWith_builtin1 (thn (ha pos pins s σ H _ I h) λus s1 ⟨vs,H1,I1,r1,q1⟩=>hc pins s1 σ H1 vs us Q I1 r1 q1) he hpl
theorem tZ(hc:cQ X (.type T) r)(hg:Gl X x)(hm:X.mg x=none)(hv:bootBuiltins x=some (.type T))(ha:PA X (e::es) t)(hn:x≠"__name__":=by decide)(hdb:(x==("__debug__":Str))=false:=by decide)
  (he:starEach (e::es) X.env=(false,eval e X.env)::starEach es X.env:=by rfl) (hpl:(backTo pos (starEach es X.env)).any (·.1)=false:=by rfl):PE X (.Call (.Name x p) (e::es) [] pos) (tCB r t):=by
 intro pins s σ H Q I h
 refine ABu (fB I hg hm hv ?_ hn hdb)
 exact ACt (thn (ha pos pins s σ H _ I h) λus s1 ⟨vs,H1,I1,r1,q1⟩=>hc pins s1 σ H1 vs us Q I1 r1 q1) he hpl
end L2
namespace HT
open PySem PyProof.Rows
theorem rcLt_int(A:Around)(s:Shared)(a:Int)(t:Tok)(c:Int)(u:Tok)(prog:Program)(w:World)(E:Value->Shared->Prop)(Q:Value->Shared->Prop)(h:Q (.bool (decide (a<c))) s) :
  wpAny (model prog w) A (richCompare .Lt (.int a t) (.int c u)) Q E s :=
 (PyProof.Rows.lt_int h:wpAny (model prog w) A (compareOp .Lt (.int a t) (.int c u)) Q E s)
theorem cat_tup(ht:IsTup s.heap t vs.toArray)(hb:IsTup s.heap b ws.toArray)(hv:vs≠[])
  (h1:ws=[]->Q (.ref t) s) (h2:ws≠[]->Q (.ref s.heap.objs.size) { s with heap:=s.heap.push { cls:=.type "tuple",data:=.seq (vs++ws).toArray } })
  (hsz:vs.length+ws.length<=sizeLine):wpAny (model prog w) A (binaryOp .Add (.ref t) (.ref b)) Q E s:=by
 obtain⟨⟨cls,dd,data,sl⟩,ho,hc,n,hd⟩:=id ht
 obtain⟨⟨cls2,dd2,data2,sl2⟩,ho2,hc2,n2,hd2⟩:=id hb
 simp only at hc hd hc2 hd2
 subst hc hd hc2 hd2
 have e:vs.toArray++ws.toArray=(vs++ws).toArray:=by simp
 by_cases hw:ws=[]
 ·exact concat_meets ⟨_,ho,rfl⟩ ⟨_,ho2,rfl⟩ noFill_tuple_add seq_tuple_add ADj ADU (ADO _ _)
   (tuple_addW1 t b vs.toArray ws.toArray n n2 dd dd2 sl sl2 (by simpa using hv) (by simp[hw])) ⟨ho,ho2,h1 hw⟩
 ·refine concat_meets ⟨_,ho,rfl⟩ ⟨_,ho2,rfl⟩ noFill_tuple_add seq_tuple_add ADj ADU (ADO _ _)
   (tuple_addW2 t b vs.toArray ws.toArray n n2 dd dd2 sl sl2 (by simpa using hv) (by simpa using hw) (by rw[AAA,AAA];exact hsz)) ⟨ho,ho2,?_⟩
  rw[e]
  exact h2 hw
noncomputable def sIx(n d:Nat):Option Int->Nat
 | none=>d
 | some v=>if v<0 then(v+(n:Int)).toNat else min v.toNat n
theorem sIx_none(n d:Nat):sIx n d none=d:=rfl
theorem sIx_nat(n d k:Nat):sIx n d (some (k:Int))=min k n:=by
 show (if (k:Int)<0 then((k:Int)+(n:Int)).toNat else min (k:Int).toNat n)=min k n
 rw[if_neg (by lia),ABh]
theorem CZ(n d:Nat)(hd:d<=n)(o:Option Int):sIx n d o<=n:=by
 cases o with
 | none=>exact hd
 | some v =>
  show (if v<0 then(v+(n:Int)).toNat else min v.toNat n)<=n
  by_cases hv:v<0
  ·rw[if_pos hv];lia
  ·rw[if_neg hv];exact Nat.min_le_right _ _
theorem wf(v:Int)(n d:Nat):(if v<0 then max (v+(n:Int)) 0 else min v (n:Int))=((sIx n d (some v):Nat):Int):=by
 show (if v<0 then max (v+(n:Int)) 0 else min v (n:Int))=(((if v<0 then(v+(n:Int)).toNat else min v.toNat n):Nat):Int)
 by_cases hv:v<0
 ·simp only[if_pos hv];lia
 ·simp only[if_neg hv];lia
theorem sd(lo hi:Option Int)(n:Nat):ADB lo hi 1 (n:Int)=(((sIx n 0 lo:Nat):Int),((sIx n n hi:Nat):Int)):=by
 have h1:¬((1:Int)<0):=by lia
 unfold ADB
 simp only[h1,if_false]
 refine Prod.ext ?_ ?_
 ·cases lo with
  | none=>rfl
  | some v=>exact wf v n 0
 ·cases hi with
  | none=>rfl
  | some v=>exact wf v n n
theorem qX(i j:Nat):ACM (i:Int) (j:Int) 1=j-i:=by
 unfold ACM
 have h1:(1:Int) > 0:=by lia
 simp only[h1,if_true,Int.ediv_one]
 split<;>lia
theorem iW(p:IsPart v o)(h:Q o s):wpAny (model prog w) A (Builtin.Slice.slicePartIndex v) Q E s:=by
 cases p with
 | none=>exact slicePart_none h
 | int i t=>exact slicePart_int h
theorem cL{sl:Addr}{vl vu:Value}{lo hi:Option Int}{n:Nat}{Q:Int×Int×Nat->Shared->Prop}(hs:s.heap.IsSliceOf sl vl vu .none)(pl:IsPart vl lo)(pu:IsPart vu hi)
  (h:Q (((sIx n 0 lo:Nat):Int),1,sIx n n hi-sIx n 0 lo) s):wpAny (model prog w) A (AEQ (.ref sl) (pure (n:Int))) Q E s:=by
 obtain⟨os,hos,hcs,hds⟩:=id hs
 unfold AEQ Builtin.Slice.sliceFields
 refine AA0 (AA0 (ABZ hos hds (x:=vl) rfl (AA0 (ABZ hos hds (x:=vu) rfl (AA0 (ABZ hos hds (x:=.none) rfl (AA3 ?_)))))))
 refine AA0 (slicePart_none ?_)
 show wpAny _ _ (if ((1:Int)==0)=true then _ else _) _ _ s
 rw[if_neg (by decide)]
 refine AA0 (iW pl (AA0 (iW pu (AA0 (AA3 ?_)))))
 show wpAny _ _ (match ADB lo hi 1 (n:Int)with | (lo,hi)=>pure (lo,(1:Int),ACM lo hi 1)) _ _ s
 rw[sd lo hi n]
 show wpAny _ _ (pure (((sIx n 0 lo:Nat):Int),(1:Int),ACM ((sIx n 0 lo:Nat):Int) ((sIx n n hi:Nat):Int) 1)) _ _ s
 rw[qX]
 exact AA3 h
theorem xa(xs:Array Value)(i k:Nat):((AAx k).filterMap λ(m:Nat)=>xs[((i:Int)+(m:Int)*1).toNat]?).toArray=((xs.toList.drop i).take k).toArray:=by
 have e:(λ(m:Nat)=>xs[((i:Int)+(m:Int)*1).toNat]?)=λm=>xs[i+m]?:=by
  funext m
  have:((i:Int)+(m:Int)*1).toNat=i+m:=by lia
  rw[this]
 rw[e]
 have:=pick_run xs i k
 rw[List.filterMap_map]at this
 have e2:((λx=>xs[x]?) ∘ λx=>i+x)=λm=>xs[i+m]?:=rfl
 rw[e2]at this
 rw[this]
theorem getItem_tuple_cut{t sl:Addr}{items:Array Value}{vl vu:Value}{lo hi:Option Int}{Q:Value->Shared->Prop}(ht:IsTup s.heap t items)(hs:s.heap.IsSliceOf sl vl vu .none)(pl:IsPart vl lo)(pu:IsPart vu hi)
  (hw:¬(sIx items.size 0 lo=0/\sIx items.size items.size hi=items.size))
  (h:Q (.ref s.heap.objs.size) { s with heap:=s.heap.push { cls:=.type "tuple",data:=.seq ((items.toList.drop (sIx items.size 0 lo)).take (sIx items.size items.size hi-sIx items.size 0 lo)).toArray } })
  (hsz:items.size<=sizeLine):wpAny (model prog w) A (getItem (.ref t) (.ref sl)) Q E s:=by
 have htake:sizeOk (.seq ((items.toList.drop (sIx items.size 0 lo)).take (sIx items.size items.size hi-sIx items.size 0 lo)).toArray):=by
  show ((items.toList.drop (sIx items.size 0 lo)).take (sIx items.size items.size hi-sIx items.size 0 lo)).toArray.size<=sizeLine
  rw[AAA,AAo,ACf,ABg]
  lia
 have hj:sIx items.size items.size hi<=items.size:=CZ _ _ (AAB _) hi
 obtain⟨os,hos,hcs,hds⟩:=id hs
 have hTs:s.TypeIs (.ref sl) "slice":=⟨os,hos,hcs⟩
 unfold getItem
 try with_reducible refine AAW ?_
 first | refine AA0 (AA3 ?_) | skip
 refine AA0 (wpAny_sequenceKey ht.typeIs (by decide) ?_)
 refine AA0 (AAz (name:=AA2 "__getitem__") ht.typeIs AB4
  (AAu AB4 ht.typeIs entry_tuple_getitem ?_ (args_tuple_getitem _ _)))
 show wpAny _ _ (AD7 (.ref t) >>= _) _ _ s
 refine AA0 (tupleItemsOf_ ht ?_)
 refine AA0 (ACx hTs ?_)
 rw[if_pos (by decide)]
 refine AA0 (cL hs pl pu ?_)
 have hno:¬((((sIx items.size 0 lo:Nat):Int)==0&&(1:Int)==1&&(sIx items.size items.size hi-sIx items.size 0 lo)==items.size)=true):=by
  intro q
  rw[AAK,AAK]at q
  have q1:((sIx items.size 0 lo:Nat):Int)=0:=eq_of_beq q.1.1
  have q2:sIx items.size items.size hi-sIx items.size 0 lo=items.size:=eq_of_beq q.2
  exact hw ⟨by lia,by lia⟩
 show wpAny _ _ (if (((sIx items.size 0 lo:Nat):Int)==0&&(1:Int)==1&&(sIx items.size items.size hi-sIx items.size 0 lo)==items.size)=true then _ else _) _ _ s
 rw[if_neg hno,xa]
 first
  | exact AA0 (m:=ACS _) (AAa (AA3 ⟨_,rfl,AA3 h⟩) htake)
  | exact AA0 (m:=ACS _) (AAa (AA0 (AA3 (AA3 ⟨_,rfl,AA3 h⟩))) htake)
  | exact AA0 (AA0 (m:=ACS _) (AAa (AA3 (AA3 ⟨_,rfl,AA3 h⟩)) htake))
  | exact AA0 (AA0 (m:=ACS _) (AAa (AA3 ⟨_,rfl,AA3 h⟩) htake))
end HT
namespace L2
open PySem PySem.Spec PyProof.Rows
abbrev TO:=St->Hp->(Option Int->Hp->Prop)->Prop
def PO(X:Cx)(e:Option Expr)(t:TO):Prop :=
 ∀(pins:List (Addr×Obj)) (s:Shared) (σ:St) (H:Hp) (Q:Option Int->Hp->Prop),Inv X pins σ H s->t σ H Q ->
  wpAny (model X.prog X.w) X.A (evalPart e X.env) (λu s'=>∃o H',Inv X pins σ H' s'/\IsPart u o/\Q o H') X.xe s
def zH:TO:=λ_ H Q=>Q none H
def tPart(t:TE):TO:=λσ H Q=>t σ H λx H1=>∃i,x=.int i/\Q (some i) H1
section
variable{X:Cx}{e:Expr}{te:TE}{lo hi:Option Expr}{tl th:TO}{pos p2:Pos}
theorem Ac:PO X none zH:=by
 intro pins s σ H Q I h
 rw[evalPart_none]
 exact AA3 ⟨none,H,I,.none,h⟩
theorem Ab(h:PE X e te):PO X (some e) (tPart te):=by
 intro pins s σ H Q I hw
 rw[evalPart_some]
 refine thn (h pins s σ H _ I hw) ?_
 rintro u s1 ⟨x,H1,I1,r1,q1⟩
 obtain⟨i,rfl,q⟩:=q1
 obtain⟨t,rfl⟩:=r1
 exact⟨some i,H1,I1,.int i t,q⟩
def SlR(X:Cx)(r:V->Option Int->Option Int->Hp->VK->Prop):Prop :=
 ∀(pins:List (Addr×Obj)) (s:Shared) (σ:St) (H:Hp) (x:V) (v vl vu:Value) (lo hi:Option Int) (sl:Addr) (Q:VK),Inv X pins σ H s->aR x v->s.heap.IsSliceOf sl vl vu .none->IsPart vl lo->IsPart vu hi->r x lo hi H Q ->
  ∃T id,typeLookup (.type T) "__getitem__" = pure (some (.builtin id))/\s.TypeIs v T/\wpAny (model X.prog X.w) X.A (getItem v (.ref sl)) (EP X pins σ Q) X.xe s
def tSl(r:V->Option Int->Option Int->Hp->VK->Prop)(te:TE)(tl th:TO):TE:=λσ H Q=>te σ H λx H1=>tl σ H1 λl H2=>th σ H2 λu H3=>r x l u H3 Q
theorem xc(hr:SlR X r)(he:PE X e te)(hl:PO X lo tl)(hu:PO X hi th):PE X (.Subscript e (.Slice lo hi none p2) pos) (tSl r te tl th):=by
 intro pins s σ H Q I h
 refine Subscript_ (thn (he pins s σ H _ I h) ?_)
 rintro v s1 ⟨x,H1,I1,r1,q1⟩
 refine wpAny_Slice (thn (hl pins s1 σ H1 _ I1 q1) ?_)
 rintro vl s2 ⟨l,H2,I2,pl,q2⟩
 refine thn (hu pins s2 σ H2 _ I2 q2) ?_
 rintro vu s3 ⟨u,H3,I3,pu,q3⟩
 rw[evalPart_none]
 refine AA3 ?_
 have I4:Inv X pins σ H3 { s3 with heap:=s3.heap.push { cls:=.type "slice",data:=.fields #[vl,vu,.none] } }:=I3.kept (t':=s3.toks) λb ob q=>AA4 _ q
 obtain⟨T,id,hT,ht,hg⟩:=hr pins { s3 with heap:=s3.heap.push { cls:=.type "slice",data:=.fields #[vl,vu,.none] } } σ H3 x v vl vu l u s3.heap.objs.size Q I4 r1 (Heap.IsSliceOf.new ..) pl pu q3
 show wpAny (model X.prog X.w) X.A (subscriptTail e (.Slice lo hi none p2) v (.ref s3.heap.objs.size)) (EP X pins σ Q) X.xe { s3 with heap:=s3.heap.push { cls:=.type "slice",data:=.fields #[vl,vu,.none] } }
 exact tail_any (ops:=[.ref s3.heap.objs.size,v]) ht hT hg (by with_unfolding_all rfl)
noncomputable def zr(xs:List V)(lo hi:Option Int):List V:=(xs.drop (HT.sIx xs.length 0 lo)).take (HT.sIx xs.length xs.length hi-HT.sIx xs.length 0 lo)
theorem iA(xs:List V)(lo hi:Option Int):(zr xs lo hi).length<=xs.length:=by
 unfold zr
 rw[AAo,ACf]
 lia
def rSlT(K:AA1):V->Option Int->Option Int->Hp->VK->Prop:=λx lo hi H Q=>∃a xs,x=.ref a/\SqT K H a xs /\
 ¬(HT.sIx xs.length 0 lo=0/\HT.sIx xs.length xs.length hi=xs.length)/\∀p,H p=none->Q (.ref p) (upd H p (.tup (zr xs lo hi)))
theorem CW:SlR X (rSlT X.K):=by
 intro pins s σ H x v vl vu lo hi sl Q I rx hs pl pu h
 obtain⟨a,xs,rfl,hx,hw,q⟩:=h
 cases rx
 obtain⟨its,r,ht,hz⟩:=I.tuple hx
 have hlen:its.toArray.size=xs.length:=by rw[AAA];exact r.length.symm
 refine⟨"tuple",_,AB4.lookup,ht.typeIs,?_⟩
 refine HT.getItem_tuple_cut ht hs pl pu (by rw[hlen];exact hw) ?_ (by rw[hlen];exact hz)
 rw[hlen]
 refine⟨.ref s.heap.objs.size,_,I.laid (t':=s.toks) (o:=.tup (zr xs lo hi)) (λb ob q=>AA4 _ q) (AAB _) ?_,rfl,q _ (I.hok.fresh (AAB _))⟩
 exact⟨AAh (iA xs lo hi) hz,_,(r.drop (HT.sIx xs.length 0 lo)).take (HT.sIx xs.length xs.length hi-HT.sIx xs.length 0 lo),zu.new _ _⟩
def rCatT(K:AA1):R2:=λx y H Q=>∃a b xs ys,x=.ref a/\y=.ref b/\SqT K H a xs/\SqT K H b ys/\xs≠[]/\xs.length+ys.length<=sizeLine /\
 (ys=[]->Q (.ref a) H)/\(ys≠[]->∀p,H p=none->Q (.ref p) (upd H p (.tup (xs++ys))))
theorem ay.nil_iff(r:ay xs us):us=[]↔xs=[]:=by
 cases r with
 | nil=>simp
 | cons _ _=>simp
theorem As:OpR X (binaryOp .Add) (rCatT X.K):=by
 intro pins s σ H x y v u Q I rx ry h
 obtain⟨a,b,xs,ys,rfl,rfl,ha,hb,hx,hz,q1,q2⟩:=h
 cases rx
 cases ry
 obtain⟨its,r1,p1,_⟩:=I.tuple ha
 obtain⟨its2,r2,p2,_⟩:=I.tuple hb
 refine HT.cat_tup p1 p2 (λz=>hx (r1.nil_iff.mp z)) (λz=>⟨.ref a,H,I,rfl,q1 (r2.nil_iff.mp z)⟩) (λz=>?_) (by rw[<-r1.length,<-r2.length];exact hz)
 refine⟨.ref s.heap.objs.size,_,I.laid (t':=s.toks) (o:=.tup (xs++ys)) (λb ob q=>AA4 _ q) (AAB _) ?_,rfl,q2 (λw=>z (r2.nil_iff.mpr w)) _ (I.hok.fresh (AAB _))⟩
 exact⟨by rw[AAC];exact hz,_,r1.append r2,zu.new _ _⟩
end
noncomputable def ixN(n:Nat)(i:Int):Option Nat:=if 0<=i then(if i<n then some i.toNat else none)else if -(n:Int)<=i then some (i+n).toNat else none
noncomputable def atI{α:Type}(xs:List α)(i:Int):Option α:=(ixN xs.length i).bind λj=>xs[j]?
theorem vt(h:ixN n i=some j):seqIndex? i n=some j/\j<n/\-(n:Int)<=i/\i<n:=by
 unfold ixN at h
 by_cases h0:0<=i
 ·rw[if_pos h0]at h
  by_cases h1:i<n
  ·rw[if_pos h1]at h
   have e:i.toNat=j:=AAM h
   exact⟨by rw[seqIndex_of h0 h1,e],by lia,by lia,h1⟩
  ·rw[if_neg h1]at h;cases h
 ·rw[if_neg h0]at h
  by_cases h1:-(n:Int)<=i
  ·rw[if_pos h1]at h
   have e:(i+n).toNat=j:=AAM h
   exact⟨by rw[seqIndex_neg (by lia) h1,e],by lia,h1,by lia⟩
  ·rw[if_neg h1]at h;cases h
theorem oM{α:Type}{xs:List α}{i:Int}{v:α}(h:atI xs i=some v):∃j,seqIndex? i xs.length=some j/\xs[j]?=some v/\j<xs.length/\-(xs.length:Int)<=i/\i<xs.length:=by
 unfold atI at h
 cases e:ixN xs.length i with
 | none=>rw[e]at h;cases h
 | some j =>
  rw[e]at h
  obtain⟨h1,h2,h3,h4⟩:=vt e
  exact⟨j,h1,h,h2,h3,h4⟩
theorem aN{α:Type}{xs:List α}{j:Nat}{v:α}(h:xs[j]?=some v):atI xs (j:Int)=some v:=by
 have hj:j<xs.length:=(AA5.mp h).1
 have e:ixN xs.length (j:Int)=some j:=by
  unfold ixN
  rw[if_pos (by lia),if_pos (by lia)];simp
 unfold atI;rw[e];exact h
def oO(b:Expr):Prop:=∀o i,subscripted b false o i=operate [o,i] (getItem o i)
def IxR(X:Cx)(r:R2):Prop :=
 ∀(value slice:Expr) (pins:List (Addr×Obj)) (s:Shared) (σ:St) (H:Hp) (x y:V) (v u:Value) (Q:VK),Inv X pins σ H s->aR x v->aR y u->r x y H Q ->
  subscripted slice false v u=operate [v,u] (getItem v u)->wpAny (model X.prog X.w) X.A (subscriptTail value slice v u) (EP X pins σ Q) X.xe s
def MtR(X:Cx)(id:String)(r:V->List V->Hp->VK->Prop):Prop :=
 ∀(pins:List (Addr×Obj)) (s:Shared) (σ:St) (H:Hp) (x:V) (xs:List V) (v:Value) (us:List Value) (Q:VK),Inv X pins σ H s->aR x v->ay xs us->r x xs H Q ->
  wpAny (model X.prog X.w) X.A (call (.builtin id) (v::us)) (EP X pins σ Q) X.xe s
section
variable{X:Cx}{a b:Expr}{ta tb:TE}{pos:Pos}
theorem IxR.or(h:IxR X r)(h':IxR X r'):IxR X (λx y H Q=>r x y H Q\/r' x y H Q):=by
 intro value slice pins s σ H x y v u Q I rx ry q hs
 rcases q with q | q
 ·exact h value slice pins s σ H x y v u Q I rx ry q hs
 ·exact h' value slice pins s σ H x y v u Q I rx ry q hs
theorem pe_ix(hr:IxR X r)(ha:PE X a ta)(hb:PE X b tb)(hs:oO b):PE X (.Subscript a b pos) (tOp r ta tb):=by
 intro pins s σ H Q I h
 exact Subscript_ (binT ha hb I h λv u s2 x y H2 I2 rx ry q=>hr a b pins s2 σ H2 x y v u Q I2 rx ry q (hs _ _))
def rIxL(K:AA1):R2:=λx y H Q=>∃p xs i v,x=.ref p/\y=.int i/\SqL K H p xs/\atI xs i=some v/\Q v H
def rIxT(K:AA1):R2:=λx y H Q=>∃p xs i v,x=.ref p/\y=.int i/\SqT K H p xs/\atI xs i=some v/\Q v H
def rIxS:R2:=λx y H Q=>∃z i c,x=.str z/\y=.int i/\z.length<=sizeLine/\atI z.cps.toList i=some c/\Q (.str ⟨#[c]⟩) H
theorem Bq:IxR X (rIxL X.K):=by
 intro value slice pins s σ H x y v u Q I rx ry h hs
 obtain⟨p,xs,i,z,rfl,rfl,hq,he,q⟩:=h
 cases rx
 obtain⟨t,rfl⟩:=ry
 obtain⟨its,r,pl,hz⟩:=I.list hq
 obtain⟨j,h1,h2,h3,h4,h5⟩:=oM he
 obtain⟨w,ew,rw'⟩:=r.get h2
 have hl:=r.length
 have hn:=jg
 have fin:EP X pins σ Q w s:=⟨z,H,I,rw',q⟩
 by_cases h0:0<=i
 ·have hj:i.toNat=j:=by
   rw[seqIndex_of h0 h5]at h1
   exact AAM h1
  exact item_listR pl.isList h0 (by lia) (by rw[hj];simpa using ew) fin hs
 ·have hj:(i+(its.toArray.size:Int)).toNat=j:=by
   rw[seqIndex_neg (by lia) h4]at h1
   rw[AAA,<-hl]
   exact AAM h1
  exact subscriptTail_builtinR (x:=w) pl.isList.typeIs slot_list_getitem.lookup
   (wpAny_getItem_list_neg (Q:=λr s'=>r=w/\EP X pins σ Q r s') pl.isList (by lia) (by rw[AAA]<;>lia) (by lia) (by rw[hj];simpa using ew) ⟨rfl,fin⟩) hs
theorem EI:IxR X (rIxT X.K):=by
 intro value slice pins s σ H x y v u Q I rx ry h hs
 obtain⟨p,xs,i,z,rfl,rfl,hq,he,q⟩:=h
 cases rx
 obtain⟨t,rfl⟩:=ry
 obtain⟨its,r,pl,hz⟩:=I.tuple hq
 obtain⟨j,h1,h2,h3,h4,h5⟩:=oM he
 obtain⟨w,ew,rw'⟩:=r.get h2
 have hl:=r.length
 have hn:=jg
 have fin:EP X pins σ Q w s:=⟨z,H,I,rw',q⟩
 exact subscriptTail_builtinR (x:=w) pl.typeIs slot_tuple_getitem.lookup
  (getItem_tuple (j:=j) (Q:=λr s'=>r=w/\EP X pins σ Q r s') pl (by lia) (by lia) (by rw[AAA,<-hl];exact h1) (by simpa using ew) ⟨rfl,fin⟩) hs
theorem EJ:IxR X rIxS:=by
 intro value slice pins s σ H x y v u Q I rx ry h hs
 obtain⟨z,i,c,rfl,rfl,hz,he,q⟩:=h
 obtain⟨t,rfl⟩:=rx
 obtain⟨t',rfl⟩:=ry
 obtain⟨j,h1,h2,h3,h4,h5⟩:=oM he
 have hl:z.cps.toList.length=z.length:=by simp[Str.length]
 rw[hl]at h1 h4 h5
 have hn:=jg
 exact tail_any (typeIs_str s z t) slot_str_getitem.lookup (getItem_str (c:=c) (by
  have e1:decide (i < -(2 ^ 63:Int))=false:=dF_ (by lia)
  have e2:decide (i ≥ 2 ^ 63)=false:=dF_ (by lia)
  rw[e1,e2,Bool.or_false]) (by rw[h1];simpa using h2) ⟨.str ⟨#[c]⟩,H,I.tok _,⟨_,rfl⟩,q⟩) hs
def rIx(K:AA1):R2:=λx y H Q=>rIxL K x y H Q\/rIxT K x y H Q\/rIxS x y H Q
theorem EK:IxR X (rIx X.K):=Bq.or (EI.or EJ)
theorem rz(its:List Value)(n j:Nat)(u:Value):AB2 (·.setIfInBounds j u) { cls:=.type "list",data:=.seq its.toArray n }={ cls:=.type "list",data:=.seq (its.set j u).toArray n }:=by
 simp[AB2]
theorem Inv.lst(I:Inv X pins σ H s)(h:H p=some (.lst xs)) :
  ∃(its:List Value) (n:Nat),ay xs its/\s.heap.get? p=some { cls:=.type "list",data:=.seq its.toArray n }/\xs.length<=sizeLine:=by
 obtain⟨z,its,n,r,e⟩:=I.hok p _ h
 exact⟨its,n,r,e,z⟩
theorem Inv.lstUpd{pins:List (Addr×Obj)}{σ:St}{H:Hp}{s:Shared}{p:Addr}{xs ys:List V}{its its':List Value}{n n':Nat}{f:Obj->Obj}(I:Inv X pins σ H s)(h:H p=some (.lst xs))
  (ho:s.heap.get? p=some { cls:=.type "list",data:=.seq its.toArray n }) (hf:f { cls:=.type "list",data:=.seq its.toArray n }={ cls:=.type "list",data:=.seq its'.toArray n' }) (r:ay ys its') (hz:ys.length<=sizeLine) (t:Nat) :
  Inv X pins σ (upd H p (.lst ys)) { s with heap:=s.heap.update p f,toks:=t }:=by
 have e:(s.heap.update p f).get? p=some { cls:=.type "list",data:=.seq its'.toArray n' }:=by
  rw[AAd f ho (by rw[hf]<;>rfl),hf]
 refine I.write (x:=p) (e:=p) (by rw[h];trivial) (.inl rfl) (λb u hb q=>(AAj _ _ (ABG hb)).trans q) ⟨_,e⟩ ?_
 exact⟨hz,its',n',r,e⟩
def rSetL:V->V->V->Hp->(Hp->Prop)->Prop:=λo i v H Q=>∃p xs k j,o=.ref p/\i=.int k/\H p=some (.lst xs)/\ixN xs.length k=some j/\Q (upd H p (.lst (xs.set j v)))
theorem wT:PSet X rSetL:=by
 intro pins s σ H o i v ov iv u Q I ro ri rv h
 obtain⟨p,xs,k,j,rfl,rfl,hp,hj,q⟩:=h
 cases ro
 obtain⟨t,rfl⟩:=ri
 obtain⟨its,n,r,ho,hz⟩:=I.lst hp
 obtain⟨h1,h2,h3,h4⟩:=vt hj
 have hl:=r.length
 have hn:=jg
 have I':Inv X pins σ (upd H p (.lst (xs.set j v))) { s with heap:=s.heap.update p (AB2 (·.setIfInBounds j u)) } :=
  I.lstUpd hp ho (rz its n j u) (r.set rv j) (by rw[AB5];exact hz) s.toks
 by_cases h0:0<=k
 ·have hk:k.toNat=j:=by
   rw[seqIndex_of h0 h4]at h1
   exact AAM h1
  exact PySem.W.ki_setAt ho h0 (by lia) (by rw[AAA,<-hl];exact h4) (by rw[hk];exact⟨_,I',q⟩)
 ·have hk:(k+(its.toArray.size:Int)).toNat=j:=by
   rw[seqIndex_neg (by lia) h3]at h1
   rw[AAA,<-hl]
   exact AAM h1
  exact PySem.W.ki_setBack ho (by lia) (by rw[AAA,<-hl];exact h3) (by lia) (by rw[hk];exact⟨_,I',q⟩)
theorem lv(lo hi:Option Int)(n:Nat):(sliceBounds lo hi none n).1=((HT.sIx n 0 lo:Nat):Int)/\(sliceBounds lo hi none n).2.1=((HT.sIx n n hi:Nat):Int)/\(sliceBounds lo hi none n).2.2=1:=by
 refine⟨?_,?_,rfl⟩
 ·cases lo with
  | none=>simp[sliceBounds,HT.sIx]
  | some i =>
   simp only[sliceBounds,HT.sIx,Option.getD_none,show (1:Int) > 0 by decide,if_true]
   by_cases h:i<0
   ·simp only[h,if_true]<;>lia
   ·simp only[h,if_false]<;>lia
 ·cases hi with
  | none=>simp[sliceBounds,HT.sIx]
  | some i =>
   simp only[sliceBounds,HT.sIx,Option.getD_none,show (1:Int) > 0 by decide,if_true]
   by_cases h:i<0
   ·simp only[h,if_true]<;>lia
   ·simp only[h,if_false]<;>lia
theorem jy(its:List Value)(lo hi:Option Int):slicePick its.toArray lo hi none=((its.drop (HT.sIx its.length 0 lo)).take (HT.sIx its.length its.length hi-HT.sIx its.length 0 lo)).toArray:=by
 obtain⟨h1,h2,h3⟩:=lv lo hi its.toArray.size
 unfold slicePick
 rw[h1,h2,h3]
 simp only[sliceRange_one,pick_run,AAA]<;>rfl
def rSlL(K:AA1):V->Option Int->Option Int->Hp->VK->Prop:=λx lo hi H Q=>∃a xs,x=.ref a/\SqL K H a xs/\∀p,H p=none->Q (.ref p) (upd H p (.lst (zr xs lo hi)))
theorem zM:SlR X (rSlL X.K):=by
 intro pins s σ H x v vl vu lo hi sl Q I rx hs pl pu h
 obtain⟨a,xs,rfl,hx,q⟩:=h
 cases rx
 obtain⟨its,r,ht,hz⟩:=I.list hx
 have hlen:=r.length
 refine⟨"list",_,slot_list_getitem.lookup,ht.isList.typeIs,?_⟩
 refine wpAny_getItem_list_slice ht.isList hs pl pu .none (by simp) ?_ (by rw[AAA]<;>lia)
 rw[jy,<-hlen]
 refine⟨.ref s.heap.objs.size,_,I.laid (t':=s.toks) (o:=.lst (zr xs lo hi)) (λb ob q=>AA4 _ q) (AAB _) ?_,rfl,q _ (I.hok.fresh (AAB _))⟩
 exact⟨AAh (iA xs lo hi) hz,_,0,(r.drop (HT.sIx xs.length 0 lo)).take (HT.sIx xs.length xs.length hi-HT.sIx xs.length 0 lo),AAE _ rfl⟩
theorem mG:cQ X (.builtin "len") (λxs H Q=>∃p ys,xs=[.ref p]/\(SqL X.K H p ys\/SqT X.K H p ys)/\Q (.int ys.length) H):=by
 intro pins s σ H xs us Q I r h
 obtain⟨p,ys,rfl,hq,q⟩:=h
 obtain⟨u,rfl,rx⟩:=wN r
 cases rx
 have hn:=jg
 rcases hq with hq | hq
 ·obtain⟨its,r',pl,hz⟩:=I.list hq
  have hlen:=r'.length
  exact Calls.call_len_list pl.isList (by simp only[AAA]<;>lia) ⟨.int ys.length,H,I.tok _,⟨s.toks+1,by rw[AAA,hlen]⟩,q⟩
 ·obtain⟨its,r',pl,hz⟩:=I.tuple hq
  have hlen:=r'.length
  exact len_tuple pl (by simp only[AAA]<;>lia) ⟨.int ys.length,H,I.tok _,⟨s.toks+1,by rw[AAA,hlen]⟩,q⟩
theorem mF:cQ X (.builtin "len") (λxs H Q=>∃z,xs=[.str z]/\z.length<=sizeLine/\Q (.int z.length) H):=by
 intro pins s σ H xs us Q I r h
 obtain⟨z,rfl,hz,q⟩:=h
 obtain⟨u,rfl,t,rfl⟩:=wN r
 have hn:=jg
 exact len_str (by lia) ⟨.int z.length,H,I.tok _,⟨_,rfl⟩,q⟩
theorem cQ.or(h:cQ X f r)(h':cQ X f r'):cQ X f (λxs H Q=>r xs H Q\/r' xs H Q):=by
 intro pins s σ H xs us Q I rs q
 rcases q with q | q
 ·exact h pins s σ H xs us Q I rs q
 ·exact h' pins s σ H xs us Q I rs q
theorem mE:cQ X (.type "list") (λxs H Q=>∃p ys,xs=[.ref p]/\(SqL X.K H p ys\/SqT X.K H p ys)/\∀l,H l=none->Q (.ref l) (upd H l (.lst ys))):=by
 intro pins s σ H xs us Q I r h
 obtain⟨p,ys,rfl,hq,q⟩:=h
 obtain⟨u,rfl,rx⟩:=wN r
 cases rx
 have fin:∀(its:List Value),ay ys its->ys.length<=sizeLine->∀(h':Heap) (c':Nat),(∀b o',s.heap.get? b=some o'->h'.get? b=some o') ->
   h'.get? s.heap.objs.size=some { cls:=.type "list",dict:=none,data:=.seq its.toArray c',slots:=#[] }->EP X pins σ Q (.ref s.heap.objs.size) { s with heap:=h' }:=λits r' hz h' c' kp e =>
  ⟨.ref s.heap.objs.size,_,I.laid (t':=s.toks) kp (AAB _) (show aY X.prog X.w _ h' _ (.lst ys)from⟨hz,its,c',r',e⟩),rfl,q _ (I.hok.fresh (AAB _))⟩
 rcases hq with hq | hq
 ·obtain⟨its,r',pl,hz⟩:=I.list hq
  have hlen:=r'.length
  obtain⟨o,ho,hc,n,hd⟩:=pl.isList
  exact call_list_seq p (.inl rfl) ho hc hd (λh' c' kp e=>fin its r' hz h' c' kp e) (by simp only[AAA]<;>lia)
 ·obtain⟨its,r',pl,hz⟩:=I.tuple hq
  have hlen:=r'.length
  obtain⟨o,ho,hc,n,hd⟩:=pl
  exact call_list_seq p (.inr rfl) ho hc hd (λh' c' kp e=>fin its r' hz h' c' kp e) (by simp only[AAA]<;>lia)
theorem kc:cQ X (.type "tuple") (λxs H Q=>∃p ys,xs=[.ref p]/\((SqL X.K H p ys/\∀l,H l=none->Q (.ref l) (upd H l (.tup ys)))\/(SqT X.K H p ys/\Q (.ref p) H))):=by
 intro pins s σ H xs us Q I r h
 obtain⟨p,ys,rfl,h⟩:=h
 obtain⟨u,rfl,rx⟩:=wN r
 cases rx
 rcases h with⟨hq,q⟩|⟨hq,q⟩
 ·obtain⟨its,r',pl,hz⟩:=I.list hq
  have hlen:=r'.length
  refine call_tuple_list pl.isList (λh' kp=>?_) (by simp only[AAA]<;>lia)
  have I1:Inv X pins σ H { s with heap:=h' }:=I.kept (t':=s.toks) kp
  have I2:Inv X pins σ (upd H h'.objs.size (.tup ys)) { s with heap:=h'.push { cls:=.type "tuple",data:=.seq its.toArray } } :=
   I1.laid (t':=s.toks) (λb o e=>AA4 _ e) (AAB _) (show aY X.prog X.w _ _ _ (.tup ys)from⟨hz,its,r',zu.new _ _⟩)
  exact⟨.ref h'.objs.size,_,I2,rfl,q _ (I1.hok.fresh (AAB _))⟩
 ·obtain⟨its,r',pl,hz⟩:=I.tuple hq
  exact call_tuple_same pl ⟨.ref p,H,I,rfl,q⟩
def tyV(K:AA1)(T:String)(x:V)(H:Hp):Prop:=match x with
 | .str _=>T = "str"
 | .int _=>T = "int"
 | .ref p=>(T = "list"/\∃xs,SqL K H p xs)\/(T = "tuple"/\∃o,K.lookup p=some o/\o.cls=.type "tuple"/\o.dict=none) \/
   (T = "dict"/\((∃kvs,H p=some (.dK kvs))\/∃kvs,H p=some (.dT kvs)))\/(T = "set"/\∃S n,H p=some (.set S n))
 | _=>False
theorem CJ(I:Inv X pins σ H s)(r:aR x v)(ty:tyV X.K T x H) :
  s.TypeIs v T/\∀a,v=.ref a->∃ob,s.heap.get? a=some ob/\ob.dict=none:=by
 cases x with
 | str z =>
  obtain⟨t,rfl⟩:=r
  cases (show T = "str" from ty)
  exact⟨typeIs_str s z t,λ_ e=>nomatch e⟩
 | int i =>
  obtain⟨t,rfl⟩:=r
  cases (show T = "int" from ty)
  exact⟨typeIs_int s i t,λ_ e=>nomatch e⟩
 | ref p =>
  cases r
  rcases ty with⟨rfl,xs,hq⟩|⟨rfl,o,hk,hc,hd⟩|⟨rfl,hk⟩|⟨rfl,S,n,hk⟩
  ·obtain⟨its,_,pl,_⟩:=I.list hq
   refine⟨pl.isList.typeIs,λa e=>?_⟩
   cases e
   obtain⟨o,n,e,c,hd,_⟩:=pl
   exact⟨o,e,hd⟩
  ·refine⟨⟨o,I.kIn p o hk,hc⟩,λa e=>?_⟩
   cases e
   exact⟨o,I.kIn _ o hk,hd⟩
  ·have z:∃o,s.heap.get? p=some o/\o.ExactDict:=by
    rcases hk with⟨kvs,hk⟩|⟨kvs,hk⟩
    ·obtain⟨_,_,_,_,o,_,_,e,ex,_⟩:=I.hok p _ hk
     exact⟨o,e,ex⟩
    ·obtain⟨_,_,_,_,o,_,_,e,ex,_⟩:=I.hok p _ hk
     exact⟨o,e,ex⟩
   obtain⟨o,e,ex⟩:=z
   refine⟨⟨o,e,ex.1⟩,λa e2=>?_⟩
   cases e2
   exact⟨o,e,ex.2.1⟩
  ·obtain⟨o,_,_,_,e,ex,_⟩:=I.hok p _ hk
   refine⟨⟨o,e,ex.1⟩,λa e2=>?_⟩
   cases e2
   exact⟨o,e,ex.2.1⟩
 | _=>exact ABN ty
def tBM(K:AA1)(T:String)(r:V->List V->Hp->VK->Prop)(to:TE)(t:TA):TE:=λσ H Q=>to σ H λx H1=>tyV K T x H1/\t σ H1 λxs H2=>r x xs H2 Q
variable{o e:Expr}{es:List Expr}{to:TE}{t:TA}{name:Str}{apos cpos:Pos}{T id:String}{r:V->List V->Hp->VK->Prop}
theorem DB(pa:PlainAttrs T)(slot:Slot T name id)(hty:typeOf (.builtin id)=pure (.type "method_descriptor"))(hm:MtR X id r)(ho:PE X o to)(ha:PA X (e::es) t)
  (hbase:attributeBase o name X.env (eval o X.env)=eval o X.env:=by rfl)
  (hfew:((backTo cpos (starEach (e::es) X.env)).all (λx=>!x.1)&&(backToKw cpos (keywordEach [] X.env)).all (λx=>x.1.isSome)
   && decide ((e::es).length+([]:List Keyword).length+(if ([]:List Keyword).isEmpty then 0 else 1)<30))=true:=by rfl)
  (hline:(apos.endLine==cpos.line)=true:=by rfl) (hs:starEach (e::es) X.env=(false,eval e X.env)::starEach es X.env:=by rfl) (hplain:(backTo cpos (starEach es X.env)).any (·.1)=false:=by rfl) :
  PE X (.Call (.Attribute o name apos) (e::es) [] cpos) (tBM X.K T r to t):=by
 intro pins s σ H Q I h
 refine wpAny_Call_method_late hbase hfew hline rfl (thn (ho pins s σ H _ I h) ?_)
 rintro v s1 ⟨x,H1,I1,r1,ty,q1⟩
 obtain⟨h1,h2⟩:=CJ I1 r1 ty
 refine⟨T,id,pa,slot,hty,h1,h2,?_⟩
 have hA:=ha cpos pins s1 σ H1 _ I1 q1
 rw[hs]at hA ⊢
 refine ACn (by show (false||(backTo cpos (starEach es X.env)).any (·.1))=false;rw[hplain]<;>rfl) (AE8 ?_)
 refine thn hA ?_
 rintro us s2 ⟨vs,H2,I2,r2,q2⟩
 exact hm pins s2 σ H2 x vs v us Q I2 r1 r2 q2
/- xs.append(e),list.index on a module's tuple .. are MtR facts of 06m -/
end
def MtM(X:Cx)(id:String)(r:V->List V->Hp->VK->Prop):Prop :=
 ∀(pins:List (Addr×Obj)) (s:Shared) (σ:St) (H:Hp) (x:V) (xs:List V) (v:Value) (us:List Value) (Q:VK),Inv X pins σ H s->aR x v->ay xs us->r x xs H Q ->
  wpAny (model X.prog X.w) X.A (call (.builtin id) (v::us)) (EP X pins σ Q) X.xe s
theorem ay.one(h:ay [x] us):∃u,us=[u]/\aR x u:=by
 cases h with
 | cons r t=>cases t;exact⟨_,rfl,r⟩
theorem ay.two(h:ay [x,y] us):∃u v,us=[u,v]/\aR x u/\aR y v:=by
 cases h with
 | cons r t =>
  obtain⟨v,e,q⟩:=ay.one t
  subst e
  exact⟨_,v,rfl,r,q⟩
theorem Inv.lset{its its':List Value}{n:Nat}{f:Array Value->Array Value}{t':Nat}(I:Inv X pins σ H s)(hH:H l=some (.lst xs))
  (e:s.heap.get? l=some { cls:=.type "list",data:=.seq its.toArray n }) (hf:f its.toArray=its'.toArray) (hv:ay ys its') (hz:ys.length<=sizeLine) :
  Inv X pins σ (upd H l (.lst ys)) { s with heap:=s.heap.update l (AB2 f),toks:=t' }:=by
 have q:=PySem.IsL.update e f
 rw[hf]at q
 refine I.write (x:=l) (e:=l) (by rw[hH];exact trivial) (.inl rfl) (λb' u hb hu=>(AAj s.heap (AB2 f) (ABG hb)).trans hu) ⟨_,q⟩ ?_
 exact⟨hz,its',_,hv,q⟩
theorem Inv.lnew(I:Inv X pins σ H s)(hv:ay ys its)(hz:ys.length<=sizeLine) :
  Inv X pins σ (upd H s.heap.objs.size (.lst ys)) { s with heap:=s.heap.push { cls:=.type "list",data:=.seq its.toArray },toks:=t' } :=
 I.laid (λ_ _ q=>AA4 _ q) (AAB _) ⟨hz,its,0,hv,AAE _ rfl⟩
theorem Inv.fresh(I:Inv X pins σ H s):H s.heap.objs.size=none:=I.hok.fresh (AAB _)
theorem Inv.lstM(I:Inv X pins σ H s)(hH:H l=some (.lst xs)):xs.length<=sizeLine/\∃(its:List Value) (n:Nat),ay xs its/\xs.length=its.length/\s.heap.get? l=some { cls:=.type "list",data:=.seq its.toArray n }:=by
 obtain⟨z,its,n,r,e⟩:=I.hok l _ hH
 exact⟨z,its,n,r,r.length,e⟩
theorem xm(h:n<=sizeLine):ADP n=false:=by
 unfold ADP
 exact dF_ (by lia)
def zR:V->List V->Hp->VK->Prop:=λx vs H Q=>∃l xs y,x=.ref l/\vs=[y]/\H l=some (.lst xs)/\xs.length<sizeLine/\Q .non (upd H l (.lst (xs++[y])))
theorem uz:MtM X "list.append" zR:=by
 intro pins s σ H x vs v us Q I rx rv h
 obtain⟨l,xs,y,rfl,rfl,hH,hz,q⟩:=h
 cases rx
 obtain⟨u,rfl,ru⟩:=rv.one
 obtain⟨z,its,n,r,hl,e⟩:=I.lstM hH
 refine call_meets F.slot_list_append ⟨_,e,rfl⟩ F.entry_list_append (F.args_list_append_2 _ _) (PySem.list_append l its.toArray n u (by rw[AAA];lia)) ⟨e,?_⟩
 refine⟨.non,_,I.lset (its':=its++[u]) hH e (by simp) (r.append (.cons ru .nil)) ?_,rfl,q⟩
 rw[AAC,AAm]
 lia
def zQ:V->List V->Hp->VK->Prop:=λx vs H Q=>∃l b xs zs,x=.ref l/\vs=[.ref b]/\H l=some (.lst xs)/\H b=some (.lst zs)/\xs.length+zs.length<=sizeLine/\Q .non (upd H l (.lst (xs++zs)))
theorem ux:MtM X "list.extend" zQ:=by
 intro pins s σ H x vs v us Q I rx rv h
 obtain⟨l,b,xs,zs,rfl,rfl,hH,hB,hz,q⟩:=h
 cases rx
 obtain⟨u,rfl,ru⟩:=rv.one
 cases ru
 obtain⟨z,its,n,r,hl,e⟩:=I.lstM hH
 obtain⟨z2,its2,n2,r2,hl2,e2⟩:=I.lstM hB
 have hsz:its.toArray.size+its2.toArray.size<=sizeLine:=by rw[AAA,AAA];lia
 have hlong:¬(!its.toArray.isEmpty&&ADP (its.toArray.size+its2.toArray.size))=true:=by
  rw[xm hsz,Bool.and_false]
  exact AB7
 refine call_meets F.slot_list_extend ⟨_,e,rfl⟩ F.entry_list_extend (F.args_list_extend_2 _ _)
  (AutoSeq1.list_extend_list_list_0 l its.toArray n b its2.toArray n2 hlong (by rw[AAA];lia) (by lia)) ⟨e,e2,?_⟩
 refine⟨.non,_,I.lset (its':=its++its2) hH e (by simp) (r.append r2) ?_,rfl,q⟩
 rw[AAC]
 lia
def rCat:R2:=λx y H Q=>∃l b xs zs,x=.ref l/\y=.ref b/\H l=some (.lst xs)/\H b=some (.lst zs)/\xs.length+zs.length<=sizeLine/\∀p,H p=none->Q (.ref p) (upd H p (.lst (xs++zs)))
theorem DO:OpR X (binaryOp .Add) rCat:=by
 intro pins s σ H x y v u Q I rx ry h
 obtain⟨l,b,xs,zs,rfl,rfl,hH,hB,hz,q⟩:=h
 cases rx
 cases ry
 obtain⟨z,its,n,r,hl,e⟩:=I.lstM hH
 obtain⟨z2,its2,n2,r2,hl2,e2⟩:=I.lstM hB
 refine PySem.P.add_list e e2 ?_ (by rw[AAA,AAA];lia)
 have ea:its.toArray++its2.toArray=(its++its2).toArray:=by simp
 rw[ea]
 exact⟨.ref _,_,I.lnew (t':=s.toks) (r.append r2) (by rw[AAC];lia),rfl,q _ I.fresh⟩
end L2
namespace Att
open PySem PySem.W PySem.Calls PyProof.Rows
theorem iq:∀(ns:List Int) (vs:List Value),WellAll P h vs (ns.map WData.int)->IntsAre vs ns:=by
 intro ns
 induction ns with
 | nil =>
  intro vs w
  rw[AET]at w
  cases w
  exact .nil
 | cons n ns ih =>
  intro vs w
  rw[AAN]at w
  cases w with
  | cons a b =>
   cases a
   exact .cons _ _ (ih _ b)
theorem tH{l:OpenLaw}{n:Nat}(hn:l.most=some n){P:Params}{h:Heap}{args:List WData}{vals:List Value}
  (hpre:l.row.toRowW.claim.pre args=true) (hwl:WellAll P h vals args) :
  ∃a vs ns,vals=[AAZ a]/\args=[WData.list (ns.map WData.int)]/\h.get? a=some { cls:=.type "list",data:=.seq vs.toArray }/\IntsAre vs ns/\ns.length<=n:=by
 have hsh:WShape.hasAll [] args [.list .int]=true:=(pre_splitW hpre).1
 have hc:l.pre.holds [] { args:=args }=true:=(pre_splitW hpre).2
 obtain⟨d,r,rfl,h1,h2⟩:=hasAllW_cons hsh
 obtain rfl:=hasAllW_nil h2
 obtain⟨xs,rfl,h3⟩:=hasW_list h1
 obtain⟨ns,rfl⟩:=items_int h3
 have hlen:ns.length<=n:=by
  unfold OpenLaw.pre at hc
  have h4:(WTm.not (.lt (.lit (.int (n:Int))) (.len (.arg 0)))).holds [] { args:=[.list (ns.map .int)] }=true:=by
   have h4:=(holds_andW hc).1
   rw[hn]at h4
   exact h4
  have h5:=condW_of h4 (w_not (w_lt w_lit (w_len_list (w_arg rfl))))
  rw[AA6]at h5
  refine Nat.le_of_not_lt λq=>?_
  have q':(n:Int)<((ns.length:Nat):Int):=by lia
  first
   | (rw[dT_ q']at h5;exact absurd h5 (by decide))
   | (simp at h5;lia)
 cases hwl with
 | cons w1 w2 =>
  cases w2
  cases w1 with
  | list ho hall=>exact⟨_,_,ns,rfl,rfl,ho,iq ns _ hall,hlen⟩
theorem tR(l:OpenLaw)(args:List WData):l.row.toRowW.claim.post args (.bool true) args=true :=
 postW_of (r:=l.row.toRowW) (X:=(true==true))
  (show WShape.has [] (.bool true) .bool=true by first | rfl | decide | simp[WShape.has,WShape.arms,WShape.armsAll])
  (show (WTm.eq .res (.lit (.bool true))).value [] { args:=args,res:=some (.bool true),after:=args }=some (.bool (true==true))from w_eq_bool (w_res rfl) w_lit) rfl
theorem attach_call{l:OpenLaw}{n:Nat}{q:Program}{loose:List Str}{XP:(Str->Option Value)->Heap->Prop}{YP:World->Heap->Prop}{d:DefRec}
  (hn:l.most=some n) (hdf:d.params.defaults=[])
  (call:∀(w:World) (s₀ s₁:Shared) (mg mb:Str->Option Value) (fa:Addr) (o:Obj) (pm cd doc:Value) (a:Addr) (vs:List Value) (ns:List Int),
   Ground q loose [] XP w s₀ mg mb s₁.heap->YP w s₁.heap ->
   s₁.heap.get? fa=some o->o.data=.func (docDef d.name d.params d.body d.scope pm cd doc)->s₁.heap.CodeRec cd d.name->mg d.name=some (.ref fa) ->
   s₁.heap.get? a=some { cls:=.type "list",data:=.seq vs.toArray }->IntsAre vs ns->ns.length<=n->s₁.gens = #[] ->
   codeAny (model l.prog w) callerA (.call (.ref fa) ⟨[.ref a],[]⟩) (λr s'=>r=.ok (.ret (.bool true))/\OldK s₁.heap s'.heap/\s'.os=s₁.os/\AllBare s'.gens) s₁) :
  WalkO q loose XP YP l.row.toRowW d [] (λf vs=>PySem.call f vs):=by
 intro w s₀ s₁ mg mb G Y fa o pm cd doc dV kV ho hd hcd hD hmg hg args vals as hpre hlay hrd hwl hlo
 obtain rfl:dV=.none:=Dflts.none hD hdf
 obtain rfl:kV=.none:=Dflts.noKw hD
 obtain⟨a,vs,ns,rfl,rfl,hobj,hints,hlen⟩:=tH hn hpre hwl
 refine enter_call (ACu (call w s₀ s₁ mg mb fa o pm cd doc a vs ns G Y ho (fd_plain hd) hcd hmg hobj hints hlen hg) λr s' hq=>?_)
 obtain⟨rfl,h2,h3,h4⟩:=hq
 exact⟨.inl ⟨.bool true,.bool true,[],rfl,λ_=>rfl,.bool true,tR l _,λ_=>⟨ADn,λ_ hm=>(nomatch hm)⟩⟩,h2,h3,h4⟩
noncomputable def noObjs(h:Heap):Heap:={ h with objs:=#[] }
theorem noObjs_get(h:Heap)(b:Addr):(noObjs h).get? b=none:=by
 cases e:(noObjs h).get? b with
 | none=>rfl
 | some o=>exact absurd (AAD e) (Nat.not_lt_zero _)
noncomputable def ledger(h:Heap)(L d:Addr):List (Addr×Obj):=(AAx h.objs.size).filterMap λa=>if a=L\/a=d then none else(h.get? a).map λo=>(a,o)
theorem mem_ledger:(a,o)∈ledger h L d↔a≠L/\a≠d/\h.get? a=some o:=by
 unfold ledger
 rw[List.mem_filterMap]
 constructor
 ·rintro⟨b,_,e⟩
  split at e
  ·cases e
  ·rename_i hb
   obtain⟨o',ho,e'⟩:=AB3.mp e
   cases e'
   exact⟨λq=>hb (.inl q),λq=>hb (.inr q),ho⟩
 ·rintro⟨n1,n2,ho⟩
  refine⟨a,ABV.mpr (AAD ho),?_⟩
  rw[if_neg (show ¬(a=L\/a=d)from λq=>q.elim n1 n2),ho]<;>rfl
theorem news_ledger(hne:d≠L)(ho:h.get? d=some od):News (noObjs h) L h ([]++(d,od)::ledger h L d):=by
 rintro⟨a,o⟩ hp
 rcases AAL.mp hp with e | hp
 ·cases e
  exact⟨ho,hne,noObjs_get _ _⟩
 ·obtain⟨n1,n2,e⟩:=mem_ledger.mp hp
  exact⟨e,n1,noObjs_get _ _⟩
theorem fr_all(n:h.Ns L m):Fr (noObjs h) L h m :=
 ⟨n,λb o e=>(by rw[noObjs_get]at e;cases e),AAV _⟩
end Att
namespace L2
open PySem PySem.Spec PyProof.Rows
theorem cT:∀{vs:List Value}{ns:List Int},IntsAre vs ns->ay (ns.map V.int) vs
 | _,_,.nil=>.nil
 | _,_,.cons n t h=>.cons ⟨t,rfl⟩ (cT h)
def Only(H:Hp):Prop:=∀b,H b=none\/∃o xs,H b=some (.frz o (.lst xs))
theorem xD{P:Program}{w:World}{K:AA1}{mg mb:Str->Option Value}{CX:CXT}{k:Nat}{fa a:Addr}{fd:FuncData}{x:Str}{sp:Sp}{s₁:Shared}{vs:List Value}{ns:List Int}
  (KX:K.In s₁.heap) (hns:s₁.heap.Ns mainGlobals mg) (hb:s₁.heap.Ns builtinsNs mb) (hbb:∀x:Str,x≠"__name__"->mb x=bootBuiltins x) (hlim:s₁.heap.NoLimit) (hg:s₁.gens = #[])
  (ha:s₁.heap.get? a=some { cls:=.type "list",data:=.seq vs.toArray }) (hi:IntsAre vs ns) (hl:ns.length<=sizeLine) (hr:Room k callerA)
  (F:∀base:Heap,K.In base->base.Ns mainGlobals mg->FnOk P w K mg base CX k fa fd [x] sp) (hbind:∀(s:Shared) (u:Value),BindsTo s fd ⟨[u],[]⟩ [(x,u)])
  (hsp:∀H:Hp,Only H->SqL K H a (ns.map V.int)->sp [.ref a] H (λv _=>v=.bl true) λ_ _ _=>False)
  (hCX:∀H e s',CX [] H s₁ (λ_ _ _=>False) e s'->False) :
  codeAny (model P w) callerA (.call (.ref fa) ⟨[.ref a],[]⟩) (λr s'=>r=.ok (.ret (.bool true))/\OldK s₁.heap s'.heap/\s'.os=s₁.os/\AllBare s'.gens) s₁:=by
 have rv:=cT hi
 have lenV:=hi.length
 -- from an abstract heap in which nothing but the script may be tracked
 have core:∀H:Hp,Only H->SqL K H a (ns.map V.int)->HOk P w H s₁.heap->(∀b,H b≠none->b=a)->(H a≠none->K.lookup a=none) ->
   codeAny (model P w) callerA (.call (.ref fa) ⟨[.ref a],[]⟩) (λr s'=>r=.ok (.ret (.bool true))/\OldK s₁.heap s'.heap/\s'.os=s₁.os/\AllBare s'.gens) s₁:=by
  intro H hO hS hok hA hK
  have base_of:∀{b:Addr}{o:Obj},s₁.heap.get? b=some o->H b=none->(xT s₁.heap H).get? b=some o:=λe n=>xS e n
  have noA:∀{b:Addr}{o:Obj}{es:Array DictEntry}{ep:Nat},s₁.heap.get? b=some o->o.data=.dict es ep->H b=none:=λ{b o es ep} e d=>by
   cases q:H b with
   | none=>rfl
   | some u =>
    have e':b=a:=hA b (by rw[q];simp)
    subst e'
    rw[ha]at e;cases e
    have d':Data.seq vs.toArray _=Data.dict es ep:=d
    cases d'
  have nsK:∀{b:Addr}{m:Str->Option Value},s₁.heap.Ns b m->(xT s₁.heap H).Ns b m:=λ{b m} ⟨o,es,ep,e,d,r⟩=>⟨o,es,ep,base_of e (noA e d),d,r⟩
  have hKb:K.In (xT s₁.heap H):=λb o e=>base_of (KX b o e) (by
   cases q:H b with
   | none=>rfl
   | some u =>
    have e':b=a:=hA b (by rw[q];simp)
    subst e'
    rw[hK (by rw[q];simp)]at e;cases e)
  have hM:Mod K mg (xT s₁.heap H):=⟨hKb,nsK hns,⟨mb,nsK hb,hbb⟩,let ⟨mc,h1,h2⟩:=hlim;⟨mc,nsK h1,h2⟩⟩
  have e0:Env0 P w K mg (xT s₁.heap H) callerA [] s₁ H:=⟨rfl,hM,λb o e=>Aw e,Nat.le_of_eq (vG _ _),trivial,λb hb=>absurd (show b∈([]:List Addr)from hb) (by simp),hok,.of_eq hg⟩
  refine ACu ((F _ hKb (nsK hns)).run callerA [] s₁ H ⟨[.ref a],[]⟩ [.ref a] [.ref a] _ _ hr e0 (hbind s₁ (.ref a)) (.cons rfl .nil) (hsp H hO hS)) λr s' h=>?_
  cases r with
  | error e=>exact(hCX H e s' h).elim
  | ok fl =>
   cases fl with
   | next=>exact ABN h
   | brk=>exact ABN h
   | cont=>exact ABN h
   | ret u =>
    obtain⟨v,H',os,bare,un,hok',r',q⟩:=h
    have q':v=.bl true:=q
    subst q'
    obtain rfl:u=ACj true:=r'
    refine⟨rfl,OldK.of_keep λb o e=>?_,os,bare⟩
    cases q:H b with
    | none=>exact un.keep b o e q (by intro z;exact absurd (show b∈([]:List Addr)from z) (by simp)) (by simp)
    | some u =>
     rcases hO b with z | ⟨ob,xs,z⟩
     ·rw[q]at z;cases z
     ·have z2:=un.frzs b ob _ z
      obtain⟨e1,_⟩:=hok b _ z
      obtain⟨e2,_⟩:=hok' b _ z2
      rw[e]at e1;cases e1
      exact e2
 cases hk:K.lookup a with
 | some o =>
  -- the script is one of the module's own objects
  have e:=KX a o hk
  rw[ha]at e
  cases e
  refine core (λ_=>none) (λ_=>.inl rfl) (.inr ⟨_,vs.toArray,_,hk,rfl,rfl,rfl,by rw[AAA,lenV];exact hl,by simpa using rv⟩) (λb u z=>by have z':(none:Option HO)=some u:=z;cases z') (λb z=>absurd rfl z) λz=>absurd rfl z
 | none =>
  refine core (λb=>if b=a then some (.frz { cls:=.type "list",data:=.seq vs.toArray } (.lst (ns.map V.int)))else none) (λb=>?_) (.inl (.inr ⟨{ cls:=.type "list",data:=.seq vs.toArray },if_pos rfl⟩)) (λb u z=>?_) (λb z=>?_) λ_=>hk
  ·by_cases hb:b=a
   ·exact .inr ⟨_,_,if_pos hb⟩
   ·exact .inl (if_neg hb)
  ·by_cases hb:b=a
   ·have z':=(if_pos hb).symm.trans z
    cases z'
    subst hb
    exact⟨ha,by rw[AA6];exact hl,vs,_,rv,ha⟩
   ·have z':=(if_neg hb).symm.trans z
    cases z'
  ·by_cases hb:b=a
   ·exact hb
   ·exact absurd (if_neg hb) z
noncomputable abbrev KOf{K:AA1}{h:Heap}(_:K.In h):AA1:=K
theorem walk_of{l:PySem.W.OpenLaw}{n k:Nat}{q:Program}{loose:List Str}{XP:(Str->Option Value)->Heap->Prop}{YP:World->Heap->Prop}{d:DefRec}{K:Params->AA1}{CX:World->CXT}{sp:World->Sp}{x:Str}
  (hn:l.most=some n) (hn2:n<=sizeLine) (hdf:d.params.defaults=[]) (hr:Room k callerA)
  (hY:∀(w:World) (h:Heap),YP w h->(K w.params).In h)
  (F:∀(w:World) (mg:Str->Option Value) (fa:Addr) (h:Heap),(K w.params).In h->h.Ns mainGlobals mg->mg d.name=some (.ref fa) ->
   ∃fd:FuncData,(∀(s:Shared) (u:Value),BindsTo s fd ⟨[u],[]⟩ [(x,u)]) /\
    ∀base:Heap,(K w.params).In base->base.Ns mainGlobals mg->FnOk l.prog w (K w.params) mg base (CX w) k fa fd [x] (sp w))
  (hsp:∀(w:World) (H:Hp) (a:Addr) (ns:List Int),ns.length<=n->Only H->SqL (K w.params) H a (ns.map V.int)->sp w [.ref a] H (λv _=>v=.bl true) λ_ _ _=>False)
  (hCX:∀(w:World) (H:Hp) (s:Shared) (e:Value) (s':Shared),CX w [] H s (λ_ _ _=>False) e s'->False) :
  PySem.W.WalkO q loose XP YP l.row.toRowW d [] (λf vs=>PySem.call f vs):=by
 refine Att.attach_call hn hdf λw s₀ s₁ mg mb fa o pm cd doc a vs ns G Y ho hd hcd hmg hobj hints hlen hg=>?_
 have KX:=hY w _ Y
 obtain⟨fd,hb,hF⟩:=F w mg fa _ KX G.T.g hmg
 exact xD KX G.T.g G.T.b G.T.builtins G.T.nolimit hg hobj hints (AAh hlen hn2) hr hF hb (λH hO hS=>hsp w H a ns hlen hO hS) λH e s'=>hCX w H s₁ e s'
noncomputable def cE(s:Stmt):Arguments:=match s with
 | .FunctionDef _ a _ _ _ _ _ _ _ _=>a
 | _=>{ posonlyargs:=[],args:=[],vararg:=none,kwonlyargs:=[],kw_defaults:=[],kwarg:=none,defaults:=[] }
noncomputable def aU(s:Stmt):List Stmt:=match s with
 | .FunctionDef _ _ b _ _ _ _ _ _ _=>b
 | _=>[]
noncomputable def ar(s:Stmt):Scope:=match s with
 | .FunctionDef _ _ _ _ _ _ sc _ _ _=>sc
 | _=>{ kind:=.function,names:=[],isGenerator:=false,isCoroutine:=false }
abbrev CX0:CXT:=λ_ _ _ _ _ _=>False
abbrev E0:XK:=λ_ _ _=>False
theorem pass0:qH CX0 X E0:=λ_ _ _ _ _ _ _ h=>h.elim
structure Fun(K:AA1)(x qual:Str)(st:Stmt)(f:Addr)(fd:FuncData):Prop where
 ex:∃(oc:Value) (od:Option Addr) (kV doc pm:Value) (an:Option Addr) (cdv ct:Value) (osl:Array (Option Value)),
  fd=AC6 x qual (cE st) (aU st) (ar st) .none kV doc pm an cdv ct/\K.lookup f=some ⟨oc,od,.func fd,osl⟩/\ADw K cdv qual=true
 kp:ABk K (.ref f)=true
theorem Fun.ok{P:Program}{w:World}{K:AA1}{mg:Str->Option Value}{base:Heap}{x qual:Str}{st:Stmt}{f:Addr}{fd:FuncData}{N ps:List Str}{k:Nat}{sp:Sp}(F:Fun K x qual st f fd)(S:FnScope N ps (ar st))(len:∀vs H Q E,sp vs H Q E->vs.length=ps.length)
  (hbody:∀(cdv:Value) (A:Around) (outer:List Env) (s:Shared) (H:Hp) (vs:List V) (Q:VK) (E:XK),Room k (A.deeper (envOfC qual (ar st) s.heap.objs.size f cdv))->sp vs H Q E ->
   ∃t,PSs (iE CX0 P w K mg base N qual (ar st) f cdv A outer s H E).nox (aU st) t/\t { nx:=λ_ H'=>Q .non H',rt:=Q } (start N vs) H):FnOk P w K mg base CX0 (k+1) f fd ps sp:=by
 obtain⟨oc,od,kV,doc,pm,an,cdv,ct,osl,rfl,lk,hcd⟩:=F.ex
 refine Fa lk hcd S len λA outer s H vs Q E hr hsp=>?_
 obtain⟨t,h,q⟩:=hbody cdv A outer s H vs Q E hr hsp
 exact⟨t,h.nox,q⟩
theorem Fun.binds{K:AA1}{x qual:Str}{st:Stmt}{f:Addr}{fd:FuncData}{ps:List Str}(F:Fun K x qual st f fd)
  (h:∀(kV doc pm:Value) (an:Option Addr) (cdv ct:Value) (us:List Value),us.length=ps.length->bindArgs (AC6 x qual (cE st) (aU st) (ar st) .none kV doc pm an cdv ct) ⟨us,[]⟩=pure (ps.zip us)):fV K fd ps []:=by
 obtain⟨oc,od,kV,doc,pm,an,cdv,ct,osl,rfl,lk,hcd⟩:=F.ex
 exact .all (h kV doc pm an cdv ct)
theorem zg{K:AA1}{x qual:Str}{st:Stmt}{f:Addr}{oc:Value}{od an:Option Addr}{osl:Array (Option Value)}{kV doc pm cdv ct:Value}(l:K.lookup f=some ⟨oc,od,.func (AC6 x qual (cE st) (aU st) (ar st) .none kV doc pm an cdv ct),osl⟩)
  (c:ADw K cdv qual=true) (k:ABk K (.ref f)=true):Fun K x qual st f (AC6 x qual (cE st) (aU st) (ar st) .none kV doc pm an cdv ct):=⟨⟨oc,od,kV,doc,pm,an,cdv,ct,osl,rfl,l,c⟩,k⟩
theorem aF(h:n<=1000):n<sizeLine:=Nat.lt_of_le_of_lt h (by decide)
theorem bZ{A B:Prop}(h:B):if false=true then A else B:=by
 rw[if_neg AB7]
 exact h
theorem cM{A B:Prop}(h:A):if true=true then A else B:=by
 rw[if_pos rfl]
 exact h
section
variable{κ:Type}[DecidableEq κ]
noncomputable def zD(kvs:List (κ×V))(k:κ):Option V:=(kvs.find? λkv=>decide (kv.1=k)).map (·.2)
noncomputable def mR(kvs:List (κ×V))(k:κ)(v:V):List (κ×V) :=
 if (kvs.any λkv=>decide (kv.1=k))=true then kvs.map (λkv=>if kv.1=k then(kv.1,v)else kv)else kvs++[(k,v)]
theorem oU{p:κ×V}{r:List (κ×V)}{k:κ}(e:p.1=k):zD (p::r) k=some p.2:=by simp[zD,ABc,e]
theorem oV{p:κ×V}{r:List (κ×V)}{k:κ}(e:¬p.1=k):zD (p::r) k=zD r k:=by simp[zD,ABc,e]
theorem oW(k:κ):∀kvs:List (κ×V),(kvs.any λkv=>decide (kv.1=k))=(zD kvs k).isSome
 | []=>rfl
 | p::r=>by
  rw[List.any_cons]
  by_cases e:p.1=k
  ·simp only[oU e,dT_ e,Bool.true_or,Option.isSome_some]
  ·rw[oV e,dF_ e,Bool.false_or];exact oW k r
theorem dS(kvs:List (κ×V))(k:κ)(v:V):(mR kvs k v).length<=kvs.length+1:=by
 unfold mR
 split
 ·rw[AA6];lia
 ·rw[AAC,AAG,AAY];lia
theorem wA.isSome_eq(r:wA o u):o.isSome=u.isSome:=by
 cases o with
 | none=>cases u with
  | none=>rfl
  | some _=>exact(show False from r).elim
 | some _=>cases u with
  | none=>exact(show False from r).elim
  | some _=>rfl
theorem KV.any(r:KV kvs vs)(k:κ):(kvs.any λkv=>decide (kv.1=k))=vs.any λkv=>decide (kv.1=k):=by
 unfold KV at r
 induction r with
 | nil=>rfl
 | cons h t ih=>rw[List.any_cons,List.any_cons,ih,h.1]
theorem KV.repl(r:KV kvs vs)(k:κ)(ry:aR y u) :
  KV (kvs.map λkv=>if kv.1=k then(kv.1,y)else kv) (vs.map λkv=>if kv.1=k then(kv.1,u)else kv):=by
 unfold KV at r ⊢
 induction r with
 | nil=>exact .nil
 | @cons p q ps qs h t ih =>
  rw[AAN,AAN]
  refine .cons ?_ ih
  obtain⟨h1,h2⟩:=h
  by_cases e:p.1=k
  ·rw[if_pos e,if_pos (h1.symm.trans e)];exact⟨h1,ry⟩
  ·rw[if_neg e,if_neg (λz=>e (h1.trans z))];exact⟨h1,h2⟩
theorem KV.put(r:KV kvs vs)(k:κ)(ry:aR y u):KV (mR kvs k y) (stored vs k u):=by
 unfold mR stored
 rw[r.any k]
 by_cases e:(vs.any λkv=>decide (kv.1=k))=true
 ·rw[if_pos e,if_pos e];exact r.repl k ry
 ·rw[if_neg e,if_neg e];exact Paired.snoc r ⟨rfl,ry⟩
theorem KV.length(r:KV kvs vs):kvs.length=vs.length:=Paired.length r
end
theorem Bm(r:aR (kV k) u):(aX P w).is k u=true:=by
 cases k with
 | inl i=>obtain⟨t,e⟩:=(show ∃t,u=Value.int i t from r);subst e;exact nP P w i t
 | inr x=>obtain⟨t,e⟩:=(show ∃t,u=Value.str x t from r);subst e;exact nO P w x t
theorem md:∀{ks:List Key}{us:List Value},ay (ks.map kV) us->ItemsAre (aX P w) ks us
 | [],_,r=>by rw[AET]at r;cases r;exact .nil
 | k::ks,_,r=>by
  rw[AAN]at r
  cases r with
  | cons h t=>exact .cons (Bm h) (md t)
abbrev KT(H:Hp):List (List Key×V)->List (List Key×Addr×Value)->Prop:=Paired λp q=>p.1=q.1/\H q.2.1=some (.tup (p.1.map kV))/\aR p.2 q.2.2
theorem KT.val{H:Hp}{kvs:List (List Key×V)}{xs:List (List Key×Addr×Value)}(r:KT H kvs xs)(k:List Key):wA (zD kvs k) ((atKey xs k).map (·.2)):=by
 induction r with
 | nil=>exact ACE
 | @cons p q ps qs h t ih =>
  obtain⟨h1,_,h2⟩:=h
  by_cases e:p.1=k
  ·have e':q.1=k:=h1.symm.trans e
   have b:atKey (q::qs) k=some q.2:=by simp[atKey,ABc,e']
   rw[oU e,b];exact h2
  ·have e':¬q.1=k:=λz=>e (h1.trans z)
   have b:atKey (q::qs) k=atKey qs k:=by simp[atKey,ABc,e']
   rw[oV e,b];exact ih
theorem KT.repl(r:KT H kvs xs)(k:List Key)(ry:aR y u) :
  KT H (kvs.map λkv=>if kv.1=k then(kv.1,y)else kv) (xs.map (putAt k u)):=by
 induction r with
 | nil=>exact .nil
 | @cons p q ps qs h t ih =>
  rw[AAN,AAN]
  refine .cons ?_ ih
  obtain⟨h1,h2,h3⟩:=h
  unfold putAt
  by_cases e:p.1=k
  ·rw[if_pos e,if_pos (h1.symm.trans e)];exact⟨h1,h2,ry⟩
  ·rw[if_neg e,if_neg (λz=>e (h1.trans z))];exact⟨h1,h2,h3⟩
theorem KT.put(r:KT H kvs xs)(k:List Key)(hb:H b=some (.tup (k.map kV)))(ry:aR y u) :
  KT H (mR kvs k y) (storedH xs k b u):=by
 have e:(kvs.any λkv=>decide (kv.1=k))=(atKey xs k).isSome:=by
  rw[oW,(r.val k).isSome_eq,AD2]
 unfold mR storedH
 rw[e]
 by_cases q:(atKey xs k).isSome=true
 ·rw[if_pos q,if_pos q];exact r.repl k ry
 ·rw[if_neg q,if_neg q];exact Paired.snoc r ⟨rfl,hb,ry⟩
theorem KT.keeps(r:KT H kvs xs)(ht:∀b ys,H b=some (.tup ys)->H' b=some (.tup ys)):KT H' kvs xs :=
 Paired.mapP r λ_ _ z=>⟨z.1,ht _ _ z.2.1,z.2.2⟩
theorem Db(ok:HOk P w H h)(e:Rd H a u):aY P w H h a u:=e.ok ok
theorem dk_rd(ok:HOk P w H h)(e:Rd H a (.dK kvs)):kvs.length<=sizeLine/\(a==sysModules)=false/\∃vs,KV kvs vs/\h.DictOf (aX P w) a vs :=
 show aY P w H h a (.dK kvs)from Db ok e
theorem Fs(ok:HOk P w H h)(e:H a=some (.dK kvs)):kvs.length<=sizeLine/\(a==sysModules)=false/\∃vs,KV kvs vs/\h.DictOf (aX P w) a vs:=dk_rd ok (.inl e)
theorem zc(ok:HOk P w H h)(e:H a=some (.tup (ks.map kV))):(tupleKind (aX P w)).is h ks a:=by
 obtain⟨_,its,r,o,h1,h2,⟨n,h3⟩,_⟩:=(show aY P w H h a (.tup (ks.map kV))from ok a _ e)
 exact⟨o,its.toArray,n,h1,h2,h3,by simpa using md r⟩
theorem dt_rd(ok:HOk P w H h)(e:Rd H a (.dT kvs)):kvs.length<=sizeLine/\(a==sysModules)=false /\
  ∃xs,KT H kvs xs/\h.DictOfH (tupleKind (aX P w)) a xs:=by
 obtain⟨z,y,xs,r,o,es,ep,h1,h2,h3,h4,h5⟩:=(show aY P w H h a (.dT kvs)from Db ok e)
 refine⟨z,y,xs,r,o,es,ep,h1,h2,h3,h4,λx hx=>?_,h5⟩
 have all:∀{l:List (List Key×V)}{m:List (List Key×Addr×Value)},KT H l m->∀x∈m,(tupleKind (aX P w)).is h x.1 x.2.1:=by
  intro l m q
  induction q with
  | nil=>intro x hx;exact nomatch hx
  | @cons p q ps qs hq t ih =>
   intro x hx
   rcases AAL.mp hx with e | hx
   ·subst e
    exact zc ok (by rw[<-hq.1];exact hq.2.1)
   ·exact ih x hx
 exact all r x hx
theorem dt_of(ok:HOk P w H h)(e:H a=some (.dT kvs)):kvs.length<=sizeLine/\(a==sysModules)=false /\
  ∃xs,KT H kvs xs/\h.DictOfH (tupleKind (aX P w)) a xs:=dt_rd ok (.inl e)
def DPut(H:Hp)(a:Addr)(y v:V)(H':Hp):Prop :=
 (∃kvs k,H a=some (.dK kvs)/\y=kV k/\kvs.length<sizeLine/\H'=upd H a (.dK (mR kvs k v))) \/
 ∃kvs k b,H a=some (.dT kvs)/\y=.ref b/\H b=some (.tup (k.map kV))/\kvs.length<sizeLine/\H'=upd H a (.dT (mR kvs k v))
theorem Inv.big(I:Inv X pins σ H s):sysModules<s.heap.objs.size:=by
 have h:mainGlobals<s.heap.objs.size:=(I.mod.glob.keeps I.bk).lt
 exact AEU (by decide) h
theorem jX(I:Inv X pins σ H s)(mu:Mut (H a))(hs:AB9 a s.heap h')(he:∃q,h'.get? a=some q)(new:aY X.prog X.w (upd H a ob) h' a ob) :
  Inv X pins σ (upd H a ob) { s with heap:=h',toks:=t' } :=
 I.write (x:=a) (e:=a) mu (.inl rfl) (λb q hb z=>(hs.2 b hb).trans z) he new
theorem zn(z:kvs.length<=sizeLine)(hd:(a==sysModules)=false)(rel:KV kvs vs)(dd:h'.DictOf (aX P w) a vs) :
  aY P w H' h' a (.dK kvs):=⟨z,hd,vs,rel,dd⟩
theorem wc(hu:A.units+1<cLine)(I:Inv X pins σ H s)(g:DPut H a y v H')(ry:aR y u)(rv:aR v r)(h:∀s',Inv X pins σ H' s'->Q () s') :
  wpAny (model X.prog X.w) A (setItem (.ref a) u r) Q E s:=by
 rcases g with⟨kvs,k,e,ey,l,eH⟩|⟨kvs,k,b,e,ey,eb,l,eH⟩
 ·subst ey eH
  obtain⟨z,hd,vs,rel,dd⟩:=Fs I.hok e
  have hz:vs.length<=sizeLine:=by rw[<-rel.length];exact z
  have hl:(mR kvs k v).length<=sizeLine:=by have:=dS kvs k v;lia
  refine wpAny_setItem_pairs (hsz:=hz) (Bm ry) dd λh' dd' hs=>h _ ?_
  have he:∃q,h'.get? a=some q:=let ⟨q,_,_,hq,_⟩:=dd';⟨q,hq⟩
  exact jX I (by rw[e];exact ACE) hs he (zn hl hd (rel.put k rv) dd')
 ·subst ey eH
  cases (show u=AAZ b from ry)
  obtain⟨z,hd,xs,rel,dd⟩:=dt_of I.hok e
  have hz:xs.length<=sizeLine:=by rw[<-Paired.length rel];exact z
  have hl:(mR kvs k v).length<=sizeLine:=by have:=dS kvs k v;lia
  refine wpAny_setItem_heap (hsz:=hz) (tupleKind_room_in1 hu) (zc I.hok eb) dd λh' dd' hs=>h _ ?_
  obtain⟨q,es,ep,hq,h2,h3,h4,_,h5⟩:=dd'
  refine jX I (by rw[e];exact ACE) hs ⟨q,hq⟩ ⟨hl,hd,_,(rel.put k eb rv).keeps λc ys ec=>?_,q,es,ep,hq,h2,h3,h4,h5⟩
  rw[av (ne_of ec e (λz=>nomatch z))]
  exact ec
def NoSl(i:Expr):Prop:=∀ov iv,subscripted i false ov iv=operate [ov,iv] (getItem ov iv)
theorem zI{prog:Program}{w:World}{A:Around}{E:Value->Shared->Prop}{s:Shared}{env:Env}{value slice:Expr}{pos:Pos}{T id:String}{Q:Value->Shared->Prop}
  (hl:typeLookup (.type T) "__getitem__" = pure (some (.builtin id))) (hs:NoSl slice)
  (h:wpAny (model prog w) A (eval value env) (λo s₁=>wpAny (model prog w) A (eval slice env) (λi s₂=>s₂.TypeIs o T/\wpAny (model prog w) A (getItem o i) Q E s₂) E s₁) E s) :
  wpAny (model prog w) A (eval (.Subscript value slice pos) env) Q E s:=by
 refine Subscript_ (AAl h (λo s₁ h₁=>AAl h₁ (λi s₂ h₂=>?_) λ_ _ x=>x) λ_ _ x=>x)
 obtain⟨hT,h₂⟩:=h₂
 unfold subscriptTail
 refine AA0 ?_
 rw[getitemInPython_of_ne hT.not_modules]
 refine AA0 (AEF hT hl ?_)
 have fin:wpAny (model prog w) A (subscripted slice false o i) (λr s₃=>wpAny (model prog w) A (letTemporaryGo value o r >>= λ_=>pure r) Q E s₃) E s₂:=by
  rw[hs o i]
  exact wpAny_operating (AAl h₂ (λr s₃ h₃=>AA0 (wpAny_letTemporaryGo (AA3 h₃))) λ_ _ x=>x)
 first
  | exact AA3 (AA0 fin)
  | exact AA0 (AA3 (AA0 fin))
  | exact AA0 fin
def sDPut(td ty tv:TE):TS:=λD σ H=>tv σ H λv H1=>td σ H1 λx H2=>ty σ H2 λy H3=>∃a H4,x=.ref a/\DPut H3 a y v H4/\D.nx σ H4
theorem zZ(hu:X.A.units+1<cLine)(ho:PE X o td)(hi:PE X i ty)(hv:PE X value tv)(hs:swapsWith value (some (.Subscript o i pos')) pos.line X.env=pure false) :
  PS X (.Assign [.Subscript o i pos'] value pos) (sDPut td ty tv):=by
 intro pins s σ H D I h
 refine wpAny_Assign_Subscript (thn (hv pins s σ H _ I h) λr s1 ⟨v,H1,I1,rv,q1⟩=>thn (ho pins s1 σ H1 _ I1 q1) λu s2 ⟨x,H2,I2,rx,q2⟩=>thn (hi pins s2 σ H2 _ I2 q2) ?_) hs
 rintro iv s3 ⟨y,H3,I3,ry,a,H4,ex,g,q3⟩
 subst ex
 obtain rfl:u=AAZ a:=rx
 exact wc hu I3 g ry rv λs4 I4=>⟨σ,H4,I4,q3⟩
theorem yj(h:Heap)(hb:sysModules<h.objs.size):aY P w H (h.push { cls:=.type "dict",data:=.dict #[] }) h.objs.size (.dK []) :=
 ⟨AAV _,beq_eq_false_iff_ne.mpr (ABG (AAH hb)),[],.nil,Heap.DictOf.new h⟩
def tw:List (TE×TE)->St->Hp->(List (V×V)->Hp->Prop)->Prop
 | [],_,H,Q=>Q [] H
 | (tk,tv)::r,σ,H,Q=>tk σ H λx H1=>tv σ H1 λy H2=>tw r σ H2 λps H3=>Q ((x,y)::ps) H3
abbrev VV:List (V×V)->List (Value×Value)->Prop:=Paired λp q=>aR p.1 q.1/\aR p.2 q.2
def PPs(X:Cx)(pos:Pos)(keys:List (Option Expr))(values:List Expr)(trs:List (TE×TE)):Prop :=
 ∀(pins:List (Addr×Obj)) (s:Shared) (σ:St) (H:Hp) (Q:List (V×V)->Hp->Prop),Inv X pins σ H s->tw trs σ H Q ->
  wpAny (model X.prog X.w) X.A (evalPairs (pairTrees keys values X.env pos)) (λvs s'=>∃ps H',Inv X pins σ H' s'/\VV ps vs/\Q ps H') X.xe s
theorem Aa:PPs X pos [] [] []:=λpins s σ H Q I h=>pairTrees_nil_walk ⟨[],H,I,.nil,h⟩
theorem wZ(hk:PE X k tk)(hv:PE X v tv)(hr:PPs X pos ks vs trs) :
  PPs X pos (some k::ks) (v::vs) ((tk,tv)::trs):=by
 refine λpins s σ H Q I h=>pairTrees_cons_walk (thn (hk pins s σ H _ I h) ?_)
 rintro u s1 ⟨x,H1,I1,rx,q1⟩
 refine thn (hv pins s1 σ H1 _ I1 q1) ?_
 rintro w2 s2 ⟨y,H2,I2,ry,q2⟩
 refine thn (hr pins s2 σ H2 _ I2 q2) ?_
 rintro ws s3 ⟨ps,H3,I3,rel,q3⟩
 exact⟨(x,y)::ps,H3,I3,.cons ⟨rx,ry⟩ rel,q3⟩
noncomputable def jd(kvs more:List (Key×V)):List (Key×V):=more.foldl (λacc kv=>mR acc kv.1 kv.2) kvs
theorem KV.merge:∀{more:List (Key×V)}{rs:List (Key×Value)}{kvs:List (Key×V)}{vs:List (Key×Value)},KV more rs->KV kvs vs->KV (jd kvs more) (merged vs rs):=by
 intro more rs kvs vs r
 unfold KV at r
 induction r generalizing kvs vs with
 | nil=>intro q;exact q
 | @cons p q ps qs h t ih =>
  intro r0
  have e:KV (mR kvs p.1 p.2) (stored vs q.1 q.2):=by
   have:=r0.put p.1 h.2
   rw[<-h.1];exact this
  exact ih e
theorem eL:∀(more kvs:List (Key×V)),(jd kvs more).length<=kvs.length+more.length
 | [],kvs=>by show kvs.length<=kvs.length+0;lia
 | p::r,kvs=>by
  have h1:=eL r (mR kvs p.1 p.2)
  have h2:=dS kvs p.1 p.2
  show (jd (mR kvs p.1 p.2) r).length<=_
  rw[AAG];lia
theorem jm:∀{kvs:List (Key×V)}{ws:List (Value×Value)},VV (kvs.map λkv=>(kV kv.1,kv.2)) ws->∃rs,Carries (aX P w) ws rs/\KV kvs rs
 | [],_,r=>by rw[AET]at r;cases r;exact⟨[],ACE,.nil⟩
 | p::kvs,_,r=>by
  rw[AAN]at r
  cases r with
  | @cons a b as bs h t =>
   obtain⟨rs,c,q⟩:=jm (P:=P) (w:=w) t
   obtain⟨b1,b2⟩:=b
   exact⟨(p.1,b2)::rs,⟨Bm h.1,rfl,c⟩,.cons ⟨rfl,h.2⟩ q⟩
def tDisp(trs:List (TE×TE)):TE:=λσ H Q=>∀p,H p=none->tw trs σ (upd H p (.dK [])) λps H2=>H2 p=some (.dK [])/\∃kvs:List (Key×V),ps=kvs.map (λkv=>(kV kv.1,kv.2))/\kvs.length<=15/\Q (.ref p) (upd H2 p (.dK (jd [] kvs)))
theorem Ag(h:PPs X pos keys values trs)(hall:keys.all (·.isSome)=true)(hl:keys.length=values.length)(h0:keys≠[])
  (h15:keys.length<=15):PE X (.Dict keys values pos) (tDisp trs):=by
 intro pins s σ H Q I q
 have hn:=I.hok.fresh (AAB s.heap.objs.size)
 have I1:=I.laid (a:=s.heap.objs.size) (o:=.dK []) (h':=s.heap.push { cls:=.type "dict",data:=.dict #[] }) (t':=s.toks) (λ_ _ q=>AA4 _ q) (AAB _) (yj s.heap I.big)
 refine wpAny_Dict_walk (knd:=aX X.prog X.w) hall hl h0 h15 (thn (h pins _ σ _ _ I1 (q _ hn)) ?_)
 rintro ws s2 ⟨ps,H2,I2,rel,e,kvs,ep,lk,q2⟩
 subst ep
 obtain⟨rs,c,rk⟩:=jm (P:=X.prog) (w:=X.w) rel
 obtain⟨z,hd,vs0,r0,dd⟩:=Fs I2.hok e
 cases r0
 refine⟨rs,c,dd,λh' dd' hs=>⟨.ref s.heap.objs.size,_,?_,rfl,q2⟩⟩
 have hz:(jd [] kvs).length<=sizeLine:=by
  have h1:=eL kvs []
  rw[AAY]at h1
  rw[ABQ];lia
 have he:∃q,h'.get? s.heap.objs.size=some q:=let ⟨q,_,_,hq,_⟩:=dd';⟨q,hq⟩
 exact jX I2 (by rw[e];exact ACE) hs he (zn hz hd (rk.merge .nil) dd')
end L2
namespace DL
open PySem
theorem dW(env:Env):∀(names:List (Str×NameKind)) (acc:List (Str×Addr)),
  (∀p∈names,p.2=ABC->∃c,env.cells.lookup p.1=some c) ->
  ∃cl,(forIn (m:=Sem) names acc λ(p:Str×NameKind) (r:List (Str×Addr)) =>
    if (p.2==ABC)=true then(do let a <-cellOf env p.1;pure (AEG ((p.1,a)::r)))else pure (AEG r))=pure cl /\
   (∀z c,cl.lookup z=some c->acc.lookup z=some c\/env.cells.lookup z=some c) /\
   (∀z c,acc.lookup z=some c->∃c',cl.lookup z=some c') /\
   (∀p∈names,p.2=ABC->∃c,cl.lookup p.1=some c)
 | [],acc,_=>⟨acc,rfl,λ_ _ h=>.inl h,λz c h=>⟨c,h⟩,λ_ h=>nomatch h⟩
 | (n,k)::aP,acc,hyp=>by
  by_cases hk:k=ABC
  ·subst hk
   obtain⟨c0,hc0⟩:=hyp (n,.free) AAO rfl
   obtain⟨cl,e,h1,h2,h3⟩:=dW env aP ((n,c0)::acc) λp hp=>hyp p (AA9 _ hp)
   have ce:cellOf env n=pure c0:=by unfold cellOf;rw[hc0]
   have own:∃c',cl.lookup n=some c':=h2 n c0 (by simp[AAv])
   refine⟨cl,?_,λz c hz=>?_,λz c hz=>?_,λp hp hf=>?_⟩
   ·rw[List.forIn_cons]
    simp only[beq_self_eq_true,if_true,ce,pure_bind]
    exact e
   ·rcases h1 z c hz with q | q
    ·rw[AAv]at q
     by_cases hz':(z==n)=true
     ·rw[hz']at q
      have:z=n:=by simpa using hz'
      subst this
      cases q
      exact .inr hc0
     ·have hz'':(z==n)=false:=by simpa using hz'
      rw[hz'']at q
      exact .inl q
    ·exact .inr q
   ·by_cases hz':z=n
    ·subst hz';exact own
    ·refine h2 z c ?_
     rw[AAv]
     have hz'':(z==n)=false:=by simpa using hz'
     rw[hz'']
     exact hz
   ·rcases AAL.mp hp with rfl | hp
    ·exact own
    ·exact h3 p hp hf
  ·have hb:(k==ABC)=false:=by simpa using hk
   obtain⟨cl,e,h1,h2,h3⟩:=dW env aP acc λp hp=>hyp p (AA9 _ hp)
   refine⟨cl,?_,h1,h2,λp hp hf=>?_⟩
   ·rw[List.forIn_cons]
    simp only[hb,AAR,if_false,pure_bind]
    exact e
   ·rcases AAL.mp hp with rfl | hp
    ·exact absurd hf hk
    ·exact h3 p hp hf
theorem fJ(hyp:∀p∈scope.names,p.2=ABC->∃c,env.cells.lookup p.1=some c) :
  ∃cl,closureFor scope env=pure cl/\(∀z c,cl.lookup z=some c->env.cells.lookup z=some c)/\(∀p∈scope.names,p.2=ABC->∃c,cl.lookup p.1=some c):=by
 obtain⟨cl,e,h1,h2,h3⟩:=dW env scope.names [] hyp
 refine⟨cl,?_,λz c hz=>?_,h3⟩
 ·unfold closureFor
  simp only[bind_pure]
  exact e
 ·rcases h1 z c hz with q | q
  ·simp at q
  ·exact q
theorem cY{env:Env}:∀{names:List (Str×NameKind)}{x:Str}{k:NameKind},
  (names.map λ(p:Str×NameKind)=>if (p.2==ABC&&env.scope.kind==.function&&env.kindOf p.1==some .cell)=true then(p.1,ACb)else(p.1,p.2)).lookup x=some k ->
   (names.lookup x=some k\/(k=ACb/\names.lookup x=some .free))
 | [],_,_,h=>by simp at h
 | (n,j)::aP,x,k,h=>by
  have ih:=@cY env aP x k
  rw[AAN,AAv]at h
  by_cases hx:(x==n)=true
  ·have hl:AC8 x ((n,j)::aP)=some j:=by rw[AAv,hx]
   rw[hl]
   by_cases hc:(j==ABC&&env.scope.kind==.function&&env.kindOf n==some .cell)=true
   ·simp only[hc,if_true,hx]at h
    cases h
    have:j=ABC:=by
     simp only[AAK]at hc
     simpa using hc.1.1
    exact .inr ⟨rfl,by rw[this]⟩
   ·simp only[hc,AAR,if_false,hx]at h
    exact .inl h
  ·have hx':(x==n)=false:=by simpa using hx
   have hl:AC8 x ((n,j)::aP)=AC8 x aP:=by rw[AAv,hx']
   rw[hl]
   refine ih ?_
   by_cases hc:(j==ABC&&env.scope.kind==.function&&env.kindOf n==some .cell)=true
   ·simp only[hc,if_true,hx']at h
    exact h
   ·simp only[hc,AAR,if_false,hx']at h
    exact h
theorem jv(ifs:List Expr)(env:Env):compTests ifs env =
  (forIn ifs true λc r=>if r=true then do let ok <-isTrue c env (eval c env);pure (AEG ok)else pure (AEG r)):=by
 unfold compTests
 simp only[bind_pure]
theorem rU(J:Nat->Shared->Prop)(ne:Value->Shared->Prop)
  (hne:∀e s',ne e s'->notedBy (model prog w) A env (λe s'=>R (.error e) s') e s')
  (turn:∀n s,J n s->wpAny (model prog w) A (pyNext it) (λr s1=>match r with
   | none=>R (.ok .next) s1
   | some v=>wpAny (model prog w) A (letOwnedTupleGo target it v) (λ_ s2=>wpAny (model prog w) A (assign target env v) (λ_ s3 =>
     wpAny (model prog w) A (compTests ifs env) (λok s4 =>
      if ok=true then wpAny (model prog w) A (eval elt env) (λy s5=>wpAny (model prog w) A (call (.builtin "list.append") [acc,y]) (λ_ s6=>∃m,m<n/\J m s6) ne s5) ne s4
      else ∃m,m<n/\J m s4) ne s3) ne s2) ne s1) ne s)
  (n:Nat) (h:J n s):codeAny (model prog w) A (.compLoop (.ListComp elt [⟨target,iter,ifs,0⟩] scope pos) 0 it acc env) R s:=by
 refine codeAny_loop rfl J (λn s hJ=>?_) n h
 show wpAny _ A ((compTurn (.ListComp elt [⟨target,iter,ifs,0⟩] scope pos) 0 it acc env).onRaise (λx=>do noteFrame x env;theTreesLotGoes x)) _ _ s
 refine wpAny_noted ?_
 rw[compTurn_list]
 refine AA0 (ADS (AA0 (AAl (turn n s hJ) (λr s1 h1=>?_) hne)))
 cases r with
 | none=>exact AA3 h1
 | some v =>
  refine AA0 (AAl h1 (λ_ s2 h2=>?_) hne)
  refine AA0 (AAl h2 (λ_ s3 h3=>?_) hne)
  rw[jv]at h3
  refine AA0 (AAl h3 (λok s4 h4=>?_) hne)
  cases ok with
  | false=>exact AA3 ⟨rfl,h4⟩
  | true =>
   exact AA0 (AA0 (AAl h4 (λy s5 h5=>AA0 (AAl h5 (λ_ s6 h6=>AA3 (AA3 ⟨rfl,h6⟩)) hne)) hne))
end DL
namespace L2
open PySem PySem.Spec PyProof.Rows DL
theorem fw{env:Env}:∀{names:List (Str×NameKind)}{x:Str},names.lookup x=some .free ->
  ((names.map λ(p:Str×NameKind)=>if (p.2==ABC&&env.scope.kind==.function&&env.kindOf p.1==some .cell)=true then(p.1,ACb)else(p.1,p.2)).lookup x=some .cell \/
   (names.map λ(p:Str×NameKind)=>if (p.2==ABC&&env.scope.kind==.function&&env.kindOf p.1==some .cell)=true then(p.1,ACb)else(p.1,p.2)).lookup x=some .free)
 | [],_,h=>by simp at h
 | (n,j)::aP,x,h=>by
  have ih:=@fw env aP x
  rw[AAN,AAv]
  rw[AAv]at h
  by_cases hc:(j==ABC&&env.scope.kind==.function&&env.kindOf n==some .cell)=true
  ·by_cases hx:(x==n)=true
   ·simp[hc,hx]
   ·have hx':(x==n)=false:=by simpa using hx
    rw[hx']at h
    simp only[hc,if_true,hx']
    exact ih h
  ·by_cases hx:(x==n)=true
   ·rw[hx]at h
    cases h
    right
    simp only[hc,AAR,if_false,hx]
   ·have hx':(x==n)=false:=by simpa using hx
    rw[hx']at h
    simp only[hc,AAR,if_false,hx']
    exact ih h
noncomputable def blk(X:Cx)(N':List Str)(scope:Scope)(cl:List (Str×Addr))(s₀:Shared)(H₀:Hp)(ex:List Addr):Cx :=
 { X with N:=N',s₀:=s₀,H₀:=H₀,env:=compEnvC scope cl s₀.heap.objs.size X.env,outer:=X.stack,ex:=ex,fn:=λx=>scope.names.lookup x==some .cell,pn:=[],xe:=λ_ _=>False }
structure BlkSc(X:Cx)(N':List Str)(nt:Nat)(js:List Nat)(scope:Scope):Prop where
 kind:scope.kind=.function
 nocell:∀y∈scope.names,y.2≠.cell
 loc:∀y∈scope.names,y.2=.local->scope.names.lookup y.1=some .local
 free:∀y∈scope.names,y.2=.free->(X.env.kindOf y.1=some .cell\/X.env.kindOf y.1=some .free)
 len:N'.length=nt+js.length
 fr:∀(k j:Nat),js[k]?=some j->∃x,N'[nt+k]?=some x/\X.N[j]?=some x/\scope.names.lookup x=some .free/\(X.env.kindOf x=some .cell\/X.env.kindOf x=some .free)
noncomputable def bst(nt:Nat)(js:List Nat)(σ:St):St:=ACL nt none++js.map λj=>(σ[j]?).join
theorem wv(nt:Nat)(js:List Nat)(σ:St):(bst nt js σ).length=nt+js.length:=by simp[bst]
theorem Ck(h:(bst nt js σ)[i]?=some (some v)):∃k j,i=nt+k/\js[k]?=some j/\σ[j]?=some (some v):=by
 unfold bst at h
 by_cases hi:i<nt
 ·rw[AAJ (by simpa using hi),ACa]at h
  simp[hi]at h
 ·rw[AAp (by simpa using Nat.not_lt.mp hi),ACv,AAU]at h
  cases e:js[i-nt]? with
  | none=>rw[e]at h;cases h
  | some j =>
   rw[e]at h
   refine⟨i-nt,j,by lia,e,?_⟩
   have h':(σ[j]?).join=some v:=by simpa using h
   cases q:σ[j]? with
   | none=>rw[q]at h';cases h'
   | some o=>rw[q]at h';exact congrArg some h'
def PTs(X:Cx)(ifs:List Expr)(t:TT):Prop :=
 ∀(pins:List (Addr×Obj)) (s:Shared) (σ:St) (H:Hp) (Q:Bool->Hp->Prop),Inv X pins σ H s->t σ H Q->wpAny (model X.prog X.w) X.A (compTests ifs X.env) (TP X pins σ Q) X.xe s
def ttNil:TT:=λ_ H Q=>Q true H
theorem zV:PTs X [] ttNil:=λpins s σ H Q I h=>by
 rw[jv]
 exact wpAny_tests_nil ⟨H,I,h⟩
theorem zU(h:PT X c t):PTs X [c] t:=λpins s σ H Q I hq=>by
 rw[jv]
 exact wpAny_tests_one (h pins s σ H Q I hq)
def tLC(nt:Nat)(js:List Nat)(wi:TI)(g:TG)(tt:TT)(te:TE):TE:=λσ H Q=>wi σ H λJ H1=>∃W:Nat->Nat->List V->St->Hp->Prop,(∃m,W 0 m [] (bst nt js σ) H1) /\
 ∀i m vs τ H,W i m vs τ H->(J.stop i H/\∀p,H p=none->Q (.ref p) (upd H p (.lst vs))) \/
  (J.go i H/\∀x H',J.yld i H x H'->g x τ H' λτ2 H2=>tt τ2 H2 λb H3=>if b=true then te τ2 H3 λy H4=>vs.length<sizeLine/\∃m',m' < m/\W (i+1) m' (vs++[y]) τ2 H4 else ∃m',m' < m/\W (i+1) m' vs τ2 H3)
noncomputable abbrev bH(its:List Value)(k:Nat):Obj:={ cls:=.type "list",data:=.seq its.toArray k }
structure TurnX(X:Cx)(tg:Expr)(J:It)(fp:List Addr)(it:Addr)(tn:Nat->Heap->Prop):Prop where
 item:∀(i:Nat) (pins:List (Addr×Obj)) (s:Shared) (σ:St) (H:Hp) (E:Value->Shared->Prop),Inv X pins σ H s->(∀b∈fp,oR X pins H b)->tn i s.heap->J.go i H ->
  wpAny (model X.prog X.w) X.A (pyNext (.ref it)) (λr s1=>∃u,r=some u /\
   wpAny (model X.prog X.w) X.A (letOwnedTupleGo tg (.ref it) u) (λ_ s2=>∃x H',Inv X pins σ H' s2/\aR x u/\J.yld i H x H'/\tn (i+1) s2.heap/\∀b∈fp,H' b=none) E s1) E s
 done:∀(i:Nat) (pins:List (Addr×Obj)) (s:Shared) (σ:St) (H:Hp) (E:Value->Shared->Prop),Inv X pins σ H s->(∀b∈fp,oR X pins H b)->tn i s.heap->J.stop i H ->
  wpAny (model X.prog X.w) X.A (pyNext (.ref it)) (λr s1=>r=none/\Inv X pins σ H s1) E s
theorem Turn.at(T:Turn X.prog X.w X.K tg J fp it tn)(hc:X.calm=true):TurnX X tg J fp it tn:=⟨T.item X rfl rfl rfl hc,T.done X rfl rfl rfl hc⟩
theorem Inv.blkOk(B:BlkSc X N' nt js scope)(I:Inv X pins σ H s)
  (hcl1:∀z c,cl.lookup z=some c->X.env.cells.lookup z=some c) (hcl2:∀p∈scope.names,p.2=ABC->∃c,cl.lookup p.1=some c) (hf:∀b∈fp,oR X pins H b) (hfs:∀b∈fp,b<s.heap.objs.size) :
  (blk X N' scope cl { s with heap:=s.heap.push ob } H (s.heap.objs.size::fp)).Ok:=by
 have J:Inv X pins σ H { s with heap:=s.heap.push ob }:=I.kept (t':=s.toks) λb o e=>AA4 _ e
 have ltc:∀z c,cl.lookup z=some c->c<s.heap.objs.size:=λz c e=>by
  obtain⟨v,q⟩:=I.cell z c (hcl1 z c e)
  exact q.lt
 have hC:(s.heap.push ob).objs.size=s.heap.objs.size+1:=ACN ..
 refine⟨I.ok.mod,B.kind,I.ok.glob,I.ok.blt,AAB _,λy z c h1 h2=>I.ok.inj y z c (hcl1 y c h1) (hcl1 z c h2),λy hy=>?_,λy c h=>?_,I.ok.hd,I.ok.frames,.inl rfl,λb hb=>?_,λb o e=>?_,?_,λb o e hb=>?_,λb hb=>?_,J.stack,I.stkFree⟩
 ·have key:scope.names.lookup y=some .free:=by
   rcases hy with hy | hy
   ·rcases cY (env:=X.env) (names:=scope.names) (x:=y) (k:=.cell) hy with q | ⟨_,q⟩
    ·exact absurd rfl (B.nocell _ (ABJ q))
    ·exact q
   ·rcases cY (env:=X.env) (names:=scope.names) (x:=y) (k:=.free) hy with q | ⟨q,_⟩
    ·exact q
    ·cases q
  exact hcl2 (y,.free) (ABJ key) rfl
 ·exact absurd rfl (B.nocell _ (ABJ (beq_iff_eq.mp (show (scope.names.lookup y==some ACb)=true from h))))
 ·show b≠(s.heap.push ob).objs.size/\∀x c,cl.lookup x=some c->c≠b
  rw[hC]
  rcases AAL.mp hb with rfl | hb
  ·exact⟨AAH (ACg _),λx c e=>AAH (ltc x c e)⟩
  ·exact⟨AAH (ABi (hfs b hb)),λx c e=>(hf b hb).2.2.2.2.1 x c (hcl1 x c e)⟩
 ·exact⟨AA4 _ (I.bs b o e).1,(I.bs b o e).2⟩
 ·show X.base.objs.size<=(s.heap.push ob).objs.size
  rw[hC]
  exact Nat.le_succ_of_le (AAh I.ok.bsz I.sz)
 ·rcases AAL.mp hb with rfl | hb
  ·exact absurd (AAD (I.bs _ o e).1) (AAe _)
  ·rcases(hf b hb).2.2.2.1 with z | z
   ·exact I.ok.noex b o e z
   ·exact absurd (AAQ (AAD (I.ok.bs b o e).1) z) (AAe _)
 ·intro hz
  have hz':=I.stkSub b hz
  rcases AAL.mp hb with rfl | hb
  ·rcases AAL.mp hz' with q | q
   ·exact absurd I.lt (by rw[<-q];exact AAe _)
   ·exact I.nofs (AAB _) q
  ·rcases AAL.mp hz' with q | q
   ·exact(hf b hb).2.1 q
   ·exact(hf b hb).2.2.1 q
theorem Inv.blkStart(B:BlkSc X N' nt js scope)(I:Inv X pins σ H s)
  (hcl1:∀z c,cl.lookup z=some c->X.env.cells.lookup z=some c) (hcl2:∀p∈scope.names,p.2=ABC->∃c,cl.lookup p.1=some c) (hf:∀b∈fp,oR X pins H b) (hfs:∀b∈fp,b<s.heap.objs.size)
  (old:∀b o,(s.heap.push (bH [] 0)).get? b=some o->h1.get? b=some o) (hn:h1.Ns (s.heap.push (bH [] 0)).objs.size mm) :
  Inv (blk X N' scope cl { s with heap:=s.heap.push (bH [] 0) } H (s.heap.objs.size::fp)) [(s.heap.objs.size,bH [] 0)] (bst nt js σ) H { s with heap:=h1,toks:=tk }:=by
 have old2:∀b o,s.heap.get? b=some o->h1.get? b=some o:=λb o e=>old b o (AA4 _ e)
 have hC:(s.heap.push (bH [] 0)).objs.size=s.heap.objs.size+1:=ACN ..
 refine⟨I.blkOk B hcl1 hcl2 hf hfs,rfl,I.bare,Un.kept old,⟨mm,hn,λi x v e1 e2 e3=>?_⟩,λx c e=>?_,?_,λx c e=>I.freeC x c (hcl1 x c e),λp hp=>?_,I.hok.kept old2,?_⟩
 ·obtain⟨k,j,rfl,hj,hσ⟩:=Ck e2
  obtain⟨x',n1,n2,lf,kf⟩:=B.fr k j hj
  have ex:x=x':=AAM (e1.symm.trans n1)
  subst ex
  obtain⟨m2,hn2,hl2⟩:=I.loc
  have vis:Vis X.env.scope x:=kf.elim (λz=>.inr (.inl z)) λz=>.inr (.inr z)
  obtain⟨u,r,look⟩:=hl2 j x v n2 hσ vis
  refine⟨u,r,?_⟩
  rcases look with⟨q,_⟩|⟨q,c,hc,hcell⟩
  ·rcases kf with z | z<;>(rw[q]at z;cases z)
  ·obtain⟨c',hc'⟩:=hcl2 (x,.free) (ABJ lf) rfl
   have:c'=c:=AAM ((hcl1 x c' hc').symm.trans hc)
   subst this
   exact .inr ⟨fw (env:=X.env) lf,c',hc',hcell.keeps old2⟩
 ·obtain⟨v,q⟩:=I.cell x c (hcl1 x c e)
  exact⟨v,q.keeps old2⟩
 ·exact I.hok.fresh (by show s.heap.objs.size<=(s.heap.push (bH [] 0)).objs.size;rw[hC];exact ADo _)
 ·have e:p=(s.heap.objs.size,bH [] 0):=by simpa [blk]using hp
  subst e
  refine⟨old _ _ (AAE _ rfl),I.hok.fresh (AAB _),?_,?_,λv z=>by cases z⟩
  ·show s.heap.objs.size≠(s.heap.push (bH [] 0)).objs.size
   rw[hC]
   exact AAH (ACg _)
  ·intro hz
   rcases AAL.mp (I.stkSub _ hz)with q | q
   ·exact absurd I.lt (by rw[<-q];exact AAe _)
   ·exact I.nofs (AAB _) q
 ·rw[wv]
  exact B.len.symm
theorem Inv.blkEnd(I:Inv X pins σ H s)
  (hf:∀b∈fp,oR X pins H b)
  (I4:Inv (blk X N' scope cl { s with heap:=s.heap.push (bH [] 0) } H (s.heap.objs.size::fp)) [(s.heap.objs.size,bH its k)] τ H' s')
  (rv:ay vs its) (hl:vs.length<=sizeLine) (sb:AB9 (s.heap.push (bH [] 0)).objs.size s'.heap h') :
  Inv X pins σ (upd H' s.heap.objs.size (.lst vs)) { s' with heap:=h' }:=by
 have hC:(s.heap.push (bH [] 0)).objs.size=s.heap.objs.size+1:=ACN ..
 have hDC:s.heap.objs.size≠(s.heap.push (bH [] 0)).objs.size:=by rw[hC];exact AAH (ACg _)
 obtain⟨oD,fD,_⟩:=I4.pin (s.heap.objs.size,bH its k) (by simp[blk])
 have oD':s'.heap.get? s.heap.objs.size=some (bH its k):=oD
 have fD':H' s.heap.objs.size=none:=fD
 have fC:H' (s.heap.push (bH [] 0)).objs.size=none:=I4.free
 have u:Un (frs X.stack) (s.heap.objs.size::fp) H H' (s.heap.push (bH [] 0)) s'.heap:=I4.base
 have ne:∀b o,s.heap.get? b=some o->b≠s.heap.objs.size/\b≠(s.heap.push (bH [] 0)).objs.size:=λb o e=>by
  have:=AAD e
  exact⟨AAH this,by rw[hC];exact AAH (ABi this)⟩
 have up:∀b o,s.heap.get? b=some o->(s.heap.push (bH [] 0)).get? b=some o:=λb o e=>AA4 _ e
 have nx:∀b o,s.heap.get? b=some o->b∉fp->b∉s.heap.objs.size::fp:=λb o e hx hz=>by
  rcases AAL.mp hz with q | q
  ·exact(ne b o e).1 q
  ·exact hx q
 refine I.call' (s':={ s' with heap:=h' }) (ch:=fp) I4.os ⟨λb o e n hb hx=>?_,λb o e n hb hx=>?_,λb o e n hx=>?_,λb o e hx=>?_,λb xs e=>?_,λb o w e=>?_,λb ps e=>?_⟩ (λb w q=>?_) I4.bare λb hb=>?_
 ·exact(sb.2 b (ne b o e).2).trans (u.keep b o (up b o e) n hb (nx b o e hx))
 ·obtain⟨sl,z⟩:=u.slot b o (up b o e) n hb (nx b o e hx)
  exact⟨sl,(sb.2 b (ne b o e).2).trans z⟩
 ·rw[av (ne b o e).1]
  exact u.free b o (up b o e) n (nx b o e hx)
 ·obtain⟨o',z⟩:=u.there b o (up b o e) (nx b o e hx)
  exact⟨o',(sb.2 b (ne b o e).2).trans z⟩
 ·have z:=u.tups b xs e
  rw[av (ad z fD')]
  exact z
 ·have z:=u.frzs b o w e
  rw[av (ad z fD')]
  exact z
 ·obtain⟨more,z⟩:=u.tbls b ps e
  exact⟨more,by rw[av (ad z fD')];exact z⟩
 ·by_cases hb:b=s.heap.objs.size
  ·subst hb
   rw[aC]at q
   cases q
   exact⟨hl,its,k,rv,(sb.2 _ hDC).trans oD'⟩
  ·rw[av hb]at q
   refine(I4.hok b w q).stay (λc v hc r=>(sb.2 c ?_).trans r) (λc z=>by rw[av (ad z fD')];exact z) λc xs z=>by rw[av (ad z fD')];exact z
   rcases hc with rfl | hc
   ·exact ad q fC
   ·exact ad hc fC
 ·obtain⟨_,f1,_,f3,f4,f5⟩:=hf b hb
  exact⟨f3,f1,f4,f5⟩
theorem uR{elt tg iter:Expr}{ifs:List Expr}{scope:Scope}{pos:Pos}{N':List Str}{cl:List (Str×Addr)}{J:It}{fp:List Addr}{it:Addr}{tn:Nat->Heap->Prop}{g:TG}{tt:TT}{te:TE}{Q:VK}
  {W:Nat->Nat->List V->St->Hp->Prop}{R:Result->Shared->Prop}{s0:Shared}{H0:Hp}{D:Addr} (TX:TurnX (blk X N' scope cl s0 H0 (D::fp)) tg J fp it tn)
  (hg:PG (blk X N' scope cl s0 H0 (D::fp)) tg g) (ht:PTs (blk X N' scope cl s0 H0 (D::fp)) ifs tt) (he:PE (blk X N' scope cl s0 H0 (D::fp)) elt te)
  (T:Turn X.prog X.w X.K tg J fp it tn) (hDf:D∉fp)
  (turn:∀i m vs τ H,W i m vs τ H->(J.stop i H/\∀p,H p=none->Q (.ref p) (upd H p (.lst vs))) \/
   (J.go i H/\∀x H',J.yld i H x H'->g x τ H' λτ2 H2=>tt τ2 H2 λb H3=>if b=true then te τ2 H3 λy H4=>vs.length<sizeLine/\∃m',m' < m/\W (i+1) m' (vs++[y]) τ2 H4 else ∃m',m' < m/\W (i+1) m' vs τ2 H3))
  (hstat:∀b∈fp,b≠s0.heap.objs.size/\b∉frs X.stack/\∀x c,cl.lookup x=some c->c≠b) (hDC:D≠s0.heap.objs.size) (hDs:D∉frs X.stack) (hDc:∀x c,cl.lookup x=some c->c≠D)
  (fin:∀τ H' s' vs its k,Inv (blk X N' scope cl s0 H0 (D::fp)) [(D,bH its k)] τ H' s'->ay vs its->vs.length<=sizeLine->Q (.ref D) (upd H' D (.lst vs))->R (.ok .next) s')
  (m0:Nat) {τ0:St}{s3:Shared}{H3:Hp} (I3:Inv (blk X N' scope cl s0 H0 (D::fp)) [(D,bH [] 0)] τ0 H3 s3) (st3:tn 0 s3.heap) (fr3:∀b∈fp,H3 b=none) (w0:W 0 m0 [] τ0 H3) :
  codeAny (model X.prog X.w) X.A (.compLoop (.ListComp elt [⟨tg,iter,ifs,0⟩] scope pos) 0 (.ref it) (.ref D) (compEnvC scope cl s0.heap.objs.size X.env)) R s3:=by
 have fok:∀{ob:Obj}{H':Hp},(∀b∈fp,H' b=none)->∀b∈fp,oR (blk X N' scope cl s0 H0 (D::fp)) [(D,ob)] H' b:=λ{ob H'} hn b hb=>by
  obtain⟨a1,a2,a3⟩:=hstat b hb
  refine⟨hn b hb,a1,a2,.inl (AA9 _ hb),a3,λp hp z=>?_⟩
  have e:p=(D,ob):=by simpa [blk]using hp
  subst e
  exact hDf (by rw[show D=b from z];exact hb)
 refine rU (λn s'=>∃i τ H' vs its k,Inv (blk X N' scope cl s0 H0 (D::fp)) [(D,bH its k)] τ H' s'/\tn i s'.heap/\(∀b∈fp,H' b=none)/\ay vs its/\vs.length<=sizeLine/\W i n vs τ H')
  (λ_ _=>False) (λ_ _ z=>z.elim) ?_ m0 ⟨0,τ0,H3,[],[],0,I3,st3,fr3,.nil,AAV _,w0⟩
 rintro n s' ⟨i,τ,H',vs,its,k,I',st',fr',rv,hl,w'⟩
 rcases turn i n vs τ H' w' with⟨stop,q⟩|⟨go,step⟩
 ·refine thn (TX.done i _ s' τ H' (λ_ _=>False) I' (fok fr') st' stop) ?_
  rintro r s4 ⟨hr,I4⟩
  subst hr
  exact fin τ H' s4 vs its k I4 rv hl (q D (I'.pin (D,bH its k) (by simp[blk])).2.1)
 ·refine thn (TX.item i _ s' τ H' (λ_ _=>False) I' (fok fr') st' go) ?_
  rintro r s4 ⟨u,hr,h4⟩
  subst hr
  refine thn h4 ?_
  rintro _ s5 ⟨x,H5,I5,r5,y5,st5,fr5⟩
  have I5':=I5.pinned (fok fr5) (T.obj _ _ st5)
  refine thn (hg _ s5 τ H5 x u _ I5' r5 (step x H5 y5)) ?_
  rintro _ s6 ⟨τ6,H6,I6,q6⟩
  refine thn (ht _ s6 τ6 H6 _ I6 q6) ?_
  rintro ok s7 ⟨H7,I7,q7⟩
  have memF:∀{b:Addr}{o:Obj},b∈fp->s5.heap.get? b=some o->(b,o)∈(blk X N' scope cl s0 H0 (D::fp)).pn++([(D,bH its k)]++eJ fp s5.heap):=λhb e=>AAP _ (AAP _ (du hb e))
  cases ok with
  | false =>
   obtain⟨m',hm,w7⟩:=(show ∃m',m' < n/\W (i+1) m' vs τ6 H7 from q7)
   refine⟨m',hm,i+1,τ6,H7,vs,its,k,I7.unpinned,T.keep _ _ _ st5 λb hb o e=>(I7.pin (b,o) (memF hb e)).1,λb hb=>?_,rv,hl,w7⟩
   obtain⟨o,e,_⟩:=T.obj _ _ st5 b hb
   exact(I7.pin (b,o) (memF hb e)).2.1
  | true =>
   refine thn (he _ s7 τ6 H7 _ I7 q7) ?_
   rintro yv s8 ⟨y,H8,I8,r8,q8⟩
   obtain⟨hsz,m',hm,w8⟩:=q8
   obtain⟨oD,fD,_⟩:=I8.pin (D,bH its k) (AAP _ (ABP _ (by simp)))
   have fD':H8 D=none:=fD
   refine append_at (its:=its.toArray) (n:=k) oD (λh9 sb9 o9=>?_) (by rw[AAA,<-rv.length];exact hl)
   have J8:Inv (blk X N' scope cl s0 H0 (D::fp)) (eJ fp s5.heap) τ6 H8 s8:=I8.pins_of λp hp=>I8.pin p (AAP _ (AAP _ hp))
   have J9:Inv (blk X N' scope cl s0 H0 (D::fp)) (eJ fp s5.heap) τ6 H8 { s8 with heap:=h9 }:=J8.turned (t':=s8.toks) (it:=D) (λb o hb e=>(sb9.2 b hb).trans e) fD' hDC (.inl AAO) hDc λp hp z=>by
    have hp':p∈eJ fp s5.heap:=by simpa [blk]using hp
    exact hDf (by rw[<-z];exact(lI hp').1)
   have memG:∀{b:Addr}{o:Obj},b∈fp->s5.heap.get? b=some o->(b,o)∈(blk X N' scope cl s0 H0 (D::fp)).pn++eJ fp s5.heap:=λhb e=>AAP _ (du hb e)
   refine⟨m',hm,i+1,τ6,H8,vs++[y],its++[yv],k+1,J9.pins_of λp hp=>?_,T.keep _ _ _ st5 λb hb o e=>(J9.pin (b,o) (memG hb e)).1,λb hb=>?_,rv.append (.cons r8 .nil),?_,w8⟩
   ·have e:p=(D,bH (its++[yv]) (k+1)):=by simpa using hp
    subst e
    refine⟨?_,fD',hDC,hDs,λv z=>by cases z⟩
    rw[show bH (its++[yv]) (k+1)=({ cls:=.type "list",data:=.seq (its.toArray.push yv) (k+1) }:Obj) by rw[List.push_toArray]]
    exact o9
   ·obtain⟨o,e,_⟩:=T.obj _ _ st5 b hb
    exact(J9.pin (b,o) (memG hb e)).2.1
   ·rw[AAC]
    exact hsz
def PIG(X:Cx)(PP:It->List Addr->Addr->(Nat->Heap->Prop)->Prop)(iter:Expr)(wi:TI):Prop :=
 ∀(pins:List (Addr×Obj)) (s:Shared) (σ:St) (H:Hp) (R:It->Hp->Prop),Inv X pins σ H s->wi σ H R ->
  wpAny (model X.prog X.w) X.A (eval iter X.env) (λv s1=>wpAny (model X.prog X.w) X.A (pyIter v) (λitv s2=>∃it fp tn J H',itv=.ref it/\Inv X pins σ H' s2/\PP J fp it tn/\tn 0 s2.heap/\(∀b∈fp,oR X pins H' b)/\R J H') X.xe s1) X.xe s
theorem Dy(B:BlkSc X N' nt js scope)(hc:∀J fp it tn,PP J fp it tn->Turn X.prog X.w X.K tg J fp it tn/\∀pins σ H s cl s0 ex,Inv X pins σ H s->TurnX (blk X N' scope cl s0 H ex) tg J fp it tn)(hi:PIG X PP iter wi)
  (hg:∀cl s0 H0 ex,PG (blk X N' scope cl s0 H0 ex) tg g) (ht:∀cl s0 H0 ex,PTs (blk X N' scope cl s0 H0 ex) ifs tt) (he:∀cl s0 H0 ex,PE (blk X N' scope cl s0 H0 ex) elt te)
  (hs:∀x,foldedSetIterable iter X.env x=pure x:=by intro _;rfl):PE X (.ListComp elt [⟨tg,iter,ifs,0⟩] scope pos) (tLC nt js wi g tt te):=by
 intro pins s σ H Q I h
 rw[eval_ListComp]
 obtain⟨cl,ecl,hcl1,hcl2⟩:=fJ (scope:=scope) (env:=X.env) λp hp hf=>I.ok.has p.1 (B.free p hp hf)
 refine wpAny_comprehension_free (use:=none) rfl hs ecl B.kind B.loc ?_
 refine thn (hi pins s σ H _ I h) λv s1 h1=>thn h1 λitv s2 h2=>?_
 obtain⟨it,fp,tn,J,H2,e,I2,T,st2,f2,W,⟨m0,w0⟩,turn⟩:=h2
 obtain⟨T,TX⟩:=hc _ _ _ _ T
 subst e
 refine AAa (wpAny_newFunctionEnv B.nocell (by intro y hy;simp at hy) (λh1 hns1 hsb1=>?_) B.kind)
 have hfs:∀b∈fp,b<s2.heap.objs.size:=λb hb=>by
  obtain⟨o,e,_⟩:=T.obj _ _ st2 b hb
  exact AAD e
 have hC:(s2.heap.push (bH [] 0)).objs.size=s2.heap.objs.size+1:=ACN ..
 have old:∀b o,(s2.heap.push (bH [] 0)).get? b=some o->h1.get? b=some o:=λb o e=>(hsb1.2 b (AAH (AAD e))).trans (AA4 _ e)
 have I3:=I2.blkStart (tk:=s2.toks+([]:List (Str×Value)).length) B hcl1 hcl2 f2 hfs old hns1
 have st3:tn 0 h1:=T.keep _ _ _ st2 λb _ o e=>old b o (AA4 _ e)
 have hDf:s2.heap.objs.size∉fp:=λz=>AAe _ (hfs _ z)
 have hDs:s2.heap.objs.size∉frs X.stack:=λz=>by
  rcases AAL.mp (I2.stkSub _ z)with q | q
  ·exact absurd I2.lt (by rw[<-q];exact AAe _)
  ·exact I2.nofs (AAB _) q
 have hDC:s2.heap.objs.size≠(s2.heap.push (bH [] 0)).objs.size:=by rw[hC];exact AAH (ACg _)
 have ltc:∀z c,cl.lookup z=some c->c<s2.heap.objs.size:=λz c e=>by
  obtain⟨v,q⟩:=I2.cell z c (hcl1 z c e)
  exact q.lt
 have hstat:∀b∈fp,b≠(s2.heap.push (bH [] 0)).objs.size/\b∉frs X.stack/\∀x c,cl.lookup x=some c->c≠b:=λb hb=>by
  refine⟨by rw[hC];exact AAH (ABi (hfs b hb)),λz=>?_,λx c e=>(f2 b hb).2.2.2.2.1 x c (hcl1 x c e)⟩
  rcases AAL.mp (I2.stkSub b z)with q | q
  ·exact(f2 b hb).2.1 q
  ·exact(f2 b hb).2.2.1 q
 have loop:codeAny (model X.prog X.w) X.A (.compLoop (.ListComp elt [⟨tg,iter,ifs,0⟩] scope pos) 0 (.ref it) (.ref s2.heap.objs.size) (compEnvC scope cl (s2.heap.push (bH [] 0)).objs.size X.env))
   (compPost (model X.prog X.w) X.A X.xe none (EP X pins σ Q) (.ref s2.heap.objs.size) (s2.heap.push (bH [] 0)).objs.size) { s2 with heap:=h1,toks:=s2.toks+([]:List (Str×Value)).length }:=by
  refine uR (s0:={ s2 with heap:=s2.heap.push (bH [] 0) }) (H0:=H2) (N':=N') (Q:=Q) (TX _ _ _ _ _ _ _ I2) (hg _ _ _ _) (ht _ _ _ _) (he _ _ _ _) T hDf turn hstat hDC hDs (λx c e=>AAH (ltc x c e)) ?_ m0 I3 st3 (λb hb=>(f2 b hb).1) w0
  intro τ H' s' vs its k I4 rv hl q
  obtain⟨mm,hn,_⟩:=id I4.loc
  exact⟨mm,hn,λh' sb=>⟨.ref s2.heap.objs.size,_,I2.blkEnd f2 I4 rv hl sb,rfl,q⟩⟩
 exact codeAny_compStart_list loop (T.self _ 0 _ _ _ st3 loop)
theorem pe_lc{elt tg iter:Expr}{ifs:List Expr}{scope:Scope}{pos:Pos}{N':List Str}{nt:Nat}{js:List Nat}{wi:TI}{g:TG}{tt:TT}{te:TE}(B:BlkSc X N' nt js scope)(hc:X.calm=true)(hi:PI X tg iter wi)
  (hg:∀cl s0 H0 ex,PG (blk X N' scope cl s0 H0 ex) tg g) (ht:∀cl s0 H0 ex,PTs (blk X N' scope cl s0 H0 ex) ifs tt) (he:∀cl s0 H0 ex,PE (blk X N' scope cl s0 H0 ex) elt te)
  (hs:∀x,foldedSetIterable iter X.env x=pure x:=by intro _;rfl):PE X (.ListComp elt [⟨tg,iter,ifs,0⟩] scope pos) (tLC nt js wi g tt te) :=
 Dy B (λJ fp it tn (T:Turn X.prog X.w X.K tg J fp it tn)=>⟨T,λ_ _ _ _ cl s0 ex _=>Turn.at T hc⟩)
  (λpins s σ H R I q=>thn (hi pins s σ H R I q) λv s1 h1=>thn h1 λitv s2 ⟨it,fp,tn,J,H',f0,f1,f2,f3,f4,f5⟩=>⟨it,fp,tn,J,H',f0,f1,f2,f3,f4,f5⟩) hg ht he hs
section
inductive D where
 | non | bl (b:Bool) | int (i:Int) | str (x:Str) | ty (n:String) | tup (ds:List D) | ref (n:Nat)
structure Xn where
 nm:Str
 fs:List (Str×D)
instance:Coe Str Xn:=⟨λx=>⟨x,[]⟩⟩
inductive MO where
 | lst (xs:List D)
 | fz (xs:List D)
 | kl (xs:List D)
 | dct (kvs:List (Str×D))
 | dkt (kvs:List (D×D))
 | dkq (e:Nat) (kvs:List (D×D))
 | dkm (kvs:List (D×D))
 | fdc (o:Obj) (kvs:List (Str×D))
 | tb (x:Str) (b:Bool)
 | exc (x:Xn) (e:Addr)
 | ins (c:Str) (fs:List (Str×D))
 | tl (x:Str) (p:Pos) (q:Str) (e:Addr)
noncomputable abbrev Mem:=List MO
noncomputable def MO.isL:MO->Bool
 | .dct _=>false
 | .dkt _=>false
 | .dkq _ _=>false
 | .fdc _ _=>false
 | .dkm _=>false
 | .tb _ _=>false
 | .exc _ _=>false
 | .ins _ _=>false
 | .tl _ _ _ _=>false
 | _=>true
noncomputable def jN(ks:List Str)(vs:List V):List (Key×V):=(ks.zip vs).map λp=>(AC2 p.1,p.2)
mutual
inductive Rep(K:AA1)(ρ:List Addr)(H:Hp):D->V->Prop
 | non:Rep K ρ H .non .non
 | bl (b:Bool):Rep K ρ H (.bl b) (.bl b)
 | int (i:Int):Rep K ρ H (.int i) (.int i)
 | str (x:Str):Rep K ρ H (.str x) (.str x)
 | ty (n:String):Rep K ρ H (.ty n) (.ty n)
 | tup {a:Addr}{vs:List V}{ds:List D} (h:SqT K H a vs) (r:Reps K ρ H ds vs):Rep K ρ H (.tup ds) (.ref a)
 | ref {n:Nat}{a:Addr} (h:ρ[n]?=some a):Rep K ρ H (.ref n) (.ref a)
inductive Reps(K:AA1)(ρ:List Addr)(H:Hp):List D->List V->Prop
 | nil:Reps K ρ H [] []
 | cons {d:D}{v:V}{ds:List D}{vs:List V} (h:Rep K ρ H d v) (t:Reps K ρ H ds vs):Reps K ρ H (d::ds) (v::vs)
end
def KList(K:AA1)(a:Addr)(xs:List V):Prop :=
 ∃(o:Obj) (its:Array Value) (n:Nat),K.lookup a=some o/\o.cls=.type "list"/\o.dict=none/\o.data=.seq its n/\its.size<=sizeLine/\ay xs its.toList
noncomputable def fT:Nat->D->Bool
 | _,.str _=>true
 | _,.int _=>true
 | n+1,.tup ds=>ds.all (fT n)
 | _,_=>false
noncomputable def hkD(w:World):Nat->D->Int
 | _,.str x=>hashStr w x
 | _,.int i=>hashInt i
 | n+1,.tup ds=>reduceHash (ACO (ds.map (hkD w n)))
 | _,_=>0
def dX(a:Addr)(xs:List (D×Addr×Value)):Program->World->Heap->Prop:=λ_ w h =>
 ∃(o:Obj) (es:Array DictEntry),h.get? a=some o/\o.ExactDict/\o.data=.dict es xs.length/\es.toList=xs.map λx=>⟨hkD w 8 x.1,.ref x.2.1,x.2.2⟩
def dQ(a:Addr)(e:Nat)(xs:List (D×Addr×Value)):Program->World->Heap->Prop:=λ_ w h =>
 ∃(o:Obj) (es:Array DictEntry),h.get? a=some o/\o.ExactDict/\o.data=.dict es e/\es.toList=xs.map λx=>⟨hkD w 8 x.1,.ref x.2.1,x.2.2⟩
noncomputable def keyM:D->Bool
 | .non=>true
 | .tup ks=>fT 8 (.tup ks)
 | _=>false
noncomputable def hkM(w:World):D->Int
 | .non=>reduceHash 0xFCA86420
 | d=>hkD w 8 d
noncomputable def entM(hs:D->Int)(x:D×Value×Value):DictEntry:=⟨hs x.1,x.2.1,x.2.2⟩
def dM(a:Addr)(xs:List (D×Value×Value)):Program->World->Heap->Prop:=λ_ w h =>
 ∃(o:Obj) (es:Array DictEntry),h.get? a=some o/\o.ExactDict/\o.data=.dict es xs.length/\es.toList=xs.map (entM (hkM w))
def KvM(K:AA1)(ρ:List Addr)(H:Hp)(p:D×D)(q:D×Value×Value):Prop:=p.1=q.1/\keyM p.1=true/\(∃u,Rep K ρ H p.1 u/\aR u q.2.1)/\∃v,Rep K ρ H p.2 v/\aR v q.2.2
def mP(K:AA1)(ρ:List Addr)(H:Hp)(p:D×D)(q:D×Addr×Value):Prop:=p.1=q.1/\fT 8 p.1=true/\Rep K ρ H p.1 (.ref q.2.1)/\∃v,Rep K ρ H p.2 v/\aR v q.2.2
def IsX(o:Obj)(C:Value):Prop:=o.cls=C/\∃vs,o.data=.fields vs/\vs[2]?=some .none
def FM(K:AA1)(H:Hp):Option Addr->List (Str×D)->Prop
 | none,fs=>fs=[]
 | some dx,fs=>∃o vs mA,H dx=some (.frz o (.own dx))/\(∀h:Heap,h.get? dx=some o->h.Ns1 dx mA)/\(∀f,wA (((fs.map (·.1)).zip vs).lookup f) (mA f))/\Reps K [] H (fs.map (·.2)) vs
def se(K:AA1)(ρ:List Addr)(H:Hp)(a:Addr):MO->Prop
 | .lst ds=>∃vs,H a=some (.lst vs)/\Reps K ρ H ds vs
 | .fz ds=>∃o vs,H a=some (.frz o (.lst vs))/\Reps K ρ H ds vs
 | .kl ds=>∃vs,KList K a vs/\Reps K ρ H ds vs
 | .dct kvs=>∃vs,H a=some (.dK (jN (kvs.map (·.1)) vs))/\Reps K ρ H (kvs.map (·.2)) vs
 | .dkt kvs=>kvs.length<=sizeLine/\(a==sysModules)=false/\(kvs.map (·.1)).Nodup/\∃xs,H a=some (.ext (dX a xs))/\Paired (mP K ρ H) kvs xs
 | .dkq e kvs=>kvs.length<=sizeLine/\(a==sysModules)=false/\(kvs.map (·.1)).Nodup/\∃xs,H a=some (.ext (dQ a e xs))/\Paired (mP K ρ H) kvs xs
 | .dkm kvs=>kvs.length<=sizeLine/\(a==sysModules)=false/\(kvs.map (·.1)).Nodup/\∃xs,H a=some (.ext (dM a xs))/\Paired (KvM K ρ H) kvs xs
 | .fdc o kvs=>∃vs,H a=some (.frz o (.dK (jN (kvs.map (·.1)) vs)))/\Reps K ρ H (kvs.map (·.2)) vs
 | .tb x b=>(∃c,PySem.W.tabIn K x=some (c,a)/\∀h:Heap,K.In h->PySem.W.CodeHd h c a)/\∃ps,H a=some (.tbl ps)/\(b=false->ps = #[])
 | .exc x e=>e=a/\∃C o,ABA K mainGlobals x.nm=some (some (.ref C))/\IsX o (.ref C)/\FM K H o.dict x.fs/\H a=some (.frz o (.own a))
 | .ins c fs=>∃C dx vs,ABA K mainGlobals c=some (some (.ref C))/\H a=some (.ins C dx ((fs.map (·.1)).zip vs))/\Reps K ρ H (fs.map (·.2)) vs
 | .tl x p q e=>(∃c,PySem.W.tabIn K x=some (c,a)/\∀h:Heap,K.In h->PySem.W.CodeHd h c a)/\∃o vs t,H a=some (.tbl #[rawInt p.line,rawInt p.col,.ref e])/\H e=some (.frz o (.own e))/\o.data=.fields vs/\vs[1]?=some (.str q t)
def isK(mo:Option MO):Prop:=∃ds,mo=some (.kl ds)
def ap(M:Mem)(n:Nat)(xs:List D):Prop:=M[n]?=some (.lst xs)\/M[n]?=some (.fz xs)\/M[n]?=some (.kl xs)
structure Sim(K:AA1)(ρ:List Addr)(M:Mem)(H:Hp):Prop where
 nd:∀(n m:Nat) (a:Addr),n≠m->ρ[n]?=some a->ρ[m]?=some a->isK M[n]?\/isK M[m]?
 len:ρ.length=M.length
 obj:∀(n:Nat) (a:Addr) (mo:MO),ρ[n]?=some a->M[n]?=some mo->se K ρ H a mo
structure Grow(K:AA1)(ρ:List Addr)(H:Hp)(ρ':List Addr)(H':Hp):Prop where
 pre:ρ <+: ρ'
 tup:∀a xs,SqT K H a xs->SqT K H' a xs
 fr:∀a o,H a=some (.frz o (.own a))->H' a=some (.frz o (.own a))
theorem Grow.refl{K:AA1}{ρ:List Addr}{H:Hp}:Grow K ρ H ρ H:=⟨ACA,λ_ _ h=>h,λ_ _ h=>h⟩
theorem Grow.trans{K:AA1}{ρ ρ1 ρ2:List Addr}{H H1 H2:Hp}(a:Grow K ρ H ρ1 H1)(b:Grow K ρ1 H1 ρ2 H2):Grow K ρ H ρ2 H2:=⟨a.pre.trans b.pre,λx xs h=>b.tup x xs (a.tup x xs h),λx o h=>b.fr x o (a.fr x o h)⟩
theorem aL{α:Type}{l l':List α}(h:l <+: l'){n:Nat}{a:α}(e:l[n]?=some a):l'[n]?=some a:=by
 obtain⟨t,rfl⟩:=h
 rw[AAJ (AA5.mp e).1]
 exact e
theorem Rep.grow{K:AA1}{ρ ρ':List Addr}{H H':Hp}(g:Grow K ρ H ρ' H'){d:D}{v:V}(h:Rep K ρ H d v):Rep K ρ' H' d v :=
 Rep.rec (motive_1:=λd v _=>Rep K ρ' H' d v) (motive_2:=λds vs _=>Reps K ρ' H' ds vs) .non .bl .int .str .ty (λh _ r=>.tup (g.tup _ _ h) r) (λh=>.ref (aL g.pre h)) .nil (λ_ _ h t=>.cons h t) h
theorem Reps.grow{K:AA1}{ρ ρ':List Addr}{H H':Hp}(g:Grow K ρ H ρ' H'){ds:List D}{vs:List V}(h:Reps K ρ H ds vs):Reps K ρ' H' ds vs :=
 Reps.rec (motive_1:=λd v _=>Rep K ρ' H' d v) (motive_2:=λds vs _=>Reps K ρ' H' ds vs) .non .bl .int .str .ty (λh _ r=>.tup (g.tup _ _ h) r) (λh=>.ref (aL g.pre h)) .nil (λ_ _ h t=>.cons h t) h
section
variable{K:AA1}{ρ ρ':List Addr}{H H':Hp}{M:Mem}
theorem Reps.length(h:Reps K ρ H ds vs):ds.length=vs.length :=
 Reps.rec (motive_1:=λ_ _ _=>True) (motive_2:=λds vs _=>ds.length=vs.length) trivial (λ_=>trivial) (λ_=>trivial) (λ_=>trivial) (λ_=>trivial) (λ_ _ _=>trivial) (λ_=>trivial) rfl (λ_ _ _ t=>congrArg Nat.succ t) h
theorem Reps.append(h:Reps K ρ H ds vs)(s:Reps K ρ H es ws):Reps K ρ H (ds++es) (vs++ws) :=
 Reps.rec (motive_1:=λ_ _ _=>True) (motive_2:=λds vs _=>Reps K ρ H (ds++es) (vs++ws)) trivial (λ_=>trivial) (λ_=>trivial) (λ_=>trivial) (λ_=>trivial) (λ_ _ _=>trivial) (λ_=>trivial) s (λh _ _ t=>.cons h t) h
theorem Reps.get:∀{ds:List D}{vs:List V}{i:Nat}{d:D},Reps K ρ H ds vs->ds[i]?=some d->∃v,vs[i]?=some v/\Rep K ρ H d v
 | _,_,_,_,.nil,e=>by simp at e
 | _,_,0,_,.cons r _,e=>by simp at e;subst e;exact⟨_,rfl,r⟩
 | _,_,i+1,d,.cons _ t,e=>by
  obtain⟨v,h1,h2⟩:=Reps.get (i:=i) (d:=d) t (by simpa using e)
  exact⟨v,by simpa using h1,h2⟩
theorem Reps.getV:∀{ds:List D}{vs:List V}{i:Nat}{v:V},Reps K ρ H ds vs->vs[i]?=some v->∃d,ds[i]?=some d/\Rep K ρ H d v
 | _,_,_,_,.nil,e=>by simp at e
 | _,_,0,_,.cons r _,e=>by simp at e;subst e;exact⟨_,rfl,r⟩
 | _,_,i+1,d,.cons _ t,e=>by
  obtain⟨v,h1,h2⟩:=Reps.getV (i:=i) (v:=d) t (by simpa using e)
  exact⟨v,by simpa using h1,h2⟩
theorem Reps.take:∀{ds:List D}{vs:List V} (n:Nat),Reps K ρ H ds vs->Reps K ρ H (ds.take n) (vs.take n)
 | _,_,0,_=>by simpa using .nil
 | _,_,_+1,.nil=>.nil
 | _,_,n+1,.cons r t=>.cons r (Reps.take n t)
theorem Reps.drop:∀{ds:List D}{vs:List V} (n:Nat),Reps K ρ H ds vs->Reps K ρ H (ds.drop n) (vs.drop n)
 | _,_,0,r=>r
 | _,_,_+1,.nil=>.nil
 | _,_,n+1,.cons _ t=>Reps.drop n t
theorem SqT.laid(hp:H p=none)(h:SqT K H a xs):SqT K (upd H p o) a xs:=by
 rcases h with h | h
 ·rcases h with h | ⟨ob,h⟩
  ·exact .inl (.inl (by rw[av (ad h hp)];exact h))
  ·exact .inl (.inr ⟨ob,by rw[av (ad h hp)];exact h⟩)
 ·exact .inr h
noncomputable def HO.noT:HO->Bool
 | .tup _=>false
 | .frz _ _=>false
 | _=>true
theorem SqT.written(hp:H p=some o')(nt:o'.noT=true)(h:SqT K H a xs):SqT K (upd H p o) a xs:=by
 have ne:∀u,u.noT=false->H a=some u->a≠p:=λu q e z=>by rw[z,hp]at e;cases e;rw[nt]at q;cases q
 rcases h with h | h
 ·rcases h with h | ⟨ob,h⟩
  ·exact .inl (.inl (by rw[av (ne _ rfl h)];exact h))
  ·exact .inl (.inr ⟨ob,by rw[av (ne _ rfl h)];exact h⟩)
 ·exact .inr h
theorem Grow.laid(hp:H p=none):Grow K ρ H ρ (upd H p o):=⟨ACA,λ_ _ h=>SqT.laid hp h,λ_ _ h=>(av (ad h hp)).trans h⟩
theorem Grow.laidR(hp:H p=none):Grow K ρ H (ρ++[p]) (upd H p o):=⟨ABS _ _,λ_ _ h=>SqT.laid hp h,λ_ _ h=>(av (ad h hp)).trans h⟩
theorem Sim.tracked(S:Sim K ρ M H){n:Nat}{a:Addr}(e:ρ[n]?=some a):(∃o,H a=some o)\/isK M[n]?:=by
 have hn:n<M.length:=by rw[<-S.len];exact(AA5.mp e).1
 have hm:M[n]?=some M[n]:=AA7 hn
 have h:=S.obj n a _ e hm
 rw[hm]
 cases hmo:M[n] with
 | lst ds=>rw[hmo]at h;obtain⟨vs,h,_⟩:=h;exact .inl ⟨_,h⟩
 | fz ds=>rw[hmo]at h;obtain⟨o,vs,h,_⟩:=h;exact .inl ⟨_,h⟩
 | kl ds=>exact .inr ⟨ds,rfl⟩
 | dct kvs=>rw[hmo]at h;obtain⟨vs,h,_⟩:=h;exact .inl ⟨_,h⟩
 | dkt kvs=>rw[hmo]at h;obtain⟨_,_,_,xs,h,_⟩:=h;exact .inl ⟨_,h⟩
 | dkq _ kvs=>rw[hmo]at h;obtain⟨_,_,_,xs,h,_⟩:=h;exact .inl ⟨_,h⟩
 | fdc o kvs=>rw[hmo]at h;obtain⟨vs,h,_⟩:=h;exact .inl ⟨_,h⟩
 | dkm kvs=>rw[hmo]at h;obtain⟨_,_,_,xs,h,_⟩:=h;exact .inl ⟨_,h⟩
 | tb x b=>rw[hmo]at h;obtain⟨_,ps,h,_⟩:=h;exact .inl ⟨_,h⟩
 | exc x e=>rw[hmo]at h;obtain⟨_,_,_,_,_,_,h⟩:=h;exact .inl ⟨_,h⟩
 | ins c fs=>rw[hmo]at h;obtain⟨_,_,_,_,h,_⟩:=h;exact .inl ⟨_,h⟩
 | tl x p q e=>rw[hmo]at h;obtain⟨_,_,_,_,h,_⟩:=h;exact .inl ⟨_,h⟩
theorem FM.grow(g:Grow K ρ H ρ' H')(h:FM K H od fs):FM K H' od fs:=by
 cases od with
 | none=>exact h
 | some dx =>
  obtain⟨o,vs,mA,e,n,l,r⟩:=h
  exact⟨o,vs,mA,g.fr _ _ e,n,l,r.grow ⟨ACA,g.tup,g.fr⟩⟩
theorem se.grow(g:Grow K ρ H ρ' H')(hs:H' a=H a\/isK (some mo))(h:se K ρ H a mo):se K ρ' H' a mo:=by
 by_cases z:isK (some mo)
 ·obtain⟨ds,z⟩:=z
  cases z
  obtain⟨vs,e,r⟩:=h
  exact⟨vs,e,r.grow g⟩
 have hh:=hs.resolve_right z
 clear hs
 have kv:∀{kvs:List (D×D)}{xs:List (D×Addr×Value)},Paired (mP K ρ H) kvs xs->Paired (mP K ρ' H') kvs xs:=λr=>Paired.mapP r λ_ _ ⟨q1,q2,q3,v,q4,q5⟩=>⟨q1,q2,q3.grow g,v,q4.grow g,q5⟩
 cases mo with
 | lst ds=>obtain⟨vs,e,r⟩:=h;exact⟨vs,hh.trans e,r.grow g⟩
 | fz ds=>obtain⟨o,vs,e,r⟩:=h;exact⟨o,vs,hh.trans e,r.grow g⟩
 | kl ds=>exact absurd ⟨ds,rfl⟩ z
 | dct kvs=>obtain⟨vs,e,r⟩:=h;exact⟨vs,hh.trans e,r.grow g⟩
 | dkt kvs=>obtain⟨h1,h2,h3,xs,e,r⟩:=h;exact⟨h1,h2,h3,xs,hh.trans e,kv r⟩
 | dkq _ kvs=>obtain⟨h1,h2,h3,xs,e,r⟩:=h;exact⟨h1,h2,h3,xs,hh.trans e,kv r⟩
 | dkm kvs=>obtain⟨h1,h2,h3,xs,e,r⟩:=h;exact⟨h1,h2,h3,xs,hh.trans e,Paired.mapP r λ_ _ ⟨q1,q2,⟨u,q3,q3'⟩,v,q4,q5⟩=>⟨q1,q2,⟨u,q3.grow g,q3'⟩,v,q4.grow g,q5⟩⟩
 | fdc o kvs=>obtain⟨vs,e,r⟩:=h;exact⟨vs,hh.trans e,r.grow g⟩
 | tb x b=>obtain⟨c,ps,e,q⟩:=h;exact⟨c,ps,hh.trans e,q⟩
 | exc x e=>obtain⟨h0,C,o,e,i,xd,q⟩:=h;exact⟨h0,C,o,e,i,xd.grow g,hh.trans q⟩
 | ins c fs=>obtain⟨C,dx,vs,n,e,r⟩:=h;exact⟨C,dx,vs,n,hh.trans e,r.grow g⟩
 | tl x p q e'=>obtain⟨c,o,vs,t,e,f,r⟩:=h;exact⟨c,o,vs,t,hh.trans e,g.fr _ _ f,r⟩
theorem Sim.keeps{p:Addr}{o:HO}(S:Sim K ρ M H)(hp:H p=none){n:Nat}{a:Addr}{mo:MO}(e1:ρ[n]?=some a)(e2:M[n]?=some mo):upd H p o a=H a\/isK (some mo):=by
 rcases S.tracked e1 with⟨ob,hob⟩ | q
 ·exact .inl (av (ad hob hp))
 ·rw[e2]at q
  exact .inr q
theorem Sim.laid{p:Addr}{o:HO}(S:Sim K ρ M H)(hp:H p=none):Sim K ρ M (upd H p o) :=
 ⟨S.nd,S.len,λn a mo e1 e2=>(S.obj n a mo e1 e2).grow (Grow.laid hp) (S.keeps hp e1 e2)⟩
theorem bj{α:Type}{l:List α}{x y:α}{n:Nat}(h:(l++[x])[n]?=some y):l[n]?=some y\/(n=l.length/\y=x):=by
 by_cases hn:n<l.length
 ·rw[AAJ hn]at h
  exact .inl h
 ·have hn':n=l.length:=by
   have:=(AA5.mp h).1
   rw[AAC,AAm]at this
   lia
  subst hn'
  rw[AAp (AAB _),AEV]at h
  simp at h
  exact .inr ⟨rfl,h.symm⟩
theorem isK.more{mo:MO}{n:Nat}(h:isK M[n]?):isK (M++[mo])[n]?:=by
 obtain⟨ds,e⟩:=h
 exact⟨ds,by rw[AAJ (AA5.mp e).1];exact e⟩
theorem Sim.laidM(S:Sim K ρ M H)(hp:H p=none)(ok:se K (ρ++[p]) (upd H p o) p mo):Sim K (ρ++[p]) (M++[mo]) (upd H p o):=by
 have g:Grow K ρ H (ρ++[p]) (upd H p o):=Grow.laidR hp
 have old:∀(n:Nat),ρ[n]?=some p->isK M[n]?:=λn e=>by
  rcases S.tracked e with⟨o,q⟩ | q
  ·rw[hp]at q;cases q
  ·exact q
 refine⟨λn m a hnm e1 e2=>?_,by rw[AAC,AAC,S.len];rfl,λn a mo' e1 e2=>?_⟩
 ·rcases bj e1 with f1 | ⟨f1,g1⟩
  ·rcases bj e2 with f2 | ⟨f2,g2⟩
   ·exact(S.nd n m a hnm f1 f2).elim (λz=>.inl z.more) λz=>.inr z.more
   ·subst g2
    exact .inl (old n f1).more
  ·rcases bj e2 with f2 | ⟨f2,g2⟩
   ·subst g1
    exact .inr (old m f2).more
   ·exact absurd (f1.trans f2.symm) hnm
 ·rcases bj e1 with f1 | ⟨f1,g1⟩
  ·have hn:n<M.length:=by rw[<-S.len];exact(AA5.mp f1).1
   rw[AAJ hn]at e2
   exact(S.obj n a mo' f1 e2).grow g (S.keeps hp f1 e2)
  ·subst g1 f1
   rw[S.len,AAp (AAB _),AEV]at e2
   simp at e2
   subst e2
   exact ok
theorem Sim.laidL{p:Addr}{ds:List D}{vs:List V}(S:Sim K ρ M H)(hp:H p=none)(r:Reps K ρ H ds vs):Sim K (ρ++[p]) (M++[.lst ds]) (upd H p (.lst vs)):=
 S.laidM hp ⟨vs,aC,r.grow (Grow.laidR hp)⟩
theorem Sim.last(S:Sim K ρ M H):(ρ++[p])[M.length]?=some p:=by
 rw[<-S.len,AAp (AAB _),AEV]
 rfl
theorem Sim.writeG(S:Sim K ρ M H)(e1:ρ[n]?=some a)(notK:¬isK M[n]?)(hH:H a=some o')(nt:o'.noT=true)(ok:Grow K ρ H ρ (upd H a o)->se K ρ (upd H a o) a mo) :
  Sim K ρ (M.set n mo) (upd H a o)/\Grow K ρ H ρ (upd H a o):=by
 have g:Grow K ρ H ρ (upd H a o):=⟨ACA,λ_ _ h=>SqT.written hH nt h,λb _ h=>(av λz=>by rw[z,hH]at h;cases h;cases nt).trans h⟩
 have hk:∀m,m≠n->(M.set n mo)[m]?=M[m]?:=λm hm=>AAf (ABG hm)
 refine⟨⟨λm m' b hne f1 f2=>?_,by rw[AB5];exact S.len,λm b mo' f1 f2=>?_⟩,g⟩
 ·have q:=S.nd m m' b hne f1 f2
  by_cases h1:m=n
  ·subst h1
   rw[hk m' (ABG hne)]
   exact .inr (q.resolve_left notK)
  ·rw[hk m h1]
   by_cases h2:m'=n
   ·subst h2
    exact .inl (q.resolve_right notK)
   ·rw[hk m' h2]
    exact q
 by_cases hm:m=n
 ·subst hm
  have hb:b=a:=AAM (f1.symm.trans e1)
  subst hb
  rw[AAn (by rw[<-S.len];exact(AA5.mp e1).1)]at f2
  cases f2
  exact ok g
 ·rw[hk m hm]at f2
  by_cases hb:b=a
  ·subst hb
   have q':=(S.nd m n b hm f1 e1).resolve_right notK
   rw[f2]at q'
   exact(S.obj m b mo' f1 f2).grow g (.inr q')
  ·exact(S.obj m b mo' f1 f2).grow g (.inl (av hb))
theorem Sim.write(S:Sim K ρ M H)(e1:ρ[n]?=some a)(hM:M[n]?=some (.lst ds))(hH:H a=some (.lst vs))(r:Reps K ρ H ds' vs') :
  Sim K ρ (M.set n (.lst ds')) (upd H a (.lst vs'))/\Grow K ρ H ρ (upd H a (.lst vs')):=
 S.writeG e1 (λ⟨_,z⟩=>by rw[hM]at z;cases z) hH rfl λg=>⟨vs',aC,r.grow g⟩
theorem ap.seq(S:Sim K ρ M H)(h:ap M n xs)(e:ρ[n]?=some a):∃vs,SqL K H a vs/\Reps K ρ H xs vs:=by
 rcases h with h | h | h
 ·obtain⟨vs,q,r⟩:=S.obj n a _ e h
  exact⟨vs,.inl (.inl q),r⟩
 ·obtain⟨o,vs,q,r⟩:=S.obj n a _ e h
  exact⟨vs,.inl (.inr ⟨o,q⟩),r⟩
 ·obtain⟨vs,q,r⟩:=S.obj n a _ e h
  exact⟨vs,.inr q,r⟩
theorem Sim.get(S:Sim K ρ M H){n:Nat}{mo:MO}(e:M[n]?=some mo):∃a,ρ[n]?=some a/\se K ρ H a mo:=by
 have hn:n<ρ.length:=by rw[S.len];exact(AA5.mp e).1
 exact⟨ρ[n],AA7 hn,S.obj n _ mo (AA7 hn) e⟩
end
noncomputable abbrev SD:=List (Option D)
structure SRep(K:AA1)(ρ:List Addr)(H:Hp)(S:SD)(σ:St):Prop where
 len:S.length=σ.length
 get:∀(i:Nat) (d:D),S[i]?=some (some d)->∃v,σ[i]?=some (some v)/\Rep K ρ H d v
theorem SRep.grow{K:AA1}{ρ ρ':List Addr}{H H':Hp}{S:SD}{σ:St}(r:SRep K ρ H S σ)(g:Grow K ρ H ρ' H'):SRep K ρ' H' S σ :=
 ⟨r.len,λi d e=>let ⟨v,h1,h2⟩:=r.get i d e;⟨v,h1,h2.grow g⟩⟩
theorem SRep.set{K:AA1}{ρ:List Addr}{H:Hp}{S:SD}{σ:St}(r:SRep K ρ H S σ)(i:Nat){d:D}{v:V}(h:Rep K ρ H d v):SRep K ρ H (S.set i (some d)) (σ.set i (some v)):=by
 refine⟨by rw[AB5,AB5];exact r.len,λj e hj=>?_⟩
 by_cases hij:i=j
 ·subst hij
  by_cases hl:i<S.length
  ·rw[AAn hl]at hj
   cases hj
   exact⟨v,by rw[AAn (by rw[<-r.len];exact hl)],h⟩
  ·rw[ABo (by rw[AB5];lia)]at hj
   cases hj
 ·rw[AAf hij]at hj
  rw[AAf hij]
  exact r.get j e hj
abbrev DK:=D->Mem->Prop
abbrev DTE:=SD->Mem->DK->Prop
abbrev DTT:=SD->Mem->(Bool->Mem->Prop)->Prop
abbrev DTA:=SD->Mem->(List D->Mem->Prop)->Prop
structure DEnds where
 nx:SD->Mem->Prop
 rt:DK
 bk:SD->Mem->Prop:=λ_ _=>False
 ct:SD->Mem->Prop:=λ_ _=>False
abbrev DTS:=DEnds->SD->Mem->Prop
abbrev DTG:=D->SD->Mem->(SD->Mem->Prop)->Prop
abbrev Cs:=List D->SD->Mem->(SD->Mem->Prop)->Prop
abbrev DR2:=D->D->Mem->DK->Prop
abbrev DR1:=D->Mem->DK->Prop
abbrev DRA:=List D->Mem->DK->Prop
section
variable(K:AA1)
inductive VQ(ρ:List Addr)(H:Hp)(Q:DK)(v:V)(H':Hp):Prop
 | mk (d:D) (M':Mem) (ρ':List Addr) (s:Sim K ρ' M' H') (g:Grow K ρ H ρ' H') (r:Rep K ρ' H' d v) (q:Q d M')
inductive BQ(ρ:List Addr)(H:Hp)(Q:Bool->Mem->Prop)(b:Bool)(H':Hp):Prop
 | mk (M':Mem) (ρ':List Addr) (s:Sim K ρ' M' H') (g:Grow K ρ H ρ' H') (q:Q b M')
inductive AQ(ρ:List Addr)(H:Hp)(Q:List D->Mem->Prop)(vs:List V)(H':Hp):Prop
 | mk (ds:List D) (M':Mem) (ρ':List Addr) (s:Sim K ρ' M' H') (g:Grow K ρ H ρ' H') (r:Reps K ρ' H' ds vs) (q:Q ds M')
inductive SQ(ρ:List Addr)(H:Hp)(Q:SD->Mem->Prop)(σ':St)(H':Hp):Prop
 | mk (S':SD) (M':Mem) (ρ':List Addr) (s:Sim K ρ' M' H') (g:Grow K ρ H ρ' H') (r:SRep K ρ' H' S' σ') (q:Q S' M')
structure Ups(ρ:List Addr)(H:Hp)(F:DEnds)(E:Ends):Prop where
 nx:∀σ' H',SQ K ρ H F.nx σ' H'->E.nx σ' H'
 rt:∀v H',VQ K ρ H F.rt v H'->E.rt v H'
 bk:∀σ' H',SQ K ρ H F.bk σ' H'->E.bk σ' H'
 ct:∀σ' H',SQ K ρ H F.ct σ' H'->E.ct σ' H'
inductive lowE(t:DTE)(σ:St)(H:Hp)(R:VK):Prop
 | mk (S:SD) (M:Mem) (ρ:List Addr) (Q:DK) (s:Sim K ρ M H) (sr:SRep K ρ H S σ) (q:t S M Q) (k:∀v H',VQ K ρ H Q v H'->R v H')
inductive lowT(t:DTT)(σ:St)(H:Hp)(R:Bool->Hp->Prop):Prop
 | mk (S:SD) (M:Mem) (ρ:List Addr) (Q:Bool->Mem->Prop) (s:Sim K ρ M H) (sr:SRep K ρ H S σ) (q:t S M Q) (k:∀v H',BQ K ρ H Q v H'->R v H')
inductive lowA(t:DTA)(σ:St)(H:Hp)(R:List V->Hp->Prop):Prop
 | mk (S:SD) (M:Mem) (ρ:List Addr) (Q:List D->Mem->Prop) (s:Sim K ρ M H) (sr:SRep K ρ H S σ) (q:t S M Q) (k:∀v H',AQ K ρ H Q v H'->R v H')
inductive lowS(t:DTS)(E:Ends)(σ:St)(H:Hp):Prop
 | mk (S:SD) (M:Mem) (ρ:List Addr) (F:DEnds) (s:Sim K ρ M H) (sr:SRep K ρ H S σ) (q:t F S M) (k:Ups K ρ H F E)
inductive lowG(g:DTG)(v:V)(σ:St)(H:Hp)(R:St->Hp->Prop):Prop
 | mk (d:D) (S:SD) (M:Mem) (ρ:List Addr) (Q:SD->Mem->Prop) (s:Sim K ρ M H) (sr:SRep K ρ H S σ) (r:Rep K ρ H d v) (q:g d S M Q) (k:∀σ' H',SQ K ρ H Q σ' H'->R σ' H')
inductive lowGs(g:Cs)(vs:List V)(σ:St)(H:Hp)(R:St->Hp->Prop):Prop
 | mk (ds:List D) (S:SD) (M:Mem) (ρ:List Addr) (Q:SD->Mem->Prop) (s:Sim K ρ M H) (sr:SRep K ρ H S σ) (r:Reps K ρ H ds vs) (q:g ds S M Q) (k:∀σ' H',SQ K ρ H Q σ' H'->R σ' H')
inductive lowR(r:DR2)(vx vy:V)(H:Hp)(R:VK):Prop
 | mk (x y:D) (M:Mem) (ρ:List Addr) (Q:DK) (s:Sim K ρ M H) (r1:Rep K ρ H x vx) (r2:Rep K ρ H y vy) (q:r x y M Q) (k:∀v H',VQ K ρ H Q v H'->R v H')
inductive lowU(r:DR1)(vx:V)(H:Hp)(R:VK):Prop
 | mk (x:D) (M:Mem) (ρ:List Addr) (Q:DK) (s:Sim K ρ M H) (r1:Rep K ρ H x vx) (q:r x M Q) (k:∀v H',VQ K ρ H Q v H'->R v H')
inductive lowC(r:DRA)(vs:List V)(H:Hp)(R:VK):Prop
 | mk (ds:List D) (M:Mem) (ρ:List Addr) (Q:DK) (s:Sim K ρ M H) (r1:Reps K ρ H ds vs) (q:r ds M Q) (k:∀v H',VQ K ρ H Q v H'->R v H')
end
def DE(X:Cx)(e:Expr)(t:DTE):Prop:=PE X e (lowE X.K t)
def DT(X:Cx)(e:Expr)(t:DTT):Prop:=PT X e (lowT X.K t)
def DW(X:Cx)(e:Expr)(t:DTT):Prop:=PW X e (lowT X.K t)
def DA(X:Cx)(es:List Expr)(t:DTA):Prop:=PA X es (lowA X.K t)
def DS(X:Cx)(st:Stmt)(t:DTS):Prop:=PS X st (lowS X.K t)
def DSs(X:Cx)(st:List Stmt)(t:DTS):Prop:=PSs X st (lowS X.K t)
def DG(X:Cx)(tg:Expr)(g:DTG):Prop:=PG X tg (lowG X.K g)
def DGs(X:Cx)(tg:List Expr)(g:Cs):Prop:=PGs X tg (lowGs X.K g)
def OpD(X:Cx)(f:Value->Value->Sem Value)(r:DR2):Prop:=OpR X f (lowR X.K r)
def UnD(X:Cx)(f:Value->Sem Value)(r:DR1):Prop:=UnR X f (lowU X.K r)
def eU(X:Cx)(f:Value)(r:DRA):Prop:=cQ X f (lowC X.K r)
section
variable{K:AA1}{ρ ρ1:List Addr}{H H1:Hp}
theorem VQ.trans(g:Grow K ρ H ρ1 H1)(h:VQ K ρ1 H1 Q v H'):VQ K ρ H Q v H':=by
 obtain⟨d,M',ρ',s,g',r,q⟩:=h
 exact⟨d,M',ρ',s,g.trans g',r,q⟩
theorem BQ.trans(g:Grow K ρ H ρ1 H1)(h:BQ K ρ1 H1 Q v H'):BQ K ρ H Q v H':=by
 obtain⟨M',ρ',s,g',q⟩:=h
 exact⟨M',ρ',s,g.trans g',q⟩
theorem SQ.trans(g:Grow K ρ H ρ1 H1)(h:SQ K ρ1 H1 Q v H'):SQ K ρ H Q v H':=by
 obtain⟨d,M',ρ',s,g',r,q⟩:=h
 exact⟨d,M',ρ',s,g.trans g',r,q⟩
theorem Ups.trans(g:Grow K ρ H ρ1 H1)(h:Ups K ρ H F E):Ups K ρ1 H1 F E :=
 ⟨λσ' H' q=>h.nx σ' H' (SQ.trans g q),λv H' q=>h.rt v H' (VQ.trans g q),λσ' H' q=>h.bk σ' H' (SQ.trans g q),λσ' H' q=>h.ct σ' H' (SQ.trans g q)⟩
theorem VQ.now(s:Sim K ρ M H)(r:Rep K ρ H d v)(q:Q d M):VQ K ρ H Q v H:=⟨d,M,ρ,s,.refl,r,q⟩
end
section
variable{K:AA1}{ρ:List Addr}{H:Hp}{v:V}{vs:List V}
theorem Rep.inv_non(h:Rep K ρ H .non v):v=.non:=by cases h;rfl
theorem Rep.inv_bl(h:Rep K ρ H (.bl b) v):v=.bl b:=by cases h;rfl
theorem Rep.inv_int(h:Rep K ρ H (.int i) v):v=.int i:=by cases h;rfl
theorem Rep.inv_str(h:Rep K ρ H (.str x) v):v=.str x:=by cases h;rfl
theorem Rep.inv_ty(h:Rep K ρ H (.ty n) v):v=.ty n:=by cases h;rfl
theorem Rep.inv_tup(h:Rep K ρ H (.tup ds) v):∃a vs,v=.ref a/\SqT K H a vs/\Reps K ρ H ds vs:=by cases h with | tup h r=>exact⟨_,_,rfl,h,r⟩
theorem Rep.inv_ref(h:Rep K ρ H (.ref n) v):∃a,v=.ref a/\ρ[n]?=some a:=by cases h with | ref h=>exact⟨_,rfl,h⟩
theorem ay.inv_cons(h:ay (x::vs) us):∃u ws,us=u::ws/\aR x u/\ay vs ws:=by cases h with | cons h t=>exact⟨_,_,rfl,h,t⟩
theorem ay.inv_nil(h:ay [] us):us=[]:=by cases h;rfl
theorem Reps.inv_nil(h:Reps K ρ H [] vs):vs=[]:=by cases h;rfl
theorem Reps.inv_cons(h:Reps K ρ H (d::ds) vs):∃v ws,vs=v::ws/\Rep K ρ H d v/\Reps K ρ H ds ws:=by cases h with | cons h t=>exact⟨_,_,rfl,h,t⟩
end
end
theorem PE.imp(h:PE X e t')(i:∀σ H R,t σ H R->t' σ H R):PE X e t:=λpins s σ H R I q=>h pins s σ H R I (i σ H R q)
theorem PT.imp(h:PT X e t')(i:∀σ H R,t σ H R->t' σ H R):PT X e t:=λpins s σ H R I q=>h pins s σ H R I (i σ H R q)
theorem PW.imp(h:PW X e t')(i:∀σ H R,t σ H R->t' σ H R):PW X e t:=λw pins s σ H R I q=>h w pins s σ H R I (i σ H R q)
theorem PA.imp(h:PA X e t')(i:∀σ H R,t σ H R->t' σ H R):PA X e t:=λpos pins s σ H R I q=>h pos pins s σ H R I (i σ H R q)
theorem PS.imp(h:PS X e t')(i:∀E σ H,t E σ H->t' E σ H):PS X e t:=λpins s σ H R I q=>h pins s σ H R I (i R σ H q)
theorem PSs.imp(h:PSs X e t')(i:∀E σ H,t E σ H->t' E σ H):PSs X e t:=λpins s σ H R I q=>h pins s σ H R I (i R σ H q)
theorem OpR.imp(h:OpR X f r')(i:∀x y H R,r x y H R->r' x y H R):OpR X f r:=λpins s σ H x y v u R I a b q=>h pins s σ H x y v u R I a b (i x y H R q)
theorem cQ.imp(h:cQ X f r')(i:∀xs H R,r xs H R->r' xs H R):cQ X f r:=λpins s σ H xs us R I a q=>h pins s σ H xs us R I a (i xs H R q)
section
variable{X:Cx}{a b c:Expr}{ta tb tc:DTE}{pos:Pos}
def ac(i:Nat):DTE:=λS M Q=>match S[i]? with
 | some (some d)=>Q d M
 | _=>False
def dC(d:D):DTE:=λ_ M Q=>Q d M
theorem xu{K:AA1}{i:Nat}(σ:St)(H:Hp)(R:VK)(h:lowE K (ac i) σ H R):tVar i σ H R:=by
 obtain⟨S,M,ρ,Q,s,r,q,k⟩:=h
 unfold ac at q
 cases e:S[i]? with
 | none=>rw[e]at q;exact q.elim
 | some o =>
  cases o with
  | none=>rw[e]at q;exact q.elim
  | some d =>
   rw[e]at q
   obtain⟨v,hv,rv⟩:=r.get i d e
   exact⟨v,hv,k v H (VQ.now s rv q)⟩
theorem d_var(hN:X.N[i]?=some x:=by rfl)(hv:Vis X.env.scope x:=by first | exact Or.inl rfl | exact Or.inr (Or.inl rfl) | exact Or.inr (Or.inr rfl))(hd:(x==("__debug__":Str))=false:=by decide)
  (hcd:(x==("__classdict__":Str))=false:=by decide):DE X (.Name x pos) (ac i):=PE.imp (jb hN hv hd hcd) xu
noncomputable def cV:D->Option V
 | .non=>some .non
 | .bl b=>some (.bl b)
 | .int i=>some (.int i)
 | .str x=>some (.str x)
 | .ty n=>some (.ty n)
 | _=>none
theorem zt{K:AA1}{ρ:List Addr}{H:Hp}{d:D}{v:V}(h:cV d=some v):Rep K ρ H d v:=by
 cases d with
 | non=>cases h;exact .non
 | bl b=>cases h;exact .bl b
 | int b=>cases h;exact .int b
 | str b=>cases h;exact .str b
 | ty b=>cases h;exact .ty b
 | tup b=>cases h
 | ref b=>cases h
theorem lO{K:AA1}{d:D}{v:V}(hd:cV d=some v)(σ:St)(H:Hp)(R:VK)(h:lowE K (dC d) σ H R):tC v σ H R:=by
 obtain⟨S,M,ρ,Q,s,r,q,k⟩:=h
 exact k v H (VQ.now s (zt hd) q)
theorem d_int{i:Int}{j:Nat}:DE X (.Constant (.int i) j pos) (dC (.int i)):=PE.imp Dz (lO rfl)
theorem d_bl{i:Bool}{j:Nat}:DE X (.Constant (.bool i) j pos) (dC (.bl i)):=PE.imp DC (lO rfl)
theorem d_non{j:Nat}:DE X (.Constant .none j pos) (dC .non):=PE.imp Dw (lO rfl)
theorem d_str{i:Str}{j:Nat}:DE X (.Constant (.str i) j pos) (dC (.str i)):=PE.imp Dt (lO rfl)
theorem Fy{x:Str}{T:String}(hm:X.mg x=none)(hv:bootBuiltins x=some (.type T))(hg:Gl X x:=by rfl)(hn:x≠"__name__":=by decide)(hb:(x==("__debug__":Str))=false:=by decide):DE X (.Name x pos) (dC (.ty T)) :=
 PE.imp (ua (v:=.ty T) hg hm hv rfl hn hb) (lO rfl)
theorem low2{K:AA1}{S:SD}{M:Mem}{ρ:List Addr}{σ:St}{H:Hp}{P:D->D->Mem->Prop}{G:V->V->Hp->Prop}(s:Sim K ρ M H)(r:SRep K ρ H S σ)(h:ta S M λx M1=>tb S M1 λy M2=>P x y M2)
  (k:∀x y vx vy M2 ρ2 H2,Sim K ρ2 M2 H2->Grow K ρ H ρ2 H2->Rep K ρ2 H2 x vx->Rep K ρ2 H2 y vy->P x y M2->G vx vy H2):lowE K ta σ H λvx H1=>lowE K tb σ H1 λvy H2=>G vx vy H2:=by
 refine⟨S,M,ρ,_,s,r,h,?_⟩
 rintro vx H1 ⟨x,M1,ρ1,s1,g1,r1,q1⟩
 refine⟨S,M1,ρ1,_,s1,r.grow g1,q1,?_⟩
 rintro vy H2 ⟨y,M2,ρ2,s2,g2,r2,q2⟩
 exact k x y vx vy M2 ρ2 H2 s2 (g1.trans g2) (r1.grow g2) r2 q2
def dOp(r:DR2)(ta tb:DTE):DTE:=λS M Q=>ta S M λx M1=>tb S M1 λy M2=>r x y M2 Q
theorem jO{K:AA1}{r:DR2}(σ:St)(H:Hp)(R:VK)(h:lowE K (dOp r ta tb) σ H R):tOp (lowR K r) (lowE K ta) (lowE K tb) σ H R:=by
 obtain⟨S,M,ρ,Q,s,sr,q,k⟩:=h
 exact low2 s sr q λx y vx vy M2 ρ2 H2 s2 g2 r1 r2 q2=>⟨x,y,M2,ρ2,Q,s2,r1,r2,q2,λv H' w=>k v H' (VQ.trans g2 w)⟩
theorem d_op(ho:OpD X (binaryOp op) r)(ha:DE X a ta)(hb:DE X b tb):DE X (.BinOp a op b pos) (dOp r ta tb):=PE.imp (pe_op ho ha hb) jO
theorem d_cmp(ho:OpD X (compareOp op) r)(ha:DE X a ta)(hb:DE X b tb)(hm:behindInMarks op b=false:=by with_unfolding_all rfl):DE X (.Compare a [op] [b] pos) (dOp r ta tb):=PE.imp (Ah ho ha hb hm) jO
def aG(t:DTE):DTT:=λS M Q=>t S M λx M'=>match x with
 | .bl b=>Q b M'
 | _=>False
theorem lN{K:AA1}{t:DTE}(σ:St)(H:Hp)(R:Bool->Hp->Prop)(h:lowT K (aG t) σ H R):CP (lowE K t) σ H R:=by
 obtain⟨S,M,ρ,Q,s,sr,q,k⟩:=h
 refine⟨S,M,ρ,_,s,sr,q,?_⟩
 rintro v H' ⟨d,M',ρ',s',g',r',q'⟩
 cases r' with
 | bl b=>exact⟨b,rfl,k b H' ⟨M',ρ',s',g',q'⟩⟩
 | _=>exact q'.elim
theorem Fh(ho:OpD X (compareOp op) r)(ha:DE X a ta)(hb:DE X b tb)(hm:behindInMarks op b=false:=by with_unfolding_all rfl):DT X (.Compare a [op] [b] pos) (aG (dOp r ta tb)):=by
 refine PT.imp (zW ho ha hb hm) λσ H R h=>?_
 obtain⟨S,M,ρ,Q,s,sr,q,k⟩:=lN σ H R h
 exact jO σ H _ ⟨S,M,ρ,Q,s,sr,q,k⟩
theorem Ff(h:DE X e t)(he:∀whole,isTrue e X.env whole=(do let v <-whole;standAt e.pos;holding [v] (truthy v)):=by intro _;rfl):DT X e (aG t):=PT.imp (Dh h he) lN
def onB(z:D)(k:Bool->Prop):Prop:=match z with
 | .bl b=>k b
 | _=>False
theorem yQ{b:Bool}{k:Bool->Prop}:onB (.bl b) k=k b:=rfl
variable{tA tB:DTT}{aP:List Expr}
def yt(t u:DTT):DTT:=λS M Q=>t S M λb M1=>if b=true then u S M1 Q else Q false M1
def dOr(t u:DTT):DTT:=λS M Q=>t S M λb M1=>if b=true then Q true M1 else u S M1 Q
def zo(t:DTT):DTT:=λS M Q=>t S M λb M1=>Q (!b) M1
theorem BO(ha:DT X a tA):DW X (.BoolOp .And [a] pos) tA:=zS ha
theorem Fd(ha:DT X a tA):DW X (.BoolOp .Or [a] pos) tA:=Df ha
theorem Fe(ha:DT X a tA)(hb:DW X (.BoolOp .And (b::aP) pos) tB):DW X (.BoolOp .And (a::b::aP) pos) (yt tA tB):=by
 refine PW.imp (Dg ha hb) ?_
 rintro σ H R ⟨S,M,ρ,Q,s,sr,q,k⟩
 refine⟨S,M,ρ,_,s,sr,q,?_⟩
 rintro c H1 ⟨M1,ρ1,s1,g1,q1⟩
 cases c with
 | true=>exact cM ⟨S,M1,ρ1,Q,s1,sr.grow g1,(show tB S M1 Q from q1),λv H' w=>k v H' (BQ.trans g1 w)⟩
 | false=>exact bZ (k false H1 ⟨M1,ρ1,s1,g1,q1⟩)
theorem dw_or(ha:DT X a tA)(hb:DW X (.BoolOp .Or (b::aP) pos) tB):DW X (.BoolOp .Or (a::b::aP) pos) (dOr tA tB):=by
 refine PW.imp (pw_or ha hb) ?_
 rintro σ H R ⟨S,M,ρ,Q,s,sr,q,k⟩
 refine⟨S,M,ρ,_,s,sr,q,?_⟩
 rintro c H1 ⟨M1,ρ1,s1,g1,q1⟩
 cases c with
 | false=>exact bZ ⟨S,M1,ρ1,Q,s1,sr.grow g1,(show tB S M1 Q from q1),λv H' w=>k v H' (BQ.trans g1 w)⟩
 | true=>exact cM (k true H1 ⟨M1,ρ1,s1,g1,q1⟩)
theorem dw_t(h:DW X e t):DT X e t:=PW.pt h
theorem Fg(ha:DT X a tA):DT X (.UnaryOp .Not a pos) (zo tA):=by
 refine PT.imp (Di ha) ?_
 rintro σ H R ⟨S,M,ρ,Q,s,sr,q,k⟩
 refine⟨S,M,ρ,_,s,sr,q,?_⟩
 rintro c H1 ⟨M1,ρ1,s1,g1,q1⟩
 exact k (!c) H1 ⟨M1,ρ1,s1,g1,q1⟩
def yr(ta tb:DTE):DTE:=λS M Q=>ta S M λx M1=>onB x λb=>if b=true then tb S M1 Q else Q (.bl false) M1
def yq(ta:DTE):DTE:=λS M Q=>ta S M λx M1=>match x with
 | .bl b=>Q (.bl (!b)) M1
 | _=>False
theorem d_one{op}(h:DE X a ta):DE X (.BoolOp op [a] pos) ta:=Du h
theorem d_and(ha:DE X a ta)(hb:DE X (.BoolOp .And (b::aP) pos) tb):DE X (.BoolOp .And (a::b::aP) pos) (yr ta tb):=by
 refine PE.imp (DF ha hb) ?_
 rintro σ H R ⟨S,M,ρ,Q,s,sr,q,k⟩
 refine⟨S,M,ρ,_,s,sr,q,?_⟩
 rintro v H1 ⟨d,M1,ρ1,s1,g1,r1,q1⟩
 cases r1 with
 | bl c =>
  cases c with
  | true=>exact⟨true,rfl,cM ⟨S,M1,ρ1,Q,s1,sr.grow g1,(show tb S M1 Q from q1),λv H' w=>k v H' (VQ.trans g1 w)⟩⟩
  | false=>exact⟨false,rfl,bZ (k _ H1 ⟨_,M1,ρ1,s1,g1,.bl false,(show Q (.bl false) M1 from q1)⟩)⟩
 | _=>exact q1.elim
theorem d_not(ha:DE X a ta):DE X (.UnaryOp .Not a pos) (yq ta):=by
 refine PE.imp (Dv ha) ?_
 rintro σ H R ⟨S,M,ρ,Q,s,sr,q,k⟩
 refine⟨S,M,ρ,_,s,sr,q,?_⟩
 rintro v H1 ⟨d,M1,ρ1,s1,g1,r1,q1⟩
 cases r1 with
 | bl c=>exact⟨c,rfl,k _ H1 ⟨_,M1,ρ1,s1,g1,.bl (!c),q1⟩⟩
 | _=>exact q1.elim
variable{e:Expr}{es:List Expr}{te:DTE}{t:DTA}
def am:DTA:=λ_ M Q=>Q [] M
def aa(te:DTE)(t:DTA):DTA:=λS M Q=>te S M λd M1=>t S M1 λds M2=>Q (d::ds) M2
theorem Fx:DA X [] am:=by
 refine PA.imp uc ?_
 rintro σ H R ⟨S,M,ρ,Q,s,sr,q,k⟩
 exact k [] H ⟨[],M,ρ,s,.refl,.nil,q⟩
theorem Cb(ha:DE X e te)(hr:DA X es t)(hs:starEach (e::es) X.env=(false,eval e X.env)::starEach es X.env:=by rfl):DA X (e::es) (aa te t):=by
 refine PA.imp (ic ha hr hs) ?_
 rintro σ H R ⟨S,M,ρ,Q,s,sr,q,k⟩
 refine⟨S,M,ρ,_,s,sr,q,?_⟩
 rintro v H1 ⟨d,M1,ρ1,s1,g1,r1,q1⟩
 refine⟨S,M1,ρ1,_,s1,sr.grow g1,q1,?_⟩
 rintro vs H2 ⟨ds,M2,ρ2,s2,g2,r2,q2⟩
 exact k _ H2 ⟨d::ds,M2,ρ2,s2,g1.trans g2,.cons (r1.grow g2) r2,q2⟩
def fG(t:DTA):DTE:=λS M Q=>t S M λds M1=>ds.length<=sizeLine/\Q (.tup ds) M1
def cR(t:DTA):DTE:=λS M Q=>t S M λds M1=>ds.length<=sizeLine/\Q (.ref M1.length) (M1++[.lst ds])
theorem VQ.laidT{K:AA1}{ρ ρ1:List Addr}{H H1:Hp}{M1:Mem}{ds:List D}{vs:List V}{Q:DK}{p:Addr}(s1:Sim K ρ1 M1 H1)(g1:Grow K ρ H ρ1 H1)(r1:Reps K ρ1 H1 ds vs)(hp:H1 p=none)(q:Q (.tup ds) M1):VQ K ρ H Q (.ref p) (upd H1 p (.tup vs)) :=
 ⟨.tup ds,M1,ρ1,s1.laid hp,g1.trans (Grow.laid hp),.tup (SqT.of aC) (r1.grow (Grow.laid hp)),q⟩
theorem VQ.laidL{K:AA1}{ρ ρ1:List Addr}{H H1:Hp}{M1:Mem}{ds:List D}{vs:List V}{Q:DK}{p:Addr}(s1:Sim K ρ1 M1 H1)(g1:Grow K ρ H ρ1 H1)(r1:Reps K ρ1 H1 ds vs)(hp:H1 p=none)(q:Q (.ref M1.length) (M1++[.lst ds])):VQ K ρ H Q (.ref p) (upd H1 p (.lst vs)) :=
 ⟨.ref M1.length,M1++[.lst ds],ρ1++[p],s1.laidL hp r1,g1.trans (Grow.laidR hp),.ref s1.last,q⟩
theorem d_tup{x1}(h:DA X es t):DE X (.Tuple es x1 pos) (fG t):=by
 refine PE.imp (Ds h) ?_
 rintro σ H R ⟨S,M,ρ,Q,s,sr,q,k⟩
 refine⟨S,M,ρ,_,s,sr,q,?_⟩
 rintro vs H1 ⟨ds,M1,ρ1,s1,g1,r1,z,q1⟩
 exact⟨by rw[<-r1.length];exact z,λp hp=>k _ _ (VQ.laidT s1 g1 r1 hp q1)⟩
theorem d_lst(h:DA X es t):DE X (.List es pos) (cR t):=by
 refine PE.imp (Dx h) ?_
 rintro σ H R ⟨S,M,ρ,Q,s,sr,q,k⟩
 refine⟨S,M,ρ,_,s,sr,q,?_⟩
 rintro vs H1 ⟨ds,M1,ρ1,s1,g1,r1,z,q1⟩
 exact⟨by rw[<-r1.length];exact z,λp hp=>k _ _ (VQ.laidL s1 g1 r1 hp q1)⟩
def dCB(r:DRA)(t:DTA):DTE:=λS M Q=>t S M λds M1=>r ds M1 Q
theorem uF{K:AA1}{r:DRA}(σ:St)(H:Hp)(R:VK)(h:lowE K (dCB r t) σ H R):tCB (lowC K r) (lowA K t) σ H R:=by
 obtain⟨S,M,ρ,Q,s,sr,q,k⟩:=h
 refine⟨S,M,ρ,_,s,sr,q,?_⟩
 rintro vs H1 ⟨ds,M1,ρ1,s1,g1,r1,q1⟩
 exact⟨ds,M1,ρ1,Q,s1,r1,q1,λv H' w=>k v H' (VQ.trans g1 w)⟩
theorem Ce{x:Str}{p:Pos}{id:String}{r:DRA}(hc:eU X (.builtin id) r)(hm:X.mg x=none)(hv:bootBuiltins x=some (.builtin id))(ha:DA X (e::es) t)(hg:Gl X x:=by rfl)(hn:x≠"__name__":=by decide)(hdb:(x==("__debug__":Str))=false:=by decide)
  (he:starEach (e::es) X.env=(false,eval e X.env)::starEach es X.env:=by rfl) (hpl:(backTo pos (starEach es X.env)).any (·.1)=false:=by rfl):DE X (.Call (.Name x p) (e::es) [] pos) (dCB r t) :=
 PE.imp (jF hc hg hm hv ha hn hdb he hpl) uF
theorem yp(hc:eU X (.type T) r)(hm:X.mg x=none)(hv:bootBuiltins x=some (.type T))(ha:DA X (e::es) t)(hg:Gl X x:=by rfl)(hn:x≠"__name__":=by decide)(hdb:(x==("__debug__":Str))=false:=by decide)
  (he:starEach (e::es) X.env=(false,eval e X.env)::starEach es X.env:=by rfl) (hpl:(backTo pos (starEach es X.env)).any (·.1)=false:=by rfl):DE X (.Call (.Name x p) (e::es) [] pos) (dCB r t) :=
 PE.imp (tZ hc hg hm hv ha hn hdb he hpl) uF
abbrev DSp:=List D->Mem->DK->Prop
def spL(K:AA1)(P:DSp):Sp:=λvs H Q _=>∃ds M ρ R,Sim K ρ M H/\Reps K ρ H ds vs/\P ds M R/\∀v H',VQ K ρ H R v H'->Q v H'
theorem uD{K:AA1}{P:DSp}(σ:St)(H:Hp)(R:VK)(h:lowE K (dCB P t) σ H R):CS (spL K P) [] E0 (lowA K t) σ H R:=by
 obtain⟨S,M,ρ,Q,s,sr,q,k⟩:=h
 exact⟨S,M,ρ,_,s,sr,q,λvs H1 ⟨ds,M1,ρ1,s1,g1,r1,q1⟩=>⟨ds,M1,ρ1,Q,s1,by rw[AAq];exact r1,q1,λv H' w=>k v H' (VQ.trans g1 w)⟩⟩
theorem FC(F:FnOk X.prog X.w X.K X.mg X.base CX0 k f fd ps (spL X.K P))(hr:Room k X.A)(hm:X.mg x=some (.ref f))(hk:ABk X.K (.ref f)=true)(hb:fV X.K fd ps [])
  (ha:DA X (e::es) t) (hg:Gl X x:=by rfl) (hdb:(x==("__debug__":Str))=false:=by decide) (he:starEach (e::es) X.env=(false,eval e X.env)::starEach es X.env:=by rfl) (hpl:(backTo pos (starEach es X.env)).any (·.1)=false:=by rfl) :
  DE X (.Call (.Name x p) (e::es) [] pos) (dCB P t):=PE.imp (Ai F hr hg hm hk hb .nil pass0 ha hdb he hpl) uD
end
def bo:DTS:=λE S M=>E.nx S M
def aI(t u:DTS):DTS:=λE S M=>t { E with nx:=λS' M'=>u E S' M' } S M
theorem Fo:DSs X [] bo:=by
 refine PSs.imp zX ?_
 rintro E σ H ⟨S,M,ρ,F,s,sr,q,k⟩
 exact k.nx σ H ⟨S,M,ρ,s,.refl,sr,q⟩
theorem Fm{X:Cx}{st:Stmt}{t:DTS}(h:DS X st t):DSs X [st] t:=tQ h
theorem BV{X:Cx}{st:Stmt}{aP:List Stmt}{t u:DTS}(h1:DS X st t)(h2:DSs X aP u):DSs X (st::aP) (aI t u):=by
 refine PSs.imp (pY h1 h2) ?_
 rintro E σ H ⟨S,M,ρ,F,s,sr,q,k⟩
 exact⟨S,M,ρ,_,s,sr,q,⟨λσ' H' ⟨S',M',ρ',s',g',sr',q'⟩=>⟨S',M',ρ',F,s',sr',q',k.trans g'⟩,k.rt,k.bk,k.ct⟩⟩
def fU(te:DTE):DTS:=λE S M=>te S M λ_ M1=>E.nx S M1
theorem BT(he:DE X e te)(hs:swapsWith e none pos.line X.env=pure false:=by rfl):DS X (.Expr e pos) (fU te):=by
 refine PS.imp (zY he hs) ?_
 rintro E σ H ⟨S,M,ρ,F,s,sr,q,k⟩
 refine⟨S,M,ρ,_,s,sr,q,?_⟩
 rintro v H1 ⟨d,M1,ρ1,s1,g1,r1,q1⟩
 exact k.nx σ H1 ⟨S,M1,ρ1,s1,g1,sr.grow g1,q1⟩
def bI(te:DTE):DTS:=λE S M=>te S M E.rt
theorem Fj(he:DE X e te):DS X (.Return (some e) pos) (bI te):=by
 refine PS.imp (Dk he) ?_
 rintro E σ H ⟨S,M,ρ,F,s,sr,q,k⟩
 exact⟨S,M,ρ,_,s,sr,q,λv H1 w=>k.rt v H1 w⟩
def dIf(c:DTT)(t u:DTS):DTS:=λE S M=>c S M λb M1=>if b=true then t E S M1 else u E S M1
theorem ds_if(hc:DT X c tc)(ha:DSs X a t)(hb:DSs X b u):DS X (.If c a b pos) (dIf tc t u):=by
 refine PS.imp (ps_if hc ha hb) ?_
 rintro E σ H ⟨S,M,ρ,F,s,sr,q,k⟩
 refine⟨S,M,ρ,_,s,sr,q,?_⟩
 rintro c H1 ⟨M1,ρ1,s1,g1,q1⟩
 cases c with
 | true=>exact cM ⟨S,M1,ρ1,F,s1,sr.grow g1,(show t F S M1 from q1),k.trans g1⟩
 | false=>exact bZ ⟨S,M1,ρ1,F,s1,sr.grow g1,(show u F S M1 from q1),k.trans g1⟩
def bb(te:DTE)(i:Nat):DTS:=λE S M=>te S M λd M1=>E.nx (S.set i (some d)) M1
theorem Fi(hN:X.N.Nodup)(he:DE X e te)(hi:X.N[i]?=some x:=by rfl)(hx:Loc X.env.scope x:=by first | exact Or.inl rfl | exact Or.inr rfl)(hs:swapsWith e (some (.Name x pos')) pos.line X.env=pure false:=by rfl)
  (hf:X.fn x=true\/X.env.scope.names.lookup x=some .local:=by first | exact .inl rfl | exact .inr rfl | assumption):DS X (.Assign [.Name x pos'] e pos) (bb te i):=by
 refine PS.imp (Dj hN hi hx he hs hf) ?_
 rintro E σ H ⟨S,M,ρ,F,s,sr,q,k⟩
 refine⟨S,M,ρ,_,s,sr,q,?_⟩
 rintro v H1 ⟨d,M1,ρ1,s1,g1,r1,q1⟩
 exact k.nx _ H1 ⟨_,M1,ρ1,s1,g1,(sr.grow g1).set i r1,q1⟩
def aA(i:Nat):DTG:=λd S M Q=>Q (S.set i (some d)) M
theorem oE(hN:X.N.Nodup)(hi:X.N[i]?=some x:=by rfl)(hx:Loc X.env.scope x:=by first | exact Or.inl rfl | exact Or.inr rfl)(hf:X.fn x=true\/X.env.scope.names.lookup x=some .local:=by first | exact .inl rfl | exact .inr rfl | assumption):DG X (.Name x pos) (aA i) :=
 λpins s σ H v u R I r ⟨d,S,M,ρ,Q,sm,sr,rd,q,k⟩=>Ae hN hi hx hf pins s σ H v u R I r (k _ H ⟨_,M,ρ,sm,.refl,sr.set i rd,q⟩)
theorem qM{P:Program}{w:World}{K:AA1}{tg:Expr}(it:Addr)(n:Nat)(PV:Nat->Value->Prop)(PX:Nat->V->Prop)(Sx:Nat->Heap->Prop)
  (W:∀A':Around,A'.handled=none->Walks P w A' it [it] [it] n PV Sx) (hrel:∀i v,PV i v->∃x,aR x v/\PX i x)
  (hobj:∀i h,Sx i h->∃(o:Obj) (nm:String) (vs:Array Value),h.get? it=some o/\o.cls=.type nm/\o.data=.fields vs/\["enumerate","zip","dict_itemiterator","dict_reverseitemiterator","odict_iterator","itertools.zip_longest","itertools.pairwise"].contains nm=false)
  (hframe:∀(i:Nat) (h h':Heap),Sx i h->(∀o,h.get? it=some o->h'.get? it=some o)->Sx i h')
  (hself:∀(A:Around) (i:Nat) (s:Shared) (Q:Value->Shared->Prop) (E:Value->Shared->Prop),Sx i s.heap->Q (.ref it) s->wpAny (model P w) A (pyIter (.ref it)) Q E s) :
  Turn P w K tg ⟨λi _=>i<n,λi H x H'=>H'=H/\PX i x,λi _=>i=n⟩ [it] it Sx where
 mem:=by simp
 obj:=λi h st b hb=>by
  have e:b=it:=by simpa using hb
  subst e
  obtain⟨o,nm,vs,e,_,d,_⟩:=hobj i h st
  exact⟨o,e,λv z=>by rw[d]at z;cases z⟩
 keep:=λi h h' st k=>hframe i h h' st λo e=>k it (by simp) o e
 item:=by
  intro X hP hw hK hc i pins s σ H E I hf st hg
  subst hP hw hK
  obtain⟨f0,f1,f2,f3,f4,f5⟩:=hf it (by simp)
  refine(W X.A (I.ok.hd hc)).item i s _ _ hg st λv h' tk hv st' kk=>?_
  obtain⟨x,rx,px⟩:=hrel i v hv
  have I1:Inv X pins σ H { s with heap:=h',toks:=tk }:=I.turned (λb o hb e=>kk b o (by simpa using hb) e) f0 f1 f3 f4 f5
  obtain⟨o,nm,vs,e,c,d,hn⟩:=hobj _ _ st'
  exact⟨v,rfl,xW (s:={ s with heap:=h',toks:=tk }) e c d hn ⟨x,H,I1,rx,⟨rfl,px⟩,st',λb hb=>(hf b hb).1⟩⟩
 done:=by
  intro X hP hw hK hc i pins s σ H E I hf st hg
  subst hP hw hK
  obtain⟨f0,f1,f2,f3,f4,f5⟩:=hf it (by simp)
  have hi:i=n:=hg
  subst hi
  exact(W X.A (I.ok.hd hc)).done s _ _ st λh' tk kk=>⟨rfl,I.turned (λb o hb e=>kk b o (by simpa using hb) e) f0 f1 f3 f4 f5⟩
 self:=hself
noncomputable def tG(x:Str):List D:=x.cps.toList.map λc=>.str ⟨#[c]⟩
structure Src where
 items:List D
 ok:Mem->Prop
abbrev DTI:=SD->Mem->(Src->Mem->Prop)->Prop
structure ItD(K:AA1)(src:Src)(ρ0:List Addr)(H0:Hp)(J:It):Prop where
 go:∀(i:Nat) ρ M H,Sim K ρ M H->Grow K ρ0 H0 ρ H->src.ok M->i<src.items.length->J.go i H
 yld:∀(i:Nat) ρ M H x H',Sim K ρ M H->Grow K ρ0 H0 ρ H->src.ok M->i<src.items.length->J.yld i H x H'->∃d ρ',src.items[i]?=some d/\Sim K ρ' M H'/\Grow K ρ H ρ' H'/\Rep K ρ' H' d x
 stop:∀(ρ:List Addr) M H,Sim K ρ M H->Grow K ρ0 H0 ρ H->src.ok M->J.stop src.items.length H
def IQ(K:AA1)(ρ:List Addr)(H:Hp)(Q:Src->Mem->Prop):It->Hp->Prop:=λJ H'=>∃src M' ρ',Sim K ρ' M' H'/\Grow K ρ H ρ' H'/\ItD K src ρ' H' J/\Q src M'
def lowI(K:AA1)(di:DTI):TI:=λσ H R=>∃S M ρ Q,Sim K ρ M H/\SRep K ρ H S σ/\di S M Q/\∀J H',IQ K ρ H Q J H'->R J H'
def DI(X:Cx)(tg iter:Expr)(di:DTI):Prop:=PI X tg iter (lowI X.K di)
theorem ItD.tup{K:AA1}{ρ:List Addr}{H:Hp}{a:Addr}{vs:List V}{ds:List D}(h:SqT K H a vs)(r:Reps K ρ H ds vs)(uniq:∀ys,SqT K H a ys->ys=vs):ItD K ⟨ds,λ_=>True⟩ ρ H (Itt K a) where
 go:=λi ρ' M H' s g _ hi=>by
  have hl:i<vs.length:=by rw[<-r.length];exact hi
  exact⟨vs,vs[i],g.tup a vs h,AA7 hl⟩
 yld:=λi ρ' M H' x H2 s g _ hi y=>by
  obtain⟨rfl,y⟩:=y
  obtain⟨d,hd,rd⟩:=(r.grow g).getV (y vs (g.tup a vs h))
  exact⟨d,ρ',hd,s,.refl,rd⟩
 stop:=λρ' M H' s g _=>⟨vs,g.tup a vs h,by rw[<-r.length];exact AAB _⟩
theorem ItD.lst{K:AA1}{ρ:List Addr}{H:Hp}{n:Nat}{a:Addr}{ds:List D}(e:ρ[n]?=some a):ItD K ⟨ds,λM=>ap M n ds⟩ ρ H (Itl K a) where
 go:=λi ρ' M H' s g ok hi=>by
  obtain⟨vs,h,r⟩:=ap.seq s ok (aL g.pre e)
  have hl:i<vs.length:=by rw[<-r.length];exact hi
  exact⟨vs,vs[i],h,AA7 hl⟩
 yld:=λi ρ' M H' x H2 s g ok hi y=>by
  obtain⟨rfl,y⟩:=y
  obtain⟨vs,h,r⟩:=ap.seq s ok (aL g.pre e)
  obtain⟨d,hd,rd⟩:=r.getV (y vs h)
  exact⟨d,ρ',hd,s,.refl,rd⟩
 stop:=λρ' M H' s g ok=>by
  obtain⟨vs,h,r⟩:=ap.seq s ok (aL g.pre e)
  exact⟨vs,h,by rw[<-r.length];exact AAB _⟩
theorem ItD.plain{K:AA1}{ρ:List Addr}{H:Hp}{ds:List D}{J:It}(hg:∀i H,i<ds.length->J.go i H)(hy:∀i H x H',i<ds.length->J.yld i H x H'->H'=H/\∃d,ds[i]?=some d/\cV d=some x)(hs:∀H,J.stop ds.length H):ItD K ⟨ds,λ_=>True⟩ ρ H J where
 go:=λi ρ' M H' s g _ hi=>hg i H' hi
 yld:=λi ρ' M H' x H2 s g _ hi y=>by
  obtain⟨rfl,d,hd,hv⟩:=hy i _ x H2 hi y
  exact⟨d,ρ',hd,s,.refl,zt hv⟩
 stop:=λρ' M H' s g _=>hs H'
def bx(te:DTE):DTI:=λS M R=>te S M λd M1=>match d with
 | .tup ds=>ds.length<=sizeLine->R ⟨ds,λ_=>True⟩ M1
 | .str x=>R ⟨tG x,λ_=>True⟩ M1
 | .ref n=>∃xs,ap M1 n xs/\(xs.length<=sizeLine->R ⟨xs,λM=>ap M n xs⟩ M1)
 | _=>False
theorem Ft(hl:DE X l tl):DI X tg l (bx tl):=by
 intro pins s σ H R I h
 obtain⟨S,M,ρ,Q,sm,sr,q,k⟩:=h
 refine thn (hl pins s σ H _ I ⟨S,M,ρ,_,sm,sr,q,λv H' w=>w⟩) ?_
 rintro u s1 ⟨v,H1,I1,rv,d,M1,ρ1,sm1,g1,r1,q1⟩
 cases r1 with
 | non=>exact q1.elim
 | bl b=>exact q1.elim
 | int i=>exact q1.elim
 | ty n=>exact q1.elim
 | @tup a vs ds hq r =>
  cases rv
  obtain⟨its,rr,p,hz⟩:=I1.tuple hq
  refine wpAny_pyIter_tuple (show s1.heap.IsTuple a its.toArray from p) ?_
  refine⟨s1.heap.objs.size,[s1.heap.objs.size],_,_,H1,rfl,I1.kept (t':=s1.toks) λb o e=>AA4 _ e,qN a _,⟨_,AAE _ rfl,rfl,rfl⟩,λb hb=>?_,k _ H1 ⟨⟨ds,λ_=>True⟩,M1,ρ1,sm1,g1,ItD.tup hq r λys hy=>I1.tuple_inj hy hq,?_⟩⟩
  ·have e:b=s1.heap.objs.size:=by simpa using hb
   subst e
   exact I1.fpOk (AAB _) (I1.hok.fresh (AAB _))
  ·exact(show ds.length<=sizeLine->Q ⟨ds,λ_=>True⟩ M1 from q1) (by rw[r.length];exact hz)
 | @ref n a hn =>
  cases rv
  obtain⟨xs,hL,q2⟩:=(show ∃xs,ap M1 n xs/\(xs.length<=sizeLine->Q ⟨xs,λM=>ap M n xs⟩ M1)from q1)
  obtain⟨vs,hq,r⟩:=ap.seq sm1 hL hn
  obtain⟨its,rr,p,hz⟩:=I1.list hq
  refine ADp p.isList ?_
  refine⟨s1.heap.objs.size,[s1.heap.objs.size],_,_,H1,rfl,I1.kept (t':=s1.toks) λb o e=>AA4 _ e,sA a _,⟨_,AAE _ rfl,rfl,rfl⟩,λb hb=>?_,k _ H1 ⟨⟨xs,λM=>ap M n xs⟩,M1,ρ1,sm1,g1,ItD.lst hn,q2 (by rw[r.length];exact hz)⟩⟩
  have e:b=s1.heap.objs.size:=by simpa using hb
  subst e
  exact I1.fpOk (AAB _) (I1.hok.fresh (AAB _))
 | str x =>
  obtain⟨t,rfl⟩:=rv
  have fin:∀(nm:String) (ob:Obj),(ob.cls=.type nm/\ob.data=.fields #[.str x t,.int 0 0]) ->
    (∀A':Around,A'.handled=none->Walks X.prog X.w A' s1.heap.objs.size [s1.heap.objs.size] [s1.heap.objs.size] x.cps.size (SignAt x) (λi h=>h.IsStrIter s1.heap.objs.size nm x t i)) ->
    (∀(A:Around) (i:Nat) (s:Shared) (Q:Value->Shared->Prop) (E:Value->Shared->Prop),s.heap.IsStrIter s1.heap.objs.size nm x t i->Q (.ref s1.heap.objs.size) s->wpAny (model X.prog X.w) A (pyIter (.ref s1.heap.objs.size)) Q E s) ->
    ["enumerate","zip","dict_itemiterator","dict_reverseitemiterator","odict_iterator","itertools.zip_longest","itertools.pairwise"].contains nm=false->(s1.heap.push ob).IsStrIter s1.heap.objs.size nm x t 0 ->
    PIE X pins σ tg R (.ref s1.heap.objs.size) { s1 with heap:=s1.heap.push ob }:=λnm ob hob W hself hnm st=>by
   refine⟨s1.heap.objs.size,[s1.heap.objs.size],_,_,H1,rfl,I1.kept (t':=s1.toks) λb o e=>AA4 _ e,
    qM (PX:=λi v=>∃c,x.cps[i]?=some c/\v=.str ⟨#[c]⟩) _ _ _ _ W (λi v ⟨c,u,e1,e2⟩=>⟨.str ⟨#[c]⟩,⟨u,e2⟩,c,e1,rfl⟩) (λi h st=>?_) (λi h h' st k=>?_) hself,st,λb hb=>?_,k _ H1 ⟨⟨tG x,λ_=>True⟩,M1,ρ1,sm1,g1,ItD.plain ?_ ?_ ?_,q1⟩⟩
   ·obtain⟨o,e,c,d⟩:=st
    exact⟨o,nm,_,e,c,d,hnm⟩
   ·obtain⟨o,e,r⟩:=st
    exact⟨o,k o e,r⟩
   ·have e:b=s1.heap.objs.size:=by simpa using hb
    subst e
    exact I1.fpOk (AAB _) (I1.hok.fresh (AAB _))
   ·intro i _ hi
    simpa [tG]using hi
   ·rintro i H x' H' _ ⟨rfl,c,e,rfl⟩
    exact⟨rfl,.str ⟨#[c]⟩,by simp[tG,e],rfl⟩
   ·intro H
    simp[tG]
  cases ha:x.cps.all (· < 128)
  ·exact wpAny_pyIter_wide ha (fin _ _ ⟨rfl,rfl⟩ (λA' hA=>Walks.strWide hA _ x t) (λ_ _ _ _ _ st h=>wpAny_pyIter_striter_wide st h) (by decide) ⟨_,AAE _ rfl,rfl,rfl⟩)
  ·exact wpAny_pyIter_ascii ha (fin _ _ ⟨rfl,rfl⟩ (λA' hA=>Walks.strAscii hA _ x t) (λ_ _ _ _ _ st h=>wpAny_pyIter_striter_ascii st h) (by decide) ⟨_,AAE _ rfl,rfl,rfl⟩)
noncomputable def nv(lo:Int)(n:Nat):List D:=(AAx n).map λi=>.int (lo+((i:Nat):Int))
theorem ItD.rng{K:AA1}{ρ:List Addr}{H:Hp}(lo:Int)(n:Nat):ItD K ⟨nv lo n,λ_=>True⟩ ρ H (Itr lo n):=by
 refine ItD.plain (λi _ hi=>?_) (λi H x H' hi y=>?_) λH=>?_
 ·show i<n
  simpa [nv]using hi
 ·obtain⟨e,rfl⟩:=y
  have hi':i<n:=by simpa [nv]using hi
  exact⟨e,.int (lo+i),by simp[nv,hi'],rfl⟩
 ·show n<=(nv lo n).length
  simp[nv]
def bE(ta:DTA):DTI:=λS M R=>ta S M λds M1=>match ds with
 | [.int j]=>(-(2 ^ 62)<=j/\j<2 ^ 62)/\R ⟨nv 0 j.toNat,λ_=>True⟩ M1
 | _=>False
def jZ(ta:DTA):DTI:=λS M R=>ta S M λds M1=>match ds with
 | [.int i,.int j]=>(-(2 ^ 62)<=i/\i<2 ^ 62/\-(2 ^ 62)<=j/\j<2 ^ 62)/\R ⟨nv i (j-i).toNat,λ_=>True⟩ M1
 | _=>False
theorem PI.imp(h:PI X tg iter t')(i:∀σ H R,t σ H R->t' σ H R):PI X tg iter t:=λpins s σ H R I q=>h pins s σ H R I (i σ H R q)
theorem nS{K:AA1}{ta:DTA}(σ:St)(H:Hp)(R:It->Hp->Prop)(h:lowI K (bE ta) σ H R):EM (lowA K ta) σ H R:=by
 obtain⟨S,M,ρ,Q,s,sr,q,k⟩:=h
 refine⟨S,M,ρ,_,s,sr,q,?_⟩
 rintro vs H1 ⟨ds,M1,ρ1,s1,g1,r1,q1⟩
 try dsimp only at q1
 split at q1
 ·rename_i j
  obtain⟨⟨h1,h2⟩,q2⟩:=q1
  first | have hzz:=Reps.inv_cons r1 | have hzz:=ay.inv_cons r1
  clear r1
  obtain⟨_,_,rfl,r,t⟩:=hzz
  cases r
  cases t
  exact⟨j,rfl,h1,h2,k _ H1 ⟨_,M1,ρ1,s1,g1,ItD.rng 0 j.toNat,q2⟩⟩
 ·exact q1.elim
theorem wb(hm:X.mg "range" = none)(ha:DA X [a] ta)(hg:Gl X "range":=by rfl)(hs:starEach [a] X.env=[(false,eval a X.env)]:=by rfl):DI X tg (.Call (.Name "range" p) [a] [] pos) (bE ta):=PI.imp (tX hg hm ha hs) nS
theorem wa(hm:X.mg "range" = none)(ha:DA X [a,b] ta)(hg:Gl X "range":=by rfl)(hs:starEach [a,b] X.env=[(false,eval a X.env),(false,eval b X.env)]:=by rfl)(hs2:starEach [b] X.env=[(false,eval b X.env)]:=by rfl) :
  DI X tg (.Call (.Name "range" p) [a,b] [] pos) (jZ ta):=by
 refine PI.imp (tW hg hm ha hs hs2) ?_
 rintro σ H R ⟨S,M,ρ,Q,s,sr,q,k⟩
 refine⟨S,M,ρ,_,s,sr,q,?_⟩
 rintro vs H1 ⟨ds,M1,ρ1,s1,g1,r1,q1⟩
 try dsimp only at q1
 split at q1
 ·rename_i i j
  obtain⟨h,q2⟩:=q1
  first | have hzz:=Reps.inv_cons r1 | have hzz:=ay.inv_cons r1
  clear r1
  obtain⟨_,_,rfl,r,t⟩:=hzz
  cases r
  cases t with
  | cons r t =>
   cases r
   cases t
   exact⟨i,j,rfl,h,k _ H1 ⟨_,M1,ρ1,s1,g1,ItD.rng i (j-i).toNat,q2⟩⟩
 ·exact q1.elim
section
mutual
inductive Bel(k:Nat):D->Prop
 | non:Bel k .non
 | bl (b:Bool):Bel k (.bl b)
 | int (i:Int):Bel k (.int i)
 | str (x:Str):Bel k (.str x)
 | ty (n:String):Bel k (.ty n)
 | tup {ds:List D} (h:Bels k ds):Bel k (.tup ds)
 | ref {n:Nat} (h:n<k):Bel k (.ref n)
inductive Bels(k:Nat):List D->Prop
 | nil:Bels k []
 | cons {d:D}{ds:List D} (h:Bel k d) (t:Bels k ds):Bels k (d::ds)
end
noncomputable def MO.items:MO->List D
 | .lst xs=>xs
 | .fz xs=>xs
 | .kl xs=>xs
 | .dct kvs=>kvs.map (·.2)
 | .dkt kvs=>kvs.map (·.2)
 | .dkq _ kvs=>kvs.map (·.2)
 | .fdc _ kvs=>kvs.map (·.2)
 | .dkm kvs=>kvs.map (·.2)
 | .tb _ _=>[]
 | .exc _ _=>[]
 | .ins _ fs=>fs.map (·.2)
 | .tl _ _ _ _=>[]
theorem Rep.bel{K:AA1}{ρ:List Addr}{H:Hp}{d:D}{v:V}(h:Rep K ρ H d v):Bel ρ.length d :=
 Rep.rec (motive_1:=λd v _=>Bel ρ.length d) (motive_2:=λds vs _=>Bels ρ.length ds) .non .bl .int .str .ty (λ_ _ r=>.tup r) (λh=>.ref (AA5.mp h).1) .nil (λ_ _ h t=>.cons h t) h
theorem Reps.bel{K:AA1}{ρ:List Addr}{H:Hp}{ds:List D}{vs:List V}(h:Reps K ρ H ds vs):Bels ρ.length ds :=
 Reps.rec (motive_1:=λd v _=>Bel ρ.length d) (motive_2:=λds vs _=>Bels ρ.length ds) .non .bl .int .str .ty (λ_ _ r=>.tup r) (λh=>.ref (AA5.mp h).1) .nil (λ_ _ h t=>.cons h t) h
theorem Bel.inv(b:Bel k d):(∀ds,d=.tup ds->Bels k ds)/\∀n,d=.ref n->n<k:=by
 cases b with
 | tup b=>exact⟨(λ_ e=>by injection e with e;exact e ▸ b),(λ_ e=>by cases e)⟩
 | ref b=>exact⟨(λ_ e=>by cases e),(λ_ e=>by injection e with e;exact e ▸ b)⟩
 | _=>exact⟨(λ_ e=>by cases e),(λ_ e=>by cases e)⟩
theorem Bels.inv{k:Nat}{d:D}{ds:List D}(b:Bels k (d::ds)):Bel k d/\Bels k ds:=by
 cases b with
 | cons b c=>exact⟨b,c⟩
theorem Rep.cut{K:AA1}{ρ:List Addr}{H:Hp}{k:Nat}{d:D}{v:V}(h:Rep K ρ H d v):Bel k d->Rep K (ρ.take k) H d v :=
 Rep.rec (motive_1:=λd v _=>Bel k d->Rep K (ρ.take k) H d v) (motive_2:=λds vs _=>Bels k ds->Reps K (ρ.take k) H ds vs) (λ_=>.non) (λb _=>.bl b) (λb _=>.int b) (λb _=>.str b) (λb _=>.ty b) (λh _ r b=>.tup h (r (b.inv.1 _ rfl)))
  (λh b=>.ref (by rw[ABH (b.inv.2 _ rfl)];exact h)) (λ_=>.nil) (λ_ _ h t b=>.cons (h b.inv.1) (t b.inv.2)) h
theorem Reps.cut{K:AA1}{ρ:List Addr}{H:Hp}{k:Nat}{ds:List D}{vs:List V}(h:Reps K ρ H ds vs):Bels k ds->Reps K (ρ.take k) H ds vs :=
 Reps.rec (motive_1:=λd v _=>Bel k d->Rep K (ρ.take k) H d v) (motive_2:=λds vs _=>Bels k ds->Reps K (ρ.take k) H ds vs) (λ_=>.non) (λb _=>.bl b) (λb _=>.int b) (λb _=>.str b) (λb _=>.ty b) (λh _ r b=>.tup h (r (b.inv.1 _ rfl)))
  (λh b=>.ref (by rw[ABH (b.inv.2 _ rfl)];exact h)) (λ_=>.nil) (λ_ _ h t b=>.cons (h b.inv.1) (t b.inv.2)) h
theorem Bel.mono{j k:Nat}(h:j<=k){d:D}(b:Bel j d):Bel k d :=
 Bel.rec (motive_1:=λd _=>Bel k d) (motive_2:=λds _=>Bels k ds) .non .bl .int .str .ty (λ_ b=>.tup b) (λb=>.ref (AAQ b h)) .nil (λ_ _ b c=>.cons b c) b
theorem Bels.mono{j k:Nat}(h:j<=k){ds:List D}(b:Bels j ds):Bels k ds :=
 Bels.rec (motive_1:=λd _=>Bel k d) (motive_2:=λds _=>Bels k ds) .non .bl .int .str .ty (λ_ b=>.tup b) (λb=>.ref (AAQ b h)) .nil (λ_ _ b c=>.cons b c) b
theorem Bels.of:∀{xs:List D},(∀d∈xs,Bel k d)->Bels k xs
 | [],_=>.nil
 | d::ds,h=>.cons (h d AAO) (Bels.of λe he=>h e (AA9 _ he))
section
variable{K:AA1}{ρ ρ':List Addr}{H H':Hp}{M M':Mem}
theorem gj:∀(n:Nat) (d:D),fT n d=true->Bel k d:=by
 intro n
 induction n with
 | zero =>
  intro d h
  cases d with
  | str x=>exact .str x
  | int x=>exact .int x
  | _=>cases h
 | succ n ih =>
  intro d h
  cases d with
  | str x=>exact .str x
  | int x=>exact .int x
  | tup ds=>exact .tup (Bels.of λx hx=>ih x (AAb.mp (show ds.all (fT n)=true from h) x hx))
  | _=>cases h
theorem uV(r:Paired (mP K ρ H) kvs xs):Bels ρ.length (kvs.map (·.2)):=by
 induction r with
 | nil=>exact .nil
 | cons q _ ih =>
  obtain⟨_,_,_,v,q4,_⟩:=q
  exact .cons q4.bel ih
theorem uU(r:Paired (mP K ρ H) kvs xs)(b:Bels k (kvs.map (·.2))):Paired (mP K (ρ.take k) H) kvs xs:=by
 induction r with
 | nil=>exact .nil
 | cons q _ ih =>
  obtain⟨q1,q2,q3,v,q4,q5⟩:=q
  rw[AAN]at b
  cases b with
  | cons b1 b2=>exact .cons ⟨q1,q2,q3.cut (gj _ _ q2),v,q4.cut b1,q5⟩ (ih b2)
theorem xI:∀(d:D),keyM d=true->Bel k d
 | .non,_=>.non
 | .tup ks,h=>gj 8 _ h
 | .bl _,h=>nomatch h
 | .int _,h=>nomatch h
 | .str _,h=>nomatch h
 | .ty _,h=>nomatch h
 | .ref _,h=>nomatch h
theorem AW(r:Paired (KvM K ρ H) kvs xs):Bels ρ.length (kvs.map (·.2)):=by
 induction r with
 | nil=>exact .nil
 | cons q _ ih =>
  obtain⟨_,_,_,v,q4,_⟩:=q
  exact .cons q4.bel ih
theorem AV(r:Paired (KvM K ρ H) kvs xs)(b:Bels k (kvs.map (·.2))):Paired (KvM K (ρ.take k) H) kvs xs:=by
 induction r with
 | nil=>exact .nil
 | cons q _ ih =>
  obtain⟨q1,q2,⟨u,q3,q3'⟩,v,q4,q5⟩:=q
  rw[AAN]at b
  cases b with
  | cons b1 b2=>exact .cons ⟨q1,q2,⟨u,q3.cut (xI _ q2),q3'⟩,v,q4.cut b1,q5⟩ (ih b2)
theorem se.bels(h:se K ρ H a mo):Bels ρ.length mo.items:=by
 cases mo with
 | lst ds=>obtain⟨vs,_,r⟩:=h;exact r.bel
 | fz ds=>obtain⟨o,vs,_,r⟩:=h;exact r.bel
 | kl ds=>obtain⟨vs,_,r⟩:=h;exact r.bel
 | dct kvs=>obtain⟨vs,_,r⟩:=h;exact r.bel
 | dkt kvs=>obtain⟨_,_,_,xs,_,r⟩:=h;exact uV r
 | dkq _ kvs=>obtain⟨_,_,_,xs,_,r⟩:=h;exact uV r
 | fdc o kvs=>obtain⟨vs,_,r⟩:=h;exact r.bel
 | dkm kvs=>obtain⟨_,_,_,xs,_,r⟩:=h;exact AW r
 | tb x b=>exact .nil
 | exc x e=>exact .nil
 | ins c fs=>obtain⟨_,_,vs,_,_,r⟩:=h;exact r.bel
 | tl x p q e=>exact .nil
theorem se.cut(h:se K ρ H a mo)(b:Bels k mo.items):se K (ρ.take k) H a mo:=by
 cases mo with
 | lst ds=>obtain⟨vs,e,r⟩:=h;exact⟨vs,e,r.cut b⟩
 | fz ds=>obtain⟨o,vs,e,r⟩:=h;exact⟨o,vs,e,r.cut b⟩
 | kl ds=>obtain⟨vs,e,r⟩:=h;exact⟨vs,e,r.cut b⟩
 | dct kvs=>obtain⟨vs,e,r⟩:=h;exact⟨vs,e,r.cut b⟩
 | dkt kvs=>obtain⟨h1,h2,h3,xs,e,r⟩:=h;exact⟨h1,h2,h3,xs,e,uU r b⟩
 | dkq _ kvs=>obtain⟨h1,h2,h3,xs,e,r⟩:=h;exact⟨h1,h2,h3,xs,e,uU r b⟩
 | fdc o kvs=>obtain⟨vs,e,r⟩:=h;exact⟨vs,e,r.cut b⟩
 | dkm kvs=>obtain⟨h1,h2,h3,xs,e,r⟩:=h;exact⟨h1,h2,h3,xs,e,AV r b⟩
 | tb x b=>exact h
 | exc x e=>exact h
 | ins c fs=>obtain⟨C,dx,vs,n,e,r⟩:=h;exact⟨C,dx,vs,n,e,r.cut b⟩
 | tl x p q e=>exact h
theorem Sim.bels(S:Sim K ρ M H){n:Nat}{mo:MO}(e:M[n]?=some mo):Bels M.length mo.items:=by
 obtain⟨a,_,h⟩:=S.get e
 rw[<-S.len]
 exact h.bels
theorem Sim.cut(S:Sim K ρ M H)(k:Nat)(hb:∀(n:Nat) (mo:MO),n<k->M[n]?=some mo->Bels k mo.items):Sim K (ρ.take k) (M.take k) H:=by
 have lt:∀{n:Nat}{a:Addr},(ρ.take k)[n]?=some a->n<k/\ρ[n]?=some a:=λ{n a} e=>by
  have h1:=(AA5.mp e).1
  rw[AAo]at h1
  have h2:n<k:=by lia
  rw[ABH h2]at e
  exact⟨h2,e⟩
 refine⟨λn m a hne e1 e2=>?_,by rw[AAo,AAo,S.len],λn a mo e1 e2=>?_⟩
 ·obtain⟨l1,f1⟩:=lt e1
  obtain⟨l2,f2⟩:=lt e2
  rw[ABH l1,ABH l2]
  exact S.nd n m a hne f1 f2
 ·obtain⟨l1,f1⟩:=lt e1
  rw[ABH l1]at e2
  exact(S.obj n a mo f1 e2).cut (hb n mo l1 e2)
theorem SRep.cut(r:SRep K ρ H S σ)(hl:S'.length=S.length)(h:∀(i:Nat) d,S'[i]?=some (some d)->S[i]?=some (some d)/\Bel k d):SRep K (ρ.take k) H S' σ :=
 ⟨hl.trans r.len,λi d e=>let ⟨e',b⟩:=h i d e;let ⟨v,hv,rv⟩:=r.get i d e';⟨v,hv,rv.cut b⟩⟩
theorem Grow.cut(g:Grow K ρ H ρ' H')(h:ρ.length<=k):Grow K ρ H (ρ'.take k) H':=by
 refine⟨?_,g.tup,g.fr⟩
 obtain⟨t,rfl⟩:=g.pre
 rw[List.take_append]
 rw[ACC h]
 exact ABS _ _
end
inductive FgtS(k:Nat):SD->SD->Prop
 | nil:FgtS k [] []
 | keep {d:D}{S S':SD} (h:Bel k d) (t:FgtS k S S'):FgtS k (some d::S) (some d::S')
 | drop {o:Option D}{S S':SD} (t:FgtS k S S'):FgtS k (o::S) (none::S')
theorem FgtS.len(h:FgtS k S S'):S'.length=S.length:=by
 induction h with
 | nil=>rfl
 | keep _ _ ih=>rw[AAG,AAG,ih]
 | drop _ ih=>rw[AAG,AAG,ih]
theorem FgtS.get(h:FgtS k S S'):∀(i:Nat) d,S'[i]?=some (some d)->S[i]?=some (some d)/\Bel k d:=by
 induction h with
 | nil=>intro i d e;simp at e
 | keep b _ ih =>
  intro i d e
  cases i with
  | zero=>simp at e;subst e;exact⟨rfl,b⟩
  | succ i=>exact ih i d (by simpa using e)
 | drop _ ih =>
  intro i d e
  cases i with
  | zero=>simp at e
  | succ i=>exact ih i d (by simpa using e)
def Fgt(M0:Mem)(P:SD->Mem->Prop)(S:SD)(M:Mem):Prop :=
 P S M\/(∃k S',M0.length<=k/\FgtS k S S'/\(∀(n:Nat) mo,n<k->M[n]?=some mo->Bels k mo.items)/\P S' (M.take k))\/∃S',FgtS M0.length S S'/\M0 <+: M/\P S' M0
theorem wQ{α:Type}{l l':List α}(h:l <+: l'):l'.take l.length=l:=by
 obtain⟨t,rfl⟩:=h
 rw[List.take_append_of_le_length (AAB _),ABX]
theorem SQ.fgt{K:AA1}{ρ:List Addr}{H:Hp}{M0:Mem}{P:SD->Mem->Prop}{σ':St}{H':Hp}(s0:Sim K ρ M0 H)(h:SQ K ρ H (Fgt M0 P) σ' H'):SQ K ρ H P σ' H':=by
 have hk:ρ.length<=M0.length:=by rw[s0.len];exact AAB _
 obtain⟨S',M',ρ',s',g',sr',q'⟩:=h
 rcases q' with q' | ⟨k,S2,h1,h2,h4,q⟩|⟨S2,h2,hp,q⟩
 ·exact⟨S',M',ρ',s',g',sr',q'⟩
 ·exact⟨S2,M'.take k,ρ'.take k,s'.cut k h4,g'.cut (AAh hk h1),sr'.cut h2.len h2.get,q⟩
 ·have sc:=s'.cut M0.length λn mo hn e=>by
   obtain⟨t,rfl⟩:=hp
   rw[AAJ hn]at e
   exact s0.bels e
  rw[wQ hp]at sc
  exact⟨S2,M0,ρ'.take M0.length,sc,g'.cut hk,sr'.cut h2.len h2.get,q⟩
def mB(ok:Mem->Prop)(g:DTG)(tb:DTS)(E:DEnds)(k0:Mem):List D->SD->Mem->Prop
 | [],S,M=>ok M/\E.nx S M
 | x::xs,S,M=>ok M/\g x S M λS2 M2=>tb ⟨Fgt k0 (mB ok g tb E k0 xs),E.rt,E.nx,Fgt k0 (mB ok g tb E k0 xs)⟩ S2 M2
def iK(di:DTI)(g:DTG)(tb:DTS):DTS:=λE S M=>di S M λsrc M1=>mB src.ok g tb E M1 src.items S M1
theorem mr{α:Type}{l:List α}{i:Nat}{x:α}(h:l[i]?=some x):l.drop i=x::l.drop (i+1):=by
 obtain⟨hi,e⟩:=AA5.mp h
 rw[List.drop_eq_getElem_cons hi,e]
theorem xr{K:AA1}{di:DTI}{g:DTG}{tb:DTS}(E:Ends)(σ:St)(H:Hp)(h:lowS K (iK di g tb) E σ H):tFor (lowI K di) (lowG K g) (lowS K tb) E σ H:=by
 obtain⟨S,M,ρ,F,s,sr,q,k⟩:=h
 refine⟨S,M,ρ,_,s,sr,q,?_⟩
 rintro J H1 ⟨src,M1,ρ1,s1,g1,it,q1⟩
 have k1:=k.trans g1
 refine⟨λi m τ H2=>∃S2 M2 ρ2,Sim K ρ2 M2 H2/\Grow K ρ1 H1 ρ2 H2/\SRep K ρ2 H2 S2 τ/\i<=src.items.length/\m=src.items.length-i/\mB src.ok g tb F M1 (src.items.drop i) S2 M2,
  ⟨_,S,M1,ρ1,s1,.refl,sr.grow g1,AAV _,rfl,q1⟩,?_⟩
 rintro i m τ H2 ⟨S2,M2,ρ2,s2,g2,sr2,hi,rfl,q2⟩
 by_cases hlt:i<src.items.length
 ·have hx:src.items[i]?=some src.items[i]:=AA7 hlt
  rw[mr hx]at q2
  obtain⟨ok,q3⟩:=(show src.ok M2/\g src.items[i] S2 M2 _ from q2)
  refine .inr ⟨it.go i ρ2 M2 H2 s2 g2 ok hlt,_,λτ' H' z=>z,λx H3 y=>?_⟩
  obtain⟨d,ρ3,hd,s3,g3,r3⟩:=it.yld i ρ2 M2 H2 x H3 s2 g2 ok hlt y
  have ed:d=src.items[i]:=AAM (hd.symm.trans hx)
  subst ed
  refine⟨_,S2,M2,ρ3,_,s3,sr2.grow g3,r3,q3,?_⟩
  rintro τ4 H4 ⟨S4,M4,ρ4,s4,g4,sr4,q4⟩
  have g14:=(g2.trans g3).trans g4
  refine⟨S4,M4,ρ4,_,s4,sr4,q4,?_⟩
  have again:∀τ5 H5,SQ K ρ4 H4 (Fgt M1 (mB src.ok g tb F M1 (src.items.drop (i+1)))) τ5 H5 ->
    ∃m',m' < src.items.length-i/\∃S2 M2 ρ2,Sim K ρ2 M2 H5/\Grow K ρ1 H1 ρ2 H5/\SRep K ρ2 H5 S2 τ5/\i+1<=src.items.length/\m'=src.items.length-(i+1)/\mB src.ok g tb F M1 (src.items.drop (i+1)) S2 M2:=λτ5 H5 z=>by
   obtain⟨S5,M5,ρ5,s5,g5,sr5,q5⟩:=SQ.fgt (ρ:=ρ1) (H:=H1) s1 (SQ.trans g14 z)
   exact⟨_,by lia,S5,M5,ρ5,s5,g5,sr5,hlt,rfl,q5⟩
  exact⟨again,λv H5 z=>k1.rt v H5 (VQ.trans g14 z),λτ5 H5 z=>k1.nx τ5 H5 (SQ.trans g14 z),again⟩
 ·have e:i=src.items.length:=by lia
  subst e
  rw[List.drop_of_length_le (AAB _)]at q2
  obtain⟨ok,q3⟩:=(show src.ok M2/\F.nx S2 M2 from q2)
  exact .inl ⟨it.stop ρ2 M2 H2 s2 g2 ok,k1.nx τ H2 ⟨S2,M2,ρ2,s2,g2,sr2,q3⟩⟩
theorem Fp(hi:DI X tg iter di)(hg:DG X tg g)(hb:DSs X body tb)(hp:PassesOwn (model X.prog X.w) X.A X.env X.xe:=by exact PassesOwn.never)(hc:X.calm=true:=by rfl)
  (hs:∀x,foldedSetIterable iter X.env x=pure x:=by intro _;rfl):DS X (.For tg iter body [] pos) (iK di g tb):=PS.imp (Dl hp hc hi hg hb hs) xr
noncomputable def Fw(nt:Nat)(js:List Nat)(S:SD):SD:=ACL nt none++js.map λj=>(S[j]?).join
def iL(ok:Mem->Prop)(g:DTG)(tt:DTT)(te:DTE)(Q:DK):List D->List D->SD->Mem->Prop
 | [],acc,S,M=>ok M/\Q (.ref M.length) (M++[.lst acc])
 | x::xs,acc,S,M=>ok M/\g x S M λS2 M2=>tt S2 M2 λb M3=>if b=true then te S2 M3 λy M4=>acc.length<sizeLine/\iL ok g tt te Q xs (acc++[y]) S2 M4 else iL ok g tt te Q xs acc S2 M3
def dLC(nt:Nat)(js:List Nat)(di:DTI)(g:DTG)(tt:DTT)(te:DTE):DTE:=λS M Q=>di S M λsrc M1=>iL src.ok g tt te Q src.items [] (Fw nt js S) M1
theorem SRep.bst{K:AA1}{ρ:List Addr}{H:Hp}{S:SD}{σ:St}(r:SRep K ρ H S σ)(nt:Nat)(js:List Nat):SRep K ρ H (Fw nt js S) (L2.bst nt js σ):=by
 refine⟨by simp[Fw,wv],λi d e=>?_⟩
 unfold Fw at e
 unfold L2.bst
 by_cases hi:i<nt
 ·rw[AAJ (by simpa using hi),ACa]at e
  simp[hi]at e
 ·rw[AAp (by simpa using Nat.not_lt.mp hi),ACv,AAU]at e
  rw[AAp (by simpa using Nat.not_lt.mp hi),ACv,AAU]
  cases q:js[i-nt]? with
  | none=>rw[q]at e;cases e
  | some j =>
   rw[q]at e
   have e':(S[j]?).join=some d:=by simpa using e
   cases q2:S[j]? with
   | none=>rw[q2]at e';cases e'
   | some o =>
    rw[q2]at e'
    have e2:o=some d:=e'
    subst e2
    obtain⟨v,hv,rv⟩:=r.get j d q2
    exact⟨v,by simp[hv],rv⟩
theorem uE{K:AA1}{nt:Nat}{js:List Nat}{di:DTI}{g:DTG}{tt:DTT}{te:DTE}(σ:St)(H:Hp)(R:VK)(h:lowE K (dLC nt js di g tt te) σ H R):tLC nt js (lowI K di) (lowG K g) (lowT K tt) (lowE K te) σ H R:=by
 obtain⟨S,M,ρ,Q,s,sr,q,k⟩:=h
 refine⟨S,M,ρ,_,s,sr,q,?_⟩
 rintro J H1 ⟨src,M1,ρ1,s1,g1,it,q1⟩
 refine⟨λi m vs τ H2=>∃S2 M2 ρ2 acc,Sim K ρ2 M2 H2/\Grow K ρ1 H1 ρ2 H2/\SRep K ρ2 H2 S2 τ/\Reps K ρ2 H2 acc vs/\i<=src.items.length/\m=src.items.length-i/\iL src.ok g tt te Q (src.items.drop i) acc S2 M2,
  ⟨_,_,M1,ρ1,[],s1,.refl,(sr.grow g1).bst nt js,.nil,AAV _,rfl,q1⟩,?_⟩
 rintro i m vs τ H2 ⟨S2,M2,ρ2,acc,s2,g2,sr2,ra,hi,rfl,q2⟩
 by_cases hlt:i<src.items.length
 ·have hx:src.items[i]?=some src.items[i]:=AA7 hlt
  rw[mr hx]at q2
  obtain⟨ok,q3⟩:=(show src.ok M2/\g src.items[i] S2 M2 _ from q2)
  refine .inr ⟨it.go i ρ2 M2 H2 s2 g2 ok hlt,λx H3 y=>?_⟩
  obtain⟨d,ρ3,hd,s3,g3,r3⟩:=it.yld i ρ2 M2 H2 x H3 s2 g2 ok hlt y
  have ed:d=src.items[i]:=AAM (hd.symm.trans hx)
  subst ed
  refine⟨_,S2,M2,ρ3,_,s3,sr2.grow g3,r3,q3,?_⟩
  rintro τ4 H4 ⟨S4,M4,ρ4,s4,g4,sr4,q4⟩
  refine⟨S4,M4,ρ4,_,s4,sr4,q4,?_⟩
  rintro b H5 ⟨M5,ρ5,s5,g5,q5⟩
  have g15:=((g2.trans g3).trans g4).trans g5
  cases b with
  | false=>exact bZ ⟨_,by lia,S4,M5,ρ5,acc,s5,g15,sr4.grow g5,ra.grow ((g3.trans g4).trans g5),hlt,rfl,(show iL src.ok g tt te Q (src.items.drop (i+1)) acc S4 M5 from q5)⟩
  | true =>
   refine cM ⟨S4,M5,ρ5,_,s5,sr4.grow g5,(show te S4 M5 _ from q5),?_⟩
   rintro v H6 ⟨y',M6,ρ6,s6,g6,r6,hl,q6⟩
   have ra6:=ra.grow (((g3.trans g4).trans g5).trans g6)
   exact⟨by rw[<-ra.length];exact hl,_,by lia,S4,M6,ρ6,acc++[y'],s6,g15.trans g6,sr4.grow (g5.trans g6),ra6.append (.cons r6 .nil),hlt,rfl,q6⟩
 ·have e:i=src.items.length:=by lia
  subst e
  rw[List.drop_of_length_le (AAB _)]at q2
  obtain⟨ok,q3⟩:=(show src.ok M2/\Q (.ref M2.length) (M2++[.lst acc])from q2)
  exact .inl ⟨it.stop ρ2 M2 H2 s2 g2 ok,λp hp=>k _ _ (VQ.laidL s2 (g1.trans g2) ra hp q3)⟩
theorem d_lc(B:BlkSc X N' nt js scope)(hi:DI X tg iter di)
  (hg:∀cl s0 H0 ex,DG (blk X N' scope cl s0 H0 ex) tg g) (ht:∀cl s0 H0 ex,PTs (blk X N' scope cl s0 H0 ex) ifs (lowT X.K tt)) (he:∀cl s0 H0 ex,DE (blk X N' scope cl s0 H0 ex) elt te) (hc:X.calm=true:=by rfl)
  (hs:∀x,foldedSetIterable iter X.env x=pure x:=by intro _;rfl):DE X (.ListComp elt [⟨tg,iter,ifs,0⟩] scope pos) (dLC nt js di g tt te):=PE.imp (pe_lc (g:=lowG X.K g) (tt:=lowT X.K tt) (te:=lowE X.K te) B hc hi (λcl s0 H0 ex=>hg cl s0 H0 ex) ht (λcl s0 H0 ex=>he cl s0 H0 ex) hs) uE
def oJ:DTT:=λ_ M Q=>Q true M
theorem BR:PTs X [] (lowT X.K oJ):=λpins s σ H R I ⟨S,M,ρ,Q,sm,sr,q,k⟩=>zV pins s σ H R I (k true H ⟨M,ρ,sm,.refl,q⟩)
theorem BP(h:DT X c t):PTs X [c] (lowT X.K t):=zU h
def Chg(M M1:Mem):Prop:=M1.length=M.length/\∀(i:Nat) (mo:MO),M1[i]?=some mo->M[i]?=some mo\/Bels M.length mo.items
theorem Chg.refl:Chg M M:=⟨rfl,λ_ _ h=>.inl h⟩
def cj(M:Mem)(R:DK):DK:=λd M'=>R d M'\/(∃M1,Chg M M1/\Bel M.length d/\M1 <+: M'/\R d M1)\/∃M1 n xs,Chg M M1/\d=.ref n/\M.length<=n/\M'[n]?=some (.lst xs)/\M1 <+: M'/\Bels M.length xs/\R (.ref M.length) (M1++[.lst xs])
theorem aZ{α:Type}{l l':List α}(h:l <+: l'):l'.take l.length=l:=by
 obtain⟨t,rfl⟩:=h
 rw[List.take_append_of_le_length (AAB _),ABX]
theorem VQ.endq{K:AA1}{ρ:List Addr}{M:Mem}{H:Hp}{R:DK}{v:V}{H':Hp}(s:Sim K ρ M H)(h:VQ K ρ H (cj M R) v H'):VQ K ρ H R v H':=by
 obtain⟨d,M',ρ',s',g',r',q'⟩:=h
 have hρ:ρ'.take M.length=ρ:=by rw[<-s.len];exact aZ g'.pre
 rcases q' with q | ⟨M1,c,b,pre,q⟩|⟨M1,n,xs,c,rfl,hnM,e,pre,b,q⟩
 ·exact⟨d,M',ρ',s',g',r',q⟩
 ·have sc:=s'.cut M.length λn mo hn e=>by
   have e':M1[n]?=some mo:=by
    obtain⟨t,rfl⟩:=pre
    rw[AAJ (by rw[c.1];exact hn)]at e
    exact e
   exact(c.2 n mo e').elim (λz=>s.bels z) id
  have tk:M'.take M.length=M1:=by rw[<-c.1];exact aZ pre
  rw[hρ,tk]at sc
  have rc:=r'.cut b
  rw[hρ]at rc
  exact⟨d,M1,ρ,sc,⟨ACA,g'.tup,g'.fr⟩,rc,q⟩
 ·have sc:=s'.cut M.length λn mo hn e=>by
   have e':M1[n]?=some mo:=by
    obtain⟨t,rfl⟩:=pre
    rw[AAJ (by rw[c.1];exact hn)]at e
    exact e
   exact(c.2 n mo e').elim (λz=>s.bels z) id
  have tk:M'.take M.length=M1:=by rw[<-c.1];exact aZ pre
  rw[hρ,tk]at sc
  obtain⟨a,rfl,hn⟩:=Rep.inv_ref r'
  obtain⟨vs,hH,rr⟩:=s'.obj n a _ hn e
  have rc:=rr.cut b
  rw[hρ]at rc
  have g2:Grow K ρ H' (ρ++[a]) H':=⟨ABS _ _,λ_ _ h=>h,λ_ _ h=>h⟩
  have old:∀(m:Nat),ρ[m]?=some a->isK M1[m]?:=λm em=>by
   have hm:m≠n:=λz=>by
    have:m<M.length:=by rw[<-s.len];exact(AA5.mp em).1
    lia
   have q:=s'.nd m n a hm (aL g'.pre em) hn
   have hlt:m<M.length:=by rw[<-s.len];exact(AA5.mp em).1
   rcases q with⟨ds,z⟩|⟨ds,z⟩
   ·refine⟨ds,?_⟩
    have hlt1:m<M1.length:=by rw[c.1];exact hlt
    have:=aL pre (AA7 hlt1)
    rw[z]at this
    rw[AA7 hlt1]
    exact this.symm
   ·rw[e]at z;cases z
  refine⟨.ref M.length,M1++[.lst xs],ρ++[a],⟨λn1 m1 a1 hne e1 e2=>?_,by rw[AAC,AAC,sc.len];rfl,λn1 a1 mo e1 e2=>?_⟩,⟨ABS _ _,g'.tup,g'.fr⟩,.ref (by have:=sc.last (p:=a);rw[c.1]at this;exact this),q⟩
  ·rcases bj e1 with f1 | ⟨f1,w1⟩
   ·rcases bj e2 with f2 | ⟨f2,w2⟩
    ·exact(sc.nd n1 m1 a1 hne f1 f2).elim (λz=>.inl z.more) λz=>.inr z.more
    ·subst w2
     exact .inl (old n1 f1).more
   ·rcases bj e2 with f2 | ⟨f2,w2⟩
    ·subst w1
     exact .inr (old m1 f2).more
    ·exact absurd (f1.trans f2.symm) hne
  ·rcases bj e1 with f1 | ⟨f1,w1⟩
   ·have hn1:n1<M1.length:=by rw[<-sc.len];exact(AA5.mp f1).1
    rw[AAJ hn1]at e2
    exact(sc.obj n1 a1 mo f1 e2).grow g2 (.inl rfl)
   ·subst w1 f1
    rw[sc.len,AAp (AAB _),AEV]at e2
    simp at e2
    subst e2
    exact⟨vs,hH,rc.grow g2⟩
noncomputable def cc(N:List Str)(ds:List D):SD:=ds.map some++ACL (N.length-ds.length) none
theorem SRep.start{K:AA1}{ρ:List Addr}{H:Hp}{ds:List D}{vs:List V}(r:Reps K ρ H ds vs)(N:List Str):SRep K ρ H (cc N ds) (L2.start N vs):=by
 refine⟨by simp[cc,L2.start,r.length],λi d e=>?_⟩
 unfold cc at e
 unfold L2.start
 by_cases hi:i<ds.length
 ·rw[AAJ (by simpa using hi),AAU]at e
  rw[AAJ (by simpa [<-r.length]using hi),AAU]
  have e':ds[i]?=some d:=by
   rw[AA7 hi]at e ⊢
   simpa using e
  obtain⟨v,hv,rv⟩:=r.get e'
  exact⟨v,by rw[hv];rfl,rv⟩
 ·rw[AAp (by simpa using Nat.not_lt.mp hi),ACa]at e
  split at e<;>cases e
theorem d_fn{P:Program}{w:World}{K:AA1}{mg:Str->Option Value}{base:Heap}{x qual:Str}{st:Stmt}{f:Addr}{fd:FuncData}{N ps:List Str}{k:Nat}(Pr:DSp)(F:Fun K x qual st f fd)(Sc:FnScope N ps (ar st))
  (len:∀ds M R,Pr ds M R->ds.length=ps.length)
  (hbody:∀(cdv:Value) (A:Around) (outer:List Env) (s:Shared) (H:Hp) (E:XK),Room k (A.deeper (envOfC qual (ar st) s.heap.objs.size f cdv)) ->
   ∃t,DSs (iE CX0 P w K mg base N qual (ar st) f cdv A outer s H E).nox (aU st) t/\∀ds M R,Pr ds M R->t ⟨λ_ M'=>cj M R .non M',cj M R,λ_ _=>False,λ_ _=>False⟩ (cc N ds) M) :
  FnOk P w K mg base CX0 (k+1) f fd ps (spL K Pr):=by
 refine F.ok Sc (λvs H Q E ⟨ds,M,ρ,R,s,r,q,_⟩=>by rw[<-r.length];exact len ds M R q) λcdv A outer s H vs Q E hr h=>?_
 obtain⟨ds,M,ρ,R,sm,r,q,kk⟩:=h
 obtain⟨t,ht,hq⟩:=hbody cdv A outer s H E hr
 refine⟨lowS K t,ht,cc N ds,M,ρ,_,sm,SRep.start r N,hq ds M R q,⟨λσ' H' ⟨S',M',ρ',s',g',sr',q'⟩=>?_,λv H' z=>kk v H' (VQ.endq sm z),λσ' H' ⟨S',M',ρ',s',g',sr',q'⟩=>q'.elim,λσ' H' ⟨S',M',ρ',s',g',sr',q'⟩=>q'.elim⟩⟩
 exact kk .non H' (VQ.endq sm ⟨.non,M',ρ',s',g',.non,q'⟩)
end
theorem oG(I:Inv X pins σ H s)(sm:Sim X.K ρ M H)(k:∀v H',VQ X.K ρ H Q v H'->R v H')(q:Q (.bl b) M):EP X pins σ R (.bool b) s :=
 ⟨.bl b,H,I,rfl,k _ H (VQ.now sm (.bl b) q)⟩
def qAdd:DR2:=λx y M Q=>match x,y with
 | .int i,.int j=>Q (.int (i+j)) M
 | .str a,.str b=>a.length+b.length<=sizeLine/\Q (.str (a++b)) M
 | .ref n,.ref m=>∃xs ys,M[n]?=some (.lst xs)/\M[m]?=some (.lst ys)/\xs.length+ys.length<=sizeLine/\Q (.ref M.length) (M++[.lst (xs++ys)])
 | _,_=>False
theorem Ea:OpD X (binaryOp .Add) qAdd:=by
 refine OpR.imp (DP.or (qY.or DO)) ?_
 rintro vx vy H R ⟨x,y,M,ρ,Q,sm,r1,r2,q,k⟩
 unfold qAdd at q
 split at q
 ·cases r1
  cases r2
  exact .inl ⟨_,_,rfl,rfl,k _ H (VQ.now sm (.int _) q)⟩
 ·cases r1
  cases r2
  exact .inr (.inl ⟨_,_,rfl,rfl,q.1,k _ H (VQ.now sm (.str _) q.2)⟩)
 ·obtain⟨xs,ys,e1,e2,hl,q⟩:=q
  obtain⟨_,rfl,h1⟩:=Rep.inv_ref r1
  obtain⟨_,rfl,h2⟩:=Rep.inv_ref r2
  obtain⟨vs,f1,g1⟩:=sm.obj _ _ _ h1 e1
  obtain⟨ws,f2,g2⟩:=sm.obj _ _ _ h2 e2
  exact .inr (.inr ⟨_,_,vs,ws,rfl,rfl,f1,f2,by rw[<-g1.length,<-g2.length];exact hl,λp hp=>k _ _ (VQ.laidL sm .refl (g1.append g2) hp q)⟩)
 ·exact q.elim
def Ct:DR2:=λx y M Q=>match x,y with
 | .int i,.int j=>Q (.int (i-j)) M
 | _,_=>False
theorem DV:OpD X (binaryOp .Sub) Ct:=by
 refine OpR.imp DH ?_
 rintro vx vy H R ⟨x,y,M,ρ,Q,sm,r1,r2,q,k⟩
 unfold Ct at q
 split at q
 ·cases r1
  cases r2
  exact⟨_,_,rfl,rfl,k _ H (VQ.now sm (.int _) q)⟩
 ·exact q.elim
def FR(i j:Int):Prop:=0<j/\j<340282366920938463463374607431768211456
theorem xf:OpR X (binaryOp .FloorDiv) (rI FR λi j=>.int (i / j)):=opI λi j _ _ _ _ _ hc q=>by
 have h1:(0:Int)<j:=hc.1
 have h2:j<340282366920938463463374607431768211456:=hc.2
 have h3:j.natAbs.log2<128:=(Nat.log2_lt (by lia)).mpr (by rw[show (2:Nat) ^ 128=340282366920938463463374607431768211456 by decide];lia)
 exact floordiv_int (by lia) (by rw[Int.fdiv_eq_ediv_of_nonneg i (by lia)];exact q) (.inl (PyProof.noPylong_of_log2 (by lia)))
def jB:DR2:=λx y M Q=>match x,y with
 | .int i,.int j=>FR i j/\Q (.int (i / j)) M
 | _,_=>False
theorem Ay:OpD X (binaryOp .FloorDiv) jB:=by
 refine OpR.imp xf ?_
 rintro vx vy H R ⟨x,y,M,ρ,Q,sm,r1,r2,q,k⟩
 unfold jB at q
 split at q
 ·cases r1
  cases r2
  exact⟨_,_,rfl,rfl,q.1,k _ H (VQ.now sm (.int _) q.2)⟩
 ·exact q.elim
def qV:DR2:=λx y M Q=>match x,y with
 | .int i,.int j=>0<j/\Q (.int (i % j)) M
 | _,_=>False
theorem DZ:OpD X (binaryOp .Mod) qV:=by
 refine OpR.imp DN ?_
 rintro vx vy H R ⟨x,y,M,ρ,Q,sm,r1,r2,q,k⟩
 unfold qV at q
 split at q
 ·cases r1
  cases r2
  exact⟨_,_,rfl,rfl,q.1,k _ H (VQ.now sm (.int _) q.2)⟩
 ·exact q.elim
noncomputable def fP(a b:Str):Bool:=decide (a.cps.toList<b.cps.toList)
def qLt:DR2:=λx y M Q=>match x,y with
 | .int i,.int j=>Q (.bl (decide (i<j))) M
 | .str a,.str b=>Q (.bl (fP a b)) M
 | _,_=>False
def qGt:DR2:=λx y M Q=>match x,y with
 | .int i,.int j=>Q (.bl (decide (j<i))) M
 | .str a,.str b=>Q (.bl (fP b a)) M
 | _,_=>False
theorem od_lt:OpD X (compareOp .Lt) qLt:=by
 rintro pins s σ H vx vy v u R I rx ry ⟨x,y,M,ρ,Q,sm,r1,r2,q,k⟩
 unfold qLt at q
 split at q
 ·cases r1
  cases r2
  exact op_lt pins s σ H _ _ v u R I rx ry ⟨_,_,rfl,rfl,k _ H (VQ.now sm (.bl _) q)⟩
 ·cases r1
  cases r2
  obtain⟨t,rfl⟩:=rx
  obtain⟨t',rfl⟩:=ry
  exact PySem.P.lt_str (oG I sm k q)
 ·exact q.elim
theorem od_gt:OpD X (compareOp .Gt) qGt:=by
 rintro pins s σ H vx vy v u R I rx ry ⟨x,y,M,ρ,Q,sm,r1,r2,q,k⟩
 unfold qGt at q
 split at q
 ·cases r1
  cases r2
  exact op_gt pins s σ H _ _ v u R I rx ry ⟨_,_,rfl,rfl,k _ H (VQ.now sm (.bl _) q)⟩
 ·cases r1
  cases r2
  obtain⟨t,rfl⟩:=rx
  obtain⟨t',rfl⟩:=ry
  exact PySem.P.gt_str (oG I sm k q)
 ·exact q.elim
noncomputable def tyD(M:Mem):D->String
 | .non=>"NoneType"
 | .bl _=>"bool"
 | .int _=>"int"
 | .str _=>"str"
 | .ty _=>"type"
 | .tup _=>"tuple"
 | .ref n=>match M[n]? with
  | some mo=>if mo.isL=true then "list" else "?"
  | none=>"?"
noncomputable def zf(t T:String):Bool:=t==T||(t == "bool" && T == "int")
noncomputable def zF:List String:=["NoneType","bool","int","str","list","tuple"]
noncomputable def CI:List String:=["bool","int","str","list","tuple"]
theorem Bc(K:AA1)(ht:t∈zF)(hT:T∈CI):AB8 K (.type t) (.type T)=some (zf t T):=by
 simp only[zF,CI,AAL,List.not_mem_nil,or_false]at ht hT
 rcases ht with rfl | rfl | rfl | rfl | rfl | rfl<;>rcases hT with rfl | rfl | rfl | rfl | rfl<;>kernel_rfl
theorem ze(I:Inv X pins σ H s)(sm:Sim X.K ρ M H)(r:Rep X.K ρ H d v)(rv:aR v u)(hd:tyD M d∈zF)
  (step:∀(Hx:Heap->Prop),PySem.W.KitX X.K u (.type (tyD M d)) Hx->Hx s.heap->u≠.builtin "__main__.__loader__#opaque"->wpAny (model X.prog X.w) X.A (call (.builtin "isinstance") [u,c]) Q X.xe s):wpAny (model X.prog X.w) X.A (call (.builtin "isinstance") [u,c]) Q X.xe s:=by
 cases r with
 | non=>cases rv;exact step _ PySem.W.kitx_none ACE (λz=>nomatch z)
 | bl y=>cases rv;exact step _ PySem.W.kitx_bool ACE (λz=>nomatch z)
 | int i=>obtain⟨t,rfl⟩:=rv;exact step _ PySem.W.kitx_int ACE (λz=>nomatch z)
 | str i=>obtain⟨t,rfl⟩:=rv;exact step _ PySem.W.kitx_str ACE (λz=>nomatch z)
 | ty n=>exact absurd hd (by simp only[tyD];decide)
 | tup h rr =>
  cases rv
  obtain⟨its,_,⟨o,h1,h2,_⟩,_⟩:=I.tuple h
  exact step _ PySem.W.kitx_tuple ⟨o,h1,h2⟩ (λz=>nomatch z)
 | @ref n a e =>
  cases rv
  have hn:n<M.length:=by rw[<-sm.len];exact(AA5.mp e).1
  have hm:M[n]?=some M[n]:=AA7 hn
  have hd':(match M[n]? with | some mo=>if mo.isL=true then "list" else "?" | none=>"?")∈zF:=hd
  rw[hm]at hd'
  have hil:M[n].isL=true:=by
   cases q:M[n].isL with
   | true=>rfl
   | false =>
    simp only[q,AAR,if_false]at hd'
    exact absurd hd' (by decide)
  have hL:ap M n M[n].items:=by
   cases q:M[n] with
   | lst xs=>exact .inl (by rw[hm,q];rfl)
   | fz xs=>exact .inr (.inl (by rw[hm,q];rfl))
   | kl xs=>exact .inr (.inr (by rw[hm,q];rfl))
   | dct xs=>rw[q]at hil;cases hil
   | dkt xs=>rw[q]at hil;cases hil
   | dkq _ xs=>rw[q]at hil;cases hil
   | fdc o xs=>rw[q]at hil;cases hil
   | dkm xs=>rw[q]at hil;cases hil
   | tb x b=>rw[q]at hil;cases hil
   | exc x e=>rw[q]at hil;cases hil
   | ins c fs=>rw[q]at hil;cases hil
   | tl x p q' e=>rw[q]at hil;cases hil
  obtain⟨vs,hq,_⟩:=ap.seq sm hL e
  obtain⟨its,_,⟨o,n',h1,h2,_⟩,_⟩:=I.list hq
  have ht:tyD M (.ref n) = "list":=by
   show (match M[n]? with | some mo=>if mo.isL=true then "list" else "?" | none=>"?") = "list"
   rw[hm]
   exact if_pos hil
  rw[ht]at step
  exact step _ PySem.W.kitx_list ⟨o,h1,h2⟩ (λz=>nomatch z)
def Dd:DRA:=λds M Q=>match ds with
 | [d,.ty T]=>(tyD M d∈zF/\T∈CI)/\Q (.bl (zf (tyD M d) T)) M
 | [d,.tup [.ty T,.ty T']]=>(tyD M d∈zF/\T∈CI/\T'∈CI)/\Q (.bl (zf (tyD M d) T||zf (tyD M d) T')) M
 | _=>False
theorem FF:eU X (.builtin "isinstance") Dd:=by
 rintro pins s σ H vs us R I rv ⟨ds,M,ρ,Q,sm,rs,q,k⟩
 unfold Dd at q
 split at q
 ·rename_i d T
  obtain⟨⟨h1,h2⟩,q⟩:=q
  first | have hzz:=Reps.inv_cons rs | have hzz:=ay.inv_cons rs
  clear rs
  obtain⟨_,_,rfl,r1,rs⟩:=hzz
  first | have hzz:=Reps.inv_cons rs | have hzz:=ay.inv_cons rs
  clear rs
  obtain⟨_,_,rfl,r2,rs⟩:=hzz
  cases rs
  cases r2
  obtain⟨u,u',rfl,e1,e2⟩:=ay.two rv
  cases e2
  refine ze I sm r1 e1 h1 λHx Z p hx=>?_
  exact PySem.W.kia_one Z I.kIn p (Bc X.K h1 h2) hx λtk=>oG (I.tok tk) sm k q
 ·rename_i d T T'
  obtain⟨⟨h1,h2,h3⟩,q⟩:=q
  first | have hzz:=Reps.inv_cons rs | have hzz:=ay.inv_cons rs
  clear rs
  obtain⟨_,_,rfl,r1,rs⟩:=hzz
  first | have hzz:=Reps.inv_cons rs | have hzz:=ay.inv_cons rs
  clear rs
  obtain⟨_,_,rfl,r2,rs⟩:=hzz
  cases rs
  obtain⟨u,u',rfl,e1,e2⟩:=ay.two rv
  obtain⟨a,ws,rfl,hq,rt⟩:=Rep.inv_tup r2
  cases e2
  obtain⟨its,rr,⟨o,g1,g2,n,g3⟩,_⟩:=I.tuple hq
  first | have hzz:=Reps.inv_cons rt | have hzz:=ay.inv_cons rt
  clear rt
  obtain⟨_,_,rfl,t1,rt⟩:=hzz
  first | have hzz:=Reps.inv_cons rt | have hzz:=ay.inv_cons rt
  clear rt
  obtain⟨_,_,rfl,t2,rt⟩:=hzz
  cases rt
  cases t1
  cases t2
  obtain⟨w1,w2,rfl,f1,f2⟩:=ay.two rr
  cases f1
  cases f2
  obtain⟨oc,od,odt,osl⟩:=o
  cases g2
  cases g3
  refine ze I sm r1 e1 h1 λHx Z p hx=>?_
  refine PySem.W.kia_tup Z I.kIn p g1 (b:=zf (tyD M d) T||zf (tyD M d) T') ?_ hx λtk=>oG (I.tok tk) sm k q
  show (match AB8 X.K (.type (tyD M d)) (.type T)with | some true=>some true | some false=>PySem.W.kitAny X.K (.type (tyD M d)) [.type T'] | none=>none)=_
  rw[Bc X.K h1 h2]
  cases zf (tyD M d) T with
  | true=>rfl
  | false =>
   show (match AB8 X.K (.type (tyD M d)) (.type T')with | some true=>some true | some false=>some false | none=>none)=_
   rw[Bc X.K h1 h3]
   cases zf (tyD M d) T'<;>rfl
 ·exact q.elim
def ja:DRA:=λds M Q=>match ds with
 | [.str x]=>x.length<=sizeLine/\Q (.int x.length) M
 | [.tup xs]=>Q (.int xs.length) M
 | [.ref n]=>∃xs,ap M n xs/\Q (.int xs.length) M
 | _=>False
theorem FE:eU X (.builtin "len") ja:=by
 refine cQ.imp (mG.or mF) ?_
 rintro vs H R ⟨ds,M,ρ,Q,sm,rs,q,k⟩
 unfold ja at q
 split at q
 ·first | have hzz:=Reps.inv_cons rs | have hzz:=ay.inv_cons rs
  clear rs
  obtain⟨_,_,rfl,r1,rs⟩:=hzz
  cases rs
  cases r1
  exact .inr ⟨_,rfl,q.1,k _ H (VQ.now sm (.int _) q.2)⟩
 ·first | have hzz:=Reps.inv_cons rs | have hzz:=ay.inv_cons rs
  clear rs
  obtain⟨_,_,rfl,r1,rs⟩:=hzz
  cases rs
  cases r1 with
  | tup h r=>exact .inl ⟨_,_,rfl,.inr h,k _ H (VQ.now sm (by rw[<-r.length];exact .int _) q)⟩
 ·obtain⟨xs,hL,q⟩:=q
  first | have hzz:=Reps.inv_cons rs | have hzz:=ay.inv_cons rs
  clear rs
  obtain⟨_,_,rfl,r1,rs⟩:=hzz
  cases rs
  obtain⟨_,rfl,e⟩:=Rep.inv_ref r1
  obtain⟨ws,hq,r⟩:=ap.seq sm hL e
  exact .inl ⟨_,_,rfl,.inl hq,k _ H (VQ.now sm (by rw[<-r.length];exact .int _) q)⟩
 ·exact q.elim
noncomputable def bls(bs:List Bool):List D:=bs.map .bl
theorem Reps.bls{K:AA1}{ρ:List Addr}{H:Hp}:∀{bs:List Bool}{vs:List V},Reps K ρ H (L2.bls bs) vs->vs=bs.map V.bl
 | [],_,h=>by cases h;rfl
 | b::bs,_,h=>by
  cases h with
  | cons r t =>
   cases r
   rw[Reps.bls t]
   rfl
theorem oS:∀{bs:List Bool}{us:List Value},ay (bs.map V.bl) us->us=bs.map ACj
 | [],_,h=>by cases h;rfl
 | b::bs,_,h=>by
  cases h with
  | cons r t =>
   cases r
   rw[oS t]
   rfl
theorem rY{pins:List (Addr×Obj)}{σ:St}{H:Hp}{s:Shared}{a:Addr}{bs:List Bool}{G:Shared->Prop}(I:Inv X pins σ H s)(hc:X.calm=true)(hq:SqL X.K H a (bs.map V.bl))(fin:∀s',Inv X pins σ H s'->G s') :
  ∀(E:Value->Shared->Prop),wpAny (model X.prog X.w) X.A.in1 (pyIter (.ref a)) (λit s₂=>∃I fp wr n P St tr,it=AAZ I/\Walks X.prog X.w X.A.in1 I fp wr n P St/\St 0 s₂.heap/\TruthOf X.prog X.w X.A.in1 P tr /\
   (n=bs.length/\(∀i,i<bs.length->tr i=bs.getD i false))/\∀h' tk,(∀b o,b∉wr->s₂.heap.get? b=some o->h'.get? b=some o)->G { s₂ with heap:=h',toks:=tk }) E s:=by
 intro E
 obtain⟨its,rr,p,hz⟩:=I.list hq
 have eits:=oS rr
 subst eits
 have hl:=p.isList
 have hlt:a<s.heap.objs.size:=by obtain⟨o,n,e,_⟩:=p;exact AAD e
 refine ADp hl ?_
 have I1:Inv X pins σ H { s with heap:=s.heap.push { cls:=.type "list_iterator",data:=.fields #[.ref a,.int 0 0] } }:=I.kept (t':=s.toks) λb o e=>AA4 _ e
 refine⟨s.heap.objs.size,_,_,_,_,_,λi=>bs.getD i false,rfl,Walks.list (A:=X.A.in1) (I.ok.hd hc) s.heap.objs.size a (AAH hlt) (bs.map ACj).toArray,⟨⟨_,AAE _ rfl,rfl,rfl⟩,hl.push _⟩,?_,⟨by simp,λi _=>rfl⟩,λh' tk kk=>?_⟩
 ·intro i v s' Q' E' hP hQ
  have hP':(bs.map ACj).toArray[i]?=some v:=hP
  rw[List.getElem?_toArray,AAU]at hP'
  cases e:bs[i]? with
  | none=>rw[e]at hP';cases hP'
  | some b =>
   rw[e]at hP'
   cases hP'
   refine ACR ?_
   have:bs.getD i false=b:=by rw[AAI,e];rfl
   have hQ':Q' (bs.getD i false) s':=hQ
   rw[this]at hQ'
   exact hQ'
 ·have f:=I.fpOk (H':=H) (AAB _) (I.hok.fresh (AAB _))
  obtain⟨f0,f1,f2,f3,f4,f5⟩:=f
  exact fin _ (I1.turned (t':=tk) (it:=s.heap.objs.size) (λb o hb e=>kk b o (by simpa using hb) e) f0 f1 f3 f4 f5)
theorem wy{bs:List Bool}{tr:Nat->Bool}(h:∀i,i<bs.length->tr i=bs.getD i false):(AAx bs.length).any tr=bs.any id:=by
 rw[Bool.eq_iff_iff,ABx,ABx]
 constructor
 ·rintro⟨i,hi,g⟩
  have hi':=ABV.mp hi
  rw[h i hi',AAI,AA7 hi']at g
  exact⟨_,AAy hi',g⟩
 ·rintro⟨b,hb,g⟩
  obtain⟨i,hi,e⟩:=List.mem_iff_getElem.mp hb
  refine⟨i,ABV.mpr hi,?_⟩
  rw[h i hi,AAI,AA7 hi,e]
  exact g
def De:DRA:=λds M Q=>match ds with
 | [.ref n]=>∃bs,ap M n (bls bs)/\Q (.bl (bs.any id)) M
 | _=>False
theorem FG(hc:X.calm=true:=by rfl):eU X (.builtin "any") De:=by
 rintro pins s σ H vs us R I rv ⟨ds,M,ρ,Q,sm,rs,q,k⟩
 unfold De at q
 split at q
 ·obtain⟨bs,hL,q⟩:=q
  first | have hzz:=Reps.inv_cons rs | have hzz:=ay.inv_cons rs
  clear rs
  obtain⟨_,_,rfl,r1,rs⟩:=hzz
  cases rs
  obtain⟨u,rfl,e1⟩:=ay.one rv
  obtain⟨_,rfl,e⟩:=Rep.inv_ref r1
  cases e1
  obtain⟨ws,hq,r⟩:=ap.seq sm hL e
  rw[r.bls]at hq
  refine call_any_walk (thn (rY (G:=λs'=>EP X pins σ R (.bool (bs.any id)) s') I hc hq (λs' I'=>oG I' sm k q) _) ?_)
  rintro it s2 ⟨J,fp,wr,n,P,Sx,tr,e1,W,st,T,⟨en,et⟩,fin⟩
  subst en
  exact⟨J,fp,wr,_,P,Sx,tr,e1,W,st,T,λh' tk kk=>by rw[wy et];exact fin h' tk kk⟩
 ·exact q.elim
end L2
namespace L2
open PySem PySem.Spec PyProof.Rows DL _root_.HT
theorem jS{t sl:Addr}{items:Array Value}{vl vu:Value}{lo hi:Option Int}{Q:Value->Shared->Prop}(ht:IsTup s.heap t items)(hs:s.heap.IsSliceOf sl vl vu .none)(pl:IsPart vl lo)(pu:IsPart vu hi)
  (hw:sIx items.size 0 lo=0/\sIx items.size items.size hi=items.size) (h:Q (.ref t) s):wpAny (model prog w) A (getItem (.ref t) (.ref sl)) Q E s:=by
 obtain⟨os,hos,hcs,hds⟩:=id hs
 have hTs:s.TypeIs (.ref sl) "slice":=⟨os,hos,hcs⟩
 unfold getItem
 try with_reducible refine AAW ?_
 first | refine AA0 (AA3 ?_) | skip
 refine AA0 (wpAny_sequenceKey ht.typeIs (by decide) (AA0 (AAz (name:=AA2 "__getitem__") ht.typeIs AB4 (AAu AB4 ht.typeIs entry_tuple_getitem ?_ (args_tuple_getitem _ _)))))
 refine(show wpAny (model prog w) _ (AD7 (.ref t) >>= _) _ _ s from AA0 (tupleItemsOf_ ht (AA0 (ACx hTs ?_))))
 rw[if_pos (by decide)]
 refine AA0 (cL hs pl pu ?_)
 refine(show wpAny (model prog w) _ (if (((sIx items.size 0 lo:Nat):Int)==0&&(1:Int)==1&&(sIx items.size items.size hi-sIx items.size 0 lo)==items.size)=true then _ else _) _ _ s from ?_)
 rw[if_pos (by rw[hw.1,hw.2];simp)]
 unfold Builtin.Tuple.tupleIsExact
 refine AA0 (AA0 (ACx ht.typeIs (AA3 ?_)))
 rw[if_pos (by decide)]
 exact AA0 (ADQ (AA3 ⟨_,rfl,AA3 h⟩))
end L2
namespace L2
open PySem PySem.Spec PyProof.Rows DL
section
variable{X:Cx}{a b:Expr}{ta tb:DTE}{pos:Pos}
theorem IxR.imp(h:IxR X r')(i:∀x y H R,r x y H R->r' x y H R):IxR X r:=λvalue slice pins s σ H x y v u R I rx ry q hs=>h value slice pins s σ H x y v u R I rx ry (i x y H R q) hs
theorem Reps.atI{K:AA1}{ρ:List Addr}{H:Hp}{ds:List D}{vs:List V}{i:Int}{d:D}(r:Reps K ρ H ds vs)(h:L2.atI ds i=some d):∃v,L2.atI vs i=some v/\Rep K ρ H d v:=by
 unfold L2.atI at h ⊢
 rw[r.length]at h
 cases e:ixN vs.length i with
 | none=>rw[e]at h;cases h
 | some j =>
  rw[e]at h
  obtain⟨v,hv,rv⟩:=r.get (show ds[j]?=some d from h)
  exact⟨v,hv,rv⟩
def qIx:DR2:=λx y M Q=>match x,y with
 | .tup xs,.int i=>match L2.atI xs i with
  | some d=>Q d M
  | none=>False
 | .str z,.int i=>z.length<=sizeLine/\match L2.atI z.cps.toList i with
  | some c=>Q (.str ⟨#[c]⟩) M
  | none=>False
 | .ref n,.int i=>∃xs,ap M n xs/\match L2.atI xs i with
  | some d=>Q d M
  | none=>False
 | _,_=>False
theorem Bp:IxR X (lowR X.K qIx):=by
 refine IxR.imp EK ?_
 rintro vx vy H R ⟨x,y,M,ρ,Q,sm,r1,r2,q,k⟩
 unfold qIx at q
 split at q
 ·rename_i xs i
  split at q
  ·rename_i d e
   cases r2
   obtain⟨_,_,rfl,h,r⟩:=Rep.inv_tup r1
   obtain⟨v,hv,rv⟩:=r.atI e
   exact .inr (.inl ⟨_,_,_,v,rfl,rfl,h,hv,k _ H (VQ.now sm rv q)⟩)
  ·exact q.elim
 ·rename_i z i
  obtain⟨hz,q⟩:=q
  split at q
  ·rename_i c e
   cases r2
   cases r1
   exact .inr (.inr ⟨z,i,c,rfl,rfl,hz,e,k _ H (VQ.now sm (.str _) q)⟩)
  ·exact q.elim
 ·rename_i n i
  obtain⟨xs,hL,q⟩:=q
  split at q
  ·rename_i d e
   cases r2
   obtain⟨_,rfl,hn⟩:=Rep.inv_ref r1
   obtain⟨vs,hq,r⟩:=ap.seq sm hL hn
   obtain⟨v,hv,rv⟩:=r.atI e
   exact .inl ⟨_,_,_,v,rfl,rfl,hq,hv,k _ H (VQ.now sm rv q)⟩
  ·exact q.elim
 ·exact q.elim
theorem d_ix(ha:DE X a ta)(hb:DE X b tb)(hs:oO b:=by intro _ _;rfl):DE X (.Subscript a b pos) (dOp qIx ta tb):=PE.imp (pe_ix Bp ha hb hs) jO
abbrev DTO:=SD->Mem->(Option Int->Mem->Prop)->Prop
def Ed(K:AA1)(t:DTO):TO:=λσ H R=>∃S M ρ Q,Sim K ρ M H/\SRep K ρ H S σ/\t S M Q/\∀o H',(∃M' ρ',Sim K ρ' M' H'/\Grow K ρ H ρ' H'/\Q o M')->R o H'
def bW:DTO:=λ_ M Q=>Q none M
def bF(t:DTE):DTO:=λS M Q=>t S M λx M1=>match x with
 | .int i=>Q (some i) M1
 | _=>False
theorem PO.imp(h:PO X e t')(i:∀σ H R,t σ H R->t' σ H R):PO X e t:=λpins s σ H R I q=>h pins s σ H R I (i σ H R q)
theorem BX:PO X none (Ed X.K bW):=by
 refine PO.imp Ac ?_
 rintro σ H R ⟨S,M,ρ,Q,s,sr,q,k⟩
 exact k none H ⟨M,ρ,s,.refl,q⟩
theorem BW(h:DE X e te):PO X (some e) (Ed X.K (bF te)):=by
 refine PO.imp (Ab h) ?_
 rintro σ H R ⟨S,M,ρ,Q,s,sr,q,k⟩
 refine⟨S,M,ρ,_,s,sr,q,?_⟩
 rintro v H1 ⟨d,M1,ρ1,s1,g1,r1,q1⟩
 cases r1 with
 | int i=>exact⟨i,rfl,k _ H1 ⟨M1,ρ1,s1,g1,q1⟩⟩
 | _=>exact q1.elim
theorem CY:SlR X (λx lo hi H Q=>∃z,x=.str z/\z.length<=sizeLine/\Q (.str (ABd z lo hi)) H):=by
 intro pins s σ H x v vl vu lo hi sl Q I rx hs pl pu h
 obtain⟨z,rfl,hz,q⟩:=h
 obtain⟨t,rfl⟩:=rx
 have part:∀{v:Value}{o:Option Int},IsPart v o->∃p:Option (Int×Tok),v=partValue p/\p.map (·.1)=o:=λh=>by
  cases h with
  | none=>exact⟨none,rfl,rfl⟩
  | int i t=>exact⟨some (i,t),rfl,rfl⟩
 obtain⟨p1,rfl,e1⟩:=part pl
 obtain⟨p2,rfl,e2⟩:=part pu
 subst e1 e2
 refine⟨"str",_,slot_str_getitem.lookup,typeIs_str _ _ _,wpAny_getItem_str_slice (l:=p1) (u:=p2) (st:=none) hs rfl ?_⟩
 exact post_val_or_str ⟨AAh (Txt.slice_le z _ _) hz,λt' k=>⟨.str _,H,I.tok k,⟨t',rfl⟩,q⟩⟩
noncomputable def cutD(xs:List D)(lo hi:Option Int):List D:=(xs.drop (HT.sIx xs.length 0 lo)).take (HT.sIx xs.length xs.length hi-HT.sIx xs.length 0 lo)
theorem Reps.cutD{K:AA1}{ρ:List Addr}{H:Hp}{ds:List D}{vs:List V}(r:Reps K ρ H ds vs)(lo hi:Option Int):Reps K ρ H (L2.cutD ds lo hi) (zr vs lo hi):=by
 unfold L2.cutD zr
 rw[r.length]
 exact(r.drop _).take _
def qSl:D->Option Int->Option Int->Mem->DK->Prop:=λx lo hi M Q=>match x with
 | .str z=>z.length<=sizeLine/\Q (.str (ABd z lo hi)) M
 | .ref n=>∃xs,ap M n xs/\Q (.ref M.length) (M++[.lst (cutD xs lo hi)])
 | .tup xs=>Q (.tup (cutD xs lo hi)) M
 | _=>False
def lowSl(K:AA1)(r:D->Option Int->Option Int->Mem->DK->Prop):V->Option Int->Option Int->Hp->VK->Prop:=λvx lo hi H R=>∃x M ρ Q,Sim K ρ M H/\Rep K ρ H x vx/\r x lo hi M Q/\∀v H',VQ K ρ H Q v H'->R v H'
theorem sld:SlR X (lowSl X.K qSl):=by
 rintro pins s σ H x v vl vu lo hi sl R I rx hs pl pu ⟨d,M,ρ,Q,sm,r1,q,k⟩
 unfold qSl at q
 split at q
 ·cases r1
  exact CY pins s σ H _ v vl vu lo hi sl R I rx hs pl pu ⟨_,rfl,q.1,k _ H (VQ.now sm (.str _) q.2)⟩
 ·obtain⟨xs,hL,q⟩:=q
  obtain⟨_,rfl,hn⟩:=Rep.inv_ref r1
  obtain⟨vs,hq,r⟩:=ap.seq sm hL hn
  exact zM pins s σ H _ v vl vu lo hi sl R I rx hs pl pu ⟨_,vs,rfl,hq,λp hp=>k _ _ (VQ.laidL sm .refl (r.cutD lo hi) hp q)⟩
 ·obtain⟨_,_,rfl,h,r⟩:=Rep.inv_tup r1
  rename_i xs a vs
  by_cases hw:HT.sIx xs.length 0 lo=0/\HT.sIx xs.length xs.length hi=xs.length
  ·cases rx
   obtain⟨its,rr,ht,hz⟩:=I.tuple h
   have hlen:its.toArray.size=xs.length:=by rw[AAA,r.length];exact rr.length.symm
   have e:L2.cutD xs lo hi=xs:=by unfold L2.cutD;rw[hw.1,hw.2,List.drop_zero,Nat.sub_zero,ABX]
   rw[e]at q
   exact⟨"tuple",_,AB4.lookup,ht.typeIs,jS ht hs pl pu (by rw[hlen];exact hw) ⟨.ref _,H,I,rfl,k _ H (VQ.now sm (.tup h r) q)⟩⟩
  ·exact CW pins s σ H _ v vl vu lo hi sl R I rx hs pl pu ⟨_,_,rfl,h,by rw[<-r.length];exact hw,λp hp=>k _ _ (VQ.laidT sm .refl (r.cutD lo hi) hp q)⟩
 ·exact q.elim
def dSl(te:DTE)(tl th:DTO):DTE:=λS M Q=>te S M λx M1=>tl S M1 λl M2=>th S M2 λu M3=>qSl x l u M3 Q
theorem Cc{e:Expr}{te:DTE}{lo hi:Option Expr}{tl th:DTO}{p2:Pos}(he:DE X e te)(hl:PO X lo (Ed X.K tl))(hu:PO X hi (Ed X.K th)):DE X (.Subscript e (.Slice lo hi none p2) pos) (dSl te tl th):=by
 refine PE.imp (xc sld he hl hu) ?_
 rintro σ H R ⟨S,M,ρ,Q,s,sr,q,k⟩
 refine⟨S,M,ρ,_,s,sr,q,?_⟩
 rintro v H1 ⟨d,M1,ρ1,s1,g1,r1,q1⟩
 refine⟨S,M1,ρ1,_,s1,sr.grow g1,q1,?_⟩
 rintro l H2 ⟨M2,ρ2,s2,g2,q2⟩
 refine⟨S,M2,ρ2,_,s2,sr.grow (g1.trans g2),q2,?_⟩
 rintro u H3 ⟨M3,ρ3,s3,g3,q3⟩
 exact⟨d,M3,ρ3,Q,s3,r1.grow (g2.trans g3),q3,λv H' w=>k v H' (VQ.trans ((g1.trans g2).trans g3) w)⟩
def fQ:DR2:=λx y M Q=>match x,y with
 | .int i,.int j=>CMul i j/\Q (.int (i*j)) M
 | .str z,.int n=>(0<=n/\n<2 ^ 63/\z.length*n.toNat<=sizeLine)/\Q (.str (Txt.mul z n)) M
 | _,_=>False
theorem nL(h0:0<=n)(h:z.length*n.toNat<=sizeLine)(hn:n<2 ^ 63):MulOk z n:=by
 refine⟨?_,λh1 h2=>?_,λh1 h2=>?_⟩
 ·have e1:decide (n < -(2 ^ 63:Int))=false:=dF_ (by lia)
  have e2:decide (n ≥ 2 ^ 63)=false:=dF_ (by lia)
  rw[e1,e2]
  rfl
 ·have hz:(z.length:Int)*n<=2 ^ 24:=by
   have e:((z.length*n.toNat:Nat):Int)=(z.length:Int)*n:=by
    rw[Int.natCast_mul,Int.toNat_of_nonneg h0]
   have h':((z.length*n.toNat:Nat):Int)<=(2 ^ 24:Nat):=Int.ofNat_le.mpr h
   rw[e]at h'
   exact h'
  have hpos:0<n:=by lia
  intro hgt
  have:=Int.lt_of_lt_of_le (Int.lt_mul_of_ediv_lt hpos hgt) hz
  lia
 ·unfold PySem.Builtin.Str.tooLong
  simpa using h
theorem Ax:OpD X (binaryOp .Mult) fQ:=by
 rintro pins s σ H vx vy v u R I rx ry ⟨x,y,M,ρ,Q,sm,r1,r2,q,k⟩
 unfold fQ at q
 split at q
 ·cases r1
  cases r2
  exact DM pins s σ H _ _ v u R I rx ry ⟨_,_,rfl,rfl,q.1,k _ H (VQ.now sm (.int _) q.2)⟩
 ·rename_i z n
  cases r1
  cases r2
  obtain⟨t,rfl⟩:=rx
  obtain⟨t',rfl⟩:=ry
  obtain⟨⟨h0,h2,h1⟩,q⟩:=q
  exact PySem.SB.mul (nL h0 h1 h2) λt' j=>⟨.str _,H,I.tok j,⟨t',rfl⟩,k _ H (VQ.now sm (.str _) q)⟩
 ·exact q.elim
variable{o e:Expr}{es:List Expr}{to:DTE}{t:DTA}{name:Str}{apos cpos:Pos}{id:String}
def xt(K:AA1)(r:Str->DRA):V->List V->Hp->VK->Prop:=λvx vs H R=>∃z ds M ρ Q,vx=.str z/\Sim K ρ M H/\Reps K ρ H ds vs/\r z ds M Q/\∀v H',VQ K ρ H Q v H'->R v H'
def nR(K:AA1)(r:Nat->DRA):V->List V->Hp->VK->Prop:=λvx vs H R=>∃n a ds M ρ Q,vx=.ref a/\ρ[n]?=some a/\Sim K ρ M H/\Reps K ρ H ds vs/\r n ds M Q/\∀v H',VQ K ρ H Q v H'->R v H'
def dMs(r:Str->DRA)(to:DTE)(t:DTA):DTE:=λS M Q=>to S M λx M1=>match x with
 | .str z=>t S M1 λds M2=>r z ds M2 Q
 | _=>False
def dMl(r:Nat->DRA)(to:DTE)(t:DTA):DTE:=λS M Q=>to S M λx M1=>match x with
 | .ref n=>(∃xs,ap M1 n xs)/\t S M1 λds M2=>r n ds M2 Q
 | _=>False
theorem d_ms(slot:Slot "str" name id)(hty:typeOf (.builtin id)=pure (.type "method_descriptor"))(hm:MtR X id (xt X.K r))(ho:DE X o to)(ha:DA X (e::es) t)
  (hbase:attributeBase o name X.env (eval o X.env)=eval o X.env:=by rfl)
  (hfew:((backTo cpos (starEach (e::es) X.env)).all (λx=>!x.1)&&(backToKw cpos (keywordEach [] X.env)).all (λx=>x.1.isSome)
   && decide ((e::es).length+([]:List Keyword).length+(if ([]:List Keyword).isEmpty then 0 else 1)<30))=true:=by rfl)
  (hline:(apos.endLine==cpos.line)=true:=by rfl) (hs:starEach (e::es) X.env=(false,eval e X.env)::starEach es X.env:=by rfl) (hplain:(backTo cpos (starEach es X.env)).any (·.1)=false:=by rfl) :
  DE X (.Call (.Attribute o name apos) (e::es) [] cpos) (dMs r to t):=by
 refine PE.imp (DB PySem.F.plainAttrs_str slot hty hm ho ha hbase hfew hline hs hplain) ?_
 rintro σ H R ⟨S,M,ρ,Q,s,sr,q,k⟩
 refine⟨S,M,ρ,_,s,sr,q,?_⟩
 rintro v H1 ⟨d,M1,ρ1,s1,g1,r1,q1⟩
 cases r1 with
 | str z=>exact⟨rfl,S,M1,ρ1,_,s1,sr.grow g1,q1,λvs H2 ⟨ds,M2,ρ2,s2,g2,r2,q2⟩=>⟨z,ds,M2,ρ2,Q,rfl,s2,r2,q2,λv H' w=>k v H' (VQ.trans (g1.trans g2) w)⟩⟩
 | _=>exact q1.elim
theorem d_ml(slot:Slot "list" name id)(hty:typeOf (.builtin id)=pure (.type "method_descriptor"))(hm:MtR X id (nR X.K r))(ho:DE X o to)(ha:DA X (e::es) t)
  (hbase:attributeBase o name X.env (eval o X.env)=eval o X.env:=by rfl)
  (hfew:((backTo cpos (starEach (e::es) X.env)).all (λx=>!x.1)&&(backToKw cpos (keywordEach [] X.env)).all (λx=>x.1.isSome)
   && decide ((e::es).length+([]:List Keyword).length+(if ([]:List Keyword).isEmpty then 0 else 1)<30))=true:=by rfl)
  (hline:(apos.endLine==cpos.line)=true:=by rfl) (hs:starEach (e::es) X.env=(false,eval e X.env)::starEach es X.env:=by rfl) (hplain:(backTo cpos (starEach es X.env)).any (·.1)=false:=by rfl) :
  DE X (.Call (.Attribute o name apos) (e::es) [] cpos) (dMl r to t):=by
 refine PE.imp (DB PySem.F.plainAttrs_list slot hty hm ho ha hbase hfew hline hs hplain) ?_
 rintro σ H R ⟨S,M,ρ,Q,s,sr,q,k⟩
 refine⟨S,M,ρ,_,s,sr,q,?_⟩
 rintro v H1 ⟨d,M1,ρ1,s1,g1,r1,q1⟩
 cases r1 with
 | @ref n a hn =>
  obtain⟨⟨xs,hL⟩,q1⟩:=(show (∃xs,ap M1 n xs)/\t S M1 _ from q1)
  obtain⟨vs,hq,_⟩:=ap.seq s1 hL hn
  refine⟨.inl ⟨rfl,vs,hq⟩,S,M1,ρ1,_,s1,sr.grow g1,q1,?_⟩
  rintro vs H2 ⟨ds,M2,ρ2,s2,g2,r2,q2⟩
  exact⟨n,a,ds,M2,ρ2,Q,rfl,aL g2.pre hn,s2,r2,q2,λv H' w=>k v H' (VQ.trans (g1.trans g2) w)⟩
 | _=>exact q1.elim
def bO(n:Nat):DRA:=λds M Q=>match ds with
 | [d]=>∃xs,M[n]?=some (.lst xs)/\xs.length<sizeLine/\Q .non (M.set n (.lst (xs++[d])))
 | _=>False
theorem rp:MtR X "list.append" (nR X.K bO):=by
 rintro pins s σ H x xs v us R I rx rs ⟨n,a,ds,M,ρ,Q,ez,hn,sm,rr,q,k⟩
 unfold bO at q
 split at q
 ·rename_i d
  obtain⟨ys,e,hl,q⟩:=q
  first | have hzz:=Reps.inv_cons rr | have hzz:=ay.inv_cons rr
  clear rr
  obtain⟨_,_,rfl,r1,rr⟩:=hzz
  cases rr
  obtain⟨vs,hH,r⟩:=sm.obj n a _ hn e
  obtain⟨w1,w2⟩:=sm.write hn e hH (r.append (.cons r1 .nil))
  exact uz pins s σ H x _ v us R I rx rs ⟨a,vs,_,ez,rfl,hH,by rw[<-r.length];exact hl,k _ _ ⟨.non,_,ρ,w1,w2,.non,q⟩⟩
 ·exact q.elim
end
def cS(K:AA1)(mg:Str->Option Value)(x:Str)(st:Stmt)(ps:List Str):Prop :=
 ∃f fd,Fun K x x st f fd/\mg x=some (.ref f)/\fV K fd ps []
def Cal(P:Program)(w:World)(K:AA1)(mg:Str->Option Value)(base:Heap)(k:Nat)(x:Str)(ps:List Str)(Pr:DSp):Prop :=
 ∃f fd,FnOk P w K mg base CX0 k f fd ps (spL K Pr)/\mg x=some (.ref f)/\ABk K (.ref f)=true/\fV K fd ps []
theorem fnat_mk{K:AA1}{h:Heap}{mg:Str->Option Value}{x:Str}{st:Stmt}{ps:List Str}{f:Addr}{oc:Value}{od an:Option Addr}{osl:Array (Option Value)}{kV doc pm cdv ct:Value}
  (X:K.In h) (G:h.Ns mainGlobals mg) (a:ABA K mainGlobals x=some (some (.ref f)))
  (l:K.lookup f=some ⟨oc,od,.func (AC6 x x (cE st) (aU st) (ar st) .none kV doc pm an cdv ct),osl⟩)
  (c:ADw K cdv x=true) (k:ABk K (.ref f)=true)
  (h:∀(kV doc pm:Value) (an:Option Addr) (cdv ct:Value) (us:List Value),us.length=ps.length->bindArgs (AC6 x x (cE st) (aU st) (ar st) .none kV doc pm an cdv ct) ⟨us,[]⟩=pure (ps.zip us)):cS K mg x st ps :=
 have F:=zg (st:=st) l c k
 ⟨f,_,F,AEc X G a,F.binds h⟩
theorem Cal.of{P:Program}{w:World}{K:AA1}{mg:Str->Option Value}{base:Heap}{x:Str}{st:Stmt}{N ps:List Str}{k:Nat}{Pr:DSp}(F:cS K mg x st ps)(Sc:FnScope N ps (ar st))
  (len:∀ds M R,Pr ds M R->ds.length=ps.length) {t:DTS}
  (der:∀(f:Addr) (cdv:Value) (A:Around) (outer:List Env) (s:Shared) (H:Hp) (E:XK),Room k (A.deeper (envOfC x (ar st) s.heap.objs.size f cdv))->DSs (iE CX0 P w K mg base N x (ar st) f cdv A outer s H E).nox (aU st) t)
  (wp:∀ds M R,Pr ds M R->t ⟨λ_ M'=>cj M R .non M',cj M R,λ_ _=>False,λ_ _=>False⟩ (cc N ds) M):Cal P w K mg base (k+1) x ps Pr:=by
 obtain⟨f,fd,F1,hm,hb⟩:=F
 exact⟨f,fd,d_fn Pr F1 Sc len λcdv A outer s H E hr=>⟨t,der f cdv A outer s H E hr,wp⟩,hm,F1.kp,hb⟩
theorem BH{P:Program}{w:World}{K:AA1}{mg:Str->Option Value}{base:Heap}{x:Str}{st:Stmt}{N ps:List Str}{k:Nat}{Pr:DSp}{f:Addr}{fd:FuncData}(F:Fun K x x st f fd)(Sc:FnScope N ps (ar st))
  (len:∀ds M R,Pr ds M R->ds.length=ps.length) {t:DTS}
  (der:∀(f:Addr) (cdv:Value) (A:Around) (outer:List Env) (s:Shared) (H:Hp) (E:XK),Room k (A.deeper (envOfC x (ar st) s.heap.objs.size f cdv))->DSs (iE CX0 P w K mg base N x (ar st) f cdv A outer s H E).nox (aU st) t)
  (wp:∀ds M R,Pr ds M R->t ⟨λ_ M'=>cj M R .non M',cj M R,λ_ _=>False,λ_ _=>False⟩ (cc N ds) M):FnOk P w K mg base CX0 (k+1) f fd ps (spL K Pr) :=
 d_fn Pr F Sc len λcdv A outer s H E hr=>⟨t,der f cdv A outer s H E hr,wp⟩
theorem FnOk.more{P:Program}{w:World}{K:AA1}{mg:Str->Option Value}{base:Heap}{CX:CXT}{j k:Nat}{f:Addr}{fd:FuncData}{ps:List Str}{sp:Sp}(F:FnOk P w K mg base CX j f fd ps sp)(h:j<=k):FnOk P w K mg base CX k f fd ps sp :=
 ⟨F.len,λA outer s H args us vs Q E hr=>F.run A outer s H args us vs Q E (hr.mono h)⟩
theorem d_cal(C:Cal X.prog X.w X.K X.mg X.base j x ps P)(hr:Room k X.A)(ha:DA X (e::es) t)(hj:j<=k:=by decide)
  (hg:Gl X x:=by rfl) (hdb:(x==("__debug__":Str))=false:=by decide) (he:starEach (e::es) X.env=(false,eval e X.env)::starEach es X.env:=by rfl) (hpl:(backTo pos (starEach es X.env)).any (·.1)=false:=by rfl) :
  DE X (.Call (.Name x p) (e::es) [] pos) (dCB P t):=by
 obtain⟨f,fd,F,hm,hk,hb⟩:=C
 exact FC F (hr.mono hj) hm hk hb ha hg hdb he hpl
def AR:DSp:=λds M R=>∃(ns:List Int) (mo:MO),ns.length<=63/\(mo.items=ns.map D.int/\mo.isL=true)/\ds=[.ref 0]/\M=[mo]/\∀M',R (.bl true) M'
theorem lM(h:M[n]?=some mo)(hl:mo.isL=true):ap M n mo.items:=by
 cases mo with
 | lst xs=>exact .inl h
 | fz xs=>exact .inr (.inl h)
 | kl xs=>exact .inr (.inr h)
 | dct xs=>cases hl
 | dkt xs=>cases hl
 | dkq _ xs=>cases hl
 | fdc o xs=>cases hl
 | dkm xs=>cases hl
 | tb x b=>cases hl
 | exc x e=>cases hl
 | ins c fs=>cases hl
 | tl x p q e=>cases hl
theorem eF{K:AA1}{ρ:List Addr}{H:Hp}:∀(ns:List Int),Reps K ρ H (ns.map D.int) (ns.map V.int)
 | []=>.nil
 | n::ns=>.cons (.int n) (eF ns)
theorem rE{K:AA1}{H:Hp}{a:Addr}{ns:List Int}(hl:ns.length<=63)(hS:SqL K H a (ns.map V.int)):spL K AR [.ref a] H (λv _=>v=.bl true) λ_ _ _=>False:=by
 have one:∀{mo:MO},mo.items=ns.map D.int/\mo.isL=true->se K [a] H a mo->spL K AR [.ref a] H (λv _=>v=.bl true) λ_ _ _=>False:=λ{mo} e ok=>by
  refine⟨[.ref 0],[mo],[a],λd _=>d=.bl true,⟨λn m b hne e1 e2=>?_,rfl,λn b mo' e1 e2=>?_⟩,.cons (.ref rfl) .nil,⟨ns,mo,hl,e,rfl,rfl,λ_=>rfl⟩,λv H' ⟨d,M',ρ',_,_,r,q⟩=>?_⟩
  ·have h1:=(AA5.mp e1).1
   have h2:=(AA5.mp e2).1
   simp at h1 h2
   lia
  ·have h1:=(AA5.mp e1).1
   simp at h1
   subst h1
   simp at e1 e2
   subst e1 e2
   exact ok
  ·have q':d=.bl true:=q
   subst q'
   cases r
   rfl
 rcases hS with(h | ⟨o,h⟩) | h
 ·exact one (mo:=.lst _) ⟨rfl,rfl⟩ ⟨_,h,eF ns⟩
 ·exact one (mo:=.fz _) ⟨rfl,rfl⟩ ⟨o,_,h,eF ns⟩
 ·exact one (mo:=.kl _) ⟨rfl,rfl⟩ ⟨_,h,eF ns⟩
theorem law_walk{l:PySem.W.OpenLaw}{q:Program}{loose:List Str}{XP:(Str->Option Value)->Heap->Prop}{YP:World->Heap->Prop}{d:DefRec}{K:Params->AA1}{k:Nat}{st:Stmt}{x:Str}(hn:l.most=some 63)(hdf:d.params.defaults=[])(hd:d.name = "law")(hr:Room k callerA)
  (hY:∀(w:World) (h:Heap),YP w h->(K w.params).In h)
  (F:∀(w:World) (mg:Str->Option Value) (h:Heap),(K w.params).In h->h.Ns mainGlobals mg->cS (K w.params) mg "law" st [x] /\
   ∀(base:Heap) (f:Addr) (fd:FuncData),Fun (K w.params) "law" "law" st f fd->FnOk l.prog w (K w.params) mg base CX0 k f fd [x] (spL (K w.params) AR))
  (hb:∀(kV doc pm:Value) (an:Option Addr) (cdv ct:Value) (u:Value),bindArgs (AC6 "law" "law" (cE st) (aU st) (ar st) .none kV doc pm an cdv ct) ⟨[u],[]⟩=pure [(x,u)]) :
  PySem.W.WalkO q loose XP YP l.row.toRowW d [] (λf vs=>PySem.call f vs):=by
 refine L2.walk_of (n:=63) (k:=k) (x:=x) (CX:=λ_=>CX0) (sp:=λw=>spL (K w.params) AR) hn (by decide) hdf hr hY (λw mg fa h KX G hmg=>?_) (λw H a ns hl _ hS=>rE hl hS) λ_ _ _ _ _ z=>z
 rw[hd]at hmg
 obtain⟨⟨f,fd,F1,hm,_⟩,C⟩:=F w mg h KX G
 have e:=hmg.symm.trans hm
 cases e
 have C':=λbase=>C base _ _ F1
 obtain⟨oc,od,kV,doc,pm,an,cdv,ct,osl,rfl,lk,hcd⟩:=id F1.ex
 exact⟨_,λs v=>.of_eq (hb kV doc pm an cdv ct v),λbase _ _=>C' base⟩
noncomputable def jo(nm:List (Str×NameKind))(N N':List Str)(nt:Nat)(js:List Nat)(sc:Scope):Bool :=
 sc.kind==.function&&sc.names.all (λy=>y.2 != .cell&&(y.2 != .local||sc.names.lookup y.1==some .local)&&(y.2 != .free||(nm.lookup y.1==some .cell||nm.lookup y.1==some .free))) &&
 N'.length==nt+js.length&&(AAx js.length).all λk=>match js[k]?,N'[nt+k]? with
  | some j,some x=>N[j]?==some x&&sc.names.lookup x==some .free&&(nm.lookup x==some .cell||nm.lookup x==some .free)
  | _,_=>false
theorem BlkSc.chk(h:jo X.env.scope.names X.N N' nt js scope=true):BlkSc X N' nt js scope:=by
 unfold jo at h
 simp only[AAK,AAb,beq_iff_eq,Bool.or_eq_true,bne_iff_ne]at h
 obtain⟨⟨⟨h1,h2⟩,h3⟩,h4⟩:=h
 refine⟨h1,λy hy=>(h2 y hy).1.1,λy hy e=>((h2 y hy).1.2.resolve_left (λz=>z e)),λy hy e=>((h2 y hy).2.resolve_left (λz=>z e)),h3,λk j e=>?_⟩
 have hk:k<js.length:=(AA5.mp e).1
 have q:=h4 k (ABV.mpr hk)
 rw[e]at q
 cases f:N'[nt+k]? with
 | none=>rw[f]at q;exact absurd q (by simp)
 | some x =>
  rw[f]at q
  simp only[AAK,beq_iff_eq,Bool.or_eq_true]at q
  exact⟨x,rfl,q.1.1,q.1.2,q.2⟩
noncomputable def eqL(f:D->D->Bool):List D->List D->Bool
 | [],[]=>true
 | x::xs,y::ys=>f x y&&eqL f xs ys
 | _,_=>false
noncomputable def eqD(M:Mem):Nat->D->D->Bool
 | _,.non,.non=>true
 | _,.bl a,.bl b=>a==b
 | _,.bl a,.int b=>(if a then 1 else 0)==b
 | _,.int a,.bl b=>a==(if b then 1 else 0)
 | _,.int a,.int b=>a==b
 | _,.str a,.str b=>a==b
 | n+1,.tup xs,.tup ys=>eqL (eqD M n) xs ys
 | n+1,.ref i,.ref j=>match M[i]?,M[j]? with
  | some a,some b=>eqL (eqD M n) a.items b.items
  | _,_=>false
 | _,_,_=>false
noncomputable def okD(M:Mem):Nat->D->Bool
 | _,.ty _=>false
 | n+1,.tup xs=>xs.all (okD M n)
 | n+1,.ref i=>match M[i]? with
  | some a=>a.isL&&a.items.all (okD M n)
  | none=>false
 | 0,.tup _=>false
 | 0,.ref _=>false
 | _,_=>true
theorem vP:∀{xs ys:List D},eqL f xs ys=true->xs.length=ys.length
 | [],[],_=>rfl
 | [],_::_,h=>by simp[eqL]at h
 | _::_,[],h=>by simp[eqL]at h
 | x::xs,y::ys,h=>by
  simp only[eqL,AAK]at h
  rw[AAG,AAG,vP h.2]
theorem wz(n:Nat)(e:Nat->Bool):(AAx (n+1)).all e=(e 0&&(AAx n).all λj=>e (j+1)):=by
 rw[List.range_succ_eq_map,ABY,List.all_map]
 rfl
theorem iw:∀{xs ys:List D}{e:Nat->Bool},xs.length=ys.length->(∀(j:Nat) x y,xs[j]?=some x->ys[j]?=some y->e j=f x y)->(AAx xs.length).all e=eqL f xs ys
 | [],[],e,_,_=>by simp[eqL]
 | [],_::_,_,h,_=>by simp at h
 | _::_,[],_,h,_=>by simp at h
 | x::xs,y::ys,e,h,he=>by
  rw[AAG,wz,eqL,he 0 x y rfl rfl,iw (by simpa using h) λj x' y' h1 h2=>he (j+1) x' y' (by simpa using h1) (by simpa using h2)]
theorem vN(h:xs.length≠ys.length):eqL f xs ys=false:=by
 cases q:eqL f xs ys with
 | false=>rfl
 | true=>exact absurd (vP q) h
theorem fW{vs:List V}{us:List Value}(h:ay vs us){j:Nat}{v:V}(e:vs[j]?=some v):∃u,us[j]?=some u/\aR v u:=by
 induction h generalizing j with
 | nil=>simp at e
 | cons r _ ih =>
  cases j with
  | zero=>simp at e;subst e;exact⟨_,rfl,r⟩
  | succ j=>exact ih (by simpa using e)
section
variable{X:Cx}{pins:List (Addr×Obj)}{σ:St}{H:Hp}{s:Shared}{ρ:List Addr}{M:Mem}
theorem pS(I:Inv X pins σ H s)(sm:Sim X.K ρ M H){i:Nat}{a:Addr}{mo:MO}(e:ρ[i]?=some a)(hm:M[i]?=some mo)(hl:mo.isL=true):∃vs its,SqL X.K H a vs/\Reps X.K ρ H mo.items vs/\ay vs its/\PlainL s.heap a its.toArray:=by
 obtain⟨vs,hq,r⟩:=ap.seq sm (lM hm hl) e
 obtain⟨its,rr,pl,_⟩:=I.list hq
 exact⟨vs,its,hq,r,rr,pl⟩
theorem fy(hm:M[i]?=some mo)(o:okD M (n+1) (.ref i)=true):mo.isL=true/\mo.items.all (okD M n)=true:=by
 have o':(match M[i]? with | some a=>a.isL&&a.items.all (okD M n) | none=>false)=true:=o
 rw[hm]at o'
 exact(AAK _ _).mp o'
theorem yb(I:Inv X pins σ H s)(sm:Sim X.K ρ M H):∀(n:Nat) (x y:D) (v:V),Rep X.K ρ H x v->Rep X.K ρ H y v->okD M n x=true->okD M n y=true->eqD M n x y=true:=by
 have all:∀(n:Nat),(∀(x y:D) (v:V),Rep X.K ρ H x v->Rep X.K ρ H y v->okD M n x=true->okD M n y=true->eqD M n x y=true) ->
   ∀(xs ys:List D) (vs:List V),Reps X.K ρ H xs vs->Reps X.K ρ H ys vs->xs.all (okD M n)=true->ys.all (okD M n)=true->eqL (eqD M n) xs ys=true:=by
  intro n ih xs
  induction xs with
  | nil=>intro ys vs h1 h2 _ _;cases h1;cases h2;rfl
  | cons x xs hi =>
   intro ys vs h1 h2 o1 o2
   cases h1 with
   | cons r1 t1 =>
    cases h2 with
    | cons r2 t2 =>
     rw[ABY,AAK]at o1 o2
     rw[eqL,ih _ _ _ r1 r2 o1.1 o2.1,hi _ _ t1 t2 o1.2 o2.2]
     rfl
 intro n
 induction n with
 | zero =>
  intro x y v h1 h2 o1 o2
  cases h1<;>cases h2<;>first | (simp[okD]at o1;done) | rfl | simp[eqD]
 | succ n ih =>
  intro x y v h1 h2 o1 o2
  cases h1 with
  | non=>cases h2;rfl
  | bl b=>cases h2;simp[eqD]
  | int b=>cases h2;simp[eqD]
  | str b=>cases h2;simp[eqD]
  | ty b=>simp[okD]at o1
  | @tup a vs ds hq r =>
   cases h2 with
   | tup hq' r' =>
    have e:=I.tuple_inj hq hq'
    subst e
    exact all n ih _ _ _ r r' (by simpa [okD]using o1) (by simpa [okD]using o2)
   | @ref i _ e =>
    exfalso
    obtain⟨its,_,⟨o,e1,e2,_⟩,_⟩:=I.tuple hq
    have hi:i<M.length:=by rw[<-sm.len];exact(AA5.mp e).1
    obtain⟨vs',its',_,_,_,⟨o',n',f1,f2,_⟩⟩:=pS I sm e (AA7 hi) (fy (AA7 hi) o2).1
    rw[e1]at f1;cases f1
    rw[e2]at f2;injection f2 with f3;exact absurd f3 (by decide)
  | @ref i a e =>
   have hi:i<M.length:=by rw[<-sm.len];exact(AA5.mp e).1
   have hm:=AA7 hi
   obtain⟨vs,its,hq,r,rr,pl⟩:=pS I sm e hm (fy hm o1).1
   cases h2 with
   | tup hq' r' =>
    exfalso
    obtain⟨its',_,⟨o,e1,e2,_⟩,_⟩:=I.tuple hq'
    obtain⟨o',n',f1,f2,_⟩:=pl
    rw[e1]at f1;cases f1
    rw[e2]at f2;injection f2 with f3;exact absurd f3 (by decide)
   | @ref j _ e' =>
    have hj:j<M.length:=by rw[<-sm.len];exact(AA5.mp e').1
    have hm':=AA7 hj
    obtain⟨vs',its',hq',r',rr',pl'⟩:=pS I sm e' hm' (fy hm' o2).1
    have ev:vs=vs':=I.list_inj hq hq'
    subst ev
    have o1':=(fy hm o1).2
    have o2':=(fy hm' o2).2
    simp only[eqD,hm,hm']
    exact all n ih _ _ _ r r' o1' o2'
theorem mj(I:Inv X pins σ H s)(sm:Sim X.K ρ M H):∀(n:Nat) (A:Around) (x y:D) (vx vy:V) (u v:Value),A.units+n<cLine->Rep X.K ρ H x vx->aR vx u->Rep X.K ρ H y vy->aR vy v->okD M n x=true->okD M n y=true ->
  AD3 A s u v (eqD M n x y)/\SeqAt.RcAt A s u v (eqD M n x y)/\SeqAt.RcNeAt A s u v (!eqD M n x y):=by
 intro n
 induction n with
 | zero =>
  intro A x y vx vy u v hu r1 e1 r2 e2 o1 o2
  cases r1 with
  | ty b=>simp[okD]at o1
  | tup b=>simp[okD]at o1
  | ref b=>simp[okD]at o1
  | non =>
   cases e1
   cases r2 with
   | ty b=>simp[okD]at o2
   | tup b=>simp[okD]at o2
   | ref b=>simp[okD]at o2
   | non=>cases e2;exact⟨AEH _,SeqAt.RcAt.none_none,SeqAt.RcNeAt.none_none⟩
   | bl b=>cases e2;exact⟨SeqAt.EqAt.none_bool _,SeqAt.RcAt.none_bool _,SeqAt.RcNeAt.none_bool _⟩
   | int b=>obtain⟨t,rfl⟩:=e2;exact⟨SeqAt.EqAt.none_int _ _,SeqAt.RcAt.none_int _ _,SeqAt.RcNeAt.none_int _ _⟩
   | str b=>obtain⟨t,rfl⟩:=e2;exact⟨SeqAt.EqAt.none_str _ _,SeqAt.RcAt.none_str _ _,SeqAt.RcNeAt.none_str _ _⟩
  | bl a =>
   cases e1
   cases r2 with
   | ty b=>simp[okD]at o2
   | tup b=>simp[okD]at o2
   | ref b=>simp[okD]at o2
   | non=>cases e2;exact⟨SeqAt.EqAt.bool_none _,SeqAt.RcAt.bool_none _,SeqAt.RcNeAt.bool_none _⟩
   | bl b=>cases e2;exact⟨SeqAt.EqAt.bool_bool _ _,SeqAt.RcAt.bool_bool _ _,SeqAt.RcNeAt.bool_bool _ _⟩
   | int b=>obtain⟨t,rfl⟩:=e2;exact⟨SeqAt.EqAt.bool_int _ _ _,SeqAt.RcAt.bool_int _ _ _,SeqAt.RcNeAt.bool_int _ _ _⟩
   | str b=>obtain⟨t,rfl⟩:=e2;exact⟨SeqAt.EqAt.bool_str _ _ _,SeqAt.RcAt.bool_str _ _ _,SeqAt.RcNeAt.bool_str _ _ _⟩
  | int a =>
   obtain⟨t0,rfl⟩:=e1
   cases r2 with
   | ty b=>simp[okD]at o2
   | tup b=>simp[okD]at o2
   | ref b=>simp[okD]at o2
   | non=>cases e2;exact⟨SeqAt.EqAt.int_none _ _,SeqAt.RcAt.int_none _ _,SeqAt.RcNeAt.int_none _ _⟩
   | bl b=>cases e2;exact⟨SeqAt.EqAt.int_bool _ _ _,SeqAt.RcAt.int_bool _ _ _,SeqAt.RcNeAt.int_bool _ _ _⟩
   | int b=>obtain⟨t,rfl⟩:=e2;exact⟨ACr _ _ _ _,SeqAt.RcAt.int_int _ _ _ _,SeqAt.RcNeAt.int_int _ _ _ _⟩
   | str b=>obtain⟨t,rfl⟩:=e2;exact⟨ACp _ _ _ _,SeqAt.RcAt.int_str _ _ _ _,SeqAt.RcNeAt.int_str _ _ _ _⟩
  | str a =>
   obtain⟨t0,rfl⟩:=e1
   cases r2 with
   | ty b=>simp[okD]at o2
   | tup b=>simp[okD]at o2
   | ref b=>simp[okD]at o2
   | non=>cases e2;exact⟨SeqAt.EqAt.str_none _ _,SeqAt.RcAt.str_none _ _,SeqAt.RcNeAt.str_none _ _⟩
   | bl b=>cases e2;exact⟨SeqAt.EqAt.str_bool _ _ _,SeqAt.RcAt.str_bool _ _ _,SeqAt.RcNeAt.str_bool _ _ _⟩
   | int b=>obtain⟨t,rfl⟩:=e2;exact⟨ACq _ _ _ _,SeqAt.RcAt.str_int _ _ _ _,SeqAt.RcNeAt.str_int _ _ _ _⟩
   | str b=>obtain⟨t,rfl⟩:=e2;exact⟨ADV _ _ _ _,SeqAt.RcAt.str_str _ _ _ _,SeqAt.RcNeAt.str_str _ _ _ _⟩
 | succ n ih =>
  intro A x y vx vy u v hu r1 e1 r2 e2 o1 o2
  have hu0:A.units<cLine:=by lia
  have hu1:A.in1.units+n<cLine:=by show A.units+1+n<cLine;lia
  -- what a list or a tuple is,as the heap has it
  have tupAt:∀{a:Addr}{vs:List V}{ds:List D},SqT X.K H a vs->Reps X.K ρ H ds vs->∃its:List Value,ay vs its/\s.heap.IsTuple a its.toArray/\ds.length=its.length:=λ{a vs ds} hq r=>by
   obtain⟨its,rr,pl,_⟩:=I.tuple hq
   exact⟨its,rr,pl,r.length.trans rr.length⟩
  have lstAt:∀{i:Nat}{a:Addr},ρ[i]?=some a->okD M (n+1) (.ref i)=true->∃mo,M[i]?=some mo/\∃vs its,Reps X.K ρ H mo.items vs/\ay vs its/\s.heap.IsList a its.toArray/\mo.items.length=its.length:=λ{i a} e ok=>by
   have hi:i<M.length:=by rw[<-sm.len];exact(AA5.mp e).1
   have hm:=AA7 hi
   obtain⟨vs,its,hq,r,rr,pl⟩:=pS I sm e hm (fy hm ok).1
   exact⟨_,hm,vs,its,r,rr,pl.isList,r.length.trans rr.length⟩
  have items:∀{xs ys:List D}{vs ws:List V}{its jts:List Value},Reps X.K ρ H xs vs->ay vs its->Reps X.K ρ H ys ws->ay ws jts->xs.all (okD M n)=true->ys.all (okD M n)=true ->
    ∀(j:Nat) (h1:j<its.toArray.size) (h2:j<jts.toArray.size),AD3 A.in1 s its.toArray[j] jts.toArray[j] (eqD M n (xs.getD j .non) (ys.getD j .non)):=λ{xs ys vs ws its jts} r1 q1 r2 q2 o1 o2 j h1 h2=>by
   have l1:j<xs.length:=by rw[r1.length,q1.length];simpa using h1
   have l2:j<ys.length:=by rw[r2.length,q2.length];simpa using h2
   obtain⟨v1,g1,p1⟩:=r1.get (AA7 l1)
   obtain⟨v2,g2,p2⟩:=r2.get (AA7 l2)
   obtain⟨u1,k1,m1⟩:=fW q1 g1
   obtain⟨u2,k2,m2⟩:=fW q2 g2
   have z1:its.toArray[j]=u1:=by
    have:=(AA5.mp k1).2
    simpa using this
   have z2:jts.toArray[j]=u2:=by
    have:=(AA5.mp k2).2
    simpa using this
   rw[z1,z2]
   have y1:xs.getD j .non=xs[j]:=by simp[List.getD,AA7 l1]
   have y2:ys.getD j .non=ys[j]:=by simp[List.getD,AA7 l2]
   rw[y1,y2]
   exact(ih A.in1 _ _ _ _ _ _ hu1 p1 m1 p2 m2 (AAb.mp o1 _ (AAy l1)) (AAb.mp o2 _ (AAy l2))).1
  have rng:∀(xs ys:List D),xs.length=ys.length->(AAx xs.length).all (λj=>eqD M n (xs.getD j .non) (ys.getD j .non))=eqL (eqD M n) xs ys:=λxs ys h=>iw h λj x y h1 h2=>by
   simp[List.getD,h1,h2]
  have fin:∀{a b:Addr}{k:Bool},Rep X.K ρ H x (.ref a)->Rep X.K ρ H y (.ref b)->eqD M (n+1) x y=k->SeqAt.RcAt A s (.ref a) (.ref b) k->SeqAt.RcNeAt A s (.ref a) (.ref b) (!k) ->
    AD3 A s (.ref a) (.ref b) (eqD M (n+1) x y)/\SeqAt.RcAt A s (.ref a) (.ref b) (eqD M (n+1) x y)/\SeqAt.RcNeAt A s (.ref a) (.ref b) (!eqD M (n+1) x y):=λ{a b k} p1 p2 ek h1 h2=>by
   subst ek
   refine⟨?_,h1,h2⟩
   by_cases hab:a=b
   ·subst hab
    rw[yb I sm (n+1) x y _ p1 p2 o1 o2]
    exact AEH _
   ·exact SeqAt.EqAt.of_refs hab h1
  cases r1 with
  | ty b=>simp[okD]at o1
  | non =>
   cases e1
   cases r2 with
   | ty b=>simp[okD]at o2
   | tup hq r=>cases e2;obtain⟨its,rr,pl,_⟩:=tupAt hq r;exact⟨SeqAt.EqAt.none_tuple pl hu0,SeqAt.RcAt.none_tuple pl hu0,SeqAt.RcNeAt.none_tuple pl hu0⟩
   | ref e=>cases e2;obtain⟨mo,hm,vs,its,r,rr,pl,_⟩:=lstAt e o2;exact⟨SeqAt.EqAt.none_list pl hu0,SeqAt.RcAt.none_list pl hu0,SeqAt.RcNeAt.none_list pl hu0⟩
   | non=>cases e2;exact⟨AEH _,SeqAt.RcAt.none_none,SeqAt.RcNeAt.none_none⟩
   | bl b=>cases e2;exact⟨SeqAt.EqAt.none_bool _,SeqAt.RcAt.none_bool _,SeqAt.RcNeAt.none_bool _⟩
   | int b=>obtain⟨t,rfl⟩:=e2;exact⟨SeqAt.EqAt.none_int _ _,SeqAt.RcAt.none_int _ _,SeqAt.RcNeAt.none_int _ _⟩
   | str b=>obtain⟨t,rfl⟩:=e2;exact⟨SeqAt.EqAt.none_str _ _,SeqAt.RcAt.none_str _ _,SeqAt.RcNeAt.none_str _ _⟩
  | bl a =>
   cases e1
   cases r2 with
   | ty b=>simp[okD]at o2
   | tup hq r=>cases e2;obtain⟨its,rr,pl,_⟩:=tupAt hq r;exact⟨SeqAt.EqAt.bool_tuple _ pl hu0,SeqAt.RcAt.bool_tuple _ pl hu0,SeqAt.RcNeAt.bool_tuple _ pl hu0⟩
   | ref e=>cases e2;obtain⟨mo,hm,vs,its,r,rr,pl,_⟩:=lstAt e o2;exact⟨SeqAt.EqAt.bool_list _ pl hu0,SeqAt.RcAt.bool_list _ pl hu0,SeqAt.RcNeAt.bool_list _ pl hu0⟩
   | non=>cases e2;exact⟨SeqAt.EqAt.bool_none _,SeqAt.RcAt.bool_none _,SeqAt.RcNeAt.bool_none _⟩
   | bl b=>cases e2;exact⟨SeqAt.EqAt.bool_bool _ _,SeqAt.RcAt.bool_bool _ _,SeqAt.RcNeAt.bool_bool _ _⟩
   | int b=>obtain⟨t,rfl⟩:=e2;exact⟨SeqAt.EqAt.bool_int _ _ _,SeqAt.RcAt.bool_int _ _ _,SeqAt.RcNeAt.bool_int _ _ _⟩
   | str b=>obtain⟨t,rfl⟩:=e2;exact⟨SeqAt.EqAt.bool_str _ _ _,SeqAt.RcAt.bool_str _ _ _,SeqAt.RcNeAt.bool_str _ _ _⟩
  | int a =>
   obtain⟨t0,rfl⟩:=e1
   cases r2 with
   | ty b=>simp[okD]at o2
   | tup hq r=>cases e2;obtain⟨its,rr,pl,_⟩:=tupAt hq r;exact⟨SeqAt.EqAt.int_tuple _ _ pl hu0,SeqAt.RcAt.int_tuple _ _ pl hu0,SeqAt.RcNeAt.int_tuple _ _ pl hu0⟩
   | ref e=>cases e2;obtain⟨mo,hm,vs,its,r,rr,pl,_⟩:=lstAt e o2;exact⟨SeqAt.EqAt.int_list _ _ pl hu0,SeqAt.RcAt.int_list _ _ pl hu0,SeqAt.RcNeAt.int_list _ _ pl hu0⟩
   | non=>cases e2;exact⟨SeqAt.EqAt.int_none _ _,SeqAt.RcAt.int_none _ _,SeqAt.RcNeAt.int_none _ _⟩
   | bl b=>cases e2;exact⟨SeqAt.EqAt.int_bool _ _ _,SeqAt.RcAt.int_bool _ _ _,SeqAt.RcNeAt.int_bool _ _ _⟩
   | int b=>obtain⟨t,rfl⟩:=e2;exact⟨ACr _ _ _ _,SeqAt.RcAt.int_int _ _ _ _,SeqAt.RcNeAt.int_int _ _ _ _⟩
   | str b=>obtain⟨t,rfl⟩:=e2;exact⟨ACp _ _ _ _,SeqAt.RcAt.int_str _ _ _ _,SeqAt.RcNeAt.int_str _ _ _ _⟩
  | str a =>
   obtain⟨t0,rfl⟩:=e1
   cases r2 with
   | ty b=>simp[okD]at o2
   | tup hq r=>cases e2;obtain⟨its,rr,pl,_⟩:=tupAt hq r;exact⟨SeqAt.EqAt.str_tuple _ _ pl hu0,SeqAt.RcAt.str_tuple _ _ pl hu0,SeqAt.RcNeAt.str_tuple _ _ pl hu0⟩
   | ref e=>cases e2;obtain⟨mo,hm,vs,its,r,rr,pl,_⟩:=lstAt e o2;exact⟨SeqAt.EqAt.str_list _ _ pl hu0,SeqAt.RcAt.str_list _ _ pl hu0,SeqAt.RcNeAt.str_list _ _ pl hu0⟩
   | non=>cases e2;exact⟨SeqAt.EqAt.str_none _ _,SeqAt.RcAt.str_none _ _,SeqAt.RcNeAt.str_none _ _⟩
   | bl b=>cases e2;exact⟨SeqAt.EqAt.str_bool _ _ _,SeqAt.RcAt.str_bool _ _ _,SeqAt.RcNeAt.str_bool _ _ _⟩
   | int b=>obtain⟨t,rfl⟩:=e2;exact⟨ACq _ _ _ _,SeqAt.RcAt.str_int _ _ _ _,SeqAt.RcNeAt.str_int _ _ _ _⟩
   | str b=>obtain⟨t,rfl⟩:=e2;exact⟨ADV _ _ _ _,SeqAt.RcAt.str_str _ _ _ _,SeqAt.RcNeAt.str_str _ _ _ _⟩
  | @tup a vs ds hq r =>
   cases e1
   obtain⟨its,rr,pl,ll⟩:=tupAt hq r
   cases r2 with
   | ty b=>simp[okD]at o2
   | non=>cases e2;exact⟨SeqAt.EqAt.tuple_none pl hu0,SeqAt.RcAt.tuple_none pl hu0,SeqAt.RcNeAt.tuple_none pl hu0⟩
   | bl b=>cases e2;exact⟨SeqAt.EqAt.tuple_bool _ pl hu0,SeqAt.RcAt.tuple_bool _ pl hu0,SeqAt.RcNeAt.tuple_bool _ pl hu0⟩
   | int b=>obtain⟨t,rfl⟩:=e2;exact⟨SeqAt.EqAt.tuple_int _ _ pl hu0,SeqAt.RcAt.tuple_int _ _ pl hu0,SeqAt.RcNeAt.tuple_int _ _ pl hu0⟩
   | str b=>obtain⟨t,rfl⟩:=e2;exact⟨SeqAt.EqAt.tuple_str _ _ pl hu0,SeqAt.RcAt.tuple_str _ _ pl hu0,SeqAt.RcNeAt.tuple_str _ _ pl hu0⟩
   | ref e=>cases e2;obtain⟨mo,hm,vs',its',r',rr',pl',_⟩:=lstAt e o2;exact⟨SeqAt.EqAt.tuple_list pl pl' hu0,SeqAt.RcAt.tuple_list pl pl' hu0,SeqAt.RcNeAt.tuple_list pl pl' hu0⟩
   | @tup b ws es hq' r' =>
    cases e2
    obtain⟨jts,rr',pl',ll'⟩:=tupAt hq' r'
    have ok1:ds.all (okD M n)=true:=by simpa [okD]using o1
    have ok2:es.all (okD M n)=true:=by simpa [okD]using o2
    have key:((AAx (min its.toArray.size jts.toArray.size)).all (λj=>eqD M n (ds.getD j .non) (es.getD j .non))&&its.toArray.size==jts.toArray.size)=eqL (eqD M n) ds es:=by
     rw[AAA,AAA]
     by_cases hl:ds.length=es.length
     ·rw[<-ll,<-ll',<-hl,Nat.min_self,rng ds es hl]
      simp
     ·rw[vN hl,<-ll,<-ll']
      simp[hl]
    have h1:=SeqAt.RcAt.tuples pl pl' hu0 (items r rr r' rr' ok1 ok2)
    have h2:=SeqAt.RcNeAt.tuples pl pl' hu0 (items r rr r' rr' ok1 ok2)
    rw[key]at h1 h2
    exact fin (.tup hq r) (.tup hq' r') rfl h1 h2
  | @ref i a e =>
   cases e1
   obtain⟨mo,hm,vs,its,r,rr,pl,ll⟩:=lstAt e o1
   cases r2 with
   | ty b=>simp[okD]at o2
   | non=>cases e2;exact⟨SeqAt.EqAt.list_none pl hu0,SeqAt.RcAt.list_none pl hu0,SeqAt.RcNeAt.list_none pl hu0⟩
   | bl b=>cases e2;exact⟨SeqAt.EqAt.list_bool _ pl hu0,SeqAt.RcAt.list_bool _ pl hu0,SeqAt.RcNeAt.list_bool _ pl hu0⟩
   | int b=>obtain⟨t,rfl⟩:=e2;exact⟨SeqAt.EqAt.list_int _ _ pl hu0,SeqAt.RcAt.list_int _ _ pl hu0,SeqAt.RcNeAt.list_int _ _ pl hu0⟩
   | str b=>obtain⟨t,rfl⟩:=e2;exact⟨SeqAt.EqAt.list_str _ _ pl hu0,SeqAt.RcAt.list_str _ _ pl hu0,SeqAt.RcNeAt.list_str _ _ pl hu0⟩
   | tup hq' r'=>cases e2;obtain⟨its',rr',pl',_⟩:=tupAt hq' r';exact⟨SeqAt.EqAt.list_tuple pl pl' hu0,SeqAt.RcAt.list_tuple pl pl' hu0,SeqAt.RcNeAt.list_tuple pl pl' hu0⟩
   | @ref j b e' =>
    cases e2
    obtain⟨mo',hm',ws,jts,r',rr',pl',ll'⟩:=lstAt e' o2
    have ok1:mo.items.all (okD M n)=true:=(fy hm o1).2
    have ok2:mo'.items.all (okD M n)=true:=(fy hm' o2).2
    have ek:eqD M (n+1) (.ref i) (.ref j)=eqL (eqD M n) mo.items mo'.items:=by simp only[eqD,hm,hm']
    by_cases hl:mo.items.length=mo'.items.length
    ·have hsz:its.toArray.size=jts.toArray.size:=by rw[AAA,AAA,<-ll,<-ll',hl]
     have h1:=SeqAt.RcAt.lists pl pl' hsz hu0 (items r rr r' rr' ok1 ok2)
     have h2:=SeqAt.RcNeAt.lists pl pl' hsz hu0 (items r rr r' rr' ok1 ok2)
     rw[AAA,<-ll,rng _ _ hl]at h1 h2
     exact fin (.ref e) (.ref e') ek h1 h2
    ·have hsz:(its.toArray.size != jts.toArray.size)=true:=by
      rw[AAA,AAA,<-ll,<-ll']
      simpa using hl
     have h1:=SeqAt.RcAt.lists_lengths pl pl' hsz hu0
     have h2:=SeqAt.RcNeAt.lists_lengths pl pl' hsz hu0
     exact fin (.ref e) (.ref e') (ek.trans (vN hl)) h1 h2
noncomputable def eqN:Nat:=30
def qEq:DR2:=λx y M Q=>(okD M eqN x=true/\okD M eqN y=true)/\Q (.bl (eqD M eqN x y)) M
def qNe:DR2:=λx y M Q=>(okD M eqN x=true/\okD M eqN y=true)/\Q (.bl (!eqD M eqN x y)) M
end
theorem oX(hr:Room k A):A.units+eqN<cLine:=by have:=hr.un;unfold eqN;lia
theorem od_eq{X:Cx}(hr:Room k X.A):OpD X (compareOp .Eq) qEq:=by
 rintro pins s σ H vx vy v u R I rx ry ⟨x,y,M,ρ,Q,sm,r1,r2,⟨⟨o1,o2⟩,q⟩,k⟩
 exact(mj I sm eqN X.A x y vx vy v u (oX hr) r1 rx r2 ry o1 o2).2.1 _ _ _ _ (oG I sm k q)
theorem od_ne{X:Cx}(hr:Room k X.A):OpD X (compareOp .NotEq) qNe:=by
 rintro pins s σ H vx vy v u R I rx ry ⟨x,y,M,ρ,Q,sm,r1,r2,⟨⟨o1,o2⟩,q⟩,k⟩
 exact(mj I sm eqN X.A x y vx vy v u (oX hr) r1 rx r2 ry o1 o2).2.2 _ _ _ _ (oG I sm k q)
theorem FJ:bootBuiltins "len" = some (.builtin "len"):=by decide +kernel
theorem FK:bootBuiltins "any" = some (.builtin "any"):=by decide +kernel
theorem cH:bootBuiltins "isinstance" = some (.builtin "isinstance"):=by decide +kernel
theorem mL:bootBuiltins "sorted" = some (.builtin "sorted"):=by decide +kernel
theorem Cn:bootBuiltins "bool" = some (.type "bool"):=by decide +kernel
theorem Cl:bootBuiltins "list" = some (.type "list"):=by decide +kernel
theorem yz:bootBuiltins "tuple" = some (.type "tuple"):=by decide +kernel
theorem Cm:bootBuiltins "dict" = some (.type "dict"):=by decide +kernel
noncomputable def visB(sc:Scope)(x:Str):Bool:=match sc.names.lookup x with
 | some .local=>true
 | some .cell=>true
 | some .free=>true
 | _=>false
theorem yC(h:visB sc x=true):Vis sc x:=by
 unfold visB at h
 unfold Vis
 split at h
 ·rename_i e;exact .inl e
 ·rename_i e;exact .inr (.inl e)
 ·rename_i e;exact .inr (.inr e)
 ·cases h
noncomputable def Cu(sc:Scope)(x:Str):Bool:=match sc.names.lookup x with
 | some .local=>true
 | some .cell=>true
 | _=>false
theorem uI(h:Cu sc x=true):Loc sc x:=by
 unfold Cu at h
 unfold Loc
 split at h
 ·rename_i e;exact .inl e
 ·rename_i e;exact .inr e
 ·cases h
structure HE(X:Cx)(e:Expr)(t:DTE):Prop where
 ok:DE X e t
structure HT(X:Cx)(e:Expr)(t:DTT):Prop where
 ok:DT X e t
structure HW(X:Cx)(e:Expr)(t:DTT):Prop where
 ok:DW X e t
structure HA(X:Cx)(es:List Expr)(t:DTA):Prop where
 ok:DA X es t
structure HS(X:Cx)(e:Stmt)(t:DTS):Prop where
 ok:DS X e t
structure HB(X:Cx)(e:List Stmt)(t:DTS):Prop where
 ok:DSs X e t
structure HG(X:Cx)(e:Expr)(t:DTG):Prop where
 ok:DG X e t
structure HI(X:Cx)(tg e:Expr)(t:DTI):Prop where
 ok:DI X tg e t
structure HTs(X:Cx)(e:List Expr)(t:DTT):Prop where
 ok:PTs X e (lowT X.K t)
structure HO'(X:Cx)(e:Option Expr)(t:DTO):Prop where
 ok:PO X e (Ed X.K t)
structure HOp(X:Cx)(f:Value->Value->Sem Value)(r:DR2):Prop where
 ok:OpD X f r
structure HUn(X:Cx)(f:Value->Sem Value)(r:DR1):Prop where
 ok:UnD X f r
structure HC(X:Cx)(f:Value)(r:DRA):Prop where
 ok:eU X f r
structure HMs(X:Cx)(name:Str)(r:Str->DRA):Prop where
 ok:∃id,Slot "str" name id/\typeOf (.builtin id)=pure (.type "method_descriptor")/\MtR X id (xt X.K r)
structure HMl(X:Cx)(name:Str)(r:Nat->DRA):Prop where
 ok:∃id,Slot "list" name id/\typeOf (.builtin id)=pure (.type "method_descriptor")/\MtR X id (nR X.K r)
theorem k_var(hN:X.N[i]?=some x:=by kernel_rfl)(hv:visB X.env.scope x=true:=by kernel_rfl)(hd:(x==("__debug__":Str))=false:=by kernel_rfl)
  (hcd:(x==("__classdict__":Str))=false:=by kernel_rfl):HE X (.Name x pos) (ac i):=⟨d_var hN (yC hv) hd hcd⟩
theorem k_int:HE X (.Constant (.int i) j pos) (dC (.int i)):=⟨d_int⟩
theorem k_bl:HE X (.Constant (.bool i) j pos) (dC (.bl i)):=⟨d_bl⟩
theorem k_non:HE X (.Constant .none j pos) (dC .non):=⟨d_non⟩
theorem k_str:HE X (.Constant (.str i) j pos) (dC (.str i)):=⟨d_str⟩
theorem EB(hm:X.mg x=none)(hv:bootBuiltins x=some (.type T))(hg:X.env.kindOf x=some .globalImplicit:=by kernel_rfl)(hn:(x==("__name__":Str))=false:=by kernel_rfl)(hb:(x==("__debug__":Str))=false:=by kernel_rfl):HE X (.Name x pos) (dC (.ty T)) :=
 ⟨Fy hm hv hg (by simpa using hn) hb⟩
theorem k_op(ho:HOp X (binaryOp op) r)(ha:HE X a ta)(hb:HE X b tb):HE X (.BinOp a op b pos) (dOp r ta tb):=⟨d_op ho.ok ha.ok hb.ok⟩
theorem k_cmp(ho:HOp X (compareOp op) r)(ha:HE X a ta)(hb:HE X b tb)(hm:behindInMarks op b=false:=by kernel_rfl):HE X (.Compare a [op] [b] pos) (dOp r ta tb):=⟨d_cmp ho.ok ha.ok hb.ok hm⟩
theorem En(ho:HOp X (compareOp op) r)(ha:HE X a ta)(hb:HE X b tb)(hm:behindInMarks op b=false:=by kernel_rfl):HT X (.Compare a [op] [b] pos) (aG (dOp r ta tb)):=⟨Fh ho.ok ha.ok hb.ok hm⟩
theorem El(h:HE X e te)(he:∀whole,isTrue e X.env whole=(do let v <-whole;standAt e.pos;holding [v] (truthy v)):=by intro _;kernel_rfl):HT X e (aG te):=⟨Ff h.ok he⟩
theorem AU(ha:HT X a tA):HW X (.BoolOp .And [a] pos) tA:=⟨BO ha.ok⟩
theorem Ej(ha:HT X a tA):HW X (.BoolOp .Or [a] pos) tA:=⟨Fd ha.ok⟩
theorem yU{X:Cx}{a b:Expr}{aP:List Expr}{pos:Pos}{tA tB:DTT}(ha:HT X a tA)(hb:HW X (.BoolOp .And (b::aP) pos) tB):HW X (.BoolOp .And (a::b::aP) pos) (yt tA tB):=⟨Fe ha.ok hb.ok⟩
theorem Ek{X:Cx}{a b:Expr}{aP:List Expr}{pos:Pos}{tA tB:DTT}(ha:HT X a tA)(hb:HW X (.BoolOp .Or (b::aP) pos) tB):HW X (.BoolOp .Or (a::b::aP) pos) (dOr tA tB):=⟨dw_or ha.ok hb.ok⟩
theorem kw_t(h:HW X e tA):HT X e tA:=⟨dw_t h.ok⟩
theorem Em(ha:HT X a tA):HT X (.UnaryOp .Not a pos) (zo tA):=⟨Fg ha.ok⟩
theorem k_one{op}(h:HE X a ta):HE X (.BoolOp op [a] pos) ta:=⟨d_one h.ok⟩
theorem k_and{X:Cx}{a b:Expr}{aP:List Expr}{ta tb:DTE}{pos:Pos}(ha:HE X a ta)(hb:HE X (.BoolOp .And (b::aP) pos) tb):HE X (.BoolOp .And (a::b::aP) pos) (yr ta tb):=⟨d_and ha.ok hb.ok⟩
theorem k_not(ha:HE X a ta):HE X (.UnaryOp .Not a pos) (yq ta):=⟨d_not ha.ok⟩
theorem EA:HA X [] am:=⟨Fx⟩
theorem Bg(ha:HE X e te)(hr:HA X es t)(hs:starEach (e::es) X.env=(false,eval e X.env)::starEach es X.env:=by kernel_rfl):HA X (e::es) (aa te t):=⟨Cb ha.ok hr.ok hs⟩
theorem k_tup{x1}(h:HA X es t):HE X (.Tuple es x1 pos) (fG t):=⟨d_tup h.ok⟩
theorem k_lst(h:HA X es t):HE X (.List es pos) (cR t):=⟨d_lst h.ok⟩
theorem Bl{id:String}{r:DRA}(hc:HC X (.builtin id) r)(hm:X.mg x=none)(hv:bootBuiltins x=some (.builtin id))(ha:HA X (e::es) t)(hg:X.env.kindOf x=some .globalImplicit:=by kernel_rfl)(hn:(x==("__name__":Str))=false:=by kernel_rfl)(hdb:(x==("__debug__":Str))=false:=by kernel_rfl)
  (he:starEach (e::es) X.env=(false,eval e X.env)::starEach es X.env:=by kernel_rfl) (hpl:(backTo pos (starEach es X.env)).any (·.1)=false:=by kernel_rfl):HE X (.Call (.Name x p) (e::es) [] pos) (dCB r t):=⟨Ce hc.ok hm hv ha.ok hg (by simpa using hn) hdb he hpl⟩
theorem xL(hc:HC X (.type T) r)(hm:X.mg x=none)(hv:bootBuiltins x=some (.type T))(ha:HA X (e::es) t)(hg:X.env.kindOf x=some .globalImplicit:=by kernel_rfl)(hn:(x==("__name__":Str))=false:=by kernel_rfl)(hdb:(x==("__debug__":Str))=false:=by kernel_rfl)
  (he:starEach (e::es) X.env=(false,eval e X.env)::starEach es X.env:=by kernel_rfl) (hpl:(backTo pos (starEach es X.env)).any (·.1)=false:=by kernel_rfl):HE X (.Call (.Name x p) (e::es) [] pos) (dCB r t):=⟨yp hc.ok hm hv ha.ok hg (by simpa using hn) hdb he hpl⟩
theorem k_cal(C:Cal X.prog X.w X.K X.mg X.base j x ps P)(hr:Room k X.A)(ha:HA X (e::es) t)(hj:Nat.ble j k=true:=by kernel_rfl)
  (hg:X.env.kindOf x=some .globalImplicit:=by kernel_rfl) (hdb:(x==("__debug__":Str))=false:=by kernel_rfl) (he:starEach (e::es) X.env=(false,eval e X.env)::starEach es X.env:=by kernel_rfl) (hpl:(backTo pos (starEach es X.env)).any (·.1)=false:=by kernel_rfl) :
  HE X (.Call (.Name x p) (e::es) [] pos) (dCB P t):=⟨d_cal C hr ha.ok (ACy hj) hg hdb he hpl⟩
theorem k_ix(ha:HE X a ta)(hb:HE X b tb)(hs:oO b:=by intro _ _;kernel_rfl):HE X (.Subscript a b pos) (dOp qIx ta tb):=⟨d_ix ha.ok hb.ok hs⟩
theorem Bb:HO' X none bW:=⟨BX⟩
theorem Ba(h:HE X e te):HO' X (some e) (bF te):=⟨BW h.ok⟩
theorem Bj{lo hi:Option Expr}{tl th:DTO}{p2:Pos}(he:HE X e te)(hl:HO' X lo tl)(hu:HO' X hi th):HE X (.Subscript e (.Slice lo hi none p2) pos) (dSl te tl th):=⟨Cc he.ok hl.ok hu.ok⟩
theorem k_ms(hm:HMs X name r)(ho:HE X o to)(ha:HA X (e::es) t)
  (hbase:attributeBase o name X.env (eval o X.env)=eval o X.env:=by kernel_rfl)
  (hfew:((backTo cpos (starEach (e::es) X.env)).all (λx=>!x.1)&&(backToKw cpos (keywordEach [] X.env)).all (λx=>x.1.isSome)
   && decide ((e::es).length+([]:List Keyword).length+(if ([]:List Keyword).isEmpty then 0 else 1)<30))=true:=by kernel_rfl)
  (hline:(apos.endLine==cpos.line)=true:=by kernel_rfl) (hs:starEach (e::es) X.env=(false,eval e X.env)::starEach es X.env:=by kernel_rfl) (hplain:(backTo cpos (starEach es X.env)).any (·.1)=false:=by kernel_rfl) :
  HE X (.Call (.Attribute o name apos) (e::es) [] cpos) (dMs r to t):=let ⟨_,h1,h2,h3⟩:=hm.ok;⟨d_ms h1 h2 h3 ho.ok ha.ok hbase hfew hline hs hplain⟩
theorem k_ml(hm:HMl X name r)(ho:HE X o to)(ha:HA X (e::es) t)
  (hbase:attributeBase o name X.env (eval o X.env)=eval o X.env:=by kernel_rfl)
  (hfew:((backTo cpos (starEach (e::es) X.env)).all (λx=>!x.1)&&(backToKw cpos (keywordEach [] X.env)).all (λx=>x.1.isSome)
   && decide ((e::es).length+([]:List Keyword).length+(if ([]:List Keyword).isEmpty then 0 else 1)<30))=true:=by kernel_rfl)
  (hline:(apos.endLine==cpos.line)=true:=by kernel_rfl) (hs:starEach (e::es) X.env=(false,eval e X.env)::starEach es X.env:=by kernel_rfl) (hplain:(backTo cpos (starEach es X.env)).any (·.1)=false:=by kernel_rfl) :
  HE X (.Call (.Attribute o name apos) (e::es) [] cpos) (dMl r to t):=let ⟨_,h1,h2,h3⟩:=hm.ok;⟨d_ml h1 h2 h3 ho.ok ha.ok hbase hfew hline hs hplain⟩
theorem Ep:HB X [] bo:=⟨Fo⟩
theorem Eo{X:Cx}{st:Stmt}{ts:DTS}(h:HS X st ts):HB X [st] ts:=⟨Fm h.ok⟩
theorem AZ{X:Cx}{st:Stmt}{sts:List Stmt}{ts us:DTS}(h1:HS X st ts)(h2:HB X sts us):HB X (st::sts) (aI ts us):=⟨BV h1.ok h2.ok⟩
theorem uY(he:HE X e te)(hs:swapsWith e none pos.line X.env=pure false:=by kernel_rfl):HS X (.Expr e pos) (fU te):=⟨BT he.ok hs⟩
theorem yY(he:HE X e te):HS X (.Return (some e) pos) (bI te):=⟨Fj he.ok⟩
theorem Er(hc:HT X c tA)(ha:HB X aS ts)(hb:HB X bS us):HS X (.If c aS bS pos) (dIf tA ts us):=⟨ds_if hc.ok ha.ok hb.ok⟩
theorem yX(hN:X.N.Nodup)(he:HE X e te)(hi:X.N[i]?=some x:=by kernel_rfl)(hx:Cu X.env.scope x=true:=by kernel_rfl)(hs:swapsWith e (some (.Name x pos')) pos.line X.env=pure false:=by kernel_rfl)
  (hf:X.fn x=true:=by kernel_rfl):HS X (.Assign [.Name x pos'] e pos) (bb te i):=⟨Fi hN he.ok hi (uI hx) hs (.inl hf)⟩
theorem Bf(hN:X.N.Nodup)(hi:X.N[i]?=some x:=by kernel_rfl)(hx:Cu X.env.scope x=true:=by kernel_rfl)(hf:X.fn x=true:=by kernel_rfl):HG X (.Name x pos) (aA i):=⟨oE hN hi (uI hx) (.inl hf)⟩
theorem Ev(hN:X.N.Nodup)(hi:X.N[i]?=some x:=by kernel_rfl)(hf:X.env.scope.names.lookup x=some .local:=by kernel_rfl):HG X (.Name x pos) (aA i):=⟨oE hN hi (.inl hf) (.inr hf)⟩
theorem Es(h:HE X e te):HI X tg e (bx te):=⟨Ft h.ok⟩
theorem yZ{body:List Stmt}{tb:DTS}(hi:HI X tg iter di)(hg:HG X tg g)(hb:HB X body tb)(hp:PassesOwn (model X.prog X.w) X.A X.env X.xe:=by exact PassesOwn.never)(hc:X.calm=true:=by kernel_rfl)
  (hs:∀x,foldedSetIterable iter X.env x=pure x:=by intro _;kernel_rfl):HS X (.For tg iter body [] pos) (iK di g tb):=⟨Fp hi.ok hg.ok hb.ok hp hc hs⟩
theorem AY:HTs X [] oJ:=⟨BR⟩
theorem AX(h:HT X c tA):HTs X [c] tA:=⟨BP h.ok⟩
theorem k_lc(hi:HI X tg iter di)
  (hg:∀cl s0 H0 ex,HG (blk X N' scope cl s0 H0 ex) tg g) (ht:∀cl s0 H0 ex,HTs (blk X N' scope cl s0 H0 ex) ifs tt) (he:∀cl s0 H0 ex,HE (blk X N' scope cl s0 H0 ex) elt te) (B:jo X.env.scope.names X.N N' nt js scope=true:=by kernel_rfl) (hc:X.calm=true:=by kernel_rfl)
  (hs:∀x,foldedSetIterable iter X.env x=pure x:=by intro _;kernel_rfl):HE X (.ListComp elt [⟨tg,iter,ifs,0⟩] scope pos) (dLC nt js di g tt te):=⟨d_lc (BlkSc.chk B) hi.ok (λcl s0 H0 ex=>(hg cl s0 H0 ex).ok) (λcl s0 H0 ex=>(ht cl s0 H0 ex).ok) (λcl s0 H0 ex=>(he cl s0 H0 ex).ok) hc hs⟩
theorem ve(hm:X.mg "range" = none)(ha:HA X [a] t)(hg:X.env.kindOf "range" = some .globalImplicit:=by kernel_rfl)(hs:starEach [a] X.env=[(false,eval a X.env)]:=by kernel_rfl):HI X tg (.Call (.Name "range" p) [a] [] pos) (bE t):=⟨wb hm ha.ok hg hs⟩
theorem vc(hm:X.mg "range" = none)(ha:HA X [a,b] t)(hg:X.env.kindOf "range" = some .globalImplicit:=by kernel_rfl)(hs:starEach [a,b] X.env=[(false,eval a X.env),(false,eval b X.env)]:=by kernel_rfl)(hs2:starEach [b] X.env=[(false,eval b X.env)]:=by kernel_rfl) :
  HI X tg (.Call (.Name "range" p) [a,b] [] pos) (jZ t):=⟨wa hm ha.ok hg hs hs2⟩
theorem EN:HOp X (binaryOp .Sub) Ct:=⟨DV⟩
theorem EQ:HOp X (binaryOp .Mult) fQ:=⟨Ax⟩
theorem Bw:HOp X (binaryOp .FloorDiv) jB:=⟨Ay⟩
theorem ER:HOp X (binaryOp .Mod) qV:=⟨DZ⟩
theorem ho_lt:HOp X (compareOp .Lt) qLt:=⟨od_lt⟩
theorem ho_gt:HOp X (compareOp .Gt) qGt:=⟨od_gt⟩
theorem ho_eq(hr:Room k X.A):HOp X (compareOp .Eq) qEq:=⟨od_eq hr⟩
theorem ho_ne(hr:Room k X.A):HOp X (compareOp .NotEq) qNe:=⟨od_ne hr⟩
theorem ET:HC X (.builtin "len") ja:=⟨FE⟩
theorem EV(hc:X.calm=true:=by kernel_rfl):HC X (.builtin "any") De:=⟨FG hc⟩
theorem EU:HC X (.builtin "isinstance") Dd:=⟨FF⟩
theorem vD:HMl X "append" bO:=⟨_,PySem.F.slot_list_append,PySem.F.type_list_append,rp⟩
theorem Cal.byH{P:Program}{w:World}{K:AA1}{mg:Str->Option Value}{base:Heap}{x:Str}{st:Stmt}{N ps:List Str}{k:Nat}{Pr:DSp}(F:cS K mg x st ps)(Sc:FnScope N ps (ar st))
  (len:∀ds M R,Pr ds M R->ds.length=ps.length) {t:DTS}
  (der:∀(f:Addr) (cdv:Value) (A:Around) (outer:List Env) (s:Shared) (H:Hp) (E:XK),Room k (A.deeper (envOfC x (ar st) s.heap.objs.size f cdv))->HB (iE CX0 P w K mg base N x (ar st) f cdv A outer s H E).nox (aU st) t)
  (wp:∀ds M R,Pr ds M R->t ⟨λ_ M'=>cj M R .non M',cj M R,λ_ _=>False,λ_ _=>False⟩ (cc N ds) M):Cal P w K mg base (k+1) x ps Pr :=
 Cal.of F Sc len (λf cdv A outer s H E hr=>(der f cdv A outer s H E hr).ok) wp
theorem xX{P:Program}{w:World}{K:AA1}{mg:Str->Option Value}{base:Heap}{x:Str}{st:Stmt}{N ps:List Str}{k:Nat}{Pr:DSp}{f:Addr}{fd:FuncData}(F:Fun K x x st f fd)(Sc:FnScope N ps (ar st))
  (len:∀ds M R,Pr ds M R->ds.length=ps.length) {t:DTS}
  (der:∀(f:Addr) (cdv:Value) (A:Around) (outer:List Env) (s:Shared) (H:Hp) (E:XK),Room k (A.deeper (envOfC x (ar st) s.heap.objs.size f cdv))->HB (iE CX0 P w K mg base N x (ar st) f cdv A outer s H E).nox (aU st) t)
  (wp:∀ds M R,Pr ds M R->t ⟨λ_ M'=>cj M R .non M',cj M R,λ_ _=>False,λ_ _=>False⟩ (cc N ds) M):FnOk P w K mg base CX0 (k+1) f fd ps (spL K Pr) :=
 BH F Sc len (λf cdv A outer s H E hr=>(der f cdv A outer s H E hr).ok) wp
theorem dB(I:List D->SD->Mem->Prop)(h0:∀S M,I [] S M->ok M/\E.nx S M)
  (h1:∀x xs S M,I (x::xs) S M->∀L:SD->Mem->Prop,(∀S' M',I xs S' M'->L S' M')->ok M/\g x S M λS2 M2=>tb ⟨Fgt k0 L,E.rt,E.nx,Fgt k0 L⟩ S2 M2) :
  ∀xs S M,I xs S M->mB ok g tb E k0 xs S M
 | [],S,M,h=>h0 S M h
 | x::xs,S,M,h=>h1 x xs S M h _ (dB I h0 h1 xs)
theorem bc(I:Nat->SD->Mem->Prop)(h0:∀S M,I xs.length S M->ok M/\E.nx S M)
  (h1:∀i x S M,xs[i]?=some x->I i S M->∀L:SD->Mem->Prop,(∀S' M',I (i+1) S' M'->L S' M')->ok M/\g x S M λS2 M2=>tb ⟨Fgt k0 L,E.rt,E.nx,Fgt k0 L⟩ S2 M2)
 (h:I 0 S M):mB ok g tb E k0 xs S M:=by
 refine dB (λys S M=>∃i,xs.drop i=ys/\i+ys.length=xs.length/\I i S M) ?_ ?_ xs S M ⟨0,rfl,by simp,h⟩
 ·rintro S M ⟨i,_,e,q⟩
  have:i=xs.length:=by simpa using e
  subst this
  exact h0 S M q
 ·rintro x ys S M ⟨i,e,el,q⟩ L hL
  have hx:xs[i]?=some x:=by
   have:(xs.drop i)[0]?=some x:=by rw[e];rfl
   simpa using this
  refine h1 i x S M hx q L λS' M' q'=>hL S' M' ⟨i+1,?_,by simp at el;lia,q'⟩
  rw[<-List.drop_drop,e]
  rfl
theorem Fgt.now(h:P S M):Fgt k0 P S M:=.inl h
theorem gc{lo:Int}{n i:Nat}{x:D}:(nv lo n)[i]?=some x↔i<n/\x=.int (lo+(i:Int)):=by
 unfold nv
 rw[AAU]
 by_cases h:i<n
 ·simp[h,eq_comm]
 ·simp[h]
theorem dm{lo:Int}{n:Nat}:(nv lo n).length=n:=by simp[nv]
theorem bn(p:D->Bool)(f:D->D)(I:SD->Prop)(hok:ok M) :
  ∀(xs acc:List D) (S:SD),(∀x∈xs,∀S,I S->∃S',I S'/\∀(Y:D->SD->Mem->Prop) (Z:SD->Mem->Prop),(if p x=true then Y (f x) S' M else Z S' M) ->
    g x S M λS2 M2=>tt S2 M2 λb M3=>if b=true then te S2 M3 λy M4=>Y y S2 M4 else Z S2 M3) ->
   I S->acc.length+xs.length<=sizeLine->Q (.ref M.length) (M++[.lst (acc++(xs.filter p).map f)])->iL ok g tt te Q xs acc S M
 | [],acc,S,_,_,_,q=>⟨hok,by simpa using q⟩
 | x::xs,acc,S,step,hS,hl,q=>by
  obtain⟨S',hS',k⟩:=step x AAO S hS
  refine⟨hok,k (λy S2 M4=>acc.length<sizeLine/\iL ok g tt te Q xs (acc++[y]) S2 M4) (λS2 M3=>iL ok g tt te Q xs acc S2 M3) ?_⟩
  have step':=λy hy=>step y (AA9 _ hy)
  rw[AAG]at hl
  by_cases hp:p x=true
  ·rw[if_pos hp]
   refine⟨by lia,bn p f I hok xs _ S' step' hS' (by rw[AAC,AAm];lia) ?_⟩
   rw[List.filter_cons_of_pos hp,AAN]at q
   rw[ABO]
   exact q
  ·rw[if_neg hp]
   refine bn p f I hok xs acc S' step' hS' (by lia) ?_
   rw[List.filter_cons_of_neg hp]at q
   exact q
theorem db(f:D->D)(I:SD->Prop)(hok:ok M)
  (xs acc:List D) (S:SD) (step:∀x∈xs,∀S,I S->∃S',I S'/\∀(Y:D->SD->Mem->Prop),Y (f x) S' M->g x S M λS2 M2=>te S2 M2 λy M4=>Y y S2 M4)
  (hS:I S) (hl:acc.length+xs.length<=sizeLine) (q:Q (.ref M.length) (M++[.lst (acc++xs.map f)])):iL ok g oJ te Q xs acc S M:=by
 refine bn (λ_=>true) f I hok xs acc S (λx hx S hS=>?_) hS hl (by rw[List.filter_eq_self.mpr λ_ _=>rfl];exact q)
 obtain⟨S',hS',k⟩:=step x hx S hS
 refine⟨S',hS',λY Z h=>?_⟩
 rw[if_pos rfl]at h
 have:=k Y h
 simp only[oJ,if_true]
 exact this
theorem ak:(M++[mo])[M.length]?=some mo:=by simp
theorem aq:ap (M++[.lst xs]) M.length xs:=.inl ak
theorem ap.more(h:ap M n xs)(L:Mem):ap (M++L) n xs:=by
 have key:∀{mo:MO},M[n]?=some mo->(M++L)[n]?=some mo:=λe=>by
  rw[AAJ (AA5.mp e).1];exact e
 rcases h with h | h | h
 ·exact .inl (key h)
 ·exact .inr (.inl (key h))
 ·exact .inr (.inr (key h))
theorem ap.lt(h:ap M n xs):n<M.length:=by
 rcases h with h | h | h<;>exact(AA5.mp h).1
theorem cj.keep(h:R d M)(b:Bel M.length d)(p:M <+: M'):cj M R d M':=.inr (.inl ⟨M,.refl,b,p,h⟩)
theorem cj.now(h:R d M):cj M R d M:=.inl h
theorem cj.bl(h:R (.bl b) M)(p:M <+: M'):cj M R (.bl b) M':=.keep h (.bl b) p
theorem cj.non(h:R .non M)(p:M <+: M'):cj M R .non M':=.keep h .non p
theorem jD:M <+: M++[mo]:=ABS _ _
theorem zJ{a b:Str}(h:a.cps.toList=b.cps.toList):a=b:=by
 cases a;cases b
 simp only[Array.toList_inj]at h
 simpa using h
theorem aE{a:Str}:a.length=a.cps.toList.length:=by show a.cps.size=_;simp
theorem bX{a b:Str}:(a++b).cps.toList=a.cps.toList++b.cps.toList:=by
 show (a.cps++b.cps).toList=_
 simp
theorem Cp{a b:Str}:(a++b).length=a.length+b.length:=by
 rw[aE,aE,aE,bX,AAC]
theorem uk:(⟨#[c]⟩:Str).length=1:=rfl
theorem az(h:n<=1000):n<=sizeLine:=Nat.le_of_lt (aF h)
theorem cP{α:Type}{xs:List α}{i:Int}(h0:0<=i)(h1:i<xs.length):∃(j:Nat) (hj:j<xs.length),atI xs i=some xs[j]/\(j:Int)=i:=by
 have hj:i.toNat<xs.length:=by lia
 refine⟨i.toNat,hj,?_,by lia⟩
 have e:i=((i.toNat:Nat):Int):=by lia
 have q:atI xs ((i.toNat:Nat):Int)=some xs[i.toNat]:=aN (AA7 hj)
 rw[<-e]at q
 exact q
theorem ap.get(h:ap M n xs):∃mo,M[n]?=some mo/\mo.items=xs/\mo.isL=true:=by
 rcases h with h | h | h<;>exact⟨_,h,rfl,rfl⟩
theorem yc(h1:ap M i xs)(h2:ap M j ys):eqD M (n+1) (.ref i) (.ref j)=eqL (eqD M n) xs ys:=by
 obtain⟨a,ha,rfl,hl1⟩:=h1.get
 obtain⟨b,hb,rfl,hl2⟩:=h2.get
 simp only[eqD,ha,hb]
theorem uu(h1:ap M i xs)(h:∀x∈xs,okD M n x=true):okD M (n+1) (.ref i)=true:=by
 obtain⟨a,ha,rfl,hl1⟩:=h1.get
 simp only[okD,ha,hl1,Bool.true_and]
 exact AAb.mpr h
theorem nJ(h:∀x∈xs,okD M n x=true):okD M (n+1) (.tup xs)=true:=by
 simp only[okD]
 exact AAb.mpr h
theorem dR:okD M n (.str x)=true:=by cases n<;>rfl
theorem aB:okD M n (.int x)=true:=by cases n<;>rfl
theorem qd:okD M n (.bl x)=true:=by cases n<;>rfl
theorem jL:okD M n .non=true:=by cases n<;>rfl
theorem BL:eqL f xs []=xs.isEmpty:=by cases xs<;>rfl
theorem bw:eqD M n (.int a) (.int b)=(a==b):=by cases n<;>rfl
theorem oA:eqD M n (.str a) (.str b)=(a==b):=by cases n<;>rfl
def mw:Cs:=λds S M Q=>match ds with
 | []=>Q S M
 | _=>False
def bV(t:DTG)(u:Cs):Cs:=λds S M Q=>match ds with
 | d::r=>t d S M λS' M'=>u r S' M' Q
 | []=>False
def mv(n:Nat)(t:Cs):DTG:=λd S M Q=>match d with
 | .tup ds=>ds.length=n/\t ds S M Q
 | _=>False
theorem BY:DGs X [] mw:=by
 rintro pins s σ H vs us R I r ⟨ds,S,M,ρ,Q,sm,sr,rr,q,k⟩
 cases rr with
 | nil=>exact Ad pins s σ H _ us R I r ⟨rfl,k σ H ⟨S,M,ρ,sm,.refl,sr,q⟩⟩
 | cons _ _=>exact q.elim
theorem ym(h1:DG X e t)(h2:DGs X es u)
  (hs:(assignEach (e::es) X.env).map (·.2)=assign e X.env::(assignEach es X.env).map (·.2):=by rfl):DGs X (e::es) (bV t u):=by
 rintro pins s σ H vs us R I r ⟨ds,S,M,ρ,Q,sm,sr,rr,q,k⟩
 cases rr with
 | nil=>exact q.elim
 | cons r1 rr =>
  refine xb h1 h2 hs pins s σ H _ us R I r ⟨_,_,rfl,_,S,M,ρ,_,sm,sr,r1,q,?_⟩
  rintro σ1 H1 ⟨S1,M1,ρ1,s1,g1,sr1,q1⟩
  exact⟨_,S1,M1,ρ1,Q,s1,sr1,rr.grow g1,q1,λσ' H' w=>k σ' H' (SQ.trans g1 w)⟩
theorem Fu(h:DGs X es t)(hc:X.calm=true:=by rfl)
  (hn:(assignEach es X.env).length=n:=by rfl) (hst:(assignEach es X.env).findIdx? (·.1)=none:=by rfl):DG X (.Tuple es j pos) (mv n t):=by
 rintro pins s σ H v u R I r ⟨d,S,M,ρ,Q,sm,sr,rd,q,k⟩
 cases rd with
 | tup hq rr=>exact Dq hc h hn hst pins s σ H _ u R I r ⟨_,_,rfl,hq,by rw[<-rr.length];exact q.1,_,S,M,ρ,Q,sm,sr,rr,q.2,k⟩
 | _=>exact q.elim
def zp(te:DTE)(g:DTG):DTS:=λE S M=>te S M λd M1=>g d S M1 E.nx
theorem Fq(he:DE X e te)(hg:DG X tg g)(hs:swapsWithSole [tg] e pos.line X.env=pure false:=by rfl)(hw:swappedStores [tg] e X.env=pure none:=by rfl)
  (h1:(assignEach [tg] X.env).map (·.2)=[assign tg X.env]:=by rfl):DS X (.Assign [tg] e pos) (zp te g):=by
 refine PS.imp (Dm he hg hs hw h1) ?_
 rintro E σ H ⟨S,M,ρ,F,s,sr,q,k⟩
 refine⟨S,M,ρ,_,s,sr,q,?_⟩
 rintro v H1 ⟨d,M1,ρ1,s1,g1,r1,q1⟩
 exact⟨d,S,M1,ρ1,_,s1,sr.grow g1,r1,q1,λσ' H' w=>k.nx σ' H' (SQ.trans g1 w)⟩
def qSet:D->D->D->Mem->(Mem->Prop)->Prop:=λo i v M Q=>match o,i with
 | .ref n,.int k=>∃xs j,M[n]?=some (.lst xs)/\ixN xs.length k=some j/\Q (M.set n (.lst (xs.set j v)))
 | _,_=>False
theorem Reps.set{K:AA1}{ρ:List Addr}{H:Hp}{d:D}{v:V}(r:Rep K ρ H d v):∀{ds:List D}{vs:List V} (i:Nat),Reps K ρ H ds vs->Reps K ρ H (ds.set i d) (vs.set i v)
 | _,_,_,.nil=>.nil
 | _,_,0,.cons _ t=>.cons r t
 | _,_,i+1,.cons q t=>.cons q (Reps.set r i t)
def oF(to ti:DTE):DTG:=λv S M Q=>to S M λo M1=>ti S M1 λi M2=>qSet o i v M2 λM3=>Q S M3
theorem Fv(ho:DE X o to)(hi:DE X i ti)
  (ha:∀v,assign (.Subscript o i pos) X.env v=(do
   let ov <-holding [v] (eval o X.env)
   let iv <-holding [v,ov] (eval i X.env)
   standAt pos
   holding [v,ov,iv] (setItem ov iv v)
   release [v,ov,iv] []):=by intro _;rfl):DG X (.Subscript o i pos) (oF to ti):=by
 rintro pins s σ H v u R I r ⟨d,S,M,ρ,Q,sm,sr,rd,q,k⟩
 refine Dr ho hi wT ha pins s σ H v u R I r ⟨S,M,ρ,_,sm,sr,q,?_⟩
 rintro vo H1 ⟨o',M1,ρ1,s1,g1,r1,q1⟩
 refine⟨S,M1,ρ1,_,s1,sr.grow g1,q1,?_⟩
 rintro vi H2 ⟨i',M2,ρ2,s2,g2,r2,q2⟩
 have r1':=r1.grow g2
 cases r1' with
 | @ref n a hn =>
  cases r2 with
  | int j =>
   obtain⟨xs,jj,e,hj,q3⟩:=(show ∃xs j',M2[n]?=some (.lst xs)/\ixN xs.length j=some j'/\Q S (M2.set n (.lst (xs.set j' d)))from q2)
   obtain⟨vs,hH,rr⟩:=s2.obj n a _ hn e
   obtain⟨w1,w2⟩:=s2.write hn e hH (Reps.set (rd.grow (g1.trans g2)) jj rr)
   exact⟨a,vs,j,jj,rfl,rfl,hH,by rw[<-rr.length];exact hj,k σ _ ⟨S,_,ρ2,w1,(g1.trans g2).trans w2,sr.grow ((g1.trans g2).trans w2),q3⟩⟩
  | _=>exact q2.elim
 | _=>exact q2.elim
def tM:DRA:=λds M Q=>match ds with
 | [.ref n]=>∃xs,ap M n xs/\Q (.ref M.length) (M++[.lst xs])
 | [.tup xs]=>Q (.ref M.length) (M++[.lst xs])
 | _=>False
theorem Ci:eU X (.type "list") tM:=by
 refine cQ.imp mE ?_
 rintro vs H R ⟨ds,M,ρ,Q,sm,rs,q,k⟩
 unfold tM at q
 split at q
 ·obtain⟨xs,hL,q⟩:=q
  first | have hzz:=Reps.inv_cons rs | have hzz:=ay.inv_cons rs
  clear rs
  obtain⟨_,_,rfl,r1,rs⟩:=hzz
  cases rs
  obtain⟨_,rfl,e⟩:=Rep.inv_ref r1
  obtain⟨ws,hq,r⟩:=ap.seq sm hL e
  exact⟨_,ws,rfl,.inl hq,λl hl=>k _ _ (VQ.laidL sm .refl r hl q)⟩
 ·first | have hzz:=Reps.inv_cons rs | have hzz:=ay.inv_cons rs
  clear rs
  obtain⟨_,_,rfl,r1,rs⟩:=hzz
  cases rs
  cases r1 with
  | tup hq r=>exact⟨_,_,rfl,.inr hq,λl hl=>k _ _ (VQ.laidL sm .refl r hl q)⟩
 ·exact q.elim
def bN:DRA:=λds M Q=>match ds with
 | [.ref n]=>∃xs,ap M n xs/\Q (.tup xs) M
 | [.tup xs]=>Q (.tup xs) M
 | _=>False
theorem yy:eU X (.type "tuple") bN:=by
 refine cQ.imp kc ?_
 rintro vs H R ⟨ds,M,ρ,Q,sm,rs,q,k⟩
 unfold bN at q
 split at q
 ·obtain⟨xs,hL,q⟩:=q
  first | have hzz:=Reps.inv_cons rs | have hzz:=ay.inv_cons rs
  clear rs
  obtain⟨_,_,rfl,r1,rs⟩:=hzz
  cases rs
  obtain⟨_,rfl,e⟩:=Rep.inv_ref r1
  obtain⟨ws,hq,r⟩:=ap.seq sm hL e
  exact⟨_,ws,rfl,.inl ⟨hq,λl hl=>k _ _ (VQ.laidT sm .refl r hl q)⟩⟩
 ·first | have hzz:=Reps.inv_cons rs | have hzz:=ay.inv_cons rs
  clear rs
  obtain⟨_,_,rfl,r1,rs⟩:=hzz
  cases rs
  cases r1 with
  | tup hq r=>exact⟨_,_,rfl,.inr ⟨hq,k _ H (VQ.now sm (.tup hq r) q)⟩⟩
 ·exact q.elim
theorem xg:OpR X (binaryOp .Add) (λx y H Q=>∃a b ys,x=.ref a/\y=.ref b/\SqT X.K H a []/\SqT X.K H b ys/\Q (.ref b) H):=by
 intro pins s σ H x y v u Q I rx ry h
 obtain⟨a,b,ys,rfl,rfl,ha,hb,q⟩:=h
 cases rx
 cases ry
 obtain⟨its,r1,p1,_⟩:=I.tuple ha
 obtain⟨its2,r2,p2,_⟩:=I.tuple hb
 have e:its=[]:=r1.nil_iff.mpr rfl
 subst e
 obtain⟨⟨cls,dd,data,sl⟩,ho,hc,n,hd⟩:=id p1
 obtain⟨⟨cls2,dd2,data2,sl2⟩,ho2,hc2,n2,hd2⟩:=id p2
 simp only at hc hd hc2 hd2
 subst hc hd hc2 hd2
 exact concat_meets ⟨_,ho,rfl⟩ ⟨_,ho2,rfl⟩ noFill_tuple_add seq_tuple_add ADj ADU (ADO _ _)
  (tuple_addW0 a b _ _ n n2 dd dd2 sl sl2 (by simp)) ⟨ho,ho2,⟨.ref b,H,I,rfl,q⟩⟩
def aK:DR2:=λx y M Q=>match x,y with
 | .tup xs,.tup ys=>xs.length+ys.length<=sizeLine/\Q (.tup (xs++ys)) M
 | _,_=>qAdd x y M Q
theorem Az:OpD X (binaryOp .Add) aK:=by
 rintro pins s σ H vx vy v u R I rx ry ⟨x,y,M,ρ,Q,sm,r1,r2,q,k⟩
 unfold aK at q
 split at q
 ·rename_i xs ys
  obtain⟨a,vs,rfl,h1,t1⟩:=Rep.inv_tup r1
  obtain⟨b,ws,rfl,h2,t2⟩:=Rep.inv_tup r2
  have l1:=t1.length
  have l2:=t2.length
  cases xs with
  | nil =>
   cases t1
   exact xg pins s σ H _ _ v u R I rx ry ⟨a,b,ws,rfl,rfl,h1,h2,k _ H (VQ.now sm (.tup h2 t2) q.2)⟩
  | cons x0 xs0 =>
   refine As pins s σ H _ _ v u R I rx ry ⟨a,b,vs,ws,rfl,rfl,h1,h2,?_,by rw[<-l1,<-l2];exact q.1,λz=>?_,λ_ p hp=>k _ _ (VQ.laidT sm .refl (t1.append t2) hp q.2)⟩
   ·intro z
    subst z
    simp at l1
   ·subst z
    have:ys=[]:=by simpa using l2
    subst this
    rw[AAq]at q
    exact k _ H (VQ.now sm (.tup h1 t1) q.2)
 ·exact Ea pins s σ H vx vy v u R I rx ry ⟨x,y,M,ρ,Q,sm,r1,r2,q,k⟩
def hV(n:Nat):DRA:=λds M Q=>match ds with
 | [.ref m]=>∃xs ys,M[n]?=some (.lst xs)/\M[m]?=some (.lst ys)/\n≠m/\xs.length+ys.length<=sizeLine/\Q .non (M.set n (.lst (xs++ys)))
 | _=>False
theorem rj:MtR X "list.extend" (nR X.K hV):=by
 rintro pins s σ H x xs v us R I rx rs ⟨n,a,ds,M,ρ,Q,ez,hn,sm,rr,q,k⟩
 unfold hV at q
 split at q
 ·rename_i m
  obtain⟨ys,zs,e,e2,hne,hl,q⟩:=q
  first | have hzz:=Reps.inv_cons rr | have hzz:=ay.inv_cons rr
  clear rr
  obtain⟨_,_,rfl,r1,rr⟩:=hzz
  cases rr
  obtain⟨b,rfl,hm⟩:=Rep.inv_ref r1
  obtain⟨vs,hH,r⟩:=sm.obj n a _ hn e
  obtain⟨ws,hH2,r2⟩:=sm.obj m b _ hm e2
  obtain⟨w1,w2⟩:=sm.write hn e hH (r.append r2)
  exact ux pins s σ H x _ v us R I rx rs ⟨a,b,vs,ws,ez,rfl,hH,hH2,by rw[<-r.length,<-r2.length];exact hl,k _ _ ⟨.non,_,ρ,w1,w2,.non,q⟩⟩
 ·exact q.elim
end L2
namespace Srt
open PySem PySem.W PyProof.Rows
noncomputable def run{α:Type}(c:Nat->Nat->Bool):KasT α->α
 | .ret a=>a
 | .ask i j k=>run c (k (c i j))
theorem dj{α β:Type}{c:Nat->Nat->Bool}{f:α->KasT β}:∀t:KasT α,run c (t.bind f)=run c (f (run c t))
 | .ret a=>rfl
 | .ask i j k=>dj (k (c i j))
def Bd{α:Type}(n:Nat):KasT α->Prop
 | .ret _=>True
 | .ask i j k=>i<n/\j<n/\∀b,Bd n (k b)
def All{α:Type}(P:α->Prop):KasT α->Prop
 | .ret a=>P a
 | .ask _ _ k=>∀b,All P (k b)
theorem All.mono{α:Type}{P Q:α->Prop}(h:∀a,P a->Q a):∀t:KasT α,All P t->All Q t
 | .ret a,q=>h a q
 | .ask _ _ k,q=>λb=>All.mono h (k b) (q b)
theorem All.bind{α β:Type}{P:β->Prop}{f:α->KasT β}:∀t:KasT α,All (λa=>All P (f a)) t->All P (t.bind f)
 | .ret a,q=>q
 | .ask _ _ k,q=>λb=>All.bind (k b) (q b)
theorem Bd.bindA{α β:Type}{n:Nat}{f:α->KasT β}:∀t:KasT α,Bd n t->All (λa=>Bd n (f a)) t->Bd n (t.bind f)
 | .ret a,_,q=>q
 | .ask _ _ k,b,q=>⟨b.1,b.2.1,λx=>Bd.bindA (k x) (b.2.2 x) (q x)⟩
theorem All.run{α:Type}{P:α->Prop}{c:Nat->Nat->Bool}:∀t:KasT α,All P t->P (Srt.run c t)
 | .ret a,q=>q
 | .ask i j k,q=>All.run (k (c i j)) (q _)
theorem wp_run{α:Type}{cmp:Nat->Nat->(Bool->Shared->Prop)->Shared->Prop}{c:Nat->Nat->Bool}{n:Nat}{s:Shared}{Q:α->Shared->Prop}(hc:∀i j (C:Bool->Shared->Prop),i<n->j<n->C (c i j) s->cmp i j C s) :
  ∀t:KasT α,Bd n t->Q (run c t) s->t.kasWp cmp Q s
 | .ret a,_,q=>q
 | .ask i j k,b,q=>hc i j _ b.1 b.2.1 (wp_run hc (k (c i j)) (b.2.2 _) q)
structure Ord(c:Nat->Nat->Bool):Prop where
 irr:∀a,c a a=false
 tr:∀a b d,c a b=true->c b d=true->c a d=true
 neg:∀a b d,c a d=true->c a b=true\/c b d=true
section
variable{c:Nat->Nat->Bool}(O:Ord c)
def le(c:Nat->Nat->Bool)(a b:Nat):Prop:=c b a=false
theorem le_refl(O:Ord c)(a:Nat):le c a a:=O.irr a
theorem le_trans(O:Ord c)(h1:le c a b)(h2:le c b d):le c a d:=by
 unfold le at *
 cases q:c d a with
 | false=>rfl
 | true =>
  rcases O.neg d b a q with h | h
  ·rw[h2]at h;cases h
  ·rw[h1]at h;cases h
theorem le_of_lt(O:Ord c)(h:c a b=true):le c a b:=by
 unfold le
 cases q:c b a with
 | false=>rfl
 | true=>have:=O.tr a b a h q;rw[O.irr]at this;cases this
noncomputable abbrev at_(p:Array Nat)(k:Nat):Nat:=p.getD k 0
def Up(c:Nat->Nat->Bool)(p:Array Nat)(m:Nat):Prop:=∀i j,i<=j->j<m->le c (at_ p i) (at_ p j)
def Dn(c:Nat->Nat->Bool)(p:Array Nat)(m:Nat):Prop:=∀i j,i<=j->j<m->le c (at_ p j) (at_ p i)
def Eqs(c:Nat->Nat->Bool)(p:Array Nat)(a b:Nat):Prop:=∀i j,a<=i->i<b->a<=j->j<b->le c (at_ p i) (at_ p j)
theorem Up.one(O:Ord c)(p:Array Nat):Up c p 1:=λi j hij hj=>by
 have:i=j:=by lia
 subst this;exact le_refl O _
theorem Up.snoc(O:Ord c)(h:Up c p n)(h1:1<=n)(hl:le c (at_ p (n-1)) (at_ p n)):Up c p (n+1):=λi j hij hj=>by
 by_cases hjn:j<n
 ·exact h i j hij hjn
 ·have:j=n:=by lia
  subst this
  by_cases hi:i=j
  ·subst hi;exact le_refl O _
  ·exact le_trans O (h i (j-1) (by lia) (by lia)) hl
theorem Dn.snoc(O:Ord c)(h:Dn c p n)(h1:1<=n)(hl:le c (at_ p n) (at_ p (n-1))):Dn c p (n+1):=λi j hij hj=>by
 by_cases hjn:j<n
 ·exact h i j hij hjn
 ·have:j=n:=by lia
  subst this
  by_cases hi:i=j
  ·subst hi;exact le_refl O _
  ·exact le_trans O hl (h i (j-1) (by lia) (by lia))
theorem dI(hj:j<=p.size)(k:Nat):at_ (AD8 p i j) k=if i<=k/\k<j then at_ p (i+j-1-k)else at_ p k:=by
 have e:=getElem?_mirror_all (xs:=p) (i:=i) hj k
 unfold at_ AD8
 rw[AAw,e]
 by_cases h:i<=k/\k<j
 ·rw[if_pos h,if_pos h,AAw]
 ·rw[if_neg h,if_neg h,AAw]
theorem mM(hk:k<p.size)(hd:d<=k)(i:Nat):at_ (bubble p k d) i=if i=k-d then at_ p k else if k-d<i/\i<=k then at_ p (i-1)else at_ p i:=by
 have e:=getElem?_bubble (xs:=p) hk d hd i
 unfold at_
 rw[AAw,e]
 by_cases h:i=k-d
 ·rw[if_pos h,if_pos h,AAw]
 ·rw[if_neg h,if_neg h]
  by_cases h':k-d<i/\i<=k
  ·rw[if_pos h',if_pos h',AAw]
  ·rw[if_neg h',if_neg h',AAw]
theorem Dn.rev(h:Dn c p n)(hn:n<=p.size):Up c (AD8 p 0 n) n:=λi j hij hj=>by
 rw[dI hn,dI hn,if_pos ⟨AAV _,by lia⟩,if_pos ⟨AAV _,hj⟩]
 exact h _ _ (by lia) (by lia)
theorem Dn.revEq(O:Ord c)(h:Dn c p n)(hn:n<=p.size)(he:Eqs c p a n):Dn c (AD8 p a n) n:=λi j hij hj=>by
 rw[dI hn,dI hn]
 by_cases h1:a<=i/\i<n
 ·by_cases h2:a<=j/\j<n
  ·rw[if_pos h1,if_pos h2]
   exact he _ _ (by lia) (by lia) (by lia) (by lia)
  ·exact absurd ⟨by lia,hj⟩ h2
 ·by_cases h2:a<=j/\j<n
  ·rw[if_neg h1,if_pos h2]
   exact h _ _ (by lia) (by lia)
  ·rw[if_neg h1,if_neg h2]
   exact h _ _ hij hj
theorem oN(O:Ord c):∀(f n:Nat),1<=n->Up c p n->Up c p (run c (ADq p f n))/\n<=run c (ADq p f n)/\run c (ADq p f n)<=n+f /\
  (run c (ADq p f n)<n+f->c (at_ p (run c (ADq p f n))) (at_ p (run c (ADq p f n)-1))=true)
 | 0,n,_,h=>⟨h,AAB _,AAB _,λz=>absurd z (AAe _)⟩
 | f+1,n,h1,h=>by
  show Up c p (run c (if c (at_ p n) (at_ p (n-1))=true then .ret n else ADq p f (n+1)))/\n<=run c (if c (at_ p n) (at_ p (n-1))=true then .ret n else ADq p f (n+1)) /\
   run c (if c (at_ p n) (at_ p (n-1))=true then .ret n else ADq p f (n+1))<=n+(f+1)/\(run c (if c (at_ p n) (at_ p (n-1))=true then .ret n else ADq p f (n+1))<n+(f+1) ->
    c (at_ p (run c (if c (at_ p n) (at_ p (n-1))=true then .ret n else ADq p f (n+1)))) (at_ p (run c (if c (at_ p n) (at_ p (n-1))=true then .ret n else ADq p f (n+1))-1))=true)
  by_cases q:c (at_ p n) (at_ p (n-1))=true
  ·rw[if_pos q]
   exact⟨h,AAB _,Nat.le_add_right _ _,λ_=>q⟩
  ·rw[if_neg q]
   obtain⟨a1,a2,a3,a4⟩:=oN O f (n+1) (by lia) (h.snoc O h1 (by unfold le;simpa using q))
   exact⟨a1,by lia,by lia,λz=>a4 (by lia)⟩
theorem cz:(AD8 p i j).size=p.size:=mirror_size _ _ _ _
def wC(c:Nat->Nat->Bool)(z n m:Nat)(r:Array Nat×Nat×Nat):Prop:=r.1.size=z/\Dn c r.1 r.2.1/\n<=r.2.1/\r.2.1<=m/\r.2.2+1<=r.2.1/\Eqs c r.1 (r.2.1-(r.2.2+1)) r.2.1
def kj(c:Nat->Nat->Bool)(z nrem:Nat)(r:Nat×Array Nat):Prop:=r.2.size=z/\Up c r.2 r.1/\1<=r.1/\r.1<=nrem
def oP(c:Nat->Nat->Bool)(p:Array Nat)(k m:Nat):Prop:=m<=k/\(∀i,i<m->le c (at_ p i) (at_ p k))/\∀i,m<=i->i<k->c (at_ p k) (at_ p i)=true
theorem gn(O:Ord c):∀(f:Nat) (p:Array Nat) (n q:Nat),q+1<=n->n+f<=p.size->Dn c p n->Eqs c p (n-(q+1)) n ->
  wC c p.size n (n+f) (run c (ABw f p n q))
 | 0,p,n,q,h1,h2,hd,he=>⟨rfl,hd,AAB _,AAB _,h1,he⟩
 | f+1,p,n,q,h1,h2,hd,he=>by
  have hn:n<=p.size:=by lia
  show wC c p.size n (n+(f+1)) (run c (if c (at_ p n) (at_ p (n-1))=true then(if q > 0 then ABw f (AD8 p (n-(q+1)) n) (n+1) 0 else ABw f p (n+1) 0)
   else .ask (at_ p (n-1)) (at_ p n) λd=>if d=true then .ret (p,n,q)else ABw f p (n+1) (q+1)))
  by_cases hc:c (at_ p n) (at_ p (n-1))=true
  ·rw[if_pos hc]
   by_cases hq:q > 0
   ·rw[if_pos hq]
    have hd':Dn c (AD8 p (n-(q+1)) n) (n+1):=by
     refine(hd.revEq O hn he).snoc O (by lia) ?_
     rw[dI hn,dI hn,if_neg (by lia),if_pos ⟨by lia,by lia⟩]
     exact le_trans O (le_of_lt O hc) (he _ _ (by lia) (by lia) (by lia) (by lia))
    have r:=gn O f (AD8 p (n-(q+1)) n) (n+1) 0 (by lia) (by rw[cz];lia) hd' (λi j a1 a2 a3 a4=>by
     have:i=n:=by lia
     have:j=n:=by lia
     subst_vars
     exact le_refl O _)
    obtain⟨a1,a2,a3,a4,a5,a6⟩:=r
    exact⟨a1.trans cz,a2,by lia,by lia,a5,a6⟩
   ·rw[if_neg hq]
    have r:=gn O f p (n+1) 0 (by lia) (by lia) (hd.snoc O (by lia) (le_of_lt O hc)) (λi j a1 a2 a3 a4=>by
     have:i=n:=by lia
     have:j=n:=by lia
     subst_vars
     exact le_refl O _)
    obtain⟨a1,a2,a3,a4,a5,a6⟩:=r
    exact⟨a1,a2,by lia,by lia,a5,a6⟩
  ·rw[if_neg hc]
   show wC c p.size n (n+(f+1)) (run c (if c (at_ p (n-1)) (at_ p n)=true then .ret (p,n,q)else ABw f p (n+1) (q+1)))
   by_cases hc':c (at_ p (n-1)) (at_ p n)=true
   ·rw[if_pos hc']
    exact⟨rfl,hd,AAB _,by show n<=_;lia,h1,he⟩
   ·rw[if_neg hc']
    have l1:le c (at_ p n) (at_ p (n-1)):=by unfold le;simpa using hc'
    have l2:le c (at_ p (n-1)) (at_ p n):=by unfold le;simpa using hc
    have r:=gn O f p (n+1) (q+1) (by lia) (by lia) (hd.snoc O (by lia) l1) (λi j a1 a2 a3 a4=>by
     by_cases hi:i=n
     ·by_cases hj:j=n
      ·subst hi hj;exact le_refl O _
      ·subst hi
       exact le_trans O l1 (he _ _ (by lia) (by lia) (by lia) (by lia))
     ·by_cases hj:j=n
      ·subst hj
       exact le_trans O (he _ _ (by lia) (by lia) (by lia) (by lia)) l2
      ·exact he _ _ (by lia) (by lia) (by lia) (by lia))
    obtain⟨a1,a2,a3,a4,a5,a6⟩:=r
    exact⟨a1,a2,by lia,by lia,a5,a6⟩
theorem kC(O:Ord c)(h1:1<=n)(hn:n<=nrem)(hz:nrem<=p.size)(hd:Dn c p n) :
  kj c p.size nrem (run c (kas_tail3 n nrem p)):=by
 unfold kas_tail3
 rw[dj]
 obtain⟨a1,a2,a3,_⟩:=oN O (nrem-n) n h1 (hd.rev (by lia))
 exact⟨cz,a1,AAh h1 a2,AAh a3 (by lia)⟩
theorem fF(O:Ord c)(h1:1<=n)(hn:n+1<=nrem)(hz:nrem<=p.size)(he:Eqs c p 0 n)(hc:c (at_ p n) (at_ p (n-1))=true) :
  kj c p.size nrem (run c (AE0 n nrem p)):=by
 have hd:Dn c p (n+1):=by
  refine Dn.snoc O (λi j hij hj=>he _ _ (by lia) (by lia) (by lia) (by lia)) h1 (le_of_lt O hc)
 unfold AE0
 rw[dj]
 obtain⟨b1,b2,b3,b4,b5,b6⟩:=gn O (nrem-(n+1)) p (n+1) 0 (by lia) (by lia) hd (λi j a1 a2 a3 a4=>by
  have:i=n:=by lia
  have:j=n:=by lia
  subst_vars
  exact le_refl O _)
 by_cases hq:(run c (ABw (nrem-(n+1)) p (n+1) 0)).2.2 > 0
 ·rw[if_pos hq]
  obtain⟨d1,d2,d3,d4⟩:=kC O (p:=AD8 (run c (ABw (nrem-(n+1)) p (n+1) 0)).1 ((run c (ABw (nrem-(n+1)) p (n+1) 0)).2.1-((run c (ABw (nrem-(n+1)) p (n+1) 0)).2.2+1)) (run c (ABw (nrem-(n+1)) p (n+1) 0)).2.1)
   (n:=(run c (ABw (nrem-(n+1)) p (n+1) 0)).2.1) (nrem:=nrem) (by lia) (by lia) (by rw[cz,b1];exact hz) (b2.revEq O (by rw[b1];lia) b6)
  exact⟨d1.trans (cz.trans b1),d2,d3,d4⟩
 ·rw[if_neg hq]
  obtain⟨d1,d2,d3,d4⟩:=kC O (p:=(run c (ABw (nrem-(n+1)) p (n+1) 0)).1) (n:=(run c (ABw (nrem-(n+1)) p (n+1) 0)).2.1) (nrem:=nrem) (by lia) (by lia) (by rw[b1];exact hz) b2
  exact⟨d1.trans b1,d2,d3,d4⟩
theorem we(O:Ord c)(h1:1<=nrem)(hz:nrem<=p.size) :
  kj c p.size nrem (run c (kas_count nrem p)):=by
 unfold kas_count
 rw[dj]
 obtain⟨a1,a2,a3,a4⟩:=oN O (nrem-1) 1 (AAB _) (Up.one O p)
 generalize run c (ADq p (nrem-1) 1)=n at a1 a2 a3 a4
 by_cases hn:(n==nrem)=true
 ·rw[if_pos hn]
  exact⟨rfl,a1,a2,by show n<=nrem;lia⟩
 ·rw[if_neg hn]
  have hn':n≠nrem:=by simpa using hn
  have hlt:c (at_ p n) (at_ p (n-1))=true:=a4 (by lia)
  by_cases h2:n > 1
  ·rw[if_pos h2]
   show kj c p.size nrem (run c (if c (at_ p 0) (at_ p (n-1))=true then .ret (n,p)else AE0 n nrem (AD8 p 0 n)))
   by_cases hc:c (at_ p 0) (at_ p (n-1))=true
   ·rw[if_pos hc]
    exact⟨rfl,a1,a2,by show n<=nrem;lia⟩
   ·rw[if_neg hc]
    have hz':n<=p.size:=by lia
    have l0:le c (at_ p (n-1)) (at_ p 0):=by unfold le;simpa using hc
    have he:Eqs c p 0 n:=λi j b1 b2 b3 b4=>le_trans O (a1 i (n-1) (by lia) (by lia)) (le_trans O l0 (a1 0 j (by lia) b4))
    have he':Eqs c (AD8 p 0 n) 0 n:=λi j b1 b2 b3 b4=>by
     rw[dI hz',dI hz',if_pos ⟨b1,b2⟩,if_pos ⟨b3,b4⟩]
     exact he _ _ (by lia) (by lia) (by lia) (by lia)
    have hc':c (at_ (AD8 p 0 n) n) (at_ (AD8 p 0 n) (n-1))=true:=by
     rw[dI hz',dI hz',if_neg (by lia),if_pos ⟨by lia,by lia⟩]
     rcases O.neg _ (at_ p (0+n-1-(n-1))) _ hlt with z | z
     ·exact z
     ·have:=he (n-1) (0+n-1-(n-1)) (by lia) (by lia) (by lia) (by lia)
      unfold le at this
      rw[this]at z;cases z
    obtain⟨d1,d2,d3,d4⟩:=fF O (p:=AD8 p 0 n) (n:=n) (nrem:=nrem) (by lia) (by lia) (by rw[cz];exact hz) he' hc'
    exact⟨d1.trans cz,d2,d3,d4⟩
  ·rw[if_neg h2]
   have:n=1:=by lia
   subst this
   exact fF O (by lia) (by lia) hz (λi j b1 b2 b3 b4=>by
    have:i=0:=by lia
    have:j=0:=by lia
    subst_vars
    exact le_refl O _) hlt
theorem hZ(O:Ord c)(hu:Up c p k):∀(f l r:Nat),l<=r->r<=k->r-l<=f->(∀i,i<l->le c (at_ p i) (at_ p k))->(∀i,r<=i->i<k->c (at_ p k) (at_ p i)=true) ->
  oP c p k (run c (ADC p k f l r))
 | 0,l,r,h1,h2,h3,h4,h5=>⟨by show l<=k;lia,h4,λi a1 a2=>h5 i (by have a1':l<=i:=a1;lia) a2⟩
 | f+1,l,r,h1,h2,h3,h4,h5=>by
  show oP c p k (run c (if l ≥ r then .ret l else .ask (at_ p k) (at_ p ((l+r) / 2)) λc=>if c=true then ADC p k f l ((l+r) / 2)else ADC p k f ((l+r) / 2+1) r))
  by_cases hl:l ≥ r
  ·rw[if_pos hl]
   exact⟨by show l<=k;lia,h4,λi a1 a2=>h5 i (by have a1':l<=i:=a1;lia) a2⟩
  ·rw[if_neg hl]
   show oP c p k (run c (if c (at_ p k) (at_ p ((l+r) / 2))=true then ADC p k f l ((l+r) / 2)else ADC p k f ((l+r) / 2+1) r))
   by_cases hc:c (at_ p k) (at_ p ((l+r) / 2))=true
   ·rw[if_pos hc]
    refine hZ O hu f l ((l+r) / 2) (by lia) (by lia) (by lia) h4 λi a1 a2=>?_
    rcases O.neg _ (at_ p i) _ hc with z | z
    ·exact z
    ·have:=hu ((l+r) / 2) i a1 a2
     unfold le at this
     rw[this]at z;cases z
   ·rw[if_neg hc]
    have lm:le c (at_ p ((l+r) / 2)) (at_ p k):=by unfold le;simpa using hc
    refine hZ O hu f ((l+r) / 2+1) r (by lia) h2 (by lia) (λi hi=>?_) h5
    exact le_trans O (hu i ((l+r) / 2) (by lia) (by lia)) lm
theorem wu(O:Ord c)(hk:k<p.size)(hu:Up c p k)(hm:m<=k)(h1:∀i,i<m->le c (at_ p i) (at_ p k))(h2:∀i,m<=i->i<k->c (at_ p k) (at_ p i)=true):Up c (bubble p k (k-m)) (k+1):=by
 intro i j hij hj
 have e:k-(k-m)=m:=by lia
 rw[mM hk (by lia),mM hk (by lia),e]
 by_cases hi:i=m
 ·rw[if_pos hi]
  by_cases hjm:j=m
  ·rw[if_pos hjm];exact le_refl O _
  ·rw[if_neg hjm,if_pos ⟨by lia,by lia⟩]
   exact le_of_lt O (h2 _ (by lia) (by lia))
 ·rw[if_neg hi]
  by_cases hi2:m<i/\i<=k
  ·rw[if_pos hi2,if_neg (by lia),if_pos ⟨by lia,by lia⟩]
   exact hu _ _ (by lia) (by lia)
  ·rw[if_neg hi2]
   by_cases hjm:j=m
   ·rw[if_pos hjm];exact h1 i (by lia)
   ·rw[if_neg hjm]
    by_cases hj2:m<j/\j<=k
    ·rw[if_pos hj2]
     exact hu _ _ (by lia) (by lia)
    ·rw[if_neg hj2]
     exact hu _ _ hij (by lia)
theorem ww(O:Ord c):∀(f:Nat) (p:Array Nat) (k:Nat),k+f<=p.size->Up c p k->(run c (kas_bin f p k)).size=p.size/\Up c (run c (kas_bin f p k)) (k+f)
 | 0,p,k,_,h=>⟨rfl,h⟩
 | f+1,p,k,hz,h=>by
  show (run c ((ADC p k k 0 k).bind λl=>kas_bin f (bubble p k (k-l)) (k+1))).size=p.size/\Up c (run c ((ADC p k k 0 k).bind λl=>kas_bin f (bubble p k (k-l)) (k+1))) (k+(f+1))
  rw[dj]
  obtain⟨a1,a2,a3⟩:=hZ O h k 0 k (AAV _) (AAB _) (by lia) (λi hi=>absurd hi (Nat.not_lt_zero _)) λi a1 a2=>absurd a2 (by lia)
  obtain⟨b1,b2⟩:=ww O f (bubble p k (k-run c (ADC p k k 0 k))) (k+1) (by rw[bubble_size];lia) (wu O (by lia) h a1 a2 a3)
  exact⟨b1.trans (bubble_size _ _ _),by rw[show k+(f+1)=k+1+f by lia];exact b2⟩
theorem zL(O:Ord c)(h1:1<=n):(run c (ADx n)).size=n/\Up c (run c (ADx n)) n:=by
 have hs:(ABf (AAx n)).size=n:=by simp
 unfold ADx
 rw[dj]
 obtain⟨a1,a2,a3,a4⟩:=we O (p:=ABf (AAx n)) h1 (by rw[hs];exact AAB _)
 rw[hs]at a1
 generalize run c (kas_count n (ABf (AAx n)))=r at a1 a2 a3 a4
 by_cases hl:r.1<n
 ·rw[if_pos hl]
  obtain⟨b1,b2⟩:=ww O (n-max r.1 1) r.2 (max r.1 1) (by rw[a1];lia) (by rw[show max r.1 1=r.1 by lia];exact a2)
  exact⟨b1.trans a1,by rw[show n=max r.1 1+(n-max r.1 1) by lia];simpa using b2⟩
 ·rw[if_neg hl]
  have e1:r.1=n:=by lia
  rw[e1]at a2
  exact⟨a1,a2⟩
def Ent(n:Nat)(p:Array Nat):Prop:=p.toList.Perm (AAx n)
theorem Ent.lt(h:Ent n p)(h0:0<n)(k:Nat):at_ p k<n:=by
 unfold at_
 rw[AAw]
 cases e:p[k]? with
 | none=>simpa using h0
 | some x =>
  have:x∈p.toList:=by
   rw[<-ACG]at e
   exact AAc e
  have:=h.mem_iff.mp this
  simpa using this
theorem Ent.rev(h:Ent n p):Ent n (AD8 p i j):=(Array.perm_iff_toList_perm.mp (mirror_perm p i j ((j-i) / 2))).trans h
theorem Ent.bub(h:Ent n p):Ent n (bubble p i j):=(Array.perm_iff_toList_perm.mp (bubble_perm p i j)).trans h
section
variable{n:Nat}(h0:0<n)
theorem wx(h0:0<n)(h:Ent n p):∀(f k:Nat),Bd n (ADq p f k)
 | 0,_=>trivial
 | f+1,k=>⟨h.lt h0 _,h.lt h0 _,λb=>by cases b with
  | true=>exact trivial
  | false=>exact wx h0 h f (k+1)⟩
theorem jT(h0:0<n):∀(f:Nat) (p:Array Nat) (k q:Nat),Ent n p->Bd n (ABw f p k q)/\All (λr=>Ent n r.1) (ABw f p k q)
 | 0,p,k,q,h=>⟨trivial,h⟩
 | f+1,p,k,q,h=>by
  have key:∀b,(Bd n (if b=true then(if q > 0 then ABw f (AD8 p (k-(q+1)) k) (k+1) 0 else ABw f p (k+1) 0)
    else KasT.ask (p.getD (k-1) 0) (p.getD k 0) λd=>if d=true then KasT.ret (p,k,q)else ABw f p (k+1) (q+1)))/\All (λr=>Ent n r.1) (if b=true then(if q > 0 then ABw f (AD8 p (k-(q+1)) k) (k+1) 0 else ABw f p (k+1) 0)
    else KasT.ask (p.getD (k-1) 0) (p.getD k 0) λd=>if d=true then KasT.ret (p,k,q)else ABw f p (k+1) (q+1)):=λb=>by
   cases b with
   | true =>
    rw[if_pos rfl]
    by_cases hq:q > 0
    ·rw[if_pos hq];exact jT h0 f _ _ _ h.rev
    ·rw[if_neg hq];exact jT h0 f _ _ _ h
   | false =>
    rw[if_neg (by simp)]
    have a:=jT h0 f p (k+1) (q+1) h
    refine⟨⟨h.lt h0 _,h.lt h0 _,λb=>?_⟩,λb=>?_⟩
    ·cases b with
     | true=>exact trivial
     | false=>exact a.1
    ·cases b with
     | true=>exact h
     | false=>exact a.2
  exact⟨⟨h.lt h0 _,h.lt h0 _,λb=>(key b).1⟩,λb=>(key b).2⟩
theorem fX(h0:0<n)(h:Ent n p):Bd n (kas_tail3 k m p)/\All (λr=>Ent n r.2) (kas_tail3 k m p):=by
 have triv:∀{t:KasT Nat}{Q:Prop},Q->All (λ_=>Q) t:=λ{t Q} q=>by
  induction t with
  | ret a=>exact q
  | ask i j k ih=>exact λb=>ih b
 unfold kas_tail3
 exact⟨Bd.bindA _ (wx h0 h.rev _ _) (triv trivial),All.bind _ (triv h.rev)⟩
theorem cD(h0:0<n)(h:Ent n p):Bd n (AE0 k m p)/\All (λr=>Ent n r.2) (AE0 k m p):=by
 unfold AE0
 obtain⟨b1,b2⟩:=jT h0 (m-(k+1)) p (k+1) 0 h
 refine⟨Bd.bindA _ b1 (b2.mono (λr hr=>?_)),All.bind _ (b2.mono (λr hr=>?_))⟩
 ·by_cases hq:r.2.2 > 0
  ·rw[if_pos hq];exact(fX h0 hr.rev).1
  ·rw[if_neg hq];exact(fX h0 hr).1
 ·by_cases hq:r.2.2 > 0
  ·rw[if_pos hq];exact(fX h0 hr.rev).2
  ·rw[if_neg hq];exact(fX h0 hr).2
theorem yx(h0:0<n)(h:Ent n p):Bd n (kas_count m p)/\All (λr=>Ent n r.2) (kas_count m p):=by
 have triv:∀{t:KasT Nat}{Q:Nat->Prop},(∀a,Q a)->All Q t:=λ{t Q} q=>by
  induction t with
  | ret a=>exact q a
  | ask i j k ih=>exact λb=>ih b
 unfold kas_count
 refine⟨Bd.bindA _ (wx h0 h _ _) (triv λk=>?_),All.bind _ (triv λk=>?_)⟩
 ·by_cases h1:(k==m)=true
  ·rw[if_pos h1];exact trivial
  ·rw[if_neg h1]
   by_cases h2:k > 1
   ·rw[if_pos h2]
    refine⟨h.lt h0 _,h.lt h0 _,λb=>?_⟩
    cases b with
    | true=>exact trivial
    | false=>exact(cD h0 h.rev).1
   ·rw[if_neg h2];exact(cD h0 h).1
 ·by_cases h1:(k==m)=true
  ·rw[if_pos h1];exact h
  ·rw[if_neg h1]
   by_cases h2:k > 1
   ·rw[if_pos h2]
    intro b
    cases b with
    | true=>exact h
    | false=>exact(cD h0 h.rev).2
   ·rw[if_neg h2];exact(cD h0 h).2
theorem jE(h0:0<n)(h:Ent n p):∀(f l r:Nat),Bd n (ADC p k f l r)
 | 0,_,_=>trivial
 | f+1,l,r=>by
  show Bd n (if l ≥ r then KasT.ret l else KasT.ask (p.getD k 0) (p.getD ((l+r) / 2) 0) λc=>if c=true then ADC p k f l ((l+r) / 2)else ADC p k f ((l+r) / 2+1) r)
  by_cases hl:l ≥ r
  ·rw[if_pos hl];exact trivial
  ·rw[if_neg hl]
   refine⟨h.lt h0 _,h.lt h0 _,λb=>?_⟩
   cases b with
   | true=>exact jE h0 h f _ _
   | false=>exact jE h0 h f _ _
theorem qA(h0:0<n):∀(f:Nat) (p:Array Nat) (k:Nat),Ent n p->Bd n (kas_bin f p k)/\All (λr=>Ent n r) (kas_bin f p k)
 | 0,p,k,h=>⟨trivial,h⟩
 | f+1,p,k,h=>by
  have triv:∀{t:KasT Nat}{Q:Nat->Prop},(∀a,Q a)->All Q t:=λ{t Q} q=>by
   induction t with
   | ret a=>exact q a
   | ask i j k ih=>exact λb=>ih b
  exact⟨Bd.bindA _ (jE h0 h _ _ _) (triv λl=>(qA h0 f _ _ h.bub).1),All.bind _ (triv λl=>(qA h0 f _ _ h.bub).2)⟩
theorem sort_bd(h0:0<n):Bd n (ADx n)/\All (λr=>Ent n r) (ADx n):=by
 have h:Ent n (ABf (AAx n)):=by unfold Ent;simp
 obtain⟨b1,b2⟩:=yx h0 (m:=n) h
 unfold ADx
 refine⟨Bd.bindA _ b1 (b2.mono λr hr=>?_),All.bind _ (b2.mono λr hr=>?_)⟩
 ·by_cases hl:r.1<n
  ·rw[if_pos hl];exact(qA h0 _ _ _ hr).1
  ·rw[if_neg hl];exact trivial
 ·by_cases hl:r.1<n
  ·rw[if_pos hl];exact(qA h0 _ _ _ hr).2
  ·rw[if_neg hl];exact hr
end
theorem sort_list{α:Type}[Inhabited α]{lt:α->α->Bool}(xs:List α)(h1:1<=xs.length)(irr:∀a∈xs,lt a a=false)(tr:∀a∈xs,∀b∈xs,∀d∈xs,lt a b=true->lt b d=true->lt a d=true)
  (neg:∀a∈xs,∀b∈xs,∀d∈xs,lt a d=true->lt a b=true\/lt b d=true) :
  let c:=λi j=>if i<xs.length then(if j<xs.length then lt (xs.getD i default) (xs.getD j default)else true)else false
  let p:=run c (ADx xs.length)
  let ys:=p.toList.map λi=>xs.getD i default
  ys.Perm xs/\ys.Pairwise λa b=>lt b a=false:=by
 intro c p ys
 have mem:∀i,i<xs.length->xs.getD i default∈xs:=λi hi=>by
  rw[AAI,AA7 hi]
  exact AAy hi
 have O:Ord c:=by
  refine⟨λa=>?_,λa b d=>?_,λa b d=>?_⟩
  ·show (if a<xs.length then(if a<xs.length then lt _ _ else true)else false)=false
   by_cases ha:a<xs.length
   ·rw[if_pos ha,if_pos ha];exact irr _ (mem a ha)
   ·rw[if_neg ha]
  ·show (if a<xs.length then(if b<xs.length then lt _ _ else true)else false)=true->(if b<xs.length then(if d<xs.length then lt _ _ else true)else false)=true->(if a<xs.length then(if d<xs.length then lt _ _ else true)else false)=true
   by_cases ha:a<xs.length
   ·by_cases hb:b<xs.length
    ·by_cases hd:d<xs.length
     ·rw[if_pos ha,if_pos hb,if_pos hb,if_pos hd,if_pos ha,if_pos hd];exact tr _ (mem a ha) _ (mem b hb) _ (mem d hd)
     ·intro _ _;rw[if_pos ha,if_neg hd]
    ·rw[if_neg (show ¬b<xs.length from hb)]
     intro _ z
     rw[if_neg hb]at z;cases z
   ·intro z;rw[if_neg ha]at z;cases z
  ·show (if a<xs.length then(if d<xs.length then lt _ _ else true)else false)=true->(if a<xs.length then(if b<xs.length then lt _ _ else true)else false)=true\/(if b<xs.length then(if d<xs.length then lt _ _ else true)else false)=true
   by_cases ha:a<xs.length
   ·by_cases hb:b<xs.length
    ·by_cases hd:d<xs.length
     ·rw[if_pos ha,if_pos hd,if_pos ha,if_pos hb,if_pos hb,if_pos hd];exact neg _ (mem a ha) _ (mem b hb) _ (mem d hd)
     ·intro _;right;rw[if_pos hb,if_neg hd]
    ·intro _;left;rw[if_pos ha,if_neg hb]
   ·intro z;rw[if_neg ha]at z;cases z
 have hE:Ent xs.length p:=All.run _ (sort_bd (by lia)).2
 obtain⟨hs,hU⟩:=zL O h1
 refine⟨?_,?_⟩
 ·have e:(AAx xs.length).map (λi=>xs.getD i default)=xs:=by
   apply ADr
   intro i
   rw[AAU]
   by_cases hi:i<xs.length
   ·rw[List.getElem?_range hi]
    simp[AAI,AA7 hi]
   ·rw[ABo (by simpa using hi),ABo (by simpa using hi)]
    rfl
  have:=hE.map λi=>xs.getD i default
  rw[e]at this
  exact this
 ·show (p.toList.map λi=>xs.getD i default).Pairwise λa b=>lt b a=false
  rw[List.pairwise_iff_getElem]
  intro i j hi hj hij
  rw[AA6,ABg]at hi hj
  have hs':p.size=xs.length:=hs
  have l:=hU i j (by lia) (by lia)
  have hl:∀k,at_ p k<xs.length:=λk=>hE.lt (by lia) k
  unfold le at l
  have l':(if at_ p j<xs.length then(if at_ p i<xs.length then lt (xs.getD (at_ p j) default) (xs.getD (at_ p i) default)else true)else false)=false:=l
  rw[if_pos (hl j),if_pos (hl i)]at l'
  have ai:p.toList[i]=at_ p i:=by unfold at_;simp[Array.getD,hi]
  have aj:p.toList[j]=at_ p j:=by unfold at_;simp[Array.getD,hj]
  rw[ACF,ACF,ai,aj]
  exact l'
end
end Srt
namespace L2
open PySem PySem.Spec PyProof.Rows DL
def oQ(A:Around)(s:Shared)(x y:Value)(k:Bool):Prop:=∀(prog:Program) (w:World) (E:Value->Shared->Prop) (Q:Value->Shared->Prop),Q (.bool k) s->wpAny (model prog w) A (richCompare .Lt x y) Q E s
inductive LexAt(A:Around)(s:Shared):List Value->List Value->Bool->Prop
 | nn:LexAt A s [] [] false
 | nc {y:Value}{ys:List Value}:LexAt A s [] (y::ys) true
 | cn {x:Value}{xs:List Value}:LexAt A s (x::xs) [] false
 | eq {x y:Value}{xs ys:List Value}{k:Bool} (h:AD3 A s x y true) (t:LexAt A s xs ys k):LexAt A s (x::xs) (y::ys) k
 | ne {x y:Value}{xs ys:List Value}{k:Bool} (h:AD3 A s x y false) (t:oQ A s x y k):LexAt A s (x::xs) (y::ys) k
section
open PySem.SeqAt
open PySem.AutoSeq1 (wpAny_loadPart')
open PySem.MeetsSeq PySem.MeetsSeq2 PySem.MeetsSeq3
theorem ku(l b:Addr)(items items2:Array Value)(n n2:Nat)(dd dd2:Option Addr)(sl sl2:Array (Option Value))(k:Bool) :
  Meets (Builtin.«tuple.__lt__» ⟨[.ref l,.ref b],[]⟩)
   (λA R s=>s.heap.get? l=some (⟨.type "tuple",dd,.seq items n,sl⟩:Obj)/\s.heap.get? b=some { cls:=.type "tuple",dict:=dd2,data:=.seq items2 n2,slots:=sl2 } /\
    LexAt A.in1 s items.toList items2.toList k/\R (.ok (.ret (.bool k))) s) :=
 .of_wp λprog w A R s h=>by
  obtain⟨hp,g,d,tk,os⟩:=s;obtain⟨hl,hb,hx,h⟩:=h
  have f2:=AutoSeq1.sub_tuple_tuple
  wp_walk using ACw hl,ACw hb,wpAny_forIn_list _ (λaP b s'=>b.1=none/\s'=⟨hp,g,d,tk,os⟩/\∃(vs ws:List Value),aP=vs.zip ws /\
   LexAt A.in1 ⟨hp,g,d,tk,os⟩ vs ws k/\vs.length+items2.size=ws.length+items.size) _
  case turn =>
   rintro⟨y,x⟩ aP b s' ⟨hb',rfl,vs,ws,hz,hlex,hlen⟩
   cases hlex with
   | nn=>cases hz
   | nc=>cases hz
   | cn=>cases hz
   | eq he t =>
    rw[ABT]at hz
    injection hz with hyx hrest
    injection hyx with hy hx
    subst hy hx
    refine AA0 (he prog w _ _ ?_)
    wp_walk
    exact⟨rfl,rfl,_,_,hrest,t,by simp only[AAG]at hlen;lia⟩
   | ne he t =>
    rw[ABT]at hz
    injection hz with hyx hrest
    injection hyx with hy hx
    subst hy hx
    refine AA0 (he prog w _ _ ?_)
    have hri:=t prog w
    wp_walk using hri
    exact⟨_,rfl,by simpa using h⟩
  case fin =>
   rintro⟨b1,b2⟩ s' ⟨hb',rfl,vs,ws,hz,hlex,hlen⟩
   simp only at hb'
   subst hb'
   have hv:k=decide (items.size<items2.size):=by
    cases hlex with
    | nn=>simp only[AAY]at hlen;exact(dF_ (by lia)).symm
    | nc=>simp only[AAY,AAG]at hlen;exact(dT_ (by lia)).symm
    | cn=>simp only[AAY,AAG]at hlen;exact(dF_ (by lia)).symm
    | eq _ _=>rw[ABT]at hz;cases hz
    | ne _ _=>rw[ABT]at hz;cases hz
   rw[hv]at h
   wp_walk
   exact⟨_,rfl,by simpa [Builtin.Tuple.tupleCompareSizes]using h⟩
  case h =>
   exact⟨rfl,rfl,items.toList,items2.toList,rfl,hx,by simp;lia⟩
end
theorem oQ.tuples(hl:s.heap.IsTuple l items)(hb:s.heap.IsTuple b items2)(hu:A.units<cLine)(hx:LexAt A.in1 s items.toList items2.toList k):oQ A s (.ref l) (.ref b) k:=λprog w E Q h=>by
 obtain⟨⟨cls,dd,data,sl⟩,ho,hc,n,hd⟩:=id hl
 obtain⟨⟨cls2,dd2,data2,sl2⟩,ho2,hc2,n2,hd2⟩:=id hb
 simp only at hc hd hc2 hd2
 subst hc hd hc2 hd2
 exact richCompare_meets_room (op:=.Lt) ⟨_,ho,rfl⟩ ⟨_,ho2,rfl⟩ PySem.F.slot_tuple_lt PySem.F.entry_tuple_lt (PySem.F.args_tuple_lt_2 _ _) (ku l b items items2 n n2 dd dd2 sl sl2 k)
  ⟨ho,ho2,hx,show ACj k≠Value.notImplemented/\Q (.bool k) s from⟨(λx=>nomatch x),h⟩⟩ hu
noncomputable def lR(f g:D->D->Bool):List D->List D->Bool
 | [],[]=>false
 | [],_::_=>true
 | _::_,[]=>false
 | x::xs,y::ys=>if f x y=true then lR f g xs ys else g x y
noncomputable def ltD(M:Mem):Nat->D->D->Bool
 | _,.int a,.int b=>decide (a<b)
 | _,.str a,.str b=>fP a b
 | n+1,.tup xs,.tup ys=>lR (eqD M n) (ltD M n) xs ys
 | _,_,_=>false
noncomputable def wE(f g:D->D->Bool):List D->List D->Bool
 | x::xs,y::ys=>if f x y=true then wE f g xs ys else g x y
 | _,_=>true
noncomputable def eV(M:Mem):Nat->D->D->Bool
 | _,.int _,.int _=>true
 | _,.str _,.str _=>true
 | n+1,.tup xs,.tup ys=>wE (eqD M n) (eV M n) xs ys
 | _,_,_=>false
theorem oQ.ints(A:Around)(s:Shared)(a:Int)(t:Tok)(c:Int)(u:Tok):oQ A s (.int a t) (.int c u) (decide (a<c)):=λprog w E Q h=>HT.rcLt_int A s a t c u prog w E Q h
theorem oQ.texts(A:Around)(s:Shared)(a:Str)(t:Tok)(c:Str)(u:Tok):oQ A s (.str a t) (.str c u) (fP a c):=λprog w E Q h =>
 (PySem.P.lt_str (show Q (.bool (decide (a.cps.toList<c.cps.toList))) s from h):wpAny (model prog w) A (compareOp .Lt (.str a t) (.str c u)) Q E s)
theorem uC(I:Inv X pins σ H s)(sm:Sim X.K ρ M H):∀(n:Nat) (A:Around) (x y:D) (vx vy:V) (u v:Value),A.units+n<cLine->Rep X.K ρ H x vx->aR vx u->Rep X.K ρ H y vy->aR vy v->okD M n x=true->okD M n y=true->eV M n x y=true ->
  oQ A s u v (ltD M n x y):=by
 intro n
 induction n with
 | zero =>
  intro A x y vx vy u v hu r1 e1 r2 e2 o1 o2 cm
  cases r1 with
  | int a =>
   cases r2 with
   | int b=>obtain⟨t,rfl⟩:=e1;obtain⟨t',rfl⟩:=e2;exact oQ.ints A s a t b t'
   | _=>simp[eV]at cm
  | str a =>
   cases r2 with
   | str b=>obtain⟨t,rfl⟩:=e1;obtain⟨t',rfl⟩:=e2;exact oQ.texts A s a t b t'
   | _=>simp[eV]at cm
  | _=>simp[eV]at cm
 | succ n ih =>
  intro A x y vx vy u v hu r1 e1 r2 e2 o1 o2 cm
  have hu0:A.units<cLine:=by lia
  have hu1:A.in1.units+n<cLine:=by show A.units+1+n<cLine;lia
  have lex:∀(ds es:List D) (vs ws:List V) (its jts:List Value),Reps X.K ρ H ds vs->ay vs its->Reps X.K ρ H es ws->ay ws jts->ds.all (okD M n)=true->es.all (okD M n)=true->wE (eqD M n) (eV M n) ds es=true ->
    LexAt A.in1 s its jts (lR (eqD M n) (ltD M n) ds es):=by
   intro ds
   induction ds with
   | nil =>
    intro es vs ws its jts p1 q1 p2 q2 _ _ _
    cases p1;cases q1
    cases p2 with
    | nil=>cases q2;exact .nn
    | cons _ _=>cases q2;exact .nc
   | cons d ds hi =>
    intro es vs ws its jts p1 q1 p2 q2 k1 k2 k3
    cases p1 with
    | cons a1 p1 =>
     cases q1 with
     | cons b1 q1 =>
      cases p2 with
      | nil=>cases q2;exact .cn
      | @cons e _ es' _ a2 p2 =>
       cases q2 with
       | cons b2 q2 =>
        rw[ABY,AAK]at k1 k2
        have he:=(mj I sm n A.in1 d _ _ _ _ _ hu1 a1 b1 a2 b2 k1.1 k2.1).1
        rw[lR]
        rw[wE]at k3
        by_cases hq:eqD M n d e=true
        ·rw[hq]at he
         rw[if_pos hq]at k3 ⊢
         exact .eq he (hi _ _ _ _ _ p1 q1 p2 q2 k1.2 k2.2 k3)
        ·have hq':=ACT.mpr hq
         rw[hq']at he
         rw[if_neg hq]at k3 ⊢
         exact .ne he (ih A.in1 _ _ _ _ _ _ hu1 a1 b1 a2 b2 k1.1 k2.1 k3)
  cases r1 with
  | int a =>
   cases r2 with
   | int b=>obtain⟨t,rfl⟩:=e1;obtain⟨t',rfl⟩:=e2;exact oQ.ints A s a t b t'
   | _=>simp[eV]at cm
  | str a =>
   cases r2 with
   | str b=>obtain⟨t,rfl⟩:=e1;obtain⟨t',rfl⟩:=e2;exact oQ.texts A s a t b t'
   | _=>simp[eV]at cm
  | tup hq r =>
   cases r2 with
   | tup hq' r' =>
    cases e1;cases e2
    obtain⟨its,rr,pl,_⟩:=I.tuple hq
    obtain⟨jts,rr',pl',_⟩:=I.tuple hq'
    refine oQ.tuples pl pl' hu0 ?_
    exact lex _ _ _ _ _ _ r rr r' rr' (by simpa [okD]using o1) (by simpa [okD]using o2) cm
   | _=>simp[eV]at cm
  | _=>simp[eV]at cm
noncomputable def okP:Nat->D->Bool
 | _,.int _=>true
 | _,.str _=>true
 | n+1,.tup xs=>xs.all (okP n)
 | _,_=>false
noncomputable def Cv(f:D->List Int):List D->List Int
 | []=>[0]
 | x::xs=>1::(f x++Cv f xs)
noncomputable def enc:Nat->D->List Int
 | _,.int i=>[0,i]
 | _,.str x=>1::(x.cps.toList.map (λ(c:Nat)=>(c:Int)+1)++[0])
 | n+1,.tup xs=>2::Cv (enc n) xs
 | _,_=>[3]
def bA(x y:List Int):Prop:=∀a b,x++a<y++b
theorem bA.cons(i:Int)(h:bA x y):bA (i::x) (i::y):=λa b=>AB0.mpr (.inr ⟨rfl,h a b⟩)
theorem bA.head(x y:List Int)(h:i<j):bA (i::x) (j::y):=λa b=>AB0.mpr (.inl h)
theorem bA.lt(h:bA x y):x<y:=by have:=h [] [];simpa using this
theorem bA.pre(z:List Int)(h:bA x y):bA (z++x) (z++y):=by
 induction z with
 | nil=>exact h
 | cons i z ih=>exact ih.cons i
theorem bA.more(u v:List Int)(h:bA x y):bA (x++u) (y++v):=λa b=>by
 rw[ABO,ABO]
 exact h _ _
def Tri(x y:D)(n:Nat)(l:Bool)(r:Bool):Prop:=(x=y/\l=false/\r=false)\/(x≠y/\l=true/\r=false/\bA (enc n x) (enc n y))\/(x≠y/\l=false/\r=true/\bA (enc n y) (enc n x))
theorem mD:∀(x y:List Nat),(x=y)\/(x<y/\¬y<x/\bA (x.map (λ(c:Nat)=>(c:Int)+1)++[0]) (y.map (λ(c:Nat)=>(c:Int)+1)++[0]))\/(¬x<y/\y<x/\bA (y.map (λ(c:Nat)=>(c:Int)+1)++[0]) (x.map (λ(c:Nat)=>(c:Int)+1)++[0]))
 | [],[]=>.inl rfl
 | [],c::y=>.inr (.inl ⟨List.nil_lt_cons _ _,List.not_lt_nil _,bA.head _ _ (by dsimp only;lia)⟩)
 | c::x,[]=>.inr (.inr ⟨List.not_lt_nil _,List.nil_lt_cons _ _,bA.head _ _ (by dsimp only;lia)⟩)
 | c::x,e::y=>by
  rcases ADs c e with h | h | h
  ·refine .inr (.inl ⟨AB0.mpr (.inl h),λz=>?_,bA.head _ _ (by dsimp only;lia)⟩)
   rcases AB0.mp z with z | ⟨z,_⟩<;>lia
  ·subst h
   rcases mD x y with q | ⟨q1,q2,q3⟩|⟨q1,q2,q3⟩
   ·exact .inl (by rw[q])
   ·refine .inr (.inl ⟨AB0.mpr (.inr ⟨rfl,q1⟩),λz=>?_,q3.cons _⟩)
    rcases AB0.mp z with z | ⟨_,z⟩
    ·lia
    ·exact q2 z
   ·refine .inr (.inr ⟨λz=>?_,AB0.mpr (.inr ⟨rfl,q2⟩),q3.cons _⟩)
    rcases AB0.mp z with z | ⟨_,z⟩
    ·lia
    ·exact q1 z
  ·refine .inr (.inr ⟨λz=>?_,AB0.mpr (.inl h),bA.head _ _ (by dsimp only;lia)⟩)
   rcases AB0.mp z with z | ⟨z,_⟩<;>lia
theorem Fc(M:Mem):∀(n:Nat) (x y:D),okP n x=true->okP n y=true->(eqD M n x y=true↔x=y):=by
 have all:∀(n:Nat),(∀(x y:D),okP n x=true->okP n y=true->(eqD M n x y=true↔x=y))->∀(xs ys:List D),xs.all (okP n)=true->ys.all (okP n)=true->(eqL (eqD M n) xs ys=true↔xs=ys):=by
  intro n ih xs
  induction xs with
  | nil=>intro ys _ _;cases ys<;>simp[eqL]
  | cons x xs hi =>
   intro ys h1 h2
   cases ys with
   | nil=>simp[eqL]
   | cons y ys =>
    rw[ABY,AAK]at h1 h2
    rw[eqL,AAK,ih x y h1.1 h2.1,hi ys h1.2 h2.2,ACU]
 intro n
 induction n with
 | zero =>
  intro x y h1 h2
  cases x<;>simp[okP]at h1<;>cases y<;>simp[okP]at h2<;>simp[eqD]
 | succ n ih =>
  intro x y h1 h2
  cases x with
  | int a=>cases y<;>simp[okP]at h2<;>simp[eqD]
  | str a=>cases y<;>simp[okP]at h2<;>simp[eqD]
  | tup xs =>
   cases y with
   | tup ys =>
    simp only[eqD,D.tup.injEq]
    exact all n ih xs ys (by simpa [okP]using h1) (by simpa [okP]using h2)
   | int a=>simp[eqD]
   | str a=>simp[eqD]
   | _=>simp[okP]at h2
  | _=>simp[okP]at h1
theorem qc(M:Mem):∀(n:Nat) (x:D),okP n x=true->okD M n x=true:=by
 intro n
 induction n with
 | zero=>intro x h;cases x<;>simp[okP]at h<;>rfl
 | succ n ih =>
  intro x h
  cases x with
  | int a=>rfl
  | str a=>rfl
  | tup xs =>
   simp only[okD]
   rw[AAb]
   intro y hy
   exact ih y (AAb.mp (show xs.all (okP n)=true from h) y hy)
  | _=>simp[okP]at h
theorem zG(M:Mem):∀(n:Nat) (x y:D),okP n x=true->okP n y=true->eV M n x y=true->Tri x y n (ltD M n x y) (ltD M n y x):=by
 have base:∀(n:Nat) (a b:Int),Tri (.int a) (.int b) n (decide (a<b)) (decide (b<a)):=λn a b=>by
  have e:∀a,enc n (.int a)=[0,a]:=λa=>by cases n<;>rfl
  rcases Int.lt_trichotomy a b with h | h | h
  ·exact .inr (.inl ⟨by simp;lia,dT_ h,dF_ (by lia),by rw[e,e];exact(bA.head [] [] h).cons 0⟩)
  ·subst h;exact .inl ⟨rfl,dF_ (by lia),dF_ (by lia)⟩
  ·exact .inr (.inr ⟨by simp;lia,dF_ (by lia),dT_ h,by rw[e,e];exact(bA.head [] [] h).cons 0⟩)
 have bases:∀(n:Nat) (a b:Str),Tri (.str a) (.str b) n (fP a b) (fP b a):=λn a b=>by
  have e:∀a:Str,enc n (.str a)=1::(a.cps.toList.map (λ(c:Nat)=>(c:Int)+1)++[0]):=λa=>by cases n<;>rfl
  unfold fP
  rcases mD a.cps.toList b.cps.toList with h | ⟨h1,h2,h3⟩|⟨h1,h2,h3⟩
  ·have:a=b:=zJ h
   subst this
   exact .inl ⟨rfl,dF_ (ACl _),dF_ (ACl _)⟩
  ·exact .inr (.inl ⟨λz=>by cases z;exact h2 h1,dT_ h1,dF_ h2,by rw[e,e];exact h3.cons 1⟩)
  ·exact .inr (.inr ⟨λz=>by cases z;exact h1 h2,dF_ h1,dT_ h2,by rw[e,e];exact h3.cons 1⟩)
 intro n
 induction n with
 | zero =>
  intro x y h1 h2 h3
  cases x<;>simp[okP]at h1<;>cases y<;>simp[okP]at h2<;>first | exact base 0 _ _ | exact bases 0 _ _ | simp[eV]at h3
 | succ n ih =>
  intro x y h1 h2 h3
  have lists:∀(xs ys:List D),xs.all (okP n)=true->ys.all (okP n)=true->wE (eqD M n) (eV M n) xs ys=true ->
    (xs=ys/\lR (eqD M n) (ltD M n) xs ys=false/\lR (eqD M n) (ltD M n) ys xs=false) \/
    (xs≠ys/\lR (eqD M n) (ltD M n) xs ys=true/\lR (eqD M n) (ltD M n) ys xs=false/\bA (Cv (enc n) xs) (Cv (enc n) ys)) \/
    (xs≠ys/\lR (eqD M n) (ltD M n) xs ys=false/\lR (eqD M n) (ltD M n) ys xs=true/\bA (Cv (enc n) ys) (Cv (enc n) xs)):=by
   intro xs
   induction xs with
   | nil =>
    intro ys _ _ _
    cases ys with
    | nil=>exact .inl ⟨rfl,rfl,rfl⟩
    | cons y ys=>exact .inr (.inl ⟨by simp,rfl,rfl,bA.head _ _ (by decide)⟩)
   | cons x xs hi =>
    intro ys h1 h2 h3
    cases ys with
    | nil=>exact .inr (.inr ⟨by simp,rfl,rfl,bA.head _ _ (by decide)⟩)
    | cons y ys =>
     rw[ABY,AAK]at h1 h2
     rw[wE]at h3
     have qe:=Fc M n x y h1.1 h2.1
     have qe':=Fc M n y x h2.1 h1.1
     rw[lR,lR]
     by_cases hq:x=y
     ·subst hq
      rw[if_pos (qe.mpr rfl)]at h3
      rw[if_pos (qe.mpr rfl),if_pos (qe.mpr rfl)]
      rcases hi ys h1.2 h2.2 h3 with⟨a1,a2,a3⟩|⟨a1,a2,a3,a4⟩|⟨a1,a2,a3,a4⟩
      ·exact .inl ⟨by rw[a1],a2,a3⟩
      ·exact .inr (.inl ⟨λz=>a1 (AEd z).2,a2,a3,(a4.pre (enc n x)).cons 1⟩)
      ·exact .inr (.inr ⟨λz=>a1 (AEd z).2,a2,a3,(a4.pre (enc n x)).cons 1⟩)
     ·have n1:¬eqD M n x y=true:=λz=>hq (qe.mp z)
      have n2:¬eqD M n y x=true:=λz=>hq (qe'.mp z).symm
      rw[if_neg n1]at h3
      rw[if_neg n1,if_neg n2]
      rcases ih x y h1.1 h2.1 h3 with⟨a1,_⟩|⟨a1,a2,a3,a4⟩|⟨a1,a2,a3,a4⟩
      ·exact absurd a1 hq
      ·exact .inr (.inl ⟨λz=>hq (AEd z).1,a2,a3,(a4.more _ _).cons 1⟩)
      ·exact .inr (.inr ⟨λz=>hq (AEd z).1,a2,a3,(a4.more _ _).cons 1⟩)
  cases x with
  | int a=>cases y<;>simp[okP]at h2<;>first | exact base (n+1) _ _ | simp[eV]at h3
  | str a=>cases y<;>simp[okP]at h2<;>first | exact bases (n+1) _ _ | simp[eV]at h3
  | tup xs =>
   cases y with
   | tup ys =>
    rcases lists xs ys (by simpa [okP]using h1) (by simpa [okP]using h2) h3 with⟨a1,a2,a3⟩|⟨a1,a2,a3,a4⟩|⟨a1,a2,a3,a4⟩
    ·exact .inl ⟨by rw[a1],a2,a3⟩
    ·exact .inr (.inl ⟨λz=>a1 (D.tup.inj z),a2,a3,a4.cons 2⟩)
    ·exact .inr (.inr ⟨λz=>a1 (D.tup.inj z),a2,a3,a4.cons 2⟩)
   | _=>simp[eV]at h3
  | _=>simp[okP]at h1
theorem uB(h1:okP n x=true)(h2:okP n y=true)(h3:eV M n x y=true):ltD M n x y=decide (enc n x<enc n y):=by
 rcases zG M n x y h1 h2 h3 with⟨a1,a2,a3⟩|⟨a1,a2,a3,a4⟩|⟨a1,a2,a3,a4⟩
 ·subst a1;rw[a2,dF_ (ACl _)]
 ·rw[a2,dT_ a4.lt]
 ·rw[a2,dF_ (λz=>ACl _ (List.lt_trans z a4.lt))]
end L2
namespace L2
open PySem PySem.Spec PyProof.Rows DL PySem.W
theorem Inv.laidF(I:Inv X pins σ H s)(k:∀b u,b≠X.env.locals->s.heap.get? b=some u->h'.get? b=some u)(hn:s.heap.Ns X.env.locals m)(hn':h'.Ns X.env.locals m)
  (hp:s.heap.get? a=none) (fa:H a=none) (new:aY X.prog X.w (upd H a o) h' a o):Inv X pins σ (upd H a o) { s with heap:=h',toks:=t' }:=by
 have nea:∀b u,s.heap.get? b=some u->b≠a:=λb u e z=>by subst z;rw[hp]at e;cases e
 refine I.step (g':=s.gens) (d':=s.drawn) (ch:=[]) (λ_ z=>nomatch z) (λb u hL _ _ e _=>k b u hL e) (λb u hL _ _ e _=>⟨u.slots,k b u hL e⟩) (λb u _ e n=>by rw[av (nea b u e)];exact n) (λb u _ e=>?_)
  (λb xs q=>by rw[av (ad q fa)];exact q) (λb u xs q=>by rw[av (ad q fa)];exact q) (λb ps q=>⟨#[],by rw[av (ad q fa),q];simp⟩) (λm' hm=>?_) (λb w q=>?_) I.bare
 ·by_cases hb:b=X.env.locals
  ·subst hb
   obtain⟨o',_,_,ho,_⟩:=hn'
   exact⟨o',ho⟩
  ·exact⟨u,k b u hb e⟩
 ·have:m=m':=funext λx=>hn.agree hm x
  subst this
  exact hn'
 ·by_cases hb:b=a
  ·subst hb
   rw[aC]at q
   cases q
   exact new
  ·rw[av hb]at q
   refine(I.hok b w q).stay (λc v hc r=>k c v ?_ r) (λc z=>by rw[av (ad z fa)];exact z) λc xs z=>by rw[av (ad z fa)];exact z
   rcases hc with rfl | hc
   ·exact ad q I.free
   ·exact ad hc I.free
theorem Inv.keptF(I:Inv X pins σ H s)(k:∀b u,b≠X.env.locals->s.heap.get? b=some u->h'.get? b=some u)(hn:s.heap.Ns X.env.locals m)(hn':h'.Ns X.env.locals m):Inv X pins σ H { s with heap:=h',toks:=t' }:=by
 refine I.step (g':=s.gens) (d':=s.drawn) (ch:=[]) (λ_ z=>nomatch z) (λb u hL _ _ e _=>k b u hL e) (λb u hL _ _ e _=>⟨u.slots,k b u hL e⟩) (λb u _ e n=>n) (λb u _ e=>?_)
  (λb xs q=>q) (λb u xs q=>q) (λb ps q=>⟨#[],by rw[q];simp⟩) (λm' hm=>?_) (λb w q=>?_) I.bare
 ·by_cases hb:b=X.env.locals
  ·subst hb
   obtain⟨o',_,_,ho,_⟩:=hn'
   exact⟨o',ho⟩
  ·exact⟨u,k b u hb e⟩
 ·have:m=m':=funext λx=>hn.agree hm x
  subst this
  exact hn'
 ·refine(I.hok b w q).stay (λc v hc r=>k c v ?_ r) (λc z=>z) λc xs z=>z
  rcases hc with rfl | hc
  ·exact ad q I.free
  ·exact ad hc I.free
theorem lg{prog:Program}{w:World}{A:Around}{E:Value->Shared->Prop}{s:Shared}{l:Addr}{vs:List Value}{Q:Value->Shared->Prop}(hl:s.heap.IsList l vs.toArray)(h2:vs.length<2)
  (h:∀D h' n,s.heap.objs.size<=D->(∀b o,s.heap.get? b=some o->h'.get? b=some o)->h'.get? D=some { cls:=.type "list",data:=.seq vs.toArray n }->Q (.ref D) { s with heap:=h' }) :
  wpAny (model prog w) A (call (.builtin "sorted") ([AAZ l])) Q E s:=by
 have few:vs.length<=sizeLine:=by rw[ABQ];lia
 refine Calls.call_function_entry kind_sorted plain_sorted entry_sorted (args_sorted1 (.ref l)) ?_
 unfold Builtin.«sorted»
 refine AA0 (m:=checkCount "sorted" 1 1 _) (AA3 (AA0 (collect_list hl (AA0 (AD4 ?_ few)) few)))
 generalize hg:((s.heap.push (seqObj "list" #[] 0)).update s.heap.objs.size (AB2 (· ++ vs.toArray)))=g1
 have hsz:g1.objs.size=s.heap.objs.size+1:=by rw[<-hg,Heap.size_update,size_push']
 have k1:∀b o,s.heap.get? b=some o->g1.get? b=some o:=λb o q=>by
  have hlt:=AAD q
  rw[<-hg,ABK _ _ _ _ (AAH hlt),Heap.get?_push_ne _ _ _ (AAH hlt)]
  exact q
 show wpAny _ _ _ _ _ { s with heap:=g1.push (seqObj "list" vs.toArray 0) }
 have hoL:(g1.push (seqObj "list" vs.toArray 0)).get? g1.objs.size=some (seqObj "list" vs.toArray 0):=AAE _ rfl
 refine AA0 (AAW (AAu slot_list_sort (⟨_,hoL,rfl⟩) entry_list_sort ?body (args_list_sort (.ref _))))
 case body =>
  rw[list_sort_plain]
  refine AA0 (AE1 hoL rfl ?_)
  refine AA0 (AD5 hoL rfl ?_ (by rw[AAA,ABQ];lia) (AAV _))
  obtain⟨e1,ho1⟩:∃e1,((g1.push (seqObj "list" vs.toArray 0)).update g1.objs.size (AB2 λ_=>(#[]:Array Value))).get? g1.objs.size=some (seqObj "list" #[] e1):=⟨_,ACV hoL λ_=>#[]⟩
  refine AA0 (seqEpoch_at ho1 rfl (AA0 (wpAny_newTuple (AA0 (AD4 (AAW ?_) (AAV _))) few)))
  dsimp only
  have hv2:vs.toArray.size<2:=by rw[AAA];exact h2
  rw[if_pos hv2,if_pos hv2]
  refine AA0 (AA3 ?_)
  rw[StateT.run_pure]
  refine AA0 (AA3 ?_)
  dsimp only
  generalize hg3:(((g1.push (seqObj "list" vs.toArray 0)).update g1.objs.size (AB2 λ_=>(#[]:Array Value))).push (seqObj "tuple" vs.toArray 0)).push (seqObj "list" #[] 0)=g3
  have ho3:g3.get? g1.objs.size=some (seqObj "list" #[] e1):=by rw[<-hg3];exact AA4 _ (AA4 _ ho1)
  have k3:∀b o,b≠g1.objs.size->s.heap.get? b=some o->g3.get? b=some o:=λb o hb q=>by
   have q1:=k1 b o q
   rw[<-hg3]
   refine AA4 _ (AA4 _ ?_)
   rw[ABK _ _ _ _ hb]
   exact AA4 _ q1
  refine AA0 (seqEpoch_at ho3 rfl ?_)
  have eo:∀us:List Value,us.length<2->(us.toArray.zip us.toArray).map (·.2)=us.toArray:=λus hu=>by
   match us,hu with
   | [],_=>simp
   | [v],_=>simp
   | _::_::_,hu=>simp at hu;lia
  have eout:(arrOf (SortSt.mk' general' (vs.toArray.zip vs.toArray) #[] 7 none)).map (·.2)=vs.toArray:=eo vs h2
  rw[eout]
  refine AA0 (AD5 ho3 rfl ?_ (AAV _) (by rw[AAA,ABQ];lia))
  simp only[show failedOf (SortSt.mk' general' (vs.toArray.zip vs.toArray) #[] 7 none)=none from rfl,bne_self_eq_false,AAR,if_false]
  refine AA3 ⟨_,rfl,AA3 ⟨_,rfl,?_⟩⟩
  obtain⟨c2,hc2⟩:∃c2,(g3.update g1.objs.size (AB2 λ_=>vs.toArray)).get? g1.objs.size=some (seqObj "list" vs.toArray c2):=⟨_,ACV ho3 λ_=>vs.toArray⟩
  refine h g1.objs.size _ c2 (by lia) (λb o q=>?_) hc2
  have hb:b≠g1.objs.size:=AAH (by rw[hsz];exact ABi (AAD q))
  rw[ABK _ _ _ _ hb]
  exact k3 b o hb q
structure SrtOk(M:Mem)(xs:List D):Prop where
 len:xs.length<64
 ok:∀x∈xs,okP eqN x=true
 cm:∀x∈xs,∀y∈xs,eV M eqN x y=true
 kd:(∀x∈xs,∃z,x=.str z)\/(∀x∈xs,∃i,x=.int i)\/(∀x∈xs,∃z r,x=.tup (.str z::r))\/(∀x∈xs,∃i r,x=.tup (.int i::r))\/(∀x∈xs,∃z r,x=.tup (.tup z::r))
structure SrtG(M:Mem)(xs:List D):Prop where
 len:xs.length<64
 okd:∀x∈xs,okD M eqN x=true
 cm:∀x∈xs,∀y∈xs,eV M eqN x y=true
 kd:(∀x∈xs,∃z,x=.str z)\/(∀x∈xs,∃i,x=.int i)\/(∀x∈xs,∃z r,x=.tup (.str z::r))\/(∀x∈xs,∃i r,x=.tup (.int i::r))\/(∀x∈xs,∃z r,x=.tup (.tup z::r))
 od:∃en:D->List Int,∀a∈xs,∀b∈xs,ltD M eqN a b=decide (en a<en b)
theorem SrtOk.g(so:SrtOk M xs):SrtG M xs :=
 ⟨so.len,λx hx=>qc M _ _ (so.ok x hx),so.cm,so.kd,enc eqN,λa ha b hb=>uB (so.ok a ha) (so.ok b hb) (so.cm a ha b hb)⟩
def mO(M:Mem)(ys:List D):Prop:=ys.Pairwise λa b=>ltD M eqN b a=false
def tK:DRA:=λds M Q=>match ds with
 | [.ref n]=>∃xs,ap M n xs/\SrtG M xs/\∀ys,ys.Perm xs->mO M ys->Q (.ref M.length) (M++[.lst ys])
 | _=>False
theorem Reps.perm{K:AA1}{ρ:List Addr}{H:Hp}{ds:List D}{vs:List V}(r:Reps K ρ H ds vs)(is:List Nat)(hi:∀i∈is,i<ds.length):Reps K ρ H (is.map λi=>ds.getD i .non) (is.map λi=>vs.getD i .non):=by
 induction is with
 | nil=>exact .nil
 | cons i is ih =>
  have h:=hi i AAO
  obtain⟨v,e,rv⟩:=r.get (AA7 h)
  refine .cons ?_ (ih λj hj=>hi j (AA9 _ hj))
  show Rep K ρ H (ds.getD i .non) (vs.getD i .non)
  rw[AAI,AAI,e,AA7 h]
  exact rv
theorem ay.perm(r:ay vs us)(is:List Nat)(hi:∀i∈is,i<vs.length):ay (is.map λi=>vs.getD i .non) (is.map λi=>us.getD i .none):=by
 induction is with
 | nil=>exact .nil
 | cons i is ih =>
  have h:=hi i AAO
  obtain⟨v,e,rv⟩:=fW r (AA7 h)
  refine .cons ?_ (ih λj hj=>hi j (AA9 _ hj))
  show aR (vs.getD i .non) (us.getD i .none)
  rw[AAI,AAI,e,AA7 h]
  exact rv
instance:Inhabited D:=⟨.non⟩
theorem AA(o:HO)(x:aY P w H h a o):∃u,h.get? a=some u:=by
 cases o with
 | lst _=>obtain⟨_,_,_,_,e⟩:=x;exact⟨_,e⟩
 | tup _=>obtain⟨_,_,_,o,e,_⟩:=x;exact⟨o,e⟩
 | dK _=>obtain⟨_,_,_,_,_,_,_,e,_⟩:=x;exact⟨_,e⟩
 | dT _=>obtain⟨_,_,_,_,o,_,_,e,_⟩:=x;exact⟨o,e⟩
 | set _ _=>obtain⟨o,_,_,_,e,_⟩:=x;exact⟨_,e⟩
 | ins _ _ _=>obtain⟨_,_,_,e,_⟩:=x;exact⟨_,e⟩
 | own _=>exact x
 | xd _=>obtain⟨_,⟨_,_,_,e,_⟩,_⟩:=x;exact⟨_,e⟩
 | rng _ _=>obtain⟨_,_,_,e⟩:=x;exact⟨_,e⟩
 | frz _ _=>obtain⟨e,_⟩:=x;exact⟨_,e⟩
 | tbl _=>exact⟨_,x⟩
 | met _ _=>exact⟨_,x⟩
 | ext _=>obtain⟨_,e,_⟩:=x;exact e
theorem HOk.none(x:HOk P w H h)(e:h.get? a=none):H a=none:=by
 cases q:H a with
 | none=>rfl
 | some o =>
  exfalso
  obtain⟨u,hu⟩:=AA o (x a o q)
  rw[e]at hu;cases hu
theorem AI(I:Inv X pins σ H s)(sm:Sim X.K ρ M H)(n:Nat)(A:Around)(hu:A.units+n<cLine):∀(ds es:List D) (vs ws:List V) (its jts:List Value),Reps X.K ρ H ds vs->ay vs its->Reps X.K ρ H es ws->ay ws jts->ds.all (okD M n)=true->es.all (okD M n)=true ->
  wE (eqD M n) (eV M n) ds es=true->LexAt A s its jts (lR (eqD M n) (ltD M n) ds es):=by
 intro ds
 induction ds with
 | nil =>
  intro es vs ws its jts p1 q1 p2 q2 _ _ _
  cases p1;cases q1
  cases p2 with
  | nil=>cases q2;exact .nn
  | cons _ _=>cases q2;exact .nc
 | cons d ds hi =>
  intro es vs ws its jts p1 q1 p2 q2 k1 k2 k3
  cases p1 with
  | cons a1 p1 =>
   cases q1 with
   | cons b1 q1 =>
    cases p2 with
    | nil=>cases q2;exact .cn
    | @cons e _ es' _ a2 p2 =>
     cases q2 with
     | cons b2 q2 =>
      rw[ABY,AAK]at k1 k2
      have he:=(mj I sm n A d _ _ _ _ _ hu a1 b1 a2 b2 k1.1 k2.1).1
      rw[lR]
      rw[wE]at k3
      by_cases hq:eqD M n d e=true
      ·rw[hq]at he
       rw[if_pos hq]at k3 ⊢
       exact .eq he (hi _ _ _ _ _ p1 q1 p2 q2 k1.2 k2.2 k3)
      ·have hq':=ACT.mpr hq
       rw[hq']at he
       rw[if_neg hq]at k3 ⊢
       exact .ne he (uC I sm n A _ _ _ _ _ _ hu a1 b1 a2 b2 k1.1 k2.1 k3)
theorem xK(h:LexAt A s its jts k):∀(i:Nat),(b&&i==0)=false->(b&&i+1==0)=false->Q k s->KatLex prog w A b (decide (its.length<jts.length)) Q (its.zip jts) i s:=by
 have un:∀i:Nat,(b&&i+1==0)=false:=λi=>by cases b<;>simp
 induction h with
 | nn=>intro i _ _ q;exact q
 | nc=>intro i _ _ q;exact(show Q (decide (0<_+1)) s by rw[dT_ (Nat.succ_pos _)];exact q)
 | cn=>intro i _ _ q;exact(show Q (decide (_+1<0)) s by rw[dF_ (Nat.not_lt_zero _)];exact q)
 | @eq x y xs ys k he t ih =>
  intro i hb _ q
  refine kat_cons (he prog w _ _ (kat_yes ?_))
  have:=ih (i+1) (un i) (un (i+1)) q
  rw[show decide ((x::xs).length<(y::ys).length)=decide (xs.length<ys.length) by simp]
  exact this
 | @ne x y xs ys k he t =>
  intro i hb _ q
  refine kat_cons (he prog w _ _ (kat_no ?_))
  rw[hb]
  exact kat_one _ _ (t prog w _ _ q)
theorem vq(he:AD3 A s p q e)(hl:e=false->∀Q':Bool->Shared->Prop,Q' l s->wpAny (model prog w) A (oneLt' (b&&0==0) p q) Q' (λ_ _=>False) s)(ht:e=true->LexAt A s its jts k)(h:Q (if e=true then k else l) s) :
  KatLex prog w A b (decide ((p::its).length<(q::jts).length)) Q ((p::its).zip (q::jts)) 0 s:=by
 refine kat_cons (he prog w _ _ ?_)
 cases e with
 | true =>
  refine kat_yes ?_
  rw[show decide ((p::its).length<(q::jts).length)=decide (its.length<jts.length) by simp]
  exact xK (ht rfl) 1 (by cases b<;>rfl) (by cases b<;>rfl) h
 | false=>exact kat_no (hl rfl _ h)
section
variable{X:Cx}{pins:List (Addr×Obj)}{σ:St}{H:Hp}{s:Shared}{ρ:List Addr}{M:Mem}
theorem lP{M:Model}{h:Heap}{x:Str}{t:Tok}:Looks M h (typeOf (.str x t)) (.type "str"):=Looks.of_pure rfl
theorem lQ{M:Model}{h:Heap}{x:Int}{t:Tok}:Looks M h (typeOf (.int x t)) (.type "int"):=Looks.of_pure rfl
theorem Reps.getD'(r:Reps X.K ρ H ds vs)(rr:ay vs its)(h:i<ds.length):∃v,Rep X.K ρ H (ds.getD i default) v/\aR v (its.getD i .none)/\ds.getD i default∈ds:=by
 obtain⟨v,e,rv⟩:=r.get (AA7 h)
 obtain⟨u,e',ru⟩:=fW rr e
 refine⟨v,?_,?_,?_⟩
 ·rw[AAI,AA7 h];exact rv
 ·rw[AAI,e'];exact ru
 ·rw[AAI,AA7 h];exact AAy h
theorem Reps.mem(r:Reps X.K ρ H ds vs)(rr:ay vs its)(h:u∈its):∃d v,d∈ds/\Rep X.K ρ H d v/\aR v u:=by
 induction ds generalizing vs its with
 | nil=>cases r;cases rr;cases h
 | cons d0 ds ih =>
  cases r with
  | cons r1 r =>
   cases rr with
   | cons q1 q =>
    rcases(AAL (a:=u)).mp h with rfl | h
    ·exact⟨_,_,AAO,r1,q1⟩
    ·obtain⟨d,v,h1,h2,h3⟩:=ih r q h
     exact⟨d,v,AA9 _ h1,h2,h3⟩
theorem om(I:Inv X pins σ H s)(r:Reps X.K ρ H xs ws)(rr:ay ws its)(hx:∀x∈xs,∃f r,x=.tup (f::r)) :
  ∃fs,KatTups s.heap its fs/\fs.length=its.length/\∀u∈fs,∃d v,Rep X.K ρ H d v/\aR v u/\∃r,D.tup (d::r)∈xs:=by
 induction xs generalizing ws its with
 | nil=>cases r;cases rr;exact⟨[],.nil,rfl,λ_ z=>nomatch z⟩
 | cons d ds ih =>
  cases r with
  | cons r1 r =>
   cases rr with
   | cons q1 q =>
    obtain⟨fs,h1,h2,h3⟩:=ih r q λx hx'=>hx x (AA9 _ hx')
    obtain⟨f,aP,rfl⟩:=hx d AAO
    cases r1 with
    | tup hq rs =>
     cases q1
     obtain⟨its,rv,pl,hz⟩:=I.tuple hq
     cases rs with
     | cons a1 rs =>
      cases rv with
      | cons b1 rv =>
       obtain⟨o,ho,hc,n,hd⟩:=pl
       refine⟨_::fs,.cons ho hc hd rfl h1,by simp[h2],λu hu=>?_⟩
       rcases AAL.mp hu with rfl | hu
       ·exact⟨_,_,a1,b1,_,AAO⟩
       ·obtain⟨d,v,e1,e2,r',e3⟩:=h3 u hu
        exact⟨d,v,e1,e2,r',AA9 _ e3⟩
noncomputable def ltc(M:Mem)(xs:List D)(i j:Nat):Bool:=ltD M eqN (xs.getD i default) (xs.getD j default)
theorem gU(I:Inv X pins σ H s)(sm:Sim X.K ρ M H){xs:List D}{ws:List V}{its:List Value}(so:SrtG M xs)(r:Reps X.K ρ H xs ws)(rr:ay ws its)(h2:2<=its.length){A:Around}(hu:A.units+eqN<cLine) :
  wpAny (model X.prog X.w) A (keyKind' its.toArray) (λκ s'=>s'=s/\∀i j (C:Bool->Shared->Prop),i<its.length->j<its.length->C (ltc M xs i j) s->kas_ask X.prog X.w A κ its i j C s) (λ_ _=>False) s:=by
 have lw:=r.length
 have li:=rr.length
 have le:xs.length=its.length:=by lia
 have tups:∀(b:Bool),(∀x∈xs,∃f r,x=.tup (f::r))->(∀(f g:D) (vf vg:V) (p q:Value) (r r':List D),D.tup (f::r)∈xs->D.tup (g::r')∈xs->Rep X.K ρ H f vf->aR vf p->Rep X.K ρ H g vg->aR vg q ->
   (eqD M 29 f g=false->∀Q':Bool->Shared->Prop,Q' (ltD M 29 f g) s->wpAny (model X.prog X.w) A (oneLt' (b&&0==0) p q) Q' (λ_ _=>False) s)) ->
   ∀i j (C:Bool->Shared->Prop),i<its.length->j<its.length->C (ltc M xs i j) s->kas_ask X.prog X.w A (tuples' b) its i j C s:=by
  intro b hx hone i j C hi hj hc
  unfold kas_ask
  obtain⟨v1,r1,e1,m1⟩:=r.getD' rr (show i<xs.length by lia)
  obtain⟨v2,r2,e2,m2⟩:=r.getD' rr (show j<xs.length by lia)
  unfold ltc at hc
  have k1:=so.okd _ m1
  have k2:=so.okd _ m2
  have k3:=so.cm _ m1 _ m2
  generalize xs.getD i default=x at *
  generalize xs.getD j default=y at *
  obtain⟨f,rf,rfl⟩:=hx _ m1
  obtain⟨g,rg,rfl⟩:=hx _ m2
  cases r1 with
  | tup hq rs =>
   cases r2 with
   | tup hq' rs' =>
    generalize its.getD i .none=u1 at *
    generalize its.getD j .none=u2 at *
    cases e1;cases e2
    obtain⟨as,ra,pa,_⟩:=I.tuple hq
    obtain⟨bs,rb,pb,_⟩:=I.tuple hq'
    obtain⟨o,ho,_,n,hd⟩:=pa
    obtain⟨o',ho',_,n',hd'⟩:=pb
    refine kat_lt ho hd ho' hd' ?_
    cases rs with
    | cons a1 rs =>
     cases ra with
     | @cons _ p _ la b1 ra =>
      cases rs' with
      | cons a2 rs' =>
       cases rb with
       | @cons _ q _ lb b2 rb =>
        have hu':A.units+29<cLine:=by have:eqN=30:=rfl;lia
        have z1:okD M 29 f=true/\rf.all (okD M 29)=true:=by
         have:(f::rf).all (okD M 29)=true:=k1
         rwa [ABY,AAK]at this
        have z2:okD M 29 g=true/\rg.all (okD M 29)=true:=by
         have:(g::rg).all (okD M 29)=true:=k2
         rwa [ABY,AAK]at this
        have z3:(if eqD M 29 f g=true then wE (eqD M 29) (eV M 29) rf rg else eV M 29 f g)=true:=k3
        have he:=(mj I sm 29 A _ _ _ _ _ _ hu' a1 b1 a2 b2 z1.1 z2.1).1
        have hc':C (if eqD M 29 f g=true then lR (eqD M 29) (ltD M 29) rf rg else ltD M 29 f g) s:=hc
        cases hq3:eqD M 29 f g with
        | true =>
         rw[hq3]at he hc' z3
         have:=vq (prog:=X.prog) (w:=X.w) (b:=b) (Q:=C) (l:=true) he (λz=>nomatch z) (λ_=>AI I sm 29 A hu' _ _ _ _ _ _ rs ra rs' rb z1.2 z2.2 z3) hc'
         simpa using this
        | false =>
         rw[hq3]at he hc'
         have:=vq (prog:=X.prog) (w:=X.w) (b:=b) (Q:=C) (l:=ltD M 29 f g) (its:=la) (jts:=lb) (k:=true) he (λ_=>hone f g _ _ _ _ _ _ m1 m2 a1 b1 a2 b2 hq3) (λz=>nomatch z) hc'
         simpa using this
 have fin:∀(κ:SortKind),(∀i j (C:Bool->Shared->Prop),i<its.length->j<its.length->C (ltc M xs i j) s->kas_ask X.prog X.w A κ its i j C s)->(s=s/\∀i j (C:Bool->Shared->Prop),i<its.length->j<its.length->C (ltc M xs i j) s->kas_ask X.prog X.w A κ its i j C s):=λκ h=>⟨rfl,h⟩
 have eqn:A.units+29<cLine:=by have:eqN=30:=rfl;lia
 rcases so.kd with hk | hk | hk | hk | hk
 ·refine kas_kind (T:=.type "str") h2 (λu hu=>?_) (by decide) (by decide) (fin _ λi j C hi hj hc=>?_)
  ·obtain⟨d,v,m1,r1,e1⟩:=r.mem rr hu
   obtain⟨z,rfl⟩:=hk d m1
   cases r1
   obtain⟨t,rfl⟩:=e1
   exact lP
  ·unfold kas_ask
   obtain⟨v1,r1,e1,m1⟩:=r.getD' rr (show i<xs.length by lia)
   obtain⟨v2,r2,e2,m2⟩:=r.getD' rr (show j<xs.length by lia)
   unfold ltc at hc
   obtain⟨z,hz⟩:=hk _ m1
   obtain⟨z',hz'⟩:=hk _ m2
   rw[hz]at r1 hc
   rw[hz']at r2 hc
   cases r1;cases r2
   obtain⟨t,h1⟩:=e1
   obtain⟨t',h2⟩:=e2
   rw[h1,h2]
   exact kas_lt_str hc
 ·refine kas_kind (T:=.type "int") h2 (λu hu=>?_) (by decide) (by decide) (fin _ λi j C hi hj hc=>?_)
  ·obtain⟨d,v,m1,r1,e1⟩:=r.mem rr hu
   obtain⟨z,rfl⟩:=hk d m1
   cases r1
   obtain⟨t,rfl⟩:=e1
   exact lQ
  ·unfold kas_ask
   obtain⟨v1,r1,e1,m1⟩:=r.getD' rr (show i<xs.length by lia)
   obtain⟨v2,r2,e2,m2⟩:=r.getD' rr (show j<xs.length by lia)
   unfold ltc at hc
   obtain⟨z,hz⟩:=hk _ m1
   obtain⟨z',hz'⟩:=hk _ m2
   rw[hz]at r1 hc
   rw[hz']at r2 hc
   cases r1;cases r2
   obtain⟨t,h1⟩:=e1
   obtain⟨t',h2⟩:=e2
   rw[h1,h2]
   exact kat_lt_int hc
 ·obtain⟨fs,t1,t2,t3⟩:=om I r rr λx hx=>(hk x hx).elim λz ⟨r,e⟩=>⟨_,_,e⟩
  refine kat_kind (T:=.type "str") t1 (by lia) (λu hu=>?_) (by decide) (fin _ (tups _ (λx hx=>(hk x hx).elim λz ⟨r,e⟩=>⟨_,_,e⟩) λf g vf vg p q r r' m1 m2 r1 e1 r2 e2 hq Q' h=>?_))
  ·obtain⟨d,v,r1,e1,r',m1⟩:=t3 u hu
   obtain⟨z,r'',e⟩:=hk _ m1
   cases e
   cases r1
   obtain⟨t,rfl⟩:=e1
   exact lP
  ·obtain⟨z,_,e⟩:=hk _ m1
   cases e
   obtain⟨z',_,e'⟩:=hk _ m2
   cases e'
   cases r1;cases r2
   obtain⟨t,rfl⟩:=e1
   obtain⟨t',rfl⟩:=e2
   exact oneLt_str h
 ·obtain⟨fs,t1,t2,t3⟩:=om I r rr λx hx=>(hk x hx).elim λz ⟨r,e⟩=>⟨_,_,e⟩
  refine kat_kind (T:=.type "int") t1 (by lia) (λu hu=>?_) (by decide) (fin _ (tups _ (λx hx=>(hk x hx).elim λz ⟨r,e⟩=>⟨_,_,e⟩) λf g vf vg p q r r' m1 m2 r1 e1 r2 e2 hq Q' h=>?_))
  ·obtain⟨d,v,r1,e1,r',m1⟩:=t3 u hu
   obtain⟨z,r'',e⟩:=hk _ m1
   cases e
   cases r1
   obtain⟨t,rfl⟩:=e1
   exact lQ
  ·obtain⟨z,_,e⟩:=hk _ m1
   cases e
   obtain⟨z',_,e'⟩:=hk _ m2
   cases e'
   cases r1;cases r2
   obtain⟨t,rfl⟩:=e1
   obtain⟨t',rfl⟩:=e2
   exact oneLt_int h
 ·obtain⟨fs,t1,t2,t3⟩:=om I r rr λx hx=>(hk x hx).elim λz ⟨r,e⟩=>⟨_,_,e⟩
  refine kat_kind (T:=.type "tuple") t1 (by lia) (λu hu=>?_) (by decide) (fin _ (tups _ (λx hx=>(hk x hx).elim λz ⟨r,e⟩=>⟨_,_,e⟩) λf g vf vg p q r r' m1 m2 r1 e1 r2 e2 hq Q' h=>?_))
  ·obtain⟨d,v,r1,e1,r',m1⟩:=t3 u hu
   obtain⟨z,r'',e⟩:=hk _ m1
   cases e
   cases r1 with
   | tup hq rs =>
    cases e1
    obtain⟨_,_,pl,_⟩:=I.tuple hq
    obtain⟨o,ho,hc,_⟩:=pl
    rw[<-hc]
    exact(show Looks _ s.heap (typeOf (.ref _)) o.cls from(Looks.ld ho).andThen .now)
  ·have k1:okD M 29 f=true:=by
    have:(f::r).all (okD M 29)=true:=so.okd _ m1
    rw[ABY,AAK]at this
    exact this.1
   have k2:okD M 29 g=true:=by
    have:(g::r').all (okD M 29)=true:=so.okd _ m2
    rw[ABY,AAK]at this
    exact this.1
   have k3:(if eqD M 29 f g=true then wE (eqD M 29) (eV M 29) r r' else eV M 29 f g)=true:=so.cm _ m1 _ m2
   rw[hq]at k3
   exact kat_one _ _ (uC I sm 29 A _ _ _ _ _ _ eqn r1 e1 r2 e2 k1 k2 k3 _ _ _ _ h)
end
theorem Aq{xs:List D}{lt:D->D->Bool}{en:D->List Int}(e:∀a∈xs,∀b∈xs,lt a b=decide (en a<en b)):(∀a∈xs,lt a a=false)/\(∀a∈xs,∀b∈xs,∀d∈xs,lt a b=true->lt b d=true->lt a d=true)/\∀a∈xs,∀b∈xs,∀d∈xs,lt a d=true->lt a b=true\/lt b d=true:=by
 refine⟨λa ha=>?_,λa ha b hb d hd h1 h2=>?_,λa ha b hb d hd h=>?_⟩
 ·rw[e a ha a ha,dF_ (ACl _)]
 ·rw[e a ha b hb,decide_eq_true_eq]at h1
  rw[e b hb d hd,decide_eq_true_eq]at h2
  rw[e a ha d hd,decide_eq_true_eq]
  exact List.lt_trans h1 h2
 ·rw[e a ha d hd,decide_eq_true_eq]at h
  rw[e a ha b hb,e b hb d hd,decide_eq_true_eq,decide_eq_true_eq]
  by_cases z:en a<en b
  ·exact .inl z
  ·have z':en b<=en a:=z
   exact .inr (List.lt_of_le_of_lt z' h)
theorem Ar{xs:List D}(so:SrtG M xs):(∀a∈xs,ltD M eqN a a=false)/\(∀a∈xs,∀b∈xs,∀d∈xs,ltD M eqN a b=true->ltD M eqN b d=true->ltD M eqN a d=true)/\∀a∈xs,∀b∈xs,∀d∈xs,ltD M eqN a d=true->ltD M eqN a b=true\/ltD M eqN b d=true :=
 so.od.elim λ_ e=>Aq e
theorem tF{l:Addr}{xs:List D}{ws:List V}{its:List Value}{R:VK}{lt:D->D->Bool}(I:Inv X pins σ H s)(sm:Sim X.K ρ M H)
  (keys:∀h',Inv X pins σ H { s with heap:=h' }->wpAny (model X.prog X.w) X.A.in1.in1 (keyKind' its.toArray) (λκ s'=>s'={ s with heap:=h' }/\∀i j (C:Bool->Shared->Prop),i<its.length->j<its.length->C (lt (xs.getD i default) (xs.getD j default)) { s with heap:=h' }->kas_ask X.prog X.w X.A.in1.in1 κ its i j C { s with heap:=h' }) (λ_ _=>False) { s with heap:=h' })
  (o1:∀a∈xs,lt a a=false) (o2:∀a∈xs,∀b∈xs,∀d∈xs,lt a b=true->lt b d=true->lt a d=true) (o3:∀a∈xs,∀b∈xs,∀d∈xs,lt a d=true->lt a b=true\/lt b d=true) (r:Reps X.K ρ H xs ws) (rr:ay ws its) (hl:s.heap.IsList l its.toArray) (hz:ws.length<=sizeLine) (h2:2<=its.length) (h64:its.length<64)
  (hne:l≠X.env.locals) (kk:∀v H',((∀Q:DK,(∀ys,ys.Perm xs->(ys.Pairwise λa b=>lt b a=false)->Q (.ref M.length) (M++[.lst ys]))->VQ X.K ρ H Q v H'))->R v H') :
  wpAny (model X.prog X.w) X.A (call (.builtin "sorted") [.ref l]) (EP X pins σ R) X.xe s:=by
 obtain⟨m,hn,hm⟩:=I.loc
 have lw:=r.length
 have li:=rr.length
 obtain⟨ol,hol,_⟩:=id hl
 have mem:∀a o,(a,o)∈[]++(l,ol)::Att.ledger s.heap X.env.locals l↔a≠X.env.locals/\s.heap.get? a=some o:=λa o=>by
  rw[AAr,AAL,Att.mem_ledger]
  constructor
  ·rintro(h | ⟨h1,_,h3⟩)
   ·cases h;exact⟨hne,hol⟩
   ·exact⟨h1,h3⟩
  ·rintro⟨h1,h2⟩
   by_cases hal:a=l
   ·subst hal
    rw[hol]at h2;cases h2
    exact .inl rfl
   ·exact .inr ⟨h1,hal,h2⟩
 refine kat_sorted (Att.fr_all hn) (Att.news_ledger hne hol) hl h2 h64 λD e1 h' F' N' lw'=>?_
 have kp:∀b u,b≠X.env.locals->s.heap.get? b=some u->h'.get? b=some u:=λb u hb e=>(N' (b,u) (AA9 _ ((mem b u).mpr ⟨hb,e⟩))).1
 have hDL:D≠X.env.locals:=(N' _ AAO).2.1
 have hD:s.heap.get? D=none:=by
  cases q:s.heap.get? D with
  | none=>rfl
  | some o=>exact absurd (lw' (D,o) ((mem D o).mpr ⟨hDL,q⟩)) (AAe _)
 have I':Inv X pins σ H { s with heap:=h' }:=I.keptF (t':=s.toks) kp hn F'.ns
 refine AAl (keys h' I') (λκ s' hk=>?_) λ_ _ x=>x
 obtain⟨rfl,hask⟩:=hk
 refine Srt.wp_run (n:=its.length) (c:=λi j=>if i<xs.length then(if j<xs.length then lt (xs.getD i default) (xs.getD j default)else true)else false) (λi j C hi hj hc=>?_) _ (Srt.sort_bd (by lia)).1 ?_
 ·refine hask i j C hi hj ?_
  rw[if_pos (by lia),if_pos (by lia)]at hc
  exact hc
 ·have hent:=Srt.All.run (c:=λi j=>if i<xs.length then(if j<xs.length then lt (xs.getD i default) (xs.getD j default)else true)else false) _ (Srt.sort_bd (n:=its.length) (by lia)).2
  have hsl:=Srt.sort_list xs (by lia) o1 o2 o3
  try dsimp only at hsl
  rw[show xs.length=its.length by lia]at hsl hent ⊢
  generalize Srt.run _ (ADx its.length)=p at hent hsl ⊢
  have hi:∀i∈p.toList,i<xs.length:=λi h=>by
   have:=hent.mem_iff.mp h
   rw[ABV]at this
   lia
  refine KasFin.intro F' N' (UpdF.head λq hq=>AAH (lw' q hq)) λh2 c F2 N2=>?_
  have r':=r.perm p.toList hi
  have rr':=rr.perm p.toList (λi h=>by have:=hi i h;lia)
  have hD':H D=none:=HOk.none I.hok hD
  refine⟨.ref D,_,I.laidF (t':=s.toks) (o:=.lst (p.toList.map λi=>ws.getD i .non)) (λb u hb e=>(N2 (b,u) (AA9 _ ((mem b u).mpr ⟨hb,e⟩))).1) hn F2.ns hD hD' ⟨?_,_,c,rr',(N2 _ AAO).1⟩,rfl,
   kk _ _ λQ hQ=>VQ.laidL sm .refl r' hD' (hQ _ hsl.1 hsl.2)⟩
  rw[AA6]
  have:=hsl.1.length_eq
  rw[AA6]at this
  lia
theorem su{X:Cx}(hr:Room k X.A):X.A.in1.in1.units+eqN<cLine:=by
 have:=hr.un
 have:eqN=30:=rfl
 show X.A.units+1+1+eqN<cLine
 lia
theorem wS{k:Nat}{l:Addr}{xs:List D}{ws:List V}{its:List Value}{R:VK}(hr:Room k X.A)(I:Inv X pins σ H s)(sm:Sim X.K ρ M H)(so:SrtG M xs)(r:Reps X.K ρ H xs ws)(rr:ay ws its)(hl:s.heap.IsList l its.toArray)(hz:ws.length<=sizeLine)(h2:2<=its.length)(h64:its.length<64)
  (hne:l≠X.env.locals) (kk:∀v H',((∀Q:DK,(∀ys,ys.Perm xs->mO M ys->Q (.ref M.length) (M++[.lst ys]))->VQ X.K ρ H Q v H'))->R v H') :
  wpAny (model X.prog X.w) X.A (call (.builtin "sorted") [.ref l]) (EP X pins σ R) X.xe s :=
 have o:=Ar so
 tF (lt:=ltD M eqN) I sm (λ_ I'=>gU I' sm so r rr h2 (su hr)) o.1 o.2.1 o.2.2 r rr hl hz h2 h64 hne kk
theorem Inv.sqL_ne(I:Inv X pins σ H s)(h:SqL X.K H a xs):a≠X.env.locals:=by
 rcases h with h | ⟨o,its,n,hk,_⟩
 ·rcases h with h | ⟨_,h⟩
  ·exact ad h I.free
  ·exact ad h I.free
 ·have:=AAD (I.mod.kin a o hk)
  exact AAH (AAQ this (AAh I.ok.bsz I.ok.above))
theorem wk(hr:Room k X.A):eU X (.builtin "sorted") tK:=by
 rintro pins s σ H vs us R I rv ⟨ds,M,ρ,Q,sm,rs,q,kk⟩
 unfold tK at q
 split at q
 ·obtain⟨xs,hL,so,q⟩:=q
  cases rs with
  | cons r1 rs =>
   cases rs
   obtain⟨u,rfl,e1⟩:=ay.one rv
   cases r1 with
   | ref e =>
    cases e1
    obtain⟨ws,hq,r⟩:=ap.seq sm hL e
    obtain⟨its,rr,pl,hz⟩:=I.list hq
    have lw:=r.length
    have li:=rr.length
    by_cases h2:its.length<2
    ·refine lg pl.isList h2 λD h' n hD hk ho=>?_
     refine⟨.ref D,_,I.laid (t':=s.toks) (o:=.lst ws) hk hD ⟨hz,its,n,rr,ho⟩,rfl,kk _ _ (VQ.laidL sm .refl r (I.hok.fresh hD) (q xs (ADD _) ?_))⟩
     unfold mO
     match xs,(show xs.length<2 by lia) with
     | [],_=>exact ADn
     | [x],_=>exact ACc _ _
     | _::_::_,hx=>simp at hx;lia
    ·have h2':2<=its.length:=by lia
     have h64:its.length<64:=by have:=so.len;lia
     exact wS hr I sm so r rr pl.isList hz h2' h64 (I.sqL_ne hq) λv H' x=>kk v H' (x Q q)
 ·exact q.elim
structure ZA(z TI TO i1 i2:Addr)(f1 f2:List Addr):Prop where
 nd:[z,TI,TO,i1,i2].Nodup
 z1:z∉f1
 o1:TO∉f1
 y1:i2∉f1
 z2:z∉f2
 o2:TO∉f2
 x2:i1∉f2
theorem Inv.turnedL{t':Nat}{fp:List Addr}(I:Inv X pins σ H s)(hf:∀b∈fp,oR X pins H b)(k:∀b o,b∉fp->s.heap.get? b=some o->h'.get? b=some o):Inv X pins σ H { s with heap:=h',toks:=t' }:=by
 have nfp:∀b u,H b=some u->b∉fp:=λb u e z=>by rw[(hf b z).1]at e;cases e
 refine I.step (g':=s.gens) (d':=s.drawn) (ch:=fp) (λb hb=>⟨(hf b hb).2.2.2.1,(hf b hb).2.1,(hf b hb).2.2.2.2.1,(hf b hb).2.2.2.2.2⟩) (λb o _ _ hc e _=>k b o hc e) (λb o _ _ hc e _=>⟨o.slots,k b o hc e⟩) (λ_ _ _ _ n=>n)
  (λb o hc e=>⟨o,k b o hc e⟩) (λ_ _ e=>e) (λ_ _ _ e=>e) (λb ps e=>⟨#[],by rw[e];simp⟩) (λm hm=>?_) (λb u e=>?_) I.bare
 ·obtain⟨o,es,ep,ho,r⟩:=hm
  exact⟨o,es,ep,k _ o (λz=>(hf _ z).2.1 rfl) ho,r⟩
 ·refine(I.hok b u e).stay (λc v hc q=>k c v ?_ q) (λ_ q=>q) λ_ _ q=>q
  rcases hc with rfl | z
  ·exact nfp _ u e
  ·exact nfp _ _ z
theorem lz{K:AA1}{ρ:List Addr}{H:Hp}:∀xs:List Str,Reps K ρ H (xs.map D.str) (xs.map V.str)
 | []=>.nil
 | x::xs=>.cons (.str x) (lz xs)
theorem nQ{D:Addr}{vs:List Value}{n:Nat}{Q:Value->Shared->Prop}(ho:s.heap.get? D=some (seqObj "list" vs.toArray n))(h2:vs.length<2)
  (h:∀h' c,(∀b o,b≠D->s.heap.get? b=some o->h'.get? b=some o)->h'.get? D=some (seqObj "list" vs.toArray c)->Q .none { s with heap:=h' }):wpAny (model prog w) A (call (.builtin "list.sort") [.ref D]) Q E s:=by
 have few:vs.length<=sizeLine:=by rw[ABQ];lia
 refine AAu slot_list_sort (⟨_,ho,rfl⟩) entry_list_sort ?_ (args_list_sort (.ref D))
 rw[list_sort_plain]
 refine AA0 (AE1 ho rfl (AA0 (AD5 ho rfl ?_ (by rw[AAA];exact few) (AAV _))))
 obtain⟨e1,ho1⟩:∃e1,(s.heap.update D (AB2 λ_=>(#[]:Array Value))).get? D=some (seqObj "list" #[] e1):=⟨_,ACV ho λ_=>#[]⟩
 refine AA0 (seqEpoch_at ho1 rfl (AA0 (wpAny_newTuple (AA0 (AD4 (AAW ?_) (AAV _))) few)))
 dsimp only
 have hv2:vs.toArray.size<2:=by rw[AAA];exact h2
 rw[if_pos hv2,if_pos hv2]
 refine AA0 (AA3 ?_)
 rw[StateT.run_pure]
 refine AA0 (AA3 ?_)
 dsimp only
 generalize hg3:((s.heap.update D (AB2 λ_=>(#[]:Array Value))).push (seqObj "tuple" vs.toArray 0)).push (seqObj "list" #[] 0)=g3
 have ho3:g3.get? D=some (seqObj "list" #[] e1):=by rw[<-hg3];exact AA4 _ (AA4 _ ho1)
 have k3:∀b o,b≠D->s.heap.get? b=some o->g3.get? b=some o:=λb o hb q=>by
  rw[<-hg3]
  refine AA4 _ (AA4 _ ?_)
  rw[ABK _ _ _ _ hb]
  exact q
 refine AA0 (seqEpoch_at ho3 rfl ?_)
 have eo:∀us:List Value,us.length<2->(us.toArray.zip us.toArray).map (·.2)=us.toArray:=λus hu=>by
  match us,hu with
  | [],_=>simp
  | [v],_=>simp
  | _::_::_,hu=>simp at hu;lia
 have eout:(arrOf (SortSt.mk' general' (vs.toArray.zip vs.toArray) #[] 7 none)).map (·.2)=vs.toArray:=eo vs h2
 rw[eout]
 refine AA0 (AD5 ho3 rfl ?_ (AAV _) (by rw[AAA];exact Nat.le_succ_of_le few))
 simp only[show failedOf (SortSt.mk' general' (vs.toArray.zip vs.toArray) #[] 7 none)=none from rfl,bne_self_eq_false,AAR,if_false]
 obtain⟨c2,hc2⟩:∃c2,(g3.update D (AB2 λ_=>vs.toArray)).get? D=some (seqObj "list" vs.toArray c2):=⟨_,ACV ho3 λ_=>vs.toArray⟩
 refine AA3 ⟨_,rfl,h _ c2 (λb o hb q=>?_) hc2⟩
 rw[ABK _ _ _ _ hb]
 exact k3 b o hb q
theorem nu{k:Nat}{D:Addr}{xs:List L2.D}{ws:List V}{its:List Value}{R:VK}{h1:Heap}{tk n:Nat}{m:Str->Option Value}{A:Around}{E:Value->Shared->Prop}(hr:Room k X.A)(hA:A.units<=X.A.units+4)(I:Inv X pins σ H s)(sm:Sim X.K ρ M H)(so:SrtG M xs)(r:Reps X.K ρ H xs ws)(rr:ay ws its)
  (hn:s.heap.Ns X.env.locals m) (hn1:h1.Ns X.env.locals m) (kp1:∀b u,b≠X.env.locals->s.heap.get? b=some u->h1.get? b=some u) (hD:s.heap.get? D=none) (hne:D≠X.env.locals) (ho:h1.get? D=some (seqObj "list" its.toArray n))
  (kk:∀v H',((∀Q:DK,(∀ys,ys.Perm xs->mO M ys->Q (.ref M.length) (M++[.lst ys]))->VQ X.K ρ H Q v H'))->R v H') :
  wpAny (model X.prog X.w) A (call (.builtin "list.sort") [.ref D]) (λ_ s'=>EP X pins σ R (.ref D) s') E { s with heap:=h1,toks:=tk }:=by
 have lw:=r.length
 have li:=rr.length
 have l64:=so.len
 have hH:H D=none:=HOk.none I.hok hD
 have neD:∀b u,s.heap.get? b=some u->b≠D:=λb u e q=>by subst q;rw[hD]at e;cases e
 by_cases h2:its.length<2
 ·refine nQ ho h2 λh' c kp' ho'=>?_
  have hn':h'.Ns X.env.locals m:=by
   obtain⟨o,es,ep,e,aP⟩:=hn1
   exact⟨o,es,ep,kp' _ _ (ABG hne) e,aP⟩
  refine⟨.ref D,_,I.laidF (t':=tk) (o:=.lst ws) (λb u hb e=>kp' b u (neD b u e) (kp1 b u hb e)) hn hn' hD hH ⟨by rw[ABQ];lia,its,c,rr,ho'⟩,rfl,kk _ _ λQ hQ=>VQ.laidL sm .refl r hH (hQ xs (ADD _) ?_)⟩
  unfold mO
  match xs,(show xs.length<2 by lia) with
  | [],_=>exact ADn
  | [x],_=>exact ACc _ _
  | _::_::_,hx=>simp at hx;lia
 ·have h2':2<=its.length:=by lia
  have mem:∀a o,(a,o)∈Att.ledger h1 X.env.locals D↔a≠X.env.locals/\a≠D/\h1.get? a=some o:=λa o=>Att.mem_ledger
  have U:UpdF D (seqObj "list" its.toArray n) ([]++(D,seqObj "list" its.toArray n)::Att.ledger h1 X.env.locals D) λo'=>(D,o')::Att.ledger h1 X.env.locals D:=UpdF.head λp hp=>((mem p.1 p.2).mp hp).2.1
  refine kat_lsort (s:={ s with heap:=h1,toks:=tk }) (vs:=its) (Att.fr_all hn1) (Att.news_ledger hne ho) U rfl h2' (by lia) λe1 h' F' N'=>?_
  have kp:∀b u,b≠X.env.locals->s.heap.get? b=some u->h'.get? b=some u:=λb u hb e=>(N' (b,u) (AA9 _ ((mem b u).mpr ⟨hb,neD b u e,kp1 b u hb e⟩))).1
  have I':Inv X pins σ H { s with heap:=h',toks:=tk }:=I.keptF (t':=tk) kp hn F'.ns
  have hu:A.in1.units+eqN<cLine:=by
   have:=hr.un
   have:eqN=30:=rfl
   show A.units+1+eqN<cLine
   lia
  refine AAl (gU I' sm so r rr h2' hu) (λκ s' hk=>?_) λ_ _ x=>x
  obtain⟨rfl,hask⟩:=hk
  refine Srt.wp_run (n:=its.length) (c:=λi j=>if i<xs.length then(if j<xs.length then ltD M eqN (xs.getD i default) (xs.getD j default)else true)else false) (λi j C hi hj hc=>?_) _ (Srt.sort_bd (by lia)).1 ?_
  ·refine hask i j C hi hj ?_
   rw[if_pos (by lia),if_pos (by lia)]at hc
   exact hc
  ·have hent:=Srt.All.run (c:=λi j=>if i<xs.length then(if j<xs.length then ltD M eqN (xs.getD i default) (xs.getD j default)else true)else false) _ (Srt.sort_bd (n:=its.length) (by lia)).2
   obtain⟨o1,o2,o3⟩:=Ar so
   have hsl:=Srt.sort_list xs (by lia) o1 o2 o3
   try dsimp only at hsl
   rw[show xs.length=its.length by lia]at hsl hent ⊢
   generalize Srt.run _ (ADx its.length)=p at hent hsl ⊢
   have hi:∀i∈p.toList,i<xs.length:=λi h=>by
    have:=hent.mem_iff.mp h
    rw[ABV]at this
    lia
   refine KasFin.intro F' N' (UpdF.head λq hq=>((mem q.1 q.2).mp hq).2.1) λh2 c F2 N2=>?_
   have r':=r.perm p.toList hi
   have rr':=rr.perm p.toList (λi h=>by have:=hi i h;lia)
   refine⟨.ref D,_,I.laidF (t':=tk) (o:=.lst (p.toList.map λi=>ws.getD i .non)) (λb u hb e=>(N2 (b,u) (AA9 _ ((mem b u).mpr ⟨hb,neD b u e,kp1 b u hb e⟩))).1) hn F2.ns hD hH ⟨?_,_,c,rr',(N2 _ AAO).1⟩,rfl,
    kk _ _ λQ hQ=>VQ.laidL sm .refl r' hH (hQ _ hsl.1 hsl.2)⟩
   rw[AA6]
   have:=hsl.1.length_eq
   rw[AA6]at this
   rw[ABQ]
   lia
section
variable{K:AA1}{ρ:List Addr}{H:Hp}{M:Mem}
theorem Sim.writeD(S:Sim K ρ M H)(e1:ρ[n]?=some a)(hM:M[n]?=some (.dct kvs))(hH:H a=some (.dK kv))(r:Reps K ρ H (kvs'.map (·.2)) vs') :
  Sim K ρ (M.set n (.dct kvs')) (upd H a (.dK (jN (kvs'.map (·.1)) vs')))/\Grow K ρ H ρ (upd H a (.dK (jN (kvs'.map (·.1)) vs'))):=
 S.writeG e1 (λ⟨_,z⟩=>by rw[hM]at z;cases z) hH rfl λg=>⟨vs',aC,r.grow g⟩
noncomputable def pX(kvs:List (Str×D))(k:Str)(d:D):List (Str×D):=if (kvs.any λp=>decide (p.1=k))=true then kvs.map (λp=>if p.1=k then(p.1,d)else p)else kvs++[(k,d)]
theorem Bs(a b:Str):decide ((AC2 a:Key)=AC2 b)=decide (a=b):=zb a b
theorem qB:∀{kvs:List (Str×D)}{vs:List V},Reps K ρ H (kvs.map (·.2)) vs->((jN (kvs.map (·.1)) vs).any λkv=>decide (kv.1=AC2 k))=kvs.any λp=>decide (p.1=k)
 | [],_,_=>rfl
 | (k',d')::kvs,_,.cons h t=>by
  have ih:=qB (k:=k) t
  show (decide ((AC2 k':Key)=AC2 k)||(jN (kvs.map (·.1)) _).any _)=(decide (k'=k)||kvs.any _)
  rw[ih,Bs]
theorem qg(hd:Rep K ρ H d v):∀{kvs:List (Str×D)}{vs:List V},Reps K ρ H (kvs.map (·.2)) vs->∃vs',(jN (kvs.map (·.1)) vs).map (λkv=>if kv.1=AC2 k then(kv.1,v)else kv)=jN ((kvs.map λp=>if p.1=k then(p.1,d)else p).map (·.1)) vs'/\Reps K ρ H ((kvs.map λp=>if p.1=k then(p.1,d)else p).map (·.2)) vs'
 | [],_,.nil=>⟨[],rfl,.nil⟩
 | (k',d')::kvs,_,.cons (v:=v') h t=>by
  obtain⟨vs',e,r⟩:=qg (k:=k) hd t
  by_cases q:k'=k
  ·subst q
   refine⟨v::vs',?_,?_⟩
   ·simp only[AAN,if_true,jN,ABT]at e ⊢
    rw[e]
   ·simp only[AAN,if_true]
    exact .cons hd r
  ·have q':¬(AC2 k':Key)=AC2 k:=λz=>q (Sum.inr.inj z)
   refine⟨v'::vs',?_,?_⟩
   ·simp only[AAN,if_neg q,if_neg q',jN,ABT]at e ⊢
    rw[e]
   ·simp only[AAN,if_neg q]
    exact .cons h r
theorem ln:∀{kvs:List (Str×D)}{vs:List V},Reps K ρ H (kvs.map (·.2)) vs->jN (kvs.map (·.1)) vs++[(AC2 k,v)]=jN (kvs.map (·.1)++[k]) (vs++[v])
 | [],_,.nil=>rfl
 | (k',d')::kvs,_,.cons h t=>by
  have:=ln (k:=k) (v:=v) t
  simp only[AAN,jN,ABT,ACh]at this ⊢
  rw[this]
theorem zT(hd:Rep K ρ H d v)(r:Reps K ρ H (kvs.map (·.2)) vs):∃vs',mR (jN (kvs.map (·.1)) vs) (AC2 k) v=jN ((pX kvs k d).map (·.1)) vs'/\Reps K ρ H ((pX kvs k d).map (·.2)) vs':=by
 unfold mR pX
 rw[qB r]
 by_cases q:(kvs.any λp=>decide (p.1=k))=true
 ·rw[if_pos q,if_pos q]
  exact qg hd r
 ·rw[if_neg q,if_neg q]
  refine⟨vs++[v],?_,?_⟩
  ·rw[ln r,AAk]
   rfl
  ·rw[AAk]
   exact r.append (.cons hd .nil)
end
def rT(td ty tv:DTE):DTS:=λE S M=>tv S M λv M1=>td S M1 λx M2=>ty S M2 λy M3=>match x,y with
 | .ref n,.str k=>∃kvs,M3[n]?=some (.dct kvs)/\kvs.length<sizeLine/\E.nx S (M3.set n (.dct (pX kvs k v)))
 | _,_=>False
theorem BU{X:Cx}{o i value:Expr}{td ty tv:DTE}{pos pos':Pos}(hu:X.A.units+1<cLine)(ho:DE X o td)(hi:DE X i ty)(hv:DE X value tv)(hs:swapsWith value (some (.Subscript o i pos')) pos.line X.env=pure false):DS X (.Assign [.Subscript o i pos'] value pos) (rT td ty tv):=by
 refine PS.imp (zZ hu ho hi hv hs) ?_
 rintro E σ H ⟨S,M,ρ,F,s,sr,q,k⟩
 refine⟨S,M,ρ,_,s,sr,q,?_⟩
 rintro v H1 ⟨d,M1,ρ1,s1,g1,r1,q1⟩
 refine⟨S,M1,ρ1,_,s1,sr.grow g1,q1,?_⟩
 rintro x H2 ⟨e,M2,ρ2,s2,g2,r2,q2⟩
 refine⟨S,M2,ρ2,_,s2,(sr.grow g1).grow g2,q2,?_⟩
 rintro y H3 ⟨f,M3,ρ3,s3,g3,r3,q3⟩
 try dsimp only at q3
 split at q3
 ·obtain⟨kvs,hM,hl,q4⟩:=q3
  obtain⟨_,rfl,hn⟩:=Rep.inv_ref r2
  cases r3
  obtain⟨vs,hH,rr⟩:=s3.obj _ _ _ (aL g3.pre hn) hM
  obtain⟨vs',e1,rr'⟩:=zT ((r1.grow g2).grow g3) rr
  obtain⟨w1,w2⟩:=s3.writeD (aL g3.pre hn) hM hH rr'
  refine⟨_,_,rfl,.inl ⟨_,AC2 _,hH,rfl,?_,by rw[e1]⟩,k.nx σ _ (SQ.trans ((g1.trans g2).trans g3) ⟨S,_,ρ3,w1,w2,(((sr.grow g1).grow g2).grow g3).grow w2,q4⟩)⟩
  have:=rr.length
  rw[AA6]at this
  rw[jN,AA6,List.length_zip,AA6]
  lia
 ·exact q3.elim
def dq:DRA:=λds M Q=>match ds with
 | [.ref n]=>∃xs,(ap M n xs\/∃kvs,M[n]?=some (.dct kvs)/\xs=kvs.map λp=>.str p.1)/\SrtOk M xs/\∀ys,ys.Perm xs->mO M ys->Q (.ref M.length) (M++[.lst ys])
 | _=>False
theorem vh:∀{kvs:List (Str×D)}{vs:List V}{us:List (Key×Value)},kvs.length=vs.length->KV (jN (kvs.map (·.1)) vs) us->us.map (·.1)=kvs.map (λp=>(AC2 p.1:Key))
 | [],_,_,_,h=>by cases h;rfl
 | _::_,[],_,e,_=>by simp at e
 | p::kvs,v::vs,_,e,h=>by
  have h':KV ((AC2 p.1,v)::jN (kvs.map (·.1)) vs) _:=h
  cases h' with
  | cons a t =>
   rw[AAN,AAN,<-a.1,vh (by simpa using e) t]
theorem kt:∀(ks:List Str) (vs:List Value),vs.length=ks.length->(∀(j:Nat) (v:Value),vs[j]?=some v->∃k,ks[j]?=some k/\og (AC2 k) v=true)->ay (ks.map V.str) vs
 | [],[],_,_=>.nil
 | [],_::_,e,_=>by simp at e
 | _::_,[],e,_=>by simp at e
 | k::ks,v::vs,e,h=>by
  obtain⟨k',e1,e2⟩:=h 0 v rfl
  have:k=k':=by simpa using e1
  subst this
  rcases aQ e2 with⟨i,t,z,_⟩|⟨x,t,z,rfl⟩
  ·cases z
  ·cases z
   exact .cons ⟨t,rfl⟩ (kt ks vs (by simpa using e) λj u hj=>by simpa using h (j+1) u (by simpa using hj))
theorem rX{k:Nat}(hr:Room k X.A)(hc:X.calm=true):eU X (.builtin "sorted") dq:=by
 rintro pins s σ H vs us R I rv ⟨ds,M,ρ,Q,sm,rs,q,kk⟩
 unfold dq at q
 split at q
 ·obtain⟨xs,hL | ⟨kvs,hM,rfl⟩,so,q⟩:=q
  ·exact wk hr pins s σ H vs us R I rv ⟨_,M,ρ,Q,sm,rs,⟨xs,hL,so.g,q⟩,kk⟩
  ·first | have hzz:=Reps.inv_cons rs | have hzz:=ay.inv_cons rs
   clear rs
   obtain⟨_,_,rfl,r1,rs⟩:=hzz
   cases rs
   obtain⟨u,rfl,e1⟩:=ay.one rv
   obtain⟨a,rfl,e⟩:=Rep.inv_ref r1
   cases e1
   obtain⟨ws,hH,r⟩:=sm.obj _ _ _ e hM
   obtain⟨z1,z2,pvs,rel,dd⟩:=(show aY X.prog X.w H s.heap a (.dK _)from I.hok a _ hH)
   obtain⟨ep,hat⟩:=dd.dictAt
   obtain⟨m,hn,hm⟩:=I.loc
   have hne:a≠X.env.locals:=ad hH I.free
   obtain⟨oa,_,hoa,_⟩:=id hat
   have lk:kvs.length=ws.length:=by have:=r.length;rwa [AA6]at this
   have kk':=vh lk rel
   have lp:pvs.length=kvs.length:=by have:=congrArg AC9 kk';simpa using this
   have mem:∀b o,(b,o)∈[]++(a,oa)::Att.ledger s.heap X.env.locals a↔b≠X.env.locals/\s.heap.get? b=some o:=λb o=>by
    rw[AAr,AAL,Att.mem_ledger]
    constructor
    ·rintro(h | ⟨h1,_,h3⟩)
     ·cases h;exact⟨hne,hoa⟩
     ·exact⟨h1,h3⟩
    ·rintro⟨h1,h2⟩
     by_cases hal:b=a
     ·subst hal
      rw[hoa]at h2;cases h2
      exact .inl rfl
     ·exact .inr ⟨h1,hal,h2⟩
   refine kdu_sorted (kdl_dict (knd:=aX X.prog X.w) (kvs:=pvs) (ep:=ep) z2) (I.ok.hd hc) (Att.fr_all hn) (Att.news_ledger hne hoa) hat (by rw[lp,ABQ];have:=so.len;rw[AA6]at this;lia) λD h' tk vs F' N' lt hl hP=>?_
   have kp:∀b u,b≠X.env.locals->s.heap.get? b=some u->h'.get? b=some u:=λb u hb e=>(N' (b,u) (AA9 _ ((mem b u).mpr ⟨hb,e⟩))).1
   have hDL:D≠X.env.locals:=(N' _ AAO).2.1
   have hD:s.heap.get? D=none:=by
    cases q:s.heap.get? D with
    | none=>rfl
    | some o=>exact absurd (lt (D,o) ((mem D o).mpr ⟨hDL,q⟩)) (AAe _)
   have rvs:ay ((kvs.map (·.1)).map V.str) vs:=by
    refine kt _ _ (by rw[AA6];lia) λj v hj=>?_
    obtain⟨key,x,e1,e2⟩:=hP j v hj
    have e3:(pvs.map (·.1))[j]?=some key:=by rw[AAU,e1];rfl
    rw[kk',AAU]at e3
    cases e4:kvs[j]? with
    | none=>rw[e4]at e3;cases e3
    | some p =>
     rw[e4]at e3
     have:key=AC2 p.1:=(AAM e3).symm
     subst this
     exact⟨p.1,by rw[AAU,e4];rfl,e2⟩
   have rps:Reps X.K ρ H (kvs.map λp=>L2.D.str p.1) ((kvs.map (·.1)).map V.str):=by
    have:=lz (K:=X.K) (ρ:=ρ) (H:=H) (kvs.map (·.1))
    rw[ABE]at this
    exact this
   exact nu (n:=0) hr (by show X.A.units+1<=X.A.units+4;lia) I sm so.g rps rvs hn F'.ns kp hD hDL (N' _ AAO).1 λv H' x=>kk v H' (x Q q)
 ·exact q.elim
structure HGs(X:Cx)(es:List Expr)(t:Cs):Prop where
 ok:DGs X es t
theorem Be:HGs X [] mw:=⟨BY⟩
theorem xH(h1:HG X e g)(h2:HGs X es u)(hs:(assignEach (e::es) X.env).map (·.2)=assign e X.env::(assignEach es X.env).map (·.2):=by kernel_rfl):HGs X (e::es) (bV g u):=⟨ym h1.ok h2.ok hs⟩
theorem Et(h:HGs X es u)(hc:X.calm=true:=by kernel_rfl)(hn:(assignEach es X.env).length=n:=by kernel_rfl)(hst:(assignEach es X.env).findIdx? (·.1)=none:=by kernel_rfl):HG X (.Tuple es j pos) (mv n u):=⟨Fu h.ok hc hn hst⟩
theorem Eu(ho:HE X o to)(hi:HE X i ti)
  (ha:∀v,assign (.Subscript o i pos) X.env v=(do
   let ov <-holding [v] (eval o X.env)
   let iv <-holding [v,ov] (eval i X.env)
   standAt pos
   holding [v,ov,iv] (setItem ov iv v)
   release [v,ov,iv] []):=by intro _;kernel_rfl):HG X (.Subscript o i pos) (oF to ti):=⟨Fv ho.ok hi.ok ha⟩
theorem za(he:HE X e te)(hg:HG X tg g)(hs:swapsWithSole [tg] e pos.line X.env=pure false:=by kernel_rfl)(hw:swappedStores [tg] e X.env=pure none:=by kernel_rfl)
  (h1:(assignEach [tg] X.env).map (·.2)=[assign tg X.env]:=by kernel_rfl):HS X (.Assign [tg] e pos) (zp te g):=⟨Fq he.ok hg.ok hs hw h1⟩
theorem Bx:HOp X (binaryOp .Add) aK:=⟨Az⟩
theorem BD:HC X (.type "list") tM:=⟨Ci⟩
theorem xU:HC X (.type "tuple") bN:=⟨yy⟩
theorem vI(hr:Room k X.A)(hc:X.calm=true:=by kernel_rfl):HC X (.builtin "sorted") dq:=⟨rX hr hc⟩
theorem vC:HMl X "extend" hV:=⟨_,PySem.F.slot_list_extend,PySem.F.type_list_extend,rj⟩
theorem wV{X:Cx}{k:Nat}(hr:Room k X.A):X.A.units+1<cLine:=by have:=hr.un;lia
theorem uZ(hr:Room k X.A)(ho:HE X o to)(hi:HE X i ti)(hv:HE X e te)(hs:swapsWith e (some (.Subscript o i pos')) pos.line X.env=pure false:=by kernel_rfl):HS X (.Assign [.Subscript o i pos'] e pos) (rT to ti te):=⟨BU (wV hr) ho.ok hi.ok hv.ok hs⟩
def CQ(nt:Nat)(js:List Nat)(wi:TI)(g:TG)(tt:TT)(te:TE)(gN:TG):TS:=λD σ H=>tLC nt js wi g tt te σ H λv H1=>gN v σ H1 D.nx
theorem wY(B:BlkSc X N' nt js scope)(hc:X.calm=true)(hi:PI X tg iter wi)
  (hg:∀cl s0 H0 ex,PG (blk X N' scope cl s0 H0 ex) tg g) (ht:∀cl s0 H0 ex,PTs (blk X N' scope cl s0 H0 ex) ifs tt) (he:∀cl s0 H0 ex,PE (blk X N' scope cl s0 H0 ex) elt te) (hn:PG X (.Name x pos') gN)
  (hs:∀x,foldedSetIterable iter X.env x=pure x) (hsw:swapsWith (.ListComp elt [⟨tg,iter,ifs,0⟩] scope pos) (some (.Name x pos')) pos2.line X.env=pure true) :
  PS X (.Assign [.Name x pos'] (.ListComp elt [⟨tg,iter,ifs,0⟩] scope pos) pos2) (CQ nt js wi g tt te gN):=by
 intro pins s σ H Dn I h
 rw[exec_Assign_Name_used _ _ _ _ hsw]
 refine AA0 (ADS ?_)
 obtain⟨cl,ecl,hcl1,hcl2⟩:=fJ (scope:=scope) (env:=X.env) λp hp hf=>I.ok.has p.1 (B.free p hp hf)
 refine AA0 (show wpAny (model X.prog X.w) X.A (comprehension (.ListComp elt [⟨tg,iter,ifs,0⟩] scope pos) scope X.env _ (newList []) false (eval iter X.env) (some (assign (.Name x pos') X.env)) >>= λ_=>pure ()) _ _ _ from AA0 ?_)
 refine wpAny_comprehension_free (use:=some (assign (.Name x pos') X.env)) (Q:=λ_ s''=>wpAny (model X.prog X.w) X.A (pure ()) (λ_ s3=>wpAny (model X.prog X.w) X.A (pure Flow.next) (SP X pins Dn) X.xe s3) X.xe s'') rfl hs ecl B.kind B.loc ?_
 refine thn (hi pins s σ H _ I h) λv s1 h1=>thn h1 λitv s2 h2=>?_
 obtain⟨it,fp,tn,J,H2,e,I2,T,st2,f2,W,⟨m0,w0⟩,turn⟩:=h2
 subst e
 refine AAa (wpAny_newFunctionEnv B.nocell (by intro y hy;simp at hy) (λh1 hns1 hsb1=>?_) B.kind)
 have hfs:∀b∈fp,b<s2.heap.objs.size:=λb hb=>by
  obtain⟨o,e,_⟩:=T.obj _ _ st2 b hb
  exact AAD e
 have hC:(s2.heap.push (bH [] 0)).objs.size=s2.heap.objs.size+1:=ACN ..
 have old:∀b o,(s2.heap.push (bH [] 0)).get? b=some o->h1.get? b=some o:=λb o e=>(hsb1.2 b (AAH (AAD e))).trans (AA4 _ e)
 have I3:=I2.blkStart (tk:=s2.toks+([]:List (Str×Value)).length) B hcl1 hcl2 f2 hfs old hns1
 have st3:tn 0 h1:=T.keep _ _ _ st2 λb _ o e=>old b o (AA4 _ e)
 have hDf:s2.heap.objs.size∉fp:=λz=>AAe _ (hfs _ z)
 have hDs:s2.heap.objs.size∉frs X.stack:=λz=>by
  rcases AAL.mp (I2.stkSub _ z)with q | q
  ·exact absurd I2.lt (by rw[<-q];exact AAe _)
  ·exact I2.nofs (AAB _) q
 have hDC:s2.heap.objs.size≠(s2.heap.push (bH [] 0)).objs.size:=by rw[hC];exact AAH (ACg _)
 have ltc:∀z c,cl.lookup z=some c->c<s2.heap.objs.size:=λz c e=>by
  obtain⟨v,q⟩:=I2.cell z c (hcl1 z c e)
  exact q.lt
 have hstat:∀b∈fp,b≠(s2.heap.push (bH [] 0)).objs.size/\b∉frs X.stack/\∀x c,cl.lookup x=some c->c≠b:=λb hb=>by
  refine⟨by rw[hC];exact AAH (ABi (hfs b hb)),λz=>?_,λx c e=>(f2 b hb).2.2.2.2.1 x c (hcl1 x c e)⟩
  rcases AAL.mp (I2.stkSub b z)with q | q
  ·exact(f2 b hb).2.1 q
  ·exact(f2 b hb).2.2.1 q
 have leC:s2.heap.objs.size<=(s2.heap.push (bH [] 0)).objs.size:=by rw[hC];exact ADo _
 have loop:codeAny (model X.prog X.w) X.A (.compLoop (.ListComp elt [⟨tg,iter,ifs,0⟩] scope pos) 0 (.ref it) (.ref s2.heap.objs.size) (compEnvC scope cl (s2.heap.push (bH [] 0)).objs.size X.env))
   (compPost (model X.prog X.w) X.A X.xe (some (assign (.Name x pos') X.env)) (λ_ s''=>wpAny (model X.prog X.w) X.A (pure ()) (λ_ s3=>wpAny (model X.prog X.w) X.A (pure Flow.next) (SP X pins Dn) X.xe s3) X.xe s'') (.ref s2.heap.objs.size) (s2.heap.push (bH [] 0)).objs.size) { s2 with heap:=h1,toks:=s2.toks+([]:List (Str×Value)).length }:=by
  refine uR (s0:={ s2 with heap:=s2.heap.push (bH [] 0) }) (H0:=H2) (N':=N') (Q:=λv H1=>gN v σ H1 Dn.nx) (Turn.at T hc) (hg _ _ _ _) (ht _ _ _ _) (he _ _ _ _) T hDf turn hstat hDC hDs (λx c e=>AAH (ltc x c e)) ?_ m0 I3 st3 (λb hb=>(f2 b hb).1) w0
  intro τ H' s' vs its k I4 rv hl q
  obtain⟨mm,hn4,_⟩:=id I4.loc
  obtain⟨oC,es,ep,eC,aP⟩:=id hn4
  have I5:Inv X pins σ (upd H' s2.heap.objs.size (.lst vs)) s':=I2.blkEnd f2 I4 rv hl ⟨rfl,λ_ _=>rfl⟩
  have fC:upd H' s2.heap.objs.size (.lst vs) (s2.heap.push (bH [] 0)).objs.size=none:=by rw[av (ABG hDC)];exact I4.free
  have fk:∀Hx:Hp,Hx (s2.heap.push (bH [] 0)).objs.size=none->oR X pins Hx (s2.heap.push (bH [] 0)).objs.size:=λHx hx=>I2.fpOk leC hx
  have dC:∀v,oC.data≠.cell v:=λv z=>by
   have:∃es ep,oC.data=.dict es ep:=by
    first
     | (obtain⟨d,_⟩:=aP;exact⟨_,_,d⟩)
     | (obtain⟨_,d,_⟩:=aP;exact⟨_,_,d⟩)
     | (obtain⟨_,_,d,_⟩:=aP;exact⟨_,_,d⟩)
   obtain⟨_,_,d⟩:=this
   rw[d]at z;cases z
  have I6:Inv X (pins++[((s2.heap.push (bH [] 0)).objs.size,oC)]) σ (upd H' s2.heap.objs.size (.lst vs)) s':=I5.pins_of λp hp=>by
   rcases AAT.mp hp with hp | hp
   ·exact I5.pin p (AAP _ hp)
   ·have:p=((s2.heap.push (bH [] 0)).objs.size,oC):=by simpa using hp
    subst this
    exact⟨eC,fC,(fk _ fC).2.1,(fk _ fC).2.2.1,dC⟩
  refine thn (hn _ s' σ _ (.ref s2.heap.objs.size) (.ref s2.heap.objs.size) _ I6 rfl q) ?_
  rintro _ s7 ⟨σ7,H7,I7,q7⟩
  obtain⟨p1,p2,_⟩:=I7.pin ((s2.heap.push (bH [] 0)).objs.size,oC) (AAP _ (AAP _ AAO))
  refine⟨mm,⟨oC,es,ep,p1,aP⟩,λh' sb=>AA3 (AA3 ⟨σ7,H7,?_,q7⟩)⟩
  have I8:Inv X pins σ7 H7 s7:=I7.pins_of λp hp=>I7.pin p (AAP _ (ABP _ hp))
  refine I8.turnedL (t':=s7.toks) (fp:=[(s2.heap.push (bH [] 0)).objs.size]) (λb hb=>?_) λb o hb e=>(sb.2 b (by simpa using hb)).trans e
  have:b=(s2.heap.push (bH [] 0)).objs.size:=by simpa using hb
  subst this
  exact fk H7 p2
 exact codeAny_compStart_list loop (T.self _ 0 _ _ _ st3 loop)
def iz(nt:Nat)(js:List Nat)(di:DTI)(g:DTG)(tt:DTT)(te:DTE)(i:Nat):DTS:=λE S M=>dLC nt js di g tt te S M λd M1=>aA i d S M1 E.nx
theorem yi(B:BlkSc X N' nt js scope)(hc:X.calm=true)(hi:DI X tg iter di)
  (hg:∀cl s0 H0 ex,DG (blk X N' scope cl s0 H0 ex) tg g) (ht:∀cl s0 H0 ex,PTs (blk X N' scope cl s0 H0 ex) ifs (lowT X.K tt)) (he:∀cl s0 H0 ex,DE (blk X N' scope cl s0 H0 ex) elt te) (hn:DG X (.Name x pos') (aA i))
  (hs:∀x,foldedSetIterable iter X.env x=pure x) (hsw:swapsWith (.ListComp elt [⟨tg,iter,ifs,0⟩] scope pos) (some (.Name x pos')) pos2.line X.env=pure true) :
  DS X (.Assign [.Name x pos'] (.ListComp elt [⟨tg,iter,ifs,0⟩] scope pos) pos2) (iz nt js di g tt te i) :=
 PS.imp (wY (g:=lowG X.K g) (tt:=lowT X.K tt) (te:=lowE X.K te) B hc hi (λcl s0 H0 ex=>hg cl s0 H0 ex) ht (λcl s0 H0 ex=>he cl s0 H0 ex) hn hs hsw) λE σ H ⟨S,M,ρ,F,s,sr,q,k⟩ =>
  uE σ H _ ⟨S,M,ρ,_,s,sr,q,λv H1 ⟨d,M1,ρ1,s1,g1,r1,q1⟩=>⟨d,S,M1,ρ1,_,s1,sr.grow g1,r1,q1,λσ' H' w=>k.nx σ' H' (SQ.trans g1 w)⟩⟩
theorem xF(hN:X.N.Nodup)(hi:HI X tg iter di)
  (hg:∀cl s0 H0 ex,HG (blk X N' scope cl s0 H0 ex) tg g) (ht:∀cl s0 H0 ex,HTs (blk X N' scope cl s0 H0 ex) ifs tt) (he:∀cl s0 H0 ex,HE (blk X N' scope cl s0 H0 ex) elt te) (B:jo X.env.scope.names X.N N' nt js scope=true:=by kernel_rfl) (hc:X.calm=true:=by kernel_rfl)
  (hs:∀x,foldedSetIterable iter X.env x=pure x:=by intro _;kernel_rfl) (hsw:swapsWith (.ListComp elt [⟨tg,iter,ifs,0⟩] scope pos) (some (.Name x pos')) pos2.line X.env=pure true:=by kernel_rfl)
  (hix:X.N[i]?=some x:=by kernel_rfl) (hx:Cu X.env.scope x=true:=by kernel_rfl) (hf:X.fn x=true:=by kernel_rfl):HS X (.Assign [.Name x pos'] (.ListComp elt [⟨tg,iter,ifs,0⟩] scope pos) pos2) (iz nt js di g tt te i) :=
 ⟨yi (BlkSc.chk B) hc hi.ok (λcl s0 H0 ex=>(hg cl s0 H0 ex).ok) (λcl s0 H0 ex=>(ht cl s0 H0 ex).ok) (λcl s0 H0 ex=>(he cl s0 H0 ex).ok) (oE hN hix (uI hx) (.inl hf)) hs hsw⟩
theorem at0:atI (a::r) 0=some a:=by
 have:=aN (xs:=a::r) (j:=0) (v:=a) rfl
 simpa using this
theorem at1:atI (a::b::r) 1=some b:=by
 have:=aN (xs:=a::b::r) (j:=1) (v:=b) rfl
 simpa using this
theorem at2:atI (a::b::c::r) 2=some c:=by
 have:=aN (xs:=a::b::c::r) (j:=2) (v:=c) rfl
 simpa using this
theorem cj.lst(h:R (.ref M.length) (M++[.lst xs]))(hn:M.length<=n)(e:(M++L)[n]?=some (.lst xs))(b:Bels M.length xs):cj M R (.ref n) (M++L) :=
 .inr (.inr ⟨M,n,xs,.refl,rfl,hn,e,ABS _ _,b,h⟩)
theorem cj.chgL(c:Chg M M1)(h:R (.ref M.length) (M1++[.lst xs]))(hn:M.length<=n)(e:M'[n]?=some (.lst xs))(p:M1 <+: M')(b:Bels M.length xs):cj M R (.ref n) M':=.inr (.inr ⟨M1,n,xs,c,rfl,hn,e,p,b,h⟩)
theorem jz:(M++a::L).set M.length b=M++b::L:=by
 rw[ACz _ _ (AAB _)]
 simp
theorem cF(I:List D->List D->SD->Mem->Prop)(h0:∀acc S M,I [] acc S M->ok M/\Q (.ref M.length) (M++[.lst acc]))
  (h1:∀x xs acc S M,I (x::xs) acc S M->∀K:List D->SD->Mem->Prop,(∀acc S M,I xs acc S M->K acc S M)->ok M/\g x S M λS2 M2=>tt S2 M2 λb M3=>if b=true then te S2 M3 λy M4=>acc.length<sizeLine/\K (acc++[y]) S2 M4 else K acc S2 M3) :
  ∀xs acc S M,I xs acc S M->iL ok g tt te Q xs acc S M
 | [],acc,S,M,h=>h0 acc S M h
 | x::xs,acc,S,M,h=>h1 x xs acc S M h _ (cF I h0 h1 xs)
noncomputable def unS:D->Str
 | .str x=>x
 | _=>Str.empty
theorem tY{ys:List D}{ks:List Str}(h:ys.Perm (ks.map D.str)):∃ns:List Str,ys=ns.map D.str/\ns.Perm ks:=by
 refine⟨ys.map unS,?_,?_⟩
 ·rw[ABE]
  have:∀y∈ys,(D.str ∘ unS) y=y:=λy hy=>by
   obtain⟨x,_,rfl⟩:=AAF.mp (h.mem_iff.mp hy)
   rfl
  exact(ADK this ▸ (List.map_id' ys).symm:ys=ys.map (D.str ∘ unS))
 ·have:=h.map unS
  rw[ABE]at this
  have e:(unS ∘ D.str)=id:=rfl
  rwa [e,AEI]at this
theorem qQ{M:Mem}{ks:List Str}(h:ks.length<64):SrtOk M (ks.map D.str):=by
 refine⟨by rw[AA6];exact h,λx hx=>?_,λx hx y hy=>?_,.inl λx hx=>?_⟩
 ·obtain⟨z,_,rfl⟩:=AAF.mp hx;rfl
 ·obtain⟨z,_,rfl⟩:=AAF.mp hx
  obtain⟨z',_,rfl⟩:=AAF.mp hy
  rfl
 ·obtain⟨z,_,rfl⟩:=AAF.mp hx;exact⟨z,rfl⟩
theorem tP(h:(kvs.map (·.1)).Nodup):((pX kvs k d).map (·.1)).Nodup:=by
 unfold pX
 by_cases q:(kvs.any λp=>decide (p.1=k))=true
 ·rw[if_pos q,ABE]
  have:((λx:Str×D=>x.1) ∘ λp:Str×D=>if p.1=k then(p.1,d)else p)=λx=>x.1:=by
   funext p
   show (if p.1=k then(p.1,d)else p).1=p.1
   split<;>rfl
  rw[this];exact h
 ·rw[if_neg q,AAk,ACW]
  refine⟨h,by simp,λa ha b hb e=>?_⟩
  simp at hb
  subst hb e
  obtain⟨p,hp,e⟩:=AAF.mp ha
  exact q (ABx.mpr ⟨p,hp,by simpa using e⟩)
theorem wW:(pX kvs k d).length<=kvs.length+1/\1<=(pX kvs k d).length:=by
 unfold pX
 by_cases q:(kvs.any λp=>decide (p.1=k))=true
 ·rw[if_pos q,AA6]
  obtain⟨p,hp,_⟩:=ABx.mp q
  have:0<kvs.length:=List.length_pos_of_mem hp
  lia
 ·rw[if_neg q,AAC,AAm]
  lia
theorem wX{P:Str×D->Prop}{kvs:List (Str×D)}{k:Str}{d:D}(h:∀p∈kvs,P p)(hk:P (k,d)):∀p∈pX kvs k d,P p:=by
 unfold pX
 intro p hp
 by_cases q:(kvs.any λp=>decide (p.1=k))=true
 ·rw[if_pos q]at hp
  obtain⟨p',hp',rfl⟩:=AAF.mp hp
  by_cases e:p'.1=k
  ·rw[if_pos e,e];exact hk
  ·rw[if_neg e];exact h p' hp'
 ·rw[if_neg q]at hp
  rcases AAT.mp hp with hp | hp
  ·exact h p hp
  ·rw[AAS.mp hp];exact hk
structure TxSrc(prog:Program)(w:World)(h:Heap)(l:Addr)(T:String)(n:Nat)(P:Nat->Value->Prop):Prop where
 obj:∃o,h.get? l=some o/\o.cls=.type T
 ns:isSubtype (.type T) (.type "set")=pure false
 nf:isSubtype (.type T) (.type "frozenset")=pure false
 nd:(ACk T==ACk "dict")=false
 iter:∀(A:Around) (s':Shared),A.handled=none->(∀o,h.get? l=some o->s'.heap.get? l=some o)->∃(oI:Obj) (St:Nat->Heap->Prop),
  (∀(E:Value->Shared->Prop) (Q:Value->Shared->Prop),Q (.ref s'.heap.objs.size) { s' with heap:=s'.heap.push oI }->wpAny (model prog w) A (pyIter (.ref l)) Q E s') /\
  Walks prog w A s'.heap.objs.size [s'.heap.objs.size,l] [s'.heap.objs.size] n P St/\St 0 (s'.heap.push oI)
theorem TxSrc.list(hl:h.IsList l its):TxSrc prog w h l "list" its.size (λi v=>its[i]?=some v):=by
 refine⟨let ⟨o,e,c,_⟩:=hl;⟨o,e,c⟩,F.sub_list_set,F.sub_list_frozenset,by decide,λA s' hh hk=>?_⟩
 have hl':s'.heap.IsList l its:=hl.at hk
 have lt:l<s'.heap.objs.size:=let ⟨o,e,_⟩:=hl';AAD e
 exact⟨_,_,λE Q q=>ADp hl' q,Walks.list hh _ l (AAH lt) its,⟨_,AAE _ rfl,rfl,rfl⟩,hl'.push _⟩
structure SetAt(h:Heap)(a:Addr)(o:Obj)(es:Array (Int×Value))(ep:Nat)(t:SetTable):Prop where
 ob:h.get? a=some o
 dt:o.data=.set es ep t
 ft:t.fits es.size=true
end L2
namespace L2
end L2
namespace Ht
open PySem
noncomputable def adv(m:Nat)(p:ADE):ADE :=
 if p.more > 0 then { p with j:=p.j+1,more:=p.more-1 } else
 { p with j:=(ADW m p.i p.perturb).1,more:=SetTable.runEnd m (ADW m p.i p.perturb).1-(ADW m p.i p.perturb).1,i:=(ADW m p.i p.perturb).1,perturb:=(ADW m p.i p.perturb).2 }
noncomputable def zK(m i pt:Nat):ADE:={ j:=i,more:=SetTable.runEnd m i-i,i,perturb:=pt,dummy:=none }
noncomputable def CT(m:Nat)(p:ADE):Nat->ADE
 | 0=>p
 | n+1=>adv m (CT m p n)
noncomputable def sq(m:Nat)(h:Int)(n:Nat):ADE:=CT m (zK m (AEe h % (m+1)) (AEe h)) n
noncomputable def runs(m:Nat)(h:Int):Nat->Nat×Nat
 | 0=>(AEe h % (m+1),AEe h)
 | k+1=>ADW m (runs m h k).1 (runs m h k).2
noncomputable def FL(m:Nat)(h:Int):Nat->Nat
 | 0=>0
 | k+1=>FL m h k+(SetTable.runEnd m (runs m h k).1-(runs m h k).1+1)
def FO(m:Nat):Prop:=m=7\/m=31\/m=127
structure TOk(t:SetTable)(hs:List Int):Prop where
 msk:FO t.mask
 len:t.place.size=hs.length
 nod:t.dummies = #[]
 ris:t.place.toList.Pairwise (· < ·)
 rng:∀j∈t.place.toList,j<=t.mask
 few:t.place.size*5<t.mask*3
 path:∀(i:Nat) (h:Int) (j:Nat),hs[i]?=some h->t.place[i]?=some j->∃n,(sq t.mask h n).j=j/\∀n',n' < n->(sq t.mask h n').j∈t.place.toList
end Ht
namespace L2
open PySem PySem.Spec PyProof.Rows DL PySem.W
end L2
namespace L2
open PySem PySem.Spec PyProof.Rows DL PySem.W PySem.Calls PyProof.V
end L2
namespace L2
open PySem PySem.Spec PyProof.Rows DL PySem.W
end L2
namespace L2
open PySem PySem.Spec PyProof.Rows DL PySem.Builtin PySem.Builtin.Str PySem.StrLaws
theorem wg(a b len:Nat):strSliceIndices (some (a:Int)) (some (b:Int)) 1 len=strSliceIndices (some ((min a len:Nat):Int)) (some ((min b len:Nat):Int)) 1 len:=by
 have e:∀i:Nat,max (0:Int) (min (i:Int) (len:Int))=max (0:Int) (min ((min i len:Nat):Int) (len:Int)):=λi=>by lia
 have n:∀i:Nat,¬((i:Int)<0):=λi=>by lia
 simp only[strSliceIndices,n,if_false,show ((1:Int) > 0)=True by simp,if_true]
 rw[e a,e b]
theorem cy(x:Str)(l u:Option Int):(ABd x l u).cps.toList=if (strSliceIndices l u 1 x.length).length=x.length then x.cps.toList else(strSliceIndices l u 1 x.length).filterMap (x.cps[·]?):=by
 unfold ABd
 by_cases h:(strSliceIndices l u 1 x.length).length=x.length
 ·rw[if_pos (by simp[h]),if_pos h]
 ·rw[if_neg (by simp[h]),if_neg h]
theorem lu(x:Str){a b:Nat}(hab:a<=b):(ABd x (some (a:Int)) (some (b:Int))).cps.toList=(x.cps.toList.drop a).take (b-a):=by
 have hm:min a x.length<=min b x.length:=by lia
 have key:(strSliceIndices (some ((min a x.length:Nat):Int)) (some ((min b x.length:Nat):Int)) 1 x.length).filterMap (x.cps[·]?)=(x.cps.toList.drop (min a x.length)).take (min b x.length-min a x.length):=sliced_plain x hm (Nat.min_le_right ..)
 have ll:=aE (a:=x)
 have fin:(x.cps.toList.drop (min a x.length)).take (min b x.length-min a x.length)=(x.cps.toList.drop a).take (b-a):=by
  by_cases ha:a<=x.length
  ·rw[AEJ ha]
   by_cases hb:b<=x.length
   ·rw[AEJ hb]
   ·rw[Nat.min_eq_right (by lia),ACC (by rw[ACf];lia),ACC (by rw[ACf];lia)]
  ·rw[ADk (i:=a) (by lia),ADk (i:=min a x.length) (by lia)]
   simp
 rw[cy,wg,key,fin]
 split
 ·rename_i h
  rw[strSliceIndices_plain hm (Nat.min_le_right ..)]at h
  simp only[AA6,List.length_range]at h
  have h0:min a x.length=0:=by lia
  by_cases hx:x.length=0
  ·have:x.cps.toList=[]:=ABy (by lia)
   rw[this];simp
  ·have:a=0:=by lia
   subst this
   rw[List.drop_zero,ACC (by lia)]
 ·rfl
end L2
namespace L2
open PySem PySem.Spec PyProof.Rows DL PySem.W
def Dc:DR2:=λx y M Q=>match x,y with
 | .int i,.int j=>CPow i j/\Q (.int (i ^ j.toNat)) M
 | _,_=>False
theorem DY:OpD X (binaryOp .Pow) Dc:=by
 refine OpR.imp DJ ?_
 rintro vx vy H R ⟨x,y,M,ρ,Q,sm,r1,r2,q,k⟩
 unfold Dc at q
 split at q
 ·cases r1
  cases r2
  exact⟨_,_,rfl,rfl,q.1,k _ H (VQ.now sm (.int _) q.2)⟩
 ·exact q.elim
theorem EO:HOp X (binaryOp .Pow) Dc:=⟨DY⟩
def nA(z:Str):DRA:=λds M Q=>match ds with
 | [.ref n]=>∃xs:List Str,ap M n (xs.map .str)/\(xs.map (·.length)).sum+xs.length*z.length<=16777216/\Q (.str (Txt.join z xs)) M
 | _=>False
theorem kY:∀{xs:List Str}{us:List Value},ay (xs.map V.str) us->StrsAre us xs
 | [],_,h=>by cases h;exact .nil
 | x::xs,_,h=>by
  cases h with
  | cons a t =>
   obtain⟨t',rfl⟩:=a
   exact .cons x t' (kY t)
theorem iY{K:AA1}{ρ:List Addr}{H:Hp}:∀{xs:List Str}{vs:List V},Reps K ρ H (xs.map D.str) vs->vs=xs.map V.str
 | [],_,h=>by cases h;rfl
 | x::xs,_,h=>by
  cases h with
  | cons a t=>cases a;rw[AAN,iY t]
theorem AC:MtR X "str.join" (xt X.K nA):=by
 rintro pins s σ H x xs v us R I rx rs ⟨z,ds,M,ρ,Q,ez,sm,rr,q,k⟩
 subst ez
 obtain⟨t,rfl⟩:=rx
 unfold nA at q
 split at q
 ·obtain⟨ys,hL,hok,q⟩:=q
  first | have hzz:=Reps.inv_cons rr | have hzz:=ay.inv_cons rr
  clear rr
  obtain⟨_,_,rfl,r1,rr⟩:=hzz
  cases rr
  obtain⟨_,rfl,hn⟩:=Rep.inv_ref r1
  obtain⟨u,rfl,rfl⟩:=ay.one rs
  obtain⟨vs,hs,r⟩:=hL.seq sm hn
  obtain rfl:=iY r
  obtain⟨its,r2,p,_⟩:=I.list hs
  exact join_list p.isList (by simpa using kY r2) hok λt' k'=>⟨.str _,H,I.tok k',⟨t',rfl⟩,k _ H (VQ.now sm (.str _) q)⟩
 ·exact q.elim
theorem By:HMs X "join" nA:=⟨_,PySem.F.slot_str_join,PySem.F.type_str_join,AC⟩
def gY(z:Str):DRA:=λds M Q=>match ds with
 | [.str y]=>∃i aP,ADX z y 0 z.length 1=i::aP/\Q (.int (i:Nat)) M
 | _=>False
theorem xq:MtR X "str.index" (xt X.K gY):=by
 rintro pins s σ H x xs v us R I rx rs ⟨z,ds,M,ρ,Q,ez,sm,rr,q,k⟩
 subst ez
 obtain⟨t,rfl⟩:=rx
 unfold gY at q
 split at q
 ·obtain⟨i,aP,ho,q⟩:=q
  first | have hzz:=Reps.inv_cons rr | have hzz:=ay.inv_cons rr
  clear rr
  obtain⟨_,_,rfl,r1,rr⟩:=hzz
  cases rr
  cases r1
  obtain⟨u,rfl,t',rfl⟩:=ay.one rs
  exact call_gives F.slot_str_index (typeIs_str _ _ _) F.entry_str_index (F.args_str_index_2 _ _) (gives_str_index _ _ _ _ i aP ho) ⟨.int _,H,I.tok _,⟨_,rfl⟩,k _ H (VQ.now sm (.int _) q)⟩
 ·exact q.elim
theorem xR:HMs X "index" gY:=⟨_,PySem.F.slot_str_index,PySem.F.type_str_index,xq⟩
def mC(i:Nat)(b:Bool):DTE:=λS M Q=>match S[i]? with
 | some (some (.str z))=>Q (.ref M.length) (M++[.dct [(z,.bl b)]])
 | _=>False
theorem Cd(hk:PE X (.Name x p) (tVar i)):DE X (.Dict [some (.Name x p)] [.Constant (.bool b) j p'] pos) (mC i b):=by
 refine PE.imp (Ag (wZ hk DC Aa) rfl rfl (by simp) (Nat.succ_le_succ (AAV _))) ?_
 rintro σ H R ⟨S,M,ρ,Q,sm,sr,q,k⟩
 unfold mC at q
 split at q
 ·rename_i z hS
  obtain⟨v,hv,rv⟩:=sr.get i _ hS
  cases rv
  intro a ha
  refine⟨_,hv,aC,[(AC2 z,.bl b)],rfl,Nat.succ_le_succ (AAV _),k _ _ ?_⟩
  have e:upd (upd H a (.dK [])) a (.dK (jd [] [(AC2 z,V.bl b)]))=upd H a (.dK (jN [z] [V.bl b])):=by
   funext c
   by_cases hc:c=a
   ·subst hc;rw[aC,aC];rfl
   ·rw[av hc,av hc,av hc]
  rw[e]
  exact⟨.ref M.length,M++[.dct [(z,.bl b)]],ρ++[a],sm.laidM (mo:=.dct [(z,.bl b)]) ha ⟨[.bl b],aC,.cons (.bl b) .nil⟩,Grow.laidR ha,.ref sm.last,q⟩
 ·exact q.elim
theorem Bk(hN:X.N[i]?=some x:=by kernel_rfl)(hv:visB X.env.scope x=true:=by kernel_rfl)(hd:(x==("__debug__":Str))=false:=by kernel_rfl)(hcd:(x==("__classdict__":Str))=false:=by kernel_rfl) :
  HE X (.Dict [some (.Name x p)] [.Constant (.bool b) j p'] pos) (mC i b):=⟨Cd (jb hN (yC hv) hd hcd)⟩
end L2
namespace Ht
open PySem
def Occ(ow:Array (Option Nat))(s:Nat):Prop:=∃i,ow[s]?=some (some i)
structure Laid(m:Nat)(hs:List Int)(ow:Array (Option Nat))(k:Nat):Prop where
 sz:ow.size=m+1
 lt:∀s i:Nat,ow[s]?=some (some i)->i<k
 inj:∀s s' i:Nat,ow[s]?=some (some i)->ow[s']?=some (some i)->s=s'
 all:∀i:Nat,i<k->∃s:Nat,ow[s]?=some (some i)
 path:∀(s i:Nat) (h:Int),ow[s]?=some (some i)->hs[i]?=some h->∃n,(sq m h n).j=s/\∀n',n' < n->Occ ow (sq m h n').j
structure TPre(t:SetTable)(hs:List Int):Prop where
 msk:FO t.mask
 len:t.place.size=hs.length
 nod:t.dummies = #[]
 ris:t.place.toList.Pairwise (· < ·)
 rng:∀j∈t.place.toList,j<=t.mask
 path:∀(i:Nat) (h:Int) (j:Nat),hs[i]?=some h->t.place[i]?=some j->∃n,(sq t.mask h n).j=j/\∀n',n' < n->(sq t.mask h n').j∈t.place.toList
end Ht
namespace L2
open PySem PySem.Spec PyProof.Rows DL PySem.W
theorem vp:∀(n:Nat) (x y:D),fT n x=true->fT n y=true->(eqD M n x y=true↔x=y):=by
 intro n
 induction n with
 | zero =>
  intro x y h1 h2
  cases x with
  | str a =>
   cases y with
   | str b=>simp[eqD]
   | int b=>simp[eqD]
   | _=>cases h2
  | int a =>
   cases y with
   | str b=>simp[eqD]
   | int b=>simp[eqD]
   | _=>cases h2
  | _=>cases h1
 | succ n ih =>
  have go:∀xs ys:List D,xs.all (fT n)=true->ys.all (fT n)=true->(eqL (eqD M n) xs ys=true↔xs=ys):=by
   intro xs
   induction xs with
   | nil=>intro ys _ _;cases ys<;>simp[eqL]
   | cons x xs ih2 =>
    intro ys a1 a2
    cases ys with
    | nil=>simp[eqL]
    | cons y ys =>
     rw[ABY,AAK]at a1 a2
     show (eqD M n x y&&eqL (eqD M n) xs ys)=true↔_
     rw[AAK,ih x y a1.1 a2.1,ih2 ys a1.2 a2.2,ACU]
  intro x y h1 h2
  cases x with
  | str a =>
   cases y with
   | str b=>simp[eqD]
   | int b=>simp[eqD]
   | tup ys=>simp[eqD]
   | _=>cases h2
  | int a =>
   cases y with
   | str b=>simp[eqD]
   | int b=>simp[eqD]
   | tup ys=>simp[eqD]
   | _=>cases h2
  | tup xs =>
   cases y with
   | str b=>simp[eqD]
   | int b=>simp[eqD]
   | tup ys=>rw[D.tup.injEq];exact go _ _ h1 h2
   | _=>cases h2
  | _=>cases h1
noncomputable def qo:D->Bool
 | .tup _=>true
 | _=>false
def Ent(X:Cx)(ρ:List Addr)(H:Hp)(n:Nat)(d:D)(e:Int×Value):Prop:=(∃v,Rep X.K ρ H d v/\aR v e.2)/\e.1=hkD X.w n d/\fT n d=true/\qo d=true
structure KSet(X:Cx)(ρ:List Addr)(H:Hp)(h:Heap)(a:Addr)(n:Nat)(ds:List D)(o:Obj)(es:Array (Int×Value))(ep:Nat)(t:SetTable):Prop where
 ob:h.get? a=some o
 ex:o.ExactSet
 dt:o.data=.set es ep t
 en:Paired (Ent X ρ H n) ds es.toList
 nd:ds.Nodup
 tk:Ht.TOk t (es.toList.map (·.1))
 ld:t.led = !X.w.params.followText "set-order"
theorem ib{α β:Type}{R:α->β->Prop}:∀{xs:List α}{ys:List β}{i:Nat}{y:β},Paired R xs ys->ys[i]?=some y->∃x,xs[i]?=some x/\R x y
 | _,_,i,y,.nil,e=>by simp at e
 | _,_,0,y,.cons r _,e=>by simp at e;subst e;exact⟨_,rfl,r⟩
 | _,_,i+1,y,.cons _ t,e=>by
  obtain⟨x,h1,h2⟩:=ib (i:=i) t (by simpa using e)
  exact⟨x,by simpa using h1,h2⟩
def SqAt(M:Mem)(d:D)(xs:List D):Prop:=(∃n,d=.ref n/\ap M n xs)\/d=.tup xs
theorem gu{X:Cx}:∀{ds:List D}{vs:List V}{its:List Value}{i:Nat}{u:Value}{ρ:List Addr}{H:Hp},Reps X.K ρ H ds vs->ay vs its->its[i]?=some u->∃d v,ds[i]?=some d/\Rep X.K ρ H d v/\aR v u
 | _,_,_,i,u,_,_,.nil,h,e=>by cases h;simp at e
 | _,_,_,0,u,_,_,.cons r _,h,e=>by
  cases h with
  | cons a _=>simp at e;subst e;exact⟨_,_,rfl,r,a⟩
 | _,_,_,i+1,u,_,_,.cons _ t,h,e=>by
  cases h with
  | cons _ b =>
   obtain⟨d,v,e1,r,rv⟩:=gu (i:=i) t b (by simpa using e)
   exact⟨d,v,by simpa using e1,r,rv⟩
def df(h:Heap):Nat->D->Value->Prop
 | _,.str x,v=>∃t,v=.str x t
 | _,.int i,v=>∃t,v=.int i t
 | n+1,.tup ds,v=>∃a its,v=.ref a/\h.IsTuple a its/\Paired (df h n) ds its.toList
 | _,_,_=>False
noncomputable def drD:Nat->D->Nat
 | n+1,.tup ds=>(ds.map (drD n)).sum+1
 | _,_=>1
theorem eO:∀(n:Nat) (d:D) (v:Value),df h n d v->fT n d=true:=by
 intro n
 induction n with
 | zero=>intro d v k;cases d<;>first | rfl | exact k.elim
 | succ n ih =>
  intro d v k
  cases d with
  | str x=>rfl
  | int x=>rfl
  | tup ds =>
   obtain⟨a,its,_,_,p⟩:=k
   show ds.all (fT n)=true
   generalize its.toList=l at p
   induction p with
   | nil=>rfl
   | cons r _ i2=>rw[ABY,ih _ _ r,i2];rfl
  | _=>exact k.elim
theorem oq{h:Heap}{a:Addr}{xs ys:Array Value}(h1:h.IsTuple a xs)(h2:h.IsTuple a ys):xs=ys:=by
 obtain⟨o,e1,_,n,d1⟩:=h1
 obtain⟨o',e2,_,n',d2⟩:=h2
 obtain rfl:o=o':=AAM (e1.symm.trans e2)
 rw[d1]at d2
 injection d2
theorem lY{h:Heap}:∀(n:Nat) (x y:D) (v:Value),df h n x v->df h n y v->x=y:=by
 intro n
 induction n with
 | zero =>
  intro x y v k1 k2
  cases x with
  | str a =>
   obtain⟨t,rfl⟩:=k1
   cases y with
   | str b=>obtain⟨t',e⟩:=k2;injection e with e;rw[e]
   | int b=>obtain⟨t',e⟩:=k2;cases e
   | _=>exact k2.elim
  | int a =>
   obtain⟨t,rfl⟩:=k1
   cases y with
   | str b=>obtain⟨t',e⟩:=k2;cases e
   | int b=>obtain⟨t',e⟩:=k2;injection e with e;rw[e]
   | _=>exact k2.elim
  | _=>exact k1.elim
 | succ n ih =>
  intro x y v k1 k2
  cases x with
  | str a =>
   obtain⟨t,rfl⟩:=k1
   cases y with
   | str b=>obtain⟨t',e⟩:=k2;injection e with e;rw[e]
   | int b=>obtain⟨t',e⟩:=k2;cases e
   | tup b=>obtain⟨_,_,e,_⟩:=k2;cases e
   | _=>exact k2.elim
  | int a =>
   obtain⟨t,rfl⟩:=k1
   cases y with
   | str b=>obtain⟨t',e⟩:=k2;cases e
   | int b=>obtain⟨t',e⟩:=k2;injection e with e;rw[e]
   | tup b=>obtain⟨_,_,e,_⟩:=k2;cases e
   | _=>exact k2.elim
  | tup xs =>
   obtain⟨a,its,rfl,t1,p1⟩:=k1
   cases y with
   | str b=>obtain⟨t',e⟩:=k2;cases e
   | int b=>obtain⟨t',e⟩:=k2;cases e
   | tup ys =>
    obtain⟨_,its',e,t2,p2⟩:=k2
    cases e
    obtain rfl:=oq t1 t2
    congr 1
    generalize its.toList=l at p1 p2
    induction p1 generalizing ys with
    | nil=>cases p2;rfl
    | cons r _ i2=>cases p2 with
     | cons r' t'=>rw[ih _ _ _ r r',i2 _ t']
   | _=>exact k2.elim
  | _=>exact k1.elim
theorem rF(k:∀a its,h.IsTuple a its->h'.IsTuple a its):∀(n:Nat) (d:D) (v:Value),df h n d v->df h' n d v:=by
 intro n
 induction n with
 | zero=>intro d v q;cases d<;>first | exact q | exact q.elim
 | succ n ih =>
  intro d v q
  cases d with
  | str x=>exact q
  | int x=>exact q
  | tup ds =>
   obtain⟨a,its,e,t,p⟩:=q
   exact⟨a,its,e,k _ _ t,Paired.mapP p λx y r=>ih x y r⟩
  | _=>exact q.elim
theorem oj{es ep}(q:df h n k v)(ho:h.get? d=some o)(hd:o.data=.dict es ep)(hs:AB9 d h h'):df h' n k v:=by
 refine rF (λa its ⟨o',e,c,m,t⟩=>?_) n k v q
 have hne:a≠d:=by
  rintro rfl
  obtain rfl:o'=o:=AAM (e.symm.trans ho)
  rw[hd]at t;cases t
 exact⟨o',(hs.2 a hne).trans e,c,m,t⟩
theorem rG:∀(n:Nat) (A:Around) (s:Shared) (d:D) (u:Value) (E:Value->Shared->Prop) (Q:Int->Shared->Prop),A.units+n<cLine->df s.heap n d u ->
  Q (hkD w n d) { s with toks:=s.toks+drD n d }->wpAny (model prog w) A (pyHash u) Q E s:=by
 intro n
 induction n with
 | zero =>
  intro A s d u E Q hu k h
  cases d with
  | str x=>obtain⟨t,rfl⟩:=k;exact wpAny_pyHash_str h
  | int x=>obtain⟨t,rfl⟩:=k;exact wpAny_pyHash_int h
  | _=>exact k.elim
 | succ n ih =>
  intro A s d u E Q hu k h
  cases d with
  | str x=>obtain⟨t,rfl⟩:=k;exact wpAny_pyHash_str h
  | int x=>obtain⟨t,rfl⟩:=k;exact wpAny_pyHash_int h
  | tup ds =>
   obtain⟨a,its,rfl,⟨o,ho,hc,nn,hd⟩,p⟩:=k
   have hT:s.TypeIs (.ref a) "tuple":=⟨o,ho,hc⟩
   unfold pyHash
   first | unfold pyHashByItsType | skip
   first | refine AA0 (wpAny_cRoomFor_or (.inr (by lia)) ?_) | skip
   refine AA0 (AEF hT F.slot_tuple_hash.lookup ?_)
   refine(show wpAny (model prog w) _ (if (some (AC3 "tuple.__hash__")==some ABB)=true then _ else _) Q E s from ?_)
   rw[if_neg (by rw[beq_builtin_none];exact AB7)]
   refine AA0 (AEF hT F.slot_tuple_hash.lookup ?_)
   refine(show wpAny (model prog w) _ (callSpecialIfBoundUnlessNone? (.ref a) "__hash__" _ >>= _) Q E s from AA0 (wpAny_callSpecialIfBoundUnlessNone?_slot hT F.slot_tuple_hash (AAu F.slot_tuple_hash hT F.entry_tuple_hash ?_ (F.args_tuple_hash_1 _))))
   refine(show wpAny (model prog w) _ (AD7 (.ref a) >>= _) _ _ s from AA0 (wpAny_tupleItemsOf ho hd (AA0 ?_)))
   rw[<-ADY]
   refine wpAny_forIn_list _ (λaP (b:Array Int) s'=>∃done left,ds=done++left/\Paired (df s.heap n) left aP/\b.toList=done.map (hkD w n)/\s'={ s with toks:=s.toks+(done.map (drD n)).sum }) _ ?_ ?_ _ _ ⟨[],ds,rfl,p,rfl,rfl⟩
   ·rintro x aP b s' ⟨done,left,e,h1,hb,rfl⟩
    cases h1 with
    | @cons d0 _ left' _ r0 t0 =>
     refine AA0 (ih _ _ d0 x _ _ (by show A.units+1+n<cLine;lia) r0 ?_)
     first
      | exact AA3 ⟨done++[d0],left',by rw[e];simp,t0,by simp[hb],by simp[Nat.add_assoc]⟩
      | exact AA0 (AA3 (AA3 ⟨done++[d0],left',by rw[e];simp,t0,by simp[hb],by simp[Nat.add_assoc]⟩))
   ·rintro b s' ⟨done,left,e,h1,hb,rfl⟩
    cases h1
    rw[AAq]at e
    subst e
    refine(show wpAny (model prog w) _ (retInt (ACO b.toList)) _ _ _ from ?_)
    rw[hb]
    refine wpAny_ret_mkInt ?_
    have key:hkD w (n+1) (.tup ds)=reduceHash (ACO (ds.map (hkD w n))):=rfl
    have h':Q (hkD w (n+1) (.tup ds)) { s with toks:=s.toks+(ds.map (drD n)).sum+1 }:=h
    generalize ACO (ds.map (hkD w n))=z at key
    refine(show wpAny (model prog w) _ (if (decide (-(2:Int) ^ 63<=z)&&decide (z<2 ^ 63))=true then _ else _) Q E _ from ?_)
    unfold reduceHash at key
    by_cases hr:(decide (-(2:Int) ^ 63<=z)&&decide (z<2 ^ 63))=true
    ·rw[if_pos hr]at key ⊢
     exact AA3 (by rw[<-key];exact h')
    ·rw[if_neg hr]at key ⊢
     exact AA0 (ADQ (AA3 (by rw[<-key];exact h')))
  | _=>exact k.elim
theorem oh:∀(n k:Nat) (A:Around) (s:Shared) (d:D) (u:Value) (E:Value->Shared->Prop) (Q:Bool->Shared->Prop),n<=k->df s.heap n d u->Q true s->wpAny (model prog w) A (eqIsQuiet k u) Q E s:=by
 intro n
 induction n with
 | zero =>
  intro k A s d u E Q hk q h
  cases d with
  | str x=>obtain⟨t,rfl⟩:=q;rw[ADt k (v:=.str x t) rfl];exact AA3 h
  | int x=>obtain⟨t,rfl⟩:=q;rw[ADt k (v:=.int x t) rfl];exact AA3 h
  | _=>exact q.elim
 | succ n ih =>
  intro k A s d u E Q hk q h
  cases d with
  | str x=>obtain⟨t,rfl⟩:=q;rw[ADt k (v:=.str x t) rfl];exact AA3 h
  | int x=>obtain⟨t,rfl⟩:=q;rw[ADt k (v:=.int x t) rfl];exact AA3 h
  | tup ds =>
   obtain⟨a,its,rfl,⟨o,ho,hc,nn,hd⟩,p⟩:=q
   obtain⟨k,rfl⟩:∃k',k=k'+1:=⟨k-1,by lia⟩
   have hT:s.TypeIs (.ref a) "tuple":=⟨o,ho,hc⟩
   unfold eqIsQuiet
   refine AA0 (AEF hT F.slot_tuple_eq.lookup ?_)
   refine(show wpAny (model prog w) A (isInstance (.ref a) (.type "tuple") >>= _) _ _ s from AA0 (AE5 hT isSubtype_tuple_tuple ?_))
   simp only[Bool.not_true,AAR,if_false]
   refine AA0 (ADy ho hd ?_)
   simp only[Option.getD_some]
   refine AA0 ?_
   refine(show wpAny (model prog w) A (forIn its _ _) _ _ s from ?_)
   rw[<-ADY]
   refine wpAny_forIn_list _ (λaP r s'=>r.1=none/\s'=s/\∃left,Paired (df s.heap n) left aP) _ ?_ ?_ _ _ ⟨rfl,rfl,ds,p⟩
   ·rintro x aP r s' ⟨hr,rfl,left,h1⟩
    cases h1 with
    | cons r0 t0 =>
     refine AA0 (ih k _ _ _ x _ _ (by lia) r0 ?_)
     simp only[Bool.not_true,AAR,if_false]
     exact AA3 ⟨rfl,rfl,_,t0⟩
   ·rintro⟨r1,r2⟩ s' ⟨hr,rfl,_⟩
    simp only at hr
    subst hr
    exact AA3 h
  | _=>exact q.elim
theorem fE{h:Heap}{n:Nat}{ds:List D}{its:Array Value}(p:Paired (df h n) ds its.toList):ds.length=its.size:=by
 rw[<-ABg]
 generalize its.toList=l at p
 induction p with
 | nil=>rfl
 | cons _ _ ih=>rw[AAG,AAG,ih]
theorem xJ:∀(n:Nat) (A:Around) (s:Shared) (x y:D) (u v:Value),A.units+n<cLine->df s.heap n x u->df s.heap n y v->AD3 A s u v (eqD [] n x y):=by
 intro n
 induction n with
 | zero =>
  intro A s x y u v hu k1 k2
  cases x with
  | str a =>
   obtain⟨t,rfl⟩:=k1
   cases y with
   | str b=>obtain⟨t',rfl⟩:=k2;exact ADV _ _ _ _
   | int b=>obtain⟨t',rfl⟩:=k2;exact ACq _ _ _ _
   | _=>exact k2.elim
  | int a =>
   obtain⟨t,rfl⟩:=k1
   cases y with
   | str b=>obtain⟨t',rfl⟩:=k2;exact ACp _ _ _ _
   | int b=>obtain⟨t',rfl⟩:=k2;exact ACr _ _ _ _
   | _=>exact k2.elim
  | _=>exact k1.elim
 | succ n ih =>
  intro A s x y u v hu k1 k2
  have hu0:A.units<cLine:=by lia
  have hu1:A.in1.units+n<cLine:=by show A.units+1+n<cLine;lia
  cases x with
  | str a =>
   obtain⟨t,rfl⟩:=k1
   cases y with
   | str b=>obtain⟨t',rfl⟩:=k2;exact ADV _ _ _ _
   | int b=>obtain⟨t',rfl⟩:=k2;exact ACq _ _ _ _
   | tup b=>obtain⟨_,_,rfl,pl,_⟩:=k2;exact SeqAt.EqAt.str_tuple _ _ pl hu0
   | _=>exact k2.elim
  | int a =>
   obtain⟨t,rfl⟩:=k1
   cases y with
   | str b=>obtain⟨t',rfl⟩:=k2;exact ACp _ _ _ _
   | int b=>obtain⟨t',rfl⟩:=k2;exact ACr _ _ _ _
   | tup b=>obtain⟨_,_,rfl,pl,_⟩:=k2;exact SeqAt.EqAt.int_tuple _ _ pl hu0
   | _=>exact k2.elim
  | tup xs =>
   obtain⟨a,its,rfl,pl,p1⟩:=id k1
   cases y with
   | str b=>obtain⟨t',rfl⟩:=k2;exact SeqAt.EqAt.tuple_str _ _ pl hu0
   | int b=>obtain⟨t',rfl⟩:=k2;exact SeqAt.EqAt.tuple_int _ _ pl hu0
   | tup ys =>
    obtain⟨b,jts,rfl,pl',p2⟩:=id k2
    by_cases hab:a=b
    ·subst hab
     have e:=lY (n+1) _ _ _ k1 k2
     rw[e,(vp (M:=[]) (n+1) _ _ (eO _ _ _ k2) (eO _ _ _ k2)).mpr rfl]
     exact AEH _
    ·have ll:=fE p1
     have ll':=fE p2
     have items:∀(j:Nat) (h1:j<its.size) (h2:j<jts.size),AD3 A.in1 s its[j] jts[j] (eqD [] n (xs.getD j .non) (ys.getD j .non)):=λj h1 h2=>by
      obtain⟨x0,e1,r1⟩:=ib p1 (i:=j) (y:=its[j]) (by rw[ACG];exact AB1 h1)
      obtain⟨y0,e2,r2⟩:=ib p2 (i:=j) (y:=jts[j]) (by rw[ACG];exact AB1 h2)
      have z1:xs.getD j .non=x0:=by rw[AAI,e1];rfl
      have z2:ys.getD j .non=y0:=by rw[AAI,e2];rfl
      rw[z1,z2]
      exact ih A.in1 s x0 y0 _ _ hu1 r1 r2
     have key:((AAx (min its.size jts.size)).all (λj=>eqD [] n (xs.getD j .non) (ys.getD j .non))&&its.size==jts.size)=eqL (eqD [] n) xs ys:=by
      by_cases hl:xs.length=ys.length
      ·have rng:(AAx xs.length).all (λj=>eqD [] n (xs.getD j .non) (ys.getD j .non))=eqL (eqD [] n) xs ys:=iw hl λj x y h1 h2=>by simp[List.getD,h1,h2]
       rw[<-ll,<-ll',<-hl,Nat.min_self,rng]
       simp
      ·rw[vN hl,<-ll,<-ll']
       simp[hl]
     have h1:=SeqAt.RcAt.tuples pl pl' hu0 items
     rw[key]at h1
     exact SeqAt.EqAt.of_refs hab h1
   | _=>exact k2.elim
  | _=>exact k1.elim
noncomputable instance decD:DecidableEq D:=λa b=>Classical.propDecidable (a=b)
noncomputable def br(prog:Program)(w:World):HeapKind prog w D where
 is:=λh d a=>df h 8 d (.ref a)
 hash:=hkD w 8
 draws:=drD 8
 room:=λA=>A.units+8<cLine
 inj:=λx y=>lY 8 _ _ _ x y
 keeps:=λx ho hd hs=>oj x ho hd hs
 pyHash:=λhu k h=>rG 8 _ _ _ _ _ _ hu k h
 eqBool:=λ{A E s x y a b Q} hu k1 k2 h=>by
  refine xJ 8 A s x y _ _ hu k1 k2 _ _ _ _ ?_
  have e:eqD [] 8 x y=decide (x=y):=by
   rw[Bool.eq_iff_iff,vp 8 x y (eO _ _ _ k1) (eO _ _ _ k2),decide_eq_true_eq]
  rw[e]
  exact h
 quiet:=λk h=>oh 8 8 _ _ _ _ _ _ (AAB _) k h
noncomputable def bi(kvs:List (D×D))(k:D):Option D:=(kvs.find? λp=>decide (p.1=k)).map (·.2)
noncomputable def ck(kvs:List (D×D))(k d:D):List (D×D):=if (bi kvs k).isSome then kvs.map (λp=>if p.1=k then(p.1,d)else p)else kvs++[(k,d)]
section
variable{K:AA1}{ρ:List Addr}{H:Hp}{M:Mem}{kvs:List (D×D)}{xs:List (D×Addr×Value)}
theorem uW(r:Paired (mP K ρ H) kvs xs)(k:D):(bi kvs k=none/\atKey xs k=none)\/∃d p v,bi kvs k=some d/\atKey xs k=some p/\Rep K ρ H d v/\aR v p.2:=by
 unfold bi atKey
 induction r with
 | nil=>exact .inl ⟨rfl,rfl⟩
 | @cons p q ps qs h t ih =>
  obtain⟨h1,_,_,v,h4,h5⟩:=h
  rw[ABc,ABc]
  by_cases e:p.1=k
  ·rw[dT_ e,dT_ (h1.symm.trans e)]
   exact .inr ⟨_,_,v,rfl,rfl,h4,h5⟩
  ·rw[dF_ e,dF_ (λz=>e (h1.trans z))]
   exact ih
theorem yV(r:Paired (mP K ρ H) kvs xs)(kd:fT 8 k=true)(rk:Rep K ρ H k (.ref b))(rd:Rep K ρ H d v)(rv:aR v u):Paired (mP K ρ H) (ck kvs k d) (storedH xs k b u):=by
 unfold ck storedH
 have is:(bi kvs k).isSome=(atKey xs k).isSome:=by
  rcases uW r k with⟨e1,e2⟩|⟨_,_,_,e1,e2,_⟩<;>rw[e1,e2]<;>rfl
 rw[is]
 by_cases q:(atKey xs k).isSome=true
 ·rw[if_pos q,if_pos q]
  clear is q
  induction r with
  | nil=>exact .nil
  | @cons p q ps qs h t ih =>
   rw[AAN,AAN]
   refine .cons ?_ ih
   obtain⟨h1,h2,h3,w,h4,h5⟩:=h
   by_cases e:p.1=k
   ·rw[if_pos e,putAt,if_pos (h1.symm.trans e)]
    exact⟨h1,h2,h3,v,rd,rv⟩
   ·rw[if_neg e,putAt,if_neg (λz=>e (h1.trans z))]
    exact⟨h1,h2,h3,w,h4,h5⟩
 ·rw[if_neg q,if_neg q]
  clear is q
  induction r with
  | nil=>exact .cons ⟨rfl,kd,rk,v,rd,rv⟩ .nil
  | cons h t ih=>exact .cons h ih
theorem nZ(r:Paired (mP K ρ H) kvs xs):xs.map (·.1)=kvs.map (·.1):=by
 induction r with
 | nil=>rfl
 | cons h t ih=>rw[AAN,AAN,ih,h.1]
theorem cb:(ck kvs k d).length<=kvs.length+1:=by
 unfold ck
 split
 ·rw[AA6];lia
 ·rw[AAC];exact AAB _
theorem Sim.writeT(S:Sim K ρ M H)(e1:ρ[n]?=some a)(hM:M[n]?=some (.dkt kvs))(hH:H a=some (.ext (dX a xs)))(hl:kvs'.length<=sizeLine)(hs:(a==sysModules)=false)(nd:(kvs'.map (·.1)).Nodup)(r:Paired (mP K ρ H) kvs' xs') :
  Sim K ρ (M.set n (.dkt kvs')) (upd H a (.ext (dX a xs')))/\Grow K ρ H ρ (upd H a (.ext (dX a xs'))):=
 S.writeG e1 (λ⟨_,z⟩=>by rw[hM]at z;cases z) hH rfl λg=>⟨hl,hs,nd,xs',aC,Paired.mapP r λ_ _ ⟨q1,q2,q3,v,q4,q5⟩=>⟨q1,q2,q3.grow g,v,q4.grow g,q5⟩⟩
end
theorem eY(I:Inv X pins σ H s):∀(n:Nat) (d:D) (v:V) (u:Value),Rep X.K ρ H d v->aR v u->fT n d=true->df s.heap n d u:=by
 intro n
 induction n with
 | zero =>
  intro d v u r rv k
  cases r with
  | str x=>exact rv
  | int x=>exact rv
  | _=>cases k
 | succ n ih =>
  intro d v u r rv k
  cases r with
  | str x=>exact rv
  | int x=>exact rv
  | @tup a vs ds hq rr =>
   cases rv
   obtain⟨its,r2,p,hz⟩:=I.tuple hq
   have hk:∀x∈ds,fT n x=true:=AAb.mp (show ds.all (fT n)=true from k)
   refine⟨a,its.toArray,rfl,p,?_⟩
   rw[List.toList_toArray]
   clear p hq k hz
   induction r2 generalizing ds with
   | nil=>cases rr;exact .nil
   | cons q1 q2 i2 =>
    cases rr with
    | cons h1 t1=>exact .cons (ih _ _ _ h1 q1 (hk _ AAO)) (i2 t1 λx hx=>hk x (AA9 _ hx))
  | _=>cases k
theorem iy{X:Cx}{pins:List (Addr×Obj)}{σ:St}{H:Hp}{s:Shared}{ρ:List Addr}{M:Mem}(I:Inv X pins σ H s)(sm:Sim X.K ρ M H){n:Nat}{a:Addr}{kvs:List (D×D)}(e:ρ[n]?=some a)(hM:M[n]?=some (.dkt kvs)) :
  ∃xs,H a=some (.ext (dX a xs))/\Paired (mP X.K ρ H) kvs xs/\s.heap.DictOfH (br X.prog X.w) a xs/\(a==sysModules)=false/\kvs.length<=sizeLine/\xs.length=kvs.length/\(kvs.map (·.1)).Nodup:=by
 obtain⟨h1,h2,h3,xs,hH,r⟩:=sm.obj _ _ _ e hM
 obtain⟨⟨o,es,e1,e2,e3,e4⟩,_⟩:=(show aY X.prog X.w H s.heap a (.ext (dX a xs))from I.hok a _ hH)
 have ek:=nZ r
 refine⟨xs,hH,r,⟨o,es,_,e1,e2,e3,e4,λx hx=>?_,by rw[ek];exact h3⟩,h2,h1,?_,h3⟩
 ·obtain⟨i,hi⟩:=AC1 hx
  obtain⟨p,_,q1,q2,q3,_⟩:=ib r hi
  rw[<-q1]
  exact eY I 8 _ _ _ q3 rfl q2
 ·have:=congrArg AC9 ek
  rwa [AA6,AA6]at this
theorem oz(d:dX a xs P w h'):aY P w H' h' a (.ext (dX a xs)):=by
 obtain⟨o,es,e1,e2,e3,e4⟩:=d
 refine⟨⟨o,es,e1,e2,e3,e4⟩,⟨o,e1⟩,?_⟩
 rintro h1 h2 ⟨o,es,e1,e2,e3,e4⟩ k
 exact⟨o,es,k _ e1,e2,e3,e4⟩
theorem zk(I:Inv X pins σ H s)(hH:H a=some (.ext (dX a xs))):dX a xs X.prog X.w s.heap :=
 (show aY X.prog X.w H s.heap a (.ext (dX a xs))from I.hok a _ hH).1
theorem setE(hu:(br prog w).room A.in1)(kat:(br prog w).is s.heap k b)
  (hm:s.heap.DictOfH (br prog w) d xs) (hx:dX d xs prog w s.heap) (hz:xs.length<=sizeLine)
  (hQ:∀h',dX d (storedH xs k b v) prog w h'->AB9 d s.heap h'->Q () { s with heap:=h',toks:=s.toks+(br prog w).draws k }):wpAny (model prog w) A (setItem (.ref d) (.ref b) v) Q E s:=by
 have hT:=hm.typeIs
 obtain⟨_,_,_,_,_,_,_,his,hn⟩:=hm
 obtain⟨o,es,ho,hc,hd,he'⟩:=hx
 have he:es.toList=xs.map (entryOfKey (br prog w)):=he'
 unfold setItem
 try with_reducible refine AAW ?_
 refine AA0 (wpAny_sequenceKey hT (by decide) (AA0 (AAz (name:=AA2 "__setitem__") hT slot_dict_setitem (AAu slot_dict_setitem hT entry_dict_setitem ?_ (args_dict_setitem _ _ _)))))
 refine(show wpAny (model prog w) _ (Builtin.Dict.notOrdered "__setitem__" ⟨[.ref d,.ref b,v],[]⟩ >>= _) _ _ s from AA0 (ACH hT ?_))
 refine(show wpAny (model prog w) _ (dictSet d (.ref b) v >>= _) _ _ s from AA0 ?_)
 unfold dictSet
 try with_reducible refine AAW ?_
 refine AA0 ((br prog w).pyHash hu kat ?_)
 unfold dictSetHashed
 try with_reducible refine AAW ?_
 have hl:es.size=xs.length:=size_of_entries he
 refine AA0 (wpAny_dictFind_heap (s:={ s with toks:=s.toks+(br prog w).draws k }) hu kat ho hd he his hn (λhno=>?_) λj p hj=>?_)
 ·refine AA0 (ADQ (wpAny_updateDictKeys (hz:=by lia) (s:={ s with toks:=s.toks+(br prog w).draws k }) ho hd (AA3 ⟨.none,rfl,AA3 (hQ _ ⟨_,es.push ⟨(br prog w).hash k,.ref b,v⟩,AAd _ ho (ADL (AD9 hd _)),hc.mapDictKeys _,?_,?_⟩ (ABD ..))⟩)))
  ·rw[AD9 hd,storedH_new (ADu hno),AAC];rfl
  ·rw[storedH_new (ADu hno)]
   rw[Array.toList_push,he,AAk]
   rfl
 ·refine AA0 (ADQ (AA0 (wpAny_updateDict (s:={ s with toks:=s.toks+(br prog w).draws k }) ho hd (wpAny_point (AA3 ⟨.none,rfl,AA3 (hQ _ ⟨_,es.modify j λe=>{ e with val:=v },AAd _ ho (ADL (AE6 hd _)),hc.mapDict _,?_,?_⟩ (ABD ..))⟩)))))
  ·rw[AE6 hd,storedH_old (atKey_of_get hn hj),AA6]
  ·rw[storedH_old (atKey_of_get hn hj)]
   have q:=modify_map_putAt (entryOfKey (br prog w)) (λe:DictEntry=>{ e with val:=v }) k v (λ_ _=>rfl) hn hj
   rw[<-he]at q
   obtain⟨l⟩:=es
   have q2:(Array.modify ⟨l⟩ j λe:DictEntry=>{ e with val:=v }).toList=(xs.map (putAt k v)).map (entryOfKey (br prog w)):=by simpa using q
   exact q2
section
variable{X:Cx}{o i value:Expr}{td ty tv:DTE}{pos pos':Pos}{k:Nat}
def ka:DTE:=λ_ M Q=>Q (.ref M.length) (M++[.dkt []])
theorem Fz:DE X (.Dict [] [] pos) ka:=by
 rintro pins s σ H R I ⟨S,M,ρ,Q,sm,sr,q,kk⟩
 have hf:H s.heap.objs.size=none:=I.hok.fresh (AAB _)
 have hb:(s.heap.objs.size==sysModules)=false:=beq_eq_false_iff_ne.mpr (ABG (AAH I.big))
 refine wpAny_Dict_empty ⟨.ref s.heap.objs.size,_,I.laid (a:=s.heap.objs.size) (o:=.ext (dX s.heap.objs.size [])) (t':=s.toks) (λ_ _ q=>AA4 _ q) (AAB _) (oz ⟨_,#[],AAE _ rfl,⟨rfl,rfl,rfl⟩,rfl,rfl⟩),rfl,?_⟩
 exact kk _ _ ⟨.ref M.length,M++[.dkt []],ρ++[s.heap.objs.size],sm.laidM (mo:=.dkt []) hf ⟨AAV _,hb,ADF,[],aC,.nil⟩,Grow.laidR hf,.ref sm.last,(show Q (.ref M.length) (M++[.dkt []])from q)⟩
def rS(td ty:DTE):DTE:=λS M Q=>td S M λx M1=>ty S M1 λy M2=>match x,y with
 | .ref n,.tup ks=>∃kvs d,M2[n]?=some (.dkt kvs)/\fT 8 (.tup ks)=true/\bi kvs (.tup ks)=some d/\Q d M2
 | _,_=>False
theorem FA(hr:Room k X.A)(ho:DE X o td)(hi:DE X i ty)(hs:NoSl i):DE X (.Subscript o i pos) (rS td ty):=by
 rintro pins s σ H R I ⟨S,M,ρ,Q,sm,sr,q,kk⟩
 have un:=hr.un
 refine zI PySem.F.slot_dict_getitem.lookup hs (thn (ho pins s σ H _ I ⟨S,M,ρ,_,sm,sr,q,λv H' z=>z⟩) ?_)
 rintro u s1 ⟨v,H1,I1,rv,x,M1,ρ1,sm1,g1,r1,q1⟩
 refine thn (hi pins s1 σ H1 _ I1 ⟨S,M1,ρ1,_,sm1,sr.grow g1,q1,λv H' z=>z⟩) ?_
 rintro iv s2 ⟨w,H2,I2,rw',y,M2,ρ2,sm2,g2,r2,q2⟩
 cases x with
 | ref n =>
  cases y with
  | tup ks =>
   obtain⟨kvs,d,hM,kd,hg,q3⟩:=q2
   obtain⟨a,rfl,hn⟩:=Rep.inv_ref r1
   obtain rfl:u=AAZ a:=rv
   obtain⟨xs,hH,r,dd,hsm,hl,hx,_⟩:=iy I2 sm2 (aL g2.pre hn) hM
   have kat:=eY I2 8 _ _ _ r2 rw' kd
   rcases uW r (.tup ks)with⟨z,_⟩|⟨d',p,v',e1,e2,e3,e4⟩
   ·rw[hg]at z;cases z
   ·rw[hg]at e1
    cases e1
    obtain⟨b,_,rfl,_⟩:=id kat
    refine⟨dd.typeIs,wpAny_getItem_heap (knd:=br X.prog X.w) (k:=.tup ks) (by show X.A.units+1+8<cLine;lia) kat dd e2 ⟨v',H2,I2.tok _,e4,kk _ _ ⟨d,M2,ρ2,sm2,g1.trans g2,e3,q3⟩⟩⟩
  | _=>exact q2.elim
 | _=>exact q2.elim
def jY(td ty tv:DTE):DTS:=λE S M=>tv S M λv M1=>td S M1 λx M2=>ty S M2 λy M3=>match x,y with
 | .ref n,.tup ks=>∃kvs,M3[n]?=some (.dkt kvs)/\fT 8 (.tup ks)=true/\kvs.length<sizeLine/\E.nx S (M3.set n (.dkt (ck kvs (.tup ks) v)))
 | _,_=>False
theorem jC(h:(kvs.map (·.1)).Nodup):((ck kvs y v).map (·.1)).Nodup:=by
 unfold ck
 split
 ·rw[ABE]
  have:((λx:D×D=>x.1) ∘ λp:D×D=>if p.1=y then(p.1,v)else p)=λx=>x.1:=by
   funext p
   show (if p.1=y then(p.1,v)else p).1=p.1
   split<;>rfl
  rw[this];exact h
 ·rename_i q
  rw[AAk,List.map_singleton,ACW]
  refine⟨h,by simp,λa ha b hb=>?_⟩
  rw[AAS.mp hb]
  rintro rfl
  obtain⟨p,hp,e⟩:=AAF.mp ha
  refine q ?_
  unfold bi
  rw[AD2,List.find?_isSome]
  exact⟨p,hp,by simpa using e⟩
theorem BS(hr:Room k X.A)(ho:DE X o td)(hi:DE X i ty)(hv:DE X value tv)(hs:swapsWith value (some (.Subscript o i pos')) pos.line X.env=pure false):DS X (.Assign [.Subscript o i pos'] value pos) (jY td ty tv):=by
 rintro pins s σ H E I ⟨S,M,ρ,F,sm,sr,q,kk⟩
 have un:=hr.un
 refine wpAny_Assign_Subscript (thn (hv pins s σ H _ I ⟨S,M,ρ,_,sm,sr,q,λv H' z=>z⟩) λr s1 ⟨v,H1,I1,rv,dv,M1,ρ1,sm1,g1,r1,q1⟩=>thn (ho pins s1 σ H1 _ I1 ⟨S,M1,ρ1,_,sm1,sr.grow g1,q1,λv H' z=>z⟩) λu s2 ⟨vx,H2,I2,rx,x,M2,ρ2,sm2,g2,r2,q2⟩=>thn (hi pins s2 σ H2 _ I2 ⟨S,M2,ρ2,_,sm2,(sr.grow g1).grow g2,q2,λv H' z=>z⟩) ?_) hs
 rintro iv s3 ⟨vy,H3,I3,ry,y,M3,ρ3,sm3,g3,r3,q3⟩
 cases x with
 | ref n =>
  cases y with
  | tup ks =>
   obtain⟨kvs,hM,kd,hl,q4⟩:=q3
   obtain⟨a,rfl,hn⟩:=Rep.inv_ref r2
   obtain rfl:u=AAZ a:=rx
   have hn3:=aL g3.pre hn
   obtain⟨xs,hH,r,dd,hsm,_,hx,nd⟩:=iy I3 sm3 hn3 hM
   have kat:=eY I3 8 _ _ _ r3 ry kd
   obtain⟨b,_,rfl,_⟩:=id kat
   obtain⟨_,_,rfl,hq,rr⟩:=Rep.inv_tup r3
   cases ry
   have r':=yV r kd (.tup hq rr) ((r1.grow g2).grow g3) rv
   have pl:=cb (kvs:=kvs) (k:=.tup ks) (d:=dv)
   obtain⟨w1,w2⟩:=sm3.writeT hn3 hM hH (by have:=pl;lia) hsm (jC nd) r'
   refine setE (k:=.tup ks) (by show X.A.units+1+8<cLine;lia) kat dd (zk I3 hH) (by lia) λh' dd' hsb=>?_
   have he:∃q,h'.get? a=some q:=let ⟨q,_,hq,_⟩:=dd';⟨q,hq⟩
   exact⟨σ,_,jX I3 (by rw[hH];exact ACE) hsb he (oz dd'),kk.nx σ _ (SQ.trans ((g1.trans g2).trans g3) ⟨S,_,ρ3,w1,w2,(((sr.grow g1).grow g2).grow g3).grow w2,q4⟩)⟩
  | _=>exact q3.elim
 | _=>exact q3.elim
def dMt(r:Nat->DRA)(to:DTE)(t:DTA):DTE:=λS M Q=>to S M λx M1=>match x with
 | .ref n=>(∃kvs,M1[n]?=some (.dkt kvs))/\t S M1 λds M2=>r n ds M2 Q
 | _=>False
variable{name:Str}{id:String}{e:Expr}{es:List Expr}{to:DTE}{t:DTA}{apos cpos:Pos}
theorem d_mt{r:Nat->DRA}(slot:Slot "dict" name id)(hty:typeOf (.builtin id)=pure (.type "method_descriptor"))(hm:MtR X id (nR X.K r))(ho:DE X o to)(ha:DA X (e::es) t)
  (hbase:attributeBase o name X.env (eval o X.env)=eval o X.env:=by rfl)
  (hfew:((backTo cpos (starEach (e::es) X.env)).all (λx=>!x.1)&&(backToKw cpos (keywordEach [] X.env)).all (λx=>x.1.isSome)
   && decide ((e::es).length+([]:List Keyword).length+(if ([]:List Keyword).isEmpty then 0 else 1)<30))=true:=by rfl)
  (hline:(apos.endLine==cpos.line)=true:=by rfl) (hs:starEach (e::es) X.env=(false,eval e X.env)::starEach es X.env:=by rfl) (hplain:(backTo cpos (starEach es X.env)).any (·.1)=false:=by rfl) :
  DE X (.Call (.Attribute o name apos) (e::es) [] cpos) (dMt r to t):=by
 rintro pins s σ H R I ⟨S,M,ρ,Q,sm,sr,q,kk⟩
 refine wpAny_Call_method_late hbase hfew hline rfl (thn (ho pins s σ H _ I ⟨S,M,ρ,_,sm,sr,q,λv H' z=>z⟩) ?_)
 rintro u s1 ⟨v,H1,I1,rv,x,M1,ρ1,sm1,g1,r1,q1⟩
 cases r1 with
 | @ref n a hn =>
  cases rv
  obtain⟨⟨kvs,hM⟩,q1⟩:=(show (∃kvs,M1[n]?=some (.dkt kvs))/\t S M1 _ from q1)
  obtain⟨xs,hH,r,dd,hsm,hl,hx,nd⟩:=iy I1 sm1 hn hM
  refine⟨"dict",id,ADZ,slot,hty,dd.typeIs,λb z=>?_,?_⟩
  ·cases z
   obtain⟨ob,_,_,h1,h2,_⟩:=dd
   exact⟨ob,h1,h2.2.1⟩
  ·have hA:=ha cpos pins s1 σ H1 _ I1 ⟨S,M1,ρ1,_,sm1,sr.grow g1,q1,λvs H' z=>z⟩
   rw[hs]at hA ⊢
   refine ACn (by show (false||(backTo cpos (starEach es X.env)).any (·.1))=false;rw[hplain]<;>rfl) (AE8 ?_)
   refine thn hA ?_
   rintro us s2 ⟨vs,H2,I2,rvs,ds,M2,ρ2,sm2,g2,rr,q2⟩
   exact hm pins s2 σ H2 (.ref a) vs (.ref a) us R I2 rfl rvs ⟨n,a,ds,M2,ρ2,Q,rfl,aL g2.pre hn,sm2,rr,q2,λv H' w=>kk v H' (VQ.trans (g1.trans g2) w)⟩
 | _=>exact q1.elim
def gX(n:Nat):DRA:=λds M Q=>match ds with
 | [.tup ks,d]=>∃kvs,M[n]?=some (.dkt kvs)/\fT 8 (.tup ks)=true/\Q ((bi kvs (.tup ks)).getD d) M
 | _=>False
theorem xp(hr:Room k X.A):MtR X "dict.get" (nR X.K gX):=by
 rintro pins s σ H x xs v us R I rx rs ⟨n,a,ds,M,ρ,Q,ez,hn,sm,rr,q,kk⟩
 have un:=hr.un
 unfold gX at q
 split at q
 ·rename_i ks d
  obtain⟨kvs,hM,kd,q⟩:=q
  first | have hzz:=Reps.inv_cons rr | have hzz:=ay.inv_cons rr
  clear rr
  obtain⟨_,_,rfl,r1,rr⟩:=hzz
  first | have hzz:=Reps.inv_cons rr | have hzz:=ay.inv_cons rr
  clear rr
  obtain⟨_,_,rfl,r2,rr⟩:=hzz
  cases rr
  obtain⟨u1,u2,rfl,e1,e2⟩:=ay.two rs
  subst ez
  cases rx
  obtain⟨ys,hH,r,dd,hsm,hl,hx,nd⟩:=iy I sm hn hM
  have kat:=eY I 8 _ _ _ r1 e1 kd
  obtain⟨b,_,rfl,_⟩:=id kat
  refine call_meetsIn PySem.F.slot_dict_get dd.typeIs PySem.F.entry_dict_get (PySem.F.args_dict_get_3 _ _ _) (meetsH_dict_get_default (br X.prog X.w) a b hsm u2) ⟨by show X.A.units+1+8<cLine;lia,.tup ks,ys,kat,dd,?_⟩
  rcases uW r (.tup ks)with⟨z1,z2⟩|⟨d',p,v',z1,z2,z3,z4⟩
  ·rw[z2]
   rw[z1]at q
   exact⟨_,H,I.tok _,e2,kk _ _ ⟨d,M,ρ,sm,.refl,r2,q⟩⟩
  ·rw[z2]
   rw[z1]at q
   exact⟨_,H,I.tok _,z4,kk _ _ ⟨d',M,ρ,sm,.refl,z3,q⟩⟩
 ·exact q.elim
end
def bu(h:Heap)(d:Addr)(es:Array DictEntry)(ep:Nat):Prop:=∃o,h.get? d=some o/\o.ExactDict/\o.data=.dict es ep
theorem bu.ty{s:Shared}{d:Addr}{es:Array DictEntry}{ep:Nat}(x:bu s.heap d es ep):s.TypeIs (.ref d) "dict":=by
 obtain⟨o,h1,h2,_⟩:=x
 exact⟨o,h1,h2.1⟩
theorem bu.lt(x:bu h d es ep):d<h.objs.size:=by
 obtain⟨o,h1,_⟩:=x
 exact AAD h1
theorem bu.to(x:bu h d es ep)(k:∀o,h.get? d=some o->h'.get? d=some o):bu h' d es ep:=by
 obtain⟨o,h1,h2⟩:=x
 exact⟨o,k o h1,h2⟩
theorem yg{Q:Value->Shared->Prop}(hd:(d==sysModules)=false)(hm:bu s.heap d es ep)
  (hQ:Q (.ref s.heap.objs.size) { s with heap:=s.heap.push { cls:=.type "dict_keyiterator",data:=.fields #[.ref d,.int 0 0,.int es.size 0,.int ep 0] } }) :
  wpAny (model prog w) A (pyIter (.ref d)) Q E s:=by
 have hT:=hm.ty
 obtain⟨o,h1,h2,h3⟩:=hm
 refine wpAny_pyIter_slot hT F.slot_dict_iter (AAu F.slot_dict_iter hT F.entry_dict_iter ?_ (F.args_dict_iter_1 _))
 unfold Builtin.«dict.__iter__»
 refine AA0 ?_
 unfold Builtin.Dict.dictSlotNone
 refine AA0 (ACH hT (AA3 ?_))
 refine(show wpAny (model prog w) _ (ABp d >>= _) _ _ s from ?_)
 unfold ABp
 rw[hd]
 refine AA0 (AA3 (AA0 (ABb h1 h3 (AA0 (ABq h1 h3 ?_)))))
 exact AA0 (AAa (AA3 ⟨_,rfl,"dict_keyiterator",_,⟨_,AAE _ rfl,rfl⟩,F.slot_dict_keyiterator_next.lookup,by simpa [rawInt]using hQ⟩))
theorem yf(hit:s.heap.IsKeyIter it d i es.size ep)(hm:bu s.heap d es ep)(hi:i<es.size)
  (hQ:∀h',h'.IsKeyIter it d (i+1) es.size ep->AB9 it s.heap h'->Q (some es[i].key) { s with heap:=h' }):wpAny (model prog w) A (pyNext (.ref it)) Q E s:=by
 obtain⟨o,ho,hc,hd⟩:=id hit
 obtain⟨od,k1,k2,k3⟩:=id hm
 unfold pyNext
 refine AA0 (AC4 (AAz (name:=AA2 "__next__") hit.typeIs F.slot_dict_keyiterator_next (AAu F.slot_dict_keyiterator_next hit.typeIs F.entry_dict_keyiterator_next ?_ (F.args_dict_keyiterator_next_1 _))))
 refine AA0 (AA3 (AA0 (AA0 ?_)))
 first | refine AA0 (ABz hit.typeIs (AA3 (AA0 (ABW ho hd ?_)))) | refine AA0 (ACX hit.typeIs (AA3 (AA0 (ABW ho hd ?_))))
 rw[show AAs "dict_keyiterator" = false by decide]
 refine(show wpAny (model prog w) _ (if (AAZ d==ABB)=true then _ else _) _ _ s from ?_)
 rw[if_neg (by exact AB7)]
 refine AA0 (AA3 (AA0 (ABb k1 k3 ?_)))
 rw[if_neg (by simp)]
 refine AA0 (AA3 (AA0 (ABq k1 k3 ?_)))
 rw[if_neg (by simp)]
 refine AA3 ?_
 dsimp only
 rw[if_neg (show ¬((i:Int)<0)from by lia),ABh,AB1 hi]
 dsimp only
 refine AA0 ?_
 first | refine AA0 (ABz hit.typeIs (AA3 ?_)) | refine AA0 (ACX hit.typeIs (AA3 ?_))
 refine AA0 (wpAny_isOneOf_keyiter hit.typeIs ?_)
 refine(show wpAny (model prog w) _ (setField (.ref it) 1 (rawInt ((i:Int)+1)) >>= _) _ _ s from AA0 (AC7 ho hd (by simp) ?_))
 have hit':(s.heap.update it (ACI (·.setIfInBounds 1 (rawInt ((i:Int)+1))))).IsKeyIter it d (i+1) es.size ep:=by
  refine⟨_,AAd _ ho (ACJ (ABe hd _)),(Obj.cls_mapFields ..).trans hc,?_⟩
  rw[ABe hd];simp[rawInt]
 refine AA0 (AAW (AA0 (wpAny_isOneOf_keyiter (s:={ s with heap:=s.heap.update it (ACI (·.setIfInBounds 1 (rawInt ((i:Int)+1)))) }) hit'.typeIs ?_)))
 refine(show wpAny (model prog w) _ (pure es[i].key) _ _ _ from ?_)
 exact AA3 (AA3 ⟨_,rfl,AA3 (hQ _ hit' (ABD ..))⟩)
theorem BN(hh:A.handled=none)(hit:s.heap.IsKeyIter it d es.size es.size ep)(hm:bu s.heap d es ep)
  (hQ:∀h',Heap.ExtBut it s.heap h'->Q none { s with heap:=h' }):wpAny (model prog w) A (pyNext (.ref it)) Q E s:=by
 obtain⟨o,ho,hc,hd⟩:=id hit
 obtain⟨od,k1,k2,k3⟩:=id hm
 unfold pyNext
 refine AA0 (AC4 (AAz (name:=AA2 "__next__") hit.typeIs F.slot_dict_keyiterator_next (AAu F.slot_dict_keyiterator_next hit.typeIs F.entry_dict_keyiterator_next ?_ (F.args_dict_keyiterator_next_1 _))))
 refine AA0 (AA3 (AA0 (AA0 ?_)))
 first | refine AA0 (ABz hit.typeIs (AA3 (AA0 (ABW ho hd ?_)))) | refine AA0 (ACX hit.typeIs (AA3 (AA0 (ABW ho hd ?_))))
 rw[show AAs "dict_keyiterator" = false by decide]
 refine(show wpAny (model prog w) _ (if (AAZ d==ABB)=true then _ else _) _ _ s from ?_)
 rw[if_neg (by exact AB7)]
 refine AA0 (AA3 (AA0 (ABb k1 k3 ?_)))
 rw[if_neg (by simp)]
 refine AA0 (AA3 (AA0 (ABq k1 k3 ?_)))
 rw[if_neg (by simp)]
 refine AA3 ?_
 dsimp only
 rw[if_neg (show ¬((es.size:Int)<0)from by lia),ABh,ACo (AAB es.size)]
 dsimp only
 refine AA0 ?_
 first | refine AA0 (ABz hit.typeIs (AA3 ?_)) | refine AA0 (ACX hit.typeIs (AA3 ?_))
 refine(show wpAny (model prog w) _ (setField (.ref it) 0 .none >>= _) _ _ s from AA0 (AC7 ho hd (by simp) ?_))
 refine(show wpAny (model prog w) _ (newExc (.type "StopIteration") [] >>= _) _ _ _ from AA0 ?_)
 simp only[newExc,newTuple]
 refine AA0 (AAa ?_ (by size_fits))
 refine AA0 (m:=firstArgMember _ _) (AEK (a:=ABB) (by first | rfl | (simp only[firstArgMember];rfl)) ?_)
 refine AAa ?_ (by size_fits)
 simp only[raiseNew]
 refine AA0 (wpAny_handled ?_)
 rw[show A.in1.handled=none from hh]
 refine AA0 (AA3 (wpAny_throw ?_))
 refine AA0 (AE5 (b:=true) (T:="StopIteration") ⟨_,AAE _ rfl,rfl⟩ isSubtype_stop ?_)
 exact AA3 (hQ _ (((ABD ..).extBut.push _).push _))
theorem vS(hh:A.handled=none)(I:Addr)(hne:d≠I):Walks prog w A I [I,d] [I] es.size (λi v=>∃e,es[i]?=some e/\v=e.key) (λi h=>h.IsKeyIter I d i es.size ep/\bu h d es ep) where
 sub:=λb hb=>by simp at hb;simp[hb]
 frame:=λ_ _ _ st hk=>⟨st.1.at λo e=>hk I (by simp) o e,st.2.to λo e=>hk d (by simp) o e⟩
 item:=λi s Q E hi st hQ=>yf st.1 st.2 hi λh' hit' hs'=>hQ _ h' s.toks ⟨es[i],by simp[hi],rfl⟩ ⟨hit',st.2.to λo e=>hs'.extBut d o hne e⟩ λb o hb e=>hs'.extBut b o (λh=>hb (by simp[h])) e
 done:=λs Q E st hQ=>BN hh st.1 st.2 λh' he'=>hQ h' s.toks λb o hb e=>he' b o (λh=>hb (by simp[h])) e
 self:=λ_ _ _ _ st hQ=>wpAny_pyIter_keyiter st.1 hQ
theorem BM(lo:(d==sysModules)=false):KdlSrc prog w "dict" d d es.size (λi v=>∃e,es[i]?=some e/\v=e.key) (λh=>bu h d es ep) where
 type:=λ_ hm=>hm.ty
 there:=λ_ hm=>⟨hm.lt,hm.lt⟩
 keep:=λ_ _ hm hk=>hm.to λo e=>hk d (.inl rfl) o e
 notList:=by decide
 notTuple:=by decide
 hint:=λ_ _ _ _ hm hq=>kdl_hint_dict hm.ty hq
 iter:=λ_ _ hh hm=>⟨_,_,(λ_ _ hq=>yg lo hm hq),vS hh _ (AAH hm.lt),⟨⟨_,AAE _ rfl,rfl,rfl⟩,hm.to λo e=>AA4 _ e⟩⟩
theorem vV(I:Inv X pins σ H s)(hH:H a=some (.ext (dX a xs))):∃es,bu s.heap a es xs.length/\es.size=xs.length/\∀(i:Nat) x,xs[i]?=some x->∃e,es[i]?=some e/\e.key=.ref x.2.1/\e.val=x.2.2:=by
 obtain⟨o,es,h1,h2,h3,h4⟩:=zk I hH
 refine⟨es,⟨o,h1,h2,h3⟩,?_,λi x hx=>?_⟩
 ·have:=congrArg AC9 h4
  rwa [ABg,AA6]at this
 ·refine⟨⟨hkD X.w 8 x.1,.ref x.2.1,x.2.2⟩,?_,rfl,rfl⟩
  rw[<-ACG,h4,AAU,hx]
  rfl
theorem qT{K:AA1}{ρ:List Addr}{H:Hp}{kvs:List (D×D)}{xs:List (D×Addr×Value)}(r:Paired (mP K ρ H) kvs xs):Reps K ρ H (kvs.map (·.1)) (xs.map λx=>V.ref x.2.1):=by
 induction r with
 | nil=>exact .nil
 | cons h t ih=>exact .cons h.2.2.1 ih
theorem kr:∀(xs:List (D×Addr×Value)) (vs:List Value),vs.length=xs.length->(∀(j:Nat) (v:Value) x,vs[j]?=some v->xs[j]?=some x->v=.ref x.2.1)->ay (xs.map λx=>V.ref x.2.1) vs
 | [],[],_,_=>.nil
 | [],_::_,e,_=>by simp at e
 | _::_,[],e,_=>by simp at e
 | x::xs,v::vs,e,h=>.cons (h 0 v x rfl rfl) (kr xs vs (by simpa using e) λj u y h1 h2=>h (j+1) u y (by simpa using h1) (by simpa using h2))
def dn:DRA:=λds M Q=>match ds with
 | [.ref n]=>∃kvs,M[n]?=some (.dkt kvs)/\SrtOk M (kvs.map (·.1))/\∀ys,ys.Perm (kvs.map (·.1))->mO M ys->Q (.ref M.length) (M++[.lst ys])
 | _=>False
theorem rW{k:Nat}(hr:Room k X.A)(hc:X.calm=true):eU X (.builtin "sorted") dn:=by
 rintro pins s σ H vs us R I rv ⟨ds,M,ρ,Q,sm,rs,q,kk⟩
 unfold dn at q
 split at q
 ·obtain⟨kvs,hM,so,q⟩:=q
  first | have hzz:=Reps.inv_cons rs | have hzz:=ay.inv_cons rs
  clear rs
  obtain⟨_,_,rfl,r1,rs⟩:=hzz
  cases rs
  obtain⟨u,rfl,e1⟩:=ay.one rv
  obtain⟨a,rfl,e⟩:=Rep.inv_ref r1
  cases e1
  obtain⟨xs,hH,r,dd,z2,hz,hx,nd⟩:=iy I sm e hM
  obtain⟨es,em,el,eg⟩:=vV I hH
  obtain⟨m,hn,hm⟩:=I.loc
  have hne:a≠X.env.locals:=ad hH I.free
  obtain⟨oa,hoa,_⟩:=id em
  have mem:∀b o,(b,o)∈[]++(a,oa)::Att.ledger s.heap X.env.locals a↔b≠X.env.locals/\s.heap.get? b=some o:=λb o=>by
   rw[AAr,AAL,Att.mem_ledger]
   constructor
   ·rintro(h | ⟨h1,_,h3⟩)
    ·cases h;exact⟨hne,hoa⟩
    ·exact⟨h1,h3⟩
   ·rintro⟨h1,h2⟩
    by_cases hal:b=a
    ·subst hal
     rw[hoa]at h2;cases h2
     exact .inl rfl
    ·exact .inr ⟨h1,hal,h2⟩
  have sl:=so.len
  rw[AA6]at sl
  refine kdu_sorted (BM (es:=es) (ep:=xs.length) z2) (I.ok.hd hc) (Att.fr_all hn) (Att.news_ledger hne hoa) em (by rw[ABQ];lia) λD h' tk vs F' N' lt hl hP=>?_
  have kp:∀b u,b≠X.env.locals->s.heap.get? b=some u->h'.get? b=some u:=λb u hb e=>(N' (b,u) (AA9 _ ((mem b u).mpr ⟨hb,e⟩))).1
  have hDL:D≠X.env.locals:=(N' _ AAO).2.1
  have hD:s.heap.get? D=none:=by
   cases q:s.heap.get? D with
   | none=>rfl
   | some o=>exact absurd (lt (D,o) ((mem D o).mpr ⟨hDL,q⟩)) (AAe _)
  have rvs:ay (xs.map λx=>V.ref x.2.1) vs:=by
   refine kr xs vs (by lia) λj v x hj hx'=>?_
   obtain⟨e0,g1,rfl⟩:=hP j v hj
   obtain⟨e2,g2,g3,_⟩:=eg j x hx'
   rw[g1]at g2
   obtain rfl:=AAM g2
   exact g3
  have rps:=qT r
  exact nu (n:=0) hr (by show X.A.units+1<=X.A.units+4;lia) I sm so.g rps rvs hn F'.ns kp hD hDL (N' _ AAO).1 λv H' x=>kk v H' (x Q q)
 ·exact q.elim
theorem rQ(hd:(d==sysModules)=false)(hm:bu s.heap d es ep)(hQ:Q (.ref s.heap.objs.size) { s with heap:=s.heap.push { cls:=.type "dict_values",data:=.fields #[.ref d] } }) :
  wpAny (model prog w) A (call (.builtin "dict.values") [.ref d]) Q E s:=by
 refine call_meetsIn PySem.F.slot_dict_values hm.ty PySem.F.entry_dict_values (PySem.F.args_dict_values_1 _) (S:=λ_ R s'=>s'=s/\R (.ok (.ret (.ref s.heap.objs.size))) { s with heap:=s.heap.push { cls:=.type "dict_values",data:=.fields #[.ref d] } }) (.of_wp ?_) ⟨rfl,hQ⟩
 rintro A R s' ⟨rfl,h⟩
 refine AA0 ?_
 unfold Builtin.Dict.noArgs
 refine AA0 (ACH hm.ty (AA3 ?_))
 refine(show wpAny (model prog w) _ (ABp d >>= _) _ _ s' from ?_)
 unfold ABp
 rw[hd]
 exact AA0 (AA3 (AA0 (AAa (AA3 ⟨_,rfl,h⟩))))
theorem vU(hv:s.heap.IsValuesView v d)(hm:bu s.heap d es ep)
  (hQ:Q (.ref s.heap.objs.size) { s with heap:=s.heap.push { cls:=.type "dict_valueiterator",data:=.fields #[.ref d,.int 0 0,.int es.size 0,.int ep 0] } }):wpAny (model prog w) A (pyIter (.ref v)) Q E s:=by
 obtain⟨ov,v1,v2,v3⟩:=id hv
 obtain⟨o,h1,h2,h3⟩:=hm
 refine wpAny_pyIter_slot hv.typeIs F.slot_dict_values_iter (AAu F.slot_dict_values_iter hv.typeIs F.entry_dict_values_iter ?_ (F.args_dict_values_iter_1 _))
 unfold Builtin.«dict_values.__iter__»
 refine AA0 (AA3 (AA0 ?_))
 unfold AEW
 refine AA0 (ABZ v1 v3 (x:=.ref d) rfl (AA3 (AA0 ?_)))
 unfold AE2
 refine AA0 (ABb h1 h3 (AA0 (ABq h1 h3 ?_)))
 simp only[show AAs "dict_valueiterator" = false by decide,AAR,if_false]
 exact AAa (AA3 ⟨_,rfl,"dict_valueiterator",_,⟨_,AAE _ rfl,rfl⟩,F.slot_dict_valueiterator_next.lookup,by simpa [rawInt]using hQ⟩)
theorem vT(hit:s.heap.IsValIter it d i es.size ep)(hm:bu s.heap d es ep)(hi:i<es.size)
  (hQ:∀h',h'.IsValIter it d (i+1) es.size ep->AB9 it s.heap h'->Q (some es[i].val) { s with heap:=h' }):wpAny (model prog w) A (pyNext (.ref it)) Q E s:=by
 obtain⟨o,ho,hc,hd⟩:=id hit
 obtain⟨od,k1,k2,k3⟩:=id hm
 unfold pyNext
 refine AA0 (AC4 (AAz (name:=AA2 "__next__") hit.typeIs F.slot_dict_valueiterator_next (AAu F.slot_dict_valueiterator_next hit.typeIs F.entry_dict_valueiterator_next ?_ (F.args_dict_valueiterator_next_1 _))))
 refine AA0 (AA3 (AA0 (AA0 ?_)))
 first | refine AA0 (AC0 hit.typeIs (AA3 (AA0 (ABW ho hd ?_)))) | refine AA0 (ACY hit.typeIs (AA3 (AA0 (ABW ho hd ?_))))
 rw[show AAs "dict_valueiterator" = false by decide]
 refine(show wpAny (model prog w) _ (if (AAZ d==ABB)=true then _ else _) _ _ s from ?_)
 rw[if_neg (by exact AB7)]
 refine AA0 (AA3 (AA0 (ABb k1 k3 ?_)))
 rw[if_neg (by simp)]
 refine AA0 (AA3 (AA0 (ABq k1 k3 ?_)))
 rw[if_neg (by simp)]
 refine AA3 ?_
 dsimp only
 rw[if_neg (show ¬((i:Int)<0)from by lia),ABh,AB1 hi]
 dsimp only
 refine AA0 ?_
 first | refine AA0 (AC0 hit.typeIs (AA3 ?_)) | refine AA0 (ACY hit.typeIs (AA3 ?_))
 refine AA0 (AE3 hit.typeIs ?_)
 refine(show wpAny (model prog w) _ (setField (.ref it) 1 (rawInt ((i:Int)+1)) >>= _) _ _ s from AA0 (AC7 ho hd (by simp) ?_))
 have hit':(s.heap.update it (ACI (·.setIfInBounds 1 (rawInt ((i:Int)+1))))).IsValIter it d (i+1) es.size ep:=by
  refine⟨_,AAd _ ho (ACJ (ABe hd _)),(Obj.cls_mapFields ..).trans hc,?_⟩
  rw[ABe hd];simp[rawInt]
 refine AA0 (AAW (AA0 (AE3 (s:={ s with heap:=s.heap.update it (ACI (·.setIfInBounds 1 (rawInt ((i:Int)+1)))) }) hit'.typeIs (AA0 (AE3 (s:={ s with heap:=s.heap.update it (ACI (·.setIfInBounds 1 (rawInt ((i:Int)+1)))) }) hit'.typeIs ?_)))))
 refine(show wpAny (model prog w) _ (pure es[i].val) _ _ _ from ?_)
 exact AA3 (AA3 ⟨_,rfl,AA3 (hQ _ hit' (ABD ..))⟩)
theorem ye(hh:A.handled=none)(hit:s.heap.IsValIter it d es.size es.size ep)(hm:bu s.heap d es ep)
  (hQ:∀h',Heap.ExtBut it s.heap h'->Q none { s with heap:=h' }):wpAny (model prog w) A (pyNext (.ref it)) Q E s:=by
 obtain⟨o,ho,hc,hd⟩:=id hit
 obtain⟨od,k1,k2,k3⟩:=id hm
 unfold pyNext
 refine AA0 (AC4 (AAz (name:=AA2 "__next__") hit.typeIs F.slot_dict_valueiterator_next (AAu F.slot_dict_valueiterator_next hit.typeIs F.entry_dict_valueiterator_next ?_ (F.args_dict_valueiterator_next_1 _))))
 refine AA0 (AA3 (AA0 (AA0 ?_)))
 first | refine AA0 (AC0 hit.typeIs (AA3 (AA0 (ABW ho hd ?_)))) | refine AA0 (ACY hit.typeIs (AA3 (AA0 (ABW ho hd ?_))))
 rw[show AAs "dict_valueiterator" = false by decide]
 refine(show wpAny (model prog w) _ (if (AAZ d==ABB)=true then _ else _) _ _ s from ?_)
 rw[if_neg (by exact AB7)]
 refine AA0 (AA3 (AA0 (ABb k1 k3 ?_)))
 rw[if_neg (by simp)]
 refine AA0 (AA3 (AA0 (ABq k1 k3 ?_)))
 rw[if_neg (by simp)]
 refine AA3 ?_
 dsimp only
 rw[if_neg (show ¬((es.size:Int)<0)from by lia),ABh,ACo (AAB es.size)]
 dsimp only
 refine AA0 ?_
 first | refine AA0 (AC0 hit.typeIs (AA3 ?_)) | refine AA0 (ACY hit.typeIs (AA3 ?_))
 refine(show wpAny (model prog w) _ (setField (.ref it) 0 .none >>= _) _ _ s from AA0 (AC7 ho hd (by simp) ?_))
 refine(show wpAny (model prog w) _ (newExc (.type "StopIteration") [] >>= _) _ _ _ from AA0 ?_)
 simp only[newExc,newTuple]
 refine AA0 (AAa ?_ (by size_fits))
 refine AA0 (m:=firstArgMember _ _) (AEK (a:=ABB) (by first | rfl | (simp only[firstArgMember];rfl)) ?_)
 refine AAa ?_ (by size_fits)
 simp only[raiseNew]
 refine AA0 (wpAny_handled ?_)
 rw[show A.in1.handled=none from hh]
 refine AA0 (AA3 (wpAny_throw ?_))
 refine AA0 (AE5 (b:=true) (T:="StopIteration") ⟨_,AAE _ rfl,rfl⟩ isSubtype_stop ?_)
 exact AA3 (hQ _ (((ABD ..).extBut.push _).push _))
theorem rP(hh:A.handled=none)(I:Addr)(hne:d≠I):Walks prog w A I [I,d] [I] es.size (λi v=>∃e,es[i]?=some e/\v=e.val) (λi h=>h.IsValIter I d i es.size ep/\bu h d es ep) where
 sub:=λb hb=>by simp at hb;simp[hb]
 frame:=λ_ _ _ st hk=>⟨st.1.at λo e=>hk I (by simp) o e,st.2.to λo e=>hk d (by simp) o e⟩
 item:=λi s Q E hi st hQ=>vT st.1 st.2 hi λh' hit' hs'=>hQ _ h' s.toks ⟨es[i],by simp[hi],rfl⟩ ⟨hit',st.2.to λo e=>hs'.extBut d o hne e⟩ λb o hb e=>hs'.extBut b o (λh=>hb (by simp[h])) e
 done:=λs Q E st hQ=>ye hh st.1 st.2 λh' he'=>hQ h' s.toks λb o hb e=>he' b o (λh=>hb (by simp[h])) e
 self:=λ_ _ _ _ st hQ=>wpAny_pyIter_valiter st.1 hQ
theorem yd:KdlSrc prog w "dict_values" r d es.size (λi v=>∃e,es[i]?=some e/\v=e.val) (λh=>h.IsValuesView r d/\bu h d es ep) where
 type:=λ_ hm=>hm.1.typeIs
 there:=λ_ hm=>⟨let ⟨_,ho,_⟩:=hm.1;AAD ho,hm.2.lt⟩
 keep:=λ_ _ hm hk=>⟨let ⟨o,ho,x⟩:=hm.1;⟨o,hk r (.inl rfl) o ho,x⟩,hm.2.to λo e=>hk d (.inr rfl) o e⟩
 notList:=by decide
 notTuple:=by decide
 hint:=λ_ _ _ _ hm hq=>kdl_hint_values hm.1.typeIs hq
 iter:=λ_ _ hh hm=>⟨_,_,(λ_ _ hq=>vU hm.1 hm.2 hq),rP hh _ (AAH hm.2.lt),⟨⟨_,AAE _ rfl,rfl,rfl⟩,hm.2.to λo e=>AA4 _ e⟩⟩
theorem ss{K:AA1}{ρ:List Addr}{H:Hp}{kvs:List (D×D)}{xs:List (D×Addr×Value)}(r:Paired (mP K ρ H) kvs xs):∃ws,Reps K ρ H (kvs.map (·.2)) ws/\ay ws (xs.map λx=>x.2.2):=by
 induction r with
 | nil=>exact⟨[],.nil,.nil⟩
 | cons h t ih =>
  obtain⟨_,_,_,v,q1,q2⟩:=h
  obtain⟨ws,h1,h2⟩:=ih
  exact⟨v::ws,.cons q1 h1,.cons q2 h2⟩
def eQ(to:DTE):DTE:=λS M Q=>to S M λd M1=>match d with
 | .ref n=>∃kvs,M1[n]?=some (.dkt kvs)/\Q (.ref M1.length) (M1++[.lst (kvs.map (·.2))])
 | _=>False
theorem rR(hc:X.calm=true)(ho:DE X o to)(hm:X.mg "list" = none)(hg:X.env.kindOf "list" = some .globalImplicit)
  (hs:starEach [AEL (.Attribute o "values" apos) [] [] cpos] X.env=[(false,eval (AEL (.Attribute o "values" apos) [] [] cpos) X.env)])
  (hbase:attributeBase o "values" X.env (eval o X.env)=eval o X.env) (hline:(apos.endLine==cpos.line)=true) :
  DE X (.Call (.Name "list" p) [.Call (.Attribute o "values" apos) [] [] cpos] [] pos) (eQ to):=by
 rintro pins s σ H R I ⟨S,M,ρ,Q,sm,sr,q,kk⟩
 refine ABu (fB I hg hm (by rfl) ?_)
 refine callWith_type1 ?_ (by rw[hs];rfl) rfl
 rw[hs]
 refine AES (wpAny_Call_method0_late hbase hline (thn (ho pins s σ H _ I ⟨S,M,ρ,_,sm,sr,q,λv H' w=>w⟩) ?_))
 rintro u s1 ⟨v,H1,I1,rv,x,M1,ρ1,sm1,g1,r1,q1⟩
 cases r1 with
 | @ref n a hn =>
  cases rv
  obtain⟨kvs,hM,q2⟩:=(show ∃kvs,M1[n]?=some (.dkt kvs)/\Q (.ref M1.length) (M1++[.lst (kvs.map (·.2))])from q1)
  obtain⟨xs,hH,r,dd,hsm,hz,hx,nd⟩:=iy I1 sm1 hn hM
  obtain⟨es,em,el,eg⟩:=vV I1 hH
  refine⟨"dict","dict.values",ADZ,PySem.F.slot_dict_values,PySem.F.type_dict_values,dd.typeIs,λb z=>?_,ACn rfl (PySem.evalArgs_none (rQ hsm em ?_))⟩
  ·cases z
   obtain⟨ob,_,_,h1,h2,_⟩:=dd
   exact⟨ob,h1,h2.2.1⟩
  refine Calls.spliced_nil ?_
  have I2:Inv X pins σ H1 { s1 with heap:=s1.heap.push { cls:=.type "dict_values",data:=.fields #[.ref a] } }:=I1.kept (t':=s1.toks) λb o e=>AA4 _ e
  have em2:bu ({ s1 with heap:=s1.heap.push { cls:=.type "dict_values",data:=.fields #[.ref a] } }:Shared).heap a es xs.length:=em.to λo e=>AA4 _ e
  have vw:({ s1 with heap:=s1.heap.push { cls:=.type "dict_values",data:=.fields #[.ref a] } }:Shared).heap.IsValuesView s1.heap.objs.size a:=⟨_,AAE _ rfl,rfl,rfl⟩
  generalize ({ s1 with heap:=s1.heap.push { cls:=.type "dict_values",data:=.fields #[.ref a] } }:Shared)=s2 at I2 em2 vw ⊢
  refine kdl_call (yd (es:=es) (ep:=xs.length)) (I2.ok.hd hc) ⟨vw,em2⟩ (by lia) λh' tk acc' c' hk hD hacc=>?_
  obtain⟨ws,w1,w2⟩:=ss r
  have ea:acc'.toList=xs.map λx=>x.2.2:=by
   refine ADr λj=>?_
   rw[ACG,AAU]
   cases hj:xs[j]? with
   | none =>
    have:xs.length<=j:=by rw[List.getElem?_eq_none_iff]at hj;exact hj
    rw[ACo (by have:=hacc.1;lia)];rfl
   | some x =>
    have hlt:=(AA5.mp hj).1
    have hlt':j<acc'.size:=by have:=hacc.1;lia
    obtain⟨e,g1,g2⟩:=hacc.2 j acc'[j] (AB1 hlt')
    obtain⟨e',z1,_,z2⟩:=eg j x hj
    rw[g1]at z1
    obtain rfl:=AAM z1
    rw[AB1 hlt',g2,z2];rfl
  have hf:H1 s2.heap.objs.size=none:=I2.hok.fresh (AAB _)
  refine⟨.ref s2.heap.objs.size,_,I2.laid (a:=s2.heap.objs.size) (o:=.lst ws) (t':=tk) hk (AAB _) ⟨by rw[<-w1.length,AA6];exact hz,acc'.toList,c',by rw[ea];exact w2,by simpa using hD⟩,rfl,kk _ _ (VQ.laidL sm1 g1 w1 hf q2)⟩
 | _=>exact q1.elim
theorem EC:HE X (.Dict [] [] pos) ka:=⟨Fz⟩
theorem ED(hr:Room k X.A)(ho:HE X o to)(hi:HE X i ti)(hs:NoSl i:=by intro _ _;kernel_rfl):HE X (.Subscript o i pos) (rS to ti):=⟨FA hr ho.ok hi.ok hs⟩
theorem uX(hr:Room k X.A)(ho:HE X o to)(hi:HE X i ti)(hv:HE X e te)(hs:swapsWith e (some (.Subscript o i pos')) pos.line X.env=pure false:=by kernel_rfl):HS X (.Assign [.Subscript o i pos'] e pos) (jY to ti te):=⟨BS hr ho.ok hi.ok hv.ok hs⟩
theorem Bh(hr:Room k X.A)(ho:HE X o to)(ha:HA X (e::es) t)(hbase:attributeBase o "get" X.env (eval o X.env)=eval o X.env:=by kernel_rfl)
  (hfew:((backTo cpos (starEach (e::es) X.env)).all (λx=>!x.1)&&(backToKw cpos (keywordEach [] X.env)).all (λx=>x.1.isSome)
   && decide ((e::es).length+([]:List Keyword).length+(if ([]:List Keyword).isEmpty then 0 else 1)<30))=true:=by kernel_rfl)
  (hline:(apos.endLine==cpos.line)=true:=by kernel_rfl) (hs:starEach (e::es) X.env=(false,eval e X.env)::starEach es X.env:=by kernel_rfl) (hplain:(backTo cpos (starEach es X.env)).any (·.1)=false:=by kernel_rfl) :
  HE X (.Call (.Attribute o "get" apos) (e::es) [] cpos) (dMt gX to t):=⟨d_mt PySem.F.slot_dict_get PySem.F.type_dict_get (xp hr) ho.ok ha.ok hbase hfew hline hs hplain⟩
theorem rH(ho:HE X o to)(hm:X.mg "list" = none)(hc:X.calm=true:=by kernel_rfl)(hg:X.env.kindOf "list" = some .globalImplicit:=by kernel_rfl)
  (hs:starEach [AEL (.Attribute o "values" apos) [] [] cpos] X.env=[(false,eval (AEL (.Attribute o "values" apos) [] [] cpos) X.env)]:=by kernel_rfl)
  (hbase:attributeBase o "values" X.env (eval o X.env)=eval o X.env:=by kernel_rfl) (hline:(apos.endLine==cpos.line)=true:=by kernel_rfl) :
  HE X (.Call (.Name "list" p) [.Call (.Attribute o "values" apos) [] [] cpos] [] pos) (eQ to):=⟨rR hc ho.ok hm hg hs hbase hline⟩
theorem rL(hr:Room k X.A)(hc:X.calm=true:=by kernel_rfl):HC X (.builtin "sorted") dn:=⟨rW hr hc⟩
theorem jR{K:AA1}{ρ:List Addr}{H:Hp}:∀{ns:List Int}{ws:List V}{its:List Value},Reps K ρ H (ns.map D.int) ws->ay ws its->IntsAre its ns
 | [],_,_,r,v=>by cases r;cases v;exact .nil
 | n::ns,_,_,r,v=>by
  rw[AAN]at r
  first | have hzz:=Reps.inv_cons r | have hzz:=ay.inv_cons r
  clear r
  obtain⟨_,_,rfl,h,t⟩:=hzz
  cases h
  cases v with
  | cons q q' =>
   obtain⟨tk,rfl⟩:=q
   exact .cons _ _ (jR t q')
theorem Br(h:IntsAre vs ns):∀(m:Nat) (v:Value),vs[m]?=some v->∃i t,v=.int i t/\ns[m]?=some i:=by
 induction h with
 | nil=>intro m v e;simp at e
 | cons n t _ ih =>
  intro m v e
  cases m with
  | zero=>simp at e;subst e;exact⟨n,t,rfl,rfl⟩
  | succ m=>exact ih m v (by simpa using e)
theorem xO(h:IntsAre vs ns):vs.length=ns.length:=by
 induction h with
 | nil=>rfl
 | cons n t _ ih=>rw[AAG,AAG,ih]
def qW:DRA:=λds M Q=>match ds with
 | [.ref n]=>∃ns:List Int,ap M n (ns.map D.int)/\ns≠[]/\∀m,m∈ns->(∀a∈ns,a<=m)->Q (.int m) M
 | _=>False
theorem Ch(hc:X.calm=true):eU X (.builtin "max") qW:=by
 rintro pins s σ H vs us R I rv ⟨ds,M,ρ,Q,sm,rs,q,kk⟩
 unfold qW at q
 split at q
 ·obtain⟨ns,hL,hne0,q⟩:=q
  first | have hzz:=Reps.inv_cons rs | have hzz:=ay.inv_cons rs
  clear rs
  obtain⟨_,_,rfl,r1,rs⟩:=hzz
  cases rs
  obtain⟨u,rfl,e1⟩:=ay.one rv
  obtain⟨a,rfl,e⟩:=Rep.inv_ref r1
  cases e1
  obtain⟨ws,hq,r⟩:=ap.seq sm hL e
  obtain⟨its,rr,pl,hz⟩:=I.list hq
  obtain⟨m,hn,hm⟩:=I.loc
  obtain⟨oa,nn,hoa,hca,hdict,hdata⟩:=id pl
  have hne:a≠X.env.locals:=λz=>by
   subst z
   obtain⟨o,es,ep,e,hd,_⟩:=hn
   rw[hoa]at e
   cases e
   rw[hd]at hdata
   cases hdata
  have mem:∀b o,b≠X.env.locals->s.heap.get? b=some o->(b,o)∈[]++(a,oa)::Att.ledger s.heap X.env.locals a:=λb o h1 h2=>by
   rw[AAr,AAL,Att.mem_ledger]
   by_cases hal:b=a
   ·subst hal
    rw[hoa]at h2;cases h2
    exact .inl rfl
   ·exact .inr ⟨h1,hal,h2⟩
  refine max_list_N (I.ok.hd hc) (Att.fr_all hn) (Att.news_ledger hne hoa) pl.isList (jR r rr) (AEM.mpr hne0) λh' mm t tk F' N' h1 h2=>?_
  have kp:∀b u,b≠X.env.locals->s.heap.get? b=some u->h'.get? b=some u:=λb u hb e=>(N' (b,u) (mem b u hb e)).1
  exact⟨.int mm,H,I.keptF (t':=tk) kp hn F'.ns,⟨t,rfl⟩,kk _ _ ⟨.int mm,M,ρ,sm,.refl,.int mm,q mm h1 h2⟩⟩
 ·exact q.elim
def gZ(n:Nat):DRA:=λds M Q=>match ds with
 | [.int v]=>∃(ns:List Int) (j:Nat),ap M n (ns.map D.int)/\ns.length<=1000/\ns[j]?=some v/\(∀m,m<j->ns[m]?≠some v)/\Q (.int j) M
 | _=>False
noncomputable def isNum(v:Int):Value->Bool
 | .int i _=>i==v
 | _=>false
theorem uw:MtR X "list.index" (nR X.K gZ):=by
 rintro pins s σ H x xs v us R I rx rs ⟨n,a,ds,M,ρ,Q,ez,hn,sm,rr,q,kk⟩
 unfold gZ at q
 split at q
 ·rename_i num
  obtain⟨ns,j,hL,hl,hj,hno,q⟩:=q
  first | have hzz:=Reps.inv_cons rr | have hzz:=ay.inv_cons rr
  clear rr
  obtain⟨_,_,rfl,r1,rr⟩:=hzz
  cases rr
  obtain⟨u,rfl,e1⟩:=ay.one rs
  cases r1
  obtain⟨tk,rfl⟩:=e1
  subst ez
  cases rx
  obtain⟨ws,hq,r⟩:=ap.seq sm hL hn
  obtain⟨its,rv,pl,hz⟩:=I.list hq
  have ia:=jR r rv
  have len:=xO ia
  have at_:∀(m:Nat) (hm:m<its.toArray.size),∃i t,its.toArray[m]=.int i t/\ns[m]?=some i:=λm hm =>
   Br ia m _ (by rw[AAA]at hm;rw[AA7 hm];rfl)
  obtain⟨⟨oc,od,odt,os⟩,nn,hoa,hca,hdict,hdata⟩:=id pl
  obtain rfl:oc=.type "list":=hca
  obtain rfl:odt=.seq its.toArray nn:=hdata
  have hjl:j<its.toArray.size:=by
   have:=(AA5.mp hj).1
   rw[AAA];lia
  refine call_meetsIn PySem.F.slot_list_index pl.isList.typeIs PySem.F.entry_list_index (PySem.F.args_list_index_2 _ _) ((SeqAt.list_indexAt a its.toArray nn od os (.int num tk) (isNum num) j hjl (by rw[AAA]at hjl;lia) ?_ λm hm hlt=>?_).inModel X.prog X.w) ⟨hoa,λy hy=>?_,?_⟩
  ·obtain⟨i,t,e1,e2⟩:=at_ j hjl
   rw[hj]at e2
   obtain rfl:=AAM e2
   rw[e1]
   exact beq_self_eq_true _
  ·obtain⟨i,t,e1,e2⟩:=at_ m hm
   rw[e1]
   refine ACT.mpr λz=>hno m hlt ?_
   rw[e2,eq_of_beq (show (i==num)=true from z)]
  ·obtain⟨m,hm,rfl⟩:=Array.getElem_of_mem hy
   obtain⟨i,t,e1,e2⟩:=at_ m hm
   rw[e1]
   exact ACr _ _ _ _
  ·exact⟨.int j,H,I.tok _,⟨_,rfl⟩,kk _ _ ⟨.int j,M,ρ,sm,.refl,.int _,q⟩⟩
 ·exact q.elim
theorem vB:HMl X "index" gZ:=⟨_,PySem.F.slot_list_index,PySem.F.type_list_index,uw⟩
theorem FI:bootBuiltins "max" = some (.builtin "max"):=by decide +kernel
theorem BC(hc:X.calm=true:=by kernel_rfl):HC X (.builtin "max") qW:=⟨Ch hc⟩
end L2
namespace L2
open PySem PySem.Spec PyProof.Rows DL PySem.W PySem.Calls PyProof.V
def bY(h:Heap)(it d:Addr)(i n ep:Nat)(x0 x1 ok ov:Value):Prop :=
 h.get? it=some { cls:=.type "dict_itemiterator",dict:=none,data:=.fields #[x0,x1,.ref d,.int i 0,.int n 0,.int ep 0,ok,ov],slots:=#[] }
def fK(h:Heap)(it d S:Addr)(i n ep:Nat):Prop:=∃x0 x1 ok ov,bY h it d i n ep x0 x1 ok ov/\((x0=.none/\x1=.bool false)\/∃(a:Addr) (f:Bool) (oa:Obj),x0=rawInt a/\x1=.bool f/\h.get? a=some oa/\a≠it/\a≠S)
theorem fK.to(x:fK h it d S i n ep)(hk:∀b o,b≠S->h.get? b=some o->h'.get? b=some o)(hI:it≠S):fK h' it d S i n ep:=by
 obtain⟨x0,x1,ok,ov,p,q⟩:=x
 refine⟨x0,x1,ok,ov,hk _ _ hI p,q.imp id ?_⟩
 rintro⟨a,f,oa,e0,e1,ha,hai,haS⟩
 exact⟨a,f,oa,e0,e1,hk _ _ haS ha,hai,haS⟩
theorem vW(hd:(d==sysModules)=false)(hm:bu s.heap d es ep)(hQ:Q (.ref s.heap.objs.size) { s with heap:=s.heap.push { cls:=.type "dict_items",data:=.fields #[.ref d] } }) :
  wpAny (model prog w) A (call (.builtin "dict.items") [.ref d]) Q E s:=by
 refine call_meetsIn PySem.F.slot_dict_items hm.ty PySem.F.entry_dict_items (PySem.F.args_dict_items_1 _) (S:=λ_ R s'=>s'=s/\R (.ok (.ret (.ref s.heap.objs.size))) { s with heap:=s.heap.push { cls:=.type "dict_items",data:=.fields #[.ref d] } }) (.of_wp ?_) ⟨rfl,hQ⟩
 rintro A R s' ⟨rfl,h⟩
 unfold Builtin.«dict.items»
 refine AA0 ?_
 unfold Builtin.Dict.noArgs
 refine AA0 (ACH hm.ty (AA3 ?_))
 refine(show wpAny (model prog w) _ (ABp d >>= _) _ _ s' from ?_)
 unfold ABp
 rw[hd]
 exact AA0 (AA3 (AA0 (AAa (AA3 ⟨_,rfl,h⟩))))
theorem vY(hv:s.heap.IsItemsView v d)(hm:bu s.heap d es ep)
  (hQ:Q (.ref s.heap.objs.size) { s with heap:=s.heap.push { cls:=.type "dict_itemiterator",data:=.fields #[.none,.bool false,.ref d,.int 0 0,.int es.size 0,.int ep 0,.none,.none] } }):wpAny (model prog w) A (pyIter (.ref v)) Q E s:=by
 obtain⟨ov,v1,v2,v3⟩:=id hv
 obtain⟨o,h1,h2,h3⟩:=hm
 refine wpAny_pyIter_slot hv.typeIs F.slot_dict_items_iter (AAu F.slot_dict_items_iter hv.typeIs F.entry_dict_items_iter ?_ (F.args_dict_items_iter_1 _))
 unfold Builtin.«dict_items.__iter__»
 refine AA0 (AA3 (AA0 ?_))
 unfold AEW
 refine AA0 (ABZ v1 v3 (x:=.ref d) rfl (AA3 (AA0 ?_)))
 unfold AE2
 refine AA0 (ABb h1 h3 (AA0 (ABq h1 h3 ?_)))
 simp only[show AAs "dict_itemiterator" = true by decide,if_true]
 exact AAa (AA3 ⟨_,rfl,"dict_itemiterator",_,⟨_,AAE _ rfl,rfl⟩,F.slot_dict_itemiterator_next.lookup,by simpa [rawInt,ADM]using hQ⟩)
  (by simp only[sizeOk,ADM,AAA,AAC,AAG,AAY,ABQ];lia)
theorem vX(hst:fK s.heap it d S i es.size ep)(hS:S<s.heap.objs.size)(hm:bu s.heap d es ep)(hi:i<es.size)
  (hQ:∀h',fK h' it d S (i+1) es.size ep->h'.get? s.heap.objs.size=some { cls:=.type "tuple",data:=.seq #[es[i].key,es[i].val] }->h'.objs.size=s.heap.objs.size+1 ->
   (∀b o,b≠it->s.heap.get? b=some o->h'.get? b=some o)->(∀ok ov,bY s.heap it d i es.size ep .none (.bool false) ok ov->bY h' it d (i+1) es.size ep (rawInt s.heap.objs.size) (.bool false) es[i].key es[i].val)->Q (some (.ref s.heap.objs.size)) { s with heap:=h' }):wpAny (model prog w) A (pyNext (.ref it)) Q E s:=by
 obtain⟨hp,g,dr,tk,os⟩:=s
 obtain⟨x0,x1,ok,ov,hit,own⟩:=hst
 obtain⟨od,k1,k2,k3⟩:=id hm
 have hT:AEf ⟨hp,g,dr,tk,os⟩ (.ref it) "dict_itemiterator":=⟨_,hit,rfl⟩
 unfold pyNext
 refine AA0 (AC4 (AAz (name:=AA2 "__next__") hT ABa (AAu ABa hT ADG ?_ (ADA _))))
 refine AA0 (AA3 (AA0 (AA0 ?_)))
 first | refine AA0 (ABr hT (AA3 (AA0 (ABW hit rfl ?_)))) | refine AA0 (ACP hT (AA3 (AA0 (ABW hit rfl ?_))))
 rw[show AAs "dict_itemiterator" = true by decide]
 refine(show wpAny (model prog w) _ (if (AAZ d==ABB)=true then _ else _) _ _ _ from ?_)
 rw[if_neg (by exact AB7)]
 refine AA0 (AA3 (AA0 (ABb k1 k3 ?_)))
 rw[if_neg (by simp)]
 refine AA0 (AA3 (AA0 (ABq k1 k3 ?_)))
 rw[if_neg (by simp)]
 refine AA3 ?_
 dsimp only
 rw[if_neg (show ¬((i:Int)<0)from by lia),ABh,AB1 hi]
 dsimp only
 refine AA0 ?_
 first | refine AA0 (ABr hT (AA3 ?_)) | refine AA0 (ACP hT (AA3 ?_))
 refine AA0 (ADl hT ?_)
 refine(show wpAny (model prog w) _ (setField (.ref it) 3 (rawInt ((i:Int)+1)) >>= _) _ _ ⟨hp,g,dr,tk,os⟩from AA0 (ACK hit (by simp) λha he hs=>?_))
 have hsA:AB9 it hp ha:=hs
 have heA:bY ha it d (i+1) es.size ep x0 x1 ok ov:=by
  unfold bY
  rw[show ((i+1:Nat):Int)=(i:Int)+1 by lia]
  simpa [rawInt]using he
 have hTA:AEf ⟨ha,g,dr,tk,os⟩ (.ref it) "dict_itemiterator":=⟨_,heA,rfl⟩
 refine AA0 (AAW (AA0 (ADl hTA (AA0 (ADl hTA ?_)))))
 refine(show wpAny (model prog w) _ (ADi (.ref it) 6 es[i].key es[i].val) _ _ ⟨ha,g,dr,tk,os⟩from ?_)
 unfold ADi
 refine AA0 (wpAny_newTuple ?_)
 have heB:bY (ha.push { cls:=.type "tuple",data:=.seq #[es[i].key,es[i].val] }) it d (i+1) es.size ep x0 x1 ok ov:=AA4 _ heA
 generalize eB:ha.push { cls:=.type "tuple",data:=.seq #[es[i].key,es[i].val] }=hB at heB
 have zA:ha.objs.size=hp.objs.size:=hsA.1
 have hil:it<hp.objs.size:=AAD hit
 have tB:hB.get? hp.objs.size=some { cls:=.type "tuple",data:=.seq #[es[i].key,es[i].val] }:=by rw[<-eB,<-zA];exact AAE _ rfl
 have zB:hB.objs.size=hp.objs.size+1:=by rw[<-eB,ACN,zA]
 have kB:∀b o,b≠it->hp.get? b=some o->hB.get? b=some o:=λb o hb e=>by rw[<-eB];exact AA4 _ (hsA.extBut b o hb e)
 refine(show wpAny (model prog w) _ (ADN (.ref it) >>= _) _ _ ⟨hB,g,dr,tk,os⟩from ?_)
 rw[zA]
 have fin:∀hC:Heap,fK hC it d S (i+1) es.size ep->AB9 it hB hC->(∀ok ov,bY hp it d i es.size ep .none (.bool false) ok ov->bY hC it d (i+1) es.size ep (rawInt hp.objs.size) (.bool false) es[i].key es[i].val)->Q (some (.ref hp.objs.size)) ⟨hC,g,dr,tk,os⟩:=λhC st sb =>
  hQ hC st (sb.extBut _ _ (ABR hil) tB) (by show hC.objs.size=hp.objs.size+1;rw[sb.1,zB]) λb o hb e=>sb.extBut b o hb (kB b o hb e)
 refine AA0 ?_
 unfold ADN
 rcases own with⟨rfl,rfl⟩|⟨a,f,oa,rfl,rfl,ga,hai,haS⟩
 ·refine AA0 (ABZ heB rfl (x:=.none) rfl (AA3 ?_))
  simp only[if_true]
  refine AA0 (ABZ heB rfl (x:=ok) rfl (AA0 (ABZ heB rfl (x:=ov) rfl ?_)))
  refine AA0 (ACK heB (by simp) λh3 e3 s3=>?_)
  refine AA0 (ACK (show bY h3 it d (i+1) es.size ep .none (.bool false) es[i].key ov from e3) (by simp) λh4 e4 s4=>?_)
  refine AA0 (ACK (show bY h4 it d (i+1) es.size ep .none (.bool false) es[i].key es[i].val from e4) (by simp) λh5 e5 s5=>?_)
  refine AA0 (ACK (show bY h5 it d (i+1) es.size ep (rawInt hp.objs.size) (.bool false) es[i].key es[i].val from e5) (by simp) λh6 e6 s6=>?_)
  have p6:bY h6 it d (i+1) es.size ep (rawInt hp.objs.size) (.bool false) es[i].key es[i].val:=e6
  have sb:AB9 it hB h6:=by
   have s3':AB9 it hB h3:=s3
   have s4':AB9 it h3 h4:=s4
   have s5':AB9 it h4 h5:=s5
   have s6':AB9 it h5 h6:=s6
   exact⟨by rw[s6'.1,s5'.1,s4'.1,s3'.1],λb hb=>by rw[s6'.2 b hb,s5'.2 b hb,s4'.2 b hb,s3'.2 b hb]⟩
  exact AA0 (wpAny_letGo (AA3 (AA3 ⟨_,rfl,AA3 (fin h6 ⟨_,_,_,_,p6,.inr ⟨_,false,_,rfl,rfl,sb.extBut _ _ (ABR hil) tB,ABR hil,ABR hS⟩⟩ sb λ_ _ _=>p6)⟩)))
 ·have gB:hB.get? a=some oa:=kB a oa hai ga
  have no:∀{hC:Heap} (ok' ov':Value),bY hp it d i es.size ep .none (.bool false) ok' ov'->bY hC it d (i+1) es.size ep (rawInt hp.objs.size) (.bool false) es[i].key es[i].val:=λok' ov' z=>absurd (hit.symm.trans z) (by simp[rawInt])
  refine AA0 (ABZ heB rfl (x:=rawInt a) rfl ?_)
  refine(show wpAny (model prog w) _ (loadIfAlive ((a:Int).toNat) >>= _) _ _ _ from ?_)
  rw[ABh]
  refine AA0 (kdx_alive gB ?_)
  simp only[Option.isNone_some,AAR,if_false]
  refine AA0 (ABZ heB rfl (x:=.bool f) rfl ?_)
  cases f with
  | true =>
   rw[if_neg (show ¬((ACj true != ACj true)=true)from AB7)]
   refine AA3 ?_
   simp only[AAR,if_false]
   exact AA3 (AA3 ⟨_,rfl,AA3 (fin hB ⟨_,_,_,_,heB,.inr ⟨a,true,oa,rfl,rfl,gB,hai,haS⟩⟩ (Heap.SameBut.refl _ _) no)⟩)
  | false =>
   rw[if_pos (show (ACj false != ACj true)=true from rfl)]
   refine AA0 (ACK heB (by simp) λh3 e3 s3=>?_)
   have p3:bY h3 it d (i+1) es.size ep (rawInt a) (.bool true) ok ov:=e3
   have s3':AB9 it hB h3:=s3
   refine AA3 ?_
   simp only[AAR,if_false]
   exact AA3 (AA3 ⟨_,rfl,AA3 (fin h3 ⟨_,_,_,_,p3,.inr ⟨a,true,oa,rfl,rfl,s3'.extBut a oa hai gB,hai,haS⟩⟩ s3' no)⟩)
theorem yh(hh:A.handled=none)(hst:fK s.heap it d S es.size es.size ep)(hm:bu s.heap d es ep)
  (hQ:∀h',Heap.ExtBut it s.heap h'->Q none { s with heap:=h' }):wpAny (model prog w) A (pyNext (.ref it)) Q E s:=by
 obtain⟨x0,x1,ok,ov,hit,own⟩:=hst
 obtain⟨od,k1,k2,k3⟩:=id hm
 have hT:s.TypeIs (.ref it) "dict_itemiterator":=⟨_,hit,rfl⟩
 unfold pyNext
 refine AA0 (AC4 (AAz (name:=AA2 "__next__") hT ABa (AAu ABa hT ADG ?_ (ADA _))))
 refine AA0 (AA3 (AA0 (AA0 ?_)))
 first | refine AA0 (ABr hT (AA3 (AA0 (ABW hit rfl ?_)))) | refine AA0 (ACP hT (AA3 (AA0 (ABW hit rfl ?_))))
 rw[show AAs "dict_itemiterator" = true by decide]
 refine(show wpAny (model prog w) _ (if (AAZ d==ABB)=true then _ else _) _ _ s from ?_)
 rw[if_neg (by exact AB7)]
 refine AA0 (AA3 (AA0 (ABb k1 k3 ?_)))
 rw[if_neg (by simp)]
 refine AA0 (AA3 (AA0 (ABq k1 k3 ?_)))
 rw[if_neg (by simp)]
 refine AA3 ?_
 dsimp only
 rw[if_neg (show ¬((es.size:Int)<0)from by lia),ABh,ACo (AAB es.size)]
 dsimp only
 refine AA0 ?_
 first | refine AA0 (ABr hT (AA3 ?_)) | refine AA0 (ACP hT (AA3 ?_))
 refine(show wpAny (model prog w) _ (setField (.ref it) 2 .none >>= _) _ _ s from AA0 (AC7 hit rfl (by simp) ?_))
 refine(show wpAny (model prog w) _ (newExc (.type "StopIteration") [] >>= _) _ _ _ from AA0 ?_)
 simp only[newExc,newTuple]
 refine AA0 (AAa ?_ (by size_fits))
 refine AA0 (m:=firstArgMember _ _) (AEK (a:=ABB) (by first | rfl | (simp only[firstArgMember];rfl)) ?_)
 refine AAa ?_ (by size_fits)
 simp only[raiseNew]
 refine AA0 (wpAny_handled ?_)
 rw[show A.in1.handled=none from hh]
 refine AA0 (AA3 (wpAny_throw ?_))
 refine AA0 (AE5 (b:=true) (T:="StopIteration") ⟨_,AAE _ rfl,rfl⟩ isSubtype_stop ?_)
 exact AA3 (hQ _ (((ABD ..).extBut.push _).push _))
structure PairsAt(es:Array DictEntry)(lo:Addr)(h:Heap)(as:List Addr):Prop where
 nd:as.Nodup
 above:∀a∈as,lo<a
 tup:∀(j:Nat) (a:Addr),as[j]?=some a->∃e,es[j]?=some e/\h.get? a=some { cls:=.type "tuple",data:=.seq #[e.key,e.val] }
theorem PairsAt.lt{es:Array DictEntry}{lo:Addr}{h:Heap}{as:List Addr}(g:PairsAt es lo h as){a:Addr}(m:a∈as):a<h.objs.size:=by
 obtain⟨j,hj⟩:=AC1 m
 obtain⟨_,_,e⟩:=g.tup j a hj
 exact AAD e
theorem PairsAt.to{es:Array DictEntry}{lo:Addr}{h h':Heap}{as:List Addr}(g:PairsAt es lo h as)(k:∀b o,lo<b->h.get? b=some o->h'.get? b=some o):PairsAt es lo h' as :=
 ⟨g.nd,g.above,λj a hj=>by
  obtain⟨e,e1,e2⟩:=g.tup j a hj
  exact⟨e,e1,k a _ (g.above a (AAc hj)) e2⟩⟩
theorem PairsAt.snoc{es:Array DictEntry}{lo:Addr}{h:Heap}{as:List Addr}{a:Addr}{e:DictEntry}(g:PairsAt es lo h as)(fresh:a∉as)(la:lo<a)(he:es[as.length]?=some e)(ha:h.get? a=some { cls:=.type "tuple",data:=.seq #[e.key,e.val] }):PairsAt es lo h (as++[a]):=by
 refine⟨?_,?_,λj b hj=>?_⟩
 ·rw[ACW]
  refine⟨g.nd,by simp,λx hx y hy=>?_⟩
  rw[AAS.mp hy]
  rintro rfl
  exact fresh hx
 ·intro x hx
  rcases AAT.mp hx with hx | hx
  ·exact g.above x hx
  ·rw[AAS.mp hx];exact la
 ·rcases ADs j as.length with h1 | h1 | h1
  ·rw[AAJ h1]at hj
   exact g.tup j b hj
  ·subst h1
   have:a=b:=by simpa using hj
   subst this
   exact⟨e,he,ha⟩
  ·rw[ABo (by simp;lia)]at hj
   cases hj
section
variable{prog:Program}{w:World}{A:Around}{E:Value->Shared->Prop}{s:Shared}{d:Addr}{es:Array DictEntry}{ep:Nat}
theorem rJ{R:Result->Shared->Prop}{S I:Addr}(hh:A.handled=none)(hSI:S<I)(hSd:d≠S)(hId:d≠I)(hn:es.size<=sizeLine)(res:Value){h0:Heap}
  (hR:∀h' tk acc c as,(∀b o,b≠S->b≠I->h0.get? b=some o->h'.get? b=some o)->h'.get? S=some { cls:=.type "list",data:=.seq acc c }->as.length=es.size->PairsAt es I h' as->acc.toList=as.map AAZ->R (.ok (.ret res)) { s with heap:=h',toks:=tk }) :
  ∀(k i:Nat) (h:Heap) (tk c:Nat) (acc:Array Value) (as:List Addr),es.size-i=k->i<=es.size->fK h I d S i es.size ep->bu h d es ep->(∀b o,b≠S->b≠I->h0.get? b=some o->h.get? b=some o) ->
   h.get? S=some { cls:=.type "list",data:=.seq acc c }->acc.toList=as.map AAZ->as.length=i->PairsAt es I h as->I<h.objs.size ->
   codeAny (model prog w) A (.builtin "list.extend.loop" ⟨[.ref S,.ref I,res],[]⟩) R { s with heap:=h,toks:=tk }:=by
 have hne:S≠I:=AAH hSI
 intro k
 induction k with
 | zero =>
  intro i h tk c acc as hk hi hst hD keep hS hacc hal hG hIs
  obtain rfl:i=es.size:=by lia
  refine ABL PySem.F.entry_extend_loop ?_
  rw[ABF ABl _]
  refine(show wpAny (model prog w) A.in1 (pyNext (.ref I) >>= _) _ _ _ from ?_)
  refine AA0 (yh (s:={ s with heap:=h,toks:=tk }) (A:=A.in1) hh hst hD λh' he=>?_)
  exact AA3 (hR h' tk acc c as (λb o h1 h2 e=>he b o h2 (keep b o h1 h2 e)) (he S _ hne hS) hal (hG.to λb o hb e=>he b o (ABR hb) e) hacc)
 | succ k ih =>
  intro i h tk c acc as hk hi hst hD keep hS hacc hal hG hIs
  have hlt:i<es.size:=by lia
  have hsz:acc.size=i:=by rw[<-ABg,hacc,AA6,hal]
  refine ABL PySem.F.entry_extend_loop ?_
  rw[ABF ABl _]
  refine(show wpAny (model prog w) A.in1 (pyNext (.ref I) >>= _) _ _ _ from ?_)
  refine AA0 (vX (s:={ s with heap:=h,toks:=tk }) (S:=S) hst (AAD hS) hD hlt λh' hst' ht hz hkp _=>?_)
  try dsimp only at ht hz hkp ⊢
  have hS':=hkp S _ hne hS
  have hSl:S<h.objs.size:=AAD hS
  have up:∀b o,b≠S->h'.get? b=some o->(h'.update S (AB2 (·.push (AAZ h.objs.size)))).get? b=some o:=λb o hb e=>(AAj _ _ (ABG hb)).trans e
  refine(show wpAny (model prog w) A.in1 (updateSeq S (·.push (AAZ h.objs.size)) >>= _) _ _ _ from AA0 ?_)
  have tT:(h'.update S (AB2 (·.push (AAZ h.objs.size)))).get? h.objs.size=some { cls:=.type "tuple",data:=.seq #[es[i].key,es[i].val] }:=up _ _ (ABR hSl) ht
  refine AD0 hS' rfl (AA3 ⟨AC5 ABl _,ih (i+1) _ tk _ (acc.push (AAZ h.objs.size)) (as++[h.objs.size]) (by lia) hlt (hst'.to up (ABG hne)) (hD.to λo e=>up d o hSd (hkp d o hId e)) (λb o h1 h2 e=>up b o h1 (hkp b o h2 (keep b o h1 h2 e))) (AAd _ hS' rfl)
   (by rw[Array.toList_push,hacc,AAk];rfl) (by rw[AAC,hal];rfl) ?_ (AEU hIs (AAD tT))⟩) (by rw[hsz];lia) (by show (acc.push (AAZ h.objs.size)).size<=sizeLine+1;rw[Array.size_push,hsz];lia)
  refine(hG.to λb o hb e=>up b o (ABR (AEU hSI hb)) (hkp b o (ABR hb) e)).snoc (e:=es[i]) (λz=>AAe _ (hG.lt z)) hIs (by rw[hal];exact AB1 hlt) tT
theorem mh{R:Result->Shared->Prop}{r D:Addr}{c0:Nat}(hh:A.handled=none)(hv:s.heap.IsItemsView r d)(hm:bu s.heap d es ep)(hDr:D≠r)(hDd:d≠D)(hn:es.size<=sizeLine)(res:Value)(hD:s.heap.get? D=some { cls:=.type "list",data:=.seq #[] c0 })
  (hR:∀h' tk acc c as,(∀b o,b≠D->s.heap.get? b=some o->h'.get? b=some o)->h'.get? D=some { cls:=.type "list",data:=.seq acc c }->as.length=es.size->PairsAt es s.heap.objs.size h' as->acc.toList=as.map AAZ->R (.ok (.ret res)) { s with heap:=h',toks:=tk }) :
  wpAny (model prog w) A.in1 (ACB (.ref D) (.ref r) res)
   (λfin s'=>match fin with | .done f=>R (.ok f) s' | .again c'=>c'.quiet=true/\codeAny (model prog w) A c' R s') (λe s'=>R (.error e) s') s:=by
 have lD:D<s.heap.objs.size:=AAD hD
 have ld:d<s.heap.objs.size:=hm.lt
 have go:∀(h:Heap) (c1 tk:Nat),(∀b o,b≠D->(s.heap.push { cls:=.type "dict_itemiterator",data:=.fields #[.none,.bool false,.ref d,.int 0 0,.int es.size 0,.int ep 0,.none,.none] }).get? b=some o->h.get? b=some o) ->
   h.get? D=some { cls:=.type "list",data:=.seq #[] c1 }->codeAny (model prog w) A (.builtin "list.extend.loop" ⟨[.ref D,.ref s.heap.objs.size,res],[]⟩) R { s with heap:=h,toks:=tk }:=λh c1 tk kk hD1=>by
  have hI:=kk s.heap.objs.size _ (ABR lD) (AAE _ rfl)
  exact rJ (h0:=s.heap) hh lD hDd (AAH ld) hn res (λh' tk' acc c as k' hS' hl hG hacc=>hR h' tk' acc c as (λb o hb e=>k' b o hb (AAH (AAD e)) e) hS' hl hG hacc)
   es.size 0 h tk c1 #[] [] (Nat.sub_zero _) (AAV _) ⟨_,_,_,_,hI,.inl ⟨rfl,rfl⟩⟩ (hm.to λo e=>kk d o hDd (AA4 _ e)) (λb o hb _ e=>kk b o hb (AA4 _ e)) hD1 rfl rfl ⟨ADF,(λ_ z=>nomatch z),(λj a z=>by simp at z)⟩ (AAD hI)
 unfold ACB
 refine AA0 (ACx (T:="dict_items") hv.typeIs ?_)
 have e1:Builtin.List.listSameRef (.ref D) (.ref r)=false:=by simp[Builtin.List.listSameRef,hDr]
 have e2:(ACk "dict_items" == ACk "list")=false:=by decide
 have e3:(ACk "dict_items" == ACk "tuple")=false:=by decide
 simp only[e1,e2,e3,Bool.or_false,AAR,if_false]
 refine AA0 (vY hv hm ?_)
 have hD1:=AA4 { cls:=.type "dict_itemiterator",data:=.fields #[.none,.bool false,.ref d,.int 0 0,.int es.size 0,.int ep 0,.none,.none] } hD
 refine AA0 (AAW (kdx_hint (let ⟨o,ho,hc,_⟩:=hv;⟨o,AA4 _ ho,hc⟩) ?_))
 refine wpAny_ite_split (λ_=>?_) (λ_=>AA3 ⟨AC5 ABl _,go _ c0 _ (λb o _ e=>e) hD1⟩)
 refine AA0 (ADQ (AA0 (show wpAny (model prog w) _ (updateSeq D (·.push .none) >>= λ_=>updateSeq D (·.pop)) _ _ _ from AA0 (AD0 hD1 rfl ?_))))
 have hD2:=AAd (AB2 (·.push ABB)) hD1 rfl
 refine AD0 (hz:=by seq_fits) hD2 rfl ?_
 have hD3:=AAd (AB2 (·.pop)) hD2 rfl
 exact AA3 ⟨AC5 ABl _,go _ _ _ (λb o hb e=>(AAj _ _ (ABG hb)).trans ((AAj _ _ (ABG hb)).trans e)) hD3⟩
theorem lh{Q:Value->Shared->Prop}{r:Addr}(hh:A.handled=none)(hv:s.heap.IsItemsView r d)(hm:bu s.heap d es ep)(hz:es.size<=sizeLine)
  (h:∀h' tk as,(∀b u,s.heap.get? b=some u->h'.get? b=some u)->as.length=es.size->PairsAt es s.heap.objs.size h' as ->
   wpAny (model prog w) A.in1 (call (.builtin "list.sort") [.ref h'.objs.size]) (λ_ s'=>Q (.ref h'.objs.size) s') E { s with heap:=h'.push { cls:=.type "list",data:=.seq (as.map AAZ).toArray },toks:=tk }):wpAny (model prog w) A (call (.builtin "sorted") [.ref r]) Q E s:=by
 have lr:r<s.heap.objs.size:=let ⟨_,ho,_⟩:=hv;AAD ho
 refine call_function_entry kind_sorted plain_sorted entry_sorted (args_sorted1 _) ?_
 unfold Builtin.«sorted»
 refine AA0 (m:=checkCount "sorted" 1 1 _) (AA3 ?_)
 unfold collect
 refine AA0 (AA0 (wpAny_runValue (ABL F.entry_proto_collect ?_)))
 rw[ABF F.plain_proto_collect _]
 refine(show wpAny (model prog w) _ (newList [] >>= λl=>again (.builtin "list.__iadd__" ⟨[l,.ref r],[]⟩)) _ _ s from AA0 (AAa (AA3 ⟨AC5 F.plain_list_iadd _,ABL F.entry_list_iadd ?_⟩)))
 rw[ABF F.plain_list_iadd _]
 have key:=mh (prog:=prog) (w:=w) (A:=A.in1) (d:=d) (es:=es) (ep:=ep) (r:=r) (s:={ s with heap:=s.heap.push { cls:=.type "list",data:=.seq ([]:List Value).toArray } }) (D:=s.heap.objs.size) (c0:=0) (res:=.ref s.heap.objs.size)
  (R:=λr s'=>∃h' tk acc c as,r=.ok (.ret (.ref s.heap.objs.size))/\s'={ s with heap:=h',toks:=tk }/\(∀b u,s.heap.get? b=some u->h'.get? b=some u)/\h'.get? s.heap.objs.size=some { cls:=.type "list",data:=.seq acc c }/\as.length=es.size/\PairsAt es s.heap.objs.size h' as/\acc.toList=as.map AAZ)
  (by simp[hh]) (let ⟨o,ho,x⟩:=hv;⟨o,AA4 _ ho,x⟩) (hm.to λo e=>AA4 _ e) (ABR lr) (AAH hm.lt) hz (AAE _ rfl)
  λh' tk acc c as k hD hl hG hacc=>⟨h',tk,acc,c,as,rfl,rfl,λb u e=>k b u (AAH (AAD e)) (AA4 _ e),hD,hl,⟨hG.nd,λa ha=>Nat.lt_of_le_of_lt (by show s.heap.objs.size<=(s.heap.push _).objs.size;rw[ACN];exact ADo _) (hG.above a ha),hG.tup⟩,hacc⟩
 have last:∀h' tk (acc:Array Value) c as,(∀b u,s.heap.get? b=some u->h'.get? b=some u)->h'.get? s.heap.objs.size=some { cls:=.type "list",data:=.seq acc c }->as.length=es.size->PairsAt es s.heap.objs.size h' as->acc.toList=as.map AAZ ->
   wpAny (model prog w) A.in1 (do let ob <-load s.heap.objs.size;match ob.data with | .seq xs _=>pure xs.toList | _=>unsupported "internal:collect":Sem (List Value))
    (λxs s'=>wpAny (model prog w) A.in1 (do let l <-newList xs;let _ <-holding [l] (call (.builtin "list.sort") [l] []);ret l) (λfin s'=>∃v,fin=Fin.done (Flow.ret v)/\Q v s') E s') E { s with heap:=h',toks:=tk }:=λh' tk acc c as kk hD hl hG hacc=>by
  refine AA0 (wpAny_load hD (AA3 (AA0 (AD4 ?_ (by rw[hacc,AA6];lia)))))
  rw[hacc]
  exact AA0 (AAW (AAl (h h' tk as kk hl hG) (λ_ s' q=>AA3 ⟨_,rfl,q⟩) λ_ _ z=>z))
 refine AAl key (λfin s' x=>?_) λe s' ⟨_,_,_,_,_,z,_⟩=>by cases z
 cases fin with
 | done f =>
  obtain⟨h',tk,acc,c,as,z,rfl,kk,hD,hl,hG,hacc⟩:=x
  cases z
  exact last h' tk acc c as kk hD hl hG hacc
 | again c' =>
  refine⟨x.1,ACu x.2 ?_⟩
  rintro r s2 ⟨h',tk,acc,c,as,z,e,kk,hD,hl,hG,hacc⟩
  subst z e
  exact last h' tk acc c as kk hD hl hG hacc
end
noncomputable def mQ(H:Hp)(ts:List (Addr×List V)):Hp:=λb=>match ts.lookup b with
 | some vs=>some (.tup vs)
 | none=>H b
theorem qj{ts:List (Addr×List V)}{b:Addr}{vs:List V}(h:ts.lookup b=some vs):(b,vs)∈ts:=by
 induction ts with
 | nil=>cases h
 | cons t ts ih =>
  rw[AAv]at h
  cases e:(b==t.1) with
  | true =>
   rw[e]at h
   have:b=t.1:=by simpa using e
   cases h
   rw[this];simp
  | false =>
   rw[e]at h
   exact AA9 _ (ih h)
theorem qi:∀{as:List Addr}{us:List (List V)}{j:Nat}{a:Addr}{q:List V},as.Nodup->as[j]?=some a->us[j]?=some q->(as.zip us).lookup a=some q
 | [],_,_,_,_,_,h,_=>by simp at h
 | _::_,[],_,_,_,_,_,h=>by simp at h
 | b::as,u::us,0,a,q,_,h1,h2=>by
  simp at h1 h2
  subst h1 h2
  simp[ABT,AAv]
 | b::as,u::us,j+1,a,q,nd,h1,h2=>by
  rw[ABn]at nd
  have m:a∈as:=AAc (by simpa using h1)
  have ne:(a==b)=false:=by
   rw[beq_eq_false_iff_ne]
   rintro rfl
   exact nd.1 m
  rw[ABT,AAv,ne]
  exact qi nd.2 (by simpa using h1) (by simpa using h2)
theorem ju{ts:List (Addr×List V)}{b:Addr}(h:∀p∈ts,p.1≠b):mQ H ts b=H b:=by
 unfold mQ
 cases e:ts.lookup b with
 | none=>rfl
 | some vs=>exact absurd rfl (h _ (qj e))
theorem Inv.laidT(I:Inv X pins σ H s)(k:∀b u,b≠X.env.locals->s.heap.get? b=some u->h'.get? b=some u)(hn:s.heap.Ns X.env.locals m)(hn':h'.Ns X.env.locals m)
  (fr:∀p∈ts,s.heap.get? p.1=none) (new:∀b vs,ts.lookup b=some vs->aY X.prog X.w (mQ H ts) h' b (.tup vs)):Inv X pins σ (mQ H ts) { s with heap:=h',toks:=t' }:=by
 have fa:∀p∈ts,H p.1=none:=λp hp=>HOk.none I.hok (fr p hp)
 have old:∀b u,s.heap.get? b=some u->mQ H ts b=H b:=λb u e=>ju λp hp z=>by rw[<-z,fr p hp]at e;cases e
 have trk:∀b u,H b=some u->mQ H ts b=some u:=λb u e=>by
  rw[ju λp hp z=>by rw[<-z,fa p hp]at e;cases e];exact e
 refine I.step (g':=s.gens) (d':=s.drawn) (ch:=[]) (λ_ z=>nomatch z) (λb u hL _ _ e _=>k b u hL e) (λb u hL _ _ e _=>⟨u.slots,k b u hL e⟩) (λb u _ e n=>by rw[old b u e];exact n) (λb u _ e=>?_)
  (λb xs q=>trk b _ q) (λb u xs q=>trk b _ q) (λb ps q=>⟨#[],by rw[trk b _ q];simp⟩) (λm' hm=>?_) (λb w q=>?_) I.bare
 ·by_cases hb:b=X.env.locals
  ·subst hb
   obtain⟨o',_,_,ho,_⟩:=hn'
   exact⟨o',ho⟩
  ·exact⟨u,k b u hb e⟩
 ·have:m=m':=funext λx=>hn.agree hm x
  subst this
  exact hn'
 ·cases e:ts.lookup b with
  | some vs =>
   have:mQ H ts b=some (.tup vs):=by unfold mQ;rw[e]
   rw[this]at q
   cases q
   exact new b vs e
  | none =>
   have:mQ H ts b=H b:=by unfold mQ;rw[e]
   rw[this]at q
   refine(I.hok b w q).stay (λc v hc r=>k c v ?_ r) (λc z=>trk c _ z) λc xs z=>trk c _ z
   rcases hc with rfl | hc
   ·exact ad q I.free
   ·exact ad hc I.free
section
variable{K:AA1}{ρ:List Addr}{H H':Hp}{M:Mem}
theorem Grow.more(ag:∀b u,H b=some u->H' b=some u):Grow K ρ H ρ H':=⟨ACA,λa xs h=>by
 rcases h with h | h
 ·rcases h with h | ⟨ob,h⟩
  ·exact .inl (.inl (ag _ _ h))
  ·exact .inl (.inr ⟨ob,ag _ _ h⟩)
 ·exact .inr h,λ_ _ h=>ag _ _ h⟩
theorem Sim.more(S:Sim K ρ M H)(ag:∀b u,H b=some u->H' b=some u):Sim K ρ M H' :=
 ⟨S.nd,S.len,λn a mo e1 e2=>(S.obj n a mo e1 e2).grow (Grow.more ag) (by
  rcases S.tracked e1 with⟨ob,hob⟩ | q
  ·exact .inl ((ag _ _ hob).trans hob.symm)
  ·rw[e2]at q;exact .inr q)⟩
end
section
variable{X:Cx}{o:Expr}{to:DTE}{apos cpos p pos:Pos}{k:Nat}
noncomputable def bG(kvs:List (D×D)):List D:=kvs.map λp=>.tup [p.1,p.2]
def dA(to:DTE):DTE:=λS M Q=>to S M λd M1=>match d with
 | .ref n=>∃kvs,M1[n]?=some (.dkt kvs)/\SrtOk M1 (bG kvs)/\∀ys,ys.Perm (bG kvs)->mO M1 ys->Q (.ref M1.length) (M1++[.lst ys])
 | _=>False
theorem Ak{K:AA1}{ρ:List Addr}{H:Hp}{kvs:List (D×D)}{xs:List (D×Addr×Value)}(r:Paired (mP K ρ H) kvs xs):∃us:List (List V),us.length=kvs.length/\∀(j:Nat) x,xs[j]?=some x->∃p v,kvs[j]?=some p/\us[j]?=some [.ref x.2.1,v]/\Rep K ρ H p.1 (.ref x.2.1)/\Rep K ρ H p.2 v/\aR v x.2.2:=by
 induction r with
 | nil=>exact⟨[],rfl,λj x e=>by simp at e⟩
 | @cons p q ps qs h t ih =>
  obtain⟨us,hl,hu⟩:=ih
  obtain⟨_,_,h3,v,h4,h5⟩:=h
  refine⟨[.ref q.2.1,v]::us,by rw[AAG,AAG,hl],λj x e=>?_⟩
  cases j with
  | zero=>simp at e;subst e;exact⟨p,v,rfl,rfl,h3,h4,h5⟩
  | succ j=>exact hu j x (by simpa using e)
theorem tJ{K:AA1}{ρ:List Addr}{H:Hp}:∀(ds:List D) (as:List Addr),ds.length=as.length->(∀(j:Nat) d a,ds[j]?=some d->as[j]?=some a->Rep K ρ H d (.ref a))->Reps K ρ H ds (as.map V.ref)
 | [],[],_,_=>.nil
 | [],_::_,e,_=>by simp at e
 | _::_,[],e,_=>by simp at e
 | d::ds,a::as,e,h=>.cons (h 0 d a rfl rfl) (tJ ds as (by simpa using e) λj d' a' h1 h2=>h (j+1) d' a' (by simpa using h1) (by simpa using h2))
theorem iN:∀as:List Addr,ay (as.map V.ref) (as.map AAZ)
 | []=>.nil
 | a::as=>.cons rfl (iN as)
theorem oH(hr:Room k X.A)(hc:X.calm=true)(ho:DE X o to)(hm:X.mg "sorted" = none)(hg:X.env.kindOf "sorted" = some .globalImplicit)
  (hs:starEach [AEL (.Attribute o "items" apos) [] [] cpos] X.env=[(false,eval (AEL (.Attribute o "items" apos) [] [] cpos) X.env)])
  (hbase:attributeBase o "items" X.env (eval o X.env)=eval o X.env) (hline:(apos.endLine==cpos.line)=true) :
  DE X (.Call (.Name "sorted" p) [.Call (.Attribute o "items" apos) [] [] cpos] [] pos) (dA to):=by
 rintro pins s σ H R I ⟨S,M,ρ,Q,sm,sr,q,kk⟩
 refine ABu (fB I hg hm (by rfl) ?_)
 refine callWith_builtin1 ?_ (by rw[hs];rfl) rfl
 rw[hs]
 refine AES (wpAny_Call_method0_late hbase hline (thn (ho pins s σ H _ I ⟨S,M,ρ,_,sm,sr,q,λv H' w=>w⟩) ?_))
 rintro u s1 ⟨v,H1,I1,rv,x,M1,ρ1,sm1,g1,r1,q1⟩
 cases r1 with
 | @ref n a hn =>
  cases rv
  obtain⟨kvs,hM,so,q2⟩:=(show ∃kvs,M1[n]?=some (.dkt kvs)/\SrtOk M1 (bG kvs)/\∀ys,ys.Perm (bG kvs)->mO M1 ys->Q (.ref M1.length) (M1++[.lst ys])from q1)
  obtain⟨xs,hH,r,dd,hsm,hz,hx,nd⟩:=iy I1 sm1 hn hM
  obtain⟨es,em,el,eg⟩:=vV I1 hH
  refine⟨"dict","dict.items",ADZ,PySem.F.slot_dict_items,PySem.F.type_dict_items,dd.typeIs,λb z=>?_,ACn rfl (PySem.evalArgs_none (vW hsm em ?_))⟩
  ·cases z
   obtain⟨ob,_,_,h1,h2,_⟩:=dd
   exact⟨ob,h1,h2.2.1⟩
  refine Calls.spliced_nil ?_
  have I2:Inv X pins σ H1 { s1 with heap:=s1.heap.push { cls:=.type "dict_items",data:=.fields #[.ref a] } }:=I1.kept (t':=s1.toks) λb o e=>AA4 _ e
  have em2:bu ({ s1 with heap:=s1.heap.push { cls:=.type "dict_items",data:=.fields #[.ref a] } }:Shared).heap a es xs.length:=em.to λo e=>AA4 _ e
  have vw:({ s1 with heap:=s1.heap.push { cls:=.type "dict_items",data:=.fields #[.ref a] } }:Shared).heap.IsItemsView s1.heap.objs.size a:=⟨_,AAE _ rfl,rfl,rfl⟩
  generalize ({ s1 with heap:=s1.heap.push { cls:=.type "dict_items",data:=.fields #[.ref a] } }:Shared)=s2 at I2 em2 vw ⊢
  refine lh (I2.ok.hd hc) vw em2 (by lia) λhb tk as kp hl hG=>?_
  obtain⟨us,ul,hu⟩:=Ak r
  obtain⟨m,hns,hm'⟩:=I2.loc
  have hns':hb.Ns X.env.locals m:=by
   obtain⟨o',es',ep',e,aP⟩:=hns
   exact⟨o',es',ep',kp _ _ e,aP⟩
  have fr:∀p∈as.zip us,s2.heap.get? p.1=none:=λp hp=>by
   have lo:=hG.above p.1 (AEE hp).1
   cases qq:s2.heap.get? p.1 with
   | none=>rfl
   | some o'=>exact absurd (AEU (AAD qq) lo) (AAe _)
  have ag:∀b u,H1 b=some u->mQ H1 (as.zip us) b=some u:=λb u e=>by
   rw[ju λp hp z=>by rw[<-z,HOk.none I2.hok (fr p hp)]at e;cases e];exact e
  have at_:∀(j:Nat) b,as[j]?=some b->∃pp x vv,kvs[j]?=some pp/\xs[j]?=some x/\us[j]?=some [.ref x.2.1,vv]/\Rep X.K ρ1 H1 pp.1 (.ref x.2.1)/\Rep X.K ρ1 H1 pp.2 vv/\aR vv x.2.2/\hb.get? b=some { cls:=.type "tuple",data:=.seq #[.ref x.2.1,x.2.2] }:=λj b hj=>by
   have lj:=(AA5.mp hj).1
   have hxj:xs[j]?=some (xs[j]'(by lia)):=AA7 (by lia)
   obtain⟨pp,vv,e1,e2,e3,e4,e5⟩:=hu j _ hxj
   obtain⟨e,f1,f2⟩:=hG.tup j b hj
   obtain⟨e',f3,f4,f5⟩:=eg j _ hxj
   rw[f1]at f3
   obtain rfl:=AAM f3
   rw[f4,f5]at f2
   exact⟨pp,_,vv,e1,hxj,e2,e3,e4,e5,f2⟩
  have I3:Inv X pins σ (mQ H1 (as.zip us)) { s2 with heap:=hb,toks:=tk }:=I2.laidT (λb u _ e=>kp b u e) hns hns' fr λb vs e=>by
   obtain⟨j,hj⟩:=AC1 (qj e)
   obtain⟨z1,z2⟩:=List.getElem?_zip_eq_some.mp hj
   obtain⟨pp,x,vv,_,_,e2,_,_,e5,f2⟩:=at_ j b z1
   rw[show us[j]?=some vs from z2]at e2
   obtain rfl:=AAM e2
   exact⟨by show (2:Nat)<=sizeLine;rw[ABQ];lia,[.ref x.2.1,x.2.2],.cons rfl (.cons e5 .nil),⟨_,f2,rfl,⟨0,rfl⟩,rfl⟩⟩
  have gr:Grow X.K ρ1 H1 ρ1 (mQ H1 (as.zip us)):=Grow.more ag
  have rps:Reps X.K ρ1 (mQ H1 (as.zip us)) (bG kvs) (as.map V.ref):=tJ _ _ (by unfold bG;rw[AA6];lia) λj dd' b h1 h2=>by
   obtain⟨pp,x,vv,e0,_,e2,e3,e4,_,_⟩:=at_ j b h2
   unfold bG at h1
   rw[AAU,e0]at h1
   obtain rfl:=AAM h1
   refine .tup (SqT.of (show mQ H1 (as.zip us) b=some (.tup [.ref x.2.1,vv])from ?_)) (.cons (e3.grow gr) (.cons (e4.grow gr) .nil))
   unfold mQ
   rw[qi hG.nd h2 e2]
  have lL:X.env.locals<hb.objs.size:=by
   obtain⟨o',_,_,e,_⟩:=hns'
   exact AAD e
  have hD:hb.get? hb.objs.size=none:=by
   cases qq:hb.get? hb.objs.size with
   | none=>rfl
   | some o'=>exact absurd (AAD qq) (AAe _)
  refine nu (s:={ s2 with heap:=hb,toks:=tk }) (tk:=tk) (n:=0) hr (by show X.A.units+1<=X.A.units+4;lia) I3 (sm1.more ag) so.g rps (iN as) hns' ?_ (λb u _ e=>AA4 _ e) hD (ABR lL) (AAE _ rfl) λv H' z=>kk v H' (VQ.trans (g1.trans gr) (z Q q2))
  obtain⟨o',es',ep',e,aP⟩:=hns'
  exact⟨o',es',ep',AA4 _ e,aP⟩
 | _=>exact q1.elim
theorem oo(hr:Room k X.A)(ho:HE X o to)(hm:X.mg "sorted" = none)(hc:X.calm=true:=by kernel_rfl)(hg:X.env.kindOf "sorted" = some .globalImplicit:=by kernel_rfl)
  (hs:starEach [AEL (.Attribute o "items" apos) [] [] cpos] X.env=[(false,eval (AEL (.Attribute o "items" apos) [] [] cpos) X.env)]:=by kernel_rfl)
  (hbase:attributeBase o "items" X.env (eval o X.env)=eval o X.env:=by kernel_rfl) (hline:(apos.endLine==cpos.line)=true:=by kernel_rfl) :
  HE X (.Call (.Name "sorted" p) [.Call (.Attribute o "items" apos) [] [] cpos] [] pos) (dA to):=⟨oH hr hc ho.ok hm hg hs hbase hline⟩
end
end L2
namespace L2
open PySem PySem.Spec PyProof.Rows DL PySem.W
noncomputable def dictOf(ps:List (D×D)):List (D×D):=ps.foldl (λkvs p=>ck kvs p.1 p.2) []
theorem cC:dictOf (ps++[p])=ck (dictOf ps) p.1 p.2:=by
 unfold dictOf
 rw[List.foldl_append];rfl
theorem mf:∀(ps kvs:List (D×D)),(ps.foldl (λkvs p=>ck kvs p.1 p.2) kvs).length<=kvs.length+ps.length
 | [],_=>AAB _
 | p::ps,kvs=>by
  have h1:=mf ps (ck kvs p.1 p.2)
  have h2:=cb (kvs:=kvs) (k:=p.1) (d:=p.2)
  rw[List.foldl_cons,AAG];lia
theorem ji:(dictOf ps).length<=ps.length:=by
 have:=mf ps []
 rw[AAY,Nat.zero_add]at this
 exact this
theorem mn:entryFor table "dict.update.loop" = some Builtin.«dict.update.loop»:=entryFor_of_tree (by kernel_rfl)
theorem eG:plainId "dict.update.loop" = true:=by decide +kernel
theorem fc:typeLookup (.type "list") "__getattr__" = pure none:=by rw[typeLookup_type,builtinLookup_eq_fast];kernel_rfl
theorem iH:typeLookup (.type "list") "keys" = pure none:=by rw[typeLookup_type,builtinLookup_eq_fast];kernel_rfl
section
variable{prog:Program}{w:World}{A:Around}{E:Value->Shared->Prop}{h:Heap}{g:Array GenState}{d:Drawn}{t:Nat}{os:OsState}{a:Addr}{o:Obj}
theorem uJ(hx:h.get? a=some o)(hc:o.cls=.type "list")(hdict:o.dict=none)(hdat:o.data=.seq its nn)(hA:A.handled=none)(hq:∀h' tk e,Heap.NewAttrErr h h' e (.ref a) "keys"->R (.error (.ref e)) ⟨h',g,d,tk,os⟩) :
  codeAny (model prog w) A (.call (.builtin "list.__getattribute__") ⟨[.ref a,.str "keys" u],[]⟩) R ⟨h,g,d,t,os⟩:=by
 obtain⟨oc,od,odt,osl⟩:=o
 obtain rfl:oc=.type "list":=hc
 obtain rfl:od=none:=hdict
 obtain rfl:odt=.seq its nn:=hdat
 have hT:(⟨h,g,d,t,os⟩:Shared).TypeIs (.ref a) "list":=⟨_,hx,rfl⟩
 have f4:=iH
 refine ACQ ABs.plain PySem.F.entry_list_ga (ABs.check _ _ _ _ _ _ _ _ hT (PySem.F.args_list_getattribute_2 _ _) ?_)
 unfold Builtin.«object.__getattribute__»
 repeat (any_goals (first | assumption | wp_step))
 refine wpAny_raiseAttrError (o:=.ref a) (name:="keys") (by first | exact hA | simpa using hA) hq ?_
 exact attrMsg_fits (by decide +kernel) (by size_fits)
theorem nV(hx:h.get? a=some o)(hc:o.cls=.type "list")(hdict:o.dict=none)(hdat:o.data=.seq its nn)(hA:A.handled=none)(hq:∀h' tk,(∀b ob,h.get? b=some ob->h'.get? b=some ob)->Q none ⟨h',g,d,tk,os⟩) :
  wpAny (model prog w) A (getAttr? (.ref a) "keys") Q E ⟨h,g,d,t,os⟩:=by
 obtain⟨oc,od,odt,osl⟩:=o
 obtain rfl:oc=.type "list":=hc
 obtain rfl:od=none:=hdict
 obtain rfl:odt=.seq its nn:=hdat
 have hT:∀tk,(⟨h,g,d,tk,os⟩:Shared).TypeIs (.ref a) "list":=λ_=>⟨_,hx,rfl⟩
 have f1:=sub_AttributeError
 have f2:=ABs.lookup
 have f3:=ABs.bind (.ref a)
 have f5:=fc
 unfold getAttr? getAttrBy? getAttrBy
 repeat (any_goals (first | assumption | exact hT _ | wp_step))
 refine uJ hx rfl rfl rfl (by first | exact hA | simpa using hA) λh' tk e hx'=>?_
 obtain⟨t',u',he⟩:=hx'.there
 unfold getattributeRaised
 repeat (any_goals (first | assumption | wp_step))
 exact hq _ _ hx'.keeps
end
theorem dsetE(hu:(br prog w).room A)(kat:(br prog w).is s.heap k b)
  (hm:s.heap.DictOfH (br prog w) d xs) (hx:dX d xs prog w s.heap) (hz:xs.length<=sizeLine)
  (hQ:∀h',dX d (storedH xs k b v) prog w h'->AB9 d s.heap h'->Q () { s with heap:=h',toks:=s.toks+(br prog w).draws k }):wpAny (model prog w) A (dictSet d (.ref b) v) Q E s:=by
 obtain⟨_,_,_,_,_,_,_,his,hn⟩:=hm
 obtain⟨o,es,ho,hc,hd,he'⟩:=hx
 have he:es.toList=xs.map (entryOfKey (br prog w)):=he'
 unfold dictSet
 try with_reducible refine AAW ?_
 refine AA0 ((br prog w).pyHash hu kat ?_)
 unfold dictSetHashed
 try with_reducible refine AAW ?_
 have hl:es.size=xs.length:=size_of_entries he
 refine AA0 (wpAny_dictFind_heap (s:={ s with toks:=s.toks+(br prog w).draws k }) hu kat ho hd he his hn (λhno=>?_) λj p hj=>?_)
 ·refine AA0 (ADQ (wpAny_updateDictKeys (hz:=by lia) (s:={ s with toks:=s.toks+(br prog w).draws k }) ho hd (hQ _ ⟨_,es.push ⟨(br prog w).hash k,.ref b,v⟩,AAd _ ho (ADL (AD9 hd _)),hc.mapDictKeys _,?_,?_⟩ (ABD ..))))
  ·rw[AD9 hd,storedH_new (ADu hno),AAC];rfl
  ·rw[storedH_new (ADu hno)]
   rw[Array.toList_push,he,AAk]
   rfl
 ·refine AA0 (ADQ (AA0 (wpAny_updateDict (s:={ s with toks:=s.toks+(br prog w).draws k }) ho hd (wpAny_point (hQ _ ⟨_,es.modify j λe=>{ e with val:=v },AAd _ ho (ADL (AE6 hd _)),hc.mapDict _,?_,?_⟩ (ABD ..))))))
  ·rw[AE6 hd,storedH_old (atKey_of_get hn hj),AA6]
  ·rw[storedH_old (atKey_of_get hn hj)]
   have q:=modify_map_putAt (entryOfKey (br prog w)) (λe:DictEntry=>{ e with val:=v }) k v (λ_ _=>rfl) hn hj
   rw[<-he]at q
   obtain⟨l⟩:=es
   have q2:(Array.modify ⟨l⟩ j λe:DictEntry=>{ e with val:=v }).toList=(xs.map (putAt k v)).map (entryOfKey (br prog w)):=by simpa using q
   exact q2
structure DD(X:Cx)(ρ:List Addr)(H:Hp)(h:Heap)(a:Addr)(kvs:List (D×D))(xs:List (D×Addr×Value)):Prop where
 dx:dX a xs X.prog X.w h
 kv:Paired (mP X.K ρ H) kvs xs
 nd:(kvs.map (·.1)).Nodup
theorem DD.at(x:DD X ρ H h a kvs xs)(k:∀o,h.get? a=some o->h'.get? a=some o):DD X ρ H h' a kvs xs:=by
 obtain⟨⟨o,es,e1,e2,e3,e4⟩,kv,nd⟩:=x
 exact⟨⟨o,es,k _ e1,e2,e3,e4⟩,kv,nd⟩
theorem DD.len(x:DD X ρ H h a kvs xs):xs.length=kvs.length:=by
 have:=congrArg AC9 (nZ x.kv)
 rwa [AA6,AA6]at this
theorem DD.of(I:Inv X pins σ H s)(x:DD X ρ H s.heap a kvs xs):s.heap.DictOfH (br X.prog X.w) a xs:=by
 obtain⟨o,es,e1,e2,e3,e4⟩:=x.dx
 have ek:=nZ x.kv
 refine⟨o,es,_,e1,e2,e3,e4,λy hy=>?_,by rw[ek];exact x.nd⟩
 obtain⟨i,hi⟩:=AC1 hy
 obtain⟨p,_,q1,q2,q3,_⟩:=ib x.kv hi
 rw[<-q1]
 exact eY I 8 _ _ _ q3 rfl q2
theorem Ca(I:Inv X pins σ H s)(hu:A.units+20<cLine)(W:Walks X.prog X.w A.in1 J fp wr m P Sx)(S:Addr)(hSf:S∉fp)
  (hS0:s.heap.get? S=none) (hw0:∀b∈wr,s.heap.get? b=none) (ps:List (D×D)) (hm:ps.length=m) (hval:∀i v,P i v->∃p,ps[i]?=some p/\(∃vv,Rep X.K ρ H (.tup [p.1,p.2]) vv/\aR vv v)/\fT 8 p.1=true/\qo p.1=true) (hb:m<=1000) :
  ∀(k i:Nat) (h:Heap) (tk:Nat) (xs:List (D×Addr×Value)) (j:Int) (t:Tok),m-i=k->i<=m->Sx i h->DD X ρ H h S (dictOf (ps.take i)) xs->(∀b u,s.heap.get? b=some u->h.get? b=some u) ->
   (∀h' tk xs',(∀b u,s.heap.get? b=some u->h'.get? b=some u)->DD X ρ H h' S (dictOf ps) xs'->R (.ok (.ret .none)) { s with heap:=h',toks:=tk }) ->
   codeAny (model X.prog X.w) A (.builtin "dict.update.loop" ⟨[.ref S,.ref J,.int j t,.none],[]⟩) R { s with heap:=h,toks:=tk }:=by
 have hSw:S∉wr:=λh=>hSf (W.sub _ h)
 intro k
 induction k with
 | zero =>
  intro i h tk xs j t hk hi hst hS hold hR
  obtain rfl:i=m:=by lia
  refine ABL mn ?_
  rw[ABF eG _]
  refine(show wpAny (model X.prog X.w) A.in1 (pyNext (.ref J) >>= _) _ _ _ from AA0 (W.done _ _ _ hst λh' tk hk'=>?_))
  rw[<-hm,ABX]at hS
  refine(show wpAny (model X.prog X.w) A.in1 (Builtin.Dict.addKeywords S [] >>= _) _ _ _ from AA0 (AA3 (AA3 ?_)))
  exact hR h' tk xs (λb u e=>hk' b u (λz=>by rw[hw0 b z]at e;cases e) (hold b u e)) (hS.at λo e=>hk' S o hSw e)
 | succ k ih =>
  intro i h tk xs j t hk hi hst hS hold hR
  refine ABL mn ?_
  rw[ABF eG _]
  refine(show wpAny (model X.prog X.w) A.in1 (pyNext (.ref J) >>= _) _ _ _ from AA0 (W.item i _ _ _ (by lia) hst λv h' tk hP hst' hk'=>?_))
  obtain⟨p,hp,⟨vv,r,rv⟩,kd,it⟩:=hval i v hP
  have old':∀b u,s.heap.get? b=some u->h'.get? b=some u:=λb u e=>hk' b u (λz=>by rw[hw0 b z]at e;cases e) (hold b u e)
  have I':Inv X pins σ H { s with heap:=h',toks:=tk }:=I.kept old'
  have hS':=hS.at λo e=>hk' S o hSw e
  have hl:=hS'.len
  have dl:=ji (ps:=ps.take i)
  have dd:=hS'.of (s:={ s with heap:=h',toks:=tk }) I'
  obtain⟨a,vs,rfl,hq,rr⟩:=Rep.inv_tup r
  cases rv
  first | have hzz:=Reps.inv_cons rr | have hzz:=ay.inv_cons rr
  clear rr
  obtain⟨_,_,rfl,r1,rr⟩:=hzz
  first | have hzz:=Reps.inv_cons rr | have hzz:=ay.inv_cons rr
  clear rr
  obtain⟨_,_,rfl,r2,rr⟩:=hzz
  cases rr
  obtain⟨its,r2',pl,hz⟩:=I'.tuple hq
  obtain⟨u1,u2,rfl,e1,e2⟩:=ay.two r2'
  obtain⟨k0,d0⟩:=p
  cases k0 with
  | tup ks =>
   have kat:=eY I' 8 _ _ _ r1 e1 kd
   obtain⟨b,_,rfl,_⟩:=id kat
   obtain⟨_,_,rfl,hq1,rr1⟩:=Rep.inv_tup r1
   cases e1
   obtain⟨o,ho,hc,nn,hd⟩:=pl
   have hT:({ s with heap:=h',toks:=tk }:Shared).TypeIs (.ref a) "tuple":=⟨o,ho,hc⟩
   refine AA0 (AAW (AA0 (ADz ?_)))
   unfold Builtin.Dict.pairItems
   refine AA0 (ACx hT ?_)
   rw[if_pos (by decide)]
   refine AA0 (ADy ho hd (AA3 ?_))
   refine(show wpAny (model X.prog X.w) _ (holding [.ref b,u2] (dictSet S (.ref b) u2)) _ _ _ from AAW ?_)
   refine dsetE (k:=.tup ks) (s:={ s with heap:=h',toks:=tk }) (by show A.units+1+8<cLine;lia) kat dd hS'.dx (az (by rw[hl];rw[AAo]at dl;lia)) λh2 dx2 sb=>?_
   have k2:∀b u,b≠S->h'.get? b=some u->h2.get? b=some u:=λb u hb e=>(sb.2 b hb).trans e
   have kv2:=yV hS'.kv kd (.tup hq1 rr1) r2 e2
   have et:ps.take (i+1)=ps.take i++[(.tup ks,d0)]:=by rw[AB6,hp];rfl
   refine AA3 ⟨AC5 eG _,ih (i+1) h2 _ _ _ _ (by lia) (by lia) (W.frame _ h' h2 hst' λb' hb' o e=>k2 b' o (λz=>hSf (z ▸ hb')) e) ⟨dx2,?_,?_⟩ (λb u e=>k2 b u (λz=>by rw[z,hS0]at e;cases e) (old' b u e)) hR⟩
   ·rw[et,cC];exact kv2
   ·rw[et,cC];exact jC hS'.nd
  | _=>cases it
theorem Cj(I:Inv X pins σ H s)(hu:A.units+30<cLine)(hh:A.handled=none)(hl:s.heap.IsList l its)(hol:s.heap.get? l=some ol)(hdict:ol.dict=none)(ps:List (D×D))(hm:ps.length=its.size)
  (hval:∀(i:Nat) v,its[i]?=some v->∃p:D×D,ps[i]?=some p/\(∃vv,Rep X.K ρ H (.tup [p.1,p.2]) vv/\aR vv v)/\fT 8 p.1=true/\qo p.1=true) (hb:its.size<=1000)
  (h:∀h' tk xs,(∀b u,s.heap.get? b=some u->h'.get? b=some u)->DD X ρ H h' s.heap.objs.size (dictOf ps) xs->Q (.ref s.heap.objs.size) { s with heap:=h',toks:=tk }) :
  wpAny (model X.prog X.w) A (call (.type "dict") [.ref l]) Q E s:=by
 refine callType_codes (Q₁:=λobj s₁=>obj=.ref s.heap.objs.size/\s₁={ s with heap:=s.heap.push { cls:=.type "dict",data:=.dict #[] } }) PySem.F.kt_called_dict (PySem.F.kt_typeCall_dict_1 _) PySem.F.entry_dict_init (kt_code_dict_new _ ⟨rfl,rfl⟩) ?_
 rintro obj s₁ ⟨rfl,rfl⟩
 have hS:(s.heap.push { cls:=.type "dict",data:=.dict #[] }).get? s.heap.objs.size=some { cls:=.type "dict",data:=.dict #[] }:=AAE _ rfl
 have hT:AEf { s with heap:=s.heap.push { cls:=.type "dict",data:=.dict #[] } } (.ref s.heap.objs.size) "dict":=⟨_,hS,rfl⟩
 obtain⟨ol',e1,hcl,nn,hdd⟩:=id hl
 obtain rfl:ol'=ol:=AAM (e1.symm.trans hol)
 have hol':(s.heap.push { cls:=.type "dict",data:=.dict #[] }).get? l=some ol':=AA4 _ hol
 have hTl:AEf { s with heap:=s.heap.push { cls:=.type "dict",data:=.dict #[] } } (.ref l) "list":=⟨ol',hol',hcl⟩
 have ll:l<s.heap.objs.size:=AAD hol
 refine⟨hT,PySem.F.args_dict_init_2 _ _,?_⟩
 unfold Builtin.«dict.__init__»
 refine AA0 ?_
 unfold Builtin.Dict.selfAndRest
 refine AA0 (ACH hT ?_)
 refine(show wpAny _ _ (pure (s.heap.objs.size,[AAZ l])) _ _ _ from AA3 ?_)
 refine(show wpAny _ _ (Builtin.Dict.updateFrom "dict.__init__" s.heap.objs.size (.ref l) [] .none) _ _ _ from ?_)
 unfold Builtin.Dict.updateFrom
 refine AA0 (ACx hTl ?_)
 rw[if_pos (by decide)]
 refine AA0 (nV hol' hcl hdict hdd (by simpa using hh) λh1 tk1 k1=>?_)
 have kp1:∀b u,s.heap.get? b=some u->h1.get? b=some u:=λb u e=>k1 b u (AA4 _ e)
 rw[if_pos (show (none:Option Value).isNone=true from rfl)]
 refine AA0 (ADQ ?_)
 obtain⟨oI,St,hit,W,st⟩:=(TxSrc.list (prog:=X.prog) (w:=X.w) hl).iter A.in1.in1 { s with heap:=h1,toks:=tk1 } (by simpa using hh) λo e=>kp1 _ _ e
 refine AA0 (hit _ _ ?_)
 have hS1:=k1 _ _ hS
 have lS:s.heap.objs.size<h1.objs.size:=AAD hS1
 have hS0:s.heap.get? s.heap.objs.size=none:=by
  cases q:s.heap.get? s.heap.objs.size with
  | none=>rfl
  | some o=>exact absurd (AAD q) (AAe _)
 refine AA3 ⟨AC5 eG _,Ca (A:=A.in1) (s:=s) I (by show A.units+1+20<cLine;lia) W s.heap.objs.size ?_ hS0 ?_ ps hm hval hb its.size 0 _ _ [] _ _ rfl (AAV _) st ⟨⟨_,#[],AA4 _ hS1,⟨rfl,rfl,rfl⟩,rfl,rfl⟩,.nil,ADF⟩ (λb u e=>AA4 _ (kp1 b u e)) λh2 tk2 xs k2 dd=>⟨rfl,h h2 tk2 xs k2 dd⟩⟩
 ·simp only[AAL,List.not_mem_nil,or_false,not_or]
  exact⟨AAH lS,ABR ll⟩
 ·intro b hb'
  rw[AAS.mp hb']
  cases q:s.heap.get? h1.objs.size with
  | none=>rfl
  | some o=>exact absurd (AEU (AAD q) lS) (AAe _)
def hW:DRA:=λds M Q=>match ds with
 | [.ref n]=>∃ps:List (D×D),ap M n (ps.map λp=>.tup [p.1,p.2])/\(∀p∈ps,fT 8 p.1=true/\qo p.1=true)/\ps.length<=1000/\Q (.ref M.length) (M++[.dkt (dictOf ps)])
 | _=>False
theorem wn(hr:Room k X.A)(hc:X.calm=true):eU X (.type "dict") hW:=by
 rintro pins s σ H vs us R I rv ⟨ds,M,ρ,Q,sm,rs,q,kk⟩
 have un:=hr.un
 unfold hW at q
 split at q
 ·obtain⟨ps,hL,hk,hl,q⟩:=q
  first | have hzz:=Reps.inv_cons rs | have hzz:=ay.inv_cons rs
  clear rs
  obtain⟨_,_,rfl,r1,rs⟩:=hzz
  cases rs
  obtain⟨u,rfl,e1⟩:=ay.one rv
  obtain⟨a,rfl,e⟩:=Rep.inv_ref r1
  cases e1
  obtain⟨ws,hq,r⟩:=ap.seq sm hL e
  obtain⟨its,rr,pl,hz⟩:=I.list hq
  obtain⟨oa,nn,hoa,hca,hdict,hdata⟩:=id pl
  have lw:=r.length
  have li:=rr.length
  rw[AA6]at lw
  have hf:H s.heap.objs.size=none:=I.hok.fresh (AAB _)
  have hb:(s.heap.objs.size==sysModules)=false:=beq_eq_false_iff_ne.mpr (ABG (AAH I.big))
  refine Cj (A:=X.A) (ρ:=ρ) I (by lia) (I.ok.hd hc) pl.isList hoa hdict ps (by rw[AAA];lia) (λi v hv=>?_) (by rw[AAA];lia) λh' tk xs kp dd=>?_
  ·obtain⟨d,vv,e1,r1,rv1⟩:=gu r rr (i:=i) (u:=v) (by simpa using hv)
   rw[AAU]at e1
   obtain⟨p,hp,rfl⟩:=AB3.mp e1
   exact⟨p,hp,⟨vv,r1,rv1⟩,hk p (AAc hp)⟩
  ·have dl:=ji (ps:=ps)
   refine⟨.ref s.heap.objs.size,_,I.laid (a:=s.heap.objs.size) (o:=.ext (dX s.heap.objs.size xs)) (t':=tk) kp (AAB _) (oz dd.dx),rfl,?_⟩
   exact kk _ _ ⟨.ref M.length,M++[.dkt (dictOf ps)],ρ++[s.heap.objs.size],sm.laidM (mo:=.dkt (dictOf ps)) hf ⟨az (by lia),hb,dd.nd,xs,aC,Paired.mapP dd.kv λ_ _ ⟨q1,q2,q3,v,q4,q5⟩=>⟨q1,q2,q3.grow (Grow.laidR hf),v,q4.grow (Grow.laidR hf),q5⟩⟩,Grow.laidR hf,.ref sm.last,q⟩
 ·exact q.elim
theorem vJ(hr:Room k X.A)(hc:X.calm=true:=by kernel_rfl):HC X (.type "dict") hW:=⟨wn hr hc⟩
noncomputable abbrev EE(M:Mem)(R:DK):DEnds:=⟨λ_ M'=>cj M R .non M',cj M R,λ_ _=>False,λ_ _=>False⟩
noncomputable def dst(n:Nat)(ds:List D):SD:=ds.map some++ACL (n-ds.length) none
abbrev WpT(Pr:DSp)(n:Nat)(t:DTS):Prop:=∀ds M R,Pr ds M R->t (EE M R) (dst n ds) M
abbrev dY(Pr:DSp)(p:List Str):Prop:=∀ds M R,Pr ds M R->ds.length=p.length
abbrev DerT(P:Program)(w:World)(K:AA1)(mg:Str->Option Value)(base:Heap)(k:Nat)(x:Str)(N:List Str)(st:Stmt)(t:DTS):Prop :=
 ∀(f:Addr) (cdv:Value) (A:Around) (outer:List Env) (s:Shared) (H:Hp) (E:XK),Room k (A.deeper (PyProof.Rows.envOfC x (ar st) s.heap.objs.size f cdv))->HB (iE CX0 P w K mg base N x (ar st) f cdv A outer s H E).nox (aU st) t
inductive TopB(mg:Str->Option Value):List Str->List (Str×Int)->Prop
 | nil:TopB mg [] []
 | b {x:Str}{B:List Str}{C:List (Str×Int)} (h:mg x=none) (t:TopB mg B C):TopB mg (x::B) C
 | c {x:Str}{i:Int}{C:List (Str×Int)} (h:∃t,mg x=some (.int i t)) (t:TopB mg [] C):TopB mg [] ((x,i)::C)
theorem TopB.no(h:TopB mg B C)(c:B.contains x=true):mg x=none:=by
 induction h with
 | nil=>simp at c
 | b h _ ih =>
  simp only[ADa,Bool.or_eq_true,beq_iff_eq]at c
  rcases c with rfl | c
  ·exact h
  ·exact ih c
 | c _ _ _=>simp at c
noncomputable def nodB:List Str->Bool
 | []=>true
 | x::xs=>!xs.contains x&&nodB xs
theorem Ec:∀{l:List Str},nodB l=true->l.Nodup
 | [],_=>ADF
 | x::xs,h=>by
  simp only[nodB,AAK,AD6,List.contains_eq_mem,decide_eq_false_iff_not]at h
  exact List.nodup_cons.mpr ⟨h.1,Ec h.2⟩
noncomputable def tgN:Expr->List Str
 | .Name x _=>[x]
 | .Tuple es _ _=>es.filterMap fun | .Name x _=>some x | _=>none
 | _=>[]
noncomputable abbrev lcN(N:List Str)(js:List Nat)(tg:Expr):List Str:=tgN tg++js.map λj=>N.getD j ""
theorem k_lcN(hi:HI X tg iter di)(hg:∀cl s0 H0 ex,HG (blk X (lcN X.N js tg) scope cl s0 H0 ex) tg g)(ht:∀cl s0 H0 ex,HTs (blk X (lcN X.N js tg) scope cl s0 H0 ex) ifs tt)(he:∀cl s0 H0 ex,HE (blk X (lcN X.N js tg) scope cl s0 H0 ex) elt te)
  (B:jo X.env.scope.names X.N (lcN X.N js tg) nt js scope=true:=by kernel_rfl) (hc:X.calm=true:=by kernel_rfl) (hs:∀x,foldedSetIterable iter X.env x=pure x:=by intro _;kernel_rfl):HE X (.ListComp elt [⟨tg,iter,ifs,0⟩] scope pos) (dLC nt js di g tt te):=k_lc hi hg ht he B hc hs
theorem lX(hN:X.N.Nodup)(hi:HI X tg iter di)(hg:∀cl s0 H0 ex,HG (blk X (lcN X.N js tg) scope cl s0 H0 ex) tg g)(ht:∀cl s0 H0 ex,HTs (blk X (lcN X.N js tg) scope cl s0 H0 ex) ifs tt)(he:∀cl s0 H0 ex,HE (blk X (lcN X.N js tg) scope cl s0 H0 ex) elt te)
  (B:jo X.env.scope.names X.N (lcN X.N js tg) nt js scope=true:=by kernel_rfl) (hc:X.calm=true:=by kernel_rfl) (hs:∀x,foldedSetIterable iter X.env x=pure x:=by intro _;kernel_rfl) (hsw:swapsWith (.ListComp elt [⟨tg,iter,ifs,0⟩] scope pos) (some (.Name x pos')) pos2.line X.env=pure true:=by kernel_rfl)
  (hix:X.N[i]?=some x:=by kernel_rfl) (hx:Cu X.env.scope x=true:=by kernel_rfl) (hf:X.fn x=true:=by kernel_rfl):HS X (.Assign [.Name x pos'] (.ListComp elt [⟨tg,iter,ifs,0⟩] scope pos) pos2) (iz nt js di g tt te i):=xF hN hi hg ht he B hc hs hsw hix hx hf
theorem gA(h:HA X es t):HA X es t:=h
theorem gE(h:HE X e te):HE X e te:=h
theorem gCall(h:HE X (.Call a b c pos) te):HE X (.Call a b c pos) te:=h
theorem gIx(h:HE X (.Subscript a b pos) te):HE X (.Subscript a b pos) te:=h
theorem EZ(h:HE X (.Constant a b pos) te):HE X (.Constant a b pos) te:=h
theorem gT(h:HT X e tt):HT X e tt:=h
theorem gS{st:Stmt}{t:DTS}(h:HS X st t):HS X st t:=h
theorem gOp(h:HOp X f r):HOp X f r:=h
theorem gC(h:HC X f r):HC X f r:=h
theorem BE{b:List Stmt}{st:Stmt}{sts:List Stmt}{t:DTS}(h:b=st::sts)(q:HB X (st::sts) t):HB X b t:=h ▸ q
section
variable{P:Program}{w:World}{K:AA1}{mg:Str->Option Value}{base:Heap}{x:Str}{st:Stmt}{N ps:List Str}{k:Nat}{Pr:DSp}{B:List Str}{C:List (Str×Int)}{t:DTS}
theorem Cal.byD(T:TopB mg B C)(F:cS K mg x st ps)(Sc:FnScope N ps (ar st))(len:dY Pr ps)(der:TopB mg B C->N.Nodup->DerT P w K mg base k x N st t)(wp:∀ds M R,Pr ds M R->t (EE M R) (cc N ds) M):Cal P w K mg base (k+1) x ps Pr :=
 Cal.byH F Sc len (der T Sc.nd) wp
theorem xY(T:TopB mg B C)(F:Fun K x x st f fd)(Sc:FnScope N ps (ar st))(len:dY Pr ps)(der:TopB mg B C->N.Nodup->DerT P w K mg base k x N st t)(wp:∀ds M R,Pr ds M R->t (EE M R) (cc N ds) M):FnOk P w K mg base CX0 (k+1) f fd ps (spL K Pr) :=
 xX F Sc len (der T Sc.nd) wp
end
theorem oK(ho:s.heap.get? l=some o)(hc:o.cls=.type "list"\/o.cls=.type "tuple")(hd:o.data=.seq vs.toArray n)
  (h:Q vs { s with heap:=(s.heap.push (seqObj "list" #[] 0)).update s.heap.objs.size (AB2 (· ++ vs.toArray)) }) (hsz:vs.length<=sizeLine):wpAny (model prog w) A (collect (.ref l)) Q E s:=by
 rcases hc with hc | hc
 ·exact collect_list ⟨o,ho,hc,n,hd⟩ h hsz
 unfold collect
 refine AA0 (wpAny_runValue (ABL entry_proto_collect' ?_))
 show wpAny _ _ (do again (.builtin "list.__iadd__" ⟨[<-newList [],.ref l],[]⟩)) _ _ s
 refine AA0 (AD4 (AA3 ⟨ADb _ (by decide +kernel),ABL entry_list_iadd' ?_⟩) (AAV _))
 show wpAny _ _ (ACB (.ref s.heap.objs.size) (.ref l) (.ref s.heap.objs.size)) _ _ { s with heap:=s.heap.push (seqObj "list" #[] 0) }
 unfold ACB
 have ho':(s.heap.push (seqObj "list" #[] 0)).get? l=some o:=AA4 _ ho
 refine AA0 (ACx (T:="tuple") ⟨o,ho',hc⟩ ?_)
 have ht:(ACk "tuple" == ACk "tuple")=true:=by rfl
 rw[if_pos (by rw[ht];simp)]
 refine AA0 (AE1 ho' hd ?_)
 refine AA0 (AE1 (xs:=#[]) (n:=0) (AAE _ rfl) rfl ?_)
 rw[if_neg (by simp)]
 refine AA0 (AD5 (xs:=#[]) (n:=0) (AAE _ rfl) rfl ?_ (AAV _) (by show (#[]++vs.toArray).size<=sizeLine+1;simp only[Array.size_append,AAA,AAY];lia))
 refine AA3 ?_
 show wpAny (model prog w) A (do
   let o <-load s.heap.objs.size
   match o.data with
   | .seq xs _=>pure xs.toList
   | _=>unsupported "internal:collect") Q E { s with heap:=(s.heap.push (seqObj "list" #[] 0)).update s.heap.objs.size (AB2 (· ++ vs.toArray)) }
 refine AA0 (wpAny_load (ACV (AAE _ rfl) _) ?_)
 show wpAny _ _ (pure ((#[]:Array Value)++vs.toArray).toList) Q E _
 rw[show ((#[]:Array Value)++vs.toArray).toList=vs by simp]
 exact AA3 h
theorem zP(hl:ks.length=vs.length)(h2:vs.length<2)(h:KatFin h₀ L m kS a ks e e1 vs (λs3=>P (.done (.ret .none)) s3) s) :
  wpAny (model prog w) A (ksk_end a false vs.toArray e1 (.ref kS) (ABf ks)) P E s:=by
 have hn2:vs.toArray.size<2:=by rw[AAA];exact h2
 unfold ksk_end
 dsimp only
 simp only[AAR,if_false]
 rw[if_pos hn2,if_pos hn2]
 refine AA0 (AA3 ?_)
 rw[StateT.run_pure]
 refine AA0 (AA3 ?_)
 dsimp only
 refine kat_tail (out:=vs) ?_ (by lia) (by lia) rfl h
 show ((ABf ks).zip vs.toArray).map (·.2)=vs.toArray
 match ks,vs,hl,h2 with
 | [],[],_,_=>simp
 | [k],[v],_,_=>simp
 | [],_::_,hl,_=>simp at hl
 | _::_,[],hl,_=>simp at hl
 | _::_::_,[_],hl,_=>simp at hl
 | _,_::_::_,_,h2=>simp at h2;lia
theorem zN{f:Value}{e1:Nat}{P:PySem.Fin->Shared->Prop}{Fin:List Value->Nat->Shared->Prop}(hk:s.heap.get? kS=some (seqObj "list" #[] 0))(h64:vs.length<64)
  (hend:∀ks e s',ks.length=vs.length->Fin ks e s'->wpAny (model prog w) A (ksk_end a false vs.toArray e1 (.ref kS) (ABf ks)) P E s') (h:KatKeys prog w A h₀ L m kS f Fin vs [] 0 s) :
  wpAny (model prog w) A (ksk_rest a f false vs.toArray e1 (.ref kS)) P E s:=by
 unfold ksk_rest
 refine AA0 (ADQ ?_)
 first
  | rw[List.forIn_toArray]
  | (rw[<-ADY];simp only[List.toList_toArray])
  | rw[<-ADY]
 refine AA0 (AAl (kat_fold h64 (λx ks e s' C hz hx=>?_) vs [] 0 s (by simp) hk h) (λ_ s' hd=>?_) λ_ _ x=>x)
 ·refine AA0 (AC4 (AAl hx (λk s'' hk=>?_) λ_ _ hF=>hF.elim))
  obtain⟨news',g,F',N',U,c⟩:=hk
  obtain⟨pre,post,e0,hg,x1,x2⟩:=U.split
  rw[e0]at N'
  have nk:=N' (kS,seqObj "list" (ABf ks) e) (AAP _ (.head _))
  have s1:=ABD s''.heap kS (AB2 (·.push k))
  have ea:(ABf ks).push k=ABf (ks++[k]):=by simp
  obtain⟨c2,hc2⟩:∃c2,(s''.heap.update kS (AB2 (·.push k))).get? kS=some (seqObj "list" (ABf (ks++[k])) c2):=⟨_,by rw[<-ea];exact ACV nk.1 (·.push k)⟩
  try dsimp only
  refine AA0 (AD5 nk.1 rfl ?_ (by rw[AAA,ABQ];lia) (AAh (Nat.le_of_eq (Array.size_push ..)) (by rw[AAA,ABQ];lia)))
  exact AA3 ⟨rfl,k,c2,hc2,c _ c2 (kas_fr F' s1 nk.2.1 nk.2.2) (by rw[hg];exact news_set N' x1 x2 s1 hc2)⟩
 ·obtain⟨ks,e,hk',hl,fin⟩:=hd
  try dsimp only
  exact AA0 (AE1 hk' rfl (hend ks e s' hl fin))
structure Own(X:Cx)(pins:List (Addr×Obj))(H:Hp)(a:Addr):Prop where
 un:H a=none
 ne:a≠X.env.locals
 fs:a∉X.fs
 s0:X.s₀.heap.objs.size<=a
 cl:∀x c,X.env.cells.lookup x=some c->c≠a
 pn:∀p∈X.pn++pins,p.1≠a
theorem Inv.own(I:Inv X pins σ H s)(h:s.heap.objs.size<=a):Own X pins H a :=
 ⟨I.hok.fresh h,λe=>by rw[e]at h;exact absurd (AAQ I.lt h) (AAe _),I.nofs h,AAh I.sz h,λx c e z=>by
  obtain⟨v,o,ho,_⟩:=I.cell x c e
  rw[z]at ho
  exact absurd (AAQ (AAD ho) h) (AAe _),λp hp e=>by
  have:=AAD (I.pin p hp).1
  rw[e]at this
  exact absurd (AAQ this h) (AAe _)⟩
theorem Inv.turnF(I:Inv X pins σ H s)(w:Own X pins H a)(k:∀b u,b≠X.env.locals->b≠a->s.heap.get? b=some u->h'.get? b=some u)(hn:s.heap.Ns X.env.locals m)(hn':h'.Ns X.env.locals m):Inv X pins σ H { s with heap:=h' }:=by
 have na:∀b u,H b=some u->b≠a:=λb u e=>ad e w.un
 refine I.step (g':=s.gens) (d':=s.drawn) (t':=s.toks) (ch:=[a]) (λb hb=>?_) (λb u hL _ hc e _=>k b u hL (by simpa using hc) e) (λb u hL _ hc e _=>⟨u.slots,k b u hL (by simpa using hc) e⟩) (λb u _ e n=>n) (λb u hc e=>?_)
  (λb xs q=>q) (λb u xs q=>q) (λb ps q=>⟨#[],by rw[q];simp⟩) (λm' hm=>?_) (λb u q=>?_) I.bare
 ·obtain rfl:b=a:=by simpa using hb
  exact⟨.inr w.s0,w.ne,w.cl,w.pn⟩
 ·by_cases hb:b=X.env.locals
  ·subst hb
   obtain⟨o',_,_,ho,_⟩:=hn'
   exact⟨o',ho⟩
  ·exact⟨u,k b u hb (by simpa using hc) e⟩
 ·have:m=m':=funext λx=>hn.agree hm x
  subst this
  exact hn'
 ·refine(I.hok b u q).stay (λc v hc r=>k c v ?_ ?_ r) (λc z=>z) λc xs z=>z
  ·rcases hc with rfl | hc
   ·exact ad q I.free
   ·exact ad hc I.free
  ·rcases hc with rfl | hc
   ·exact na _ _ q
   ·exact na _ _ hc
theorem Inv.adoptF(I:Inv X pins σ H s)(w:Own X pins H a)(k:∀b u,b≠X.env.locals->b≠a->s.heap.get? b=some u->h'.get? b=some u)(hn:s.heap.Ns X.env.locals m)(hn':h'.Ns X.env.locals m)
  (new:aY X.prog X.w (upd H a o) h' a o):Inv X pins σ (upd H a o) { s with heap:=h' }:=by
 have fa:=w.un
 refine I.step (g':=s.gens) (d':=s.drawn) (t':=s.toks) (ch:=[a]) (λb hb=>?_) (λb u hL _ hc e _=>k b u hL (by simpa using hc) e) (λb u hL _ hc e _=>⟨u.slots,k b u hL (by simpa using hc) e⟩) (λb u hc e n=>by rw[av (by simpa using hc)];exact n) (λb u hc e=>?_)
  (λb xs q=>by rw[av (ad q fa)];exact q) (λb u xs q=>by rw[av (ad q fa)];exact q) (λb ps q=>⟨#[],by rw[av (ad q fa),q];simp⟩) (λm' hm=>?_) (λb u q=>?_) I.bare
 ·obtain rfl:b=a:=by simpa using hb
  exact⟨.inr w.s0,w.ne,w.cl,w.pn⟩
 ·by_cases hb:b=X.env.locals
  ·subst hb
   obtain⟨o',_,_,ho,_⟩:=hn'
   exact⟨o',ho⟩
  ·exact⟨u,k b u hb (by simpa using hc) e⟩
 ·have:m=m':=funext λx=>hn.agree hm x
  subst this
  exact hn'
 ·by_cases hb:b=a
  ·subst hb
   rw[aC]at q
   cases q
   exact new
  ·rw[av hb]at q
   refine(I.hok b u q).stay (λc v hc r=>k c v ?_ ?_ r) (λc z=>by rw[av (ad z fa)];exact z) λc xs z=>by rw[av (ad z fa)];exact z
   ·rcases hc with rfl | hc
    ·exact ad q I.free
    ·exact ad hc I.free
   ·rcases hc with rfl | hc
    ·exact ad q fa
    ·exact ad hc fa
structure KySt(X:Cx)(pins:List (Addr×Obj))(σ:St)(ρ:List Addr)(M:Mem)(m:Str->Option Value)(kS aD:Addr)(e1:Nat)(H0 H:Hp)(s:Shared)(ks:List Value)(e:Nat):Prop where
 inv:Inv X pins σ H s
 ns:s.heap.Ns X.env.locals m
 sm:Sim X.K ρ M H
 gr:Grow X.K ρ H0 ρ H
 hk:s.heap.get? kS=some (seqObj "list" (ABf ks) e)
 hd:s.heap.get? aD=some (seqObj "list" #[] e1)
 ok:Own X pins H kS
 od:Own X pins H aD
 ne:aD≠kS
theorem BG(n:h.Ns L m):Fr (Att.noObjs h0) L h m :=
 ⟨n,λb o e=>(by rw[Att.noObjs_get]at e;cases e),AAV _⟩
theorem nK(hne:d≠L)(ho:h.get? d=some od):News (Att.noObjs h0) L h ((d,od)::Att.ledger h L d):=by
 rintro⟨a,o⟩ hp
 rcases AAL.mp hp with e | hp
 ·cases e
  exact⟨ho,hne,Att.noObjs_get _ _⟩
 ·obtain⟨n1,n2,e⟩:=Att.mem_ledger.mp hp
  exact⟨e,n1,Att.noObjs_get _ _⟩
theorem ik(N:News (Att.noObjs h0) L h' ((d,o)::Att.ledger h L d)):∀b u,b≠L->b≠d->h.get? b=some u->h'.get? b=some u :=
 λb u h1 h2 e=>(N (b,u) (AA9 _ (Att.mem_ledger.mpr ⟨h1,h2,e⟩))).1
abbrev KeyG(X:Cx)(pins:List (Addr×Obj))(σ:St)(ρ:List Addr)(M:Mem)(f:Addr)(key:D->D)(xs:List D):Prop:=∀(s:Shared) (H:Hp) (d:D) (v:V) (u:Value),d∈xs->Inv X pins σ H s->Sim X.K ρ M H->Rep X.K ρ H d v->aR v u ->
 codeAny (model X.prog X.w) X.A.in1.in1 (.call (.ref f) ⟨[u],[]⟩) (CR CX0 X.stack X.prog X.w H s (λv' H'=>VQ X.K ρ H (λx M'=>x=key d/\M'=M) v' H') E0) s
theorem zO{f:Addr}{key:D->D}{xs:List D}(G:KeyG X pins σ ρ M f key xs){h0:Heap}{m:Str->Option Value}{aD kS:Addr}{e1:Nat}{H0:Hp}
  {Fin:List Value->Nat->Shared->Prop}{keys:List D} (fin:∀H s kvs ks e,KySt X pins σ ρ M m kS aD e1 H0 H s ks e->Reps X.K ρ H keys kvs->ay kvs ks->Fin ks e s) :
  ∀(r:List D) (ws:List V) (its:List Value) (done:List D) (kvs:List V) (ks:List Value) (e:Nat) (H:Hp) (s:Shared),KySt X pins σ ρ M m kS aD e1 H0 H s ks e->Reps X.K ρ H r ws->ay ws its->Reps X.K ρ H done kvs->ay kvs ks ->
   done++r.map key=keys->(∀d∈r,d∈xs)->KatKeys X.prog X.w X.A.in1.in1 (Att.noObjs h0) X.env.locals m kS (.ref f) Fin its ks e s:=by
 intro r
 induction r with
 | nil =>
  intro ws its done kvs ks e H s g r v rd vd hk _
  obtain rfl:=Reps.inv_nil r
  obtain rfl:=ay.inv_nil v
  refine KatKeys.nil (fin H s kvs ks e g ?_ vd)
  rw[<-hk,AET,AAq]
  exact rd
 | cons d r ih =>
  intro ws its done kvs ks e H s g rr v rd vd hk hP
  obtain⟨vd1,ws,rfl,r1,rr⟩:=Reps.inv_cons rr
  obtain⟨u,its,rfl,ru,v⟩:=ay.inv_cons v
  have I:=g.inv
  refine KatKeys.cons (AEC (ACu (G s H d vd1 u (hP d AAO) I g.sm r1 ru) λres s' hq=>?_))
  cases res with
  | error e=>exact hq.elim
  | ok fl =>
   cases fl with
   | next=>exact hq.elim
   | brk=>exact hq.elim
   | cont=>exact hq.elim
   | ret u' =>
    obtain⟨v',H',os,bare,un,hok,rv,q⟩:=hq
    obtain⟨hh,gg,dr,tk,os'⟩:=s'
    obtain rfl:os'=s.os:=os
    obtain⟨_,_,ρ',s1,g1,r1',rfl,rfl⟩:=q
    have eρ:ρ'=ρ:=by
     obtain⟨t,rfl⟩:=g1.pre
     have h1:=s1.len
     have h2:=g.sm.len
     rw[AAC]at h1
     rw[ABy (show t.length=0 by lia),AAq]
    subst eρ
    have J:Inv X ((kS,seqObj "list" (ABf ks) e)::(aD,seqObj "list" #[] e1)::pins) σ H s:=I.pins_of λp hp=>by
     rcases AAL.mp hp with rfl | hp
     ·exact⟨g.hk,g.ok.un,g.ok.ne,g.ok.fs,λ_ z=>nomatch z⟩
     ·rcases AAL.mp hp with rfl | hp
      ·exact⟨g.hd,g.od.un,g.od.ne,g.od.fs,λ_ z=>nomatch z⟩
      ·exact I.pin p (AAP _ hp)
    have J':=J.call (h':=hh) (g':=gg) (d':=dr) (t':=tk) (ch:=[]) un hok bare (λb z=>absurd z (by simp))
    have pk:=J'.pin (kS,_) (AAP _ AAO)
    have pd:=J'.pin (aD,_) (AAP _ (AA9 _ AAO))
    have I':Inv X pins σ H' ⟨hh,gg,dr,tk,s.os⟩:=J'.pins_of λp hp=>J'.pin p (AAP _ (AA9 _ (AA9 _ hp)))
    have ns':hh.Ns X.env.locals m:=by
     obtain⟨o,es,ep,ho,aP⟩:=g.ns
     obtain⟨sl,hL⟩:=un.any ho I.free (by simp)
     exact⟨_,es,ep,hL,aP⟩
    have ok':Own X pins H' kS:=⟨pk.2.1,g.ok.ne,g.ok.fs,g.ok.s0,g.ok.cl,g.ok.pn⟩
    have od':Own X pins H' aD:=⟨pd.2.1,g.od.ne,g.od.fs,g.od.s0,g.od.cl,g.od.pn⟩
    refine KatBack.intro (s:=⟨hh,gg,dr,tk,s.os⟩) (BG ns') (nK ok'.ne pk.1) (UpdF.head λp hp=>(Att.mem_ledger.mp hp).2.1) λh2 c F2 N2=>?_
    have kp:=ik N2
    refine ih ws its (done++[key d]) (kvs++[v']) (ks++[u']) c H' _ ⟨I'.turnF ok' kp ns' F2.ns,F2.ns,s1,⟨g.gr.pre,λx xs h=>g1.tup x xs (g.gr.tup x xs h),λx o h=>g1.fr x o (g.gr.fr x o h)⟩,(N2 _ AAO).1,kp aD _ od'.ne g.ne pd.1,ok',od',g.ne⟩ (rr.grow g1) v
     ((rd.grow g1).append (.cons r1' .nil)) (vd.append (.cons rv .nil)) (by rw[<-hk,AAN,ABO];rfl) λx hx=>hP x (AA9 _ hx)
theorem pP{k n:Nat}{f l:Addr}{o:Obj}{s:Shared}{H:Hp}{xs:List D}{ws:List V}{its:List Value}{key:D->D}{R:VK}(G:KeyG X pins σ ρ M f key xs)(hr:Room (k+2) X.A)
  (I:Inv X pins σ H s) (sm:Sim X.K ρ M H) (r:Reps X.K ρ H xs ws) (rr:ay ws its) (ho:s.heap.get? l=some o) (hc:o.cls=.type "list"\/o.cls=.type "tuple") (hd:o.data=.seq its.toArray n) (h64:its.length<64) (so:SrtG M (xs.map key)) (kk:∀v H',(∀Q:DK,(∀ys,ys.Perm xs->ys.Pairwise (λa b=>ltD M eqN (key b) (key a)=false)->Q (.ref M.length) (M++[.lst ys]))->VQ X.K ρ H Q v H')->R v H') :
  wpAny (model X.prog X.w) X.A (call (.builtin "sorted") [.ref l] [(AA2 "key",.ref f)]) (EP X pins σ R) X.xe s:=by
 have lw:=r.length
 have li:=rr.length
 have few:its.length<=sizeLine:=by rw[ABQ];lia
 refine call_function_entry_kw kind_sorted plain_sorted entry_sorted (ksk_s1 _ _) ?_
 unfold Builtin.«sorted»
 refine AA0 (m:=checkCount "sorted" 1 1 _) (AA3 (AA0 (oK ho hc hd (AA0 (AD4 ?_ few)) few)))
 generalize hg:((s.heap.push (seqObj "list" #[] 0)).update s.heap.objs.size (AB2 (· ++ its.toArray)))=g1
 have hsz:g1.objs.size=s.heap.objs.size+1:=by rw[<-hg,Heap.size_update,size_push']
 have k1:∀b o,s.heap.get? b=some o->g1.get? b=some o:=λb o q=>by
  have hlt:=AAD q
  rw[<-hg,ABK _ _ _ _ (AAH hlt),Heap.get?_push_ne _ _ _ (AAH hlt)]
  exact q
 show wpAny _ _ _ _ _ { s with heap:=g1.push (seqObj "list" its.toArray 0) }
 have hoL:(g1.push (seqObj "list" its.toArray 0)).get? g1.objs.size=some (seqObj "list" its.toArray 0):=AAE _ rfl
 refine AA0 (AAW (wpAny_call_entry_kw slot_list_sort (⟨_,hoL,rfl⟩) entry_list_sort ?body (ksk_l1 _ _)))
 case body =>
  show wpAny (model X.prog X.w) X.A.in1.in1 (Builtin.«list.sort» ⟨[.ref g1.objs.size],[(AA2 "key",.ref f)]⟩) _ _ _
  rw[ksk_t1]
  unfold ksk_tree
  refine AA0 (AE1 hoL rfl (AA0 (AD5 hoL rfl ?_ (by rw[AAA];exact few) (AAV _))))
  obtain⟨e1,ho1⟩:∃e1,((g1.push (seqObj "list" its.toArray 0)).update g1.objs.size (AB2 λ_=>(#[]:Array Value))).get? g1.objs.size=some (seqObj "list" #[] e1):=⟨_,ACV hoL λ_=>#[]⟩
  refine AA0 (seqEpoch_at ho1 rfl (AA0 (wpAny_newTuple (AA0 (AD4 (AAW ?_) (AAV _))) few)))
  have k2:∀b o,s.heap.get? b=some o->((g1.push (seqObj "list" its.toArray 0)).update g1.objs.size (AB2 λ_=>(#[]:Array Value))).get? b=some o:=λb o q=>by
   rw[ABK _ _ _ _ (AAH (by rw[hsz];exact ABi (AAD q)))]
   exact AA4 _ (k1 b o q)
  have hsz2:((g1.push (seqObj "list" its.toArray 0)).update g1.objs.size (AB2 λ_=>(#[]:Array Value))).objs.size=g1.objs.size+1:=by rw[Heap.size_update,size_push']
  generalize ((g1.push (seqObj "list" its.toArray 0)).update g1.objs.size (AB2 λ_=>(#[]:Array Value)))=g2 at ho1 k2 hsz2 ⊢
  dsimp only
  have k3:∀b o,g2.get? b=some o->((g2.push (seqObj "tuple" its.toArray 0)).push (seqObj "list" #[] 0)).get? b=some o:=λb o q=>AA4 _ (AA4 _ q)
  have hk3:((g2.push (seqObj "tuple" its.toArray 0)).push (seqObj "list" #[] 0)).get? (g2.push (seqObj "tuple" its.toArray 0)).objs.size=some (seqObj "list" #[] 0):=AAE _ rfl
  have hsz3:(g2.push (seqObj "tuple" its.toArray 0)).objs.size=g2.objs.size+1:=size_push' _ _
  generalize (g2.push (seqObj "tuple" its.toArray 0)).objs.size=kS at hk3 hsz3 ⊢
  generalize ((g2.push (seqObj "tuple" its.toArray 0)).push (seqObj "list" #[] 0))=g3 at hk3 k3 ⊢
  generalize g1.objs.size=aD at ho1 hsz hsz2 ⊢
  obtain⟨m,hn,_⟩:=I.loc
  have st:KySt X pins σ ρ M m kS aD e1 H H { s with heap:=g3 } [] 0 :=
   ⟨I.kept (t':=s.toks) λb o q=>k3 b o (k2 b o q),(by obtain⟨o',es,ep,ho',aP⟩:=hn;exact⟨o',es,ep,k3 _ _ (k2 _ _ ho'),aP⟩),sm,.refl,hk3,k3 _ _ ho1,I.own (by rw[hsz3,hsz2,hsz];exact Nat.le_add_right _ 3),I.own (by rw[hsz];exact Nat.le_add_right _ 1),by rw[hsz3,hsz2];exact AAH (Nat.lt_add_of_pos_right (by decide:0<2))⟩
  have hr2:Room k X.A.in1.in1:=(Room.in1 (k:=k+1) hr).in1
  refine zN (h₀:=Att.noObjs s.heap) (L:=X.env.locals) (m:=m) (Fin:=λks e s'=>∃H' kvs,KySt X pins σ ρ M m kS aD e1 H H' s' ks e/\Reps X.K ρ H' (xs.map key) kvs/\ay kvs ks) hk3 h64 (λks e s' hl ⟨H',kvs,g,rk,vk⟩=>?_)
   (zO G (λH' s' kvs ks e g r v=>⟨H',kvs,g,r,v⟩) xs ws its [] [] [] 0 H _ st r rr .nil .nil rfl λ_ q=>q)
  have fin:∀ys zs out,Reps X.K ρ H' ys zs->ay zs out->ys.Perm xs->ys.Pairwise (λa b=>ltD M eqN (key b) (key a)=false)->KatFin (Att.noObjs s.heap) X.env.locals m kS aD ks e e1 out (λs4=>EP X pins σ R (.ref aD) s4) s':=λys zs out ry vy hp hw=>by
   refine KatFin.intro (BG g.ns) (nK g.ok.ne g.hk) (UpdF.head λp hp=>(Att.mem_ledger.mp hp).2.1) λh2 c F2 N2=>?_
   have kp:=ik N2
   refine KasFin.intro (s:={ s' with heap:=h2 }) (BG F2.ns) (nK g.od.ne (kp aD _ g.od.ne g.ne g.hd)) (UpdF.head λp hp=>(Att.mem_ledger.mp hp).2.1) λh3 c3 F3 N3=>?_
   refine⟨.ref aD,_,(g.inv.turnF g.ok kp g.ns F2.ns).adoptF (o:=.lst zs) g.od (ik N3) F2.ns F3.ns ⟨?_,out,c3,vy,(N3 _ AAO).1⟩,rfl,kk _ _ λQ hQ=>VQ.laidL g.sm g.gr ry g.od.un (hQ ys hp hw)⟩
   rw[<-ry.length,hp.length_eq,lw,li]
   exact few
  by_cases h2:its.length<2
  ·refine zP (hl) h2 ((fin xs ws its (r.grow g.gr) rr (ADD _) ?_).mono λs4 hq=>⟨_,rfl,AA3 ⟨_,rfl,hq⟩⟩)
   match xs,(show xs.length<2 by lia) with
   | [],_=>exact ADn
   | [x],_=>exact ACc _ _
   | _::_::_,hx=>simp at hx;lia
  ·have h2':2<=its.length:=by lia
   refine kat_end (b:=false) (h₀:=Att.noObjs s.heap) (L:=X.env.locals) (m:=m) (e:=e) hl h2' h64 ?_
   have hu:X.A.in1.in1.units+eqN<cLine:=by
    have:=hr.un
    have:eqN=30:=rfl
    show X.A.units+1+1+eqN<cLine
    lia
   have kl:ks.length=xs.length:=by lia
   refine AAl (gU g.inv g.sm so rk vk (by lia) hu) (λκ s'' hk=>?_) λ_ _ x=>x
   obtain⟨rfl,hask⟩:=hk
   show (ADx its.length).kasWp (kas_ask X.prog X.w X.A.in1.in1 κ ks) (λp s3=>KatFin (Att.noObjs s.heap) X.env.locals m kS aD ks e e1 (p.toList.map λi=>its.getD i ABB) _ s3) _
   have kget:∀i,i<xs.length->(xs.map key).getD i default=key (xs.getD i default):=λi hi=>by
    rw[AAI,AAI,AAU,AA7 hi]
    rfl
   refine Srt.wp_run (n:=its.length) (c:=λi j=>if i<xs.length then(if j<xs.length then ltD M eqN (key (xs.getD i default)) (key (xs.getD j default))else true)else false) (λi j C hi hj hc=>?_) _ (Srt.sort_bd (by lia)).1 ?_
   ·refine hask i j C (by lia) (by lia) ?_
    rw[if_pos (by lia),if_pos (by lia)]at hc
    unfold ltc
    rw[kget i (by lia),kget j (by lia)]
    exact hc
   ·have hent:=Srt.All.run (c:=λi j=>if i<xs.length then(if j<xs.length then ltD M eqN (key (xs.getD i default)) (key (xs.getD j default))else true)else false) _ (Srt.sort_bd (n:=its.length) (by lia)).2
    obtain⟨o1,o2,o3⟩:=Ar so
    have hm:∀x∈xs,key x∈xs.map key:=λx hx=>ACd hx
    have hsl:=Srt.sort_list (lt:=λa b=>ltD M eqN (key a) (key b)) xs (by lia) (λa ha=>o1 _ (hm a ha)) (λa ha b hb d hd=>o2 _ (hm a ha) _ (hm b hb) _ (hm d hd)) (λa ha b hb d hd=>o3 _ (hm a ha) _ (hm b hb) _ (hm d hd))
    try dsimp only at hsl
    rw[show xs.length=its.length by lia]at hsl hent ⊢
    generalize Srt.run _ (ADx its.length)=p at hent hsl ⊢
    have hi:∀i∈p.toList,i<xs.length:=λi h=>by
     have:=hent.mem_iff.mp h
     rw[ABV]at this
     lia
    exact(fin _ _ _ ((r.grow g.gr).perm p.toList hi) (rr.perm p.toList λi h=>by have:=hi i h;lia) hsl.1 hsl.2).mono λs4 hq=>⟨_,rfl,AA3 ⟨_,rfl,hq⟩⟩
def iZ(P:DSp):DRA:=λds M1 Q=>match ds with
 | [x]=>∃xs key,(x=.tup xs\/∃n,x=.ref n/\ap M1 n xs)/\(∀d∈xs,P [d] M1 λy M'=>y=key d/\M'=M1)/\SrtG M1 (xs.map key)/\∀ys,ys.Perm xs->ys.Pairwise (λa b=>ltD M1 eqN (key b) (key a)=false)->Q (.ref M1.length) (M1++[.lst ys])
 | _=>False
theorem Bi(C:Cal X.prog X.w X.K X.mg X.base j x ps P)(hr:Room k X.A)(he:HA X [e] t)(hm:X.mg "sorted" = none)(hj:Nat.ble (j+2) k=true:=by kernel_rfl)
  (hg:X.env.kindOf x=some .globalImplicit:=by kernel_rfl) (hdb:(x==("__debug__":Str))=false:=by kernel_rfl) (hg1:X.env.kindOf "sorted" = some .globalImplicit:=by kernel_rfl) (hs:starEach [e] X.env=[(false,eval e X.env)]:=by kernel_rfl) :
  HE X (.Call (.Name "sorted" p) [e] [⟨some "key",.Name x p2,kpos⟩] pos) (dCB (iZ P) t):=by
 obtain⟨f,fd,F,hmx,hk,hb⟩:=C
 refine⟨λpins s σ H R I h=>?_⟩
 obtain⟨S,M,ρ,Q,sm,sr,q,kk⟩:=h
 have hr2:=hr.mono (ACy hj)
 refine ABu (fB I hg1 hm mL ?_ (by decide) (by decide))
 refine callWith_kw (thn (he.ok pos pins s σ H (λvs H1=>AQ X.K ρ H (λds M1=>iZ P ds M1 Q) vs H1) I ⟨S,M,ρ,_,sm,sr,q,λ_ _ z=>z⟩) ?_) (by rw[hs];rfl) (by rw[hs];rfl)
 rintro us s1 ⟨vs,H1,I1,r1,q1⟩
 refine kws_cons (fi I1 hg hmx (kws_nil ?_) hdb)
 obtain⟨ds,M1,ρ1,sm1,g1,rs,q1⟩:=q1
 unfold iZ at q1
 split at q1
 ·obtain⟨xs,key,hx,hP,so,fin⟩:=q1
  obtain⟨v1,_,rfl,rx,rs⟩:=Reps.inv_cons rs
  obtain rfl:=Reps.inv_nil rs
  obtain⟨u,rfl,ru⟩:=ay.one r1
  show wpAny _ _ (call (.builtin "sorted") [u] [(AA2 "key",.ref f)]) _ _ _
  have l64:=so.len
  rw[AA6]at l64
  have G:KeyG X pins σ ρ1 M1 f key xs:=λs H d v u hm I sm r ru=>by
   have hsp:spL X.K P ([v]++[]) H (λv' H'=>VQ X.K ρ1 H (λx M'=>x=key d/\M'=M1) v' H') E0:=⟨[d],M1,ρ1,_,sm,.cons r .nil,hP d hm,λ_ _ q=>q⟩
   have r2:ay ([v]++[]) ([u]++[]):=.cons ru .nil
   have hl:([u]++[]).length=ps.length:=by rw[<-r2.length];exact F.len _ _ _ _ hsp
   exact F.run _ X.stack s H ⟨[u],[]⟩ _ _ _ E0 (Room.in1 (k:=j+1) hr2).in1 I.env0.in1.in1 (hb s [u] I.kIn hl) r2 hsp
  rcases hx with rfl | ⟨n,rfl,hL⟩
  ·obtain⟨a,vs,rfl,hq,r⟩:=Rep.inv_tup rx
   cases ru
   obtain⟨its,rr,⟨o,ho,hc,n,hd⟩,_⟩:=I1.tuple hq
   have h1:=r.length
   have h2:=rr.length
   exact pP G hr2 I1 sm1 r rr ho (.inr hc) hd (by lia) so λv H' z=>kk v H' (VQ.trans g1 (z Q fin))
  ·obtain⟨a,rfl,en⟩:=Rep.inv_ref rx
   cases ru
   obtain⟨vs,hq,r⟩:=ap.seq sm1 hL en
   obtain⟨its,rr,⟨o,n,ho,hc,_,hd⟩,_⟩:=I1.list hq
   have h1:=r.length
   have h2:=rr.length
   exact pP G hr2 I1 sm1 r rr ho (.inl hc) hd (by lia) so λv H' z=>kk v H' (VQ.trans g1 (z Q fin))
 ·exact q1.elim
theorem FH:bootBuiltins "min" = some (.builtin "min"):=by decide +kernel
structure BlkScC(X:Cx)(N':List Str)(nt:Nat)(js:List Nat)(scope:Scope):Prop where
 kind:scope.kind=.function
 kinds:∀y∈scope.names,scope.names.lookup y.1=some y.2
 free:∀y∈scope.names,y.2=.free->(X.env.kindOf y.1=some .cell\/X.env.kindOf y.1=some .free)
 len:N'.length=nt+js.length
 fr:∀(k j:Nat),js[k]?=some j->∃x,N'[nt+k]?=some x/\X.N[j]?=some x/\scope.names.lookup x=some .free/\(X.env.kindOf x=some .cell\/X.env.kindOf x=some .free)
structure CfOk(h:Heap)(k:Nat)(names:List (Str×NameKind))(acc cs:List (Str×Addr)):Prop where
 look:∀z c,cs.lookup z=some c->(acc.lookup z=some c/\(z,ACb)∉names)\/((z,ACb)∈names/\k<=c/\h.IsCell c none)
 inj:∀y z c,cs.lookup y=some c->cs.lookup z=some c->y=z
 old:∀z c,acc.lookup z=some c->∃c',cs.lookup z=some c'
 new:∀z,(z,ACb)∈names->∃c,cs.lookup z=some c
def BZ(i:Nat):DTG:=aA i
end L2
namespace L2
open PySem PySem.Spec PyProof.Rows DL
def GtAt(A:Around)(s:Shared)(x y:Value)(k:Bool):Prop:=∀(prog:Program) (w:World) (E:Value->Shared->Prop) (Q:Value->Shared->Prop),Q (.bool k) s->wpAny (model prog w) A (richCompare .Gt x y) Q E s
inductive GexAt(A:Around)(s:Shared):List Value->List Value->Bool->Prop
 | nn:GexAt A s [] [] false
 | nc {y:Value}{ys:List Value}:GexAt A s [] (y::ys) false
 | cn {x:Value}{xs:List Value}:GexAt A s (x::xs) [] true
 | eq {x y:Value}{xs ys:List Value}{k:Bool} (h:AD3 A s x y true) (t:GexAt A s xs ys k):GexAt A s (x::xs) (y::ys) k
 | ne {x y:Value}{xs ys:List Value}{k:Bool} (h:AD3 A s x y false) (t:GtAt A s x y k):GexAt A s (x::xs) (y::ys) k
def sf(s:Shared)(h:Heap):Prop:=∀b o,s.heap.get? b=some o->h.get? b=some o
noncomputable def pM(es:Array DictEntry)(h:Int)(i:Nat):Bool:=(es[i]?.map (·.hash))==some h
section
open PySem.W
variable{prog:Program}{w:World}{A:Around}{E:Value->Shared->Prop}{s:Shared}{K:Frag}{x D:Addr}{ox:Obj}
structure ExcK(K:Frag)(D:Addr):Prop where
 ga:findIn K (.ref D) "__getattribute__" = some (some (.builtin "BaseException.__getattribute__"))
 gt:findIn K (.ref D) "__getattr__" = some none
 mb:mroIn K D (.type "BaseException")=some true
 mo:mroIn K D (.type "object")=some true
 cl:findIn K (.ref D) "__class__" = some (some (.builtin "object.__class__"))
def FQ(h:Heap)(x D:Addr):Prop:=∃o,h.get? x=some o/\o.cls=.ref D
theorem FQ.type(I:FQ h x D):Looks M h (typeOf (.ref x)) (.ref D):=by
 obtain⟨o,e,c⟩:=I
 exact c ▸ (Looks.ld e).andThen .now
theorem nU(X:K.In h)(c:ExcK K D):Looks M h (Builtin.ObjectAttr.find (.ref x) (.ref D) "__class__") (.bind (.builtin "getset_descriptor.__get__") (.builtin "object.__class__")):=by
 have ht:typeIn K (.builtin "object.__class__")=some (.type "getset_descriptor"):=by kernel_rfl
 have h1:specialIn K (.builtin "object.__class__") "__get__" = some (some (.builtin "getset_descriptor.__get__")):=by
  unfold specialIn;rw[ht];kernel_rfl
 have h2:takesIn K (.builtin "object.__class__")=some true:=by
  unfold takesIn specialIn;rw[ht];kernel_rfl
 have L1:=looks_findIn (M:=M) X c.cl
 have L2:Looks M h (Builtin.ObjectAttr.getOf (some (.builtin "object.__class__"))) (some (.builtin "getset_descriptor.__get__")):=looks_specialIn X h1
 have L3:=looks_takesIn (M:=M) X h2
 refine L1.andThen (L2.andThen ?_)
 exact(show Looks M h (Builtin.ObjectAttr.dataDescriptor? (some (.builtin "object.__class__")) (some (.builtin "getset_descriptor.__get__"))) (some (.builtin "getset_descriptor.__get__",.builtin "object.__class__"))from L3.andThen .now).andThen (Looks.tag .now)
theorem Fb(X:K.In s.heap)(I:FQ s.heap x D)(hm:mroIn K D (.type "object")=some true)
  (h:R (.ok (.ret (.ref D))) s):codeAny (model prog w) A (.call (.builtin "getset_descriptor.__get__") ⟨[.builtin "object.__class__",.ref x,tp],[]⟩) R s:=by
 obtain⟨hh,g,dr,t,os⟩:=s
 have L0:=I.type (M:=model prog w)
 have L1:=looks_mroIn (M:=model prog w) X hm
 refine ACQ KF.slot_gs.plain KF.entry_gs (KF.slot_gs.check _ _ _ _ _ _ _ _ KF.type_class (KF.args_gs _ _ _) ?_)
 unfold Builtin.«getset_descriptor.__get__» Builtin.Getset_descriptor.descrGet
 rw[dga_obj]
 refine AA0 (AA3 ?_)
 unfold Builtin.Getset_descriptor.descrGetter Builtin.Getset_descriptor.descrCheckInstance Builtin.Getset_descriptor.descrNameAndClass isInstance
 simp only[KF.owner_class]
 repeat lk
 refine⟨ADb _ (by decide +kernel),ABL KF.entry_class ?_⟩
 unfold Builtin.«object.__class__» shownTypeOf
 repeat lk
 exact h
theorem ya(X:K.In s.heap)(c:ExcK K D)(I:FQ s.heap x D)(h:Q (some (.ref D)) { s with toks:=s.toks+1 }):wpAny (model prog w) A (getAttr? (.ref x) "__class__") Q E s:=by
 obtain⟨hh,g,d,t,os⟩:=s
 have L0:=I.type (M:=model prog w)
 have L1:=looks_findIn (M:=model prog w) X c.ga
 have L2:=looks_findIn (M:=model prog w) X c.gt
 have L4:=looks_mroIn (M:=model prog w) X c.mb
 have L3:=nU (M:=model prog w) (x:=x) X c
 have ga:=F.excAttr_ValueError.ga
 have f3:=ga.bind (.ref x)
 have hx2:(AC3 "BaseException.__getattribute__" == AC3 "object.__getattribute__")=false:=by decide +kernel
 have hx1:(onTheHeap (AAZ D)&&AC3 "BaseException.__getattribute__" == AC3 "object.__getattribute__")=false:=by rw[hx2];rfl
 unfold getAttr? getAttrBy? getAttrBy
 refine AA0 (wpAny_mkText (AA0 (AC4 (AAW (AA0 (L0.at (AA0 (L1.at ?_))))))))
 dsimp only
 rw[hx1]
 simp only[AAR,if_false]
 unfold getAttrByItsOwn hookBefore
 rw[if_pos (show onTheHeap (AAZ D)=true from rfl)]
 refine AA0 (L2.at ?_)
 unfold callGetattribute
 simp only[ADv,AAR,if_false]
 unfold boundAndCalled
 refine AA0 (AC4 (AAW (AA0 (AEK f3 ?_))))
 refine AEC (ACQ ga.plain F.entry_bexc_ga ?_)
 have hk:builtinKind "BaseException.__getattribute__" = some .slot:=by decide +kernel
 have hsplit:splitId "BaseException.__getattribute__" = some ("BaseException","__getattribute__"):=by decide +kernel
 have hargs:=F.args_bexc_ga (.ref x) (.str "__class__" t)
 simp only[checkBuiltinCall,hk,hsplit]
 have LI:Looks (model prog w) hh (isInstance (.ref x) (.type "BaseException")) true:=L0.andThen L4
 refine AA0 (LI.at ?_)
 repeat (first | with_reducible refine L0.at ?_ | with_reducible refine L3.at ?_ | wp_step)
 refine Fb (s:=⟨hh,g,d,t+1,os⟩) X I c.mo ?_
 exact AA3 (handed_on rfl (AA3 h))
theorem xG(c:ExcK K D):KitX K (.ref x) (.ref D) (λh=>FQ h x D) where
 ty:=λ_ _ _ I=>I.type
 it:=λ_ h X _=>by
  have:=c.mo
  unfold mroIn clsIn at this
  split at this
  ·rename_i ho
   intro A' Q' E' s' k q
   unfold isType loadHead
   exact AA0 (wpAny_loadPart (k _ _ (X _ _ ho)) (AA3 q))
  ·cases this
 ne:=λh tp dd its n sl X htp=>by
  refine ACT.mpr λq=>?_
  have e:D=tp:=Value.ref.inj (beq_iff_eq.mp q)
  subst e
  have:=c.mo
  unfold mroIn clsIn at this
  split at this
  ·rename_i ho
   have z:=(X _ _ ho).symm.trans htp
   cases z
  ·cases this
 ca:=λX I k=>ya X c I k
end
noncomputable def trO(o:Obj)(T:Addr):Obj:=o.mapFields (·.setIfInBounds 1 (.ref T))
inductive TrX(h base:Heap)(l:List Env)(e:Addr)(o:Obj)(fl:Value):Prop
 | mk (T:Addr) (oT:Obj) (vs ts:Array Value) (st:base.StaysIn h) (nw:base.get? e=none) (ff:h.FunFrames base l) (d:o.data=.fields vs) (sz:1<vs.size) (at_:h.get? e=some (trO o T))
  (nT:base.get? T=none) (ne:T≠e) (aT:h.get? T=some oT) (dT:oT.data=.fields ts) (h3:ts[3]?=some fl)
section
variable{M:Model}{A:Around}{E:Value->Shared->Prop}{s:Shared}{base:Heap}{env:Env}{outer l:List Env}{L e:Addr}{o:Obj}{vs:Array Value}{fl:Value}{Q:Unit->Shared->Prop}
theorem dh(d:o.data=.fields vs):(trO o T).data=.fields (vs.setIfInBounds 1 (.ref T)):=ABe d _
theorem yF:trO (trO o T) T'=trO o T':=by
 obtain⟨c,d,dt,sl⟩:=o
 cases dt<;>first | rfl | (show Obj.mk _ _ _ _=Obj.mk _ _ _ _;simp)
theorem xo{h:Heap}(ff:h.FunFrames base l)(he:h.get? e=some o)(d:o.data=.fields vs):e∉l.filterMap (·.frame):=λhm=>by
 obtain⟨_,o',ho,hnf⟩:=ff.mem hm
 rw[he]at ho;injection ho with ho;subst ho;exact hnf vs d
theorem vR(hfr:A.frames=some (env::outer))(hl:s.heap.FunFrames base (env::outer))(hf:env.frame=some L)(he:s.heap.get? e=some o)(hkb:base.StaysIn s.heap)(hen:base.get? e=none)(hd:o.data=.fields vs)(hsz:1<vs.size)
  (h:∀h',TrX h' base (env::outer) e o (rawInt L)->s.heap.UpToSlots h'->Q () { s with heap:=h' }) :
  wpAny M A (do let a <-frameOf env;let pl <-entryPlaceOf L hadNext;let b <-EntryCells.newEntry head a .none (rawInt L) .none pl;setField (.ref e) 1 b) Q E s:=by
 refine AA0 (wpAny_frameOf_fun hfr hl hf λh₁ hs₁=>?_)
 refine AA0 (wpAny_entryPlaceOf λpl hpl=>?_)
 unfold EntryCells.newEntry newFields
 refine AA0 (AAa ?_ (hpl.sizeOk5 _ _ _ _ _))
 have he₁:h₁.get? e=some o:=(hs₁.2.1 e (xo hl he hd)).trans he
 have kb₁:base.StaysIn h₁:=λb o hbo=>(hs₁.2.1 b λhm=>by rw[(hl.mem hm).1]at hbo;cases hbo).trans (hkb b o hbo)
 have hTe:h₁.objs.size≠e:=ABR (AAD he₁)
 have hpl3:∀x y z:Value,([x,y,.none,z,.none]++(if pl.isEmpty then ACL 6 ABB else pl)).toArray[3]?=some z:=λx y z=>by
  first | (simp;done) | (rcases hpl with rfl | ⟨_,_,_,_,_,_,_,rfl⟩<;>simp)
 generalize hO:({ cls:=.type "traceback",dict:=none,data:=.fields ([head,.ref L,.none,rawInt L,.none]++(if pl.isEmpty then ACL 6 ABB else pl)).toArray }:Obj)=O
 have dO:O.data=.fields ([head,.ref L,.none,rawInt L,.none]++(if pl.isEmpty then ACL 6 ABB else pl)).toArray:=by rw[<-hO]
 have fO:O.isFreed=false:=ACJ dO
 have he₂:=AA4 (h:=h₁) O he₁
 refine AC7 he₂ hd hsz (h _ ?_ ?_)
 all_goals
  have keep:∀b o',b≠e->h₁.get? b=some o'->((h₁.push O).update e (ACI (·.setIfInBounds 1 (AAZ h₁.objs.size)))).get? b=some o':=λb o' hbe hb=>by
   rw[AAj _ _ (ABG hbe)]
   exact AA4 _ hb
  have noR:∀b o',s.heap.get? b=some o'->(∀vs,o'.data≠.fields vs)->b≠e:=λb o' hb hnf q=>by
   rw[q,he]at hb;injection hb with hb;subst hb;exact hnf vs hd
 ·refine⟨h₁.objs.size,O,vs,_,λb o' hbo=>keep b o' (λq=>by rw[q,hen]at hbo;cases hbo) (kb₁ b o' hbo),hen,hl.of_keeps λb o' hb hnf=>?_,hd,hsz,?_,kb₁.fresh,hTe,?_,dO,hpl3 _ _ _⟩
  ·obtain⟨sl,hs⟩:=hs₁.2.2 b o' hb
   exact⟨_,keep b _ (noR b o' hb hnf) hs,rfl⟩
  ·exact AAd _ he₂ (ACJ (ABe hd _))
  ·exact(AAj (h₁.push O) _ (ABG hTe)).trans (AAE h₁ fO)
 ·intro b o' hb hnf
  obtain⟨sl,hs⟩:=hs₁.2.2 b o' hb
  exact⟨sl,keep b _ (noR b o' hb hnf) hs⟩
theorem TrX.set(st:base.StaysIn h)(nw:base.get? e=none)(ff:h.FunFrames base l)(d:o.data=.fields vs)(sz:1<vs.size)(at_:h.get? e=some (trO o T))(nT:base.get? T=none)(ne:T≠e)(aT:h.get? T=some oT)(dT:oT.data=.fields ts)(h3:3<ts.size) :
  TrX (h.update T (ACI (·.setIfInBounds 3 x))) base l e o x/\h.UpToSlots (h.update T (ACI (·.setIfInBounds 3 x))):=by
 have other:∀b,b≠T->(h.update T (ACI (·.setIfInBounds 3 x))).get? b=h.get? b:=λb hb=>AAj _ _ (ABG hb)
 have noR:∀b o',h.get? b=some o'->(∀vs,o'.data≠.fields vs)->b≠T:=λb o' hb hnf q=>by
  rw[q,aT]at hb;injection hb with hb;subst hb;exact hnf ts dT
 exact⟨⟨T,_,vs,_,λb o' hbo=>(other b λq=>by rw[q,nT]at hbo;cases hbo).trans (st b o' hbo),nw,ff.of_keeps λb o' hb hnf=>⟨o',(other b (noR b o' hb hnf)).trans hb,rfl⟩,d,sz,(other e (ABG ne)).trans at_,nT,ne,
  AAd _ aT (ACJ (ABe dT _)),ABe dT _,by simp[h3]⟩,λb o' hb hnf=>⟨o'.slots,(other b (noR b o' hb hnf)).trans hb⟩⟩
theorem yS(hfr:A.frames=some (env::outer))(hf:env.frame=some L)(F:TrX s.heap base (env::outer) e o .none)(h:∀h',TrX h' base (env::outer) e o (rawInt L)->s.heap.UpToSlots h'->Q () { s with heap:=h' }) :
  wpAny M A (noteFrame (.ref e) env) Q E s:=by
 obtain⟨T,oT,vs,ts,st,nw,ff,d,sz,at_,nT,ne,aT,dT,h3⟩:=F
 unfold noteFrame
 simp only[hf]
 refine AA0 (ABZ at_ (dh d) (x:=.ref T) (by simp[sz]) ?_)
 rw[if_pos (show (AAZ T != ABB)=true from by simp)]
 refine AA0 (ABZ aT dT h3 ?_)
 rw[if_neg (show ¬((ABB==rawInt L)=true)from by simp[rawInt])]
 have z3:=(ACD.mp h3).1
 refine AA0 (AC7 aT dT z3 ?_)
 obtain⟨⟨T1,oT1,vs1,ts1,st1,_,ff1,d1,sz1,at1,_⟩,up⟩:=TrX.set (x:=.none) st nw ff d sz at_ nT ne aT dT z3
 refine vR hfr ff1 hf at1 st1 nw (dh d1) (by simp;exact sz1) λh' ⟨T2,oT2,vs2,ts2,st2,nw2,ff2,d2,sz2,at2,nT2,ne2,aT2,dT2,h32⟩ up2=>h h' ⟨T2,oT2,vs1,ts2,st2,nw2,ff2,d1,sz1,by rw[<-yF (T:=T1)];exact at2,nT2,ne2,aT2,dT2,h32⟩ (up.trans up2)
theorem lV(F:TrX s.heap base l e o fl)(h:∀h',TrX h' base l e o .none->s.heap.UpToSlots h'->Q () { s with heap:=h' }):wpAny M A (setFlight (.ref e) none) Q E s:=by
 obtain⟨T,oT,vs,ts,st,nw,ff,d,sz,at_,nT,ne,aT,dT,h3⟩:=F
 have z3:=(ACD.mp h3).1
 unfold setFlight
 refine AA0 (ABZ at_ (dh d) (x:=.ref T) (by simp[sz]) ?_)
 rw[if_pos (show (AAZ T != ABB)=true from by simp)]
 obtain⟨F',up⟩:=TrX.set (x:=.none) st nw ff d sz at_ nT ne aT dT z3
 exact AC7 aT dT z3 (h _ F' up)
theorem TrX.st(F:TrX h base l e o fl):base.StaysIn h:=by obtain⟨_,_,_,_,st,_⟩:=F;exact st
theorem TrX.nw(F:TrX h base l e o fl):base.get? e=none:=by obtain⟨_,_,_,_,_,nw,_⟩:=F;exact nw
theorem TrX.ff(F:TrX h base l e o fl):h.FunFrames base l:=by obtain⟨_,_,_,_,_,_,ff,_⟩:=F;exact ff
theorem IsX.tr(i:IsX o C):IsX (trO o T) C:=by
 obtain⟨c,ws,d,e⟩:=i
 exact⟨(Obj.cls_mapFields o _).trans c,_,dh d,by rw[Array.getElem?_setIfInBounds_ne (by decide)];exact e⟩
theorem TrX.is(F:TrX h base l e o fl)(i:IsX o C):∃o',h.get? e=some o'/\IsX o' C:=by obtain⟨T,_,_,_,_,_,_,_,_,at_,_⟩:=F;exact⟨_,at_,i.tr⟩
theorem TrX.out(F:TrX h base (env::outer) e o fl):TrX h base outer e o fl:=by
 obtain⟨T,oT,vs,ts,st,nw,⟨_,_,ff⟩,d,sz,at_,nT,ne,aT,dT,h3⟩:=F
 exact⟨T,oT,vs,ts,st,nw,ff,d,sz,at_,nT,ne,aT,dT,h3⟩
theorem AO(hfr:A.frames=some (env::outer))(hf:env.frame=some L)(F:TrX s.heap base (env::outer) e o .none)(h:∀h',TrX h' base outer e o .none->s.heap.UpToSlots h'->Q () { s with heap:=h' }):wpAny M A (leaving env (.ref e)) Q E s:=by
 unfold leaving
 exact AA0 (yS hfr hf F λh1 F1 u1=>lV F1 λh2 F2 u2=>h h2 F2.out (u1.trans u2))
theorem ql(hfr:A.frames=some (env::outer))(hf:env.frame=some L)(hl:s.heap.FunFrames base (env::outer))(he:s.heap.get? e=some o)(hkb:base.StaysIn s.heap)(hen:base.get? e=none)(hd:o.data=.fields vs)(h1:vs[1]?=some .none)
  (h:∀h',TrX h' base outer e o .none->s.heap.UpToSlots h'->Q () { s with heap:=h' }):wpAny M A (leaving env (.ref e)) Q E s:=by
 unfold leaving noteFrame
 simp only[hf]
 refine AA0 (AA0 (ABZ he hd h1 ?_))
 rw[if_neg (by decide)]
 exact vR hfr hl hf he hkb hen hd (ACD.mp h1).1 λh1 F1 u1=>lV F1 λh2 F2 u2=>h h2 F2.out (u1.trans u2)
end
theorem aY.there(x:aY P w H h a o):∃u,h.get? a=some u:=by
 cases o with
 | lst xs=>obtain⟨_,_,_,_,e⟩:=x;exact⟨_,e⟩
 | tup xs=>obtain⟨_,_,_,ob,e,_⟩:=x;exact⟨_,e⟩
 | dK kvs=>obtain⟨_,_,_,_,ob,_,_,e,_⟩:=x;exact⟨_,e⟩
 | dT kvs=>obtain⟨_,_,_,_,ob,_,_,e,_⟩:=x;exact⟨_,e⟩
 | set S n=>obtain⟨ob,_,_,_,e,_⟩:=x;exact⟨_,e⟩
 | ins C dx fs=>obtain⟨_,_,_,e,_⟩:=x;exact⟨_,e⟩
 | own y=>exact x
 | xd fs=>obtain⟨_,⟨od,_,_,e,_⟩,_⟩:=x;exact⟨_,e⟩
 | rng lo hi=>obtain⟨_,_,_,e⟩:=x;exact⟨_,e⟩
 | frz ob u=>exact⟨_,x.1⟩
 | tbl ps=>exact⟨_,x⟩
 | met f y=>exact⟨_,x⟩
 | ext φ=>exact x.2.1
inductive Fly(P:Program)(w:World)(stk:List Env)(H:Hp)(h0:Heap)(a:Addr)(C:Value)(dx:Option Addr)(H1:Hp)(h:Heap):Prop
 | mk (B:Heap) (o:Obj) (ix:IsX o C) (dk:o.dict=dx) (fly:TrX h B stk a o .none) (un:Un (frs stk) [] H H1 h0 h) (hok:HOk P w H1 h)
  (old:∀b o,h0.get? b=some o->b∉frs stk->∃o',B.get? b=some o'/\(H b=none->o'=o)) (trk:∀b u,H1 b=some u->∃o,B.get? b=some o)
theorem TrX.isd(F:TrX h base l e o fl)(i:IsX o C):∃o',h.get? e=some o'/\IsX o' C/\o'.dict=o.dict:=by
 obtain⟨T,_,_,_,_,_,_,_,_,at_,_⟩:=F
 refine⟨_,at_,i.tr,?_⟩
 obtain⟨c,d,dt,sl⟩:=o
 cases dt<;>rfl
theorem dz{P:Program}{w:World}{H1:Hp}{h h' B:Heap}(hok:HOk P w H1 h)(trk:∀b u,H1 b=some u->∃o,B.get? b=some o)(s:B.StaysIn h)(s':B.StaysIn h'):HOk P w H1 h':=λb u q=>by
 refine(hok b u q).stay (λc v hc r=>?_) (λ_ z=>z) λ_ _ z=>z
 have hc':∃u',H1 c=some u':=by
  rcases hc with rfl | hc
  ·exact⟨u,q⟩
  ·exact⟨_,hc⟩
 obtain⟨u',hc'⟩:=hc'
 obtain⟨o,ho⟩:=trk c u' hc'
 have:=s c o ho
 rw[r]at this
 cases this
 exact s' c _ ho
theorem mV(un:Un (frs stk) [] H H1 h0 h)(old:∀b o,h0.get? b=some o->b∉frs stk->∃o',B.get? b=some o'/\(H b=none->o'=o))(ff:h.FunFrames B stk)(s':B.StaysIn h')(up:h.UpToSlots h'):Un (frs stk) [] H H1 h0 h':=by
 have fr:∀b,b∈frs stk->∀o,h.get? b=some o->∃sl,h'.get? b=some { o with slots:=sl }:=λb hb o e=>by
  obtain⟨_,o',e',nf⟩:=ff.mem hb
  rw[e]at e'
  cases e'
  exact up b o e nf
 refine⟨λb o e n hb hx=>?_,λb o e n hb hx=>?_,un.free,λb o e hx=>?_,un.tups,un.frzs,un.tbls⟩
 ·obtain⟨o',e',q⟩:=old b o e hb
  rw[<-q n]
  exact s' b o' e'
 ·obtain⟨sl,e1⟩:=un.slot b o e n hb hx
  obtain⟨sl',e2⟩:=fr b hb _ e1
  exact⟨sl',e2⟩
 ·by_cases hb:b∈frs stk
  ·obtain⟨o',e1⟩:=un.there b o e hx
   obtain⟨sl,e2⟩:=fr b hb _ e1
   exact⟨_,e2⟩
  ·obtain⟨o',e',_⟩:=old b o e hb
   exact⟨o',s' b o' e'⟩
theorem lJ{α:Type}{x:α}:x∉([]:List α):=λh=>nomatch h
theorem Fly.track(un:Un (frs stk) [] H H1 h0 h)(hok:HOk P w H1 h)(old:∀b o,h0.get? b=some o->b∉frs stk->∃o',B.get? b=some o'/\(H b=none->o'=o))(trk:∀b u,H1 b=some u->∃o,B.get? b=some o)(fly:TrX h B stk a oe fl)(ix:IsX oe C) :
  ∃oe',IsX oe' C/\oe'.dict=oe.dict/\Un (frs stk) [] H (upd H1 a (.frz oe' (.own a))) h0 h/\HOk P w (upd H1 a (.frz oe' (.own a))) h:=by
 obtain⟨oe,he,⟨hc,vs,hd,h2⟩,dk⟩:=fly.isd ix
 have na:H1 a=none:=by
  cases q:H1 a with
  | none=>rfl
  | some u =>
   obtain⟨o,ho⟩:=trk a u q
   rw[fly.nw]at ho
   cases ho
 refine⟨oe,⟨hc,vs,hd,h2⟩,dk,⟨un.keep,un.slot,λb o e n hx=>?_,un.there,λb xs e=>?_,λb o u e=>?_,λb ps e=>?_⟩,λb u q=>?_⟩
 ·rw[av]
  ·exact un.free b o e n hx
  ·rintro rfl
   by_cases hb:b∈frs stk
   ·obtain⟨_,o',e',nf⟩:=fly.ff.mem hb
    rw[he]at e'
    cases e'
    exact nf vs hd
   ·obtain⟨o',e',_⟩:=old b o e hb
    rw[fly.nw]at e'
    cases e'
 ·rw[av (ad (un.tups b xs e) na)]
  exact un.tups b xs e
 ·rw[av (ad (un.frzs b o u e) na)]
  exact un.frzs b o u e
 ·obtain⟨more,q⟩:=un.tbls b ps e
  exact⟨more,by rw[av (ad q na)];exact q⟩
 ·by_cases hb:b=a
  ·subst hb
   rw[aC]at q
   cases q
   exact⟨he,oe,he⟩
  ·rw[av hb]at q
   exact(hok b u q).stay (λ_ _ _ z=>z) (λc z=>by rw[av (ad z na)];exact z) λc xs z=>by rw[av (ad z na)];exact z
structure DefX(X:Cx):Prop where
 stk:X.stack=X.env::X.outer
 fr:X.env.frame=some X.env.locals
 ex:X.ex=[]
section
variable{X:Cx}{pins:List (Addr×Obj)}{σ:St}{H H1:Hp}{s s':Shared}{h':Heap}{e:Addr}{C:Value}{vs:List Value}{M:Model}{Q:Unit->Shared->Prop}{E':Value->Shared->Prop}
theorem DefX.frs(d:DefX X):b∈frs X.stack↔b=X.env.locals\/b∈X.fs:=by
 rw[d.stk]
 unfold L2.frs
 rw[ADJ,d.fr]
 exact AAL
theorem Inv.nloc(I:Inv X pins σ H s)(e:X.s₀.heap.get? b=some o):b≠X.env.locals:=λz=>by
 subst z
 exact AAe _ (AAQ (AAD e) I.ok.above)
theorem rN(I:Inv X pins σ H1 s)(d:DefX X)(m:ACm s.heap h' e C vs)(h:∀h'',Fly X.prog X.w X.outer X.H₀ X.s₀.heap e C none H1 h''->Q () { s with heap:=h'' }) :
  wpAny M X.A (leaving X.env (.ref e)) Q E' { s with heap:=h' }:=by
 have hfr:X.A.frames=some (X.env::X.outer):=d.stk ▸ I.ok.frames
 have ff:s.heap.FunFrames X.base (X.env::X.outer):=d.stk ▸ I.stack
 have get:∀{b o},s.heap.get? b=some o->b∉frs X.stack->(ABI s.heap (frs X.stack)).get? b=some o:=λq hb=>AED _ q hb
 obtain⟨t,he,_⟩:=m.there
 have kb:∀b o,(ABI s.heap (frs X.stack)).get? b=some o->s.heap.get? b=some o:=λb o q=>ADR _ q
 refine ql (base:=ABI s.heap (frs X.stack)) hfr d.fr ((PySem.W.funFrames_hide ff λenv he b hb=>by rw[d.stk];exact List.mem_filterMap.mpr ⟨env,he,hb⟩).of_keeps λb o q _=>⟨o,m.keeps b o q,rfl⟩) he (λb o q=>m.keeps b o (kb b o q)) ?_ rfl rfl λh'' fly up=>h h'' ?_
 ·cases q:(ABI s.heap (frs X.stack)).get? e with
  | none=>rfl
  | some o=>have z:=kb e o q;rw[m.new]at z;cases z
 have hex:∀b:Addr,b∉X.ex:=λb z=>by rw[d.ex]at z;cases z
 have old:∀b o,X.s₀.heap.get? b=some o->b∉X.fs->∃o',(ABI s.heap (frs X.stack)).get? b=some o'/\(X.H₀ b=none->o'=o):=λb o q hb=>by
  have hb':b∉frs X.stack:=λz=>(d.frs.mp z).elim (λz=>I.nloc q z) hb
  obtain⟨o',q'⟩:=I.base.there b o q (hex b)
  refine⟨o',get q' hb',λn=>?_⟩
  have:=I.base.keep b o q n hb (hex b)
  rw[q']at this
  exact AAM this
 have trk:∀b u,H1 b=some u->∃o,(ABI s.heap (frs X.stack)).get? b=some o:=λb u q=>by
  obtain⟨o,ho⟩:=(I.hok b u q).there
  refine⟨o,get ho λz=>?_⟩
  rw[I.stkFree b z]at q
  cases q
 have base':Un X.fs [] X.H₀ H1 X.s₀.heap s.heap:=d.ex ▸ I.base
 refine⟨_,_,⟨rfl,_,rfl,rfl⟩,rfl,fly,?_,dz I.hok trk (λb o q=>ADR _ q) fly.st,old,trk⟩
 have fr:∀b,b∈X.fs->∀o,s.heap.get? b=some o->∃sl,h''.get? b=some { o with slots:=sl }:=λb hb o q=>by
  obtain⟨_,o',e',nf⟩:=ff.mem (show b∈(X.env::X.outer).filterMap (·.frame)from d.stk ▸ d.frs.mpr (.inr hb))
  rw[q]at e'
  cases e'
  exact up b o (m.keeps b o q) nf
 refine⟨λb o q n hb hx=>?_,λb o q n hb hx=>?_,base'.free,λb o q hx=>?_,base'.tups,base'.frzs,base'.tbls⟩
 ·obtain⟨o',e',z⟩:=old b o q hb
  rw[<-z n]
  exact fly.st b o' e'
 ·obtain⟨sl,e1⟩:=base'.slot b o q n hb hx
  obtain⟨sl',e2⟩:=fr b hb _ e1
  exact⟨sl',e2⟩
 ·by_cases hb:b∈X.fs
  ·obtain⟨o',e1⟩:=base'.there b o q hx
   obtain⟨sl,e2⟩:=fr b hb _ e1
   exact⟨_,e2⟩
  ·obtain⟨o',e',_⟩:=old b o q hb
   exact⟨o',fly.st b o' e'⟩
theorem xZ(I:Inv X pins σ H s)(d:DefX X)(F:Fly X.prog X.w X.stack H s.heap e C dx H1 s'.heap)(h:∀h'',Fly X.prog X.w X.outer X.H₀ X.s₀.heap e C dx H1 h''->Q () { s' with heap:=h'' }) :
  wpAny M X.A (leaving X.env (.ref e)) Q E' s':=by
 obtain⟨B,oe,ix,dk,fly,un,hok,old,trk⟩:=F
 have hfr:X.A.frames=some (X.env::X.outer):=d.stk ▸ I.ok.frames
 have hex:∀b:Addr,b∉X.ex:=λb z=>by rw[d.ex]at z;cases z
 have fly0:TrX s'.heap B (X.env::X.outer) e oe .none:=d.stk ▸ fly
 refine AO hfr d.fr fly0 λh'' fly' up=>h h'' ?_
 have base':Un X.fs [] X.H₀ H X.s₀.heap s.heap:=d.ex ▸ I.base
 have ff:=fly.ff
 have fr:∀b,b∈X.fs->∀o,s'.heap.get? b=some o->∃sl,h''.get? b=some { o with slots:=sl }:=λb hb o q=>by
  obtain⟨_,o',e',nf⟩:=ff.mem (show b∈X.stack.filterMap (·.frame)from d.frs.mpr (.inr hb))
  rw[q]at e'
  cases e'
  exact up b o q nf
 have old':∀b o,X.s₀.heap.get? b=some o->b∉X.fs->∃o',B.get? b=some o'/\(X.H₀ b=none->o'=o):=λb o q hb=>by
  have hb':b∉frs X.stack:=λz=>(d.frs.mp z).elim (λz=>I.nloc q z) hb
  obtain⟨o',q'⟩:=base'.there b o q lJ
  obtain⟨o2,q2,z⟩:=old b o' q' hb'
  refine⟨o2,q2,λn=>?_⟩
  rw[z (base'.free b o q n lJ)]
  have:=base'.keep b o q n hb lJ
  rw[q']at this
  exact AAM this
 refine⟨B,oe,ix,dk,fly',?_,dz hok trk fly.st fly'.st,old',trk⟩
 have unT:∀b o,X.s₀.heap.get? b=some o->X.H₀ b=none->H1 b=none:=λb o q n=>by
  obtain⟨o',q'⟩:=base'.there b o q lJ
  exact un.free b o' q' (base'.free b o q n lJ) lJ
 refine⟨λb o q n hb hx=>?_,λb o q n hb hx=>?_,λb o q n hx=>unT b o q n,λb o q hx=>?_,λb xs q=>un.tups b xs (base'.tups b xs q),λb o u q=>un.frzs b o u (base'.frzs b o u q),λb ps q=>?_⟩
 ·obtain⟨o',e',z⟩:=old' b o q hb
  rw[<-z n]
  exact fly'.st b o' e'
 ·obtain⟨sl,e1⟩:=base'.slot b o q n hb hx
  obtain⟨sl1,e2⟩:=un.slot b _ e1 (base'.free b o q n hx) (d.frs.mpr (.inr hb)) hx
  obtain⟨sl',e3⟩:=fr b hb _ e2
  exact⟨sl',e3⟩
 ·by_cases hb:b∈X.fs
  ·obtain⟨o',e1⟩:=base'.there b o q hx
   obtain⟨o2,e2⟩:=un.there b o' e1 hx
   obtain⟨sl,e3⟩:=fr b hb _ e2
   exact⟨_,e3⟩
  ·obtain⟨o',e',_⟩:=old' b o q hb
   exact⟨o',fly'.st b o' e'⟩
 ·obtain⟨m1,e1⟩:=base'.tbls b ps q
  obtain⟨m2,e2⟩:=un.tbls b _ e1
  exact⟨m1++m2,by rw[e2,Array.append_assoc]⟩
end
def CXe(P:Program)(w:World):CXT:=λstk H s E e s'=>∃a C dx H1,e=.ref a/\s'.os=s.os/\AllBare s'.gens/\Fly P w stk H s.heap a C dx H1 s'.heap/\E C dx H1
section
variable{P:Program}{w:World}{K:AA1}{mg:Str->Option Value}{base:Heap}{N:List Str}{qual:Str}{scope:Scope}{f:Addr}{cd:Value}{A:Around}{outer:List Env}{s:Shared}{H:Hp}{E:XK}
theorem jU:DefX (iE CX P w K mg base N qual scope f cd A outer s H E):=⟨rfl,rfl,rfl⟩
theorem Aj:qH (CXe P w) (iE (CXe P w) P w K mg base N qual scope f cd A outer s H E) E:=by
 rintro pins σ H1 s1 e s' I ⟨a,C,dx,H2,rfl,ho,hb,F,q⟩
 exact xZ I jU F λh'' F'=>⟨a,C,dx,H2,rfl,ho.trans I.os,hb,F',q⟩
theorem AF(I:Inv (iE (CXe P w) P w K mg base N qual scope f cd A outer s H E) pins σ H1 s1)(m:ACm s1.heap h' e C vs)(q:E C none H1) :
  (iE (CXe P w) P w K mg base N qual scope f cd A outer s H E).xe (.ref e) { s1 with heap:=h' }:=by
 exact rN I jU m λh'' F'=>⟨e,C,none,H1,rfl,I.os,I.bare,F',q⟩
end
noncomputable abbrev vE:List Value:=[.type "ValueError",.type "Exception",.type "BaseException",.type "object"]
theorem sv(I:Inv X pins σ H s)(hN:X.N.Nodup)(hi:X.N[i]?=some x)(hk:X.env.scope.names.lookup x=some .local)(hv:σ[i]?=some (some v))
  (h:∀s',Inv X pins (σ.set i none) H s'->Q () s'):wpAny M A (unbindName X.env x) Q E s:=by
 obtain⟨m,hn,hl⟩:=id I.loc
 have hcls:(X.env.scope.kind==.class||(X.env.scope.kind==.module&&X.env.locals != X.env.globals))=false:=by rw[I.ok.kind];rfl
 have hiσ:i<σ.length:=by rw[I.len];exact(AA5.mp hi).1
 have cne:=I.cne
 obtain⟨u,r,lk⟩:=hl i x v hi hv (.inl hk)
 have hm:m x=some u:=by
  rcases lk with⟨_,e⟩|⟨k,_⟩
  ·exact e
  ·rcases k with k | k<;>(have k':X.env.scope.names.lookup x=_:=k;rw[hk]at k';cases k')
 refine wpAny_unbindName_local hk hn hm hcls λh' u' hn' hs=>?_
 obtain⟨oL,_,_,hoL,_⟩:=id hn
 have tracked:HOk X.prog X.w H h':=λb ob e=>by
  refine(I.hok b ob e).stay (λc w' hc q=>(hs.2 c ?_).trans q) (λ_ q=>q) λ_ _ q=>q
  rintro rfl
  rcases hc with rfl | hc
  ·rw[I.free]at e;cases e
  ·rw[I.free]at hc;cases hc
 refine h _ ⟨I.ok,I.os,I.bare,⟨λb o e n hb hx=>?_,λb o e n hb hx=>?_,I.base.free,λb o e hx=>?_,I.base.tups,I.base.frzs,I.base.tbls⟩,⟨_,hn',λj y v' e1 e2 e3=>?_⟩,λy c e=>?_,I.free,I.freeC,λp hp=>?_,tracked,by simpa using I.len⟩
 ·exact(hs.2 b (AAH (AAQ (AAD e) I.ok.above))).trans (I.base.keep b o e n hb hx)
 ·obtain⟨sl,e1⟩:=I.base.slot b o e n hb hx
  exact⟨sl,(hs.2 b (AAH (AAQ (AAD e) I.ok.above))).trans e1⟩
 ·obtain⟨o',e1⟩:=I.base.there b o e hx
  exact⟨o',(hs.2 b (AAH (AAQ (AAD e) I.ok.above))).trans e1⟩
 ·by_cases hj:j=i
  ·subst hj
   rw[AAn hiσ]at e2
   cases e2
  ·rw[AAf (ABG hj)]at e2
   obtain⟨u',r',q⟩:=hl j y v' e1 e2 e3
   refine⟨u',r',?_⟩
   rcases q with⟨k,e⟩|⟨k,c,e,z⟩
   ·refine .inl ⟨k,?_⟩
    have:y≠x:=λe=>hj (jM hN e1 (e ▸ hi))
    simp[this,e]
   ·exact .inr ⟨k,c,e,z.sameBut hs (cne y c e)⟩
 ·obtain⟨w',z⟩:=I.cell y c e
  exact⟨w',z.sameBut hs (cne y c e)⟩
 ·obtain⟨e,n,ne,nf,d⟩:=I.pin p hp
  exact⟨(hs.2 p.1 ne).trans e,n,ne,nf,d⟩
noncomputable abbrev Cx.held(X:Cx)(a:Addr):Cx:={ X with A:=X.A.mark (some (.ref a)),calm:=false,xe:=λ_ _=>False }
theorem Inv.held(I:Inv X pins σ H s)(a:Addr):Inv (X.held a) pins σ H s :=
 ⟨⟨I.ok.mod,I.ok.kind,I.ok.glob,I.ok.blt,I.ok.above,I.ok.inj,I.ok.has,I.ok.cab,(λz=>Bool.noConfusion z),I.ok.frames,I.ok.stk,I.ok.exf,I.ok.bs,I.ok.bsz,I.ok.noex,I.ok.exfs,I.ok.funs,I.ok.frf⟩,I.os,I.bare,I.base,I.loc,I.cell,I.free,I.freeC,I.pin,I.hok,I.len⟩
theorem Inv.unheld(ok:X.Ok)(I:Inv (X.held a) pins σ H s):Inv X pins σ H s:=⟨ok,I.os,I.bare,I.base,I.loc,I.cell,I.free,I.freeC,I.pin,I.hok,I.len⟩
theorem wo{dx:Option Addr}{H1:Hp}{s':Shared}{a C C':Addr}{i:Nat}{n y:Str}{np pos:Pos}{b₀:Stmt}{suite:List Stmt}{aP:List ExceptHandler}{D:Ends}{tS:TS}{E:Value->Shared->Prop}(I:Inv X pins σ H s)(d:DefX X)(ho:s'.os=s.os)(hb:AllBare s'.gens)
  (F:Fly X.prog X.w X.stack H s.heap a (.ref C) dx H1 s'.heap) (hN:X.N.Nodup) (hi:X.N[i]?=some n) (hk:X.env.scope.names.lookup n=some .local) (hy:X.mg y=some (.ref C')) (hm:AEX X.K (.ref C) (.ref C')=some true)
  (hs:PSs (X.held a) (b₀::suite) tS) (q:∀oe,IsX oe (.ref C)->oe.dict=dx->tS ⟨λσ' H'=>D.nx (σ'.set i none) H',λ_ _=>False,λ_ _=>False,λ_ _=>False⟩ (σ.set i (some (.ref a))) (upd H1 a (.frz oe (.own a))))
  (hg:Gl X y:=by rfl) (hdb:(y==("__debug__":Str))=false:=by decide) :
  wpAny (model X.prog X.w) X.A (noteFrame (.ref a) X.env) (λ_ s₂=>wpAny (model X.prog X.w) X.A (setFlight (.ref a) none) (λ_ s₃ =>
   wpAny (model X.prog X.w) X.A (handleBy (.ref a) X.env (.ExceptHandler (some (.Name y np)) (some n) (b₀::suite) pos::aP)) (SP X pins D) E s₃) E s₂) E s':=by
 obtain⟨B,oe,ix,dk,fly,un,hok,old,trk⟩:=F
 have hfr:X.A.frames=some (X.env::X.outer):=d.stk ▸ I.ok.frames
 have fly0:TrX s'.heap B (X.env::X.outer) a oe .none:=d.stk ▸ fly
 refine yS hfr d.fr fly0 λh₄ held₄ up₄=>?_
 refine lV held₄ λh₅ fly₅ up₅=>?_
 have un5:=mV un old fly.ff fly₅.st λb o e nf=>by
  obtain⟨sl,e1⟩:=up₄ b o e nf
  obtain⟨sl',e2⟩:=up₅ b _ e1 nf
  exact⟨sl',e2⟩
 have hok5:=dz hok trk fly.st fly₅.st
 have I5:Inv X pins σ H1 { s' with heap:=h₅ }:=I.call' (ch:=[]) ho un5 hok5 hb λb z=>absurd z lJ
 obtain⟨ob,hob,hobc,_⟩:=fly₅.is ix
 refine wpAny_handleBy_cons (codeAny_handlers_test (fi (X:=X.held a) (I5.held a) hg hy ?_ hdb)) (by intro q;cases q)
 have LT:PySem.W.Looks (model X.prog X.w) h₅ (typeOf (.ref a)) (.ref C):=hobc ▸ (PySem.W.Looks.ld hob).andThen .now
 refine(PySem.W.exm_one I5.kIn LT hm).at ?_
 refine codeAny_handlers_suite_as (lV fly₅ λh₆ fly₆ up₆=>?_)
 have un6:=mV un5 old (d.stk ▸ fly₅.ff) fly₆.st up₆
 have hok6:=dz hok5 trk fly₅.st fly₆.st
 obtain⟨oe,ix,dk',un7,hok7⟩:=Fly.track un6 hok6 old trk (d.stk ▸ fly₆) ix
 have I7:Inv X pins σ (upd H1 a (.frz oe (.own a))) { s' with heap:=h₆ }:=I.call' (ch:=[]) ho un7 hok7 hb λb z=>absurd z lJ
 refine fZ (v:=.ref a) I7 hN hi (.inl hk) rfl (λs8 I8=>?_) (.inr hk)
 refine AAl (hs pins s8 _ _ _ (I8.held a) (q oe ix (dk'.trans dk))) (λf s9 h9=>?_) λ_ _ z=>z.elim
 cases f with
 | next =>
  obtain⟨σ',H',J,k⟩:=h9
  have J':=J.unheld I.ok
  refine AA0 (wpAny_bindName (fZ (v:=.non) (u:=.none) J' hN hi (.inl hk) rfl (λs10 I10=>?_) (.inr hk)))
  have hl:i<σ'.length:=by rw[J'.len];exact(AA5.mp hi).1
  refine wpAny_onRaise (sv (v:=.non) I10 hN hi hk (AAn hl) λs11 I11=>?_)
  rw[List.set_set]at I11
  exact⟨_,_,I11,k⟩
 | ret u=>obtain⟨_,_,_,_,_,z⟩:=h9;exact z.elim
 | brk=>obtain⟨_,_,_,z⟩:=h9;exact z.elim
 | cont=>obtain⟨_,_,_,z⟩:=h9;exact z.elim
noncomputable def qp(K:AA1)(C fI:Addr)(bmB:List Value)(newId:String):Bool:=match K.lookup C with
 | some ⟨.type "type",_,.cls cd,sl⟩=>(match cd.mro,sl.toList with
  | .ref C'::bm,[_,_,_,_,some (.builtin n),_]=>C'==C&&n==newId && !cd.hasDel&&PySem.W.tailIn K bmB bm&&PySem.W.nsOkIn K cd.ns&&ABA K cd.ns "__init__" == some (some (.ref fI))&&cd.hasDict
  | _,_=>false)
 | _=>false
theorem AB{K:AA1}{h:Heap}{N:Addr}{mg:Str->Option Value}{n:Str}{v:Value}(X:K.In h)(G:h.Ns N mg)(e:ABA K N n=some (some v)):mg n=some v:=by
 obtain⟨o,es,ep,ho,hd,_,hf⟩:=G
 unfold ABA at e
 split at e
 ·rename_i c d es' n' sl q
  have:=X _ _ q
  rw[ho]at this
  cases this
  cases hd
  split at e
  ·rename_i y he
   cases e
   rw[<-hf]
   unfold nsFind findBy
   rw[<-Array.find?_toList,he]
   rfl
  ·split at e<;>cases e
 ·cases e
theorem jI{K:AA1}{h:Heap}{C fI:Addr}{bmB:List Value}{newId:String}(X:K.In h)(q:qp K C fI bmB newId=true) :
  ∃bm N nm qn bs sn sub ab col dd k0 k1 k2 k3 k5 mN,h.get? C=some (excClassObj nm qn C N bs bm true sn sub ab col dd k0 k1 k2 k3 k5 newId)/\h.Ns N mN/\mN "__init__" = some (.ref fI)/\OwnTail h bmB bm:=by
 unfold qp at q
 split at q<;>try cases q
 rename_i dct cl sl at_C
 split at q<;>try cases q
 rename_i D bm s0 s1 s2 s3 nw s5 eM eS
 rw[AAK,AAK,AAK,AAK,AAK,AAK,beq_iff_eq,beq_iff_eq,beq_iff_eq,AD6]at q
 obtain⟨⟨⟨⟨⟨⟨eD,eN⟩,nodel⟩,tl⟩,nsok⟩,ini⟩,hasd⟩:=q
 have isn:=Heap.Ns.of_isNs (PySem.W.isNs_of_in X nsok)
 have eo:(⟨.type "type",dct,.cls cl,sl⟩:Obj)=excClassObj cl.name cl.qualname C cl.ns cl.bases bm true cl.slotNames cl.subclasses cl.abstract cl.collection dct s0 s1 s2 s3 s5 newId:=by
  obtain⟨l⟩:=sl
  cases cl
  cases eD
  cases eN
  cases nodel
  cases hasd
  cases eM
  cases (show l=_ from eS)
  rfl
 exact⟨bm,cl.ns,_,_,_,_,_,_,_,dct,s0,s1,s2,s3,s5,_,eo ▸ X _ _ at_C,isn,AB X isn ini,PySem.W.tail_of_in X tl⟩
section
variable{prog:Program}{w:World}{A:Around}{E:Value->Shared->Prop}{h:Heap}{g:Array GenState}{d:Drawn}{t:Nat}{os:OsState}
variable{nm q:Str}{C N:Addr}{bs bm bmB:List Value}{hdct:Bool}{sn:List Str}{sub:List Value}{ab:Bool}{col:Option Bool}{dd:Option Addr}{k0 k1 k2 k3 k5:Option Value}{B Bn newId nid initId inN:String}{bmN:List Value}
noncomputable abbrev newT(vs:List Value):Obj:={ cls:=.type "tuple",data:=.seq vs.toArray }
noncomputable abbrev newX(c a:Addr):Obj:={ cls:=.ref c,data:=.fields #[.ref a,.none,.none,.none,.bool false,.none] }
noncomputable abbrev Eb(k:Heap)(c:Addr)(vs:List Value):Heap:=(k.push (newT vs)).push (newX c k.objs.size)
theorem eK(e:k.get? b=some o):(Eb k c vs).get? b=some o:=AA4 _ (AA4 _ e)
theorem qf:(Eb k c vs).get? (k.objs.size+1)=some (newX c k.objs.size):=by heap_get
theorem uv:ACm k (Eb k c vs) (k.objs.size+1) (.ref c) vs :=
 ⟨λ_ _=>eK,AE7 (ADo _),k.objs.size,qf,AE7 (AAB _),by heap_get⟩
theorem iG(Fn:ExcBaseFacts Bn newId inN bmN)(hBn:bmB.contains (.type Bn)=true)(F:ExcBaseFacts B nid initId bmB)(T:OwnTail h bmB bm){mN:Str->Option Value}{vs:List Value}{fI:Addr}{oI:Obj}{Q:Fin->Shared->Prop}
  (hC:h.get? C=some (excClassObj nm q C N bs bm hdct sn sub ab col dd k0 k1 k2 k3 k5 newId)) (hn:h.Ns N mN) (hi:mN "__init__" = some (.ref fI)) (hfI:h.get? fI=some oI) (hfc:oI.cls=.type "function")
  (hq:∀h' e,ACm h h' e (.ref C) vs->h.objs.size<=e->wpAny (model prog w) A (call (.ref fI) (.ref e::vs)) (λr s'=>r=.none/\Q (.done (.ret (.ref e))) s') E ⟨h',g,d,t,os⟩) (hv:vs.length<=sizeLine) :
  wpAny (model prog w) A (Builtin.«type.__call__» ⟨.ref C::vs,[]⟩) Q E ⟨h,g,d,t,os⟩:=by
 have cN:=eK (c:=C) (vs:=vs) hC
 have nN:(Eb h C vs).Ns N mN:=by obtain⟨o,es,ep,e,r⟩:=hn;exact⟨o,es,ep,eK e,r⟩
 have own:(AAZ C::bm).contains (.ref C)=true:=by rw[ADa,beq_self_eq_true,Bool.true_or]
 repeat (first | wp_step | with_reducible refine wpAny_madeBy_exc hC ?_ | with_reducible refine ABj hC ?_)
 refine codeAny_call_builtin_code (ADb _ Fn.quiet) (wpAny_check_new_subU Fn hBn T hC (codeAny_exc_new_subU Fn hBn F T hC ?_ hv))
 show wpAny _ _ _ _ _ ⟨Eb h C vs,g,d,t,os⟩
 unfold isInstance
 repeat (first | wp_step | with_reducible refine ABj qf ?_ | (with_reducible refine wpAny_isSubtype_exc cN ?_;rw[own]))
 refine wpAny_typeLookup_tail cN nN (T.keeps λ_ _=>eK) F.mroIs F.init.lookup ?_
 rw[hi]
 unfold bindSpecial
 refine AAW (AA0 (AA0 (ACx (T:="function") ⟨oI,eK hfI,hfc⟩ ?_)))
 rw[if_pos (by decide)]
 refine AA3 (AA0 (AAl (hq _ _ uv (ADo _)) (λr s' ⟨hr,hQ⟩=>?_) λ_ _ x=>x))
 subst hr
 wp_walk
 exact hQ
theorem wt(Fn:ExcBaseFacts Bn newId inN bmN)(hBn:bmB.contains (.type Bn)=true)(F:ExcBaseFacts B nid initId bmB)(T:OwnTail h bmB bm){mN:Str->Option Value}{aP:List Value}{fI:Addr}{oI:Obj}{Q:Value->Shared->Prop}
  (hC:h.get? C=some (excClassObj nm q C N bs bm hdct sn sub ab col dd k0 k1 k2 k3 k5 newId)) (hn:h.Ns N mN) (hi:mN "__init__" = some (.ref fI)) (hfI:h.get? fI=some oI) (hfc:oI.cls=.type "function")
  (hq:∀h' e,ACm h h' e (.ref C) aP->h.objs.size<=e ->
   wpAny (model prog w) (A.under (.builtin "type.__call__" ⟨.ref C::aP,[]⟩)) (call (.ref fI) (.ref e::aP)) (λr s'=>r=.none/\Q (.ref e) s') E ⟨h',g,d,t,os⟩) (hrest:aP.length<=sizeLine) :
  wpAny (model prog w) A (call (.ref C) aP) Q E ⟨h,g,d,t,os⟩:=by
 have f1:=tc_lookup
 have f2:=tc_bind (.ref C)
 have hT:(⟨h,g,d,t,os⟩:Shared).TypeIs (.ref C) "type":=⟨_,hC,rfl⟩
 refine AEC (codeAny_of_tree ?_)
 show wpAny _ _ (callAny (.ref C) _) _ _ _
 repeat (any_goals (first | assumption | with_reducible refine ABj hC ?_ | wp_step))
 refine⟨rfl,?_⟩
 refine codeAny_call_builtin_at (ADb _ (by decide +kernel)) entry_typeCall (wpAny_check_type_call_sub hC (iG (hv:=hrest) Fn hBn F T hC hn hi hfI hfc λh' e hm hz=>?_))
 exact hq h' e hm hz
theorem qU(hbase:bm.contains (.type "BaseException")=true)(hh:A.handled=none)
  (h:wpAny M A x (λv s₁=>∃e o,v=.ref e/\s₁.heap.get? C=some (excClassObj nm q C N bs bm hdct sn sub ab col dd k0 k1 k2 k3 k5 newId)/\s₁.heap.get? e=some o/\o.cls=.ref C/\(∃t,o.data=.fields #[.ref t,.none,.none,.none,.bool false,.none])/\E (.ref e) s₁) E s) :
  wpAny M A (raiseStmt env (some x) none) Q E s:=by
 have hcB:(AAZ C::bm).contains (.type "BaseException")=true:=by rw[ADa,hbase,Bool.or_true]
 unfold raiseStmt
 refine AA0 (AAl h (λv s₁ h₁=>?_) λ_ _ x=>x)
 obtain⟨e,o,rfl,hC,he,hc,⟨vs,hd⟩,hE⟩:=h₁
 obtain⟨h1,g1,d1,t1,os1⟩:=s₁
 obtain⟨oc,odc,od,osl⟩:=o
 cases hc
 cases hd
 repeat (first | with_reducible refine ABj he ?_ | with_reducible refine ABj hC ?_ | (with_reducible refine wpAny_isSubtype_exc hC ?_;rw[hcB]) | wp_step)
 exact wpAny_raiseNew_none hh hE
theorem gW{s:Shared}{env:Env}(Fn:ExcBaseFacts Bn newId inN bmN)(hBn:bmB.contains (.type Bn)=true)(F:ExcBaseFacts B nid initId bmB){mN:Str->Option Value}{x:Str}{np cpos pos:Pos}{args:List Expr}{fI:Addr}{Q:Flow->Shared->Prop}
  (hbase:bm.contains (.type "BaseException")=true) (hh:A.handled=none) (hplain:(backTo cpos (starEach args env)).any (·.1)=false) (hi:mN "__init__" = some (.ref fI))
  (h:wpAny (model prog w) A (eval (.Name x np) env) (λf s₁=>f=.ref C/\wpAny (model prog w) A (evalArgs (.ref C) true (backTo cpos (starEach args env)) [])
   (λa s₂=>a.kw=[]/\a.pos.length<=sizeLine/\s₂.heap.get? C=some (excClassObj nm q C N bs bm hdct sn sub ab col dd k0 k1 k2 k3 k5 newId)/\s₂.heap.Ns N mN/\OwnTail s₂.heap bmB bm/\(∃oI,s₂.heap.get? fI=some oI/\oI.cls=.type "function") /\
    ∀h' e,ACm s₂.heap h' e (.ref C) a.pos->s₂.heap.objs.size<=e->wpAny (model prog w) (A.under (.builtin "type.__call__" ⟨.ref C::a.pos,[]⟩)) (call (.ref fI) (.ref e::a.pos)) (λr s'=>r=.none /\
     s'.heap.get? C=some (excClassObj nm q C N bs bm hdct sn sub ab col dd k0 k1 k2 k3 k5 newId)/\(∃o,s'.heap.get? e=some o/\o.cls=.ref C/\∃t,o.data=.fields #[.ref t,.none,.none,.none,.bool false,.none])/\E (.ref e) s') E { s₂ with heap:=h' }) E s₁) E s) :
  wpAny (model prog w) A (exec (.Raise (some (.Call (.Name x np) args [] cpos)) none pos) env) Q E s:=by
 rw[arm_exec_Raise]
 simp only[evalOpt,Option.map]
 refine AA0 (ADS (qU (C:=C) (nm:=nm) (q:=q) (N:=N) (bs:=bs) (bm:=bm) (hdct:=hdct) (sn:=sn) (sub:=sub) (ab:=ab) (col:=col) (dd:=dd) (k0:=k0) (k1:=k1) (k2:=k2) (k3:=k3) (k5:=k5) (newId:=newId) hbase hh ?_))
 refine AA0 (AAl (wpAny_Call_ofName (AAl h (λf s₁ h₁=>?_) λ_ _ x=>x)) (λv s₃ h₃=>AA0 (ADS (AA3 h₃))) λ_ _ x=>x)
 obtain⟨rfl,h₁⟩:=h₁
 unfold callWith
 refine AA0 (AAW (AAl h₁ (λa s₂ h₂=>AA0 (ADS ?_)) λ_ _ x=>x))
 obtain⟨apos,akw⟩:=a
 obtain⟨hkw,hlen,hC,hn,T,⟨oI,hfI,hfc⟩,h₂⟩:=h₂
 obtain rfl:akw=[]:=hkw
 obtain⟨hp,g,d,tk,os⟩:=s₂
 simp only[hplain]
 refine AA0 (wpAny_keeperOf_exc hC ?_)
 refine AA0 (wt (hrest:=hlen) Fn hBn F T hC hn hi hfI hfc λh' e hm hz=>AAl (h₂ h' e hm hz) (λr s' hr=>⟨hr.1,?_⟩) λ_ _ x=>x)
 obtain⟨_,hC',⟨o,ho,hc,hd⟩,hE⟩:=hr
 exact AA0 (AAW (wpAny_point (AA3 ⟨e,o,rfl,hC',ho,hc,hd,hE⟩)))
end
open PySem.Builtin PySem.Builtin.ObjectAttr
theorem nz(T:OwnTail h bmB tl):refuseLoop self what tl=refuseLoop self what bmB:=by
 induction T with
 | base=>rfl
 | own _ _ _ _ ih=>rw[refuseLoop_ref,ih]
section
variable{prog:Program}{w:World}{A:Around}{E:Value->Shared->Prop}{h:Heap}{g:Array GenState}{d:Drawn}{t:Nat}{os:OsState}
variable{nm q:Str}{C N x:Addr}{bs bm bmB:List Value}{sn:List Str}{sub:List Value}{ab:Bool}{col:Option Bool}{dd:Option Addr}{k0 k1 k2 k3 k5:Option Value}{B newId sa owner:String}
 {mN mA:Str->Option Value}{name:Str}{v:Value}{K:AA1}
structure Stored(h h':Heap)(x:Addr):Prop where
 keeps:∀b o,b≠x->(∀o₀ dx,h.get? x=some o₀->o₀.dict=some dx->b≠dx)->h.get? b=some o->h'.get? b=some o
 same:∀o₀,h.get? x=some o₀->∃o₁,h'.get? x=some o₁/\o₁.cls=o₀.cls/\o₁.data=o₀.data/\o₁.slots=o₀.slots/\∀dx,o₀.dict=some dx->o₁.dict=some dx
 new:∀o₀ o₁,h.get? x=some o₀->o₀.dict=none->h'.get? x=some o₁->o₁.dict=some h.objs.size
theorem wj(SF:StoreFacts B bmB sa owner)(T:OwnTail h bmB bm)
  (hC:h.get? C=some (excClassObj nm q C N bs bm true sn sub ab col dd k0 k1 k2 k3 k5 newId)) (hx:h.get? x=some o) (hc:o.cls=.ref C) (hq:Q () ⟨h,g,d,t,os⟩) :
  wpAny M A (checkBuiltinCall sa ⟨[.ref x,nameV,v],[]⟩) Q E ⟨h,g,d,t,os⟩:=by
 have hcB:(AAZ C::bm).contains (.type owner)=true:=by rw[ADa,T.hasType SF.hasOwner,Bool.or_true]
 have ha:=SF.args (.ref x) nameV v
 simp only[checkBuiltinCall,SF.kind,SF.split]
 refine AA0 ?_
 ·unfold isInstance
  repeat (first | (with_reducible refine ABj hx ?_;rw[hc]) | (with_reducible refine wpAny_isSubtype_exc hC ?_;rw[hcB]) | wp_step)
  cases hsig:Manifest.signature? sa with
  | none=>exact AA3 hq
  | some sig =>
   simp only[argsOk,hsig]at ha
   have h2:Bind.checkArgs sa sig ⟨[.ref x,nameV,v],[]⟩=pure ():=ha
   show wpAny M A (Bind.checkArgs sa sig ⟨[.ref x,nameV,v],[]⟩) Q E _
   rw[h2];exact AA3 hq
theorem jh(n:s.heap.Ns1 dx mA)(wi:Within mA ns)(hz:ns.length<=1000)
  (k:∀h',h'.Ns1 dx (λy=>if y=name then some v else mA y)->AB9 dx s.heap h'->Q (.done (.ret .none)) { s with heap:=h',toks:=s.toks+1 }):wpAny M A (storeInDict dx (.str name tk) name v) Q E s:=by
 unfold storeInDict newKeyGuard
 refine AA0 (AA3 (AA0 (wpAny_nsSet1 n λh' m sb=>?_)))
 obtain⟨od,es,ep,e,ed,l⟩:=m.count (Within.cons name v wi)
 refine AA0 (wpAny_lookBehind e (by rw[ed];refine pastItsLine_dict (AAh l ?_);rw[AAG,ABQ];lia) ?_)
 exact AA3 (k h' m sb)
noncomputable def gotH(h:Heap)(x:Addr):Heap:=(h.push PySem.W.emptyDict).update x λo=>{ o with dict:=some h.objs.size }
theorem EW(hx:h.get? x=some o)(nc:∀c,o.data≠.cls c):(gotH h x).get? x=some { o with dict:=some h.objs.size }/\(gotH h x).get? h.objs.size=some PySem.W.emptyDict/\∀b u,b≠x->h.get? b=some u->(gotH h x).get? b=some u:=by
 have ne:x≠h.objs.size:=AAH (AAD hx)
 refine⟨AAd _ (AA4 _ hx) ?_,(ABK _ _ _ _ ne.symm).trans (AAE h rfl),λb u hb e=>(ABK _ _ _ _ hb).trans (AA4 _ e)⟩
 have fr:=(Heap.get?_some_iff.mp hx).2
 obtain⟨oc,od,odt,osl⟩:=o
 cases odt<;>first | rfl | exact fr
theorem kZ(SF:StoreFacts B bmB sa owner)(T:OwnTail h bmB bm)(X:K.In h)
  (hC:h.get? C=some (excClassObj nm q C N bs bm true sn sub ab col dd k0 k1 k2 k3 k5 newId)) (hna:AAi K (.ref C) name=some none) (I:h.Inst x C mA)
  (hq:∀h' tk',h'.Inst x C (λy=>if y=name then some v else mA y)->Stored h h' x->Q (.done (.ret .none)) ⟨h',g,d,tk',os⟩) (hw:Within mA ns) (hsz:ns.length<=1000) :
  wpAny (model prog w) A (Builtin.«object.__setattr__» ⟨[.ref x,.str name tk,v],[]⟩) Q E ⟨h,g,d,t,os⟩:=by
 have L:=PySem.W.looks_findIn (M:=model prog w) X hna
 obtain⟨o,hx,hc,nc,hd⟩:=I
 have L0:PySem.W.Looks (model prog w) h (typeOf (.ref x)) (.ref C):=hc ▸ (PySem.W.Looks.ld hx).andThen .now
 rw[PySem.W.osa_eq,refuse_eq]
 refine AA0 (AA0 (L0.at (AA0 (wpAny_mroOf_exc hC ?_))))
 rw[refuseLoop_ref,nz T,SF.passes]
 refine AA3 (AA0 (L0.at (AA0 (L.at (AA0 (AA3 ?_))))))
 show wpAny _ _ (ownStreamTells (.ref x) (.ref C) >>= _) _ _ _
 refine AA0 (AA3 ?_)
 rw[if_neg (show ¬(AAZ C==ACk "module")=true from λz=>by cases z)]
 refine AA0 ?_
 show wpAny _ _ (instanceDict x true) _ _ _
 unfold instanceDict
 repeat (first | (with_reducible refine ABj hx ?_;rw[hc]) | (with_reducible refine ABj hC ?_) | wp_step)
 rcases hd with⟨hdn,hm⟩|⟨dx,hdx,ne,n⟩
 ·obtain rfl:mA=λ_=>none:=funext hm
  obtain⟨g1,g2,g3⟩:=EW hx nc
  have ne:x≠h.objs.size:=AAH (AAD hx)
  rw[hdn]
  show wpAny _ _ (if (!true || !typeHasDict (.ref C))=true then _ else _) _ _ _
  rw[if_neg (by simp[typeHasDict])]
  split
  ·rename_i c z;exact absurd z (nc c)
  ·refine AA0 (wpAny_alloc' (AA0 (wpAny_update' (AA4 _ hx) (AA3 ?_))))
   refine jh (s:=⟨gotH h x,g,d,t,os⟩) (Heap.Ns1.of_empty ⟨_,#[],_,g2,rfl,λe he=>absurd he (by simp),λ_=>rfl⟩) hw hsz λh' m sb=>hq h' _ ⟨_,(sb.2 x ne).trans g1,hc,nc,.inr ⟨_,rfl,ne.symm,m⟩⟩ ⟨λb u hb _ e=>(sb.2 b (AAH (AAD e))).trans (g3 b u hb e),λo₀ h₀=>?_,λo₀ o₁ _ _ h₁=>?_⟩
   ·obtain rfl:=AAM (hx.symm.trans h₀)
    exact⟨_,(sb.2 x ne).trans g1,rfl,rfl,rfl,λdx e=>by rw[hdn]at e;cases e⟩
   ·rw[(sb.2 x ne).trans g1]at h₁
    cases h₁;rfl
 ·rw[hdx]
  refine AA3 (jh n hw hsz λh' m sb=>hq h' _ ⟨o,(sb.2 x ne.symm).trans hx,hc,nc,.inr ⟨dx,hdx,ne,m⟩⟩ ⟨λb u _ hb e=>(sb.2 b (hb o dx hx hdx)).trans e,λo₀ h₀=>⟨o₀,(sb.2 x ne.symm).trans h₀,rfl,rfl,rfl,λ_ e=>e⟩,λo₀ o₁ h₀ d₀ _=>?_⟩)
  obtain rfl:=AAM (hx.symm.trans h₀)
  rw[hdx]at d₀;cases d₀
theorem nq(SF:StoreFacts B bmB sa owner)(T:OwnTail h bmB bm)(X:K.In h)
  (hC:h.get? C=some (excClassObj nm q C N bs bm true sn sub ab col dd k0 k1 k2 k3 k5 newId)) (hna:AAi K (.ref C) name=some none) (I:h.Inst x C mA)
  (hq:∀h' tk',h'.Inst x C (λy=>if y=name then some v else mA y)->Stored h h' x->R (.ok (.ret .none)) ⟨h',g,d,tk',os⟩) (hw:Within mA ns) (hsz:ns.length<=1000) :
  codeAny (model prog w) A (.call (.builtin sa) ⟨[.ref x,.str name tk,v],[]⟩) R ⟨h,g,d,t,os⟩:=by
 obtain⟨o,hx,hc,_⟩:=id I
 exact ACQ SF.slot.plain SF.entry (wj SF T hC hx hc (kZ SF T X hC hna I hq hw hsz))
theorem mi(SF:StoreFacts B bmB "object.__setattr__" owner)(T:OwnTail h bmB bm)(X:K.In h)
  (hC:h.get? C=some (excClassObj nm q C N bs bm true sn sub ab col dd k0 k1 k2 k3 k5 newId)) (hsa:AAi K (.ref C) "__setattr__" = some (some (.builtin "object.__setattr__"))) (hna:AAi K (.ref C) name=some none) (I:h.Inst x C mA)
  (hq:∀h' tk',h'.Inst x C (λy=>if y=name then some v else mA y) ->
   Stored h h' x->Q () ⟨h',g,d,tk',os⟩) (hw:Within mA ns) (hsz:ns.length<=1000) :
  wpAny (model prog w) A (setAttr (.ref x) name v) Q E ⟨h,g,d,t,os⟩:=by
 obtain⟨o,hx,hc,hnc,hd⟩:=id I
 have no:AEY o=true:=by
  unfold AEY
  split
  ·rename_i c e;exact absurd e (hnc c)
  ·rfl
 have J:∃od,PySem.W.InstAt h x o C od:=by
  rcases hd with⟨hd,_⟩|⟨dx,hd,_,o',es,ep,e,_⟩
  ·exact⟨none,hx,hc,no,by rw[hd];trivial⟩
  ·exact⟨some o',hx,hc,no,by rw[hd];exact e⟩
 obtain⟨od,J⟩:=J
 refine PySem.W.set_plain X J hsa ?_
 exact nq (R:=λr s'=>match r with | .ok (.ret _)=>Q () s' | .ok _=>False | .error e=>E e s') SF T X hC hna I (λh' tk' I' st=>hq h' tk' I' st) hw hsz
end
end L2
namespace L2
open PySem PySem.Spec PyProof.Rows DL PySem.W
theorem BJ{prog:Program}{w:World}{A:Around}{E:Value->Shared->Prop}{s:Shared}{K:Frag}{x D:Addr}{ox:Obj}{od:Option Obj}{name:Str}{expr:Bool}{Q:Value->Shared->Prop}(X:K.In s.heap)(c:ExcK K D)(I:PySem.W.InstAt s.heap x ox D od)(hf:findObj K D od name=some (.value v))(hh:handedIn v=true)(h:Q v { s with toks:=s.toks+1 }):wpAny (model prog w) A (getAttr (.ref x) name expr) Q E s:=by
 obtain⟨hp,g,d,t,os⟩:=s
 have L0:=I.type (M:=model prog w)
 have L1:=looks_findIn (M:=model prog w) X c.ga
 have L2:=looks_findIn (M:=model prog w) X c.gt
 have L4:=looks_mroIn (M:=model prog w) X c.mb
 have L3:=looks_find (M:=model prog w) X I hf
 have ga:=F.excAttr_ValueError.ga
 have f3:=ga.bind (.ref x)
 have hx2:(AC3 "BaseException.__getattribute__" == AC3 "object.__getattribute__")=false:=by decide +kernel
 have hx1:(onTheHeap (AAZ D)&&AC3 "BaseException.__getattribute__" == AC3 "object.__getattribute__")=false:=by rw[hx2];rfl
 have hx0:(expr&&onTheHeap (AC3 "BaseException.__getattribute__"))=false:=by cases expr<;>rfl
 unfold getAttr getAttrBy
 refine AA0 (wpAny_mkText (AAW (AA0 (L0.at (AA0 (L1.at ?_))))))
 dsimp only
 rw[hx1]
 simp only[AAR,if_false]
 unfold getAttrByItsOwn hookBefore
 rw[if_pos (show onTheHeap (AAZ D)=true from rfl)]
 refine AA0 (L2.at ?_)
 unfold callGetattribute
 simp only[hx0,ADv,AAR,if_false]
 unfold boundAndCalled
 refine AA0 (AC4 (AAW (AA0 (AEK f3 ?_))))
 refine AEC (ACQ ga.plain F.entry_bexc_ga ?_)
 have hk:builtinKind "BaseException.__getattribute__" = some .slot:=by decide +kernel
 have hsplit:splitId "BaseException.__getattribute__" = some ("BaseException","__getattribute__"):=by decide +kernel
 have hargs:=F.args_bexc_ga (.ref x) (.str name t)
 simp only[checkBuiltinCall,hk,hsplit]
 have LI:Looks (model prog w) hp (isInstance (.ref x) (.type "BaseException")) true:=L0.andThen L4
 refine AA0 (LI.at ?_)
 repeat (first | with_reducible refine L0.at ?_ | with_reducible refine L3.at ?_ | wp_step)
 show wpAny _ _ (handedOut v) _ _ _
 rw[handedOut_of hh]
 exact AA3 h
end L2
namespace L2
open PySem PySem.Spec PyProof.Rows DL
def exE(a C:Addr)(od:Option Addr):Program->World->Heap->Prop:=λ_ _ h=>∃o t,h.get? a=some o/\o.cls=.ref C/\o.dict=od/\o.slots = #[]/\o.data=.fields #[.ref t,.none,.none,.none,.bool false,.none]
def dE(dx:Addr)(fs:List (Str×V)):Program->World->Heap->Prop:=λ_ _ h=>∃mA,h.Ns1 dx mA/\(∀f,wA (fs.lookup f) (mA f))/\Within mA (fs.map (·.1))
theorem zh(x:exE a C od P w h):aY P w H h a (.ext (exE a C od)):=by
 obtain⟨o,t,e,r⟩:=id x
 refine⟨x,⟨o,e⟩,?_⟩
 rintro h1 h2 ⟨o,t,e,r⟩ k
 exact⟨o,t,k o e,r⟩
theorem FD(x:dE dx fs P w h):aY P w H h dx (.ext (dE dx fs)):=by
 obtain⟨mA,⟨o,es,ep,e,r⟩,q⟩:=id x
 refine⟨x,⟨o,e⟩,?_⟩
 rintro h1 h2 ⟨mA,⟨o,es,ep,e,r⟩,q⟩ k
 exact⟨mA,⟨o,es,ep,k o e,r⟩,q⟩
structure XCls(K:AA1)(C fI:Addr):Prop where
 ok:qp K C fI vE "ValueError.__new__" = true
 sa:AAi K (.ref C) "__setattr__" = some (some (.builtin "object.__setattr__"))
theorem setx1(I:Inv X pins σ H s)(e:H a=some (.ext (exE a C none)))(c:XCls X.K C fI)(n:eT X.K C f)(ry:aR y u)
  (h:∀s' dx,H dx=none->dx≠a->Inv X pins σ (upd (upd H dx (.ext (dE dx [(f,y)]))) a (.ext (exE a C (some dx)))) s'->Q () s'):wpAny (model X.prog X.w) A (setAttr (.ref a) f u) Q E s:=by
 obtain⟨⟨o,t,ho,hc,hd,hsl,hdt⟩,_⟩:=I.hok a _ e
 obtain⟨tl,N,nm,qn,bs,sn,sub,ab,col,dd,k0,k1,k2,k3,k5,mN,hC,hN,hni,T⟩:=jI I.kIn c.ok
 obtain⟨hp,g,d,tk,os⟩:=s
 refine mi (ns:=[]) (mA:=λ_=>none) F.store_ValueError T I.kIn hC c.sa n ⟨o,ho,hc,(λz q=>by rw[hdt]at q;cases q),.inl ⟨hd,λ_=>rfl⟩⟩ (λh' tk' J st=>?_) Within.nil (by decide)
 obtain⟨o1,e1,c1,d1,s1,_⟩:=st.same o ho
 have n1:=st.new o o1 ho hd e1
 obtain⟨o2,e2,_,_,hd2⟩:=J
 obtain rfl:o1=o2:=AAM (e1.symm.trans e2)
 rcases hd2 with⟨z,_⟩|⟨dx,z,ne,od,es,ep,hod,hn⟩
 ·rw[n1]at z;cases z
 obtain rfl:hp.objs.size=dx:=AAM (n1.symm.trans z)
 have fo:=(Heap.get?_some_iff.mp hod).2
 have gm:(hp.push od).get? hp.objs.size=some od:=AAE hp fo
 have hne:hp.objs.size≠a:=ABR (AAD ho)
 have I1:=I.laid (a:=hp.objs.size) (o:=.ext (dE hp.objs.size [(f,y)])) (h':=hp.push od) (t':=tk) (λb u q=>AA4 _ q) (AAB _) (FD ⟨_,⟨od,es,ep,gm,hn⟩,λg=>?_,λg hg=>?_⟩)
 ·have I2:=I1.write (x:=a) (e:=a) (o:=.ext (exE a C (some hp.objs.size))) (h':=h') (t':=tk') (by rw[av (ABG hne),e];exact ACE) (.inl rfl) (λb ub hb q=>?_) ⟨o1,e1⟩ (zh ⟨o1,t,e1,c1.trans hc,n1,s1.trans hsl,d1.trans hdt⟩)
  ·exact h _ hp.objs.size (I.hok.fresh (AAB _)) hne I2
  ·by_cases hb2:b=hp.objs.size
   ·subst hb2
    rw[gm]at q
    cases q
    exact hod
   ·have q0:hp.get? b=some ub:=by rw[<-Heap.get?_push_ne hp b od hb2];exact q
    exact st.keeps b ub hb (λo₀ dx h₀ d₀=>by rw[ho]at h₀;cases h₀;rw[hd]at d₀;cases d₀) q0
 ·show wA (AC8 g [(f,y)]) (if g=f then some u else none)
  rw[AAv]
  by_cases q:g=f
  ·subst q;rw[beq_self_eq_true,if_pos rfl];exact ry
  ·rw[beq_eq_false_iff_ne.mpr q,if_neg q];exact ACE
 ·by_cases q:g=f
  ·subst q;simp
  ·exact absurd (show (if g=f then some u else none)=none by rw[if_neg q]) hg
theorem setx2(I:Inv X pins σ H s)(e:H a=some (.ext (exE a C (some dx))))(ed:H dx=some (.ext (dE dx fs)))(ne:dx≠a)(hl:fs.length<1000)(c:XCls X.K C fI)(n:eT X.K C f)(ry:aR y u)
  (h:∀s',Inv X pins σ (upd H dx (.ext (dE dx (pW f y fs)))) s'->Q () s'):wpAny (model X.prog X.w) A (setAttr (.ref a) f u) Q E s:=by
 obtain⟨⟨o,t,ho,hc,hd,hsl,hdt⟩,_⟩:=I.hok a _ e
 obtain⟨⟨mA,hm,r,wi⟩,_⟩:=I.hok dx _ ed
 obtain⟨tl,N,nm,qn,bs,sn,sub,ab,col,dd,k0,k1,k2,k3,k5,mN,hC,hN,hni,T⟩:=jI I.kIn c.ok
 obtain⟨hp,g,d,tk,os⟩:=s
 refine mi (ns:=fs.map (·.1)) (mA:=mA) F.store_ValueError T I.kIn hC c.sa n ⟨o,ho,hc,(λz q=>by rw[hdt]at q;cases q),.inr ⟨dx,hd,ne,hm⟩⟩ (λh' tk' J st=>?_) wi (by rw[AA6];lia)
 obtain⟨o1,e1,c1,d1,s1,k1⟩:=st.same o ho
 have n1:=k1 dx hd
 have eo:o1=o:=by
  obtain⟨_,_,_,_⟩:=o
  obtain⟨_,_,_,_⟩:=o1
  simp only at c1 d1 s1 n1 hd
  subst c1 d1 s1 hd
  rw[n1]
 subst eo
 obtain⟨o2,e2,_,_,hd2⟩:=J
 obtain rfl:o1=o2:=AAM (e1.symm.trans e2)
 rcases hd2 with⟨z,_⟩|⟨dx',z,_,hn⟩
 ·rw[n1]at z;cases z
 obtain rfl:dx=dx':=AAM (n1.symm.trans z)
 have hod:∃od,h'.get? dx=some od:=by obtain⟨od,_,_,e,_⟩:=hn;exact⟨od,e⟩
 refine h _ (I.write (x:=dx) (e:=dx) (o:=.ext (dE dx (pW f y fs))) (h':=h') (t':=tk') (by rw[ed];exact ACE) (.inl rfl) (λb ub hb q=>?_) hod (FD ⟨_,hn,λg=>?_,λg hg=>?_⟩))
 ·by_cases hb2:b=a
  ·subst hb2
   exact e1.trans (ho.symm.trans q)
  ·exact st.keeps b ub hb2 (λo₀ dx' h₀ d₀=>by rw[ho]at h₀;cases h₀;rw[hd]at d₀;cases d₀;exact hb) q
 ·rw[il]
  by_cases q:g=f
  ·rw[if_pos q,if_pos q];exact ry
  ·rw[if_neg q,if_neg q];exact r g
 ·by_cases q:g=f
  ·rw[q];exact(io f y fs).1
  ·refine(io f y fs).2 g (wi g λz=>hg ?_)
   show (if g=f then some u else mA g)=none
   rw[if_neg q];exact z
def sX1(K:AA1)(ta tv:TE)(f:Str):TS:=λD σ H=>tv σ H λy H1=>ta σ H1 λx H2=>∃a C fI,x=.ref a/\H2 a=some (.ext (exE a C none))/\XCls K C fI/\eT K C f/\∀dx,H2 dx=none->dx≠a->D.nx σ (upd (upd H2 dx (.ext (dE dx [(f,y)]))) a (.ext (exE a C (some dx))))
def sX2(K:AA1)(ta tv:TE)(f:Str):TS:=λD σ H=>tv σ H λy H1=>ta σ H1 λx H2=>∃a C fI dx fs,x=.ref a/\H2 a=some (.ext (exE a C (some dx)))/\H2 dx=some (.ext (dE dx fs))/\dx≠a/\fs.length<1000/\XCls K C fI/\eT K C f/\D.nx σ (upd H2 dx (.ext (dE dx (pW f y fs))))
theorem ps_x1(ha:PE X o ta)(hv:PE X value tv)(hs:swapsWith value (some (.Attribute o f pos')) pos.line X.env=pure false):PS X (.Assign [.Attribute o f pos'] value pos) (sX1 X.K ta tv f):=by
 intro pins s σ H D I h
 refine plainObj_wpAny_Assign_Attribute (thn (hv pins s σ H _ I h) λu s1 ⟨y,H1,I1,ry,q⟩=>thn (ha pins s1 σ H1 _ I1 q) ?_) hs
 rintro ov s2 ⟨x,H2,I2,rx,a,C,fI,ex,ea,c,n,q2⟩
 subst ex
 obtain rfl:ov=AAZ a:=rx
 exact setx1 I2 ea c n ry λs3 dx h1 h2 I3=>⟨σ,_,I3,q2 dx h1 h2⟩
theorem ps_x2(ha:PE X o ta)(hv:PE X value tv)(hs:swapsWith value (some (.Attribute o f pos')) pos.line X.env=pure false):PS X (.Assign [.Attribute o f pos'] value pos) (sX2 X.K ta tv f):=by
 intro pins s σ H D I h
 refine plainObj_wpAny_Assign_Attribute (thn (hv pins s σ H _ I h) λu s1 ⟨y,H1,I1,ry,q⟩=>thn (ha pins s1 σ H1 _ I1 q) ?_) hs
 rintro ov s2 ⟨x,H2,I2,rx,a,C,fI,dx,fs,ex,ea,ed,ne,l,c,n,q2⟩
 subst ex
 obtain rfl:ov=AAZ a:=rx
 exact setx2 I2 ea ed ne l c n ry λs3 I3=>⟨σ,_,I3,q2⟩
def spI(C:Addr)(n1 n2:Str):Sp:=λvs H Q _=>∃a v1 v2,vs=[.ref a,v1,v2]/\H a=some (.ext (exE a C none))/\∀dx H',H dx=none->dx≠a->H'=upd (upd (upd H dx (.ext (dE dx [(n1,v1)]))) a (.ext (exE a C (some dx)))) dx (.ext (dE dx [(n1,v1),(n2,v2)]))->Q .non H'
theorem Bu{P:Program}{w:World}{K:AA1}{mg:Str->Option Value}{base:Heap}{q:Str}{st:Stmt}{C f:Addr}{fd:FuncData}{k:Nat}{s0 x1 x2 n1 n2:Str}{p1 p2 p3 p4 p5 p6 p7 p8:Pos}(F:Fun K "__init__" q st f fd)(Sc:FnScope [s0,x1,x2] [s0,x1,x2] (ar st))
  (hb:aU st=[.Assign [.Attribute (.Name s0 p1) n1 p2] (.Name x1 p3) p4,.Assign [.Attribute (.Name s0 p5) n2 p6] (.Name x2 p7) p8]) (c:XCls K C f) (a1:eT K C n1) (a2:eT K C n2) (ne:n2≠n1)
  (d0:(s0==("__debug__":Str))=false) (d1:(x1==("__debug__":Str))=false) (d2:(x2==("__debug__":Str))=false) (e0:(s0==("__classdict__":Str))=false) (e1:(x1==("__classdict__":Str))=false) (e2:(x2==("__classdict__":Str))=false) :
  FnOk P w K mg base CX0 (k+1) f fd [s0,x1,x2] (spI C n1 n2):=by
 refine F.ok Sc (λvs H Q E ⟨a,v1,v2,e,_⟩=>by rw[e];rfl) ?_
 rintro cdv A outer s H vs Q E hr ⟨a,v1,v2,e,ea,h⟩
 subst e
 have vis:∀x∈[s0,x1,x2],Vis (ar st) x:=λx hx=>(Sc.par x hx).elim .inl λz=>.inr (.inl z)
 rw[hb]
 refine⟨_,pY (ps_x1 (jb (i:=0) rfl (vis s0 (by simp)) d0 e0) (jb (i:=1) rfl (vis x1 (by simp)) d1 e1) rfl) (tQ (ps_x2 (jb (i:=0) rfl (vis s0 (by simp)) d0 e0) (jb (i:=2) rfl (vis x2 (by simp)) d2 e2) rfl)),?_⟩
 refine⟨v1,rfl,.ref a,rfl,a,C,f,rfl,ea,c,a1,λdx h1 h2=>⟨v2,rfl,.ref a,rfl,a,C,f,dx,[(n1,v1)],rfl,aC,?_,h2,(show 1<1000 by decide),c,a2,h dx _ h1 h2 ?_⟩⟩
 ·rw[av h2];exact aC
 ·show _=upd _ dx (.ext (dE dx [(n1,v1),(n2,v2)]))
  rw[show pW n2 v2 [(n1,v1)]=[(n1,v1),(n2,v2)]from by show (if n1=n2 then _ else(n1,v1)::pW n2 v2 [])=_;rw[if_neg (ABG ne)];rfl]
noncomputable def vM(H:Hp)(e dx:Addr)(od:Obj):Hp:=λb=>if b=e then none else if b=dx then some (.frz od (.own dx))else H b
theorem rO(I:Inv X pins σ H1 s)(d:DefX X)(he:H1 e=some (.ext (exE e C (some dx))))(hdx:H1 dx=some (.ext (dE dx fs)))(ne:dx≠e)(s0:X.s₀.heap.get? e=none)
  (h:∀h'' od,s.heap.get? dx=some od->Fly X.prog X.w X.outer X.H₀ X.s₀.heap e (.ref C) (some dx) (vM H1 e dx od) h''->Q () { s with heap:=h'' }) :
  wpAny M X.A (leaving X.env (.ref e)) Q E' s:=by
 obtain⟨⟨o,t,ho,hc,hd,_,hdt⟩,_⟩:=I.hok e _ he
 obtain⟨_,⟨od,hod⟩,_⟩:=I.hok dx _ hdx
 have hfr:X.A.frames=some (X.env::X.outer):=d.stk ▸ I.ok.frames
 have ff:s.heap.FunFrames X.base (X.env::X.outer):=d.stk ▸ I.stack
 have hex:∀b:Addr,b∉X.ex:=λb z=>by rw[d.ex]at z;cases z
 have nfr:∀b u,H1 b=some u->b∉frs X.stack:=λb u q z=>by rw[I.stkFree b z]at q;cases q
 have get:∀{b o},s.heap.get? b=some o->b≠e->b∉frs X.stack->(ABI s.heap (e::frs X.stack)).get? b=some o:=λq h1 h2=>AED _ q λz=>(AAL.mp z).elim h1 h2
 have kb:∀b o,(ABI s.heap (e::frs X.stack)).get? b=some o->s.heap.get? b=some o:=λb o q=>ADR _ q
 have fH:∀b u,H1 b=some u->(∀φ,u≠.ext φ)->vM H1 e dx od b=some u:=λb u q n=>by
  show (if b=e then _ else if b=dx then _ else H1 b)=_
  rw[if_neg (λz'=>by rw[z',he]at q;cases q;exact n _ rfl),if_neg (λz'=>by rw[z',hdx]at q;cases q;exact n _ rfl)]
  exact q
 have hok2:HOk X.prog X.w (vM H1 e dx od) s.heap:=λb u q=>by
  unfold vM at q
  split at q
  ·cases q
  ·split at q
   ·rename_i hb
    cases q
    subst hb
    exact⟨hod,⟨od,hod⟩⟩
   ·exact(I.hok b u q).stay (λ_ _ _ z=>z) (λc z=>fH c _ z λ_ q=>by cases q) λc xs z=>fH c _ z λ_ q=>by cases q
 refine ql (base:=ABI s.heap (e::frs X.stack)) hfr d.fr (PySem.W.funFrames_hide ff λenv he b hb=>AA9 _ (by rw[d.stk];exact List.mem_filterMap.mpr ⟨env,he,hb⟩)) ho (λb o q=>kb b o q) (PySem.W.hideAll_none _ (AAO ..)) hdt rfl λh'' fly up=>h h'' od hod ?_
 have base':Un X.fs [] X.H₀ H1 X.s₀.heap s.heap:=d.ex ▸ I.base
 have trk:∀b u,vM H1 e dx od b=some u->∃o,(ABI s.heap (e::frs X.stack)).get? b=some o:=λb u q=>by
  obtain⟨o,ho⟩:=(hok2 b u q).there
  unfold vM at q
  split at q
  ·cases q
  ·rename_i hb
   refine⟨o,get ho hb ?_⟩
   split at q
   ·rename_i hb2;rw[hb2];exact nfr _ _ hdx
   ·exact nfr _ _ q
 have old:∀b o,X.s₀.heap.get? b=some o->b∉X.fs->∃o',(ABI s.heap (e::frs X.stack)).get? b=some o'/\(X.H₀ b=none->o'=o):=λb o q hb=>by
  have hbe:b≠e:=λz=>by rw[z,s0]at q;cases q
  have hb':b∉frs X.stack:=λz=>(d.frs.mp z).elim (λz=>I.nloc q z) hb
  obtain⟨o',q'⟩:=I.base.there b o q (hex b)
  refine⟨o',get q' hbe hb',λn=>?_⟩
  have:=I.base.keep b o q n hb (hex b)
  rw[q']at this
  exact AAM this
 have fr:∀b,b∈X.fs->∀o,s.heap.get? b=some o->∃sl,h''.get? b=some { o with slots:=sl }:=λb hb o q=>by
  obtain⟨_,o',e',nf⟩:=ff.mem (show b∈(X.env::X.outer).filterMap (·.frame)from d.stk ▸ d.frs.mpr (.inr hb))
  rw[q]at e'
  cases e'
  exact up b o q nf
 refine⟨_,o,⟨hc,_,hdt,rfl⟩,hd,fly,?_,dz hok2 trk (λb o q=>kb b o q) fly.st,old,trk⟩
 refine⟨λb o q n hb hx=>?_,λb o q n hb hx=>?_,λb o q n hx=>?_,λb o q hx=>?_,λb xs q=>fH b _ (base'.tups b xs q) (λ_ z=>by cases z),λb o u q=>fH b _ (base'.frzs b o u q) (λ_ z=>by cases z),λb ps q=>?_⟩
 ·obtain⟨o',e',z⟩:=old b o q hb
  rw[<-z n]
  exact fly.st b o' e'
 ·obtain⟨sl,e1⟩:=base'.slot b o q n hb hx
  obtain⟨sl',e2⟩:=fr b hb _ e1
  exact⟨sl',e2⟩
 ·have z:=base'.free b o q n hx
  show (if b=e then _ else if b=dx then _ else H1 b)=_
  split
  ·rfl
  ·split
   ·rename_i z';rw[z',hdx]at z;cases z
   ·exact z
 ·by_cases hb:b∈X.fs
  ·obtain⟨o',e1⟩:=base'.there b o q hx
   obtain⟨sl,e2⟩:=fr b hb _ e1
   exact⟨_,e2⟩
  ·obtain⟨o',e',_⟩:=old b o q hb
   exact⟨o',fly.st b o' e'⟩
 ·obtain⟨m,z⟩:=base'.tbls b ps q
  exact⟨m,fH b _ z (λ_ z=>by cases z)⟩
theorem Bt{P:Program}{w:World}{K:AA1}{mg:Str->Option Value}{base:Heap}{N:List Str}{qual:Str}{scope:Scope}{f:Addr}{cd:Value}{A:Around}{outer:List Env}{s:Shared}{H:Hp}{E:XK}(I:Inv (iE (CXe P w) P w K mg base N qual scope f cd A outer s H E) pins σ H1 s1)(s0:s.heap.get? e=none)(he:H1 e=some (.ext (exE e C (some dx))))(hdx:H1 dx=some (.ext (dE dx fs)))(ne:dx≠e)
  (q:∀od,s1.heap.get? dx=some od->E (.ref C) (some dx) (vM H1 e dx od)):(iE (CXe P w) P w K mg base N qual scope f cd A outer s H E).xe (.ref e) s1 :=
 rO I jU he hdx ne s0 λh'' od ho F'=>⟨e,.ref C,some dx,_,rfl,I.os,I.bare,F',q od ho⟩
theorem TrX.look(F:TrX s.heap base (env::outer) e o fl)(hf:env.frame=some L)(hfr:A.frames=some (env::outer))(h:∀h' fl',TrX h' base (env::outer) e o fl'->s.heap.UpToSlots h'->Q () { s with heap:=h' }):wpAny M A (noteFrame (.ref e) env) Q E s:=by
 obtain⟨T,oT,vs,ts,st,nw,ff,d,sz,at_,nT,ne,aT,dT,h3⟩:=id F
 have z3:=(ACD.mp h3).1
 unfold noteFrame
 simp only[hf]
 refine AA0 (ABZ at_ (dh d) (x:=.ref T) (by simp[sz]) ?_)
 rw[if_pos (show (AAZ T != ABB)=true from by simp)]
 refine AA0 (ABZ aT dT h3 ?_)
 by_cases q:(fl==rawInt L)=true
 ·rw[if_pos q]
  exact AA3 (h s.heap fl F λb o' hb _=>⟨o'.slots,hb⟩)
 ·rw[if_neg q]
  refine AA0 (AC7 aT dT z3 ?_)
  obtain⟨⟨T1,oT1,vs1,ts1,st1,_,ff1,d1,sz1,at1,_⟩,up⟩:=TrX.set (x:=.none) st nw ff d sz at_ nT ne aT dT z3
  exact vR hfr ff1 hf at1 st1 nw (dh d1) (by simp;exact sz1) λh' ⟨T2,oT2,vs2,ts2,st2,nw2,ff2,d2,sz2,at2,nT2,ne2,aT2,dT2,h32⟩ up2=>h h' _ ⟨T2,oT2,vs1,ts2,st2,nw2,ff2,d1,sz1,by rw[<-yF (T:=T1)];exact at2,nT2,ne2,aT2,dT2,h32⟩ (up.trans up2)
inductive FlyN(X:Cx)(E:XK)(a:Addr)(s':Shared):Prop
 | mk (C:Value) (dx:Option Addr) (H1:Hp) (B:Heap) (o:Obj) (fl:Value) (os:s'.os=X.s₀.os) (gb:AllBare s'.gens) (ix:IsX o C) (dk:o.dict=dx) (fly:TrX s'.heap B (X.env::X.outer) a o fl) (un:Un X.fs [] X.H₀ H1 X.s₀.heap s'.heap) (hok:HOk X.prog X.w H1 s'.heap)
  (old:∀b o,X.s₀.heap.get? b=some o->b∉X.fs->∃o',B.get? b=some o'/\(X.H₀ b=none->o'=o)) (trk:∀b u,H1 b=some u->∃o,B.get? b=some o) (q:E C dx H1)
theorem FlyN.leaves(d:DefX X)(hfr:X.A.frames=some (X.env::X.outer))(F:FlyN X E a s')
  (h:∀C dx H1 h'',s'.os=X.s₀.os->AllBare s'.gens->Fly X.prog X.w X.outer X.H₀ X.s₀.heap a C dx H1 h''->E C dx H1->Q () { s' with heap:=h'' }):wpAny M X.A (leaving X.env (.ref a)) Q E' s':=by
 obtain⟨C,dx,H1,B,o,fl,os,gb,ix,dk,fly,un,hok,old,trk,q⟩:=F
 unfold leaving
 refine AA0 (fly.look d.fr hfr λh1 fl1 F1 u1=>lV F1 λh2 F2 u2=>h C dx H1 h2 os gb ⟨B,o,ix,dk,F2.out,?_,dz hok trk fly.st F2.st,old,trk⟩ q)
 exact mV (stk:=X.outer) un old fly.out.ff F2.st (u1.trans u2)
theorem xk{P:Program}{w:World}{K:AA1}{mg:Str->Option Value}{base:Heap}{N:List Str}{qual:Str}{scope:Scope}{f:Addr}{cd:Value}{A:Around}{outer:List Env}{s:Shared}{H:Hp}{E:XK}(I:Inv (iE (CXe P w) P w K mg base N qual scope f cd A outer s H E) pins σ H1 s1)(F:FlyN (iE (CXe P w) P w K mg base N qual scope f cd A outer s H E) E a s') :
  (iE (CXe P w) P w K mg base N qual scope f cd A outer s H E).xe (.ref a) s' :=
 F.leaves jU I.ok.frames λC dx H1 h'' os gb F' q=>⟨a,C,dx,H1,rfl,os,gb,F',q⟩
abbrev DX:=Xn->Mem->Prop
abbrev DTX:=DX->DTS
abbrev DTEX:=DX->DTE
abbrev wF:=List D->Mem->DK->DX->Prop
inductive XQ(K:AA1)(ρ:List Addr)(H:Hp)(R:DX)(C:Value)(dx:Option Addr)(H':Hp):Prop
 | mk (x:Xn) (c:Addr) (M':Mem) (ρ':List Addr) (e:C=.ref c) (hx:ABA K mainGlobals x.nm=some (some (.ref c))) (xd:FM K H' dx x.fs) (s:Sim K ρ' M' H') (g:Grow K ρ H ρ' H') (q:R x M')
section
variable{K:AA1}{ρ ρ1:List Addr}{H H1 H':Hp}{R:DX}{C:Value}{dx:Option Addr}{M:Mem}
theorem XQ.trans(g:Grow K ρ H ρ1 H1)(h:XQ K ρ1 H1 R C dx H'):XQ K ρ H R C dx H':=by
 obtain⟨x,c,M',ρ',e,hx,xd,s,g',q⟩:=h
 exact⟨x,c,M',ρ',e,hx,xd,s,g.trans g',q⟩
def XEnd(M:Mem)(R:DX):DX:=λx M'=>R x M'\/∃M1,Chg M M1/\M1 <+: M'/\R x M1
theorem XQ.endq(s:Sim K ρ M H)(h:XQ K ρ H (XEnd M R) C dx H'):XQ K ρ H R C dx H':=by
 obtain⟨x,c,M',ρ',e,hx,xd,s',g',q'⟩:=h
 rcases q' with q | ⟨M1,cg,pre,q⟩
 ·exact⟨x,c,M',ρ',e,hx,xd,s',g',q⟩
 ·have hρ:ρ'.take M.length=ρ:=by rw[<-s.len];exact aZ g'.pre
  have sc:=s'.cut M.length λn mo hn e=>by
   have e':M1[n]?=some mo:=by
    obtain⟨t,rfl⟩:=pre
    rw[AAJ (by rw[cg.1];exact hn)]at e
    exact e
   exact(cg.2 n mo e').elim (λz=>s.bels z) id
  have tk:M'.take M.length=M1:=by rw[<-cg.1];exact aZ pre
  rw[hρ,tk]at sc
  exact⟨x,c,M1,ρ,e,hx,xd,sc,⟨ACA,g'.tup,g'.fr⟩,q⟩
end
inductive lowX(K:AA1)(E:XK)(t:DTX)(D:Ends)(σ:St)(H:Hp):Prop
 | mk (S:SD) (M:Mem) (ρ:List Addr) (F:DEnds) (R:DX) (s:Sim K ρ M H) (sr:SRep K ρ H S σ) (q:t R F S M) (k:Ups K ρ H F D) (x:∀C dx H',XQ K ρ H R C dx H'->E C dx H')
inductive lowXE(K:AA1)(E:XK)(t:DTEX)(σ:St)(H:Hp)(Q:VK):Prop
 | mk (S:SD) (M:Mem) (ρ:List Addr) (F:DK) (R:DX) (s:Sim K ρ M H) (sr:SRep K ρ H S σ) (q:t R S M F) (k:∀v H',VQ K ρ H F v H'->Q v H') (x:∀C dx H',XQ K ρ H R C dx H'->E C dx H')
structure XA(b:Bool)(X:Cx)(pins:List (Addr×Obj))(E:XK)(P:St->Prop)(Ex:Value->Shared->Prop):Prop where
 on:∀σ H1 s1 e s',P σ->Inv X pins σ H1 s1->CXe X.prog X.w X.stack H1 s1 E e s'->Ex e s'
 all:b=true->∀σ,P σ
 made:b=true->∀σ H1 s1 h' e C vs,Inv X pins σ H1 s1->ACm s1.heap h' e C vs->E C none H1->Ex (.ref e) { s1 with heap:=h' }
 init:b=true->∀σ H1 s1 e C dx fs,Inv X pins σ H1 s1->X.s₀.heap.get? e=none->H1 e=some (.ext (exE e C (some dx)))->H1 dx=some (.ext (dE dx fs))->dx≠e->(∀od,s1.heap.get? dx=some od->E (.ref C) (some dx) (vM H1 e dx od))->Ex (.ref e) s1
 noted:b=true->∀a s',FlyN X E a s'->Ex (.ref a) s'
structure HX(b:Bool)(X:Cx)(st:Stmt)(t:DTX):Prop where
 ok:∀(pins:List (Addr×Obj)) (s:Shared) (σ:St) (H:Hp) (D:Ends) (E:XK) (P:St->Prop) (Ex:Value->Shared->Prop),XA b X pins E P Ex->P σ->Inv X pins σ H s->lowX X.K E t D σ H->wpAny (model X.prog X.w) X.A (exec st X.env) (SP X pins D) Ex s
structure HXs(b:Bool)(X:Cx)(st:List Stmt)(t:DTX):Prop where
 ok:∀(pins:List (Addr×Obj)) (s:Shared) (σ:St) (H:Hp) (D:Ends) (E:XK) (P:St->Prop) (Ex:Value->Shared->Prop),XA b X pins E P Ex->P σ->Inv X pins σ H s->lowX X.K E t D σ H->wpAny (model X.prog X.w) X.A (execs st X.env) (SP X pins D) Ex s
structure HXE(b:Bool)(X:Cx)(e:Expr)(t:DTEX):Prop where
 ok:∀(pins:List (Addr×Obj)) (s:Shared) (σ:St) (H:Hp) (Q:VK) (E:XK) (P:St->Prop) (Ex:Value->Shared->Prop),XA b X pins E P Ex->P σ->Inv X pins σ H s->lowXE X.K E t σ H Q->wpAny (model X.prog X.w) X.A (eval e X.env) (EP X pins σ Q) Ex s
def xOf(t:DTS):DTX:=λ_=>t
def Cy(t u:DTX):DTX:=λR=>aI (t R) (u R)
def xIf(c:DTT)(t u:DTX):DTX:=λR=>dIf c (t R) (u R)
def wG(t:DTEX):DTX:=λR=>fU (t R)
def xCB(P:wF)(t:DTA):DTEX:=λR S M Q=>t S M λds M1=>P ds M1 Q R
theorem PA.nox(h:PA X.nox es t)(I:Inv X pins σ H s)(q:t σ H Q) :
  wpAny (model X.prog X.w) X.A (spliced (backTo pos (starEach es X.env))) (AP X pins σ Q) Ex s :=
 AAl (h pos pins s σ H Q (I.wish _) q) (λ_ _ ⟨v,H',I',r,z⟩=>⟨v,H',I'.unwish,r,z⟩) λ_ _ z=>ABN z
theorem Eh{b:Bool}{X:Cx}{st:Stmt}{t:DTS}(h:HS X.nox st t):HX b X st (xOf t):=by
 refine⟨ ?_⟩
 rintro pins s σ H D E P Ex A p I ⟨S,M,ρ,F,R,sm,sr,q,k,x⟩
 exact AAl (h.ok pins s σ H D (I.wish _) ⟨S,M,ρ,F,sm,sr,q,k⟩) (λ_ _ z=>z.unwish) λ_ _ z=>ABN z
theorem AT:HXs b X [] (xOf bo):=by
 refine⟨ ?_⟩
 rintro pins s σ H D E P Ex A p I ⟨S,M,ρ,F,R,sm,sr,q,k,x⟩
 exact ACs ⟨σ,H,I,k.nx σ H ⟨S,M,ρ,sm,.refl,sr,q⟩⟩
theorem uS{b:Bool}{X:Cx}{st:Stmt}{t:DTX}(h:HX b X st t):HXs b X [st] t:=⟨λpins s σ H D E P Ex A p I q=>by
 refine AE4 (thn (h.ok pins s σ H D E P Ex A p I q) λf s1 q=>?_)
 cases f with
 | next=>exact ACs q
 | ret v=>exact q
 | brk=>exact q
 | cont=>exact q⟩
theorem qm{X:Cx}{st:Stmt}{aP:List Stmt}{t u:DTX}(h1:HX true X st t)(h2:HXs true X aP u):HXs true X (st::aP) (Cy t u):=⟨λpins s σ H D E P Ex A p I ⟨S,M,ρ,F,R,sm,sr,q,k,x⟩=>by
 refine AE4 (thn (h1.ok pins s σ H { D with nx:=λσ' H'=>SQ X.K ρ H (λS' M'=>u R F S' M') σ' H' } E P Ex A p I ⟨S,M,ρ,_,R,sm,sr,q,⟨λ_ _ z=>z,k.rt,k.bk,k.ct⟩,x⟩) λf s1 z=>?_)
 cases f with
 | next =>
  obtain⟨σ',H',I',S',M',ρ',s',g',sr',q'⟩:=z
  exact h2.ok pins s1 σ' H' D E P Ex A (A.all rfl σ') I' ⟨S',M',ρ',F,R,s',sr',q',k.trans g',λC dx H2 w=>x C dx H2 (w.trans g')⟩
 | ret v=>exact z
 | brk=>exact z
 | cont=>exact z⟩
theorem Ei(hc:HT X.nox c tc)(ha:HXs b X a t)(hd:HXs b X d u):HX b X (.If c a d pos) (xIf tc t u):=⟨λpins s σ H D E P Ex A p I ⟨S,M,ρ,F,R,sm,sr,q,k,x⟩=>by
 refine wpAny_If (AAl (hc.ok pins s σ H _ (I.wish _) ⟨S,M,ρ,_,sm,sr,q,λ_ _ z=>z⟩) (λc s1 ⟨H1,I1,M1,ρ1,s1',g1,q1⟩=>?_) λ_ _ z=>ABN z)
 cases c with
 | true=>exact ha.ok pins s1 σ H1 D E P Ex A p I1.unwish ⟨S,M1,ρ1,F,R,s1',sr.grow g1,q1,k.trans g1,λC dx H2 w=>x C dx H2 (w.trans g1)⟩
 | false=>exact hd.ok pins s1 σ H1 D E P Ex A p I1.unwish ⟨S,M1,ρ1,F,R,s1',sr.grow g1,q1,k.trans g1,λC dx H2 w=>x C dx H2 (w.trans g1)⟩⟩
theorem uT(he:HXE b X e te)(hs:swapsWith e none pos.line X.env=pure false:=by kernel_rfl):HX b X (.Expr e pos) (wG te):=by
 refine⟨ ?_⟩
 rintro pins s σ H D E P Ex A p I ⟨S,M,ρ,F,R,sm,sr,q,k,x⟩
 exact wpAny_Expr_any (thn (he.ok pins s σ H _ E P Ex A p I ⟨S,M,ρ,_,R,sm,sr,q,λ_ _ z=>z,x⟩) λv s1 ⟨y,H1,I1,r1,d,M1,ρ1,s1',g1,r',q1⟩=>⟨σ,H1,I1,k.nx σ H1 ⟨S,M1,ρ1,s1',g1,sr.grow g1,q1⟩⟩) I.quiet hs
def spX(K:AA1)(P:wF):Sp:=λvs H Q E=>∃ds M ρ R RX,Sim K ρ M H/\Reps K ρ H ds vs/\P ds M R RX/\(∀v H',VQ K ρ H R v H'->Q v H')/\∀C dx H',XQ K ρ H RX C dx H'->E C dx H'
def yB(P:Program)(w:World)(K:AA1)(mg:Str->Option Value)(base:Heap)(k:Nat)(x:Str)(ps:List Str)(Pr:wF):Prop :=
 ∃f fd,FnOk P w K mg base (CXe P w) k f fd ps (spX K Pr)/\mg x=some (.ref f)/\ABk K (.ref f)=true/\fV K fd ps []
theorem yT(C:yB X.prog X.w X.K X.mg X.base j x ps P)(hr:Room k X.A)(ha:HA X.nox (e::es) t)(hj:Nat.ble j k=true:=by kernel_rfl)(hg:X.env.kindOf x=some .globalImplicit:=by kernel_rfl)
  (hdb:(x==("__debug__":Str))=false:=by kernel_rfl) (he:starEach (e::es) X.env=(false,eval e X.env)::starEach es X.env:=by kernel_rfl) (hpl:(backTo pos (starEach es X.env)).any (·.1)=false:=by kernel_rfl):HXE b X (.Call (.Name x p) (e::es) [] pos) (xCB P t):=⟨by
 rintro pins s σ H Q E Pσ Ex A pσ I ⟨S,M,ρ,F,R,sm,sr,q,k,xx⟩
 obtain⟨f,fd,Fk,hm,hk,hb⟩:=C
 refine ABu (fi I hg hm ?_ hdb)
 refine PySem.W.callWith_K (h₀:=X.base) I.ok.mod.kin hk (AAl (ha.ok.nox (Ex:=Ex) (pos:=pos) I ⟨S,M,ρ,_,sm,sr,q,λ_ _ z=>z⟩) (λus s1 z=>?_) λ_ _ z=>z) he hpl
 obtain⟨vs,H1,I1,r,ds,M1,ρ1,s1',g1,r1,q1⟩:=z
 refine⟨I1.kIn,?_⟩
 have hsp:spX X.K P (vs++[]) H1 Q E:=⟨ds,M1,ρ1,F,R,s1',by rw[AAq];exact r1,q1,λv H' w=>k v H' (VQ.trans g1 w),λC dx H' w=>xx C dx H' (w.trans g1)⟩
 have r2:ay (vs++[]) (us++[]):=by rw[AAq,AAq];exact r
 have hl:(us++[]).length=ps.length:=by rw[<-r2.length];exact Fk.len _ _ _ _ hsp
 refine AEC (ACu ((Fk.more (ACy hj)).run X.A X.stack s1 H1 ⟨us,[]⟩ (us++[]) (vs++[]) Q E hr I1.env0 (hb s1 us I1.kIn hl) r2 hsp) λr s' hq=>?_)
 cases r with
 | error e=>exact A.on σ H1 s1 e s' pσ I1 hq
 | ok fl =>
  cases fl with
  | ret u=>exact I1.after hq
  | next=>exact ABN hq
  | brk=>exact ABN hq
  | cont=>exact ABN hq⟩
abbrev LenX(Pr:wF)(ps:List Str):Prop:=∀ds M R RX,Pr ds M R RX->ds.length=ps.length
abbrev DerX(P:Program)(w:World)(K:AA1)(mg:Str->Option Value)(base:Heap)(k:Nat)(x:Str)(N:List Str)(st:Stmt)(t:DTX):Prop :=
 ∀(f:Addr) (cdv:Value) (A:Around) (outer:List Env) (s:Shared) (H:Hp) (E:XK),Room k (A.deeper (PyProof.Rows.envOfC x (ar st) s.heap.objs.size f cdv))->HXs true (iE (CXe P w) P w K mg base N x (ar st) f cdv A outer s H E) (aU st) t
theorem yB.by{P:Program}{w:World}{K:AA1}{mg:Str->Option Value}{base:Heap}{x:Str}{st:Stmt}{N ps:List Str}{k:Nat}{Pr:wF}{B:List Str}{C:List (Str×Int)}{t:DTX}(T:TopB mg B C)(F:cS K mg x st ps)(Sc:FnScope N ps (ar st))(len:LenX Pr ps)(der:TopB mg B C->N.Nodup->DerX P w K mg base k x N st t)(wp:∀ds M R RX,Pr ds M R RX->t (XEnd M RX) (EE M R) (cc N ds) M):yB P w K mg base (k+1) x ps Pr:=by
 obtain⟨f,fd,F1,hm,hb⟩:=F
 refine⟨f,fd,?_,hm,F1.kp,hb⟩
 obtain⟨oc,od,kV,doc,pm,an,cdv,ct,osl,rfl,lk,hcd⟩:=F1.ex
 refine Fa lk hcd Sc (λvs H Q E ⟨ds,M,ρ,R,RX,s,r,q,_⟩=>by rw[<-r.length];exact len ds M R RX q) λA outer s H vs Q E hr h=>?_
 obtain⟨ds,M,ρ,R,RX,sm,r,q,kk,kx⟩:=h
 refine⟨lowX K E t,λpins s1 σ H1 D I z=>(der T Sc.nd f cdv A outer s H E hr).ok pins s1 σ H1 D E (λ_=>True) _ ⟨λσ' H2 s2 e s' _ I2 c=>Aj pins σ' H2 s2 e s' I2 c,λ_ _=>trivial,λ_ σ' H2 s2 h' e C vs I2 m q=>AF I2 m q,λ_ σ' H2 s2 e C dx fs I2 s0 he hdx ne q=>Bt I2 s0 he hdx ne q,λ_ a s' F=>xk I F⟩ trivial I z,
  cc N ds,M,ρ,_,_,sm,SRep.start r N,wp ds M R RX q,⟨λσ' H' ⟨S',M',ρ',s',g',sr',q'⟩=>?_,λv H' z=>kk v H' (VQ.endq sm z),λσ' H' ⟨S',M',ρ',s',g',sr',q'⟩=>q'.elim,λσ' H' ⟨S',M',ρ',s',g',sr',q'⟩=>q'.elim⟩,λC dx H' z=>kx C dx H' (XQ.endq sm z)⟩
 exact kk .non H' (VQ.endq sm ⟨.non,M',ρ',s',g',.non,q'⟩)
abbrev WpX(Pr:wF)(n:Nat)(t:DTX):Prop:=∀ds M R RX,Pr ds M R RX->t (XEnd M RX) (EE M R) (dst n ds) M
abbrev prN(Pr:wF):DSp:=λds M R=>Pr ds M R λ_ _=>False
theorem yB.nev{P:Program}{w:World}{K:AA1}{mg:Str->Option Value}{base:Heap}{x:Str}{ps:List Str}{k:Nat}{Pr:wF}(h:yB P w K mg base k x ps Pr):Cal P w K mg base k x ps (prN Pr):=by
 obtain⟨f,fd,Fk,hm,hk,hb⟩:=h
 have no:∀{ρ:List Addr}{H:Hp} (C:Value) (dx:Option Addr) (H':Hp),XQ K ρ H (λ_ _=>False) C dx H'->E0 C dx H':=λC dx H' ⟨_,_,_,_,_,_,_,_,_,q⟩=>q
 refine⟨f,fd,⟨λvs H Q E ⟨ds,M,ρ,R,s,r,q,kk⟩=>Fk.len vs H Q E0 ⟨ds,M,ρ,R,_,s,r,q,kk,no⟩,λA outer s H args us vs Q E hr e0 hb' rv ⟨ds,M,ρ,R,sm,r,q,kk⟩=>?_⟩,hm,hk,hb⟩
 refine ACu (Fk.run A outer s H args us vs Q E0 hr e0 hb' rv ⟨ds,M,ρ,R,_,sm,r,q,kk,no⟩) λr s' z=>?_
 cases r with
 | error e=>obtain⟨_,_,_,_,_,_,_,_,z⟩:=z;exact z.elim
 | ok fl=>cases fl<;>exact z
theorem Bv{X:Cx}{c:Bool}{b:List Stmt}{st:Stmt}{sts:List Stmt}{t:DTX}(h:b=st::sts)(q:HXs c X (st::sts) t):HXs c X b t:=h ▸ q
noncomputable abbrev sh:=List (Str×List (Str×Bool))
noncomputable def rV(K:AA1)(t:Str×List (Str×Bool)):Bool:=match ABA K mainGlobals t.1 with
 | some (some (.ref C))=>(PySem.W.excIn K C vE "ValueError.__new__" || (t.2.lookup ("":Str)).isSome)&&AAi K (.ref C) "__getattribute__" == some (some (.builtin "BaseException.__getattribute__"))&&AAi K (.ref C) "__getattr__" == some none &&
   AEA K C (.type "BaseException")==some true&&AEA K C (.type "object")==some true&&AAi K (.ref C) "__class__" == some (some (.builtin "object.__class__"))&&AB8 K (.ref C) (.type "ValueError")==some true &&
   t.2.all λr=>r.1==("":Str)||match ABA K mainGlobals r.1 with
    | some (some (.ref C'))=>AEX K (.ref C) (.ref C')==some r.2&&AB8 K (.ref C) (.ref C')==some r.2&&AB8 K (.type "NoneType") (.ref C')==some false
    | _=>false
 | _=>false
noncomputable def cO(K:AA1)(T:sh):Bool:=T.all (rV K)
noncomputable def fY(T:sh)(x y:Str):Option Bool:=(T.lookup x).bind (·.lookup y)
structure ClsX(K:AA1)(x:Str)(C:Addr):Prop where
 at_:ABA K mainGlobals x=some (some (.ref C))
 own:ExcK K C
 val:AB8 K (.ref C) (.type "ValueError")=some true
theorem rV.cls{K:AA1}{x:Str}{row:List (Str×Bool)}(h:rV K (x,row)=true):∃C,ClsX K x C/\(row.lookup ("":Str)=none->PySem.W.excIn K C vE "ValueError.__new__" = true)/\∀y v,(y,v)∈row->(y==("":Str))=false->∃C',ABA K mainGlobals y=some (some (.ref C'))/\AEX K (.ref C) (.ref C')=some v/\AB8 K (.ref C) (.ref C')=some v/\AB8 K (.type "NoneType") (.ref C')=some false:=by
 unfold rV at h
 split at h
 ·rename_i C e
  simp only[AAK,beq_iff_eq]at h
  obtain⟨⟨⟨⟨⟨⟨⟨h1,h2⟩,h3⟩,h4⟩,h5⟩,h6⟩,h7⟩,h8⟩:=h
  refine⟨C,⟨e,⟨h2,h3,h4,h5,h6⟩,h7⟩,λz=>?_,λy v hy hy0=>?_⟩
  ·rw[z]at h1;simpa using h1
  have:=AAb.mp h8 (y,v) hy
  dsimp only at this
  rw[hy0,Bool.false_or]at this
  split at this
  ·rename_i C' e'
   simp only[AAK,beq_iff_eq]at this
   exact⟨C',e',this.1.1,this.1.2,this.2⟩
  ·cases this
 ·cases h
theorem dw{α β:Type}[BEq α][LawfulBEq α]{a:α}{v:β}:∀{l:List (α×β)},l.lookup a=some v->(a,v)∈l
 | [],h=>by cases h
 | (c,w)::l,h=>by
  rw[AAv]at h
  split at h
  ·rename_i e;cases h;rw[beq_iff_eq.mp e];exact AAO
  ·exact AA9 _ (dw h)
theorem cO.cls{K:AA1}{T:sh}{x:Str}(h:cO K T=true)(hx:(T.lookup x).isSome=true):∃C,ClsX K x C/\(fY T x "" = none->PySem.W.excIn K C vE "ValueError.__new__" = true)/\∀y v,fY T x y=some v->(y==("":Str))=false->∃C',ABA K mainGlobals y=some (some (.ref C'))/\AEX K (.ref C) (.ref C')=some v/\AB8 K (.ref C) (.ref C')=some v/\AB8 K (.type "NoneType") (.ref C')=some false:=by
 obtain⟨row,e⟩:=ABv.mp hx
 obtain⟨C,c,ex,r⟩:=rV.cls (AAb.mp h _ (dw e))
 refine⟨C,c,λz=>ex ?_,λy v hv=>?_⟩
 ·unfold fY at z
  rw[e]at z
  exact z
 unfold fY at hv
 rw[e]at hv
 exact r y v (dw hv)
theorem fY.has(h:fY T x y=some v):(T.lookup x).isSome=true:=by
 unfold fY at h
 cases q:T.lookup x with
 | none=>rw[q]at h;cases h
 | some _=>rfl
section
variable{b:Bool}{X:Cx}{e:Expr}{es:List Expr}{x:Str}{pos:Pos}
def dTry(T:sh)(y:Str)(i:Nat)(tb:DTX)(ts:Addr->DTS):DTS:=λF S M =>
 tb (λx M'=>fY T x.nm y=some true/\∀a,ts a ⟨λS' M''=>F.nx (S'.set i none) M'',λ_ _=>False,λ_ _=>False,λ_ _=>False⟩ (S.set i (some (.ref M'.length))) (M'++[.exc x a])) F S M
theorem SRep.drop{K:AA1}{ρ:List Addr}{H:Hp}{S:SD}{σ:St}(r:SRep K ρ H S σ)(i:Nat):SRep K ρ H (S.set i none) (σ.set i none):=by
 refine⟨by simpa using r.len,λj d e=>?_⟩
 by_cases h:i=j
 ·subst h
  by_cases hl:i<S.length
  ·rw[AAn hl]at e;cases e
  ·rw[ABo (by simpa using hl)]at e;cases e
 ·rw[AAf h]at e
  obtain⟨v,hv,rv⟩:=r.get j d e
  exact⟨v,by rw[AAf h];exact hv,rv⟩
theorem yW{T:sh}{y n:Str}{i:Nat}{body:List Stmt}{b₀:Stmt}{suite:List Stmt}{np hpos:Pos}{tb:DTX}{ts:Addr->DTS}(hT:cO X.K T=true)(hN:X.N.Nodup)(hb:HXs false X body tb)(hs:∀a,HB (X.held a) (b₀::suite) (ts a))
  (d1:X.stack=X.env::X.outer:=by kernel_rfl) (d2:X.env.frame=some X.env.locals:=by kernel_rfl) (d3:X.ex=[]:=by kernel_rfl) (hi:X.N[i]?=some n:=by kernel_rfl) (hk:X.env.scope.names.lookup n=some .local:=by kernel_rfl)
  (hg:X.env.kindOf y=some .globalImplicit:=by kernel_rfl) (hdb:(y==("__debug__":Str))=false:=by kernel_rfl) (hy0:(y==("":Str))=false:=by kernel_rfl) :
  HS X (.Try body [.ExceptHandler (some (.Name y np)) (some n) (b₀::suite) hpos] [] [] pos) (dTry T y i tb ts):=⟨by
 rintro pins s σ H D I ⟨S,M,ρ,F,sm,sr,q,k⟩
 refine wpAny_Try_except (thn (hb.ok pins s σ H D (XQ X.K ρ H _) (λσ'=>σ'=σ) _ ⟨?_,λz=>(nomatch z),λz=>(nomatch z),λz=>(nomatch z),λz=>(nomatch z)⟩ rfl I ⟨S,M,ρ,F,_,sm,sr,q,k,λ_ _ _ z=>z⟩) λf s1 z=>?_)
 ·rintro σ' H1 s1 e s' rfl I1 ⟨a,C,dx,H2,rfl,ho,hbr,Fl,x,c,M',ρ',rfl,hx,xd,s2,g2,hsub,q2⟩
  obtain⟨C0,c0,_,r0⟩:=cO.cls hT (fY.has hsub)
  obtain⟨C',hy,hm,_⟩:=r0 y true hsub hy0
  have ec:C0=c:=by have:=c0.at_.symm.trans hx;cases this;rfl
  subst ec
  have na:H2 a=none:=by
   obtain⟨B,_,_,_,fly,_,_,_,trk⟩:=Fl
   cases q:H2 a with
   | none=>rfl
   | some u =>
    obtain⟨o,ho⟩:=trk a u q
    rw[fly.nw]at ho
    cases ho
  refine wo (C:=C0) (C':=C') (i:=i) I1 ⟨d1,d2,d3⟩ ho hbr Fl hN hi hk (AEc I.mod.kin I.mod.glob hy) hm (hs a).ok (λoe ix dk=>⟨S.set i (some (.ref M'.length)),M'++[.exc x a],ρ'++[a],_,s2.laidM (mo:=.exc x a) na ⟨rfl,C0,oe,hx,ix,dk ▸ xd.grow (Grow.laidR (ρ:=ρ') na),aC⟩,(sr.grow (g2.trans (Grow.laidR na))).set i (.ref s2.last),q2 a,⟨λσ3 H3 w=>?_,λ_ _ w=>?_,λ_ _ w=>?_,λ_ _ w=>?_⟩⟩) hg hdb
  ·obtain⟨S3,M3,ρ3,s3,g3,sr3,q3⟩:=w
   exact k.nx _ H3 ⟨_,M3,ρ3,s3,(g2.trans (Grow.laidR na)).trans g3,sr3.drop i,q3⟩
  ·obtain⟨_,_,_,_,_,_,q3⟩:=w;exact q3
  ·obtain⟨_,_,_,_,_,_,q3⟩:=w;exact q3
  ·obtain⟨_,_,_,_,_,_,q3⟩:=w;exact q3
 ·cases f with
  | next=>exact ACs z
  | ret v=>exact z
  | brk=>exact z
  | cont=>exact z⟩
noncomputable def subY(T:sh)(y:Str):Bool:=T.any λr=>(r.2.lookup y).isSome
theorem cO.any{K:AA1}{T:sh}{y:Str}(h:cO K T=true)(hy:subY T y=true)(hy0:(y==("":Str))=false):∃C',ABA K mainGlobals y=some (some (.ref C'))/\AB8 K (.type "NoneType") (.ref C')=some false:=by
 obtain⟨⟨x,row⟩,hr,hl⟩:=ABx.mp hy
 obtain⟨v,hv⟩:=ABv.mp hl
 obtain⟨C,_,_,r⟩:=rV.cls (AAb.mp h _ hr)
 obtain⟨C',h1,_,_,h4⟩:=r y v (dw hv) hy0
 exact⟨C',h1,h4⟩
def qu(T:sh)(y:Str)(te:DTE):DTE:=λS M Q=>te S M λd M1=>match d with
 | .ref n=>(match M1[n]? with
  | some (.exc x _)=>(match fY T x.nm y with
   | some v=>Q (.bl v) M1
   | none=>False)
  | _=>False)
 | .non=>Q (.bl false) M1
 | _=>False
def dIsV(T:sh)(te:DTE):DTE:=λS M Q=>te S M λd M1=>match d with
 | .ref n=>(match M1[n]? with
  | some (.exc x _)=>(T.lookup x.nm).isSome=true/\Q (.bl true) M1
  | _=>False)
 | .non=>Q (.bl false) M1
 | _=>False
def rIsC(K:AA1)(c:V)(u:Value):List V->Hp->VK->Prop:=λvs H Q=>∃v1,vs=[v1,c]/\((v1=.non/\AB8 K (.type "NoneType") u=some false/\Q (.bl false) H)\/∃a C o v,v1=.ref a/\H a=some (.frz o (.own a))/\IsX o (.ref C)/\ExcK K C/\AB8 K (.ref C) u=some v/\Q (.bl v) H)
theorem qz(hr:∀u',aR c u'->u'=u):cQ X (.builtin "isinstance") (rIsC X.K c u):=by
 rintro pins s σ H vs us Q I rv ⟨v1,rfl,h⟩
 obtain⟨u1,u2,rfl,r1,r2⟩:=ay.two rv
 obtain rfl:=hr u2 r2
 rcases h with⟨rfl,hk,q⟩|⟨a,C,o,v,rfl,ha,ix,hE,hk,q⟩
 ·obtain rfl:u1=ABB:=r1
  exact PySem.W.kia_one PySem.W.kitx_none I.kIn trivial hk (by intro z;cases z) λtk=>⟨.bl false,H,I.tok tk,rfl,q⟩
 ·obtain rfl:u1=AAZ a:=r1
  exact PySem.W.kia_one (xG hE) I.kIn ⟨o,(I.hok a _ ha).1,ix.1⟩ hk (by intro z;cases z) λtk=>⟨.bl v,H,I.tok tk,rfl,q⟩
theorem EF{T:sh}{y:Str}{p py:Pos}{te:DTE}(hT:cO X.K T=true)(hm:X.mg "isinstance" = none)(he:HE X e te)(hY:subY T y=true:=by kernel_rfl)(hg:X.env.kindOf "isinstance" = some .globalImplicit:=by kernel_rfl)(hy:X.env.kindOf y=some .globalImplicit:=by kernel_rfl)(hdb:(y==("__debug__":Str))=false:=by kernel_rfl)
  (hs1:starEach [e,.Name y py] X.env=(false,eval e X.env)::starEach [.Name y py] X.env:=by kernel_rfl) (hs2:starEach [.Name y py] X.env=(false,eval (.Name y py) X.env)::starEach [] X.env:=by kernel_rfl) (hpl:(backTo pos (starEach [.Name y py] X.env)).any (·.1)=false:=by kernel_rfl) (hy0:(y==("":Str))=false:=by kernel_rfl) :
  HE X (.Call (.Name "isinstance" p) [e,.Name y py] [] pos) (qu T y te):=⟨by
 rintro pins s σ H Q I ⟨S,M,ρ,R,sm,sr,q,k⟩
 obtain⟨C',hn,hnone⟩:=cO.any hT hY hy0
 refine jF (qz (X:=X) (c:=.ref C') (u:=.ref C') λu' r=>r) hg hm cH (ic he.ok (ic (Af (v:=.ref C') hy (AEc I.mod.kin I.mod.glob hn) rfl hdb) uc hs2) hs1) (by decide) (by decide) hs1 hpl pins s σ H Q I ?_
 refine⟨S,M,ρ,_,sm,sr,q,?_⟩
 rintro v H1 ⟨d,M1,ρ1,s1,g1,r1,q1⟩
 show rIsC X.K (.ref C') (.ref C') [v,.ref C'] H1 Q
 refine⟨v,rfl,?_⟩
 cases d with
 | non =>
  obtain rfl:=Rep.inv_non r1
  exact .inl ⟨rfl,hnone,k _ _ ⟨_,M1,ρ1,s1,g1,.bl false,q1⟩⟩
 | ref n =>
  obtain⟨a,rfl,hn1⟩:=Rep.inv_ref r1
  dsimp only at q1
  split at q1
  ·rename_i x _ hx
   split at q1
   ·rename_i v hv
    obtain⟨C,c,_,r⟩:=cO.cls hT (fY.has hv)
    obtain⟨C2,hn2,_,hk,_⟩:=r y v hv hy0
    have ec:C2=C':=by have:=hn2.symm.trans hn;cases this;rfl
    subst ec
    obtain⟨_,C3,o3,h3,ix,_,ha⟩:=s1.obj n a _ hn1 hx
    have ec:C3=C:=by have:=h3.symm.trans c.at_;cases this;rfl
    subst ec
    exact .inr ⟨a,C3,o3,v,rfl,ha,ix,c.own,hk,k _ _ ⟨_,M1,ρ1,s1,g1,.bl v,q1⟩⟩
   ·exact q1.elim
  ·exact q1.elim
 | _=>exact q1.elim⟩
theorem ke:bootBuiltins "ValueError" = some (.type "ValueError"):=by decide +kernel
theorem va{K:AA1}:AB8 K (.type "NoneType") (.type "ValueError")=some false:=by kernel_rfl
theorem EG{T:sh}{p py:Pos}{te:DTE}(hT:cO X.K T=true)(hm:X.mg "isinstance" = none)(hv:X.mg "ValueError" = none)(he:HE X e te)(hg:X.env.kindOf "isinstance" = some .globalImplicit:=by kernel_rfl)(hy:X.env.kindOf "ValueError" = some .globalImplicit:=by kernel_rfl)
  (hs1:starEach [e,.Name "ValueError" py] X.env=(false,eval e X.env)::starEach [.Name "ValueError" py] X.env:=by kernel_rfl) (hs2:starEach [.Name "ValueError" py] X.env=(false,eval (.Name "ValueError" py) X.env)::starEach [] X.env:=by kernel_rfl) (hpl:(backTo pos (starEach [.Name "ValueError" py] X.env)).any (·.1)=false:=by kernel_rfl) :
  HE X (.Call (.Name "isinstance" p) [e,.Name "ValueError" py] [] pos) (dIsV T te):=⟨by
 rintro pins s σ H Q I ⟨S,M,ρ,R,sm,sr,q,k⟩
 refine jF (qz (X:=X) (c:=.ty "ValueError") (u:=.type "ValueError") λu' r=>r) hg hm cH (ic he.ok (ic (ua (v:=.ty "ValueError") hy hv ke rfl) uc hs2) hs1) (by decide) (by decide) hs1 hpl pins s σ H Q I ?_
 refine⟨S,M,ρ,_,sm,sr,q,?_⟩
 rintro v H1 ⟨d,M1,ρ1,s1,g1,r1,q1⟩
 show rIsC X.K (.ty "ValueError") (.type "ValueError") [v,.ty "ValueError"] H1 Q
 refine⟨v,rfl,?_⟩
 cases d with
 | non =>
  obtain rfl:=Rep.inv_non r1
  exact .inl ⟨rfl,va,k _ _ ⟨_,M1,ρ1,s1,g1,.bl false,q1⟩⟩
 | ref n =>
  obtain⟨a,rfl,hn1⟩:=Rep.inv_ref r1
  dsimp only at q1
  split at q1
  ·rename_i x _ hx
   obtain⟨C,c,_⟩:=cO.cls hT q1.1
   obtain⟨_,C3,o3,h3,ix,_,ha⟩:=s1.obj n a _ hn1 hx
   have ec:C3=C:=by have:=h3.symm.trans c.at_;cases this;rfl
   subst ec
   exact .inr ⟨a,C3,o3,true,rfl,ha,ix,c.own,c.val,k _ _ ⟨_,M1,ρ1,s1,g1,.bl true,q1.2⟩⟩
  ·exact q1.elim
 | _=>exact q1.elim⟩
end
theorem jA{X:Cx}{x n1 n2:Str}{C fI:Addr}{fd:FuncData}{ps:List Str}{k:Nat}{np cpos pos:Pos}{e₀:Expr}{aP:List Expr}{pins:List (Addr×Obj)}{σ:St}{H:Hp}{s:Shared}{Ex:Value->Shared->Prop}{Q:Flow->Shared->Prop}(I:Inv X pins σ H s)(hm:X.mg x=some (.ref C))(c:XCls X.K C fI)(Fk:FnOk X.prog X.w X.K X.mg X.base CX0 k fI fd ps (spI C n1 n2))(hb:fV X.K fd ps [])(hr:Room (k+1) X.A)(hc:X.calm=true)(hf:∃oI,X.base.get? fI=some oI/\oI.cls=.type "function")
  (w:wpAny (model X.prog X.w) X.A (spliced (backTo cpos (starEach (e₀::aP) X.env))) (λus s₂=>∃v1 v2 H2,ay [v1,v2] us/\Inv X pins σ H2 s₂/\∀e dx H3 s3,X.s₀.heap.get? e=none->H2 e=none->H2 dx=none->dx≠e ->
   H3=upd (upd (upd (upd H2 e (.ext (exE e C none))) dx (.ext (dE dx [(n1,v1)]))) e (.ext (exE e C (some dx)))) dx (.ext (dE dx [(n1,v1),(n2,v2)]))->Inv X pins σ H3 s3->Ex (.ref e) s3) Ex s) (hg:Gl X x:=by rfl)
  (he:starEach (e₀::aP) X.env=(false,eval e₀ X.env)::starEach aP X.env:=by rfl) (hpl:(backTo cpos (starEach aP X.env)).any (·.1)=false:=by rfl) (hdb:(x==("__debug__":Str))=false:=by decide) :
  wpAny (model X.prog X.w) X.A (exec (.Raise (some (.Call (.Name x np) (e₀::aP) [] cpos)) none pos) X.env) Q Ex s:=by
 obtain⟨tl,N,nm,qn,bs,sn,sub,ab,col,dd,k0,k1,k2,k3,k5,mN,hC,hN,hni,T⟩:=jI I.mod.kin c.ok
 obtain⟨oI,hfI,hfc⟩:=hf
 have FB:=F.excBase_ValueError
 refine gW (C:=C) (nm:=nm) (q:=qn) (N:=N) (bs:=bs) (bm:=tl) (hdct:=true) (sn:=sn) (sub:=sub) (ab:=ab) (col:=col) (dd:=dd) (k0:=k0) (k1:=k1) (k2:=k2) (k3:=k3) (k5:=k5) (fI:=fI)
  FB FB.hasB FB (mN:=mN) (T.hasType FB.hasBase) (I.ok.hd hc) (by rw[he];show (false||(backTo cpos (starEach aP X.env)).any (·.1))=false;rw[hpl];rfl) hni (fi I hg hm ⟨rfl,?_⟩ hdb)
 rw[he]at w ⊢
 refine AE8 (AAl w (λus s₂ ⟨v1,v2,H2,rv,I2,kk⟩=>⟨rfl,?_,I2.bk _ _ hC,hN.keeps I2.bk,T.keeps I2.bk,⟨oI,I2.bk _ _ hfI,hfc⟩,λh' e m hz=>?_⟩) λ_ _ y=>y)
 ·show us.length<=sizeLine
  rw[<-rv.length]
  exact AAh (show 2<=1000 by decide) (by rw[ABQ];decide)
 obtain⟨t,ht,_,_⟩:=m.there
 have I3:=I2.laid (a:=e) (o:=.ext (exE e C none)) (h':=h') (t':=s₂.toks) m.keeps hz (zh ⟨_,t,ht,rfl,rfl,rfl,rfl⟩)
 have r2:ay [.ref e,v1,v2] (.ref e::us):=.cons rfl rv
 have hsp:spI C n1 n2 [.ref e,v1,v2] (upd H2 e (.ext (exE e C none))) (λv H'=>v=.non/\∃dx,upd H2 e (.ext (exE e C none)) dx=none/\dx≠e/\H'=upd (upd (upd (upd H2 e (.ext (exE e C none))) dx (.ext (dE dx [(n1,v1)]))) e (.ext (exE e C (some dx)))) dx (.ext (dE dx [(n1,v1),(n2,v2)]))) E0:=⟨e,v1,v2,rfl,aC,λdx H' h1 h2 h3=>⟨rfl,dx,h1,h2,h3⟩⟩
 have hl:(AAZ e::us++[]).length=ps.length:=by
  rw[AAq,<-r2.length]
  exact Fk.len _ _ _ _ hsp
 refine AEC (ACu (Fk.run _ X.stack _ _ ⟨AAZ e::us,[]⟩ (AAZ e::us++[]) [.ref e,v1,v2] _ E0 (hr.make C us []) (I3.env0.make C us []) (hb _ (AAZ e::us) I3.kIn hl) (by rw[AAq];exact r2) hsp) λr s' hq'=>?_)
 cases r with
 | error e=>exact ABN hq'
 | ok fl =>
  cases fl with
  | ret u =>
   obtain⟨v,H',I4,rv',ev,dx,h1,h2,h3⟩:=I3.after hq'
   subst ev
   have he4:H' e=some (.ext (exE e C (some dx))):=by rw[h3,av (ABG h2)];exact aC
   obtain⟨⟨o,t',e1,c1,_,_,d1⟩,_⟩:=I4.hok e _ he4
   have s0:X.s₀.heap.get? e=none:=by
    cases q:X.s₀.heap.get? e with
    | none=>rfl
    | some o0=>exact absurd (AAD q) (Nat.not_lt.mpr (AAh I2.sz hz))
   refine⟨rv',I4.bk _ _ hC,⟨o,e1,c1,t',d1⟩,kk e dx H' s' s0 (I2.hok.fresh hz) ?_ h2 h3 I4⟩
   rwa [av h2]at h1
  | next=>exact ABN hq'
  | brk=>exact ABN hq'
  | cont=>exact ABN hq'
def wD(P:Program)(w:World)(K:AA1)(mg:Str->Option Value)(base:Heap)(k:Nat)(x n1 n2:Str):Prop :=
 ∃C fI fd ps,ABA K mainGlobals x=some (some (.ref C))/\XCls K C fI/\FnOk P w K mg base CX0 k fI fd ps (spI C n1 n2)/\fV K fd ps []/\AER K (.ref fI)=true
def mS(x n1 n2:Str)(t:DTA):DTX:=λR _ S M=>t S M λds M1=>∃d1 d2,ds=[d1,d2]/\fT 8 d1=true/\fT 8 d2=true/\R ⟨x,[(n1,d1),(n2,d2)]⟩ M1
theorem BI{H:Hp}{e dx:Addr}{a b c d:HO}{od:Obj}(he:H e=none):vM (upd (upd (upd (upd H e a) dx b) e c) dx d) e dx od=upd H dx (.frz od (.own dx))\/dx=e:=by
 by_cases z:dx=e
 ·exact .inr z
 refine .inl (funext λq=>?_)
 unfold vM upd
 by_cases h1:q=e
 ·subst h1
  rw[if_pos rfl,if_neg (ABG z)]
  exact he.symm
 ·by_cases h2:q=dx
  ·rw[if_neg h1,if_pos h2,if_pos h2]
  ·rw[if_neg h1,if_neg h2,if_neg h2,if_neg h1,if_neg h2,if_neg h1,if_neg h2]
theorem lW{X:Cx}{x n1 n2:Str}{k j:Nat}{np cpos pos:Pos}{e:Expr}{es:List Expr}{ta:DTA}(C2:wD X.prog X.w X.K X.mg X.base j x n1 n2)(hr:Room k X.A)(ha:HA X.nox (e::es) ta)(hj:Nat.ble (j+1) k=true:=by kernel_rfl)(hc:X.calm=true:=by kernel_rfl)
  (hg:X.env.kindOf x=some .globalImplicit:=by kernel_rfl) (he:starEach (e::es) X.env=(false,eval e X.env)::starEach es X.env:=by kernel_rfl) (hpl:(backTo cpos (starEach es X.env)).any (·.1)=false:=by kernel_rfl) (hdb:(x==("__debug__":Str))=false:=by kernel_rfl) :
  HX true X (.Raise (some (.Call (.Name x np) (e::es) [] cpos)) none pos) (mS x n1 n2 ta):=⟨λpins s σ H D E P Ex A p I ⟨S,M,ρ,F,R,sm,sr,w,k,xx⟩=>by
 obtain⟨C,fI,fd,ps,hn,c,Fk,hb,hfn⟩:=C2
 refine jA I (AEc I.mod.kin I.mod.glob hn) c Fk hb (hr.mono (ACy hj)) hc ?_ (AAl (ha.ok.nox (Ex:=Ex) I ⟨S,M,ρ,_,sm,sr,w,λ_ _ z=>z⟩) (λus s2 ⟨vs,H1,I1,r,ds,M1,ρ1,s1',g1,r1,d1,d2,ed,k1,k2,y⟩=>?_) λ_ _ z=>z) hg he hpl hdb
 ·obtain⟨o,ho,hcl⟩:=AB3.mp (beq_iff_eq.mp hfn)
  exact⟨o,I.mod.kin _ _ ho,hcl⟩
 subst ed
 obtain⟨v1,vs1,rfl,q1,r1'⟩:=Reps.inv_cons r1
 obtain⟨v2,vs2,rfl,q2,r2'⟩:=Reps.inv_cons r1'
 obtain rfl:=Reps.inv_nil r2'
 refine⟨v1,v2,H1,r,I1,λe dx H3 s3 s0 h1 h2 ne e3 I3=>A.init rfl σ H3 s3 e C dx [(n1,v1),(n2,v2)] I3 s0 (by rw[e3,av (ABG ne)];exact aC) (by rw[e3];exact aC) ne λod hod=>xx _ _ _ ?_⟩
 have ef:vM H3 e dx od=upd H1 dx (.frz od (.own dx)):=by rw[e3];exact(BI h1).resolve_right ne
 rw[ef]
 have gl:Grow X.K ρ1 H1 ρ1 (upd H1 dx (.frz od (.own dx))):=Grow.laid h2
 obtain⟨⟨mA,⟨o,es',ep,ho,hns⟩,hl,_⟩,_⟩:=I3.hok dx (.ext (dE dx [(n1,v1),(n2,v2)])) (by rw[e3];exact aC)
 obtain rfl:o=od:=AAM (ho.symm.trans hod)
 refine⟨⟨x,[(n1,d1),(n2,d2)]⟩,C,M1,ρ1,rfl,hn,⟨o,[v1,v2],mA,aC,λh q=>⟨o,es',ep,q,hns⟩,hl,?_⟩,s1'.laid h2,g1.trans gl,y⟩
 have:=(Reps.cons q1 (Reps.cons q2 .nil)).cut (k:=0) (.cons (gj 8 d1 k1) (.cons (gj 8 d2 k2) .nil))
 rw[List.take_zero]at this
 exact this.grow ⟨ACA,gl.tup,gl.fr⟩⟩
structure RoomH(k:Nat)(A:Around):Prop where
 dp:A.depth+3*k+5<recursionLimit
 un:A.units+16*k+200<cLine
def FP(A:Around)(H:Hp):Prop:=∃a o C,A.handled=some (.ref a)/\H a=some (.frz o (.own a))/\IsX o C
structure FnH(P:Program)(w:World)(K:AA1)(mg:Str->Option Value)(base:Heap)(k:Nat)(f:Addr)(fd:FuncData)(ps:List Str)(sp:Sp):Prop where
 len:∀vs H Q E,sp vs H Q E->vs.length=ps.length
 run:∀(A:Around) (outer:List Env) (s:Shared) (H:Hp) (args:Args) (us:List Value) (vs:List V) (Q:VK) (E:XK),RoomH k A->FP A H->Env0 P w K mg base A outer s H->BindsTo s fd args (ps.zip us)->ay vs us->sp vs H Q E ->
  codeAny (model P w) A (.call (.ref f) args) (CR CX0 outer P w H s Q E) s
end L2
namespace L2
open PySem PySem.Spec PyProof.Rows DL PySem.W
end L2
namespace L2
open PySem PySem.Spec PyProof.Rows DL
abbrev DTAX:=DX->DTA
inductive lowXA(K:AA1)(E:XK)(t:DTAX)(σ:St)(H:Hp)(Q:List V->Hp->Prop):Prop
 | mk (S:SD) (M:Mem) (ρ:List Addr) (F:List D->Mem->Prop) (R:DX) (s:Sim K ρ M H) (sr:SRep K ρ H S σ) (q:t R S M F) (k:∀v H',AQ K ρ H F v H'->Q v H') (x:∀C dx H',XQ K ρ H R C dx H'->E C dx H')
structure HXA(b:Bool)(X:Cx)(es:List Expr)(t:DTAX):Prop where
 ok:∀(pos:Pos) (pins:List (Addr×Obj)) (s:Shared) (σ:St) (H:Hp) (Q:List V->Hp->Prop) (E:XK) (P:St->Prop) (Ex:Value->Shared->Prop),XA b X pins E P Ex->P σ->Inv X pins σ H s->lowXA X.K E t σ H Q->wpAny (model X.prog X.w) X.A (spliced (backTo pos (starEach es X.env))) (AP X pins σ Q) Ex s
end L2
namespace L2
open PySem PySem.Spec PyProof.Rows DL PySem.W
end L2
namespace L2
open PySem PySem.Spec PyProof.Rows DL
noncomputable def asT(M:Mem):D->D
 | .ref i=>match M[i]? with
  | some a=>.tup a.items
  | none=>.non
 | _=>.non
structure SrtR(M:Mem)(xs:List D):Prop where
 len:xs.length<64
 ls:∀x∈xs,∃n a,x=.ref n/\M[n]?=some a/\a.isL=true
 ok:∀x∈xs,okP eqN (asT M x)=true
 cm:∀x∈xs,∀y∈xs,eV M eqN (asT M x) (asT M y)=true
theorem iM{K:AA1}{ρ:List Addr}{H:Hp}{f:Str}:∀{fs:List (Str×D)}{vs:List V},Reps K ρ H (fs.map (·.2)) vs->(∀d,fs.lookup f=some d->∃v,((fs.map (·.1)).zip vs).lookup f=some v/\Rep K ρ H d v)/\(fs.lookup f=none->((fs.map (·.1)).zip vs).lookup f=none)
 | [],_,r=>⟨(λ_ z=>nomatch z),λ_=>by obtain rfl:=Reps.inv_nil r;rfl⟩
 | (g,x)::fs,vs,r=>by
  obtain⟨u,us,rfl,r1,r2⟩:=Reps.inv_cons r
  have ih:=iM (f:=f) r2
  show (∀d,((g,x)::fs).lookup f=some d->∃v,((g,u)::(fs.map (·.1)).zip us).lookup f=some v/\_)/\(((g,x)::fs).lookup f=none->((g,u)::(fs.map (·.1)).zip us).lookup f=none)
  rw[AAv,AAv]
  cases f==g with
  | true=>exact⟨λd e=>⟨u,rfl,by cases e;exact r1⟩,λe=>nomatch e⟩
  | false=>exact ih
end L2
namespace L2
open PySem PySem.Spec PyProof.Rows DL PySem.W
end L2
namespace L2
open PySem PySem.Spec PyProof.Rows DL
def XFld(K:AA1)(c f:Str):Prop:=∃C,ABA K mainGlobals c=some (some (.ref C))/\ExcK K C/\AEa K C=true/\eT K C f
def wd(c f:Str)(te:DTE):DTE:=λS M Q=>te S M λd M1=>match d with
 | .ref n=>∃x a v,M1[n]?=some (.exc x a)/\x.nm=c/\x.fs.lookup f=some v/\Q v M1
 | _=>False
theorem EH(F:XFld X.K c f)(he:HE X e te)(hb:attributeBase e f X.env (eval e X.env)=eval e X.env:=by kernel_rfl):HE X (.Attribute e f pos) (wd c f te):=⟨by
 obtain⟨C,hC,ek,hh,na⟩:=F
 rintro pins s σ H Q I ⟨S,M,ρ,F,sm,sr,q,k⟩
 refine Co hb (thn (he.ok pins s σ H _ I ⟨S,M,ρ,_,sm,sr,q,λ_ _ z=>z⟩) ?_)
 rintro u s1 ⟨x,H1,I1,rx,d,M1,ρ1,s1',g1,r1,q1⟩
 cases d with
 | ref n =>
  obtain⟨xn,a',v,hn,hx,hf,q1⟩:=q1
  obtain⟨a,rfl,ea⟩:=Rep.inv_ref r1
  obtain rfl:u=AAZ a:=rx
  obtain⟨_,C',o,hC',ix,xd,ha⟩:=s1'.obj n a _ ea hn
  obtain rfl:C'=C:=by rw[hx,hC]at hC';cases hC';rfl
  have hat:=(I1.hok a _ ha).1
  cases hdo:o.dict with
  | none =>
   rw[hdo]at xd
   rw[show xn.fs=[]from xd]at hf
   cases hf
  | some dx =>
   rw[hdo]at xd
   obtain⟨od,vs,mA,hfz,hns,hl,rr⟩:=xd
   have hod:=(I1.hok dx _ hfz).1
   obtain⟨od',ho',hk⟩:=uG (hns _ hod)
   obtain rfl:od'=od:=AAM (ho'.symm.trans hod)
   obtain⟨vv,hv,rv⟩:=(iM (f:=f) rr).1 v hf
   obtain⟨u,hu,ru⟩:=wA.some_of (v:=vv) (o:=mA f) (by rw[<-hv];exact hl f)
   obtain⟨vs',hd',_⟩:=ix.2
   have no:AEY o=true:=by unfold AEY;rw[hd']
   refine BJ I1.kIn ek ⟨hat,ix.1,no,by rw[hdo];exact hod⟩ (PySem.W.findObj_own hh na rfl (by rw[hk,hu])) (vK ru) ⟨vv,H1,I1.tok _,ru,k _ _ ⟨v,M1,ρ1,s1',g1,?_,q1⟩⟩
   have:=rv.grow (ρ':=ρ1) (H':=H1) ⟨List.nil_prefix,λ_ _ z=>z,λ_ _ z=>z⟩
   exact this
 | _=>exact q1.elim⟩
def XiAt(K:AA1)(c q:Str)(st:Stmt)(ps:List Str)(n1 n2:Str):Prop :=
 ∃C f fd,ABA K mainGlobals c=some (some (.ref C))/\XCls K C f/\eT K C n1/\eT K C n2/\AER K (.ref f)=true/\Fun K "__init__" q st f fd/\fV K fd ps []
section
variable{P:Program}{w:World}{K:AA1}{mg:Str->Option Value}{base:Heap}{k:Nat}{c q s0 x1 x2 n1 n2:Str}{st:Stmt}{h:Heap}{D f:Addr}{oc:Value}{od an:Option Addr}{osl:Array (Option Value)}{kV doc pm cdv ct:Value}{ps:List Str}
theorem xiat_mk(X:K.In h)(a:ABA K mainGlobals c=some (some (.ref D)))(n0:AAi K (.ref D) "__init__" = some (some (.ref f)))(x:qp K D f vE "ValueError.__new__" = true)(sa:AAi K (.ref D) "__setattr__" = some (some (.builtin "object.__setattr__")))(a1:AAi K (.ref D) n1=some none)(a2:AAi K (.ref D) n2=some none)
  (i:AER K (.ref f)=true) (l:K.lookup f=some ⟨oc,od,.func (AC6 "__init__" q (cE st) (aU st) (ar st) .none kV doc pm an cdv ct),osl⟩) (cd:ADw K cdv q=true) (kp:ABk K (.ref f)=true)
  (b:∀(kV doc pm:Value) (an:Option Addr) (cdv ct:Value) (us:List Value),us.length=ps.length->bindArgs (AC6 "__init__" q (cE st) (aU st) (ar st) .none kV doc pm an cdv ct) ⟨us,[]⟩=pure (ps.zip us)):XiAt K c q st ps n1 n2 :=
 have F:=zg (st:=st) l cd kp
 ⟨D,f,_,a,⟨x,sa⟩,a1,a2,i,F,F.binds b⟩
theorem xfld_mk(X:K.In h)(a:ABA K mainGlobals c=some (some (.ref D)))(g1:AAi K (.ref D) "__getattribute__" = some (some (.builtin "BaseException.__getattribute__")))(g2:AAi K (.ref D) "__getattr__" = some none)(g3:AEA K D (.type "BaseException")=some true)(g4:AEA K D (.type "object")=some true)
  (g5:AAi K (.ref D) "__class__" = some (some (.builtin "object.__class__"))) (hd:AEa K D=true) (n:AAi K (.ref D) n1=some none):XFld K c n1:=⟨D,a,⟨g1,g2,g3,g4,g5⟩,hd,n⟩
theorem wD.byI(F:XiAt K c q st [s0,x1,x2] n1 n2)(Sc:FnScope [s0,x1,x2] [s0,x1,x2] (ar st))
  (hb:aU st=[.Assign [.Attribute (.Name s0 p1) n1 p2] (.Name x1 p3) p4,.Assign [.Attribute (.Name s0 p5) n2 p6] (.Name x2 p7) p8]) (ne:(n2==n1)=false)
  (d0:(s0==("__debug__":Str))=false) (d1:(x1==("__debug__":Str))=false) (d2:(x2==("__debug__":Str))=false) (e0:(s0==("__classdict__":Str))=false) (e1:(x1==("__classdict__":Str))=false) (e2:(x2==("__classdict__":Str))=false):wD P w K mg base (k+1) c n1 n2:=by
 obtain⟨C,f,fd,a,x,a1,a2,i,F,b⟩:=F
 exact⟨C,f,fd,_,a,x,Bu F Sc hb x a1 a2 (beq_eq_false_iff_ne.mp ne) d0 d1 d2 e0 e1 e2,b,i⟩
end
theorem AD(hh:A.handled=none)(hlI:l≠I)(hIS:S≠I)(hlS:l≠S)(hI:s.heap.get? I=none)(hS0:s.heap.get? S=none)
  (hc:∀(h:Heap) (tk:Nat) i j vi vj,items[i]?=some vi->items[j]?=some vj->sf s h->oQ A.in1 { s with heap:=h,toks:=tk } vi vj (bt i j)) :
  ∀(k j:Nat) (h:Heap) (tk:Nat) (vb:Value) (c:Nat),items.size-(j+1)=k->j+1<=items.size->h.IsListIter I l (j+1)->h.IsList l items->sf s h->items[argBest bt j]?=some vb ->
  h.get? S=some { cls:=.type "list",dict:=none,data:=.seq #[vb,vb] c,slots:=#[] } ->
  (∀v h' tk',items[argBest bt (items.size-1)]?=some v->sf s h'->R (.ok (.ret v)) { s with heap:=h',toks:=tk' })->codeAny (model prog w) A (.builtin "min.loop" ⟨[.ref I,.none,.ref S],[]⟩) R { s with heap:=h,toks:=tk }:=by
 have W:=Walks.list (prog:=prog) (w:=w) (A:=A.in1) hh I l hlI items
 have hname:(toString "min" ++ toString ".loop":String) = "min.loop":=by decide
 have old:∀{h h':Heap},sf s h->(∀b o,b∉[I]->h.get? b=some o->h'.get? b=some o)->sf s h':=λho hk b o e=>hk b o (λz=>by rw[AAS.mp z,hI]at e;cases e) (ho b o e)
 have oldS:∀{h:Heap}{x:Obj->Obj},sf s h->sf s (h.update S x):=λho b o e=>(AAj _ _ (λz=>by rw[<-z,hS0]at e;cases e)).trans (ho b o e)
 intro k
 induction k with
 | zero =>
  intro j h tk vb c hk hj hit hl ho hb hS hR
  have hin:j+1=items.size:=by lia
  refine ABL ADm ?_
  rw[ABF ABU _]
  show wpAny _ A.in1 (seqItems? (.ref S) >>= _) _ _ _
  refine AA0 (ADy hS rfl ?_)
  show wpAny _ A.in1 (tryCatch (pyNext (.ref I)) _ >>= _) _ _ _
  refine AA0 (ADz (W.done _ _ _ (hin ▸ ⟨hit,hl⟩) λh' tk hk'=>?_))
  have hS':=hk' S _ (by simpa using hIS) hS
  show wpAny _ A.in1 (updateSeq S (λ_=>#[]) >>= _) _ _ _
  refine AA0 ?_
  refine AD0 hS' rfl (AA0 (wpAny_letGo (AA3 ?_)))
  exact hR vb _ tk (by rw[<-hin];exact hb) (oldS (old ho hk'))
 | succ k ih =>
  intro j h tk vb c hk hj hit hl ho hb hS hR
  have hlt:j+1<items.size:=by lia
  refine ABL ADm ?_
  rw[ABF ABU _]
  show wpAny _ A.in1 (seqItems? (.ref S) >>= _) _ _ _
  refine AA0 (ADy hS rfl ?_)
  show wpAny _ A.in1 (tryCatch (pyNext (.ref I)) _ >>= _) _ _ _
  refine AA0 (ADz (W.item (j+1) _ _ _ hlt ⟨hit,hl⟩ λv h' tk hP hst' hk'=>?_))
  have hS':=hk' S _ (by simpa using hIS) hS
  have ho':=old ho hk'
  show wpAny _ A.in1 (tryCatch (holding [v,v] (richCompare .Lt v vb >>= _)) _ >>= _) _ _ _
  refine AA0 (ADz (AAW (AA0 (hc h' tk (j+1) (argBest bt j) v vb hP hb ho' _ _ _ _ ?_))))
  refine AA0 (AAW (ACR ?_))
  refine AA0 (wpAny_letGo (AA3 ?_))
  cases hbt:bt (j+1) (argBest bt j) with
  | true =>
   simp only[if_true]
   refine AA0 ?_
   refine AD0 hS' rfl (AA0 (wpAny_letGo ?_))
   rw[hname]
   refine AA3 ⟨AC5 ABU _,ih (j+1) _ _ v _ (by lia) hlt (hst'.1.at λo e=>(AAj _ _ hIS).trans e) (hst'.2.at λo e=>(AAj _ _ (ABG hlS)).trans e) (oldS ho') (by simp only[argBest,hbt,if_true];exact hP) (AAd _ hS' rfl) hR⟩
  | false =>
   simp only[AAR,if_false]
   refine AA0 (wpAny_letGo ?_)
   rw[hname]
   exact AA3 ⟨AC5 ABU _,ih (j+1) _ _ vb c (by lia) hlt hst'.1 hst'.2 ho' (by simp only[argBest,hbt,AAR,if_false];exact hb) hS' hR⟩
theorem AE(hh:A.handled=none)(hl:s.heap.IsList l items)(hne:0<items.size)
  (hc:∀(h:Heap) (tk:Nat) i j vi vj,items[i]?=some vi->items[j]?=some vj->sf s h->oQ A.in1 { s with heap:=h,toks:=tk } vi vj (bt i j))
  (hQ:∀v h' tk,items[argBest bt (items.size-1)]?=some v->sf s h'->Q v { s with heap:=h',toks:=tk }):wpAny (model prog w) A (call (.builtin "min") [.ref l]) Q E s:=by
 have hname:(toString "min" ++ toString ".loop":String) = "min.loop":=by decide
 have hlt:l<s.heap.objs.size:=by obtain⟨_,e,_⟩:=hl;exact AAD e
 have none_at:∀{b:Addr},s.heap.objs.size<=b->s.heap.get? b=none:=λ{b} hb=>by
  cases e:s.heap.get? b with
  | none=>rfl
  | some o=>exact absurd (AAD e) (Nat.not_lt.mpr hb)
 refine call_function_tree PySem.F.kind_min PySem.F.plain_min PySem.F.entry_min (PySem.F.args_min1 _) ?_
 show wpAny _ A.in1 (AEN "min" ["key","default"] 0 ⟨[],[]⟩ >>= _) _ _ s
 refine AA0 (AEK (show AEN "min" ["key","default"] 0 ⟨[],[]⟩=pure [none,none]from rfl) ?_)
 refine AA0 (AA3 ?_)
 refine AA0 (ADp hl ?_)
 generalize hI:s.heap.objs.size=I at hlt none_at
 generalize h1e:s.heap.push { cls:=.type "list_iterator",data:=.fields #[.ref l,.int 0 0] }=h1
 have i1:h1.IsListIter I l 0:=by rw[<-h1e,<-hI];exact⟨_,AAE _ rfl,rfl,rfl⟩
 have l1:h1.IsList l items:=by rw[<-h1e];exact hl.push _
 have o1:sf s h1:=λb o e=>by rw[<-h1e];exact AA4 _ e
 have z1:h1.objs.size=I+1:=by rw[<-h1e,<-hI,ACN]
 refine AA0 (AAa ?_)
 rw[hname]
 refine AA3 ⟨AC5 ABU _,?_⟩
 generalize h2e:h1.push { cls:=.type "list",data:=.seq #[] }=h2
 have i2:h2.IsListIter I l 0:=by rw[<-h2e];exact i1.at λo e=>AA4 _ e
 have l2:h2.IsList l items:=by rw[<-h2e];exact l1.push _
 have o2:sf s h2:=λb o e=>by rw[<-h2e];exact AA4 _ (o1 b o e)
 have s2:h2.get? (I+1)=some { cls:=.type "list",dict:=none,data:=.seq #[] 0,slots:=#[] }:=by rw[<-h2e,<-z1];exact AAE _ rfl
 show codeAny (model prog w) A (.builtin "min.loop" ⟨[.ref I,.none,.ref h1.objs.size],[]⟩) _ { s with heap:=h2,toks:=s.toks }
 rw[z1]
 have W:=Walks.list (prog:=prog) (w:=w) (A:=A.in1) hh I l (AAH hlt) items
 have hI0:s.heap.get? I=none:=none_at (AAB _)
 have hS0:s.heap.get? (I+1)=none:=none_at (ADo _)
 refine ABL ADm ?_
 rw[ABF ABU _]
 show wpAny _ A.in1 (seqItems? (.ref (I+1)) >>= _) _ _ _
 refine AA0 (ADy s2 rfl ?_)
 show wpAny _ A.in1 (tryCatch (pyNext (.ref I)) _ >>= _) _ _ _
 refine AA0 (ADz (W.item 0 _ _ _ hne ⟨i2,l2⟩ λv h' tk hP hst' hk'=>?_))
 have hS':=hk' (I+1) _ (by simp) s2
 show wpAny _ A.in1 (updateSeq (I+1) (λ_=>#[v,v]) >>= _) _ _ _
 refine AA0 ?_
 refine AD0 hS' rfl ?_
 rw[hname]
 have oth:∀{b:Addr}{o:Obj}{x:Obj->Obj},b≠I+1->h'.get? b=some o->(h'.update (I+1) x).get? b=some o:=λhb e=>(AAj _ _ (ABG hb)).trans e
 refine AA3 ⟨AC5 ABU _,AD (S:=I+1) hh (AAH hlt) (Nat.succ_ne_self _) (AAH (ABi hlt)) hI0 hS0 hc _ 0 _ tk v _ rfl hne (hst'.1.at λo e=>oth (AAH (ACg _)) e) (hst'.2.at λo e=>oth (AAH (ABi hlt)) e) (λb o e=>oth (λz=>?_) (hk' b o (λz=>?_) (o2 b o e))) hP (AAd _ hS' rfl) hQ⟩
 ·rw[z,hS0]at e;cases e
 ·rw[AAS.mp z,hI0]at e;cases e
def tL:DRA:=λds M Q=>match ds with
 | [.ref n]=>∃xs,ap M n xs/\xs≠[]/\(∀x∈xs,okD M eqN x=true)/\(∀x∈xs,∀y∈xs,eV M eqN x y=true)/\∀m,xs[argBest (λi j=>ltD M eqN (xs.getD i .non) (xs.getD j .non)) (xs.length-1)]?=some m->Q m M
 | _=>False
theorem Cg(hr:Room k X.A)(hc:X.calm=true):eU X (.builtin "min") tL:=by
 rintro pins s σ H vs us R I rv ⟨ds,M,ρ,Q,sm,rs,q,kk⟩
 unfold tL at q
 split at q
 ·obtain⟨xs,hL,hne0,okd,cm,q⟩:=q
  first | have hzz:=Reps.inv_cons rs | have hzz:=ay.inv_cons rs
  clear rs
  obtain⟨_,_,rfl,r1,rs⟩:=hzz
  obtain rfl:=Reps.inv_nil rs
  obtain⟨u,rfl,e1⟩:=ay.one rv
  obtain⟨a,rfl,e⟩:=Rep.inv_ref r1
  cases e1
  obtain⟨ws,hq,r⟩:=ap.seq sm hL e
  obtain⟨its,rr,pl,hz⟩:=I.list hq
  obtain⟨m,hn,hm⟩:=I.loc
  have lw:=r.length
  have li:=rr.length
  have n0:0<xs.length:=AEM.mpr hne0
  have kp:∀{h':Heap}{tk:Nat},sf s h'->Inv X pins σ H { s with heap:=h',toks:=tk }:=λho=>I.keptF (λb u _ e=>ho b u e) hn (Heap.Ns.at' hn λo e=>ho _ o e)
  have gd:∀{i:Nat}{d:D},xs[i]?=some d->xs.getD i .non=d:=λe=>by rw[AAI,e];rfl
  refine AE (bt:=λi j=>ltD M eqN (xs.getD i .non) (xs.getD j .non)) (I.ok.hd hc) pl.isList (by simp;lia) (λh tk i j vi vj hi hj ho=>?_) λv h' tk hv ho=>?_
  ·obtain⟨d,x,ed,rd,xd⟩:=gu r rr (by simpa using hi)
   obtain⟨d',x',ed',rd',xd'⟩:=gu r rr (by simpa using hj)
   rw[gd ed,gd ed']
   exact uC (kp ho) sm eqN X.A.in1 _ _ x x' _ _ (by have:=hr.un;show X.A.units+1+eqN<cLine;unfold eqN;lia) rd xd rd' xd' (okd d (AAc ed)) (okd d' (AAc ed')) (cm d (AAc ed) d' (AAc ed'))
  ·rw[show its.toArray.size=xs.length by simp;lia]at hv
   obtain⟨d,x,ed,rd,xd⟩:=gu r rr (by simpa using hv)
   exact⟨x,H,kp ho,xd,kk _ _ ⟨d,M,ρ,sm,.refl,rd,q d ed⟩⟩
 ·exact q.elim
theorem BB(hr:Room k X.A)(hc:X.calm=true:=by kernel_rfl):HC X (.builtin "min") tL:=⟨Cg hr hc⟩
end L2
namespace LW
open PySem L2
local macro_rules | `(tactic| walk_at "sc")=>`(tactic| exact⟨rfl,rfl,rfl,by decide +kernel,rfl,by decide +kernel,by decide +kernel⟩)
local macro_rules | `(tactic| walk_at "dl")=>`(tactic| simp only[EE,xOf,Cy,xIf,wG,xCB,dTry,qu,dIsV,wd,mS,aI,dIf,zo,yt,dOr,aG,dCB,aa,am,bo,yr,yq,dLC,oJ,bx,aA,bI,bb,fU,iK,dOp,dC,ac,fG,cR,dSl,bF,bW,dMs,dMl,bE,jZ,yQ,qAdd,aK,Ct,fQ,jB,qV,qLt,qGt,qEq,qNe,Dd,ja,De,qIx,qSl,bO,zp,oF,mv,bV,mw,hV,tM,bN,rT,ka,rS,jY,dMt,gX,eQ,dn,qW,tL,iZ,BZ,hW,gZ,dA,SqAt,mC,Dc,nA,gY,iz,at0,at1,at2,tyD,dst,cc,Fw,AAN,AET,ACh,AAr,List.getElem?_cons_zero,List.getElem?_cons_succ,AAG,AAY,List.replicate_zero,List.replicate_succ,ADc,ADd,AEV,Nat.reduceAdd,Nat.reduceSub,Option.join_some,if_true,if_false,AAR])
noncomputable def top(i:Nat):Stmt:=PySem.Challenge.pw_talkmarks_k16_logs_that_clash.main.body.getD i (.Pass ⟨0,0,0,0⟩)
noncomputable abbrev T_:sh:=[(AA2 "Clash",[(AA2 "",true),(AA2 "TalkError",true),(AA2 "Clash",true),(AA2 "NoRoom",false),(AA2 "NoHouse",false),(AA2 "NoDeed",false),(AA2 "Gap",false),(AA2 "NoRow",false),(AA2 "NoName",false),(AA2 "NoMessage",false),(AA2 "NoWhat",false),(AA2 "NotYours",false),(AA2 "NoSaying",false),(AA2 "Strange",false)])]
noncomputable abbrev B_:List Str:=["sorted","tuple","dict","len","min","range","list","max","isinstance","ValueError","bool","any"]
noncomputable abbrev C_:List (Str×Int):=[]
noncomputable def meth(i j:Nat):Stmt:=match top i with
 | .ClassDef _ _ _ b ..=>b.getD j (.Pass ⟨0,0,0,0⟩)
 | s=>s
noncomputable abbrev eZ:List Str:=["deed"]
noncomputable abbrev dP:List Str:=["deed","vector"]
noncomputable abbrev dN:List Str:=["log"]
noncomputable abbrev cZ:List Str:=["log","vector"]
noncomputable abbrev fb:List Str:=["deed"]
noncomputable abbrev bP:List Str:=["one","other"]
noncomputable abbrev bQ:List Str:=["one","other"]
noncomputable abbrev cA:List Str:=["one","other"]
noncomputable abbrev ig:List Str:=["_law_script","_law_k"]
noncomputable abbrev uh:List Str:=["_law_well_here","_law_many"]
noncomputable abbrev Al:List Str:=["_law_cell","_law_k"]
noncomputable abbrev ui:List Str:=["_law_cell","_law_k"]
noncomputable abbrev uf:List Str:=["_law_cell","_law_k"]
noncomputable abbrev nD:List Str:=["_law_script","_law_start","_law_most"]
noncomputable abbrev ud:List Str:=["_law_well_here"]
noncomputable abbrev nC:List Str:=["_law_well_here","_law_many"]
noncomputable abbrev nF:List Str:=["_law_well_here"]
noncomputable abbrev nG:List Str:=["_law_house_here"]
noncomputable abbrev jH:List Str:=["_law_well_here","_law_house_here"]
noncomputable abbrev nE:List Str:=["_law_well_here","_law_house_here","_law_stamps"]
noncomputable abbrev jG:List Str:=["_law_well_here","_law_house_here"]
noncomputable abbrev ue:List Str:=["_law_well_here","_law_house_here","_law_stamps"]
noncomputable abbrev Ap:List Str:=["_law_well_here","_law_house_here","_law_stamps"]
noncomputable abbrev Am:List Str:=["_law_wells_here","_law_house_here"]
noncomputable abbrev uj:List Str:=["_law_well_here","_law_house_here","_law_log_here"]
noncomputable abbrev ii:List Str:=["_law_well_here","_law_house_here","_law_log_here"]
noncomputable abbrev da:List Str:=["_law_deed"]
noncomputable abbrev Ao:List Str:=["_law_one","_law_other"]
noncomputable abbrev ie:List Str:=["_law_one","_law_other","_law_due_here"]
noncomputable abbrev An:List Str:=["_law_script"]
structure Tops(P:Program)(w:World)(K:AA1)(mg:Str->Option Value)(base:Heap):Prop where
 f_stamp_of:cS K mg "stamp_of" (top 15) eZ
 f_is_within:cS K mg "is_within" (top 16) dP
 f_vector_of:cS K mg "vector_of" (top 18) dN
 f_lacking_in:cS K mg "lacking_in" (top 19) cZ
 f_place_of:cS K mg "place_of" (top 20) fb
 f_unlike_places:cS K mg "unlike_places" (top 21) bP
 f_refuse_unlike:cS K mg "refuse_unlike" (top 22) bQ
 f_joined_logs:cS K mg "joined_logs" (top 23) cA
 f_cell_at:cS K mg "_law_cell_at" (top 25) ig
 f_take:cS K mg "_law_take" (top 26) uh
 f_mix:cS K mg "_law_mix" (top 27) Al
 f_rich:cS K mg "_law_rich" (top 28) ui
 f_well:cS K mg "_law_well" (top 29) uf
 f_wells:cS K mg "_law_wells" (top 30) nD
 f_word:cS K mg "_law_word" (top 31) ud
 f_words:cS K mg "_law_words" (top 32) nC
 f_house:cS K mg "_law_house" (top 33) nF
 f_hands:cS K mg "_law_hands" (top 34) nG
 f_saying:cS K mg "_law_saying" (top 35) jH
 f_stamp:cS K mg "_law_stamp" (top 36) nE
 f_vector:cS K mg "_law_vector" (top 37) jG
 f_what:cS K mg "_law_what" (top 38) ue
 f_act:cS K mg "_law_act" (top 39) Ap
 f_log:cS K mg "_law_log" (top 40) Am
 f_part:cS K mg "_law_part" (top 41) uj
 f_altered:cS K mg "_law_altered" (top 42) ii
 f_l_stamp_of:cS K mg "_law_stamp_of" (top 43) da
 f_due:cS K mg "_law_due" (top 44) Ao
 f_refused:cS K mg "_law_refused" (top 45) ie
 f_law:cS K mg "law" (top 46) An
 x_Clash:XiAt K "Clash" "Clash.__init__" (meth 12 0) ["self","hand","number"] "hand" "number"
 y_Clash_number:XFld K "Clash" "number"
 y_Clash_hand:XFld K "Clash" "hand"
 b:TopB mg B_ C_
 cl:cO K T_=true
local macro_rules | `(tactic| walk_at "bb")=>`(tactic| first | exact FK | exact Cn | exact Cm | exact cH | exact FJ | exact Cl | exact FI | exact FH | exact mL | exact yz)
local macro_rules | `(tactic| walk_at "tb")=>`(tactic| exact TopB.no (by k_dflt assumption) (by kernel_rfl))
local macro_rules | `(tactic| walk_at "dvr")=>`(tactic| (repeat' (first | (with_reducible first | (refine gA ?_;first | exact EA | refine Bg ?_ ?_) | exact k_var | (refine EZ ?_;first | exact k_int | exact k_bl | exact k_non | exact k_str) | (refine gCall ?_;first | refine rH ?_ (by walk_at "tb") | refine oo (by k_dflt assumption) ?_ (by walk_at "tb") | refine Bi (by k_dflt assumption) (by k_dflt assumption) ?_ (by walk_at "tb") | refine Bl ?_ (by walk_at "tb") (by walk_at "bb") ?_ | refine xL ?_ (by walk_at "tb") (by walk_at "bb") ?_ | refine k_cal (by k_dflt assumption) (by k_dflt assumption) ?_ | refine Bh (by k_dflt assumption) ?_ ?_ | refine k_ms ?_ ?_ ?_ | refine k_ml ?_ ?_ ?_) | (refine gIx ?_;first | refine Bj ?_ ?_ ?_ | refine ED (by k_dflt assumption) ?_ ?_ (hs:=by k_dflt (intro _ _;kernel_rfl)) | refine k_ix ?_ ?_ (hs:=by k_dflt (intro _ _;kernel_rfl))) | (refine gT ?_;first | refine En ?_ ?_ ?_ | refine Em ?_ | refine kw_t (yU ?_ ?_) | refine kw_t (Ek ?_ ?_) | refine El ?_) | (refine gE ?_;first | exact EC | exact Bk | exact EB (by walk_at "tb") (by walk_at "bb") | refine k_op ?_ ?_ ?_ | refine k_not ?_ | refine k_cmp ?_ ?_ ?_ | refine k_one ?_ | refine k_and ?_ ?_ | refine k_tup ?_ | refine k_lst ?_ | refine k_lcN ?_ (λ_ _ _ _=>?_) (λ_ _ _ _=>?_) (λ_ _ _ _=>?_) | refine EF (by k_dflt assumption) (by walk_at "tb") ?_ | refine EG (by k_dflt assumption) (by walk_at "tb") (by walk_at "tb") ?_ | refine EH (by k_dflt assumption) ?_) | (refine gS ?_;first | refine uY ?_ | refine yY ?_ | refine Er ?_ ?_ ?_ | refine lX (by k_dflt assumption) ?_ (λ_ _ _ _=>?_) (λ_ _ _ _=>?_) (λ_ _ _ _=>?_) | refine yX (by k_dflt assumption) ?_ | refine za ?_ ?_ | refine yW (by k_dflt assumption) (by k_dflt assumption) ?_ (λ_=>?_) | refine uX (by k_dflt assumption) ?_ ?_ ?_ | refine uZ (by k_dflt assumption) ?_ ?_ ?_ | refine yZ ?_ ?_ ?_) | (refine gOp ?_;first | exact Bx | exact ho_eq (by k_dflt assumption) | exact Bw | exact ho_gt | exact ho_lt | exact ER | exact EQ | exact ho_ne (by k_dflt assumption) | exact EO | exact EN) | (refine gC ?_;first | exact EV | exact vJ (by k_dflt assumption) | exact EU | exact ET | exact BD | exact BC | exact BB (by k_dflt assumption) | exact vI (by k_dflt assumption) | exact rL (by k_dflt assumption) | exact xU) | exact Ep | exact AY | exact Bb | exact Be | refine Eo ?_ | refine yU ?_ ?_ | refine Ek ?_ ?_ | refine AU ?_ | refine Ej ?_ | refine AX ?_ | refine Ba ?_ | refine ve (by walk_at "tb") ?_ | refine vc (by walk_at "tb") ?_ | refine Es ?_ | exact Bf (by k_dflt assumption) | exact Ev (Ec (by kernel_rfl)) | refine xH ?_ ?_ | refine Et ?_ | refine Eu ?_ ?_ | refine yT (by k_dflt assumption) (by k_dflt assumption) ?_ | refine Ei ?_ ?_ ?_ | refine uT ?_ | refine lW (by k_dflt assumption) (by k_dflt assumption) ?_ | refine Eh ?_ | exact AT | refine uS ?_ | refine qm ?_ ?_ | exact vD | exact vC | exact xR | exact vB | exact By) | refine AZ ?_ ?_ | refine Eh ?_ | refine uY ?_ | refine yY ?_ | refine Er ?_ ?_ ?_ | refine lX (by k_dflt assumption) ?_ (λ_ _ _ _=>?_) (λ_ _ _ _=>?_) (λ_ _ _ _=>?_) | refine yX (by k_dflt assumption) ?_ | refine za ?_ ?_ | refine yW (by k_dflt assumption) (by k_dflt assumption) ?_ (λ_=>?_) | refine EF (by k_dflt assumption) (by walk_at "tb") ?_ | refine EG (by k_dflt assumption) (by walk_at "tb") (by walk_at "tb") ?_ | refine yT (by k_dflt assumption) (by k_dflt assumption) ?_ | refine Ei ?_ ?_ ?_ | refine uT ?_ | refine lW (by k_dflt assumption) (by k_dflt assumption) ?_ | refine uS ?_ | refine qm ?_ ?_ | refine uX (by k_dflt assumption) ?_ ?_ ?_ | refine uZ (by k_dflt assumption) ?_ ?_ ?_ | refine yZ ?_ ?_ ?_)))
local macro_rules | `(tactic| walk_at "dv")=>`(tactic| (intro _ _ _ _ _ _ _ _ _ _;refine BE rfl ?_;walk_at "dvr"))
local macro_rules | `(tactic| walk_at "dvx")=>`(tactic| (intro _ _ _ _ _ _ _ _ _ _;refine Bv rfl ?_;walk_at "dvr"))
theorem qZ(T:Tops P w K mg base):wD P w K mg base 1 "Clash" "hand" "number":=wD.byI T.x_Clash (by walk_at "sc") rfl (by kernel_rfl) (by kernel_rfl) (by kernel_rfl) (by kernel_rfl) (by kernel_rfl) (by kernel_rfl) (by kernel_rfl)
section
variable{P:Program}{w:World}{K:AA1}{mg:Str->Option Value}{base:Heap}
local macro_rules | `(tactic| walk_at "ifs")=>`(tactic| simp only[yQ,AAR,↓reduceIte,Bool.not_true,Bool.not_false])
noncomputable def gdD(M:Mem):Nat->D->Bool
 | _,.str x=>decide (x.length<=1000)
 | _,.ty _=>false
 | n+1,.tup xs=>decide (xs.length<=1000)&&xs.all (gdD M n)
 | n+1,.ref i=>match M[i]? with
  | some a=>a.isL&&a.items.all (gdD M n)
  | none=>false
 | 0,.tup _=>false
 | 0,.ref _=>false
 | _,_=>true
theorem gd_ok:∀(n m:Nat) (d:D),n<=m->gdD M n d=true->okD M m d=true:=by
 intro n
 induction n with
 | zero =>
  intro m d _ h
  cases d with
  | tup xs=>cases h
  | ref i=>cases h
  | ty t=>cases h
  | non=>exact jL
  | bl b=>exact qd
  | int i=>exact aB
  | str x=>exact dR
 | succ n ih =>
  intro m d hm h
  cases m with
  | zero=>lia
  | succ m =>
   cases d with
   | tup xs =>
    have h':(decide (xs.length<=1000)&&xs.all (gdD M n))=true:=h
    rw[AAK,AAb]at h'
    exact nJ λx hx=>ih m x (by lia) (h'.2 x hx)
   | ref i =>
    simp only[gdD]at h
    cases e:M[i]? with
    | none=>rw[e]at h;cases h
    | some a =>
     rw[e]at h
     simp only[AAK,AAb]at h
     show (match M[i]? with | some a=>a.isL&&a.items.all (okD M m) | none=>false)=true
     rw[e]
     simp only[AAK,AAb]
     exact⟨h.1,λx hx=>ih m x (by lia) (h.2 x hx)⟩
   | ty t=>cases h
   | non=>exact jL
   | bl b=>exact qd
   | int i=>exact aB
   | str x=>exact dR
def Gdn(M:Mem)(n:Nat)(d:D):Prop:=n<=30/\gdD M n d=true
theorem ae{B:Mem}{q:Nat}{x a:MO}(h:B[q]?=some x):(B++[a])[q]?=some x:=by
 rw[AAJ (AA5.mp h).1];exact h
theorem gd_none:∀y∈([]:List D),Gdn M n y:=λ_ z=>nomatch z
noncomputable def aH(p:Str×Int):D:=.tup [.str p.1,.int p.2]
def Hd(d:D):Prop:=∃(x:Str) (k:Int),d=.tup [.str x,.int k]
theorem oy(ha:Hd a)(hb:Hd b):eqD M (n+1) a b=true↔a=b:=by
 obtain⟨x,k,rfl⟩:=ha
 obtain⟨y,l,rfl⟩:=hb
 show (eqD M n (.str x) (.str y)&&(eqD M n (.int k) (.int l)&&true))=true↔_
 rw[oA,bw]
 simp
theorem rK(ha:Hd a):okD M eqN a=true:=by
 obtain⟨x,k,rfl⟩:=ha
 rfl
noncomputable def sk(hs:List (D×Int)):List D:=hs.map λp=>.tup [p.1,.int p.2]
noncomputable def dG(hs:List (D×Int))(hd:D)(num:Int):Bool:=match hs.find? λp=>decide (p.1=hd) with
 | some p=>decide (num<p.2)
 | none=>false
noncomputable def plD:Nat->D->Bool
 | n+1,.tup xs=>xs.all (plD n)
 | 0,.tup _=>false
 | _,.ref _=>false
 | _,.ty _=>false
 | _,_=>true
def Pln(n:Nat)(d:D):Prop:=plD n d=true
def qG(n:Nat)(ds:List D):Prop:=ds.all (plD n)=true
theorem Pln.non:Pln n .non:=by cases n<;>rfl
theorem Pln.bl(b:Bool):Pln n (.bl b):=by cases n<;>rfl
theorem Pln.int(i:Int):Pln n (.int i):=by cases n<;>rfl
theorem Pln.str(x:Str):Pln n (.str x):=by cases n<;>rfl
theorem qG.nil:qG n []:=rfl
theorem qG.cons(h:Pln n d)(t:qG n ds):qG n (d::ds):=by
 unfold qG Pln at *
 rw[ABY,h,t];rfl
theorem Pln.tup(h:qG n ds):Pln (n+1) (.tup ds):=h
theorem qG.of(h:∀d∈ds,Pln n d):qG n ds:=AAb.mpr h
theorem tU:∀(n:Nat) (d:D),Pln n d->Bel k d:=by
 intro n
 induction n with
 | zero =>
  intro d h
  cases d with
  | tup xs=>cases h
  | ref i=>cases h
  | ty t=>cases h
  | non=>exact .non
  | bl b=>exact .bl b
  | int i=>exact .int i
  | str x=>exact .str x
 | succ n ih =>
  intro d h
  cases d with
  | tup xs=>exact .tup (Bels.of λx hx=>ih x (AAb.mp h x hx))
  | ref i=>cases h
  | ty t=>cases h
  | non=>exact .non
  | bl b=>exact .bl b
  | int i=>exact .int i
  | str x=>exact .str x
theorem qr:∀{xs:List D},(∀x∈xs,f x x=true)->eqL f xs xs=true
 | [],_=>rfl
 | x::xs,h=>by
  show (f x x&&eqL f xs xs)=true
  rw[h x (by simp),qr λy hy=>h y (AA9 _ hy)];rfl
theorem lF:∀(n m:Nat) (d:D),n<=m->Pln n d->okD M m d=true/\eqD M m d d=true:=by
 intro n
 induction n with
 | zero =>
  intro m d _ h
  cases d with
  | tup xs=>cases h
  | ref i=>cases h
  | ty t=>cases h
  | non=>exact⟨jL,by cases m<;>rfl⟩
  | bl b=>exact⟨qd,by cases m<;>cases b<;>rfl⟩
  | int i=>exact⟨aB,by rw[bw];exact beq_self_eq_true i⟩
  | str x=>exact⟨dR,by rw[oA];exact beq_self_eq_true x⟩
 | succ n ih =>
  intro m d hm h
  cases m with
  | zero=>lia
  | succ m =>
   cases d with
   | tup xs=>exact⟨nJ λx hx=>(ih m x (by lia) (AAb.mp h x hx)).1,qr λx hx=>(ih m x (by lia) (AAb.mp h x hx)).2⟩
   | ref i=>cases h
   | ty t=>cases h
   | non=>exact⟨jL,rfl⟩
   | bl b=>exact⟨qd,by cases b<;>rfl⟩
   | int i=>exact⟨aB,by rw[bw];exact beq_self_eq_true i⟩
   | str x=>exact⟨dR,by rw[oA];exact beq_self_eq_true x⟩
theorem ou(h:Hd d):Pln (n+1) d:=by
 obtain⟨x,i,rfl⟩:=h
 exact .tup (.cons (.str _) (.cons (.int _) .nil))
theorem vH(h:Hd d):Bel k d:=tU 1 d (ou h)
def dg(d:D):Prop:=∃(t:Int) (hd:D) (num:Int) (act:D),d=.tup [.int t,hd,.int num,act]/\Hd hd/\Pln 5 act
theorem bD(h:dg d):Pln 6 d:=by
 obtain⟨t,hd,num,act,rfl,hh,ha⟩:=h
 exact .tup (.cons (.int _) (.cons (ou hh) (.cons (.int _) (.cons ha .nil))))
theorem yo(h:dg d):Bel k d:=tU 6 d (bD h)
theorem mz(h:∀d∈ds,dg d):Bels k ds:=Bels.of λd hd=>yo (h d hd)
noncomputable def aw:D->D
 | .tup (_::h::_)=>h
 | _=>.non
noncomputable def bB:D->Int
 | .tup (_::_::.int n::_)=>n
 | _=>0
noncomputable def many(log:List D)(hd:D):Nat:=(log.filter λd=>decide (aw d=hd)).length
def HKv(kvs:List (D×D)):Prop:=∀p∈kvs,Hd p.1/\∃i:Int,p.2=.int i
theorem vF(h:HKv kvs)(hk:Hd k):HKv (ck kvs k (.int i)):=by
 unfold ck
 split
 ·intro p hp
  obtain⟨q,hq,rfl⟩:=AAF.mp hp
  split
  ·exact⟨(h q hq).1,i,rfl⟩
  ·exact h q hq
 ·intro p hp
  rcases AAT.mp hp with hp | hp
  ·exact h p hp
  ·rw[AAS.mp hp];exact⟨hk,i,rfl⟩
theorem Bz(h:HKv kvs)(l:kvs.length<64):SrtOk M (bG kvs):=by
 have at_:∀x∈bG kvs,∃z i j,x=.tup [.tup [.str z,.int i],.int j]:=λx hx=>by
  obtain⟨p,hp,rfl⟩:=AAF.mp hx
  obtain⟨⟨z,i,e1⟩,j,e2⟩:=h p hp
  rw[e1,e2]
  exact⟨z,i,j,rfl⟩
 refine⟨by unfold bG;rw[AA6];exact l,λx hx=>?_,λx hx y hy=>?_,.inr (.inr (.inr (.inr λx hx=>?_)))⟩
 ·obtain⟨z,i,j,rfl⟩:=at_ x hx;rfl
 ·obtain⟨z,i,j,rfl⟩:=at_ x hx
  obtain⟨z',i',j',rfl⟩:=at_ y hy
  show (if eqD M 29 (.tup [.str z,.int i]) (.tup [.str z',.int i'])=true then(if eqD M 29 (.int j) (.int j')=true then true else true)else(if eqD M 28 (.str z) (.str z')=true then(if eqD M 28 (.int i) (.int i')=true then true else true)else true))=true
  repeat' split
  all_goals rfl
 ·obtain⟨z,i,j,rfl⟩:=at_ x hx;exact⟨_,_,rfl⟩
theorem ES(h:HKv kvs)(hx:x∈bG kvs)(hy:y∈bG kvs):ltD M eqN x y=ltD M' eqN x y:=by
 obtain⟨p,hp,rfl⟩:=AAF.mp hx
 obtain⟨q,hq,rfl⟩:=AAF.mp hy
 obtain⟨⟨z,i,e1⟩,j,e2⟩:=h p hp
 obtain⟨⟨z',i',e3⟩,j',e4⟩:=h q hq
 rw[e1,e2,e3,e4]
 rfl
theorem BA(h:HKv kvs)(p:ys.Perm (bG kvs)):Bels k ys:=Bels.of λd hd=>by
 obtain⟨q,hq,rfl⟩:=AAF.mp (p.mem_iff.mp hd)
 obtain⟨e1,j,e2⟩:=h q hq
 rw[e2]
 exact .tup (.cons (vH e1) (.cons (.int _) .nil))
noncomputable def bp:D->Int
 | .tup (.int t::_)=>t
 | _=>0
noncomputable def stD:D->D
 | .tup (t::h::_)=>.tup [t,h]
 | _=>.non
def StH(d:D):Prop:=∃(t:Int) (h:D),d=.tup [.int t,h]/\Hd h
theorem eX(h:StH x):∃z i j,x=.tup [.int j,.tup [.str z,.int i]]:=by
 obtain⟨t,h,rfl,z,i,rfl⟩:=h
 exact⟨z,i,t,rfl⟩
theorem tD(h:StH x):okP eqN x=true:=by
 obtain⟨z,i,j,rfl⟩:=eX h;rfl
theorem yO(hx:StH x)(hy:StH y):eV M eqN x y=true:=by
 obtain⟨z,i,j,rfl⟩:=eX hx
 obtain⟨z',i',j',rfl⟩:=eX hy
 show (if eqD M 29 (.int j) (.int j')=true then(if eqD M 29 (.tup [.str z,.int i]) (.tup [.str z',.int i'])=true then true else(if eqD M 28 (.str z) (.str z')=true then(if eqD M 28 (.int i) (.int i')=true then true else true)else true))else true)=true
 repeat' split
 all_goals rfl
theorem fv(M:Mem)(hx:StH x)(hy:StH y):Tri x y eqN (ltD M eqN x y) (ltD M eqN y x):=zG M eqN x y (tD hx) (tD hy) (yO hx hy)
theorem lc(hx:StH x)(hy:StH y):ltD M eqN x y=ltD M' eqN x y:=by
 obtain⟨z,i,j,rfl⟩:=eX hx
 obtain⟨z',i',j',rfl⟩:=eX hy
 rfl
theorem pO(h:∀d∈xs,StH d)(l:xs.length<64):SrtOk M xs :=
 ⟨l,λx hx=>tD (h x hx),λx hx y hy=>yO (h x hx) (h y hy),.inr (.inr (.inr (.inl λx hx=>by
  obtain⟨z,i,j,rfl⟩:=eX (h x hx)
  exact⟨_,_,rfl⟩)))⟩
theorem aM(h:dg d):StH (stD d):=by
 obtain⟨t,hd,num,act,rfl,hh,_⟩:=h
 exact⟨t,hd,rfl,hh⟩
theorem cw:∀{kvs:List (D×D)},bi (ck kvs k d) k=some d
 | []=>by unfold ck bi;simp
 | p::kvs=>by
  unfold ck
  split
  ·rename_i hs
   unfold bi at hs ⊢
   rw[AD2]at hs
   obtain⟨q,hq⟩:=ABv.mp hs
   rw[List.find?_map]
   have e:((λp:D×D=>decide (p.1=k)) ∘ λp:D×D=>if p.1=k then(p.1,d)else p)=λp=>decide (p.1=k):=by
    funext p
    show decide ((if p.1=k then(p.1,d)else p).1=k)=decide (p.1=k)
    split<;>rfl
   rw[e,hq]
   have hk:q.1=k:=by
    have:=ADe hq
    exact oT_ this
   show some (if q.1=k then(q.1,d)else q).2=_
   rw[if_pos hk]
  ·rename_i hs
   unfold bi at hs ⊢
   rw[AD2,Option.not_isSome_iff_eq_none]at hs
   rw[List.find?_append,hs]
   simp
theorem fj(h:j≠k):bi (ck kvs k d) j=bi kvs j:=by
 unfold ck
 split
 ·unfold bi
  rw[List.find?_map]
  have e:((λp:D×D=>decide (p.1=j)) ∘ λp:D×D=>if p.1=k then(p.1,d)else p)=λp=>decide (p.1=j):=by
   funext p
   show decide ((if p.1=k then(p.1,d)else p).1=j)=decide (p.1=j)
   split<;>rfl
  rw[e]
  cases hf:kvs.find? λp=>decide (p.1=j) with
  | none=>rfl
  | some q =>
   have hq:q.1=j:=by
    have:=ADe hf
    exact oT_ this
   show some (if q.1=k then(q.1,d)else q).2=some q.2
   rw[if_neg (by rw[hq];exact h)]
 ·unfold bi
  rw[List.find?_append]
  cases hf:kvs.find? λp=>decide (p.1=j) with
  | none=>simp[ABG h]
  | some q=>rfl
theorem lB(h:∀p∈kvs,∃t:Int,p.2=.int t):∀p∈ck kvs k (.int i),∃t:Int,p.2=.int t:=by
 unfold ck
 split
 ·intro p hp
  obtain⟨q,hq,rfl⟩:=AAF.mp hp
  split
  ·exact⟨i,rfl⟩
  ·exact h q hq
 ·intro p hp
  rcases AAT.mp hp with hp | hp
  ·exact h p hp
  ·rw[AAS.mp hp];exact⟨i,rfl⟩
structure LogN(log:List D):Prop where
 deed:∀d∈log,dg d
 len:log.length<=40
 nums:∀h,(log.filter λd=>decide (aw d=h)).map bB=(AAx (many log h)).map Int.ofNat
 up:log.Pairwise λa b=>ltD [] eqN (stD a) (stD b)=true
noncomputable def jk(c:D->Int)(log:List D):List D:=log.filter λd=>decide (bB d<c (aw d))
theorem Cf(h:d∈jk c log):d∈log:=(AAX.mp h).1
theorem lA(k:Int):∀n:Nat,(AAx n).filter (λi:Nat=>decide ((i:Int)<k))=AAx (min n k.toNat)
 | 0=>by simp
 | n+1=>by
  rw[List.range_succ,ADf,lA k n,ACi]
  by_cases h:(n:Int)<k
  ·rw[dT_ h,if_pos rfl,AEJ (show n<=k.toNat by lia),AEJ (show n+1<=k.toNat by lia),List.range_succ];rfl
  ·rw[dF_ h,if_neg (by decide),Nat.min_eq_right (show k.toNat<=n by lia),Nat.min_eq_right (show k.toNat<=n+1 by lia)];simp
theorem yw(h:D):(jk c log).filter (λd=>decide (aw d=h))=(log.filter λd=>decide (aw d=h)).filter λd=>decide (bB d<c h):=by
 unfold jk
 rw[List.filter_filter,List.filter_filter]
 refine List.filter_congr λd _=>?_
 by_cases e:aw d=h
 ·rw[e,Bool.and_comm]
 ·rw[dF_ e,ADv,Bool.and_false]
theorem qv(ok:LogN log)(h:D):((jk c log).filter λd=>decide (aw d=h)).map bB=(AAx (min (many log h) (c h).toNat)).map Int.ofNat:=by
 have e:∀l:List D,(l.filter λd=>decide (bB d<c h)).map bB=(l.map bB).filter λi=>decide (i<c h):=λl=>by
  rw[ADg];rfl
 rw[yw,e,ok.nums,ADg,<-lA];rfl
theorem qx(ok:LogN log)(h:D):many (jk c log) h=min (many log h) (c h).toNat:=by
 have:=congrArg AC9 (qv (c:=c) ok h)
 rw[AA6,AA6,List.length_range]at this
 exact this
theorem zq(ok:LogN log):LogN (jk c log) :=
 ⟨λd hd=>ok.deed d (Cf hd),AAh (ABt _ _) ok.len,λh=>by rw[qv ok,qx ok],ok.up.filter _⟩
theorem ij(ok:LogN log)(h:d∈log):∃i:Nat,bB d=i/\i<many log (aw d):=by
 have hm:bB d∈(log.filter λx=>decide (aw x=aw d)).map bB:=AAF.mpr ⟨d,AAX.mpr ⟨h,dT_ rfl⟩,rfl⟩
 rw[ok.nums]at hm
 obtain⟨i,hi,e⟩:=AAF.mp hm
 exact⟨i,e.symm,ABV.mp hi⟩
theorem lK:∀{l:List D},(l.map f).Nodup->∀{a b:D},a∈l->b∈l->f a=f b->a=b
 | [],_,_,_,h,_,_=>nomatch h
 | x::l,nd,a,b,ha,hb,e=>by
  rw[AAN,ABn]at nd
  rcases AAL.mp ha with ea | ha
  ·rcases AAL.mp hb with eb | hb
   ·rw[ea,eb]
   ·exact absurd (AAF.mpr ⟨b,hb,by rw[<-e,ea]⟩) nd.1
  ·rcases AAL.mp hb with eb | hb
   ·exact absurd (AAF.mpr ⟨a,ha,by rw[e,eb]⟩) nd.1
   ·exact lK nd.2 ha hb e
theorem eI(ok:LogN log)(ha:a∈log)(hb:b∈log)(h1:aw a=aw b)(h2:bB a=bB b):a=b:=by
 refine lK (f:=bB) (l:=log.filter λd=>decide (aw d=aw b)) ?_ (AAX.mpr ⟨ha,dT_ h1⟩) (AAX.mpr ⟨hb,dT_ rfl⟩) h2
 rw[ok.nums]
 unfold List.Nodup
 rw[AAt]
 exact List.nodup_range.imp λh e=>h (by injection e)
theorem lZ{p q:D->Bool}:∀l:List D,(l.filter p++l.filter λd=>q d && !p d).Perm (l.filter λd=>p d||q d)
 | []=>ADD _
 | d::l=>by
  have ih:=lZ (p:=p) (q:=q) l
  simp only[ACi]
  cases hp:p d<;>cases hq:q d
  ·exact ih
  ·simp only[Bool.not_false,Bool.and_self,Bool.or_true,if_true,AAR,if_false]
   exact List.perm_middle.trans (ih.cons d)
  ·simpa using ih.cons d
  ·simpa using ih.cons d
theorem AH(ok:LogN log)(hp:ys.Perm log)(r:ys.Pairwise λa b=>ltD M eqN (stD b) (stD a)=false):ys=log:=by
 refine ACZ (le:=λa b=>ltD M eqN (stD b) (stD a)=false) (λa b ha hb h1 h2=>?_) r ?_ hp
 ·have ma:=hp.mem_iff.mp ha
  have es:stD a=stD b:=by
   rcases fv M (aM (ok.deed a ma)) (aM (ok.deed b hb))with t | t | t
   ·exact t.1
   ·rw[t.2.1]at h2;cases h2
   ·rw[t.2.2.1]at h1;cases h1
  by_cases e:a=b
  ·exact e
  ·exfalso
   have ir:ltD [] eqN (stD a) (stD a)=true:=by
    obtain⟨i,hi,ei⟩:=ACe ma
    obtain⟨j,hj,ej⟩:=ACe hb
    have ne:i≠j:=λz=>e (by subst z;rw[<-ei,<-ej])
    have up:=ADH.mp ok.up
    rcases Nat.lt_or_gt_of_ne ne with h | h
    ·have:=up i j hi hj h
     rw[ei,ej,<-es]at this
     exact this
    ·have:=up j i hj hi h
     rw[ei,ej,<-es]at this
     exact this
   rcases fv [] (aM (ok.deed a ma)) (aM (ok.deed a ma))with t | t | t
   ·rw[t.2.1]at ir;cases ir
   ·exact t.1 rfl
   ·exact t.1 rfl
 ·refine(AAg.mp ok.up).imp λ{a b} ⟨ha,hb,h⟩=>?_
  have sa:=aM (ok.deed a ha)
  have sb:=aM (ok.deed b hb)
  rw[lc (M':=[]) sb sa]
  rcases fv [] sa sb with t | t | t
  ·exact t.2.2
  ·exact t.2.2.1
  ·rw[t.2.1]at h;cases h
theorem uA:∀{kvs:List (D×D)}{p:D×D},(kvs.map (·.1)).Nodup->p∈kvs->bi kvs p.1=some p.2
 | q::kvs,p,nd,h=>by
  rw[AAN,ABn]at nd
  unfold bi
  rw[ABc]
  rcases AAL.mp h with rfl | h
  ·rw[dT_ rfl];rfl
  ·have:q.1≠p.1:=λz=>nd.1 (by rw[z];exact ACd h)
   rw[dF_ this]
   exact uA nd.2 h
noncomputable def af(d:D):D:=.tup [aw d,.int (bB d)]
theorem zj:∀{xs ys:List D},(∀x∈xs,∀y,f x y=g x y)->eqL f xs ys=eqL g xs ys
 | [],[],_=>rfl
 | [],_::_,_=>rfl
 | _::_,[],_=>rfl
 | x::xs,y::ys,h=>by
  show (f x y&&eqL f xs ys)=(g x y&&eqL g xs ys)
  rw[h x (by simp) y,zj λz hz=>h z (AA9 _ hz)]
theorem zi:∀{xs ys:List D},(∀x∈xs,∀y,f x y=g y x)->eqL f xs ys=eqL g ys xs
 | [],[],_=>rfl
 | [],_::_,_=>rfl
 | _::_,[],_=>rfl
 | x::xs,y::ys,h=>by
  show (f x y&&eqL f xs ys)=(g y x&&eqL g ys xs)
  rw[h x (by simp) y,zi λz hz=>h z (AA9 _ hz)]
theorem oB:∀(n m m':Nat) (a b:D),n<=m->n<=m'->Pln n a->eqD M m a b=eqD M' m' a b:=by
 intro n
 induction n with
 | zero =>
  intro m m' a b _ _ h
  cases a with
  | tup xs=>cases h
  | ref i=>cases h
  | _=>cases m<;>cases m'<;>cases b<;>rfl
 | succ n ih =>
  intro m m' a b h1 h2 h
  cases m with
  | zero=>lia
  | succ m =>
   cases m' with
   | zero=>lia
   | succ m' =>
    cases a with
    | tup xs =>
     cases b with
     | tup ys=>exact zj λx hx y=>ih m m' x y (by lia) (by lia) (AAb.mp h x hx)
     | _=>rfl
    | ref i=>cases h
    | _=>cases b<;>rfl
theorem vQ:∀(m n:Nat) (a b:D),Pln n a->eqD M m a b=eqD M m b a:=by
 intro m
 induction m with
 | zero =>
  intro n a b h
  cases a<;>cases b<;>first | rfl | exact BEq.comm
 | succ m ih =>
  intro n a b h
  cases a with
  | tup xs =>
   cases b with
   | tup ys =>
    cases n with
    | zero=>cases h
    | succ n=>exact zi λx hx y=>ih n x y (AAb.mp h x hx)
   | _=>rfl
  | ref i=>cases n<;>cases h
  | _=>cases b<;>first | rfl | exact BEq.comm
theorem aW:af a=af b↔aw a=aw b/\bB a=bB b:=by
 unfold af
 rw[D.tup.injEq,ACU,ACU,D.int.injEq]
 exact⟨λh=>⟨h.1,h.2.1⟩,λh=>⟨h.1,h.2,rfl⟩⟩
noncomputable def unl(other:List D)(d:D):Bool:=other.any λe=>decide (af e=af d) && !eqD [] eqN e d
noncomputable def dZ(one other:List D):List D:=(one.filter (unl other)).map af
theorem gx:p∈dZ one other↔∃d∈one,∃e∈other,af d=p/\af e=p/\eqD [] eqN e d=false:=by
 unfold dZ
 rw[AAF]
 constructor
 ·rintro⟨d,hd,rfl⟩
  obtain⟨h1,h2⟩:=AAX.mp hd
  obtain⟨e,he,h3⟩:=ABx.mp h2
  rw[AAK,decide_eq_true_eq,AD6]at h3
  exact⟨d,h1,e,he,rfl,h3.1,h3.2⟩
 ·rintro⟨d,hd,e,he,rfl,h1,h2⟩
  refine⟨d,AAX.mpr ⟨hd,ABx.mpr ⟨e,he,?_⟩⟩,rfl⟩
  rw[dT_ h1,h2];rfl
theorem yD(ok:LogN other)(h:p∈dZ one other):p∈dZ other one:=by
 obtain⟨d,hd,e,he,h1,h2,h3⟩:=gx.mp h
 exact gx.mpr ⟨e,he,d,hd,h2,h1,(vQ eqN 6 e d (bD (ok.deed e he))).symm.trans h3⟩
def PlH(x:D):Prop:=∃(z:Str) (i j:Int),x=.tup [.tup [.str z,.int i],.int j]
theorem fx(h:PlH x):okP eqN x=true:=by
 obtain⟨z,i,j,rfl⟩:=h;rfl
theorem qa(hx:PlH x)(hy:PlH y):eV M eqN x y=true:=by
 obtain⟨z,i,j,rfl⟩:=hx
 obtain⟨z',i',j',rfl⟩:=hy
 show (if eqD M 29 (.tup [.str z,.int i]) (.tup [.str z',.int i'])=true then(if eqD M 29 (.int j) (.int j')=true then true else true)else(if eqD M 28 (.str z) (.str z')=true then(if eqD M 28 (.int i) (.int i')=true then true else true)else true))=true
 repeat' split
 all_goals rfl
theorem tV(hx:PlH x)(hy:PlH y):ltD M eqN x y=ltD M' eqN x y:=by
 obtain⟨z,i,j,rfl⟩:=hx
 obtain⟨z',i',j',rfl⟩:=hy
 rfl
theorem yP(M:Mem)(hx:PlH x)(hy:PlH y):Tri x y eqN (ltD M eqN x y) (ltD M eqN y x):=zG M eqN x y (fx hx) (fx hy) (qa hx hy)
theorem Do(h:∀d∈xs,PlH d)(l:xs.length<64):SrtOk M xs :=
 ⟨l,λx hx=>fx (h x hx),λx hx y hy=>qa (h x hx) (h y hy),.inr (.inr (.inr (.inr λx hx=>by
  obtain⟨z,i,j,rfl⟩:=h x hx
  exact⟨_,_,rfl⟩)))⟩
theorem jV(h:dg d):PlH (af d):=by
 obtain⟨t,hd,num,act,rfl,⟨z,i,rfl⟩,_⟩:=h
 exact⟨z,i,num,rfl⟩
theorem gw(ok:LogN one):∀p∈dZ one other,PlH p:=λp hp=>by
 obtain⟨d,hd,_,_,rfl,_⟩:=gx.mp hp
 exact jV (ok.deed d hd)
def ki(ps:List D)(p:D):Prop:=p∈ps/\∀q∈ps,ltD [] eqN q p=false
theorem uQ(h:∀x∈ps,PlH x)(hp:ki ps p)(hq:ki ps q):p=q:=by
 rcases yP [] (h p hp.1) (h q hq.1)with t | t | t
 ·exact t.1
 ·have:=hq.2 p hp.1
  rw[t.2.1]at this;cases this
 ·have:=hp.2 q hq.1
  rw[t.2.2.1]at this;cases this
theorem rZ(h:∀x∈ps,PlH x)(ne:ps≠[])(hm:ps[AEB (λi j=>ltD M eqN (ps.getD i .non) (ps.getD j .non)) (ps.length-1)]?=some m):ki ps m:=by
 have en:∀x∈ps,∀y∈ps,ltD M eqN x y=decide (enc eqN x<enc eqN y):=λx hx y hy=>uB (fx (h x hx)) (fx (h y hy)) (qa (h x hx) (h y hy))
 have at_:∀{i:Nat},i<ps.length->ps.getD i .non∈ps:=λ{i} hi=>by
  rw[AAI,AA7 hi]
  exact AAy hi
 have go:∀k,k<ps.length->AEB (λi j=>ltD M eqN (ps.getD i .non) (ps.getD j .non)) k<=k/\∀i,i<=k->¬enc eqN (ps.getD i .non)<enc eqN (ps.getD (AEB (λi j=>ltD M eqN (ps.getD i .non) (ps.getD j .non)) k) .non):=by
  intro k
  induction k with
  | zero =>
   intro _
   refine⟨AAB _,λi hi=>?_⟩
   obtain rfl:i=0:=by lia
   exact ACl _
  | succ k ih =>
   intro hk
   obtain⟨h1,h2⟩:=ih (by lia)
   unfold AEB
   generalize AEB (λi j=>ltD M eqN (ps.getD i .non) (ps.getD j .non)) k=b at h1 h2
   have hb:=at_ (i:=b) (by lia)
   have hk':=at_ (i:=k+1) hk
   split
   ·rename_i hlt
    rw[en _ hk' _ hb,decide_eq_true_eq]at hlt
    refine⟨AAB _,λi hi=>?_⟩
    by_cases e:i=k+1
    ·subst e;exact ACl _
    ·exact λz=>h2 i (by lia) (List.lt_trans z hlt)
   ·rename_i hlt
    rw[en _ hk' _ hb,decide_eq_true_eq]at hlt
    refine⟨by lia,λi hi=>?_⟩
    by_cases e:i=k+1
    ·subst e;exact hlt
    ·exact h2 i (by lia)
 have n0:0<ps.length:=AEM.mpr ne
 obtain⟨h1,h2⟩:=go (ps.length-1) (by lia)
 have hmem:=AAc hm
 refine⟨hmem,λq hq=>?_⟩
 rw[tV (M':=M) (h q hq) (h m hmem),en q hq m hmem]
 obtain⟨i,hi,rfl⟩:=ACe hq
 refine dF_ ?_
 have:=h2 i (by lia)
 rw[AAI,AAI,hm,AA7 hi]at this
 exact this
theorem qS(h:∀x∈ps,PlH x)(hp:(p::ys).Perm ps)(r:mO M (p::ys)):ki ps p:=by
 have hm:p∈ps:=hp.mem_iff.mp (by simp)
 refine⟨hm,λq hq=>?_⟩
 rw[tV (M':=M) (h q hq) (h p hm)]
 rcases AAL.mp (hp.mem_iff.mpr hq)with rfl | hq'
 ·rcases yP M (h q hq) (h q hq)with t | t | t
  ·exact t.2.1
  ·exact absurd rfl t.1
  ·exact absurd rfl t.1
 ·exact(List.pairwise_cons.mp r).1 q hq'
theorem tE(h:StH x):ltD [] eqN x x=false:=by
 rcases fv [] h h with t | t | t
 ·exact t.2.1
 ·exact absurd rfl t.1
 ·exact absurd rfl t.1
theorem qL(ok:LogN log):(log.map stD).Nodup:=by
 unfold List.Nodup
 rw[AAt]
 refine(AAg.mp ok.up).imp λ{a b} ⟨ha,hb,h⟩ e=>?_
 rw[<-e,tE (aM (ok.deed a ha))]at h
 cases h
theorem pZ(ok:LogN log):(log.map af).Nodup:=by
 unfold List.Nodup
 rw[AAt]
 refine(AAg.mp ok.up).imp λ{a b} ⟨ha,hb,h⟩ e=>?_
 obtain rfl:=eI ok ha hb (aW.mp e).1 (aW.mp e).2
 rw[tE (aM (ok.deed a ha))]at h
 cases h
theorem me:∀{l:List D},(l.map f).Nodup->∀{a b:D},a∈l->b∈l->f a=f b->a=b
 | [],_,_,_,h,_,_=>nomatch h
 | x::l,nd,a,b,ha,hb,e=>by
  rw[AAN,ABn]at nd
  rcases AAL.mp ha with ea | ha
  ·rcases AAL.mp hb with eb | hb
   ·rw[ea,eb]
   ·exact absurd (AAF.mpr ⟨b,hb,by rw[<-e,ea]⟩) nd.1
  ·rcases AAL.mp hb with eb | hb
   ·exact absurd (AAF.mpr ⟨a,ha,by rw[e,eb]⟩) nd.1
   ·exact me nd.2 ha hb e
theorem uH{log:List D}(ok:LogN log){h:D}{k:Int}(k0:0<=k)(hk:k<many log h):∃d∈log,aw d=h/\bB d=k:=by
 have:k∈(log.filter λd=>decide (aw d=h)).map bB:=by
  rw[ok.nums]
  exact AAF.mpr ⟨k.toNat,ABV.mpr (by lia),by show ((k.toNat:Nat):Int)=k;lia⟩
 obtain⟨d,hd,e⟩:=AAF.mp this
 exact⟨d,(AAX.mp hd).1,oT_ (AAX.mp hd).2,e⟩
theorem wR(ha:dg a)(hb:dg b):stD a=stD b↔aw a=aw b/\bp a=bp b:=by
 obtain⟨t,hd,num,act,rfl,_⟩:=ha
 obtain⟨t',hd',num',act',rfl,_⟩:=hb
 simp only[stD,aw,bp,D.tup.injEq,ACU,D.int.injEq,and_true]
 exact And.comm
theorem BK(ha:dg a)(hb:dg b)(h:eqD [] eqN a b=true):bp a=bp b:=by
 obtain⟨t,hd,num,act,rfl,_⟩:=ha
 obtain⟨t',hd',num',act',rfl,_⟩:=hb
 have z:(eqD [] 29 (.int t) (.int t')&&eqL (eqD [] 29) [hd,.int num,act] [hd',.int num',act'])=true:=h
 rw[AAK,bw,beq_iff_eq]at z
 exact z.1
structure Like(one other:List D):Prop where
 o1:LogN one
 o2:LogN other
 no:dZ one other=[]
theorem Like.eq(k:Like one other)(hd:d∈one)(he:e∈other)(h:af d=af e):eqD [] eqN e d=true:=by
 cases q:eqD [] eqN e d with
 | true=>rfl
 | false =>
  have:af d∈dZ one other:=gx.mpr ⟨d,hd,e,he,rfl,h.symm,q⟩
  rw[k.no]at this
  exact nomatch this
theorem Like.st(k:Like one other)(hd:d∈one)(he:e∈other)(h:af d=af e):stD d=stD e :=
 (wR (k.o1.deed d hd) (k.o2.deed e he)).mpr ⟨(aW.mp h).1,(BK (k.o2.deed e he) (k.o1.deed d hd) (k.eq hd he h)).symm⟩
theorem Like.place(k:Like one other)(hd:d∈one)(he:e∈other)(h:stD d=stD e):af d=af e:=by
 have hh:=(wR (k.o1.deed d hd) (k.o2.deed e he)).mp h
 obtain⟨i,ei,hi⟩:=ij k.o1 hd
 obtain⟨j,ej,hj⟩:=ij k.o2 he
 refine aW.mpr ⟨hh.1,?_⟩
 rcases ADs i j with lt | eq | lt
 ·obtain⟨x,hx,x1,x2⟩:=uH k.o2 (h:=aw e) (k:=i) (by lia) (by lia)
  have px:af d=af x:=aW.mpr ⟨by rw[x1,hh.1],by rw[x2,ei]⟩
  have:x=e:=me (qL k.o2) hx he ((k.st hd hx px).symm.trans h)
  rw[this]at x2
  lia
 ·rw[ei,ej,eq]
 ·obtain⟨x,hx,x1,x2⟩:=uH k.o1 (h:=aw d) (k:=j) (by lia) (by lia)
  have px:af x=af e:=aW.mpr ⟨by rw[x1,hh.1],by rw[x2,ej]⟩
  have:x=d:=me (qL k.o1) hx hd ((k.st hx he px).trans h.symm)
  rw[this]at x2
  lia
noncomputable def lk(one:List D)(d:D):Bool:=!decide (bB d<many one (aw d))
noncomputable def cq(one other:List D):List D:=one++other.filter (lk one)
noncomputable def fstP:D->D
 | .tup (h::_)=>h
 | _=>.non
noncomputable def sndP:D->Int
 | .tup (_::.int n::_)=>n
 | _=>0
theorem jf(h:(l.map af).Perm (l'.map af))(x:D):many l x=many l' x:=by
 have e:∀l:List D,many l x=((l.map af).filter λp=>decide (fstP p=x)).length:=λl=>by
  unfold many
  rw[ADg,AA6];rfl
 rw[e,e,(h.filter _).length_eq]
theorem xM(h1:(a.map af).Perm (a'.map af))(h2:(b.map af).Perm (b'.map af)):(cq a b).length=(cq a' b').length:=by
 have e:∀a b:List D,(b.filter (lk a)).length=((b.map af).filter λp=>!decide (sndP p<many a (fstP p))).length:=λa b=>by
  rw[ADg,AA6];rfl
 have l1:=h1.length_eq
 rw[AA6,AA6]at l1
 unfold cq
 rw[AAC,AAC,e,e,l1,(h2.filter _).length_eq]
 simp only[jf h1]
theorem xN(ok:LogN log):(cq (jk a log) (jk b log)).length<=40:=by
 have e1:(jk b log).filter (lk (jk a log))=log.filter λd=>decide (bB d<b (aw d)) && !decide (bB d<a (aw d)):=by
  unfold jk
  rw[List.filter_filter]
  refine List.filter_congr λd hd=>?_
  rw[Bool.and_comm]
  congr 1
  unfold lk
  congr 1
  obtain⟨i,ei,hi⟩:=ij ok hd
  have hm:=qx (c:=a) ok (aw d)
  unfold jk at hm
  refine decide_eq_decide.mpr ?_
  lia
 unfold cq
 rw[e1]
 have jp:=(lZ (p:=λd=>decide (bB d<a (aw d))) (q:=λd=>decide (bB d<b (aw d))) log).length_eq
 unfold jk
 rw[jp]
 exact AAh (ABt _ _) ok.len
theorem qk(ok:LogN log)(h1:(one.map af).Perm ((jk a log).map af))(h2:(other.map af).Perm ((jk b log).map af)):(cq one other).length<=40:=by
 rw[xM h1 h2]
 exact xN ok
theorem gk(h:d∈cq one other):d∈one++other:=by
 rcases AAT.mp h with h | h
 ·exact ABP _ h
 ·exact AAP _ (AAX.mp h).1
theorem Like.nd(k:Like one other):((cq one other).map stD).Nodup:=by
 unfold cq
 rw[AAk,ACW]
 refine⟨qL k.o1,(qL k.o2).sublist (List.filter_sublist.map _),λx hx y hy e=>?_⟩
 obtain⟨d,hd,rfl⟩:=AAF.mp hx
 obtain⟨f,hf,rfl⟩:=AAF.mp hy
 obtain⟨hf,hl⟩:=AAX.mp hf
 have:=aW.mp (k.place hd hf e)
 obtain⟨i,ei,hi⟩:=ij k.o1 hd
 unfold lk at hl
 rw[AD6,decide_eq_false_iff_not,<-this.1,<-this.2]at hl
 lia
theorem Like.mem{one other:List D}(k:Like one other){x:D}:x∈(cq one other).map stD↔∃d∈one++other,stD d=x:=by
 rw[AAF]
 constructor
 ·rintro⟨d,hd,e⟩
  exact⟨d,gk hd,e⟩
 ·rintro⟨d,hd,rfl⟩
  unfold cq
  rcases AAT.mp hd with hd | hd
  ·exact⟨d,ABP _ hd,rfl⟩
  ·cases q:lk one d with
   | true=>exact⟨d,AAP _ (AAX.mpr ⟨hd,q⟩),rfl⟩
   | false =>
    unfold lk at q
    rw[Bool.not_eq_false',decide_eq_true_eq]at q
    obtain⟨i,ei,hi⟩:=ij k.o2 hd
    obtain⟨y,hy,y1,y2⟩:=uH k.o1 (h:=aw d) (k:=bB d) (by lia) q
    exact⟨y,ABP _ hy,k.st hy hd (aW.mpr ⟨y1,y2⟩)⟩
theorem eP(h:dg d):eqD [] eqN d d=true:=(lF 6 eqN d (by decide) (bD h)).2
theorem Like.deed(k:Like one other)(h:d∈one++other):dg d:=(AAT.mp h).elim (k.o1.deed d) (k.o2.deed d)
theorem Like.same(k:Like one other)(ha:a∈one++other)(hb:b∈one++other)(h:stD a=stD b):eqD [] eqN a b=true:=by
 have sw:∀{x y:D},dg x->eqD [] eqN x y=true->eqD [] eqN y x=true:=λ{x y} hx q=>(vQ eqN 6 x y (bD hx)).symm.trans q
 rcases AAT.mp ha with ha' | ha'<;>rcases AAT.mp hb with hb' | hb'
 ·rw[me (qL k.o1) ha' hb' h]
  exact eP (k.o1.deed b hb')
 ·exact sw (k.o2.deed b hb') (k.eq ha' hb' (k.place ha' hb' h))
 ·exact k.eq hb' ha' (k.place hb' ha' h.symm)
 ·rw[me (qL k.o2) ha' hb' h]
  exact eP (k.o2.deed b hb')
theorem uK(ok:LogN log):Like log log/\cq log log=log:=by
 refine⟨⟨ok,ok,?_⟩,?_⟩
 ·refine List.eq_nil_iff_forall_not_mem.mpr λp hp=>?_
  obtain⟨d,hd,e,he,h1,h2,h3⟩:=gx.mp hp
  have pe:=aW.mp (h2.trans h1.symm)
  rw[eI ok he hd pe.1 pe.2,eP (ok.deed d hd)]at h3
  cases h3
 ·unfold cq
  rw[List.filter_eq_nil_iff.mpr,AAq]
  intro d hd z
  obtain⟨i,ei,hi⟩:=ij ok hd
  unfold lk at z
  rw[AD6,decide_eq_false_iff_not]at z
  lia
structure Bag(log fs:List D):Prop where
 deed:∀d∈fs,dg d
 pl:fs.map af=log.map af
 tm:∀a∈fs,∀b∈fs,aw a=aw b->bB a<bB b->bp a<bp b
theorem CV(ha:dg a)(hb:dg b)(q:ltD M eqN (stD b) (stD a)=false):bp a<=bp b:=by
 obtain⟨t,hd,num,act,rfl,_⟩:=ha
 obtain⟨t',hd',num',act',rfl,_⟩:=hb
 show t<=t'
 refine Int.not_lt.mp λlt=>?_
 have:ltD M eqN (stD (.tup [.int t',hd',.int num',act'])) (stD (.tup [.int t,hd,.int num,act]))=true:=by
  show (if eqD M 29 (.int t') (.int t)=true then lR (eqD M 29) (ltD M 29) [hd'] [hd]else ltD M 29 (.int t') (.int t))=true
  rw[bw,beq_eq_false_iff_ne.mpr (by lia)]
  exact dT_ lt
 rw[this]at q
 cases q
theorem Bag.of(ok:LogN log):Bag log log:=by
 refine⟨ok.deed,rfl,λa ha b hb h1 h2=>?_⟩
 have sa:=aM (ok.deed a ha)
 have sb:=aM (ok.deed b hb)
 have hp:=ADH.mp ok.up
 obtain⟨i,hi,ei⟩:=ACe ha
 obtain⟨j,hj,ej⟩:=ACe hb
 have nr:∀{x y:Nat} (hx:x<log.length) (hy:y<log.length),x<y->aw log[x]=aw log[y]->bB log[x]<bB log[y]:=λ{x y} hx hy lt e=>by
  have pw:(log.filter λd=>decide (aw d=aw log[y])).Pairwise λa b=>bB a<bB b:=by
   rw[<-AAt (f:=bB) (R:=λa b:Int=>a<b),ok.nums,AAt]
   exact List.pairwise_lt_range.imp λh=>by show ((_:Nat):Int)<((_:Nat):Int);lia
  rw[List.pairwise_filter]at pw
  exact ADH.mp pw x y hx hy lt (dT_ e) (dT_ rfl)
 rcases ADs i j with lt | eq | lt
 ·have up:=hp i j hi hj lt
  rw[ei,ej]at up
  have le:bp a<=bp b:=by
   refine CV (M:=[]) (ok.deed a ha) (ok.deed b hb) ?_
   rcases fv [] sa sb with t | t | t
   ·exact t.2.2
   ·exact t.2.2.1
   ·rw[t.2.1]at up;cases up
  refine Int.lt_iff_le_and_ne.mpr ⟨le,λe=>?_⟩
  rw[(wR (ok.deed a ha) (ok.deed b hb)).mpr ⟨h1,e⟩,tE sb]at up
  cases up
 ·subst eq
  rw[<-ei,<-ej]at h2
  lia
 ·have:=nr hj hi lt (by rw[ej,ei,h1])
  rw[ei,ej]at this
  lia
theorem Bag.set(g:Bag log fs)(hj:fs[j]?=some d)(he:dg e)(hp:af e=af d)(ht:bp e=bp d\/bp e<bp d/\∀a∈fs,aw a=aw d->bB a<bB d->bp a<bp e):Bag log (fs.set j e):=by
 obtain⟨hl,ej⟩:=AA5.mp hj
 have hd:d∈fs:=AAc hj
 obtain⟨p1,p2⟩:=aW.mp hp
 refine⟨λx hx=>(ADI hx).elim (g.deed x) λq=>q ▸ he,?_,λa ha b hb h1 h2=>?_⟩
 ·rw[List.map_set,hp,<-g.pl]
  refine ADr λi=>?_
  by_cases q:j=i
  ·subst q
   rw[AAn (by rw[AA6];exact hl),AAU,hj];rfl
  ·rw[AAf q]
 ·rcases ADI ha with ha' | ea<;>rcases ADI hb with hb' | eb
  ·exact g.tm a ha' b hb' h1 h2
  ·rw[eb,p1]at h1
   rw[eb,p2]at h2
   rw[eb]
   have:=g.tm a ha' d hd h1 h2
   rcases ht with ht | ht
   ·lia
   ·exact ht.2 a ha' h1 h2
  ·rw[ea,p1]at h1
   rw[ea,p2]at h2
   rw[ea]
   have:=g.tm d hd b hb' h1 h2
   lia
  ·rw[ea,eb]at h2
   lia
theorem Bag.log{log fs ys:List D}{M:Mem}(ok:LogN log)(g:Bag log fs)(hp:ys.Perm fs)(r:ys.Pairwise λa b=>ltD M eqN (stD b) (stD a)=false):LogN ys/\(ys.map af).Perm (log.map af):=by
 have pp:(ys.map af).Perm (log.map af):=g.pl ▸ hp.map af
 have dd:∀d∈ys,dg d:=λd hd=>g.deed d (hp.mem_iff.mp hd)
 have r':=AAg.mp r
 refine⟨⟨dd,?_,λh=>?_,?_⟩,pp⟩
 ·have:=pp.length_eq
  rw[AA6,AA6]at this
  rw[this];exact ok.len
 ·have e1:((ys.filter λd=>decide (aw d=h)).map bB).Perm ((log.filter λd=>decide (aw d=h)).map bB):=by
   have e:∀l:List D,(l.filter λd=>decide (aw d=h)).map bB=((l.map af).filter λp=>decide (fstP p=h)).map sndP:=λl=>by
    rw[ADg,ABE];rfl
   rw[e,e]
   exact(pp.filter _).map _
  rw[ok.nums,<-jf pp]at e1
  refine ACZ (le:=λa b:Int=>a<=b) (λa b _ _ h1 h2=>Int.le_antisymm h1 h2) ?_ ?_ e1
  ·rw[AAt]
   refine(AAg.mp (r.filter _)).imp λ{a b} ⟨ha,hb,q⟩=>?_
   obtain⟨ma,e1⟩:=AAX.mp ha
   obtain⟨mb,e2⟩:=AAX.mp hb
   have le:=CV (dd a ma) (dd b mb) q
   refine Int.not_lt.mp λlt=>?_
   have:=g.tm b (hp.mem_iff.mp mb) a (hp.mem_iff.mp ma) ((oT_ e2).trans (oT_ e1).symm) lt
   lia
  ·rw[AAt]
   exact List.pairwise_lt_range.imp λh=>by show ((_:Nat):Int)<=((_:Nat):Int);lia
 ·have nd:ys.Pairwise λa b=>af a≠af b:=AAt.mp (pp.nodup_iff.mpr (pZ ok))
  refine(r'.and nd).imp λ{a b} ⟨⟨ha,hb,q⟩,ne⟩=>?_
  have sa:=aM (dd a ha)
  have sb:=aM (dd b hb)
  rw[lc (M':=M) sa sb]
  rcases fv M sa sb with t | t | t
  ·exfalso
   obtain⟨e1,e2⟩:=(wR (dd a ha) (dd b hb)).mp t.1
   rcases Int.lt_trichotomy (bB a) (bB b)with lt | eq | lt
   ·have:=g.tm a (hp.mem_iff.mp ha) b (hp.mem_iff.mp hb) e1 lt
    lia
   ·exact ne (aW.mpr ⟨e1,eq⟩)
   ·have:=g.tm b (hp.mem_iff.mp hb) a (hp.mem_iff.mp ha) e1.symm lt
    lia
  ·exact t.2.1
  ·rw[t.2.2.1]at q;cases q
def cJ:DSp:=λds M R=>∃(a b:D) (r:List D),ds=[.tup (a::b::r)]/\R (.tup [a,b]) M
theorem lT:dY cJ eZ:=by rintro ds M R ⟨a,b,r,rfl,_⟩;rfl
def iQ:DTS:=bI (fG (aa (dOp qIx (ac 0) (dC (.int 0))) (aa (dOp qIx (ac 0) (dC (.int 1))) am)))
theorem mT:WpT cJ 1 iQ:=by
 rintro ds M R ⟨a,b,r,rfl,h⟩
 simp only[iQ]
 walk_at "dl"
 exact⟨az (by lia),cj.now h⟩
theorem nH(T:Tops P w K mg base):Cal P w K mg base 1 "stamp_of" eZ cJ :=
 Cal.byD (N:=["deed"]) T.b T.f_stamp_of (by walk_at "sc") lT (by walk_at "dv") mT
def ci:DSp:=λds M R=>∃(t hd:D) (num:Int) (r:List D) (hs:List (D×Int)),ds=[.tup (t::hd::.int num::r),.tup (sk hs)]/\Hd hd/\(∀p∈hs,Hd p.1)/\hs.length<=1000/\R (.bl (dG hs hd num)) M
theorem jQ:dY ci dP:=by rintro ds M R ⟨t,hd,num,r,hs,rfl,_⟩;rfl
def eE:DTS:=bI (dC (.bl false))
def gJ:DTS:=aI (iK (bx (ac 1)) (mv 2 (bV (aA 2) (bV (aA 3) mw))) (dIf (aG (dOp qEq (ac 2) (dOp qIx (ac 0) (dC (.int 1))))) (bI (dOp qLt (dOp qIx (ac 0) (dC (.int 2))) (ac 3))) bo)) (eE)
theorem ko:WpT ci 4 gJ:=by
 rintro ds M R ⟨t,hd,num,r,hs,rfl,hh,hv,hl,h⟩
 simp only[gJ]
 walk_at "dl"
 refine λ_=>?_
 refine dB (λys S M'=>M'=M/\∃qs a b,ys=sk qs/\(∀p∈qs,Hd p.1)/\dG qs hd num=dG hs hd num/\S=[some (.tup (t::hd::.int num::r)),some (.tup (sk hs)),a,b]) ?_ ?_ _ _ _ ⟨rfl,hs,_,_,rfl,hv,rfl,rfl⟩
 ·rintro S M' ⟨rfl,qs,a,b,e,_,w,rfl⟩
  obtain rfl:qs=[]:=by
   cases qs with
   | nil=>rfl
   | cons q qs=>cases e
  rw[<-w]at h
  refine⟨trivial,?_⟩
  simp only[eE]
  walk_at "dl"
  exact cj.now h
 ·rintro x xs S M' ⟨rfl,qs,a,b,e,hq,w,rfl⟩ G hG
  cases qs with
  | nil=>cases e
  | cons q qs =>
   have e':x=.tup [q.1,.int q.2]/\xs=sk qs:=by
    unfold sk at e ⊢
    rw[AAN]at e
    injection e with e1 e2
    exact⟨e1,e2⟩
   obtain⟨rfl,rfl⟩:=e'
   refine⟨trivial,?_⟩
   have hq1:=hq q (by simp)
   walk_at "dl"
   refine⟨trivial,⟨rK hq1,rK hh⟩,?_⟩
   cases hb:eqD M' eqN q.1 hd with
   | true =>
    have e:=(oy (n:=29) hq1 hh).mp hb
    have ew:dG (q::qs) hd num=decide (num<q.2):=by
     unfold dG
     rw[ABc,dT_ e]
    rw[<-w,ew]at h
    exact cM (cj.now h)
   | false =>
    have e:q.1≠hd:=λz=>by
     have:=(oy (M:=M') (n:=29) hq1 hh).mpr z
     rw[show eqD M' (29+1) q.1 hd=eqD M' eqN q.1 hd from rfl,hb]at this
     cases this
    refine bZ (Fgt.now (hG _ _ ⟨rfl,qs,_,_,rfl,λp hp=>hq p (AA9 _ hp),?_,rfl⟩))
    rw[<-w]
    unfold dG
    rw[ABc,dF_ e]
theorem lH(T:Tops P w K mg base):Cal P w K mg base 1 "is_within" dP ci :=
 Cal.byD (N:=["deed","vector","hand","count"]) T.b T.f_is_within (by walk_at "sc") jQ (by walk_at "dv") ko
noncomputable def fN:List (D×D)->List D->List (D×D)
 | kvs,[]=>kvs
 | kvs,d::ds=>fN (ck kvs (aw d) (.int (bB d+1))) ds
def cf:DSp:=λds M R=>∃log:List D,ds=[.tup log]/\(∀d∈log,dg d)/\log.length<64/\∀ys,ys.Perm (bG (fN [] log))->mO M ys->R (.tup ys) M
theorem jP:dY cf dN:=by rintro ds M R ⟨log,rfl,_⟩;rfl
def eh:DTS:=bI (dCB bN (aa (dA (ac 1)) am))
def er:DTS:=aI (iK (bx (ac 0)) (aA 2) (jY (ac 1) (dOp qIx (ac 2) (dC (.int 1))) (dOp aK (dOp qIx (ac 2) (dC (.int 2))) (dC (.int 1))))) (eh)
def gy:DTS:=aI (bb (ka) 1) (er)
theorem km:WpT cf 3 gy:=by
 rintro ds M R ⟨log,rfl,hd,hl,h⟩
 simp only[gy,er]
 walk_at "dl"
 refine λ_=>?_
 refine dB (λys S M'=>∃kvs a,M'=M++[.dkt kvs]/\fN kvs ys=fN [] log/\(∀d∈ys,dg d)/\kvs.length+ys.length<=log.length/\HKv kvs/\S=[some (.tup log),some (.ref M.length),a]) ?_ ?_ _ _ _ ⟨[],_,rfl,rfl,hd,by simp,(λ_ z=>nomatch z),rfl⟩
 ·rintro S M' ⟨kvs,a,rfl,et,_,hl2,hk,rfl⟩
  refine⟨trivial,?_⟩
  simp only[eh]
  walk_at "dl"
  have et':kvs=fN [] log:=et
  rw[AAY]at hl2
  refine⟨kvs,ak,Bz hk (by lia),λys hp up=>⟨ys,aq,?_⟩⟩
  refine cj.keep (h ys (by rw[<-et'];exact hp) ?_) (.tup (BA hk hp)) (jD.trans jD)
  unfold mO at up ⊢
  refine(AAg.mp up).imp λ{x y} ⟨mx,my,q⟩=>?_
  rw[ES (M':=M++[.dkt kvs]) hk (hp.mem_iff.mp my) (hp.mem_iff.mp mx)]
  exact q
 ·rintro x xs S M' ⟨kvs,a,rfl,et,hds,hl2,hk,rfl⟩ G hG
  refine⟨trivial,?_⟩
  obtain⟨t,hd',num,act,rfl,hh,_⟩:=hds x (by simp)
  walk_at "dl"
  obtain⟨z,i,rfl⟩:=hh
  rw[AAG]at hl2
  have pl:=cb (kvs:=kvs) (k:=.tup [.str z,.int i]) (d:=.int (num+1))
  refine⟨kvs,ak,rfl,aF (by lia),Fgt.now (hG _ _ ⟨ck kvs (.tup [.str z,.int i]) (.int (num+1)),_,?_,et,λd hm=>hds d (AA9 _ hm),by lia,vF hk ⟨_,_,rfl⟩,rfl⟩)⟩
  rw[jz]
theorem lG(T:Tops P w K mg base):Cal P w K mg base 1 "vector_of" dN cf :=
 Cal.byD (N:=["log","counts","deed"]) T.b T.f_vector_of (by walk_at "sc") jP (by walk_at "dv") km
noncomputable def xE(hs:List (D×Int))(d:D):Bool:=!dG hs (aw d) (bB d)
def bJ:DSp:=λds M R=>∃(log:List D) (hs:List (D×Int)),ds=[.tup log,.tup (sk hs)]/\(∀d∈log,dg d)/\log.length<=1000/\(∀p∈hs,Hd p.1)/\hs.length<=1000/\R (.tup (log.filter (xE hs))) M
theorem iI:dY bJ cZ:=by rintro ds M R ⟨log,hs,rfl,_⟩;rfl
def fq:DTS:=bI (dCB bN (aa (dLC 1 [1] (bx (ac 0)) (aA 0) (zo (aG (dCB ci (aa (ac 0) (aa (ac 1) am))))) (ac 0)) am))
theorem jr:WpT bJ 2 fq:=by
 rintro ds M R ⟨log,hs,rfl,hd,hl,hv,hl2,h⟩
 simp only[fq]
 walk_at "dl"
 intro hz
 refine bn (xE hs) id (λS=>∃a,S=[a,some (.tup (sk hs))]) trivial _ _ _ ?_ ⟨_,rfl⟩ (by simpa using hz) ?_
 ·rintro y hy S ⟨a,rfl⟩
  obtain⟨t,hd',num,act,rfl,hh,_⟩:=hd y hy
  refine⟨[some (.tup [.int t,hd',.int num,act]),some (.tup (sk hs))],⟨_,rfl⟩,λY Z hYZ=>?_⟩
  walk_at "dl"
  exact⟨.int t,hd',num,[act],hs,rfl,hh,hv,hl2,hYZ⟩
 ·rw[AAr,AEI]
  exact⟨_,aq,cj.keep h (.tup (mz λd hm=>hd d (AAX.mp hm).1)) jD⟩
theorem jJ(T:Tops P w K mg base):Cal P w K mg base 2 "lacking_in" cZ bJ :=
 Cal.byD (N:=["log","vector"]) T.b T.f_lacking_in (by walk_at "sc") iI (by have:=lH T;walk_at "dv") jr
def bz:DSp:=λds M R=>∃d:D,ds=[d]/\dg d/\R (af d) M
theorem lU:dY bz fb:=by rintro ds M R ⟨d,rfl,_⟩;rfl
def iV:DTS:=bI (fG (aa (dOp qIx (ac 0) (dC (.int 1))) (aa (dOp qIx (ac 0) (dC (.int 2))) am)))
theorem mU:WpT bz 1 iV:=by
 rintro ds M R ⟨d,rfl,⟨t,hd,num,act,rfl,_⟩,h⟩
 simp only[iV]
 walk_at "dl"
 exact⟨az (by lia),cj.now h⟩
theorem nI(T:Tops P w K mg base):Cal P w K mg base 1 "place_of" fb bz :=
 Cal.byD (N:=["deed"]) T.b T.f_place_of (by walk_at "sc") lU (by walk_at "dv") mU
theorem qt{f:D->D}{k v:D}:∀{ds:List D},bi (dictOf (ds.map λd=>(f d,d))) k=some v->v∈ds/\f v=k:=by
 intro ds
 generalize hn:ds.length=n
 induction n generalizing ds with
 | zero =>
  intro h
  obtain rfl:=ABy hn
  cases h
 | succ n ih =>
  intro h
  have ne:ds≠[]:=λz=>by subst z;cases hn
  rw[<-List.dropLast_concat_getLast ne]at h ⊢
  rw[AAk,List.map_singleton,cC]at h
  by_cases e:k=f (ds.getLast ne)
  ·subst e
   rw[cw]at h
   injection h with h
   subst h
   exact⟨by simp,rfl⟩
  ·rw[fj e]at h
   obtain⟨h1,h2⟩:=ih (by rw[List.length_dropLast,hn];rfl) h
   exact⟨ABP _ h1,h2⟩
theorem yk{f:D->D}{d:D}:∀{ds:List D},d∈ds->(bi (dictOf (ds.map λd=>(f d,d))) (f d)).isSome=true:=by
 intro ds
 generalize hn:ds.length=n
 induction n generalizing ds with
 | zero =>
  intro h
  obtain rfl:=ABy hn
  cases h
 | succ n ih =>
  intro h
  have ne:ds≠[]:=λz=>by subst z;cases hn
  rw[<-List.dropLast_concat_getLast ne]at h ⊢
  rw[AAk,List.map_singleton,cC]
  by_cases e:f d=f (ds.getLast ne)
  ·rw[e,cw];rfl
  ·rw[fj e]
   refine ih (by rw[List.length_dropLast,hn];rfl) ?_
   rcases AAT.mp h with h | h
   ·exact h
   ·exact absurd (by rw[AAS.mp h]) e
theorem zE(ok:LogN other)(hy:dg y):(!eqD [] eqN ((bi (dictOf (other.map λd=>(af d,d))) (af y)).getD y) y)=unl other y:=by
 cases e:bi (dictOf (other.map λd=>(af d,d))) (af y) with
 | none =>
  show (!eqD [] eqN y y)=_
  rw[eP hy]
  refine(List.any_eq_false.mpr λd hd z=>?_).symm
  rw[AAK,decide_eq_true_eq]at z
  have:=yk (f:=af) hd
  rw[z.1,e]at this
  cases this
 | some v =>
  obtain⟨hv,ev⟩:=qt (f:=af) e
  show (!eqD [] eqN v y)=_
  unfold unl
  cases q:eqD [] eqN v y with
  | false=>exact(ABx.mpr ⟨v,hv,by rw[dT_ ev,q];rfl⟩).symm
  | true =>
   refine(List.any_eq_false.mpr λd hd z=>?_).symm
   rw[AAK,decide_eq_true_eq]at z
   have pe:=aW.mp (z.1.trans ev.symm)
   rw[eI ok hd hv pe.1 pe.2,q]at z
   cases z.2
theorem jW(h:dg d):okD M eqN d=true/\eqD M eqN d d=true:=lF 6 eqN d (by decide) (bD h)
def bf:DSp:=λds M R=>∃one other:List D,ds=[.tup one,.tup other]/\LogN one/\LogN other/\R (.ref M.length) (M++[.lst (dZ one other)])
theorem fg:dY bf bP:=by rintro ds M R ⟨one,other,rfl,_⟩;rfl
def cr:DTS:=bI (dLC 1 [2] (bx (ac 0)) (aA 0) (aG (dOp qNe (dMt gX (ac 1) (aa (dCB bz (aa (ac 0) am)) (aa (ac 0) am))) (ac 0))) (dCB bz (aa (ac 0) am)))
def cU:DTS:=aI (bb (dCB hW (aa (dLC 1 [] (bx (ac 1)) (aA 0) oJ (fG (aa (dCB bz (aa (ac 0) am)) (aa (ac 0) am)))) am)) 2) (cr)
theorem fL:WpT bf 3 cU:=by
 rintro ds M R ⟨one,other,rfl,o1,o2,h⟩
 have l1:=o1.len
 have l2:=o2.len
 simp only[cU]
 walk_at "dl"
 intro hz
 refine db (λd=>.tup [af d,d]) (λS=>∃a,S=[a]) trivial _ _ _ ?_ ⟨_,rfl⟩ (by simpa using hz) ?_
 ·rintro y hy S ⟨a,rfl⟩
  exact⟨[some y],⟨_,rfl⟩,λY hY=>⟨y,rfl,o2.deed y hy,az (show 2<=1000 by decide),hY⟩⟩
 ·rw[AAr]
  refine⟨other.map λd=>(af d,d),by rw[ABE];exact aq,λp hp=>?_,by rw[AA6];lia,?_⟩
  ·obtain⟨d,hd,rfl⟩:=AAF.mp hp
   obtain⟨t,hd',num,act,rfl,⟨z,i,rfl⟩,_⟩:=o2.deed d hd
   exact⟨rfl,rfl⟩
  ·have hg:(M++[MO.lst (other.map λd=>D.tup [af d,d])]++[MO.dkt (dictOf (other.map λd=>(af d,d)))])[(M++[MO.lst (other.map λd=>D.tup [af d,d])]).length]?=some (MO.dkt (dictOf (other.map λd=>(af d,d)))):=ak
   have hp:M <+: M++[MO.lst (other.map λd=>D.tup [af d,d])]++[MO.dkt (dictOf (other.map λd=>(af d,d)))]:=by rw[ABO];exact ABS _ _
   simp only[cr]
   generalize M++[MO.lst (other.map λd=>D.tup [af d,d])]++[MO.dkt (dictOf (other.map λd=>(af d,d)))]=B at hg hp
   generalize (M++[MO.lst (other.map λd=>D.tup [af d,d])]).length=q at hg
   walk_at "dl"
   intro hz
   refine bn (unl other) af (λS=>∃a,S=[a,some (.ref q)]) trivial _ _ _ ?_ ⟨_,rfl⟩ (by simpa using hz) ?_
   ·rintro y hy S ⟨a,rfl⟩
    refine⟨[some y,some (.ref q)],⟨_,rfl⟩,λY Z hYZ=>?_⟩
    have dy:=o1.deed y hy
    have pk:fT 8 (af y)=true:=by
     obtain⟨t,hd',num,act,rfl,⟨z,i,rfl⟩,_⟩:=id dy
     rfl
    have ug:=zE o2 dy
    have gd:dg ((bi (dictOf (other.map λd=>(af d,d))) (af y)).getD y):=by
     cases e:bi (dictOf (other.map λd=>(af d,d))) (af y) with
     | none=>exact dy
     | some v=>exact o2.deed v (qt (f:=af) e).1
    walk_at "dl"
    refine⟨⟨_,hg⟩,y,rfl,dy,_,hg,pk,?_⟩
    have eu:eqD B eqN ((bi (dictOf (other.map λd=>(af d,d))) (af y)).getD y) y = !unl other y:=by
     rw[<-ug,Bool.not_not]
     exact oB 6 eqN eqN _ _ (by decide) (by decide) (bD gd)
    refine⟨⟨(jW gd).1,(jW dy).1⟩,?_⟩
    have eu':eqD B eqN ((bi (dictOf (other.map λd=>(af d,d))) (.tup [aw y,.int (bB y)])).getD y) y = !unl other y:=eu
    rw[eu',Bool.not_not]
    cases q:unl other y with
    | true =>
     rw[q]at hYZ
     exact cM ⟨y,rfl,dy,hYZ⟩
    | false =>
     rw[q]at hYZ
     exact bZ hYZ
   ·rw[AAr]
    obtain⟨L,rfl⟩:=hp
    rw[ABO]
    exact cj.lst h (by simp) (by rw[<-ABO];exact ak) (Bels.of λd hd=>by
     obtain⟨z,i,j,rfl⟩:=gw (other:=other) o1 d hd
     exact .tup (.cons (vH ⟨_,_,rfl⟩) (.cons (.int _) .nil)))
theorem fR(T:Tops P w K mg base):Cal P w K mg base 2 "unlike_places" bP bf :=
 Cal.byD (N:=["one","other","others"]) T.b T.f_unlike_places (by walk_at "sc") fg (by have:=nI T;walk_at "dv") fL
def bh:wF:=λds M R RX=>∃one other:List D,ds=[.tup one,.tup other]/\LogN one/\LogN other/\(dZ one other=[]->R .non M)/\∀h n,ki (dZ one other) (.tup [h,.int n])->RX ⟨AA2 "Clash",[(AA2 "hand",h),(AA2 "number",.int n)]⟩ M
theorem fh:LenX bh bQ:=by rintro ds M R RX ⟨one,other,rfl,_⟩;rfl
def cu:DTX:=mS "Clash" "hand" "number" (aa (dOp qIx (ac 3) (dC (.int 0))) (aa (dOp qIx (ac 3) (dC (.int 1))) am))
def cv:DTX:=xIf (aG (dOp qGt (dCB ja (aa (ac 2) am)) (dC (.int 0)))) (Cy (xOf (bb (dCB tL (aa (ac 2) am)) 3)) (cu)) (xOf bo)
def cW:DTX:=Cy (xOf (bb (dCB bf (aa (ac 0) (aa (ac 1) am))) 2)) (cv)
theorem fM:WpX bh 4 cW:=by
 rintro ds M R RX ⟨one,other,rfl,o1,o2,h,hX⟩
 have pl:=gw (other:=other) o1
 simp only[cW]
 walk_at "dl"
 refine⟨one,other,rfl,o1,o2,?_⟩
 have hL:ap (M++[MO.lst (dZ one other)]) M.length (dZ one other):=aq
 have pM:M <+: M++[MO.lst (dZ one other)]:=jD
 generalize M++[MO.lst (dZ one other)]=B at hL pM
 generalize M.length=q at hL
 generalize dZ one other=us at h hX pl hL
 simp only[cv]
 walk_at "dl"
 refine⟨us,hL,?_⟩
 cases us with
 | nil=>exact bZ (cj.non (h rfl) pM)
 | cons u us =>
  rw[dT_ (show (0:Int)<((u::us).length:Int) by rw[AAG];lia)]
  refine cM ⟨_,hL,List.cons_ne_nil _ _,λx hx=>qc _ _ _ (fx (pl x hx)),λx hx y hy=>qa (pl x hx) (pl y hy),λm hm=>?_⟩
  have lm:=rZ pl (List.cons_ne_nil _ _) hm
  obtain⟨z,i,j,rfl⟩:=pl m lm.1
  simp only[cu]
  walk_at "dl"
  exact⟨_,_,rfl,rfl,rfl,.inr ⟨M,.refl,pM,hX _ _ lm⟩⟩
theorem fS(T:Tops P w K mg base):yB P w K mg base 3 "refuse_unlike" bQ bh :=
 yB.by (N:=["one","other","unlike","first"]) T.b T.f_refuse_unlike (by walk_at "sc") fh (by have:=fR T;have:=qZ T;walk_at "dvx") fM
theorem kA:∀(log:List D) (kvs:List (D×D)),bi (fN kvs log) h=match (log.filter λd=>decide (aw d=h)).getLast? with
  | some d=>some (.int (bB d+1))
  | none=>bi kvs h
 | [],_=>rfl
 | d::ds,kvs=>by
  show bi (fN (ck kvs (aw d) (.int (bB d+1))) ds) h=_
  rw[kA ds,ACi]
  by_cases e:aw d=h
  ·rw[dT_ e,if_pos rfl,List.getLast?_cons]
   cases (ds.filter λd=>decide (aw d=h)).getLast? with
   | none =>
    show bi (ck kvs (aw d) _) h=some _
    rw[<-e,cw];rfl
   | some x=>rfl
  ·rw[dF_ e,if_neg (by decide)]
   cases (ds.filter λd=>decide (aw d=h)).getLast? with
   | none =>
    show bi (ck kvs (aw d) _) h=_
    rw[fj (ABG e)]
   | some x=>rfl
theorem oY:∀(log:List D) (kvs:List (D×D)),(kvs.map (·.1)).Nodup->((fN kvs log).map (·.1)).Nodup
 | [],_,h=>h
 | _::ds,_,h=>oY ds _ (jC h)
theorem kz:∀(log:List D) (kvs:List (D×D)),HKv kvs->(∀d∈log,dg d)->HKv (fN kvs log)
 | [],_,h,_=>h
 | d::ds,_,h,hd=>kz ds _ (vF h (by obtain⟨t,h',n,a,rfl,hh,_⟩:=hd d (by simp);exact hh)) λx hx=>hd x (AA9 _ hx)
theorem ky:∀(log:List D) (kvs:List (D×D)),(fN kvs log).length<=kvs.length+log.length
 | [],_=>AAB _
 | d::ds,kvs=>by
  have h1:=ky ds (ck kvs (aw d) (.int (bB d+1)))
  have h2:=cb (kvs:=kvs) (k:=aw d) (d:=.int (bB d+1))
  show (fN (ck kvs (aw d) (.int (bB d+1))) ds).length<=_
  rw[AAG]
  lia
theorem qP(ok:LogN log)(h:D):bi (fN [] log) h=if many log h=0 then none else some (.int (many log h)):=by
 have hn:=ok.nums h
 have e:=congrArg List.getLast? hn
 rw[List.getLast?_map,List.getLast?_map,List.getLast?_range]at e
 rw[kA]
 by_cases h0:many log h=0
 ·rw[if_pos h0]at e ⊢
  rw[Option.map_none,Option.map_eq_none_iff]at e
  rw[e];rfl
 ·rw[if_neg h0]at e ⊢
  obtain⟨d,hd,e2⟩:=AB3.mp e
  rw[hd]
  show some (D.int (bB d+1))=_
  rw[e2]
  congr 2
  show (((many log h-1:Nat):Int))+1=_
  lia
noncomputable def toH:D->D×Int
 | .tup [h,.int n]=>(h,n)
 | _=>(.non,0)
theorem CH(hk:HKv kvs)(nd:(kvs.map (·.1)).Nodup)(hp:ys.Perm (bG kvs)) :
  ys=sk (ys.map toH)/\(∀p∈ys.map toH,Hd p.1)/\∀(h:D) (n:Int),dG (ys.map toH) h n=match bi kvs h with | some (.int c)=>decide (n<c) | _=>false:=by
 have at_:∀y∈ys,∃p∈kvs,∃i:Int,y=.tup [p.1,.int i]/\p.2=.int i/\Hd p.1:=λy hy=>by
  obtain⟨p,hp',rfl⟩:=AAF.mp (hp.mem_iff.mp hy)
  obtain⟨h1,i,e⟩:=hk p hp'
  exact⟨p,hp',i,by rw[e],e,h1⟩
 have ew:ys=sk (ys.map toH):=by
  unfold sk
  rw[ABE]
  conv=>lhs;rw[<-AEI ys]
  refine ADK λy hy=>?_
  obtain⟨p,_,i,rfl,_⟩:=at_ y hy
  rfl
 refine⟨ew,λq hq=>?_,λh n=>?_⟩
 ·obtain⟨y,hy,rfl⟩:=AAF.mp hq
  obtain⟨p,_,i,rfl,_,hh⟩:=at_ y hy
  exact hh
 ·unfold dG
  cases hf:(ys.map toH).find? λp=>decide (p.1=h) with
  | none =>
   rw[List.find?_eq_none]at hf
   cases hg:bi kvs h with
   | none=>rfl
   | some v =>
    exfalso
    unfold bi at hg
    obtain⟨q,hq,_⟩:=AB3.mp hg
    have e1:q.1=h:=oT_ (ADe (p:=λp:D×D=>decide (p.1=h)) hq)
    have m1:=ABm hq
    obtain⟨_,i,e2⟩:=hk q m1
    have:D.tup [q.1,q.2]∈ys:=hp.mem_iff.mpr (AAF.mpr ⟨q,m1,rfl⟩)
    exact hf (toH (.tup [q.1,q.2])) (AAF.mpr ⟨_,this,rfl⟩) (by rw[e2];exact dT_ e1)
  | some q =>
   have e1:q.1=h:=oT_ (ADe (p:=λp:D×Int=>decide (p.1=h)) hf)
   obtain⟨y,hy,rfl⟩:=AAF.mp (ABm hf)
   obtain⟨p,hp',i,rfl,e2,_⟩:=at_ y hy
   have e1':p.1=h:=e1
   have:bi kvs h=some (.int i):=by
    rw[<-e1',<-e2]
    exact uA nd hp'
   rw[this];rfl
def aJ:wF:=λds M R RX=>∃one other:List D,ds=[.tup one,.tup other]/\LogN one/\LogN other/\(cq one other).length<=40 /\
 (dZ one other=[]->∀ys,ys.Perm (cq one other)->ys.Pairwise (λa b=>ltD [] eqN (stD b) (stD a)=false)->R (.tup ys) M)/\∀h n,ki (dZ one other) (.tup [h,.int n])->RX ⟨AA2 "Clash",[(AA2 "hand",h),(AA2 "number",.int n)]⟩ M
theorem im:LenX aJ cA:=by rintro ds M R RX ⟨one,other,rfl,_⟩;rfl
def cX:DTX:=xOf (bI (dCB bN (aa (dCB (iZ cJ) (aa (dOp aK (ac 0) (dCB bJ (aa (ac 1) (aa (dCB cf (aa (ac 0) am)) am)))) am)) am)))
def eA:DTX:=Cy (wG (xCB bh (aa (ac 0) (aa (ac 1) am)))) (cX)
theorem iF:WpX aJ 2 eA:=by
 rintro ds M R RX ⟨one,other,rfl,o1,o2,lj,h,hX⟩
 have l1:=o1.len
 have l2:=o2.len
 simp only[eA]
 walk_at "dl"
 refine⟨one,other,rfl,o1,o2,λno=>?_,λh n q=>.inl (hX h n q)⟩
 have h:=h no
 have k:Like one other:=⟨o1,o2,no⟩
 simp only[cX]
 walk_at "dl"
 refine⟨_,rfl,o1.deed,by lia,λys hp up=>?_⟩
 have hk:=kz one [] (λ_ z=>nomatch z) o1.deed
 have tl:=ky one []
 obtain⟨ev,hh,hw⟩:=CH hk (oY _ _ ADF) hp
 have yl:ys.length<=40:=by
  rw[hp.length_eq]
  unfold bG
  rw[AA6]
  simp only[AAY]at tl
  lia
 have el:other.filter (xE (ys.map toH))=other.filter (lk one):=by
  refine List.filter_congr λd hd=>?_
  unfold xE lk
  congr 1
  obtain⟨i,ei,hi⟩:=ij o2 hd
  rw[hw,qP o1]
  by_cases h0:many one (aw d)=0
  ·rw[if_pos h0]
   refine(dF_ ?_).symm
   lia
  ·rw[if_neg h0]
 refine⟨other,ys.map toH,by rw[<-ev],o2.deed,by lia,hh,by rw[AA6];lia,?_⟩
 rw[el]
 unfold cq at lj h
 have zd:∀d∈one++other.filter (lk one),dg d:=λd hd=>k.deed (gk hd)
 refine⟨by rw[<-AAC];exact az (by lia),one++other.filter (lk one),stD,.inl rfl,λd hd=>?_,(pO (λx hx=>?_) (by rw[AA6];lia)).g,λxs hx hr=>?_⟩
 ·obtain⟨t,hd',num,act,rfl,_⟩:=zd d hd
  exact⟨_,_,_,rfl,rfl,rfl⟩
 ·obtain⟨d,hd,rfl⟩:=AAF.mp hx
  exact aM (zd d hd)
 ·have xd:∀d∈xs,dg d:=λd hd=>zd d (hx.mem_iff.mp hd)
  refine⟨_,aq,cj.keep (h xs hx ((AAg.mp hr).imp λ{a b} ⟨ha,hb,q⟩=>?_)) (.tup (mz xd)) jD⟩
  rw[lc (M':=M) (aM (xd b hb)) (aM (xd a ha))]
  exact q
theorem dH(T:Tops P w K mg base):yB P w K mg base 4 "joined_logs" cA aJ :=
 yB.by (N:=["one","other"]) T.b T.f_joined_logs (by walk_at "sc") im (by have:=nH T;have:=lG T;have:=jJ T;have:=fS T;walk_at "dvx") iF
noncomputable def jl(ns:List Int)(k:Nat):Int:=ns.getD k 0
def bM:DSp:=λds M R=>∃(n:Nat) (ns:List Int) (k:Nat),ds=[.ref n,.int k]/\ap M n (ns.map D.int)/\R (.int (jl ns k)) M
theorem nX:dY bM ig:=by rintro ds M R ⟨n,ns,k,rfl,_⟩;rfl
def gM:DTS:=bI (dC (.int 0))
def kW:DTS:=aI (dIf (aG (dOp qLt (ac 1) (dCB ja (aa (ac 0) am)))) (bI (dOp qIx (ac 0) (ac 1))) bo) (gM)
theorem qJ:WpT bM 2 kW:=by
 rintro ds M R ⟨n,ns,k,rfl,hL,h⟩
 simp only[kW,gM]
 walk_at "dl"
 refine⟨_,hL,?_⟩
 unfold jl at h
 by_cases hk:k<ns.length
 ·rw[dT_ (by simpa using hk)]
  refine cM ⟨_,hL,?_⟩
  rw[aN (v:=.int ns[k]) (by rw[AAU,AA7 hk];rfl)]
  rw[AAI,AA7 hk]at h
  exact cj.now h
 ·rw[dF_ (by simpa using hk)]
  rw[AAI,ABo (by lia)]at h
  exact bZ (cj.now h)
theorem jc(T:Tops P w K mg base):Cal P w K mg base 1 "_law_cell_at" ig bM :=
 Cal.byD (N:=["_law_script","_law_k"]) T.b T.f_cell_at (by walk_at "sc") nX (by walk_at "dv") qJ
noncomputable def ao(c:Int):MO:=.lst [.int c]
def au:DSp:=λds M R=>∃(n:Nat) (c m:Int),ds=[.ref n,.int m]/\M[n]?=some (ao c)/\0<m/\m<1000000000000000/\∀i c':Int,0<=i->i<m->R (.int i) (M.set n (ao c'))
theorem xA:dY au uh:=by rintro ds M R ⟨n,c,m,rfl,_⟩;rfl
theorem set_set{M:Mem}{n:Nat}{a b:MO}:(M.set n a).set n b=M.set n b:=List.set_set ..
theorem bq{M:Mem}{n:Nat}{a b:MO}(h:M[n]?=some b):(M.set n a)[n]?=some a:=AAn (AA5.mp h).1
def WM(M:Mem)(n:Nat)(B:Mem):Prop:=∃c L,B=M.set n (ao c)++L
section
variable{M B C:Mem}{n:Nat}{c0:Int}
theorem WM.drawn:WM M n (M.set n (ao c)):=⟨c,[],by simp⟩
theorem WM.now(h:M[n]?=some (ao c0)):WM M n M:=⟨c0,[],by
 rw[AAq]
 refine(ADr λi=>?_).symm
 by_cases e:n=i
 ·subst e;rw[bq h,h]
 ·rw[AAf e]⟩
theorem WM.get(w:WM M n B)(h:M[n]?=some (ao c0)):∃c,B[n]?=some (ao c):=by
 obtain⟨c,L,rfl⟩:=w
 have hl:=(AA5.mp h).1
 exact⟨c,by rw[AAJ (by rw[AB5];exact hl),bq h]⟩
theorem WM.set(w:WM M n B)(h:M[n]?=some (ao c0))(c:Int):WM M n (B.set n (ao c)):=by
 obtain⟨c',L,rfl⟩:=w
 have hl:=(AA5.mp h).1
 refine⟨c,L,?_⟩
 rw[List.set_append_left _ _ (by rw[AB5];exact hl),set_set]
theorem WM.app(w:WM M n B)(L:Mem):WM M n (B++L):=by
 obtain⟨c',L',rfl⟩:=w
 exact⟨c',L'++L,by rw[ABO]⟩
theorem WM.trans(w:WM M n B)(h:M[n]?=some (ao c0))(v:WM B n C):WM M n C:=by
 obtain⟨c,L,rfl⟩:=v
 exact(w.set h c).app L
theorem WM.len(w:WM M n B):M.length<=B.length:=by
 obtain⟨c,L,rfl⟩:=w
 rw[AAC,AB5];lia
theorem WM.other(w:WM M n B)(hm:m≠n)(h:M[m]?=some x):B[m]?=some x:=by
 obtain⟨c,L,rfl⟩:=w
 rw[AAJ (by rw[AB5];exact(AA5.mp h).1),AAf (ABG hm)]
 exact h
end
def pq:DTS:=bI (ac 2)
def pr:DTS:=aI (zp (dOp jB (dOp qIx (ac 0) (dC (.int 0))) (ac 1)) (oF (ac 0) (dC (.int 0)))) (pq)
def yJ:DTS:=aI (bb (dOp qV (dOp qIx (ac 0) (dC (.int 0))) (ac 1)) 2) (pr)
theorem zy:WpT au 3 yJ:=by
 rintro ds M R ⟨n,c,m,rfl,hn,h0,h1,h⟩
 simp only[yJ,pr,pq]
 walk_at "dl"
 refine⟨_,.inl hn,?_⟩
 rw[at0]
 refine⟨h0,_,.inl hn,?_⟩
 rw[at0]
 exact⟨⟨h0,by lia⟩,_,0,hn,rfl,.inl (h _ _ (AEO _ (by lia)) (ADh _ h0))⟩
theorem bR(T:Tops P w K mg base):Cal P w K mg base 1 "_law_take" uh au :=
 Cal.byD (N:=["_law_well_here","_law_many","_law_found"]) T.b T.f_take (by walk_at "sc") xA (by walk_at "dv") zy
def qD:DSp:=λds M R=>∃(c:Int) (k:Int),ds=[.int c,.int k]/\0<=k/\k<100000/\∀i:Int,R (.int i) M
theorem AJ:dY qD Al:=by rintro ds M R ⟨c,k,rfl,_⟩;rfl
def sE:DTS:=bI (dOp qV (dOp aK (dOp aK (dOp fQ (ac 2) (ac 2)) (dOp fQ (dC (.int 69621)) (ac 2))) (dC (.int 7))) (dC (.int 2147483629)))
def sF:DTS:=aI (bb (dOp qV (dOp aK (dOp aK (dOp aK (dOp fQ (ac 2) (ac 2)) (dOp fQ (dC (.int 48271)) (ac 2))) (dC (.int 13))) (ac 1)) (dC (.int 2147483647))) 2) (sE)
def CK:DTS:=aI (bb (dOp qV (dOp aK (dOp aK (dOp qV (ac 0) (dC (.int 2147483647))) (dOp fQ (dC (.int 7919)) (ac 1))) (dC (.int 11))) (dC (.int 2147483647))) 2) (sF)
theorem Cz:WpT qD 3 CK:=by
 rintro ds M R ⟨c,k,rfl,h0,h1,h⟩
 simp only[CK,sF,sE]
 walk_at "dl"
 have p:∀z:Int,0<=z % 2147483647/\z % 2147483647<2147483647:=λz=>⟨AEO _ (by decide),ADh _ (by decide)⟩
 refine⟨by decide,.inl ⟨by decide,by decide⟩,by decide,?_⟩
 have pa:=p (c % 2147483647+7919*k+11)
 generalize (c % 2147483647+7919*k+11) % 2147483647=a at pa
 refine⟨.inl ⟨by lia,by lia⟩,.inl ⟨by decide,by decide⟩,by decide,?_⟩
 have pb:=p (a*a+48271*a+13+k)
 generalize (a*a+48271*a+13+k) % 2147483647=b at pb
 exact⟨.inl ⟨by lia,by lia⟩,.inl ⟨by decide,by decide⟩,by decide,cj.now (h _)⟩
theorem DQ(T:Tops P w K mg base):Cal P w K mg base 1 "_law_mix" Al qD :=
 Cal.byD (N:=["_law_cell","_law_k","_law_number"]) T.b T.f_mix (by walk_at "sc") AJ (by walk_at "dv") Cz
def iC:DSp:=λds M R=>∃(c:Int) (k:Int),ds=[.int c,.int k]/\0<=k/\k<1000/\∀i:Int,R (.int i) M
theorem xB:dY iC ui:=by rintro ds M R ⟨c,k,rfl,_⟩;rfl
def pz:DTS:=bI (ac 2)
def pA:DTS:=aI (iK (bE (aa (dC (.int 8)) am)) (aA 3) (bb (dOp aK (dOp fQ (ac 2) (dC (.int 2147483629))) (dCB qD (aa (ac 0) (aa (dOp aK (dOp fQ (dC (.int 8)) (ac 1)) (ac 3)) am)))) 2)) (pz)
def yK:DTS:=aI (bb (dC (.int 0)) 2) (pA)
theorem zz:WpT iC 4 yK:=by
 rintro ds M R ⟨c,k,rfl,h0,h1,h⟩
 simp only[yK,pA]
 walk_at "dl"
 refine⟨⟨by decide,by decide⟩,?_⟩
 refine bc (λi S M'=>M'=M/\∃(f:Int) (a:Option D),S=[some (.int c),some (.int k),some (.int f),a]) ?_ ?_ ⟨rfl,_,_,rfl⟩
 ·rintro S M' ⟨rfl,f,a,rfl⟩
  refine⟨trivial,?_⟩
  simp only[pz]
  walk_at "dl"
  exact cj.now (h _)
 ·rintro i y S M' hy ⟨rfl,f,a,rfl⟩ G hG
  obtain⟨hi,rfl⟩:=gc.mp hy
  have hi8:i<8:=hi
  refine⟨trivial,?_⟩
  walk_at "dl"
  exact⟨.inr ⟨by decide,by decide⟩,.inl ⟨by decide,by decide⟩,c,_,rfl,by lia,by lia,λz=>Fgt.now (hG _ _ ⟨rfl,_,_,rfl⟩)⟩
theorem ut(T:Tops P w K mg base):Cal P w K mg base 2 "_law_rich" ui iC :=
 Cal.byD (N:=["_law_cell","_law_k","_law_found","_law_j"]) T.b T.f_rich (by walk_at "sc") xB (by have:=DQ T;walk_at "dv") zz
def iB:DSp:=λds M R=>∃(c:Int) (k:Int),ds=[.int c,.int k]/\0<=k/\k<1000/\∀i:Int,R (.ref M.length) (M++[ao i])
theorem xz:dY iB uf:=by rintro ds M R ⟨c,k,rfl,_⟩;rfl
def pi:DTS:=bI (cR (aa (dCB iC (aa (dOp jB (ac 0) (dC (.int 2))) (aa (ac 1) am))) am))
def yI:DTS:=aI (dIf (aG (dOp qEq (dOp qV (ac 0) (dC (.int 2))) (dC (.int 0)))) (bI (cR (aa (dOp jB (ac 0) (dC (.int 2))) am))) bo) (pi)
theorem zx:WpT iB 2 yI:=by
 rintro ds M R ⟨c,k,rfl,h0,h1,h⟩
 simp only[yI,pi]
 walk_at "dl"
 refine⟨by decide,⟨rfl,rfl⟩,?_⟩
 cases eqD M eqN (.int (c % 2)) (.int 0) with
 | true=>exact cM ⟨⟨by decide,by decide⟩,az (by lia),.inl (h _)⟩
 | false=>exact bZ ⟨⟨by decide,by decide⟩,_,k,rfl,h0,h1,λz=>⟨az (by lia),.inl (h _)⟩⟩
theorem Au(T:Tops P w K mg base):Cal P w K mg base 3 "_law_well" uf iB :=
 Cal.byD (N:=["_law_cell","_law_k"]) T.b T.f_well (by walk_at "sc") xz (by have:=ut T;walk_at "dv") zx
def gq:DSp:=λds M R=>∃(p:Nat) (ns:List Int) (s m:Nat),ds=[.ref p,.int s,.int m]/\ap M p (ns.map D.int)/\ns.length<=100/\m<=100/\s<=10 /\
 ∀(ws:List Nat) (B:Mem),M <+: B->ws.length<=m->(∀w∈ws,M.length<=w/\∃c,B[w]?=some (ao c))->R (.ref B.length) (B++[.lst (ws.map .ref)])
theorem uM:dY gq nD:=by rintro ds M R ⟨p,ns,s,m,rfl,_⟩;rfl
theorem xP{ns:List Int}{lo hi:Option Int}:∃l:List Int,cutD (ns.map D.int) lo hi=l.map D.int:=by
 unfold cutD
 rw[<-List.map_drop,<-List.map_take]
 exact⟨_,rfl⟩
theorem yu{xs:List D}{s m:Nat}:(cutD xs (some ((s:Int)+1)) (some ((s:Int)+1+(m:Int)))).length<=m:=by
 unfold cutD
 rw[AAo,show ((s:Int)+1)=((s+1:Nat):Int) by lia,show (((s+1:Nat):Int)+(m:Int))=((s+1+m:Nat):Int) by lia,HT.sIx_nat,HT.sIx_nat]
 lia
def Cr(M M':Mem)(acc:List D):Prop:=∃ws:List Nat,acc=ws.map .ref/\M <+: M'/\∀w∈ws,M.length<=w/\∃c,M'[w]?=some (ao c)
theorem Cr.nil:Cr M M []:=⟨[],rfl,List.prefix_refl _,λ_ z=>nomatch z⟩
theorem Cr.more{M M':Mem}{acc:List D}{c:Int}(h:Cr M M' acc):Cr M (M'++[ao c]) (acc++[.ref M'.length]):=by
 obtain⟨ws,rfl,p,hw⟩:=h
 refine⟨ws++[M'.length],by simp,p.trans jD,λw m=>?_⟩
 rcases AAT.mp m with m | m
 ·obtain⟨h1,c',h2⟩:=hw w m
  exact⟨h1,c',ae h2⟩
 ·rw[AAS.mp m]
  exact⟨p.length_le,c,ak⟩
def kK:DTS:=bI (dLC 1 [] (bx (dSl (ac 0) (bF (dOp aK (ac 1) (dC (.int 1)))) (bF (dOp aK (dOp aK (ac 1) (dC (.int 1))) (ac 2))))) (aA 0) oJ (cR (aa (ac 0) am)))
def kL:DTS:=aI (dIf (aG (dOp qEq (dOp qV (ac 3) (dC (.int 2))) (dC (.int 1)))) (bI (dLC 1 [3] (bE (aa (dOp qV (dOp jB (ac 3) (dC (.int 2))) (dOp aK (ac 2) (dC (.int 1)))) am)) (aA 0) oJ (cR (aa (dCB iC (aa (dOp jB (ac 1) (dC (.int 2))) (aa (ac 0) am))) am)))) bo) (kK)
def sC:DTS:=aI (bb (dCB bM (aa (ac 0) (aa (ac 1) am))) 3) (kL)
theorem wI:WpT gq 4 sC:=by
 rintro ds M R ⟨p,ns,s,m,rfl,hL,n100,m100,s10,h⟩
 simp only[sC,kL]
 walk_at "dl"
 refine⟨p,ns,s,rfl,hL,by decide,⟨aB,aB⟩,?_⟩
 cases eqD M eqN (.int (jl ns s % 2)) (.int 1) with
 | true =>
  have e0:0<=jl ns s / 2 % ((m:Int)+1):=AEO _ (by lia)
  have e1:jl ns s / 2 % ((m:Int)+1)<(m:Int)+1:=ADh _ (by lia)
  refine cM ⟨⟨by decide,by decide⟩,by lia,⟨by lia,by lia⟩,?_⟩
  refine cF (λxs acc S M'=>∃a,S=[a,some (.int (jl ns s))]/\Cr M M' acc/\acc.length+xs.length<=m/\∀x∈xs,∃i:Int,x=.int i/\0<=i/\i<1000) ?_ ?_ _ _ _ _ ⟨_,rfl,.nil,?_,?_⟩
  ·rintro acc S M' ⟨a,rfl,⟨ws,rfl,p,hw⟩,hl,_⟩
   exact⟨trivial,.inl (h ws M' p (by simpa using hl) hw)⟩
  ·rintro y xs acc S M' ⟨a,rfl,hw,hl,hx'⟩ K hK
   obtain⟨i,rfl,i0,i1⟩:=hx' y (by simp)
   refine⟨trivial,?_⟩
   walk_at "dl"
   rw[AAG]at hl
   refine⟨⟨by decide,by decide⟩,_,i,rfl,i0,i1,λz=>⟨az (by lia),aF (by lia),hK _ _ _ ⟨_,rfl,hw.more,?_,λx hx=>hx' x (AA9 _ hx)⟩⟩⟩
   rw[AAC,AAm];lia
  ·rw[dm,AAY];lia
  ·intro x hx
   obtain⟨i,hi⟩:=AC1 hx
   obtain⟨h1,rfl⟩:=gc.mp hi
   exact⟨_,rfl,by lia,by lia⟩
 | false =>
  refine bZ ?_
  simp only[kK]
  walk_at "dl"
  obtain⟨cs,hcs⟩:=xP (ns:=ns) (lo:=some ((s:Int)+1)) (hi:=some ((s:Int)+1+(m:Int)))
  have cl:cs.length<=m:=by
   have:=yu (xs:=ns.map D.int) (s:=s) (m:=m)
   rw[hcs,AA6]at this
   exact this
  refine⟨_,hL,?_⟩
  rw[hcs]
  refine⟨_,aq,λ_=>?_⟩
  refine cF (λxs acc S M'=>∃a,S=[a]/\Cr M M' acc/\ap M' M.length (cs.map D.int)/\acc.length+xs.length<=m/\∀x∈xs,∃i:Int,x=.int i) ?_ ?_ _ _ _ _ ⟨_,rfl,⟨[],rfl,jD,λ_ z=>nomatch z⟩,aq,?_,?_⟩
  ·rintro acc S M' ⟨a,rfl,⟨ws,rfl,p,hw⟩,l,hl,_⟩
   exact⟨l,.inl (h ws M' p (by simpa using hl) hw)⟩
  ·rintro y xs acc S M' ⟨a,rfl,hw,l,hl,hx⟩ K hK
   obtain⟨i,rfl⟩:=hx y (by simp)
   refine⟨l,?_⟩
   walk_at "dl"
   rw[AAG]at hl
   refine⟨az (by lia),aF (by lia),hK _ _ _ ⟨_,rfl,hw.more,l.more _,?_,λx hx'=>hx x (AA9 _ hx')⟩⟩
   rw[AAC,AAm];lia
  ·rw[AA6,AAY];lia
  ·intro x hx
   obtain⟨i,_,rfl⟩:=AAF.mp hx
   exact⟨i,rfl⟩
theorem xi(T:Tops P w K mg base):Cal P w K mg base 3 "_law_wells" nD gq :=
 Cal.byD (N:=["_law_script","_law_start","_law_most","_law_head"]) T.b T.f_wells (by walk_at "sc") uM (by have:=jc T;have:=ut T;walk_at "dv") wI
def Small(x:Str):Prop:=∀c∈x.cps.toList,97<=c/\c<=122
def kh(x:Str):Prop:=1<=x.length/\x.length<=8/\Small x
def fm:DSp:=λds M R=>∃(n:Nat) (c:Int),ds=[.ref n]/\M[n]?=some (ao c)/\∀(x:Str) (B:Mem),kh x->WM M n B->R (.str x) B
theorem xw:dY fm ud:=by rintro ds M R ⟨n,c,rfl,_⟩;rfl
noncomputable def one(c:Nat):Str:=⟨#[c]⟩
theorem iX:∀cs:List Nat,(Str.join (AA2 "") (cs.map one)).cps.toList=cs
 | []=>by decide +kernel
 | [c]=>rfl
 | c::d::r=>by
  have ih:=iX (d::r)
  show ((one c++AA2 "")++Str.join (AA2 "") ((d::r).map one)).cps.toList=_
  rw[bX,bX,ih]
  rfl
theorem ip(cs:List Nat):(Txt.join (AA2 "") (cs.map one)).cps.toList=cs:=by
 unfold Txt.join
 rw[StrLaws.glued_eq_join]
 exact iX cs
theorem jx:∀cs:List Nat,((cs.map one).map (λx=>x.length)).sum=cs.length
 | []=>rfl
 | c::r=>by
  rw[AAN,AAN,List.sum_cons,jx r,AAG]
  show 1+r.length=r.length+1
  lia
theorem qC(h0:0<=i)(h1:i<26):∃c:Nat,atI (AA2 "abcdefghijklmnopqrstuvwxyz").cps.toList i=some c/\97<=c/\c<=122:=by
 have hl:(AA2 "abcdefghijklmnopqrstuvwxyz").cps.toList=(AAx 26).map (· + 97):=by decide +kernel
 obtain⟨j,hj,e,ej⟩:=cP (xs:=(AA2 "abcdefghijklmnopqrstuvwxyz").cps.toList) h0 (by rw[hl];simpa using h1)
 have hm:=AAy hj
 refine⟨_,e,?_⟩
 generalize (AA2 "abcdefghijklmnopqrstuvwxyz").cps.toList[j]=c at hm
 rw[hl]at hm
 obtain⟨k,hk,rfl⟩:=AAF.mp hm
 have:=ABV.mp hk
 lia
def oZ:DTS:=bI (dMs nA (dC (.str "")) (aa (dLC 1 [1,0] (bE (aa (dOp aK (dC (.int 1)) (dCB au (aa (ac 0) (aa (dC (.int 8)) am)))) am)) (aA 0) oJ (dOp qIx (ac 1) (dCB au (aa (ac 2) (aa (dC (.int 26)) am))))) am))
def yG:DTS:=aI (bb (dC (.str "abcdefghijklmnopqrstuvwxyz")) 1) (oZ)
theorem zv:WpT fm 2 yG:=by
 rintro ds M R ⟨n,c,rfl,hn,h⟩
 simp only[yG,oZ]
 walk_at "dl"
 refine⟨n,c,8,rfl,hn,by decide,by decide,λi c' i0 i8=>⟨⟨by lia,by lia⟩,?_⟩⟩
 refine cF (λxs acc S M'=>∃(cs:List Nat) (a:Option D),acc=(cs.map one).map .str/\(∀c∈cs,97<=c/\c<=122)/\cs.length+xs.length=(1+i).toNat/\WM M n M'/\S=[a,some (.str (AA2 "abcdefghijklmnopqrstuvwxyz")),some (.ref n)]) ?_ ?_ _ _ _ _ ⟨[],_,rfl,(λ_ z=>nomatch z),by rw[dm];simp,WM.drawn,rfl⟩
 ·rintro acc S M' ⟨cs,a,rfl,hc,hl,wm,rfl⟩
  simp only[AAY,Nat.add_zero]at hl
  refine⟨trivial,cs.map one,aq,?_,.inl (h _ _ ⟨?_,?_,?_⟩ (wm.app _))⟩
  ·rw[jx,AA6,show (AA2 "").length=0 by decide +kernel];lia
  ·rw[aE,ip];lia
  ·rw[aE,ip];lia
  ·intro c hcm
   rw[ip]at hcm
   exact hc c hcm
 ·rintro y xs acc S M' ⟨cs,a,rfl,hc,hl,wm,rfl⟩ K hK
  refine⟨trivial,?_⟩
  obtain⟨w,hw⟩:=wm.get hn
  walk_at "dl"
  refine⟨n,w,26,rfl,hw,by decide,by decide,λj c2 j0 j26=>⟨by decide +kernel,?_⟩⟩
  obtain⟨ch,ech,hch⟩:=qC j0 j26
  rw[ech]
  rw[AAG]at hl
  refine⟨by rw[AA6,AA6];exact aF (by lia),hK _ _ _ ⟨cs++[ch],_,by simp[one],λc hcm=>?_,by rw[AAC,AAm];lia,wm.set hn _,rfl⟩⟩
  rcases AAT.mp hcm with hcm | hcm
  ·exact hc c hcm
  ·rw[AAS.mp hcm];exact hch
theorem uo(T:Tops P w K mg base):Cal P w K mg base 2 "_law_word" ud fm :=
 Cal.byD (N:=["_law_well_here","_law_letters"]) T.b T.f_word (by walk_at "sc") xw (by have:=bR T;walk_at "dv") zv
theorem xQ(u:Option Int)(n:Nat):ABM none u 1 n=ABM (some ((0:Nat):Int)) u 1 n:=by
 unfold ABM
 simp only[show (1:Int) > 0 by decide,if_true]
 congr 1
theorem EL(l:Option Int)(n:Nat):ABM l none 1 n=ABM l (some ((n:Nat):Int)) 1 n:=by
 unfold ABM
 simp only[show (1:Int) > 0 by decide,if_true]
 congr 1
 rw[if_neg (by lia)]
 lia
theorem pQ(x:Str)(b:Nat):(ABd x none (some (b:Int))).cps.toList=x.cps.toList.take b:=by
 have e:=lu x (a:=0) (b:=b) (AAV _)
 rw[cy]at e ⊢
 rw[xQ]
 rw[e];simp
theorem qR(x:Str)(a:Nat)(h:a<=x.length):(ABd x (some (a:Int)) none).cps.toList=x.cps.toList.drop a:=by
 have e:=lu x (a:=a) (b:=x.length) h
 rw[cy]at e ⊢
 rw[EL]
 rw[e]
 rw[ACC]
 rw[ACf,aE];lia
theorem fA(e:x.cps.toList=l)(h1:1<=l.length)(h8:l.length<=8)(h:∀c∈l,97<=c/\c<=122):kh x:=by
 subst e
 refine⟨by rw[aE];exact h1,by rw[aE];exact h8,h⟩
theorem WM.hi(w:WM M n B)(h:M.length<=q):WM M n (B.set q x):=by
 obtain⟨c,L,rfl⟩:=w
 refine⟨c,L.set (q-M.length) x,?_⟩
 rw[ACz _ _ (by rw[AB5];exact h),AB5]
theorem tI{M:Mem}{xs:List Str}(h:mO M (xs.map .str)):xs.Pairwise (λa b=>fP b a=false):=by
 unfold mO at h
 exact AAt.mp h
def cI:DSp:=λds M R=>∃(n m:Nat) (c:Int),ds=[.ref n,.int m]/\1<=m/\m<=4/\M[n]?=some (ao c)/\∀(xs:List Str) (B:Mem),1<=xs.length->xs.length<=4->(∀x∈xs,kh x)->(xs.Nodup/\xs.Pairwise λa b=>fP b a=false)->WM M n B->R (.ref B.length) (B++[.lst (xs.map .str)])
theorem uL:dY cI nC:=by rintro ds M R ⟨n,m,c,rfl,_⟩;rfl
structure WdOk(kvs:List (Str×D)):Prop where
 nd:(kvs.map (·.1)).Nodup
 ok:∀p∈kvs,kh p.1
def kD:DTS:=bI (dCB dq (aa (ac 6) am))
def kE:DTS:=dIf (aG (dOp qEq (ac 3) (dC (.int 0)))) (rT (ac 6) (dCB fm (aa (ac 0) am)) (dC (.bl true))) (dIf (yt (aG (dOp qEq (ac 3) (dC (.int 1)))) (aG (dOp qLt (dOp aK (dCB ja (aa (ac 4) am)) (ac 7)) (dC (.int 9))))) (rT (ac 6) (dOp aK (ac 4) (dSl (dC (.str "abc")) bW (bF (ac 7)))) (dC (.bl true))) (rT (ac 6) (dOp aK (dOp aK (dSl (ac 4) bW (bF (ac 5))) (ac 8)) (dSl (ac 4) (bF (dOp aK (ac 5) (dC (.int 1)))) bW)) (dC (.bl true))))
def kF:DTS:=aI (iK (jZ (aa (dC (.int 1)) (aa (ac 1) am))) (aA 7) (aI (bb (dOp qIx (ac 2) (dOp qV (dOp aK (dMs gY (ac 2) (aa (dOp qIx (ac 4) (ac 5)) am)) (ac 7)) (dC (.int 26)))) 8) (kE))) (kD)
def kG:DTS:=aI (bb (mC 4 true) 6) (kF)
def kH:DTS:=aI (bb (dCB au (aa (ac 0) (aa (dCB ja (aa (ac 4) am)) am))) 5) (kG)
def kI:DTS:=aI (bb (dCB fm (aa (ac 0) am)) 4) (kH)
def kJ:DTS:=aI (bb (dCB au (aa (ac 0) (aa (dC (.int 3)) am))) 3) (kI)
def sB:DTS:=aI (bb (dC (.str "abcdefghijklmnopqrstuvwxyz")) 2) (kJ)
theorem wH:WpT cI 9 sB:=by
 rintro ds M R ⟨n,m,c,rfl,m1,m4,hn,h⟩
 have nM:n<M.length:=(AA5.mp hn).1
 have hz:(AA2 "abcdefghijklmnopqrstuvwxyz").length<=sizeLine:=by decide +kernel
 simp only[sB,kJ,kI,kH,kG]
 walk_at "dl"
 refine⟨n,c,3,rfl,hn,by decide,by decide,λway c1 w0 w3=>?_⟩
 refine⟨n,c1,rfl,bq hn,λbase B1 hbase wm1=>?_⟩
 obtain⟨b1,b8,bs⟩:=id hbase
 have wm1:WM M n B1:=WM.drawn.trans hn wm1
 obtain⟨c2,hc2⟩:=wm1.get hn
 refine⟨az (by lia),n,c2,base.length,rfl,hc2,by lia,by lia,λat_ c3 a0 a1=>?_⟩
 have wm2:WM M n (B1.set n (ao c3)):=wm1.set hn _
 generalize B1.set n (ao c3)=B2 at wm2
 have q0:M.length<=B2.length:=wm2.len
 obtain⟨at',rfl⟩:∃k:Nat,at_=(k:Int):=⟨at_.toNat,by lia⟩
 have ha:at' < base.length:=by lia
 have hac:at' < base.cps.toList.length:=by rw[<-aE];exact ha
 simp only[kF]
 walk_at "dl"
 refine⟨⟨by lia,by lia,by lia,by lia⟩,?_⟩
 generalize hq:B2.length=q at q0
 refine bc (λi S M'=>∃(kvs:List (Str×D)) (a b:Option D),WdOk kvs/\1<=kvs.length/\kvs.length<=i+1/\WM M n M'/\M'[q]?=some (.dct kvs)/\S=[some (.ref n),some (.int m),some (.str (AA2 "abcdefghijklmnopqrstuvwxyz")),some (.int way),some (.str base),some (.int (at':Int)),some (.ref q),a,b]) ?_ ?_ ⟨[(base,.bl true)],_,_,⟨by simp,by simp[hbase]⟩,by simp,by simp,wm2.app _,by rw[<-hq];simp,rfl⟩
 ·rintro S M' ⟨kvs,a,b,ok,k1,k4,wm,hk,rfl⟩
  rw[dm]at k4
  refine⟨trivial,?_⟩
  simp only[kD]
  walk_at "dl"
  unfold dq
  refine⟨(kvs.map (·.1)).map .str,.inr ⟨kvs,hk,by rw[ABE];rfl⟩,qQ (by rw[AA6];lia),λys hys hrise=>?_⟩
  obtain⟨xs,rfl,hxs⟩:=tY hys
  have xl:xs.length=kvs.length:=by rw[hxs.length_eq,AA6]
  refine .inl (h xs M' (by lia) (by lia) (λx hx=>?_) ⟨hxs.nodup_iff.mpr ok.nd,tI hrise⟩ wm)
  obtain⟨p,hp,rfl⟩:=AAF.mp (hxs.mem_iff.mp hx)
  exact ok.ok p hp
 ·rintro i y S M' hy ⟨kvs,a,b,ok,k1,k4,wm,hk,rfl⟩ G hG
  obtain⟨hi,rfl⟩:=gc.mp hy
  have hi3:i<3:=by lia
  refine⟨trivial,?_⟩
  walk_at "dl"
  have hch:=bs _ (AAy hac)
  have e1:atI base.cps.toList (at':Int)=some base.cps.toList[at']:=aN (AA7 hac)
  refine⟨az (by lia),?_⟩
  rw[e1]
  generalize base.cps.toList[at']=ch at hch
  obtain⟨oi,orest,ho⟩:∃(i:Nat) (aP:List Nat),ADX (AA2 "abcdefghijklmnopqrstuvwxyz") ⟨#[ch]⟩ 0 (AA2 "abcdefghijklmnopqrstuvwxyz").length 1=i::aP:=by
   have f:=StrLaws.found_one (AA2 "abcdefghijklmnopqrstuvwxyz") ch
   have hl:(AA2 "abcdefghijklmnopqrstuvwxyz").cps.toList=(AAx 26).map (· + 97):=by decide +kernel
   have hm:ch∈(AA2 "abcdefghijklmnopqrstuvwxyz").cps.toList:=by
    rw[hl]
    exact AAF.mpr ⟨ch-97,ABV.mpr (by lia),by lia⟩
   rw[dT_ hm]at f
   cases e:ADX (AA2 "abcdefghijklmnopqrstuvwxyz") ⟨#[ch]⟩ 0 (AA2 "abcdefghijklmnopqrstuvwxyz").length 1 with
   | nil=>rw[e]at f;cases f
   | cons i r=>exact⟨i,r,rfl⟩
  refine⟨oi,orest,ho,by decide,hz,?_⟩
  obtain⟨c4,e4,hc4⟩:=qC (i:=((oi:Int)+(1+(i:Int))) % 26) (AEO _ (by decide)) (ADh _ (by decide))
  rw[e4]
  have put:∀(x:Str) (B:Mem) (a b:Option D),kh x->WM M n B->B[q]?=some (.dct kvs)->G [some (.ref n),some (.int m),some (.str (AA2 "abcdefghijklmnopqrstuvwxyz")),some (.int way),some (.str base),some (.int (at':Int)),some (.ref q),a,b] (B.set q (.dct (pX kvs x (.bl true)))):=λx B a b hx w hk=>by
   have pl:=wW (kvs:=kvs) (k:=x) (d:=.bl true)
   exact hG _ _ ⟨pX kvs x (.bl true),a,b,⟨tP ok.nd,wX ok.ok hx⟩,pl.2,by lia,w.hi q0,AAn (AA5.mp hk).1,rfl⟩
  simp only[kE]
  walk_at "dl"
  refine⟨⟨aB,aB⟩,?_⟩
  cases eqD M' eqN (.int way) (.int 0) with
  | true =>
   refine cM ?_
   obtain⟨c5,hc5⟩:=wm.get hn
   refine⟨n,c5,rfl,hc5,λx B hx w=>?_⟩
   have hkB:B[q]?=some (.dct kvs):=w.other (by lia) hk
   exact⟨kvs,hkB,aF (by lia),Fgt.now (put x B _ _ hx (wm.trans hn w) hkB)⟩
  | false =>
   refine bZ ⟨⟨aB,aB⟩,?_⟩
   have s1:(ABd base none (some (at':Int))).length<=8:=by have:=Txt.slice_le base none (some (at':Int));lia
   have s2:(ABd base (some ((at':Int)+1)) none).length<=8:=by have:=Txt.slice_le base (some ((at':Int)+1)) none;lia
   have hbl:=aE (a:=base)
   have nm3:kh (ABd base none (some (at':Int))++⟨#[c4]⟩++ABd base (some ((at':Int)+1)) none):=by
    have e:(ABd base none (some (at':Int))++⟨#[c4]⟩++ABd base (some ((at':Int)+1)) none).cps.toList=base.cps.toList.take at'++[c4]++base.cps.toList.drop (at'+1):=by
     have e2:=qR base (at'+1) (by lia)
     rw[show ((at'+1:Nat):Int)=(at':Int)+1 by lia]at e2
     rw[bX,bX,pQ,e2]
    refine fA e (by simp;lia) (by rw[AAC,AAC,AAo,ACf,AAm];lia) λc hc=>?_
    rcases AAT.mp hc with hc | hc
    ·rcases AAT.mp hc with hc | hc
     ·exact bs c (AE9 hc)
     ·rw[AAS.mp hc];exact hc4
    ·exact bs c (List.mem_of_mem_drop hc)
   have third:base.length<=sizeLine/\(ABd base none (some (at':Int))).length+(⟨#[c4]⟩:Str).length<=sizeLine/\base.length<=sizeLine/\(ABd base none (some (at':Int))++⟨#[c4]⟩).length+(ABd base (some ((at':Int)+1)) none).length<=sizeLine /\
     ∃kvs,M'[q]?=some (MO.dct kvs)/\kvs.length<sizeLine/\Fgt (B2++[MO.dct [(base,D.bl true)]]) G [some (D.ref n),some (D.int m),some (D.str (AA2 "abcdefghijklmnopqrstuvwxyz")),some (D.int way),some (D.str base),some (D.int (at':Int)),some (D.ref q),some (D.int (1+(i:Int))),some (D.str ⟨#[c4]⟩)] (List.set M' q (MO.dct (pX kvs (ABd base none (some (at':Int))++⟨#[c4]⟩++ABd base (some ((at':Int)+1)) none) (D.bl true)))) :=
    ⟨az (by lia),by rw[uk];exact az (by lia),az (by lia),by rw[Cp,uk];exact az (by lia),kvs,hk,aF (by lia),Fgt.now (put _ M' _ _ nm3 wm hk)⟩
   cases eqD M' eqN (.int way) (.int 1) with
   | false=>exact bZ third
   | true =>
    refine cM ⟨az (by lia),?_⟩
    by_cases h9:(base.length:Int)+(1+(i:Int))<9
    ·rw[dT_ h9]
     have e3:(ABd (AA2 "abc") none (some (1+(i:Int)))).cps.toList=(AA2 "abc").cps.toList.take (1+i):=by
      have:=pQ (AA2 "abc") (1+i)
      rwa [show ((1+i:Nat):Int)=1+(i:Int) by lia]at this
     have habc:(AA2 "abc").cps.toList=[97,98,99]:=by decide +kernel
     rw[habc]at e3
     have l3:(ABd (AA2 "abc") none (some (1+(i:Int)))).length=1+i:=by
      rw[aE,e3,AAo];simp;lia
     refine cM ⟨by decide +kernel,az (by lia),kvs,hk,aF (by lia),Fgt.now (put _ M' _ _ ?_ wm hk)⟩
     refine fA (l:=base.cps.toList++[97,98,99].take (1+i)) (by rw[bX,e3]) (by rw[AAC];lia) (by rw[AAC,AAo,<-hbl];have:min (1+i) ([97,98,99]:List Nat).length<=1+i:=Nat.min_le_left ..;lia) λc hc=>?_
     rcases AAT.mp hc with hc | hc
     ·exact bs c hc
     ·have:=AE9 hc
      simp at this
      lia
    ·rw[dF_ h9]
     exact bZ third
theorem xh(T:Tops P w K mg base):Cal P w K mg base 3 "_law_words" nC cI :=
 Cal.byD (N:=["_law_well_here","_law_many","_law_letters","_law_way","_law_base","_law_at","_law_words_here","_law_k","_law_sign"]) T.b T.f_words (by walk_at "sc") uL (by have:=bR T;have:=uo T;walk_at "dv") wH
noncomputable def bC(p:Str×List Str):D:=.tup [.str p.1,.tup (p.2.map .str)]
structure HouseW(ps:List (Str×Int))(rs:List (Str×List Str)):Prop where
 nd:(ps.map (·.1)).Nodup
 len:1<=ps.length/\ps.length<=4
 many:∀p∈ps,1<=p.2/\p.2<=3
 nm:∀p∈ps,kh p.1
 up:(ps.map (·.1)).Pairwise λa b=>fP b a=false
 rl:1<=rs.length/\rs.length<=4
 rn:∀r∈rs,kh r.1
 rnd:(rs.map (·.1)).Nodup
 rup:(rs.map (·.1)).Pairwise λa b=>fP b a=false
 mem:∀r∈rs,r.2≠[]/\r.2.Sublist (ps.map (·.1))
noncomputable def vA(ps:List (Str×Int))(rs:List (Str×List Str)):D:=.tup [.tup (ps.map aH),.tup (rs.map bC)]
def gs:DSp:=λds M R=>∃(n:Nat) (c:Int),ds=[.ref n]/\M[n]?=some (ao c)/\∀ps rs B,HouseW ps rs->WM M n B->R (vA ps rs) B
theorem uO:dY gs nF:=by rintro ds M R ⟨n,c,rfl,_⟩;rfl
theorem gi(hL:ap M n xs)(ok:∀x∈xs,okD (M++[MO.lst []]) 29 x=true):(okD (M++[MO.lst []]) eqN (.ref n)=true/\okD (M++[MO.lst []]) eqN (.ref M.length)=true)/\eqD (M++[MO.lst []]) eqN (.ref n) (.ref M.length)=xs.isEmpty:=by
 have h1:ap (M++[MO.lst []]) n xs:=hL.more _
 have h2:ap (M++[MO.lst []]) M.length []:=aq
 refine⟨⟨uu (n:=29) h1 ok,uu (n:=29) h2 λ_ z=>nomatch z⟩,?_⟩
 exact(yc (n:=29) h1 h2).trans BL
theorem aV(h:m≠n)(l:ap M m xs):ap (M.set n x) m xs:=by
 rcases l with l | l | l
 ·exact .inl (by rw[AAf (ABG h)];exact l)
 ·exact .inr (.inl (by rw[AAf (ABG h)];exact l))
 ·exact .inr (.inr (by rw[AAf (ABG h)];exact l))
theorem ax{M:Mem}{m n:Nat}{x y:MO}(h:m≠n)(l:M[m]?=some y):(M.set n x)[m]?=some y:=by rw[AAf (ABG h)];exact l
theorem aO{M:Mem}{m:Nat}{y:MO}(l:M[m]?=some y):m<M.length:=(AA5.mp l).1
theorem bv{B:Mem}{q:Nat}{x a:MO}(h:B[q]?=some x):(B++[a])[q]?=some x:=by
 rw[AAJ (AA5.mp h).1];exact h
def kO:DTS:=bI (fG (aa (dCB bN (aa (ac 1) am)) (aa (dCB bN (aa (ac 3) am)) am)))
def gK:DTS:=fU (dMl bO (ac 3) (aa (fG (aa (ac 4) (aa (dCB bN (aa (ac 5) am)) am))) am))
def kP:DTS:=aI (dIf (aG (dOp qEq (ac 5) (cR am))) (bb (cR (aa (dOp qIx (dOp qIx (ac 1) (dCB au (aa (ac 0) (aa (dCB ja (aa (ac 1) am)) am)))) (dC (.int 0))) am)) 5) bo) (gK)
def kQ:DTS:=aI (iK (bx (dCB cI (aa (ac 0) (aa (dOp aK (dC (.int 1)) (dCB au (aa (ac 0) (aa (dC (.int 4)) am)))) am)))) (aA 4) (aI (iz 2 [0] (bx (ac 1)) (mv 2 (bV (aA 0) (bV (aA 1) mw))) (aG (dOp qGt (dCB au (aa (ac 2) (aa (dC (.int 4)) am))) (dC (.int 0)))) (ac 0) 5) (kP))) (kO)
def gL:DTS:=aI (bb (cR am) 3) (kQ)
def kR:DTS:=aI (iK (bx (dCB cI (aa (ac 0) (aa (dOp aK (dC (.int 1)) (dCB au (aa (ac 0) (aa (dC (.int 4)) am)))) am)))) (aA 2) (fU (dMl bO (ac 1) (aa (fG (aa (ac 2) (aa (dOp aK (dC (.int 1)) (dCB au (aa (ac 0) (aa (dC (.int 3)) am)))) am))) am)))) (gL)
def sU:DTS:=aI (bb (cR am) 1) (kR)
theorem ot{M M':Mem}{R:DK}{n:Nat}{c:Int}{xs:List Str}{ps:List (Str×Int)}{a:Option D}(hn:M[n]?=some (ao c))(h:∀ps rs B,HouseW ps rs->WM M n B->R (vA ps rs) B)(wm:WM M n M')(gp:M'[M.length]?=some (.lst (ps.map aH)))(hps:ps.map (·.1)=xs)(hmany:∀p∈ps,1<=p.2/\p.2<=3)(x1:1<=xs.length)(x4:xs.length<=4)(xn:∀x∈xs,kh x)(xnd:xs.Nodup)(xup:xs.Pairwise λa b=>fP b a=false) :
  gL (EE M R) [some (.ref n),some (.ref M.length),a,none,none,none] M':=by
 have nM:n<M.length:=(AA5.mp hn).1
 have pl:ps.length=xs.length:=by rw[<-hps,AA6]
 have mq:=aO gp
 simp only[gL,kQ]
 walk_at "dl"
 obtain⟨c1,hc1⟩:=(wm.app [MO.lst []]).get hn
 refine⟨AAV _,n,c1,4,rfl,hc1,by decide,by decide,λi c2 i0 i4=>?_⟩
 obtain⟨m,hm⟩:∃k:Nat,(k:Int)=1+i:=⟨(1+i).toNat,by lia⟩
 have wm0:WM M n ((M'++[MO.lst []]).set n (ao c2)):=(wm.app _).set hn _
 have gr0:((M'++[MO.lst []]).set n (ao c2))[M'.length]?=some (.lst []):=ax (by lia) ak
 have gp0:((M'++[MO.lst []]).set n (ao c2))[M.length]?=some (.lst (ps.map aH)):=ax (by lia) (bv gp)
 generalize (M'++[MO.lst []]).set n (ao c2)=B0 at wm0 gr0 gp0
 generalize M'.length=rq at gr0 mq
 obtain⟨c3,hc3⟩:=wm0.get hn
 show cI [D.ref n,D.int (1+i)] B0 _
 rw[<-hm]
 refine⟨n,m,c3,rfl,by lia,by lia,hc3,?_⟩
 rintro ys B1 y1 y4 yn ⟨ynd,yup⟩ w1
 have wm1:WM M n (B1++[.lst (ys.map .str)]):=(wm0.trans hn w1).app _
 have gr1:(B1++[.lst (ys.map .str)])[rq]?=some (.lst []):=bv (w1.other (by lia) gr0)
 have gp1:(B1++[.lst (ys.map .str)])[M.length]?=some (.lst (ps.map aH)):=bv (w1.other (by lia) gp0)
 have ly1:ap (B1++[.lst (ys.map .str)]) B1.length (ys.map .str):=aq
 have wl:rq<B1.length:=aO (w1.other (by lia) gr0)
 generalize B1++[MO.lst (ys.map .str)]=C1 at wm1 gr1 gp1 ly1
 generalize B1.length=wq at ly1 wl
 refine⟨_,ly1,λ_=>?_⟩
 refine bc (λi S M'=>∃(rs:List (Str×List Str)) (a b d:Option D),rs.map (·.1)=ys.take i/\(∀r∈rs,r.2≠[]/\r.2.Sublist xs)/\WM M n M'/\M'[M.length]?=some (.lst (ps.map aH))/\M'[rq]?=some (.lst (rs.map bC))/\ap M' wq (ys.map .str)/\S=[some (.ref n),some (.ref M.length),a,some (.ref rq),b,d]) ?_ ?_ ⟨[],_,_,_,rfl,(λ_ z=>nomatch z),wm1,gp1,gr1,ly1,rfl⟩
 ·rintro S M2 ⟨rs,a,b,d,hrs,hmem,wm,gp,gr,ly,rfl⟩
  rw[AA6,ABX]at hrs
  have rl:rs.length=ys.length:=by rw[<-hrs,AA6]
  refine⟨ly,?_⟩
  simp only[kO]
  walk_at "dl"
  refine⟨_,.inl gp,_,.inl gr,az (by lia),.inl (h ps rs M2 ⟨by rw[hps];exact xnd,by lia,hmany,λp hp=>xn _ (by rw[<-hps];exact ACd hp),by rw[hps];exact xup,by lia,λr hr=>yn _ (by rw[<-hrs];exact ACd hr),by rw[hrs];exact ynd,by rw[hrs];exact yup,λr hr=>by rw[hps];exact hmem r hr⟩ wm)⟩
 ·rintro i y S M2 hy ⟨rs,a,b,d,hrs,hmem,wm,gp,gr,ly,rfl⟩ G hG
  rw[AAU]at hy
  obtain⟨x,hx,rfl⟩:=AB3.mp hy
  refine⟨ly,?_⟩
  have hil:i<ys.length:=(AA5.mp hx).1
  have rl:rs.length=i:=by
   have:=congrArg AC9 hrs
   rw[AA6,AAo]at this
   lia
  have fin:∀(E:DEnds) (B:Mem) (k:Nat) (ms:List Str) (a:Option D),E.nx=Fgt C1 G->ms≠[]->ms.Sublist xs->WM M n B->B[M.length]?=some (.lst (ps.map aH))->B[rq]?=some (.lst (rs.map bC))->ap B wq (ys.map .str)->ap B k (ms.map .str) ->
    gK E [some (.ref n),some (.ref M.length),a,some (.ref rq),some (.str x),some (.ref k)] B:=λE B k ms a hE m0 ms1 wm gp gr ly lm=>by
   simp only[gK]
   walk_at "dl"
   refine⟨⟨_,.inl gr⟩,_,lm,az (by lia),_,gr,by rw[AA6];exact aF (by lia),?_⟩
   rw[hE]
   refine Fgt.now (hG _ _ ⟨rs++[(x,ms)],_,_,_,?_,λr hr=>?_,wm.hi (by lia),ax (by lia) gp,?_,aV (by lia) ly,rfl⟩)
   ·rw[AAk,hrs,AB6,hx];rfl
   ·rcases AAT.mp hr with hr | hr
    ·exact hmem r hr
    ·rw[AAS.mp hr];exact⟨m0,ms1⟩
   ·rw[bq gr]
    simp[bC]
  walk_at "dl"
  refine⟨_,.inl gp,λ_=>?_⟩
  refine cF (λzs acc S M3=>∃(j:Nat) (ms:List Str) (a b:Option D),zs=(ps.map aH).drop j/\acc=ms.map .str/\ms.Sublist (xs.take j)/\WM M n M3/\M3[M.length]?=some (.lst (ps.map aH))/\M3[rq]?=some (.lst (rs.map bC))/\ap M3 wq (ys.map .str)/\S=[a,b,some (.ref n)]) ?_ ?_ _ _ _ _ ⟨0,[],_,_,rfl,rfl,List.nil_sublist _,wm,gp,gr,ly,rfl⟩
  ·rintro acc S M3 ⟨j,ms,a,b,_,rfl,hsub0,wm,gp,gr,ly,rfl⟩
   have hsub:ms.Sublist xs:=hsub0.trans (AD1 _ _)
   refine⟨.inl gp,?_⟩
   have l4:ap (M3++[MO.lst (ms.map .str)]) M3.length (ms.map .str):=aq
   have gp4:=bv (a:=MO.lst (ms.map .str)) gp
   have gr4:=bv (a:=MO.lst (ms.map .str)) gr
   have ly4:=ly.more [MO.lst (ms.map .str)]
   have wm4:=wm.app [MO.lst (ms.map .str)]
   generalize M3++[MO.lst (ms.map .str)]=M4 at l4 gp4 gr4 ly4 wm4
   generalize M3.length=k at l4
   simp only[kP]
   walk_at "dl"
   obtain⟨okk,enil⟩:=gi (M:=M4) l4 λy hy=>by obtain⟨z,_,rfl⟩:=AAF.mp hy;exact dR
   refine⟨AAV _,okk,?_⟩
   rw[enil]
   cases hms:(ms.map D.str).isEmpty with
   | false =>
    refine bZ (fin _ _ k ms _ rfl (λz=>by rw[z]at hms;cases hms) hsub (wm4.app _) (bv gp4) (bv gr4) (ly4.more _) (l4.more _))
   | true =>
    refine cM ?_
    obtain⟨c5,hc5⟩:=(wm4.app [MO.lst []]).get hn
    refine⟨_,.inl (bv gp4),n,c5,_,rfl,hc5,by rw[AA6];lia,by rw[AA6];lia,λv c6 v0 v1=>⟨_,.inl (ax (by lia) (bv gp4)),?_⟩⟩
    obtain⟨j,hj,ej,_⟩:=cP (xs:=ps.map aH) v0 v1
    rw[ej,ACF]
    rw[AA6]at hj
    simp only[aH]
    walk_at "dl"
    have hxm:(ps[j]).1∈xs:=by rw[<-hps];exact ACd (AAy hj)
    refine⟨az (by lia),?_⟩
    refine fin _ _ _ [(ps[j]).1] _ rfl (by simp) (List.singleton_sublist.mpr hxm) (((wm4.app _).set hn _).app _) (bv (ax (by lia) (bv gp4))) (bv (ax (by lia) (bv gr4))) ((aV (by lia) (ly4.more _)).more _) aq
  ·rintro y zs acc S M3 ⟨j,ms,a,b,hz,rfl,hsub,wm,gp,gr,ly,rfl⟩ K hK
   have hj:j<(ps.map aH).length:=by
    refine Classical.byContradiction λz=>?_
    rw[ADk (by lia)]at hz
    cases hz
   rw[List.drop_eq_getElem_cons hj]at hz
   injection hz with e1 e2
   subst e1
   refine⟨.inl gp,?_⟩
   rw[ACF]
   have hj2:j<ps.length:=by rw[AA6]at hj;exact hj
   have hjx:j<xs.length:=by lia
   have ex:(ps[j]).1=xs[j]:=by
    have e:(ps.map (·.1))[j]?=xs[j]?:=by rw[hps]
    rw[AAU,AA7 hj2,AA7 hjx]at e
    exact AAM e
   simp only[aH]
   obtain⟨c5,hc5⟩:=wm.get hn
   walk_at "dl"
   refine⟨trivial,n,c5,4,rfl,hc5,by decide,by decide,λv c6 v0 v4=>?_⟩
   have ml:=hsub.length_le
   rw[AAo]at ml
   dsimp only
   by_cases hv:0<v
   ·rw[dT_ hv]
    refine cM ⟨by rw[AA6];exact aF (by lia),hK _ _ _ ⟨j+1,ms++[(ps[j]).1],_,_,e2,by simp,?_,wm.set hn _,ax (by lia) gp,ax (by lia) gr,aV (by lia) ly,rfl⟩⟩
    rw[ex,AB6,AA7 hjx]
    exact hsub.append (List.Sublist.refl _)
   ·rw[dF_ hv]
    refine bZ (hK _ _ _ ⟨j+1,ms,_,_,e2,rfl,?_,wm.set hn _,ax (by lia) gp,ax (by lia) gr,aV (by lia) ly,rfl⟩)
    rw[AB6]
    exact hsub.trans (List.sublist_append_left _ _)
theorem wK:WpT gs 6 sU:=by
 rintro ds M R ⟨n,c,rfl,hn,h⟩
 have nM:n<M.length:=(AA5.mp hn).1
 simp only[sU,kR]
 walk_at "dl"
 have hn1:(M++[MO.lst []])[n]?=some (ao c):=by rw[AAJ nM];exact hn
 have wmA:WM M n (M++[MO.lst []]):=(WM.now hn).app _
 refine⟨AAV _,n,c,4,rfl,hn1,by decide,by decide,λi c1 i0 i4=>?_⟩
 obtain⟨m,hm⟩:∃k:Nat,(k:Int)=1+i:=⟨(1+i).toNat,by lia⟩
 have wm0:WM M n ((M++[MO.lst []]).set n (ao c1)):=wmA.set hn _
 have g0:((M++[MO.lst []]).set n (ao c1))[M.length]?=some (.lst []):=ax (by lia) ak
 generalize (M++[MO.lst []]).set n (ao c1)=B0 at wm0 g0
 obtain⟨c2,hc2⟩:=wm0.get hn
 show cI [D.ref n,D.int (1+i)] B0 _
 rw[<-hm]
 refine⟨n,m,c2,rfl,by lia,by lia,hc2,?_⟩
 rintro xs B1 x1 x4 xn ⟨xnd,xup⟩ w1
 have wm1:WM M n (B1++[.lst (xs.map .str)]):=(wm0.trans hn w1).app _
 have g1:(B1++[.lst (xs.map .str)])[M.length]?=some (.lst []):=bv (w1.other (by lia) g0)
 have l1:ap (B1++[.lst (xs.map .str)]) B1.length (xs.map .str):=aq
 have wl:M.length<B1.length:=aO (w1.other (by lia) g0)
 generalize B1++[MO.lst (xs.map .str)]=C1 at wm1 g1 l1
 generalize B1.length=wq at l1 wl
 refine⟨_,l1,λ_=>?_⟩
 refine bc (λi S M'=>∃(ps:List (Str×Int)) (a:Option D),ps.map (·.1)=xs.take i/\(∀p∈ps,1<=p.2/\p.2<=3)/\WM M n M'/\M'[M.length]?=some (.lst (ps.map aH))/\ap M' wq (xs.map .str)/\S=[some (.ref n),some (.ref M.length),a,none,none,none]) ?_ ?_ ⟨[],_,rfl,(λ_ z=>nomatch z),wm1,g1,l1,rfl⟩
 ·rintro S M' ⟨ps,a,hps,hmany,wm,gp,lx,rfl⟩
  rw[AA6,ABX]at hps
  refine⟨lx,?_⟩
  exact ot hn h wm gp hps hmany x1 x4 xn xnd xup
 ·rintro i y S M' hy ⟨ps,a,hps,hmany,wm,gp,lx,rfl⟩ G hG
  rw[AAU]at hy
  obtain⟨x,hx,rfl⟩:=AB3.mp hy
  refine⟨lx,?_⟩
  obtain⟨c3,hc3⟩:=wm.get hn
  walk_at "dl"
  refine⟨⟨_,.inl gp⟩,n,c3,3,rfl,hc3,by decide,by decide,λv c4 v0 v3=>⟨az (by lia),_,ax (by lia) gp,?_,?_⟩⟩
  ·have:=congrArg AC9 hps
   rw[AA6,AAo]at this
   rw[AA6];exact aF (by lia)
  ·refine Fgt.now (hG _ _ ⟨ps++[(x,1+v)],_,?_,λp hp=>?_,(wm.set hn _).hi (AAB _),?_,aV (by lia) (aV (by lia) lx),rfl⟩)
   ·rw[AAk,hps,AB6,hx];rfl
   ·rcases AAT.mp hp with hp | hp
    ·exact hmany p hp
    ·rw[AAS.mp hp];dsimp only;lia
   ·rw[bq (ax (by lia) gp)]
    simp[aH]
theorem xj(T:Tops P w K mg base):Cal P w K mg base 4 "_law_house" nF gs :=
 Cal.byD (N:=["_law_well_here","_law_people","_law_name","_law_rooms","_law_room","_law_members"]) T.b T.f_house (by walk_at "sc") uO (by have:=bR T;have:=xh T;walk_at "dv") wK
noncomputable def cB(p:Str×Int):List D:=(nv 0 p.2.toNat).map λk=>.tup [.str p.1,k]
noncomputable def ah(ps:List (Str×Int)):List D:=ps.flatMap cB
def Few(ps:List (Str×Int)):Prop:=ps.length<=4/\∀p∈ps,0<=p.2/\p.2<=3
def cK:DSp:=λds M R=>∃(ps:List (Str×Int)) (r:List D),ds=[.tup (.tup (ps.map aH)::r)]/\Few ps/\R (.ref M.length) (M++[.lst (ah ps)])
theorem uP:dY cK nG:=by rintro ds M R ⟨ps,r,rfl,_⟩;rfl
theorem dU:(cB p).length=p.2.toNat:=by simp[cB,nv]
theorem bL(h:∀p∈ps,0<=p.2/\p.2<=3):(ah ps).length<=3*ps.length:=by
 induction ps with
 | nil=>simp[ah]
 | cons p ps ih =>
  have:=ih λq hq=>h q (AA9 _ hq)
  have h1:=h p AAO
  have e:(ah (p::ps)).length=p.2.toNat+(ah ps).length:=by
   rw[ah,List.flatMap_cons,AAC,dU];rfl
  rw[e,AAG]
  lia
theorem rM:Bels k (ah ps):=Bels.of λd hd=>by
 unfold ah at hd
 obtain⟨p,_,hp⟩:=List.mem_flatMap.mp hd
 unfold cB nv at hp
 simp only[ABE,AAF]at hp
 obtain⟨i,_,rfl⟩:=hp
 exact .tup (.cons (.str _) (.cons (.int _) .nil))
theorem xV(h:d∈ah ps):∃p∈ps,∃k:Nat,d=.tup [.str p.1,.int (k:Int)]/\k<p.2.toNat:=by
 unfold ah at h
 obtain⟨p,hp,hd⟩:=List.mem_flatMap.mp h
 unfold cB at hd
 obtain⟨q,hq,rfl⟩:=AAF.mp hd
 obtain⟨i,hi⟩:=AC1 hq
 obtain⟨h1,rfl⟩:=gc.mp hi
 exact⟨p,hp,i,by rw[Int.zero_add],h1⟩
def kT:DTS:=bI (ac 1)
def kU:DTS:=aI (iK (bx (dOp qIx (ac 0) (dC (.int 0)))) (mv 2 (bV (aA 2) (bV (aA 3) mw))) (fU (dMl hV (ac 1) (aa (dLC 1 [2] (bE (aa (ac 3) am)) (aA 0) oJ (fG (aa (ac 1) (aa (ac 0) am)))) am)))) (kT)
def sV:DTS:=aI (bb (cR am) 1) (kU)
theorem wL:WpT cK 4 sV:=by
 rintro ds M R ⟨ps,r,rfl,⟨h4,h3⟩,h⟩
 simp only[sV,kU]
 walk_at "dl"
 refine⟨AAV _,λ_=>?_⟩
 have hb:∀qs:List (Str×Int),(∀p∈qs,p∈ps)->qs.length<=4->(ah qs).length<=12:=λqs h1 h2=>by
  have:=bL (ps:=qs) λp hp=>h3 p (h1 p hp)
  lia
 refine dB (λys S M'=>∃qs rs a b L,ps=qs++rs/\ys=rs.map aH/\M'=M++(.lst (ah qs)::L)/\S=[some (.tup (.tup (ps.map aH)::r)),some (.ref M.length),a,b]) ?_ ?_ _ _ _ ⟨[],ps,_,_,[],rfl,rfl,rfl,rfl⟩
 ·rintro S M' ⟨qs,rs,a,b,L,e,hq,rfl,rfl⟩
  have:rs=[]:=by cases rs<;>simp_all
  subst this
  rw[AAq]at e
  subst e
  refine⟨trivial,?_⟩
  simp only[kT]
  walk_at "dl"
  exact cj.lst h (AAB _) (by simp) rM
 ·rintro x xs S M' ⟨qs,rs,a,b,L,e,hq,rfl,rfl⟩ G hG
  cases rs with
  | nil=>cases hq
  | cons p rs =>
   rw[AAN]at hq
   injection hq with e1 e2
   subst e1
   have hp:=h3 p (by rw[e];simp)
   refine⟨trivial,?_⟩
   unfold aH
   walk_at "dl"
   refine⟨trivial,⟨ah qs,.inl (by simp)⟩,⟨by lia,by lia⟩,?_⟩
   refine db (λk=>.tup [.str p.1,k]) (λS=>∃a,S=[a,some (.str p.1)]) trivial _ _ _ (λk hk S hS=>?_) ⟨_,rfl⟩ ?_ ?_
   ·obtain⟨a,rfl⟩:=hS
    refine⟨[some k,some (.str p.1)],⟨_,rfl⟩,λY hY=>?_⟩
    walk_at "dl"
    exact⟨az (by lia),hY⟩
   ·simp only[AAY,dm]
    exact az (by lia)
   ·have l0:ps.length=qs.length+(rs.length+1):=by rw[e];simp
    have l1:=hb qs (λq hq=>by rw[e];simp[hq]) (by lia)
    refine⟨ah qs,cB p,by simp,by simp[cB],by simp,?_,?_⟩
    ·rw[dU];exact az (by lia)
    ·refine Fgt.now (hG _ _ ⟨qs++[p],rs,_,_,L++[.lst (cB p)],by rw[e];simp,e2,?_,rfl⟩)
     have:ah (qs++[p])=ah qs++cB p:=by simp[ah]
     rw[this,ABO,ACh,jz]
     rfl
theorem gh(T:Tops P w K mg base):Cal P w K mg base 1 "_law_hands" nG cK :=
 Cal.byD (N:=["_law_house_here","_law_hands_here","_law_name","_law_many"]) T.b T.f_hands (by walk_at "sc") uP (by walk_at "dv") wL
def dc:DSp:=λds M R=>∃(n:Nat) (c:Int) (p:Str×Int) (ps:List (Str×Int)) (r:List D),ds=[.ref n,.tup (.tup ((p::ps).map aH)::r)]/\M[n]?=some (ao c)/\Few (p::ps)/\(∀q∈p::ps,q.1.length<=8)/\∀(x:Str) (B:Mem),WM M n B->R (.str x) B
theorem rD:dY dc jH:=by rintro ds M R ⟨n,c,p,ps,r,rfl,_⟩;rfl
theorem yM:∀xs:List Str,(∀x∈xs,x.length<=k)->(xs.map (λx=>x.length)).sum<=k*xs.length
 | [],_=>AAV _
 | x::r,h=>by
  have ih:=yM r λy hy=>h y (AA9 _ hy)
  have h0:=h x (by simp)
  rw[AAN,List.sum_cons,AAG,Nat.mul_succ]
  lia
theorem pR(z:Str):∀xs:List Str,(Str.join z xs).length<=(xs.map (λx=>x.length)).sum+xs.length*z.length
 | []=>AAV _
 | [x]=>by
  show x.length<=x.length+0+1*z.length
  lia
 | x::y::r=>by
  have ih:=pR z (y::r)
  show ((x++z)++Str.join z (y::r)).length<=_
  rw[aE,bX,bX,AAC,AAC,<-aE,<-aE,<-aE,AAN,List.sum_cons,AAG,Nat.succ_mul]
  lia
theorem Bo(z:Str)(xs:List Str):(Txt.join z xs).length<=(xs.map (λx=>x.length)).sum+xs.length*z.length:=by
 unfold Txt.join
 rw[StrLaws.glued_eq_join]
 exact pR z xs
def iR:DTS:=bI (dSl (dMs nA (dOp qIx (ac 2) (dCB au (aa (ac 0) (aa (dC (.int 12)) am)))) (aa (ac 5) am)) bW (bF (dC (.int 60))))
def iS:DTS:=aI (iz 1 [4,0] (bE (aa (dOp aK (dC (.int 1)) (dCB au (aa (ac 0) (aa (dC (.int 4)) am)))) am)) (aA 0) oJ (dOp qIx (ac 1) (dCB au (aa (ac 2) (aa (dCB ja (aa (ac 1) am)) am)))) 5) (iR)
def eW:DTS:=aI (dIf (aG (dOp qEq (dCB au (aa (ac 0) (aa (dC (.int 3)) am))) (dC (.int 0)))) (bI (dMs nA (dC (.str "")) (aa (dLC 1 [3,0] (bE (aa (dOp aK (dC (.int 1)) (dCB au (aa (ac 0) (aa (dC (.int 60)) am)))) am)) (aA 0) oJ (dOp qIx (ac 1) (dCB au (aa (ac 2) (aa (dC (.int 94)) am))))) am))) bo) (iS)
def iT:DTS:=aI (bb (dOp aK (dLC 2 [] (bx (dOp qIx (ac 1) (dC (.int 0)))) (mv 2 (bV (aA 0) (bV (aA 1) mw))) oJ (dOp aK (dC (.str "@")) (ac 0))) (cR (aa (dC (.str "hi")) (aa (dC (.str "a")) (aa (dOp aK (dOp aK (dC (.str "@")) (dOp qIx (dOp qIx (dOp qIx (ac 1) (dC (.int 0))) (dC (.int 0))) (dC (.int 0)))) (dC (.str "x"))) am))))) 4) (eW)
def iU:DTS:=aI (bb (dC (.str " !\"#$&'()*+,-./0123456789:;<=>?@ABCDEFGHIJKLMNOPQRSTUVWXYZ[\\]^_`abcdefghijklmnopqrstuvwxyz{|}~")) 3) (iT)
def pv:DTS:=aI (bb (dC (.str " @abz.,Z0~!-")) 2) (iU)
theorem wU{M B:Mem}{R:DK}{n k:Nat}{c:Int}{sg ev:Str}{y1:Option D}{xs:List Str}(hn:M[n]?=some (ao c))(hs:sg.cps.toList.length=12)(he:ev.cps.toList.length=94)(hx:∀x∈xs,x.length<=10)(x1:1<=xs.length)(x9:xs.length<=9)(wm:WM M n B)(hk:B[k]?=some (.lst (xs.map .str)))(kn:k≠n)(h:∀(x:Str) (B:Mem),WM M n B->R (.str x) B) :
  eW (EE M R) [some (.ref n),y1,some (.str sg),some (.str ev),some (.ref k),none] B:=by
 have sl:sg.length=12:=by rw[aE];exact hs
 have el:ev.length=94:=by rw[aE];exact he
 simp only[eW]
 walk_at "dl"
 obtain⟨c1,hc1⟩:=wm.get hn
 refine⟨n,c1,3,rfl,hc1,by decide,by decide,λi c2 i0 i3=>⟨⟨aB,aB⟩,?_⟩⟩
 have wm2:WM M n (B.set n (ao c2)):=wm.set hn _
 have hk2:(B.set n (ao c2))[k]?=some (.lst (xs.map .str)):=ax kn hk
 generalize B.set n (ao c2)=B2 at wm2 hk2
 obtain⟨c3,hc3⟩:=wm2.get hn
 cases eqD B2 eqN (.int i) (.int 0) with
 | true =>
  refine cM ⟨n,c3,60,rfl,hc3,by decide,by decide,λj c4 j0 j60=>⟨⟨by lia,by lia⟩,?_⟩⟩
  have wm4:WM M n (B2.set n (ao c4)):=wm2.set hn _
  refine cF (λys acc S M'=>∃(cs:List Nat) (a:Option D),acc=(cs.map one).map .str/\cs.length+ys.length=(1+j).toNat/\WM M n M'/\S=[a,some (.str ev),some (.ref n)]) ?_ ?_ _ _ _ _ ⟨[],_,rfl,by rw[dm];simp,wm4,rfl⟩
  ·rintro acc S M' ⟨cs,a,rfl,hl,wm,rfl⟩
   simp only[AAY,Nat.add_zero]at hl
   refine⟨trivial,cs.map one,aq,?_,.inl (h _ _ (wm.app _))⟩
   rw[jx,AA6,show (AA2 "").length=0 by decide +kernel];lia
  ·rintro y ys acc S M' ⟨cs,a,rfl,hl,wm,rfl⟩ K hK
   refine⟨trivial,?_⟩
   obtain⟨w,hw⟩:=wm.get hn
   walk_at "dl"
   refine⟨n,w,94,rfl,hw,by decide,by decide,λv c5 v0 v94=>⟨az (by lia),?_⟩⟩
   obtain⟨jn,hj,ej,_⟩:=cP (xs:=ev.cps.toList) v0 (by rw[he];exact v94)
   rw[ej]
   rw[AAG]at hl
   exact⟨by rw[AA6,AA6];exact aF (by lia),hK _ _ _ ⟨cs++[ev.cps.toList[jn]],_,by simp[one],by rw[AAC,AAm];lia,wm.set hn _,rfl⟩⟩
 | false =>
  refine bZ ?_
  simp only[iS]
  walk_at "dl"
  refine⟨n,c3,4,rfl,hc3,by decide,by decide,λj c4 j0 j4=>⟨⟨by lia,by lia⟩,?_⟩⟩
  have wm4:WM M n (B2.set n (ao c4)):=wm2.set hn _
  have hk4:(B2.set n (ao c4))[k]?=some (.lst (xs.map .str)):=ax kn hk2
  refine cF (λys acc S M'=>∃(zs:List Str) (a:Option D),acc=zs.map .str/\(∀z∈zs,z.length<=10)/\zs.length+ys.length=(1+j).toNat/\WM M n M'/\M'[k]?=some (.lst (xs.map .str))/\S=[a,some (.ref k),some (.ref n)]) ?_ ?_ _ _ _ _ ⟨[],_,rfl,(λ_ z=>nomatch z),by rw[dm];simp,wm4,hk4,rfl⟩
  ·rintro acc S M' ⟨zs,a,rfl,hz,hl,wm,hk,rfl⟩
   simp only[AAY,Nat.add_zero]at hl
   refine⟨trivial,?_⟩
   simp only[iR]
   walk_at "dl"
   have wm5:=wm.app [MO.lst (zs.map D.str)]
   have l5:ap (M'++[MO.lst (zs.map D.str)]) M'.length (zs.map D.str):=aq
   have ml:=wm.len
   obtain⟨c5,hc5⟩:=wm5.get hn
   have nM:n<M.length:=(AA5.mp hn).1
   generalize M'++[MO.lst (zs.map D.str)]=B5 at wm5 l5 hc5
   generalize M'.length=q at l5 ml
   refine⟨n,c5,12,rfl,hc5,by decide,by decide,λv c6 v0 v12=>⟨az (by lia),?_⟩⟩
   obtain⟨jn,hj,ej,_⟩:=cP (xs:=sg.cps.toList) v0 (by rw[hs];exact v12)
   rw[ej]
   have s1:=yM zs hz
   have e1:({ cps:=#[sg.cps.toList[jn]] }:Str).length=1:=rfl
   have j1:=Bo { cps:=#[sg.cps.toList[jn]] } zs
   rw[e1]at j1
   refine⟨zs,aV (by lia) l5,by rw[e1];lia,az (by lia),.inl (h _ _ (wm5.set hn _))⟩
  ·rintro y ys acc S M' ⟨zs,a,rfl,hz,hl,wm,hk,rfl⟩ K hK
   refine⟨trivial,?_⟩
   obtain⟨w,hw⟩:=wm.get hn
   walk_at "dl"
   refine⟨_,.inl hk,?_⟩
   rw[AA6]
   refine⟨n,w,xs.length,rfl,hw,by lia,by lia,λv c5 v0 v1=>⟨_,.inl (ax kn hk),?_⟩⟩
   obtain⟨jn,hj,ej,_⟩:=cP (xs:=xs.map D.str) v0 (by rw[AA6];exact v1)
   rw[ej]
   rw[AA6]at hj
   rw[AAG]at hl
   refine⟨by rw[AA6];exact aF (by lia),hK _ _ _ ⟨zs++[xs[jn]],_,by simp,λz hzm=>?_,by rw[AAC,AAm];lia,wm.set hn _,ax kn hk,rfl⟩⟩
   rcases AAT.mp hzm with hzm | hzm
   ·exact hz z hzm
   ·rw[AAS.mp hzm];exact hx _ (AAy hj)
theorem sj:WpT dc 6 pv:=by
 rintro ds M R ⟨n,c,⟨z,m⟩,ps,r,rfl,hn,few,h8,h⟩
 have nM:n<M.length:=(AA5.mp hn).1
 have f4:=few.1
 have z8:z.length<=8:=h8 (z,m) (by simp)
 rw[AAG]at f4
 rw[AAN,show aH (z,m)=.tup [.str z,.int m]from rfl]
 simp only[pv,iU,iT]
 walk_at "dl"
 intro _
 refine db (λd=>match d with | .tup (.str x::_)=>.str (AA2 "@" ++ x) | _=>.non) (λS=>∃a b,S=[a,b]) trivial _ _ _ (λk hk S hS=>?_) ⟨_,_,rfl⟩ ?_ ?_
 ·obtain⟨a,b,rfl⟩:=hS
  have:∃q∈(z,m)::ps,k=.tup [.str q.1,.int q.2]:=by
   rcases AAL.mp hk with rfl | hk
   ·exact⟨(z,m),by simp,rfl⟩
   ·obtain⟨q,hq,rfl⟩:=AAF.mp hk
    exact⟨q,AA9 _ hq,rfl⟩
  obtain⟨q,hq,rfl⟩:=this
  have:=h8 q hq
  refine⟨[some (.str q.1),some (.int q.2)],⟨_,_,rfl⟩,λY hY=>?_⟩
  walk_at "dl"
  refine⟨trivial,?_,hY⟩
  rw[show (AA2 "@").length=1 by decide +kernel];exact az (by lia)
 ·rw[AAY,AAG,AA6];exact az (by lia)
 ·have e:∀q:List (Str×Int),(q.map aH).map (λd=>match d with | .tup (.str x::_)=>.str (AA2 "@" ++ x) | _=>.non)=(q.map λy=>AA2 "@" ++ y.1).map D.str:=λq=>by
   rw[ABE,ABE];rfl
  have a1:(AA2 "@").length=1:=by decide +kernel
  have x1:(AA2 "x").length=1:=by decide +kernel
  have zl:(AA2 "@" ++ z).length=1+z.length:=by rw[aE,bX,AAC,<-aE,<-aE,a1]
  have bl:∀y∈((z,m)::ps).map (λy=>AA2 "@" ++ y.1),y.length<=10:=λy hy=>by
   obtain⟨q,hq,rfl⟩:=AAF.mp hy
   have:=h8 q hq
   rw[aE,bX,AAC,<-aE,<-aE,a1];lia
  rw[show (D.tup [.str z,.int m])=aH (z,m)from rfl,<-AAN,e ((z,m)::ps),AAr]
  have nl:(((z,m)::ps).map (λy=>AA2 "@" ++ y.1)).length=ps.length+1:=by rw[AA6,AAG]
  generalize ((z,m)::ps).map (λy=>AA2 "@" ++ y.1)=ns at bl nl
  generalize AA2 "@" ++ z=w at zl
  refine⟨az (by lia),az (by lia),az (by lia),_,_,ae ak,ak,?_,?_⟩
  ·rw[AA6];exact az (by simp only[AAG,AAY];lia)
  ·rw[show [D.str (AA2 "hi"),D.str (AA2 "a"),D.str (w++AA2 "x")]=[AA2 "hi",AA2 "a",w++AA2 "x"].map D.str from rfl,<-AAk]
   have b2:∀y∈ns++[AA2 "hi",AA2 "a",w++AA2 "x"],y.length<=10:=λy hy=>by
    rcases AAT.mp hy with hy | hy
    ·exact bl y hy
    ·simp only[AAL,List.not_mem_nil,or_false]at hy
     rcases hy with rfl | rfl | rfl
     ·decide +kernel
     ·decide +kernel
     ·rw[aE,bX,AAC,<-aE,<-aE,x1];lia
   have wl:(ns++[AA2 "hi",AA2 "a",w++AA2 "x"]).length=ps.length+4:=by rw[AAC,nl];rfl
   generalize ns++[AA2 "hi",AA2 "a",w++AA2 "x"]=all at b2 wl
   refine wU hn (by decide +kernel) (by decide +kernel) b2 (by lia) (by lia) ((((WM.now hn).app _).app _).app _) ak ?_ h
   simp only[AAC,AAm]
   lia
theorem ur(T:Tops P w K mg base):Cal P w K mg base 2 "_law_saying" jH dc :=
 Cal.byD (N:=["_law_well_here","_law_house_here","_law_signs","_law_every","_law_some","_law_parts"]) T.b T.f_saying (by walk_at "sc") rD (by have:=bR T;walk_at "dv") sj
def dD:DSp:=λds M R=>∃(n q:Nat) (c:Int) (ps:List (Str×Int)) (r sts:List D),ds=[.ref n,.tup (.tup (ps.map aH)::r),.ref q]/\M[n]?=some (ao c)/\ap M q sts/\q≠n/\(∀x∈sts,∀B:Mem,okD B 29 x=true)/\sts.length<=1000/\Few ps/\1<=(ah ps).length /\
 (∀(d:D) (B:Mem),d∈sts->WM M n B->R d B)/\∀(t:Int) (d:D) (B:Mem),1<=t->d∈ah ps->WM M n B->R (.tup [.int t,d]) B
theorem uN:dY dD nE:=by rintro ds M R ⟨n,q,c,ps,r,sts,rfl,_⟩;rfl
def kM:DTS:=bI (fG (aa (dOp aK (dC (.int 1)) (dCB au (aa (ac 0) (aa (dOp qIx (cR (aa (dC (.int 4)) (aa (dOp Dc (dC (.int 10)) (dC (.int 9))) am))) (dCB au (aa (ac 0) (aa (dC (.int 2)) am)))) am)))) (aa (dOp qIx (ac 3) (dCB au (aa (ac 0) (aa (dCB ja (aa (ac 3) am)) am)))) am)))
def gz:DTS:=aI (bb (dCB cK (aa (ac 1) am)) 3) (kM)
def sD:DTS:=aI (dIf (yt (aG (dOp qNe (ac 2) (cR am))) (aG (dOp qGt (dCB au (aa (ac 0) (aa (dC (.int 8)) am))) (dC (.int 0))))) (bI (dOp qIx (ac 2) (dCB au (aa (ac 0) (aa (dCB ja (aa (ac 2) am)) am))))) bo) (gz)
theorem tz{M B:Mem}{R:DK}{n:Nat}{c:Int}{ps:List (Str×Int)}{r:List D}{y2:Option D}(hn:M[n]?=some (ao c))(few:Few ps)(h1:1<=(ah ps).length)(wm:WM M n B)(h:∀(t:Int) (d:D) (B:Mem),1<=t->d∈ah ps->WM M n B->R (.tup [.int t,d]) B) :
  gz (EE M R) [some (.ref n),some (.tup (.tup (ps.map aH)::r)),y2,none] B:=by
 have nM:n<M.length:=(AA5.mp hn).1
 have hl:=bL few.2
 have f4:=few.1
 simp only[gz]
 walk_at "dl"
 refine⟨ps,r,rfl,few,?_⟩
 have wm1:=wm.app [MO.lst (ah ps)]
 have l1:(B++[MO.lst (ah ps)])[B.length]?=some (.lst (ah ps)):=ak
 have bl:=wm.len
 generalize B++[MO.lst (ah ps)]=B1 at wm1 l1
 generalize B.length=k at l1 bl
 simp only[kM]
 walk_at "dl"
 have wm2:=wm1.app [MO.lst [D.int 4,D.int (10 ^ AEb 9)]]
 have l2:(B1++[MO.lst [D.int 4,D.int (10 ^ AEb 9)]])[k]?=some (.lst (ah ps)):=bv l1
 have t2:ap (B1++[MO.lst [D.int 4,D.int (10 ^ AEb 9)]]) B1.length [D.int 4,D.int (10 ^ AEb 9)]:=aq
 have b1:=wm1.len
 obtain⟨c2,hc2⟩:=wm2.get hn
 generalize B1++[MO.lst [D.int 4,D.int (10 ^ AEb 9)]]=B2 at wm2 l2 t2 hc2
 generalize B1.length=k2 at t2 b1
 refine⟨by unfold CPow;decide,az (by lia),n,c2,2,rfl,hc2,by decide,by decide,λi c3 i0 i2=>⟨_,aV (by lia) t2,?_⟩⟩
 have wm3:WM M n (B2.set n (ao c3)):=wm2.set hn _
 have l3:(B2.set n (ao c3))[k]?=some (.lst (ah ps)):=ax (by lia) l2
 obtain⟨c4,hc4⟩:=wm3.get hn
 generalize B2.set n (ao c3)=B3 at wm3 l3 hc4
 obtain⟨w,hw,w0,w15⟩:∃w:Int,atI [D.int 4,D.int (10 ^ AEb 9)] i=some (.int w)/\0<w/\w<1000000000000000:=by
  have:i=0\/i=1:=by lia
  rcases this with rfl | rfl
  ·exact⟨4,aN (j:=0) rfl,by decide,by decide⟩
  ·exact⟨10 ^ AEb 9,aN (j:=1) rfl,by decide,by decide⟩
 rw[hw]
 refine⟨n,c4,w,rfl,hc4,w0,w15,λv c5 v0 v1=>?_⟩
 have wm4:WM M n (B3.set n (ao c5)):=wm3.set hn _
 have l4:(B3.set n (ao c5))[k]?=some (.lst (ah ps)):=ax (by lia) l3
 obtain⟨c6,hc6⟩:=wm4.get hn
 generalize B3.set n (ao c5)=B4 at wm4 l4 hc6
 refine⟨_,.inl l4,n,c6,_,rfl,hc6,by lia,by lia,λj c7 j0 j1=>⟨_,.inl (ax (by lia) l4),?_⟩⟩
 obtain⟨jn,hj,ej,_⟩:=cP j0 j1
 rw[ej]
 exact⟨az (by lia),.inl (h _ _ _ (by lia) (AAy hj) (wm4.set hn _))⟩
theorem wJ:WpT dD 4 sD:=by
 rintro ds M R ⟨n,q,c,ps,r,sts,rfl,hn,hq,qn,ok,l1000,few,h1,h0,h⟩
 simp only[sD]
 walk_at "dl"
 obtain⟨okk,enil⟩:=gi hq λx hx=>ok x hx _
 refine⟨AAV _,okk,?_⟩
 rw[enil]
 have wm1:WM M n (M++[MO.lst []]):=(WM.now hn).app _
 obtain⟨c1,hc1⟩:=wm1.get hn
 cases hs:sts.isEmpty with
 | true =>
  exact bZ (tz hn few h1 wm1 h)
 | false =>
  refine cM ⟨n,c1,8,rfl,hc1,by decide,by decide,λv c2 v0 v8=>?_⟩
  have wm2:WM M n ((M++[MO.lst []]).set n (ao c2)):=wm1.set hn _
  have lq:ap ((M++[MO.lst []]).set n (ao c2)) q sts:=aV qn (hq.more _)
  generalize (M++[MO.lst []]).set n (ao c2)=B2 at wm2 lq
  dsimp only
  by_cases hv:0<v
  ·rw[dT_ hv]
   have sl:1<=sts.length:=by cases sts<;>simp_all
   obtain⟨c3,hc3⟩:=wm2.get hn
   refine cM ⟨sts,lq,n,c3,_,rfl,hc3,by lia,by lia,λi c4 i0 i1=>⟨sts,aV qn lq,?_⟩⟩
   obtain⟨j,hj,ej,_⟩:=cP i0 i1
   rw[ej]
   exact .inl (h0 _ _ (AAy hj) (wm2.set hn _))
  ·rw[dF_ hv]
   exact bZ (tz hn few h1 wm2 h)
theorem qb(T:Tops P w K mg base):Cal P w K mg base 2 "_law_stamp" nE dD :=
 Cal.byD (N:=["_law_well_here","_law_house_here","_law_stamps","_law_hands_here"]) T.b T.f_stamp (by walk_at "sc") uN (by have:=bR T;have:=gh T;walk_at "dv") wJ
def FN(ps:List (Str×Int))(vs:List D):Prop:=∃hs:List (D×Int),vs=hs.map (λp=>.tup [p.1,.int p.2])/\(hs.map (·.1)).Sublist (ah ps)/\∀p∈hs,1<=p.2
def eR:DSp:=λds M R=>∃(n:Nat) (c:Int) (ps:List (Str×Int)) (r:List D),ds=[.ref n,.tup (.tup (ps.map aH)::r)]/\M[n]?=some (ao c)/\Few ps/\∀(vs:List D) (B:Mem),FN ps vs->WM M n B->R (.tup vs) B
theorem rC:dY eR jG:=by rintro ds M R ⟨n,c,ps,r,rfl,_⟩;rfl
def iO:DTS:=bI (dCB bN (aa (ac 2) am))
def iP:DTS:=aI (iK (bx (dCB cK (aa (ac 1) am))) (aA 3) (dIf (aG (dOp qGt (dCB au (aa (ac 0) (aa (dC (.int 3)) am))) (dC (.int 0)))) (fU (dMl bO (ac 2) (aa (fG (aa (ac 3) (aa (dOp aK (dC (.int 1)) (dCB au (aa (ac 0) (aa (dOp qIx (cR (aa (dC (.int 4)) (aa (dC (.int 200)) am))) (dCB au (aa (ac 0) (aa (dC (.int 2)) am)))) am)))) am))) am))) bo)) (iO)
def pj:DTS:=aI (bb (cR am) 2) (iP)
theorem si:WpT eR 4 pj:=by
 rintro ds M R ⟨n,c,ps,r,rfl,hn,few,h⟩
 have nM:n<M.length:=(AA5.mp hn).1
 have hl:=bL few.2
 have f4:=few.1
 simp only[pj,iP]
 walk_at "dl"
 refine⟨AAV _,ps,r,rfl,few,?_⟩
 dsimp only
 have wm1:WM M n (M++[MO.lst []]++[MO.lst (ah ps)]):=((WM.now hn).app _).app _
 have l1:ap (M++[MO.lst []]++[MO.lst (ah ps)]) (M++[MO.lst []]).length (ah ps):=aq
 have g1:(M++[MO.lst []]++[MO.lst (ah ps)])[M.length]?=some (.lst ([]:List D)):=bv ak
 have kq:M.length<(M++[MO.lst []]).length:=by simp
 generalize M++[MO.lst []]++[MO.lst (ah ps)]=C1 at wm1 l1 g1
 generalize (M++[MO.lst []]).length=k at l1 kq
 refine⟨_,l1,λ_=>?_⟩
 refine bc (λi S M'=>∃(hs:List (D×Int)) (a:Option D),(hs.map (·.1)).Sublist ((ah ps).take i)/\(∀p∈hs,1<=p.2)/\WM M n M'/\M'[M.length]?=some (.lst (hs.map λp=>.tup [p.1,.int p.2]))/\ap M' k (ah ps)/\S=[some (.ref n),some (.tup (.tup (ps.map aH)::r)),some (.ref M.length),a]) ?_ ?_ ⟨[],_,List.nil_sublist _,(λ_ z=>nomatch z),wm1,g1,l1,rfl⟩
 ·rintro S M' ⟨hs,a,hsub,hpos,wm,g,l,rfl⟩
  refine⟨l,?_⟩
  simp only[iO]
  walk_at "dl"
  exact⟨_,.inl g,.inl (h _ _ ⟨hs,rfl,hsub.trans (AD1 _ _),hpos⟩ wm)⟩
 ·rintro i y S M' hy ⟨hs,a,hsub,hpos,wm,g,l,rfl⟩ G hG
  refine⟨l,?_⟩
  have hil:=(AA5.mp hy).1
  have hsl:=hsub.length_le
  rw[AA6,AAo]at hsl
  have skip:(hs.map (·.1)).Sublist ((ah ps).take (i+1)):=by
   rw[AB6]
   exact hsub.trans (List.sublist_append_left _ _)
  obtain⟨c2,hc2⟩:=wm.get hn
  walk_at "dl"
  refine⟨n,c2,3,rfl,hc2,by decide,by decide,λv c3 v0 v3=>?_⟩
  have wm2:WM M n (M'.set n (ao c3)):=wm.set hn _
  have g2:(M'.set n (ao c3))[M.length]?=some (.lst (hs.map λp=>.tup [p.1,.int p.2])):=ax (by lia) g
  have l2:ap (M'.set n (ao c3)) k (ah ps):=aV (by lia) l
  generalize M'.set n (ao c3)=B2 at wm2 g2 l2
  dsimp only
  by_cases hv:0<v
  ·rw[dT_ hv]
   refine cM ⟨⟨_,.inl g2⟩,az (by lia),?_⟩
   have wm3:=wm2.app [MO.lst [D.int 4,D.int 200]]
   have g3:=bv (a:=MO.lst [D.int 4,D.int 200]) g2
   have l3:=l2.more [MO.lst [D.int 4,D.int 200]]
   have t3:ap (B2++[MO.lst [D.int 4,D.int 200]]) B2.length [D.int 4,D.int 200]:=aq
   have b2:=wm2.len
   obtain⟨c4,hc4⟩:=wm3.get hn
   generalize B2++[MO.lst [D.int 4,D.int 200]]=B3 at wm3 g3 l3 t3 hc4
   generalize B2.length=k3 at t3 b2
   refine⟨n,c4,2,rfl,hc4,by decide,by decide,λw c5 w0 w2=>⟨_,aV (by lia) t3,?_⟩⟩
   obtain⟨z,hz,z0,z15⟩:∃z:Int,atI [D.int 4,D.int 200] w=some (.int z)/\0<z/\z<1000000000000000:=by
    have:w=0\/w=1:=by lia
    rcases this with rfl | rfl
    ·exact⟨4,aN (j:=0) rfl,by decide,by decide⟩
    ·exact⟨200,aN (j:=1) rfl,by decide,by decide⟩
   rw[hz]
   have wm4:WM M n (B3.set n (ao c5)):=wm3.set hn _
   have g4:(B3.set n (ao c5))[M.length]?=some (.lst (hs.map λp=>.tup [p.1,.int p.2])):=ax (by lia) g3
   have l4:ap (B3.set n (ao c5)) k (ah ps):=aV (by lia) l3
   obtain⟨c6,hc6⟩:=wm4.get hn
   generalize B3.set n (ao c5)=B4 at wm4 g4 l4 hc6
   refine⟨n,c6,z,rfl,hc6,z0,z15,λu c7 u0 u1=>⟨az (by lia),_,ax (by lia) g4,by rw[AA6];exact aF (by lia),?_⟩⟩
   refine Fgt.now (hG _ _ ⟨hs++[(y,1+u)],_,?_,λp hp=>?_,(wm4.set hn _).hi (AAB _),?_,aV (by lia) (aV (by lia) l4),rfl⟩)
   ·rw[AAk,AB6,hy]
    exact hsub.append (List.Sublist.refl _)
   ·rcases AAT.mp hp with hp | hp
    ·exact hpos p hp
    ·rw[AAS.mp hp];dsimp only;lia
   ·rw[bq (ax (by lia) g4)]
    simp
  ·rw[dF_ hv]
   exact bZ (Fgt.now (hG _ _ ⟨hs,_,skip,hpos,wm2,g2,l2,rfl⟩))
theorem uq(T:Tops P w K mg base):Cal P w K mg base 2 "_law_vector" jG eR :=
 Cal.byD (N:=["_law_well_here","_law_house_here","_law_vector_here","_law_hand"]) T.b T.f_vector (by walk_at "sc") rC (by have:=bR T;have:=gh T;walk_at "dv") si
def kg:DSp:=λds M R=>∃(n q:Nat) (c:Int) (ps:List (Str×Int)) (rs:List (Str×List Str)) (r sts:List D),ds=[.ref n,.tup (.tup (ps.map aH)::.tup (rs.map bC)::r),.ref q]/\M[n]?=some (ao c)/\ap M q sts/\q≠n/\(∀x∈sts,∀B:Mem,okD B 29 x=true)/\(∀x∈sts,∀k,Pln (k+2) x)/\sts.length<=1000/\Few ps/\1<=(ah ps).length/\1<=ps.length/\1<=rs.length/\rs.length<=4 /\
 ∀(d:D) (B:Mem),Pln 4 d->WM M n B->R d B
theorem xy:dY kg ue:=by rintro ds M R ⟨n,q,c,ps,rs,r,sts,rfl,_⟩;rfl
theorem bT(h:d∈ah ps):Hd d:=by
 obtain⟨p,_,k,rfl,_⟩:=xV h
 exact⟨_,_,rfl⟩
def pc:DTS:=bI (fG (aa (dC (.str "under")) (aa (dCB dD (aa (ac 0) (aa (ac 1) (aa (ac 2) am)))) am)))
def pf:DTS:=aI (dIf (aG (dOp qEq (ac 3) (dC (.int 1)))) (bI (fG (aa (dC (.str "person")) (aa (dOp qIx (dOp qIx (dOp qIx (ac 1) (dC (.int 0))) (dCB au (aa (ac 0) (aa (dCB ja (aa (dOp qIx (ac 1) (dC (.int 0))) am)) am)))) (dC (.int 0))) am)))) bo) (pc)
def ph:DTS:=aI (dIf (aG (dOp qEq (ac 3) (dC (.int 0)))) (bI (fG (aa (dC (.str "room")) (aa (dOp qIx (dOp qIx (dOp qIx (ac 1) (dC (.int 1))) (dCB au (aa (ac 0) (aa (dCB ja (aa (dOp qIx (ac 1) (dC (.int 1))) am)) am)))) (dC (.int 0))) am)))) bo) (pf)
def yH:DTS:=aI (bb (dCB au (aa (ac 0) (aa (dC (.int 3)) am))) 3) (ph)
theorem zw:WpT kg 4 yH:=by
 rintro ds M R ⟨n,q,c,ps,rs,r,sts,rfl,hn,hq,qn,ok,bel,l1000,few,h1,p1,r1,r4,h⟩
 have f4:=few.1
 simp only[yH,ph]
 walk_at "dl"
 refine⟨n,c,3,rfl,hn,by decide,by decide,λi c1 i0 i3=>⟨⟨aB,aB⟩,?_⟩⟩
 have wm1:WM M n (M.set n (ao c1)):=WM.drawn
 have q1:=aV (x:=ao c1) qn hq
 generalize M.set n (ao c1)=B1 at wm1 q1
 obtain⟨c2,hc2⟩:=wm1.get hn
 cases eqD B1 eqN (.int i) (.int 0) with
 | true =>
  refine cM ?_
  rw[AA6]
  refine⟨n,c2,rs.length,rfl,hc2,by lia,by lia,λj c3 j0 j1=>?_⟩
  obtain⟨jn,hj,ej,_⟩:=cP (xs:=rs.map bC) j0 (by rw[AA6];exact j1)
  dsimp only
  rw[ej,ACF]
  unfold bC
  walk_at "dl"
  exact⟨az (by lia),.inl (h _ _ (.tup (.cons (.str _) (.cons (.str _) .nil))) (wm1.set hn _))⟩
 | false =>
  refine bZ ?_
  simp only[pf]
  walk_at "dl"
  refine⟨⟨aB,aB⟩,?_⟩
  cases eqD B1 eqN (.int i) (.int 1) with
  | true =>
   refine cM ?_
   rw[AA6]
   refine⟨n,c2,ps.length,rfl,hc2,by lia,by lia,λj c3 j0 j1=>?_⟩
   obtain⟨jn,hj,ej,_⟩:=cP (xs:=ps.map aH) j0 (by rw[AA6];exact j1)
   dsimp only
   rw[ej,ACF]
   unfold aH
   walk_at "dl"
   exact⟨az (by lia),.inl (h _ _ (.tup (.cons (.str _) (.cons (.str _) .nil))) (wm1.set hn _))⟩
  | false =>
   refine bZ ?_
   simp only[pc]
   walk_at "dl"
   refine⟨n,q,c2,ps,_,sts,rfl,hc2,q1,qn,ok,l1000,few,h1,λd B hd w=>⟨az (by lia),.inl (h _ _ ?_ (wm1.trans hn w))⟩,λt d B t1 hd w=>⟨az (by lia),.inl (h _ _ ?_ (wm1.trans hn w))⟩⟩
   ·exact .tup (.cons (.str _) (.cons (bel d hd 1) .nil))
   ·exact .tup (.cons (.str _) (.cons (.tup (.cons (.int _) (.cons (ou (bT hd)) .nil))) .nil))
theorem At(T:Tops P w K mg base):Cal P w K mg base 3 "_law_what" ue kg :=
 Cal.byD (N:=["_law_well_here","_law_house_here","_law_stamps","_law_way"]) T.b T.f_what (by walk_at "sc") xy (by have:=bR T;have:=qb T;walk_at "dv") zw
def jq:DSp:=λds M R=>∃(n q:Nat) (c:Int) (p:Str×Int) (ps:List (Str×Int)) (rs:List (Str×List Str)) (r sts:List D),ds=[.ref n,.tup (.tup ((p::ps).map aH)::.tup (rs.map bC)::r),.ref q]/\M[n]?=some (ao c)/\ap M q sts/\q≠n/\(∀x∈sts,∀B:Mem,okD B 29 x=true)/\(∀x∈sts,∀k,Pln (k+2) x)/\sts.length<=1000/\Few (p::ps)/\1<=(ah (p::ps)).length/\(∀q∈p::ps,q.1.length<=8)/\1<=rs.length/\rs.length<=4 /\
 ∀(x:Str) (ds:List D) (B:Mem),qG 4 ds->WM M n B->R (.tup (.str x::ds)) B
theorem AN:dY jq Ap:=by rintro ds M R ⟨n,q,c,p,ps,rs,r,sts,rfl,_⟩;rfl
theorem CG(h:FN ps vs):qG (k+2) vs:=by
 obtain⟨hs,rfl,hsub,_⟩:=h
 exact qG.of λd hd=>by
  obtain⟨p,hp,rfl⟩:=AAF.mp hd
  exact .tup (.cons (ou (bT (hsub.subset (AAF.mpr ⟨p,hp,rfl⟩)))) (.cons (.int _) .nil))
def pN:DTS:=bI (fG (aa (dOp qIx (cR (aa (dC (.str "back")) (aa (dC (.str "seen")) (aa (dC (.str "rung")) am)))) (dMl gZ (cR (aa (dC (.int 7)) (aa (dC (.int 8)) (aa (dC (.int 11)) am)))) (aa (ac 3) am))) (aa (ac 6) am)))
def sY:DTS:=aI (dIf (dOr (aG (dOp qEq (ac 3) (dC (.int 5)))) (aG (dOp qEq (ac 3) (dC (.int 6))))) (bI (fG (aa (dC (.str "like")) (aa (ac 6) (aa (dOp qIx (cR (aa (dC (.str "a")) (aa (dC (.str "ab")) (aa (dCB fm (aa (ac 0) am)) am)))) (dCB au (aa (ac 0) (aa (dC (.int 3)) am)))) (aa (dOp qGt (dCB au (aa (ac 0) (aa (dC (.int 3)) am))) (dC (.int 0))) am)))))) bo) (pN)
def nb:DTS:=aI (dIf (aG (dOp qEq (ac 3) (dC (.int 4)))) (bI (fG (aa (dC (.str "change")) (aa (ac 6) (aa (dCB dc (aa (ac 0) (aa (ac 1) am))) am))))) bo) (sY)
def ng:DTS:=aI (bb (dCB dD (aa (ac 0) (aa (ac 1) (aa (ac 2) am)))) 6) (nb)
def sZ:DTS:=aI (dIf (aG (dOp qEq (ac 3) (dC (.int 10)))) (bI (fG (aa (dC (.str "hush")) (aa (dCB kg (aa (ac 0) (aa (ac 1) (aa (ac 2) am)))) (aa (dOp qEq (dCB au (aa (ac 0) (aa (dC (.int 2)) am))) (dC (.int 1))) am))))) bo) (ng)
def nh:DTS:=aI (dIf (aG (dOp qEq (ac 3) (dC (.int 9)))) (bI (fG (aa (dC (.str "read")) (aa (ac 4) (aa (dCB eR (aa (ac 0) (aa (ac 1) am))) am))))) bo) (sZ)
def ni:DTS:=bI (fG (aa (dC (.str "say")) (aa (ac 4) (aa (ac 5) (aa (dCB dc (aa (ac 0) (aa (ac 1) am))) am)))))
def tf:DTS:=aI (dIf (aG (dOp qEq (dCB au (aa (ac 0) (aa (dC (.int 2)) am))) (dC (.int 1)))) (bb (dCB dD (aa (ac 0) (aa (ac 1) (aa (ac 2) am)))) 5) bo) (ni)
def tj:DTS:=aI (dIf (aG (dOp qLt (ac 3) (dC (.int 4)))) (aI (bb (dC .non) 5) (tf)) bo) (nh)
def tq:DTS:=aI (bb (dOp qIx (dOp qIx (dOp qIx (ac 1) (dC (.int 1))) (dCB au (aa (ac 0) (aa (dCB ja (aa (dOp qIx (ac 1) (dC (.int 1))) am)) am)))) (dC (.int 0))) 4) (tj)
def CO:DTS:=aI (bb (dCB au (aa (ac 0) (aa (dC (.int 12)) am))) 3) (tq)
theorem act_7{M B:Mem}{R:DK}{n q:Nat}{c way:Int}{p:Str×Int}{ps:List (Str×Int)}{rs:List (Str×List Str)}{r sts:List D}{y4 y5:Option D}(hn:M[n]?=some (ao c))(wm:WM M n B)(hq:ap B q sts)(qn:q≠n)(ok:∀x∈sts,∀B:Mem,okD B 29 x=true)(bel:∀x∈sts,∀k,Pln (k+2) x)(l1000:sts.length<=1000)(few:Few (p::ps))(h1:1<=(ah (p::ps)).length)(h8:∀q∈p::ps,q.1.length<=8)
  (hw:way=4\/way=5\/way=6\/way=7\/way=8\/way=11) (h:∀(x:Str) (ds:List D) (B:Mem),qG 4 ds->WM M n B->R (.tup (.str x::ds)) B) :
  ng (EE M R) [some (.ref n),some (.tup (.tup ((p::ps).map aH)::.tup (rs.map bC)::r)),some (.ref q),some (.int way),y4,y5,none] B:=by
 have nM:n<M.length:=(AA5.mp hn).1
 obtain⟨c1,hc1⟩:=wm.get hn
 have go:∀(d:D) (B1:Mem),Pln 4 d->WM B n B1->nb (EE M R) [some (.ref n),some (.tup (.tup ((p::ps).map aH)::.tup (rs.map bC)::r)),some (.ref q),some (.int way),y4,y5,some d] B1:=λd B1 bd w1=>by
  have wm1:=wm.trans hn w1
  obtain⟨c2,hc2⟩:=wm1.get hn
  simp only[nb]
  walk_at "dl"
  refine⟨⟨aB,aB⟩,?_⟩
  rw[bw]
  by_cases e4:way=4
  ·rw[beq_iff_eq.mpr e4]
   exact cM ⟨n,c2,p,ps,_,rfl,hc2,few,h8,λx B2 w2=>⟨az (by lia),.inl (h _ _ _ (.cons (bd) (.cons (.str _) .nil)) (wm1.trans hn w2))⟩⟩
  rw[beq_eq_false_iff_ne.mpr e4]
  refine bZ ?_
  simp only[sY]
  walk_at "dl"
  refine⟨⟨aB,aB⟩,?_⟩
  rw[bw,bw]
  by_cases e56:way=5\/way=6
  ·have like:∀z B2 (v:Int),WM M n B2->cj M R (.tup [.str (AA2 "like"),d,.str z,.bl (decide (0<v))]) B2:=λz B2 v wm2=>.inl (h _ _ _ (.cons (bd) (.cons (.str _) (.cons (.bl _) .nil))) wm2)
   have gets:∀(z:Str) (v:Int),0<=v->v<3->∃y:Str,atI [D.str (AA2 "a"),D.str (AA2 "ab"),D.str z] v=some (.str y):=λz v v0 v3=>by
    have:v=0\/v=1\/v=2:=by lia
    rcases this with rfl | rfl | rfl
    ·exact⟨_,aN (j:=0) rfl⟩
    ·exact⟨_,aN (j:=1) rfl⟩
    ·exact⟨_,aN (j:=2) rfl⟩
   rcases e56 with e5 | e6
   ·rw[beq_iff_eq.mpr e5]
    refine cM ⟨n,c2,rfl,hc2,λz B2 _ w2=>⟨az (by lia),?_⟩⟩
    have wm2:=wm1.trans hn w2
    have b2:=wm2.len
    have wm3:=wm2.app [MO.lst [D.str (AA2 "a"),D.str (AA2 "ab"),D.str z]]
    have t3:ap (B2++[MO.lst [D.str (AA2 "a"),D.str (AA2 "ab"),D.str z]]) B2.length [D.str (AA2 "a"),D.str (AA2 "ab"),D.str z]:=aq
    generalize B2++[MO.lst [D.str (AA2 "a"),D.str (AA2 "ab"),D.str z]]=B3 at wm3 t3
    generalize B2.length=k at t3 b2
    obtain⟨c3,hc3⟩:=wm3.get hn
    refine⟨n,c3,3,rfl,hc3,by decide,by decide,λv c4 v0 v3=>⟨_,aV (by lia) t3,?_⟩⟩
    obtain⟨y,ey⟩:=gets z v v0 v3
    rw[ey]
    have wm4:WM M n (B3.set n (ao c4)):=wm3.set hn _
    obtain⟨c5,hc5⟩:=wm4.get hn
    exact⟨n,c5,3,rfl,hc5,by decide,by decide,λu c6 u0 u3=>⟨az (by lia),like _ _ _ (wm4.set hn _)⟩⟩
   ·rw[beq_eq_false_iff_ne.mpr (show way≠5 by lia),beq_iff_eq.mpr e6]
    refine bZ ⟨⟨aB,aB⟩,cM ⟨n,c2,rfl,hc2,λz B2 _ w2=>⟨az (by lia),?_⟩⟩⟩
    have wm2:=wm1.trans hn w2
    have b2:=wm2.len
    have wm3:=wm2.app [MO.lst [D.str (AA2 "a"),D.str (AA2 "ab"),D.str z]]
    have t3:ap (B2++[MO.lst [D.str (AA2 "a"),D.str (AA2 "ab"),D.str z]]) B2.length [D.str (AA2 "a"),D.str (AA2 "ab"),D.str z]:=aq
    generalize B2++[MO.lst [D.str (AA2 "a"),D.str (AA2 "ab"),D.str z]]=B3 at wm3 t3
    generalize B2.length=k at t3 b2
    obtain⟨c3,hc3⟩:=wm3.get hn
    refine⟨n,c3,3,rfl,hc3,by decide,by decide,λv c4 v0 v3=>⟨_,aV (by lia) t3,?_⟩⟩
    obtain⟨y,ey⟩:=gets z v v0 v3
    rw[ey]
    have wm4:WM M n (B3.set n (ao c4)):=wm3.set hn _
    obtain⟨c5,hc5⟩:=wm4.get hn
    exact⟨n,c5,3,rfl,hc5,by decide,by decide,λu c6 u0 u3=>⟨az (by lia),like _ _ _ (wm4.set hn _)⟩⟩
  ·rw[beq_eq_false_iff_ne.mpr (show way≠5 by lia),beq_eq_false_iff_ne.mpr (show way≠6 by lia)]
   refine bZ ⟨⟨aB,aB⟩,bZ ?_⟩
   simp only[pN]
   walk_at "dl"
   obtain⟨j,x,ej,nj,ex⟩:∃(j:Nat) (x:Str),[(7:Int),8,11][j]?=some way/\(∀m,m<j->[(7:Int),8,11][m]?≠some way)/\atI [D.str (AA2 "back"),D.str (AA2 "seen"),D.str (AA2 "rung")] (j:Int)=some (.str x):=by
    have:way=7\/way=8\/way=11:=by lia
    rcases this with rfl | rfl | rfl
    ·exact⟨0,_,rfl,by decide,aN rfl⟩
    ·exact⟨1,_,rfl,by decide,aN rfl⟩
    ·exact⟨2,_,rfl,by decide,aN rfl⟩
   refine⟨az (by lia),az (by lia),⟨_,aq⟩,[7,8,11],j,aq,by decide,ej,nj,_,.inl (bv ak),?_⟩
   rw[ex]
   exact⟨az (by lia),.inl (h _ _ _ (.cons (bd) .nil) ((wm1.app _).app _))⟩
 simp only[ng]
 walk_at "dl"
 refine⟨n,q,c1,p::ps,_,sts,rfl,hc1,hq,qn,ok,l1000,few,h1,λd B1 hd w=>go _ _ (bel d hd 2) w,λt d B1 t1 hd w=>go _ _ (.tup (.cons (.int _) (.cons (ou (bT hd)) .nil))) w⟩
theorem CD:WpT jq 7 CO:=by
 rintro ds M R ⟨n,q,c,p,ps,rs,r,sts,rfl,hn,hq,qn,ok,bel,l1000,few,h1,h8,r1,r4,h⟩
 simp only[CO,tq]
 walk_at "dl"
 refine⟨n,c,12,rfl,hn,by decide,by decide,λway c1 w0 w12=>?_⟩
 have wm1:WM M n (M.set n (ao c1)):=WM.drawn
 have q1:=aV (x:=ao c1) qn hq
 generalize M.set n (ao c1)=B1 at wm1 q1
 obtain⟨c2,hc2⟩:=wm1.get hn
 rw[AA6]
 refine⟨n,c2,rs.length,rfl,hc2,by lia,by lia,λj c3 j0 j1=>?_⟩
 obtain⟨jn,hj,ej,_⟩:=cP (xs:=rs.map bC) j0 (by rw[AA6];exact j1)
 have wm2:WM M n (B1.set n (ao c3)):=wm1.set hn _
 have q2:=aV (x:=ao c3) qn q1
 generalize B1.set n (ao c3)=B2 at wm2 q2
 dsimp only
 rw[ej,ACF]
 generalize rs[jn]'(by rw[AA6]at hj;exact hj)=rm
 rw[show bC rm=.tup [.str rm.1,.tup (rm.2.map .str)]from rfl]
 walk_at "dl"
 generalize rm.1=room
 simp only[tj]
 walk_at "dl"
 by_cases w4:way<4
 ·rw[dT_ w4]
  refine cM ?_
  have fin:∀(d:D) (B3:Mem),Pln 4 d->WM M n B3->ni ⟨λS' M'=>nh (EE M R) S' M',cj M R,λ_ _=>False,λ_ _=>False⟩ [some (.ref n),some (.tup (aH p::ps.map aH)::.tup (rs.map bC)::r |> .tup),some (.ref q),some (.int way),some (.str room),some d,none] B3:=λd B3 bd wm3=>by
   obtain⟨c4,hc4⟩:=wm3.get hn
   simp only[ni]
   walk_at "dl"
   exact⟨n,c4,p,ps,_,rfl,hc4,few,h8,λx B4 w4=>⟨az (by lia),.inl (h _ _ _ (.cons (.str _) (.cons (bd) (.cons (.str _) .nil))) (wm3.trans hn w4))⟩⟩
  obtain⟨c4,hc4⟩:=wm2.get hn
  simp only[tf]
  walk_at "dl"
  refine⟨n,c4,2,rfl,hc4,by decide,by decide,λv c5 v0 v2=>⟨⟨aB,aB⟩,?_⟩⟩
  have wm3:WM M n (B2.set n (ao c5)):=wm2.set hn _
  have q3:=aV (x:=ao c5) qn q2
  generalize B2.set n (ao c5)=B3 at wm3 q3
  obtain⟨c6,hc6⟩:=wm3.get hn
  cases eqD B3 eqN (.int v) (.int 1) with
  | true=>exact cM ⟨n,q,c6,p::ps,_,sts,rfl,hc6,q3,qn,ok,l1000,few,h1,λd B4 hd w=>fin _ _ (bel d hd 2) (wm3.trans hn w),λt d B4 t1 hd w=>fin _ _ (.tup (.cons (.int _) (.cons (ou (bT hd)) .nil))) (wm3.trans hn w)⟩
  | false=>exact bZ (fin _ _ .non wm3)
 rw[dF_ w4]
 refine bZ ?_
 obtain⟨c4,hc4⟩:=wm2.get hn
 simp only[nh]
 walk_at "dl"
 refine⟨⟨aB,aB⟩,?_⟩
 rw[bw]
 by_cases e9:way=9
 ·rw[beq_iff_eq.mpr e9]
  refine cM ⟨n,c4,p::ps,_,rfl,hc4,few,λvs B3 vok w3=>⟨az (by lia),.inl (h _ _ _ (.cons (.str _) (.cons (.tup (CG vok)) .nil)) (wm2.trans hn w3))⟩⟩
 rw[beq_eq_false_iff_ne.mpr e9]
 refine bZ ?_
 simp only[sZ]
 walk_at "dl"
 refine⟨⟨aB,aB⟩,?_⟩
 rw[bw]
 by_cases e10:way=10
 ·rw[beq_iff_eq.mpr e10]
  refine cM ⟨n,q,c4,p::ps,rs,r,sts,rfl,hc4,q2,qn,ok,bel,l1000,few,h1,by simp,r1,r4,λd B3 bd w3=>?_⟩
  have wm3:=wm2.trans hn w3
  obtain⟨c5,hc5⟩:=wm3.get hn
  exact⟨n,c5,2,rfl,hc5,by decide,by decide,λv c6 v0 v2=>⟨⟨aB,aB⟩,az (by lia),.inl (h _ _ _ (.cons (bd) (.cons (.bl _) .nil)) (wm3.set hn _))⟩⟩
 rw[beq_eq_false_iff_ne.mpr e10]
 refine bZ ?_
 exact act_7 hn wm2 q2 qn ok bel l1000 few h1 h8 (by lia) h
theorem yR(T:Tops P w K mg base):Cal P w K mg base 4 "_law_act" Ap jq :=
 Cal.byD (N:=["_law_well_here","_law_house_here","_law_stamps","_law_way","_law_room","_law_under","_law_message"]) T.b T.f_act (by walk_at "sc") AN (by have:=bR T;have:=uo T;have:=ur T;have:=qb T;have:=uq T;have:=At T;walk_at "dv") CD
structure LogH(ps:List (Str×Int))(log:List D):Prop where
 n:LogN log
 h:∀d∈log,aw d∈ah ps
structure GenOk(ps:List (Str×Int))(deeds:List D)(las cnt:List (D×D)):Prop where
 deed:∀d∈deeds,dg d/\aw d∈ah ps
 nums:∀h,(deeds.filter λd=>decide (aw d=h)).map bB=(AAx (many deeds h)).map Int.ofNat
 up:deeds.Pairwise λa b=>aw a=aw b->bp a<bp b
 last:∀h,∃t:Int,(bi las h).getD (.int 0)=.int t/\∀d∈deeds,aw d=h->bp d<=t
 cnt:∀h,(bi cnt h).getD (.int 0)=.int (many deeds h)
 vals:∀p∈las,∃t:Int,p.2=.int t
theorem BF:GenOk ps [] [] []:=⟨(λ_ z=>nomatch z),λ_=>rfl,.nil,λ_=>⟨0,rfl,(λ_ z=>nomatch z)⟩,λ_=>rfl,(λ_ z=>nomatch z)⟩
theorem qh:many (ds++[d]) h=many ds h+if aw d=h then 1 else 0:=by
 unfold many
 rw[ADf,AAC]
 congr 1
 rw[ACi]
 by_cases e:aw d=h
 ·rw[dT_ e,if_pos e];rfl
 ·rw[dF_ e,if_neg e];rfl
theorem GenOk.step{ps:List (Str×Int)}{deeds:List D}{las cnt:List (D×D)}(g:GenOk ps deeds las cnt){hand act:D}{T:Int}(hh:hand∈ah ps)(hT:∀t:Int,(bi las hand).getD (.int 0)=.int t->t<T)(ba:Pln 5 act) :
  GenOk ps (deeds++[.tup [.int T,hand,.int (many deeds hand),act]]) (ck las hand (.int T)) (ck cnt hand (.int (many deeds hand+1))):=by
 have e1:aw (.tup [.int T,hand,.int (many deeds hand),act])=hand:=rfl
 refine⟨λd hd=>?_,λh=>?_,?_,λh=>?_,λh=>?_,lB g.vals⟩
 ·rcases AAT.mp hd with hd | hd
  ·exact g.deed d hd
  ·rw[AAS.mp hd]
   exact⟨⟨_,_,_,_,rfl,bT hh,ba⟩,hh⟩
 ·rw[ADf,AAk,g.nums h,qh,e1,ACi,e1]
  by_cases e:hand=h
  ·subst e
   rw[dT_ rfl,if_pos rfl,if_pos rfl,List.range_succ,AAk]
   rfl
  ·rw[dF_ e,if_neg e]
   exact AAq _
 ·refine List.pairwise_append.mpr ⟨g.up,ACc _ _,λa ha b hb=>?_⟩
  rw[AAS.mp hb]
  intro e
  obtain⟨t,et,ht⟩:=g.last hand
  have:=ht a ha e
  have:=hT t et
  show bp a<T
  lia
 ·by_cases e:h=hand
  ·subst e
   refine⟨T,by rw[cw];rfl,λd hd he=>?_⟩
   rcases AAT.mp hd with hd | hd
   ·obtain⟨t,et,ht⟩:=g.last h
    have:=ht d hd he
    have:=hT t et
    lia
   ·rw[AAS.mp hd];exact Int.le_refl _
  ·obtain⟨t,et,ht⟩:=g.last h
   refine⟨t,by rw[fj e];exact et,λd hd he=>?_⟩
   rcases AAT.mp hd with hd | hd
   ·exact ht d hd he
   ·rw[AAS.mp hd]at he
    exact absurd he.symm e
 ·rw[qh,e1]
  by_cases e:h=hand
  ·subst e
   rw[cw,if_pos rfl];rfl
  ·rw[fj e,if_neg (ABG e),g.cnt h];rfl
noncomputable def bU(ds:List D):List (D×D):=ds.map λd=>(stD d,d)
theorem yN(g:GenOk ps deeds las cnt):(deeds.map stD).Nodup:=by
 unfold List.Nodup
 rw[AAt]
 refine(AAg.mp g.up).imp λ{a b} ⟨ha,hb,q⟩ e=>?_
 obtain⟨⟨t,hd,num,act,rfl,_⟩,_⟩:=g.deed a ha
 obtain⟨⟨t',hd',num',act',rfl,_⟩,_⟩:=g.deed b hb
 simp only[stD,D.tup.injEq,ACU,D.int.injEq,and_true]at e
 have:=q e.2
 simp only[bp]at this
 lia
theorem iu:∀{ds:List D},(ds.map stD).Nodup->d∈ds->bi (bU ds) (stD d)=some d
 | [],_,h=>nomatch h
 | x::ds,nd,h=>by
  rw[AAN,ABn]at nd
  unfold bi bU
  rw[AAN,ABc]
  by_cases e:stD x=stD d
  ·rw[dT_ e]
   rcases AAL.mp h with rfl | h
   ·rfl
   ·exact absurd (AAF.mpr ⟨d,h,e.symm⟩) nd.1
  ·rw[dF_ e]
   rcases AAL.mp h with rfl | h
   ·exact absurd rfl e
   ·exact iu nd.2 h
theorem vL(h:stD d∉ds.map stD):ck (bU ds) (stD d) d=bU (ds++[d]):=by
 have:bi (bU ds) (stD d)=none:=by
  unfold bi bU
  rw[Option.map_eq_none_iff,List.find?_eq_none]
  intro p hp
  obtain⟨x,hx,rfl⟩:=AAF.mp hp
  intro z
  exact h (AAF.mpr ⟨x,hx,oT_ z⟩)
 unfold ck
 rw[this]
 simp[bU]
noncomputable def cG(ds:List D)(s:D):D:=(bi (bU ds) s).getD .non
theorem Ee(g:GenOk ps deeds las cnt)(hl:deeds.length<=40)(hp:ys.Perm (deeds.map stD))(up:mO M ys):LogH ps (ys.map (cG deeds)):=by
 have nd:=yN g
 have bs:∀d∈deeds,cG deeds (stD d)=d:=λd hd=>by
  unfold cG
  rw[iu nd hd];rfl
 have pl:(ys.map (cG deeds)).Perm deeds:=by
  refine(hp.map _).trans (List.Perm.of_eq ?_)
  rw[ABE]
  exact(ADK λd hd=>bs d hd).trans (AEI _)
 have fe:∀h,(ys.map (cG deeds)).filter (λd=>decide (aw d=h))=deeds.filter λd=>decide (aw d=h):=λh=>by
  refine ACZ (le:=λa b=>bp a<=bp b) (λa b ha hb h1 h2=>?_) ?_ ?_ (pl.filter _)
  ·have ha':=AAX.mp ha
   have hb':=AAX.mp hb
   have e1:aw a=h:=oT_ ha'.2
   have e2:aw b=h:=oT_ hb'.2
   have ma:a∈deeds:=pl.mem_iff.mp ha'.1
   have es:stD a=stD b:=by
    obtain⟨⟨t,hd,num,act,rfl,_⟩,_⟩:=g.deed a ma
    obtain⟨⟨t',hd',num',act',rfl,_⟩,_⟩:=g.deed b hb'.1
    have e3:hd=hd':=(show hd=h from e1).trans (show hd'=h from e2).symm
    have e4:t=t':=Int.le_antisymm h1 h2
    rw[e3,e4];rfl
   rw[<-bs a ma,es,bs b hb'.1]
  ·have pw1:(ys.map (cG deeds)).Pairwise λa b=>ltD M eqN (stD b) (stD a)=false:=AAt.mpr ((AAg.mp up).imp λ{a b} ⟨ha,hb,q⟩=>by
    obtain⟨x,hx,rfl⟩:=AAF.mp (hp.mem_iff.mp ha)
    obtain⟨y,hy,rfl⟩:=AAF.mp (hp.mem_iff.mp hb)
    rw[bs x hx,bs y hy]
    exact q)
   have pw2:=AAg.mp (pw1.filter λd=>decide (aw d=h))
   refine pw2.imp λ{a b} ⟨ha,hb,q⟩=>?_
   have e1:aw a=h:=oT_ (AAX.mp ha).2
   have e2:aw b=h:=oT_ (AAX.mp hb).2
   obtain⟨⟨t,hd,num,act,rfl,_⟩,_⟩:=g.deed a (pl.mem_iff.mp (AAX.mp ha).1)
   obtain⟨⟨t',hd',num',act',rfl,_⟩,_⟩:=g.deed b (pl.mem_iff.mp (AAX.mp hb).1)
   show t<=t'
   refine Int.not_lt.mp λlt=>?_
   have:ltD M eqN (stD (.tup [.int t',hd',.int num',act'])) (stD (.tup [.int t,hd,.int num,act]))=true:=by
    show (if eqD M 29 (.int t') (.int t)=true then lR (eqD M 29) (ltD M 29) [hd'] [hd]else ltD M 29 (.int t') (.int t))=true
    rw[bw,beq_eq_false_iff_ne.mpr (by lia)]
    exact dT_ lt
   rw[this]at q
   cases q
  ·refine((AAg.mp (g.up.filter _))).imp λ{a b} ⟨ha,hb,q⟩=>?_
   have e1:aw a=h:=oT_ (AAX.mp ha).2
   have e2:aw b=h:=oT_ (AAX.mp hb).2
   have:=q (by rw[e1,e2])
   lia
 refine⟨⟨λd hd=>(g.deed d (pl.mem_iff.mp hd)).1,by rw[pl.length_eq];exact hl,λh=>?_,?_⟩,λd hd=>(g.deed d (pl.mem_iff.mp hd)).2⟩
 ·unfold many
  rw[fe h]
  exact g.nums h
 ·have ny:ys.Nodup:=hp.nodup_iff.mpr nd
  rw[List.nodup_iff_pairwise_ne]at ny
  refine AAt.mpr ((AAg.mp (List.Pairwise.and up ny)).imp λ{a b} ⟨ha,hb,q,ne⟩=>?_)
  obtain⟨x,hx,rfl⟩:=AAF.mp (hp.mem_iff.mp ha)
  obtain⟨y,hy,rfl⟩:=AAF.mp (hp.mem_iff.mp hb)
  rw[bs x hx,bs y hy]
  have sx:=aM (g.deed x hx).1
  have sy:=aM (g.deed y hy).1
  rw[lc (M':=M) sx sy]
  rcases fv M sx sy with t | t | t
  ·exact absurd t.1 ne
  ·exact t.2.1
  ·rw[t.2.2.1]at q;cases q
theorem cT:∀{kvs:List (D×D)},(∀p∈kvs,∃t:Int,p.2=.int t)->∃vs:List Int,kvs.map (·.2)=vs.map D.int
 | [],_=>⟨[],rfl⟩
 | p::kvs,h=>by
  obtain⟨vs,e⟩:=cT λq hq=>h q (AA9 _ hq)
  obtain⟨t,et⟩:=h p (by simp)
  exact⟨t::vs,by rw[AAN,AAN,e,et]⟩
theorem AS(ht:(bi las hand).getD (.int 0)=.int t)(ev:las.map (·.2)=vs.map D.int)(hm:∀a∈0::vs,a<=m):t<=m:=by
 cases e:bi las hand with
 | none =>
  rw[e]at ht
  injection ht with ht
  rw[<-ht]
  exact hm 0 (by simp)
 | some d =>
  rw[e]at ht
  have ht:d=.int t:=ht
  subst ht
  unfold bi at e
  obtain⟨q,hq,eq⟩:=AB3.mp e
  have:D.int t∈las.map (·.2):=AAF.mpr ⟨q,ABm hq,eq⟩
  rw[ev]at this
  obtain⟨v,hv,e2⟩:=AAF.mp this
  injection e2 with e2
  subst e2
  exact hm v (AA9 _ hv)
def Sts(sts:List D):Prop:=∀x∈sts,∃t hd,x=.tup [.int t,hd]/\Hd hd
theorem Sts.ok(h:Sts sts):(∀x∈sts,∀B:Mem,okD B 29 x=true)/\∀x∈sts,∀k,Pln (k+2) x:=by
 refine⟨λx hx B=>?_,λx hx k=>?_⟩
 ·obtain⟨t,hd,rfl,y,i,rfl⟩:=h x hx
  rfl
 ·obtain⟨t,hd,rfl,hh⟩:=h x hx
  exact .tup (.cons (.int _) (.cons (ou hh) .nil))
def Cw(ws:List Nat)(M B:Mem):Prop:=M.length<=B.length/\∀(i:Nat) (x:MO),i∉ws->M[i]?=some x->B[i]?=some x
theorem Cw.lst(k:Cw ws M B)(h:q∉ws)(l:ap M q xs):ap B q xs:=by
 rcases l with l | l | l
 ·exact .inl (k.2 _ _ h l)
 ·exact .inr (.inl (k.2 _ _ h l))
 ·exact .inr (.inr (k.2 _ _ h l))
def qE:DSp:=λds M R=>∃(q:Nat) (ws:List Nat) (p:Str×Int) (ps:List (Str×Int)) (rs:List (Str×List Str)) (r:List D),ds=[.ref q,.tup (.tup ((p::ps).map aH)::.tup (rs.map bC)::r)]/\ap M q (ws.map .ref)/\q∉ws/\(∀w∈ws,∃c,M[w]?=some (ao c))/\ws.length<=40/\Few (p::ps)/\1<=(ah (p::ps)).length/\(∀q∈p::ps,q.1.length<=8)/\1<=rs.length/\rs.length<=4 /\
 ∀(log:List D) (B:Mem),LogH (p::ps) log->Cw ws M B->R (.tup log) B
theorem AK:dY qE Am:=by rintro ds M R ⟨q,ws,p,ps,rs,r,rfl,_⟩;rfl
structure LgAt(ws:List Nat)(M B:Mem)(hs:List D)(las cnt:List (D×D))(sts deeds:List D):Prop where
 kept:Cw ws M B
 wells:∀w∈ws,w<M.length/\∃c,B[w]?=some (ao c)
 hands:B[M.length]?=some (.lst hs)
 las:B[M.length+1]?=some (.dkt las)
 cnt:B[M.length+2]?=some (.dkt cnt)
 sts:B[M.length+3]?=some (.lst sts)
 deeds:B[M.length+4]?=some (.lst deeds)
section
variable{ws:List Nat}{M B C:Mem}{hs sts deeds:List D}{las cnt:List (D×D)}
theorem LgAt.wm{w:Nat}{c:Int}(g:LgAt ws M B hs las cnt sts deeds)(hw:w∈ws)(hc:B[w]?=some (ao c))(m:WM B w C):LgAt ws M C hs las cnt sts deeds:=by
 have wl:=(g.wells w hw).1
 refine⟨⟨AAh g.kept.1 m.len,λi x hi hx=>m.other (λz=>hi (z ▸ hw)) (g.kept.2 i x hi hx)⟩,λv hv=>⟨(g.wells v hv).1,?_⟩,m.other (by lia) g.hands,m.other (by lia) g.las,m.other (by lia) g.cnt,m.other (by lia) g.sts,m.other (by lia) g.deeds⟩
 by_cases e:v=w
 ·subst e;exact m.get hc
 ·obtain⟨c',h'⟩:=(g.wells v hv).2
  exact⟨c',m.other e h'⟩
theorem LgAt.set(g:LgAt ws M B hs las cnt sts deeds)(hk:M.length<=k):Cw ws M (B.set k x)/\(∀w∈ws,w<M.length/\∃c,(B.set k x)[w]?=some (ao c)):=by
 refine⟨⟨by rw[AB5];exact g.kept.1,λi y hi hy=>ax (by have:=aO hy;lia) (g.kept.2 i y hi hy)⟩,λw hw=>?_⟩
 obtain⟨l,c,hc⟩:=g.wells w hw
 exact⟨l,c,ax (by lia) hc⟩
theorem LgAt.setLas(g:LgAt ws M B hs las cnt sts deeds):LgAt ws M (B.set (M.length+1) (.dkt las')) hs las' cnt sts deeds :=
 ⟨(g.set (by lia)).1,(g.set (by lia)).2,ax (by lia) g.hands,bq g.las,ax (by lia) g.cnt,ax (by lia) g.sts,ax (by lia) g.deeds⟩
theorem LgAt.setCnt(g:LgAt ws M B hs las cnt sts deeds):LgAt ws M (B.set (M.length+2) (.dkt cnt')) hs las cnt' sts deeds :=
 ⟨(g.set (by lia)).1,(g.set (by lia)).2,ax (by lia) g.hands,ax (by lia) g.las,bq g.cnt,ax (by lia) g.sts,ax (by lia) g.deeds⟩
theorem LgAt.setSts(g:LgAt ws M B hs las cnt sts deeds):LgAt ws M (B.set (M.length+3) (.lst sts')) hs las cnt sts' deeds :=
 ⟨(g.set (by lia)).1,(g.set (by lia)).2,ax (by lia) g.hands,ax (by lia) g.las,ax (by lia) g.cnt,bq g.sts,ax (by lia) g.deeds⟩
theorem LgAt.setDeeds(g:LgAt ws M B hs las cnt sts deeds):LgAt ws M (B.set (M.length+4) (.lst deeds')) hs las cnt sts deeds' :=
 ⟨(g.set (by lia)).1,(g.set (by lia)).2,ax (by lia) g.hands,ax (by lia) g.las,ax (by lia) g.cnt,ax (by lia) g.sts,bq g.deeds⟩
end
def pG:DTS:=bI (dCB bN (aa (dLC 1 [12] (bx (dCB dn (aa (ac 12) am))) (aA 0) oJ (rS (ac 1) (ac 0))) am))
def pH:DTS:=aI (iK (bx (ac 6)) (aA 11) (jY (ac 12) (dSl (ac 11) bW (bF (dC (.int 2)))) (ac 11))) (pG)
def jw:DTS:=aI (bb (ka) 12) (pH)
def pI:DTS:=dIf (aG (dOp qEq (dOp qIx (dOp qIx (ac 11) (dC (.int 3))) (dC (.int 0))) (dC (.str "say")))) (fU (dMl bO (ac 5) (aa (dSl (ac 11) bW (bF (dC (.int 2)))) am))) bo
def pJ:DTS:=aI (fU (dMl bO (ac 6) (aa (ac 11) am))) (pI)
def pK:DTS:=aI (jY (ac 4) (ac 8) (dOp aK (dOp qIx (ac 11) (dC (.int 2))) (dC (.int 1)))) (pJ)
def sG:DTS:=aI (jY (ac 3) (ac 8) (ac 10)) (pK)
def mW:DTS:=aI (bb (fG (aa (ac 10) (aa (ac 8) (aa (dMt gX (ac 4) (aa (ac 8) (aa (dC (.int 0)) am))) (aa (dCB jq (aa (ac 7) (aa (ac 1) (aa (ac 5) am)))) am))))) 11) (sG)
def sH:DTS:=aI (bb (dOp aK (dOp aK (dOp qIx (ac 9) (dCB au (aa (ac 7) (aa (dC (.int 2)) am)))) (dC (.int 1))) (dOp fQ (dCB au (aa (ac 7) (aa (dC (.int 3)) am))) (dCB au (aa (ac 7) (aa (dC (.int 2)) am))))) 10) (mW)
def mX:DTS:=aI (bb (cR (aa (dMt gX (ac 3) (aa (ac 8) (aa (dC (.int 0)) am))) (aa (dCB qW (aa (dOp aK (cR (aa (dC (.int 0)) am)) (eQ (ac 3))) am)) am))) 9) (sH)
def sI:DTS:=aI (iK (bx (ac 0)) (aA 7) (aI (bb (dOp qIx (ac 2) (dCB au (aa (ac 7) (aa (dCB ja (aa (ac 2) am)) am)))) 8) (mX))) (jw)
def sJ:DTS:=aI (bb (cR am) 6) (sI)
def sK:DTS:=aI (bb (cR am) 5) (sJ)
def sL:DTS:=aI (bb (ka) 4) (sK)
def sM:DTS:=aI (bb (ka) 3) (sL)
def CL:DTS:=aI (bb (dCB cK (aa (ac 1) am)) 2) (sM)
theorem log_8{ws:List Nat}{M B:Mem}{E:DEnds}{las cnt:List (D×D)}{sts deeds:List D}{w:Nat}{p:Str×Int}{ps:List (Str×Int)}{rs:List (Str×List Str)}{r:List D}{z:Str}{k t T:Int}{y0 y9 y11 y12:Option D}(g:LgAt ws M B (ah (p::ps)) las cnt sts deeds)(hw:w∈ws)(go:GenOk (p::ps) deeds las cnt)(few:Few (p::ps))(h1:1<=(ah (p::ps)).length)(h8:∀q∈p::ps,q.1.length<=8)(r1:1<=rs.length)(r4:rs.length<=4)
  (hmem:D.tup [.str z,.int k]∈ah (p::ps)) (ht:(bi las (.tup [.str z,.int k])).getD (.int 0)=.int t) (tT:t<T) (so:Sts sts) (sl:sts.length<=40) (dl:deeds.length<=40) (ll:las.length<=40) (cl:cnt.length<=40)
  (hE:∀las' cnt' sts' deeds' B' a b c d,GenOk (p::ps) deeds' las' cnt'->LgAt ws M B' (ah (p::ps)) las' cnt' sts' deeds'->Sts sts'->sts'.length<=sts.length+1->deeds'.length<=deeds.length+1->las'.length<=las.length+1->cnt'.length<=cnt.length+1->E.nx [y0,some (.tup (.tup ((p::ps).map aH)::.tup (rs.map bC)::r)),some (.ref M.length),some (.ref (M.length+1)),some (.ref (M.length+2)),some (.ref (M.length+3)),some (.ref (M.length+4)),some (.ref w),a,b,c,d,y12] B') :
  mW E [y0,some (.tup (.tup ((p::ps).map aH)::.tup (rs.map bC)::r)),some (.ref M.length),some (.ref (M.length+1)),some (.ref (M.length+2)),some (.ref (M.length+3)),some (.ref (M.length+4)),some (.ref w),some (.tup [.str z,.int k]),y9,some (.int T),y11,y12] B:=by
 obtain⟨wM,c,hc⟩:=g.wells w hw
 simp only[mW]
 walk_at "dl"
 refine⟨⟨cnt,g.cnt⟩,cnt,g.cnt,rfl,?_⟩
 rw[go.cnt]
 refine⟨w,M.length+3,c,p,ps,rs,r,sts,rfl,hc,.inl g.sts,by lia,so.ok.1,so.ok.2,by lia,few,h1,h8,r1,r4,λx ds B1 bds wm1=>⟨az (by lia),?_⟩⟩
 have g1:=g.wm hw hc wm1
 simp only[sG]
 walk_at "dl"
 refine⟨las,g1.las,rfl,az (by lia),?_⟩
 have g2:=g1.setLas (las':=ck las (.tup [.str z,.int k]) (.int T))
 generalize B1.set (M.length+1) _=B2 at g2
 simp only[pK]
 walk_at "dl"
 refine⟨cnt,g2.cnt,rfl,az (by lia),?_⟩
 have g3:=g2.setCnt (cnt':=ck cnt (.tup [.str z,.int k]) (.int (many deeds (.tup [.str z,.int k])+1)))
 generalize B2.set (M.length+2) _=B3 at g3
 simp only[pJ]
 walk_at "dl"
 refine⟨⟨_,.inl g3.deeds⟩,deeds,g3.deeds,az (by lia),?_⟩
 have g4:=g3.setDeeds (deeds':=deeds++[.tup [.int T,.tup [.str z,.int k],.int (many deeds (.tup [.str z,.int k])),.tup (.str x::ds)]])
 generalize B3.set (M.length+4) _=B4 at g4
 have go':=go.step hmem (T:=T) (act:=.tup (.str x::ds)) (λt' e=>by rw[ht]at e;injection e with e;lia) (.tup (.cons (.str _) bds))
 have l1:=cb (kvs:=las) (k:=.tup [.str z,.int k]) (d:=.int T)
 have l2:=cb (kvs:=cnt) (k:=.tup [.str z,.int k]) (d:=.int (many deeds (.tup [.str z,.int k])+1))
 simp only[pI]
 walk_at "dl"
 have e3:atI [D.int T,.tup [.str z,.int k],.int (many deeds (.tup [.str z,.int k])),.tup (.str x::ds)] 3=some (.tup (.str x::ds)):=aN (j:=3) rfl
 rw[e3]
 dsimp only
 rw[at0]
 refine⟨⟨dR,dR⟩,?_⟩
 cases eqD B4 eqN (.str x) (.str (AA2 "say")) with
 | true =>
  refine cM ⟨⟨_,.inl g4.sts⟩,sts,g4.sts,az (by lia),hE _ _ _ _ _ _ _ _ _ go' g4.setSts (λy hy=>?_) (by simp) (by simp) l1 l2⟩
  rcases AAT.mp hy with hy | hy
  ·exact so y hy
  ·rw[AAS.mp hy]
   exact⟨T,_,rfl,z,k,rfl⟩
 | false=>exact bZ (hE _ _ _ _ _ _ _ _ _ go' g4 so (ADo _) (by simp) l1 l2)
theorem xv{ws:List Nat}{M B:Mem}{E:DEnds}{las cnt:List (D×D)}{sts deeds:List D}{w:Nat}{p:Str×Int}{ps:List (Str×Int)}{rs:List (Str×List Str)}{r:List D}{y0 y8 y9 y10 y11 y12:Option D}(g:LgAt ws M B (ah (p::ps)) las cnt sts deeds)(hw:w∈ws)(go:GenOk (p::ps) deeds las cnt)(few:Few (p::ps))(h1:1<=(ah (p::ps)).length)(h8:∀q∈p::ps,q.1.length<=8)(r1:1<=rs.length)(r4:rs.length<=4)
  (so:Sts sts) (sl:sts.length<=40) (dl:deeds.length<=40) (ll:las.length<=40) (cl:cnt.length<=40)
  (hE:∀las' cnt' sts' deeds' B' a b c d,GenOk (p::ps) deeds' las' cnt'->LgAt ws M B' (ah (p::ps)) las' cnt' sts' deeds'->Sts sts'->sts'.length<=sts.length+1->deeds'.length<=deeds.length+1->las'.length<=las.length+1->cnt'.length<=cnt.length+1->E.nx [y0,some (.tup (.tup ((p::ps).map aH)::.tup (rs.map bC)::r)),some (.ref M.length),some (.ref (M.length+1)),some (.ref (M.length+2)),some (.ref (M.length+3)),some (.ref (M.length+4)),some (.ref w),a,b,c,d,y12] B') :
  (aI (bb (dOp qIx (ac 2) (dCB au (aa (ac 7) (aa (dCB ja (aa (ac 2) am)) am)))) 8) (mX)) E [y0,some (.tup (.tup ((p::ps).map aH)::.tup (rs.map bC)::r)),some (.ref M.length),some (.ref (M.length+1)),some (.ref (M.length+2)),some (.ref (M.length+3)),some (.ref (M.length+4)),some (.ref w),y8,y9,y10,y11,y12] B:=by
 obtain⟨wM,c,hc⟩:=g.wells w hw
 have f4:=few.1
 have hln:=bL few.2
 simp only[mX]
 walk_at "dl"
 refine⟨_,.inl g.hands,w,c,_,rfl,hc,by lia,by lia,λv c1 v0 v1=>⟨_,.inl (ax (by lia) g.hands),?_⟩⟩
 obtain⟨jn,hj,ej,_⟩:=cP v0 v1
 rw[ej]
 have hmem:=AAy hj
 generalize (ah (p::ps))[jn]=hand at hmem
 obtain⟨z,k,rfl⟩:=bT hmem
 have wm1:WM B w (B.set w (ao c1)):=WM.drawn
 generalize B.set w (ao c1)=B1 at wm1
 have g1:=g.wm hw hc wm1
 walk_at "dl"
 obtain⟨vs,ev⟩:=cT go.vals
 obtain⟨t,ht,_⟩:=go.last (.tup [.str z,.int k])
 have vl:vs.length<=40:=by
  have:=congrArg AC9 ev
  rw[AA6,AA6]at this
  lia
 refine⟨⟨las,g1.las⟩,las,g1.las,rfl,az (by lia),las,ae g1.las,?_⟩
 rw[ev,ht]
 refine⟨_,_,ae ak,ak,?_,0::vs,aq,by simp,λm _ hm=>⟨az (by lia),?_⟩⟩
 ·rw[AA6];exact az (by simp only[AAG,AAY];lia)
 have tm:=AS ht ev hm
 have wm2:=(((wm1.app [MO.lst [D.int 0]]).app [MO.lst (vs.map D.int)]).app [MO.lst ([D.int 0]++vs.map D.int)])
 have wm3:=wm2.app [MO.lst [D.int t,D.int m]]
 have t3:ap (B1++[MO.lst [D.int 0]]++[MO.lst (vs.map D.int)]++[MO.lst ([D.int 0]++vs.map D.int)]++[MO.lst [D.int t,D.int m]]) (B1++[MO.lst [D.int 0]]++[MO.lst (vs.map D.int)]++[MO.lst ([D.int 0]++vs.map D.int)]).length [D.int t,D.int m]:=aq
 have b2:=wm2.len
 have wB:w<B.length:=aO hc
 generalize (B1++[MO.lst [D.int 0]]++[MO.lst (vs.map D.int)]++[MO.lst ([D.int 0]++vs.map D.int)]).length=k3 at t3 b2
 generalize B1++[MO.lst [D.int 0]]++[MO.lst (vs.map D.int)]++[MO.lst ([D.int 0]++vs.map D.int)]++[MO.lst [D.int t,D.int m]]=B3 at wm3 t3
 simp only[sH]
 walk_at "dl"
 obtain⟨c3,hc3⟩:=wm3.get hc
 refine⟨w,c3,2,rfl,hc3,by decide,by decide,λv c4 v0 v2=>⟨_,aV (by lia) t3,?_⟩⟩
 have wm4:WM B w (B3.set w (ao c4)):=wm3.set hc _
 generalize B3.set w (ao c4)=B4 at wm4
 obtain⟨u,eu,tu⟩:∃u:Int,atI [D.int t,D.int m] v=some (.int u)/\t<=u:=by
  have:v=0\/v=1:=by lia
  rcases this with rfl | rfl
  ·exact⟨_,aN (j:=0) rfl,Int.le_refl _⟩
  ·exact⟨_,aN (j:=1) rfl,tm⟩
 rw[eu]
 obtain⟨c5,hc5⟩:=wm4.get hc
 refine⟨w,c5,3,rfl,hc5,by decide,by decide,λa c6 a0 a3=>?_⟩
 have wm5:WM B w (B4.set w (ao c6)):=wm4.set hc _
 generalize B4.set w (ao c6)=B5 at wm5
 obtain⟨c7,hc7⟩:=wm5.get hc
 refine⟨w,c7,2,rfl,hc7,by decide,by decide,λb c8 b0 b2=>?_⟩
 have wm6:WM B w (B5.set w (ao c8)):=wm5.set hc _
 generalize B5.set w (ao c8)=B6 at wm6
 have ab:0<=a*b:=Int.mul_nonneg a0 b0
 have tT:t<u+1+a*b:=by
  generalize a*b=s at ab
  lia
 refine⟨.inl ⟨by lia,by lia⟩,?_⟩
 exact log_8 (g.wm hw hc wm6) hw go few h1 h8 r1 r4 hmem ht tT so sl dl ll cl hE
theorem Ef(go:GenOk ps deeds las cnt)(g:LgAt ws M B hs las cnt sts deeds)(dl:deeds.length<=40)(h:∀(log:List D) (B:Mem),LogH ps log->Cw ws M B->R (.tup log) B) :
  jw (EE M R) [y0,y1,y2,y3,y4,y5,some (.ref (M.length+4)),y7,y8,y9,y10,y11,none] B:=by
 simp only[jw,pH]
 walk_at "dl"
 have nd:=yN go
 refine⟨deeds,.inl (ae g.deeds),λ_=>?_⟩
 refine bc (λi S M'=>∃a,M'=B++[.dkt (bU (deeds.take i))]/\S=[y0,y1,y2,y3,y4,y5,some (.ref (M.length+4)),y7,y8,y9,y10,a,some (.ref B.length)]) ?_ ?_ ⟨_,rfl,rfl⟩
 ·rintro S M' ⟨a,rfl,rfl⟩
  rw[ABX]
  refine⟨.inl (ae g.deeds),?_⟩
  simp only[pG]
  walk_at "dl"
  have ek:(bU deeds).map (·.1)=deeds.map stD:=by unfold bU;rw[ABE];rfl
  refine⟨_,ak,?_⟩
  rw[ek]
  refine⟨pO (λx hx=>by obtain⟨d,hd,rfl⟩:=AAF.mp hx;exact aM (go.deed d hd).1) (by rw[AA6];lia),λys hp up=>⟨ys,aq,λhz=>?_⟩⟩
  refine db (cG deeds) (λS=>∃a,S=[a,some (.ref B.length)]) aq _ _ _ (λs hs S hS=>?_) ⟨_,rfl⟩ (by rw[AAY,Nat.zero_add];exact hz) ?_
  ·obtain⟨a,rfl⟩:=hS
   obtain⟨d,hd,rfl⟩:=AAF.mp (hp.mem_iff.mp hs)
   have eg:=iu nd hd
   have eb:cG deeds (stD d)=d:=by unfold cG;rw[eg];rfl
   refine⟨[some (stD d),some (.ref B.length)],⟨_,rfl⟩,λY hY=>?_⟩
   rw[eb]at hY
   obtain⟨⟨t,hd',num,act,rfl,⟨x,k,rfl⟩,_⟩,_⟩:=go.deed d hd
   simp only[stD]at eg ⊢
   walk_at "dl"
   exact⟨_,_,ae ak,rfl,eg,hY⟩
  ·rw[AAr]
   refine⟨_,aq,.inl (h _ _ (Ee go dl hp up) ⟨?_,λi x hi hx=>ae (ae (ae (g.kept.2 i x hi hx)))⟩)⟩
   have:=g.kept.1
   simp only[AAC,AAm]
   lia
 ·rintro i y S M' hy ⟨a,rfl,rfl⟩ G hG
  refine⟨.inl (ae g.deeds),?_⟩
  have hi:=(AA5.mp hy).1
  have fp:ck (bU (deeds.take i)) (stD y) y=bU (deeds.take (i+1)):=by
   rw[vL]
   ·rw[AB6,hy];rfl
   ·intro z
    have n2:((deeds.take i).map stD++[stD y]).Nodup:=by
     have:(deeds.map stD).take (i+1)=(deeds.take i).map stD++[stD y]:=by
      rw[<-List.map_take,AB6,hy,AAk];rfl
     rw[<-this]
     exact nd.sublist (AD1 _ _)
    exact(ACW.mp n2).2.2 _ z _ (AAS.mpr rfl) rfl
  obtain⟨⟨t,hd',num,act,rfl,⟨x,k,rfl⟩,_⟩,_⟩:=go.deed y (AAc hy)
  walk_at "dl"
  refine⟨_,ak,rfl,?_,?_⟩
  ·have:(bU (deeds.take i)).length=i:=by
    unfold bU
    rw[AA6,AAo]
    lia
   rw[this]
   exact aF (by lia)
  ·refine Fgt.now (hG _ _ ⟨_,?_,rfl⟩)
   rw[<-fp]
   exact jz
theorem CA:WpT qE 13 CL:=by
 rintro ds M R ⟨q,ws,p,ps,rs,r,rfl,hq,qw,hws,w40,few,h1,h8,r1,r4,h⟩
 simp only[CL,sM,sL,sK,sJ]
 walk_at "dl"
 have hln:=bL few.2
 refine⟨p::ps,_,rfl,few,AAV _,AAV _,?_⟩
 have e1:(M++[MO.lst (ah (p::ps))]).length=M.length+1:=by simp
 have e2:(M++[MO.lst (ah (p::ps))]++[MO.dkt []]).length=M.length+2:=by simp
 have e3:(M++[MO.lst (ah (p::ps))]++[MO.dkt []]++[MO.dkt []]).length=M.length+3:=by simp
 have e4:(M++[MO.lst (ah (p::ps))]++[MO.dkt []]++[MO.dkt []]++[MO.lst []]).length=M.length+4:=by simp
 rw[e1,e2,e3,e4]
 have g0:LgAt ws M (M++[MO.lst (ah (p::ps))]++[MO.dkt []]++[MO.dkt []]++[MO.lst []]++[MO.lst []]) (ah (p::ps)) [] [] [] []:=by
  refine⟨⟨by simp,λi x _ hx=>ae (ae (ae (ae (ae hx))))⟩,λw hw=>?_,ae (ae (ae (ae ak))),?_,?_,?_,?_⟩
  ·obtain⟨c,hc⟩:=hws w hw
   exact⟨aO hc,c,ae (ae (ae (ae (ae hc))))⟩
  ·rw[<-e1];exact ae (ae (ae ak))
  ·rw[<-e2];exact ae (ae ak)
  ·rw[<-e3];exact ae ak
  ·rw[<-e4];exact ak
 generalize M++[MO.lst (ah (p::ps))]++[MO.dkt []]++[MO.dkt []]++[MO.lst []]++[MO.lst []]=B0 at g0
 simp only[sI]
 walk_at "dl"
 refine⟨_,g0.kept.lst qw hq,λ_=>?_⟩
 refine bc (λi S M'=>∃las cnt sts deeds a b c d e,GenOk (p::ps) deeds las cnt/\LgAt ws M M' (ah (p::ps)) las cnt sts deeds/\Sts sts/\sts.length<=i/\deeds.length<=i/\las.length<=i/\cnt.length<=i/\S=[some (.ref q),some (.tup (.tup (aH p::ps.map aH)::.tup (rs.map bC)::r)),some (.ref M.length),some (.ref (M.length+1)),some (.ref (M.length+2)),some (.ref (M.length+3)),some (.ref (M.length+4)),a,b,c,d,e,none]) ?_ ?_ ⟨[],[],[],[],_,_,_,_,_,BF,g0,(λ_ z=>nomatch z),AAB _,AAB _,AAB _,AAB _,rfl⟩
 ·rintro S M' ⟨las,cnt,sts,deeds,a,b,c,d,e,go,g,so,sl,dl,ll,cl,rfl⟩
  refine⟨g.kept.lst qw hq,?_⟩
  rw[AA6]at dl
  exact Ef go g (by lia) h
 ·rintro i y S M' hy ⟨las,cnt,sts,deeds,a,b,c,d,e,go,g,so,sl,dl,ll,cl,rfl⟩ G hG
  refine⟨g.kept.lst qw hq,?_⟩
  rw[AAU]at hy
  obtain⟨w,hw,rfl⟩:=AB3.mp hy
  have hi:=(AA5.mp hw).1
  simp only[aA,ADc,ADd]
  exact xv g (AAc hw) go few h1 h8 r1 r4 so (by lia) (by lia) (by lia) (by lia) λlas' cnt' sts' deeds' B' a b c d go' g' so' s1 s2 s3 s4=>Fgt.now (hG _ _ ⟨las',cnt',sts',deeds',_,_,_,_,_,go',g',so',by lia,by lia,by lia,by lia,rfl⟩)
theorem DR(T:Tops P w K mg base):Cal P w K mg base 5 "_law_log" Am qE :=
 Cal.byD (N:=["_law_wells_here","_law_house_here","_law_hands_here","_law_last","_law_counts","_law_stamps","_law_deeds","_law_well_here","_law_hand","_law_times","_law_time","_law_deed","_law_found"]) T.b T.f_log (by walk_at "sc") AK (by have:=bR T;have:=gh T;have:=yR T;walk_at "dv") CA
def iD:DSp:=λds M R=>∃(n:Nat) (c:Int) (ps:List (Str×Int)) (r log:List D),ds=[.ref n,.tup (.tup (ps.map aH)::r),.tup log]/\M[n]?=some (ao c)/\Few ps/\LogN log/\(∀d∈log,aw d∈ah ps)/\∀(a:D->Int) (B:Mem),WM M n B->R (.tup (jk a log)) B
theorem xC:dY iD uj:=by rintro ds M R ⟨n,c,ps,r,log,rfl,_⟩;rfl
theorem pU:x∈(ck kvs k v).map (·.1)↔x∈kvs.map (·.1)\/x=k:=by
 unfold ck
 split
 ·rename_i hs
  have e:(kvs.map λp=>if p.1=k then(p.1,v)else p).map (·.1)=kvs.map (·.1):=by
   rw[ABE]
   refine ADK λp _=>?_
   show (if p.1=k then(p.1,v)else p).1=p.1
   split<;>rfl
  rw[e]
  refine⟨.inl,λh=>h.elim id λh=>?_⟩
  subst h
  unfold bi at hs
  rw[AD2]at hs
  obtain⟨q,hq⟩:=ABv.mp hs
  have:=ADe hq
  exact AAF.mpr ⟨q,ABm hq,oT_ this⟩
 ·rw[AAk,List.mem_append]
  simp
theorem EX(h:x∈kvs.map (·.1))(hv:∀p∈kvs,∃t:Int,p.2=.int t):∃i:Int,bi kvs x=some (.int i):=by
 unfold bi
 cases e:kvs.find? λp=>decide (p.1=x) with
 | none =>
  obtain⟨p,hp,rfl⟩:=AAF.mp h
  exact absurd (dT_ rfl) (List.find?_eq_none.mp e p hp)
 | some q =>
  obtain⟨i,ei⟩:=hv q (ABm e)
  exact⟨i,by rw[<-ei];rfl⟩
def pD:DTS:=bI (dCB bN (aa (dLC 1 [3] (bx (ac 2)) (aA 0) (aG (dOp qLt (dOp qIx (ac 0) (dC (.int 2))) (rS (ac 1) (dOp qIx (ac 0) (dC (.int 1)))))) (ac 0)) am))
def pE:DTS:=jY (ac 3) (ac 4) (dOp qIx (cR (aa (ac 5) (aa (ac 5) (aa (dCB au (aa (ac 0) (aa (dOp aK (ac 5) (dC (.int 1))) am))) am)))) (dCB au (aa (ac 0) (aa (dC (.int 3)) am))))
def pF:DTS:=aI (iK (bx (dCB cK (aa (ac 1) am))) (aA 4) (aI (bb (dCB ja (aa (dLC 1 [4] (bx (ac 2)) (aA 0) (aG (dOp qEq (dOp qIx (ac 0) (dC (.int 1))) (ac 1))) (ac 0)) am)) 5) (pE))) (pD)
def yL:DTS:=aI (bb (ka) 3) (pF)
theorem zC:WpT iD 6 yL:=by
 rintro ds M R ⟨n,c,ps,r,log,rfl,hn,few,ok,hh,h⟩
 have nM:=aO hn
 have hln:=bL few.2
 have f4:=few.1
 have ll:=ok.len
 simp only[yL,pF]
 walk_at "dl"
 refine⟨ps,_,rfl,few,?_⟩
 have e1:(M++[MO.dkt []]).length=M.length+1:=by simp
 have wm0:WM M n (M++[MO.dkt []]++[MO.lst (ah ps)]):=((WM.now hn).app _).app _
 have gd0:(M++[MO.dkt []]++[MO.lst (ah ps)])[M.length]?=some (.dkt []):=ae ak
 have gl0:(M++[MO.dkt []]++[MO.lst (ah ps)])[M.length+1]?=some (.lst (ah ps)):=by rw[<-e1];exact ak
 rw[e1]
 generalize M++[MO.dkt []]++[MO.lst (ah ps)]=B0 at wm0 gd0 gl0
 refine⟨_,.inl gl0,λ_=>?_⟩
 refine bc (λi S M'=>∃kvs a b,WM M n M'/\M'[M.length]?=some (.dkt kvs)/\M'[M.length+1]?=some (.lst (ah ps))/\kvs.length<=i/\(∀p∈kvs,∃t:Int,p.2=.int t)/\(∀x∈(ah ps).take i,x∈kvs.map (·.1))/\S=[some (.ref n),some (.tup (.tup (ps.map aH)::r)),some (.tup log),some (.ref M.length),a,b]) ?_ ?_ ⟨[],_,_,wm0,gd0,gl0,AAB _,(λ_ z=>nomatch z),(λ_ z=>nomatch z),rfl⟩
 ·rintro S M' ⟨kvs,a,b,wm,gd,gl,_,hv,hk,rfl⟩
  refine⟨.inl gl,?_⟩
  rw[ABX]at hk
  simp only[pD]
  walk_at "dl"
  intro hz
  refine bn (λd=>decide (bB d<match bi kvs (aw d)with | some (.int i)=>i | _=>0)) id (λS=>∃a,S=[a,some (.ref M.length)]) trivial _ _ _ ?_ ⟨_,rfl⟩ (by simpa using hz) ?_
  ·rintro y hy S ⟨a,rfl⟩
   refine⟨[some y,some (.ref M.length)],⟨_,rfl⟩,λY Z hYZ=>?_⟩
   obtain⟨i,ei⟩:=EX (hk _ (hh y hy)) hv
   rw[ei]at hYZ
   obtain⟨t,hd',num,act,rfl,⟨z,k,rfl⟩,_⟩:=ok.deed y hy
   walk_at "dl"
   exact⟨_,_,gd,rfl,ei,hYZ⟩
  ·rw[AAr,AEI]
   exact⟨_,aq,.inl (h (λx=>match bi kvs x with | some (.int i)=>i | _=>0) _ (wm.app _))⟩
 ·rintro i y S M' hy ⟨kvs,a,b,wm,gd,gl,kl,hv,hk,rfl⟩ G hG
  refine⟨.inl gl,?_⟩
  have hi:=(AA5.mp hy).1
  have hyd:Hd y:=bT (AAc hy)
  simp only[pE]
  walk_at "dl"
  intro hz
  refine bn (λd=>decide (aw d=y)) id (λS=>∃a,S=[a,some y]) trivial _ _ _ ?_ ⟨_,rfl⟩ (by simpa using hz) ?_
  ·rintro x hx S ⟨a,rfl⟩
   refine⟨[some x,some y],⟨_,rfl⟩,λY Z hYZ=>?_⟩
   obtain⟨t,hd',num,act,rfl,hhd,_⟩:=ok.deed x hx
   walk_at "dl"
   refine⟨⟨rK hhd,rK hyd⟩,?_⟩
   have e:eqD M' eqN hd' y=decide (hd'=y):=by
    by_cases q:hd'=y
    ·rw[dT_ q];exact(oy (n:=29) hhd hyd).mpr q
    ·rw[dF_ q];exact ACT.mpr λz=>q ((oy (n:=29) hhd hyd).mp z)
   rw[e]
   exact hYZ
  ·rw[AAr,AEI]
   generalize hL:log.filter (λd=>decide (aw d=y))=L
   have l40:L.length<=40:=by rw[<-hL];exact AAh (ABt _ _) ll
   refine⟨_,aq,?_⟩
   have wm1:=wm.app [MO.lst L]
   have gd1:=ae (a:=MO.lst L) gd
   have gl1:=ae (a:=MO.lst L) gl
   generalize M'++[MO.lst L]=B1 at wm1 gd1 gl1
   obtain⟨c1,hc1⟩:=wm1.get hn
   refine⟨n,c1,L.length+1,rfl,hc1,by lia,by lia,λv c2 v0 v1=>?_⟩
   have wm2:WM M n (B1.set n (ao c2)):=wm1.set hn _
   have gd2:(B1.set n (ao c2))[M.length]?=some (.dkt kvs):=ax (by lia) gd1
   have gl2:(B1.set n (ao c2))[M.length+1]?=some (.lst (ah ps)):=ax (by lia) gl1
   generalize B1.set n (ao c2)=B2 at wm2 gd2 gl2
   refine⟨az (by lia),?_⟩
   have wm4:=wm2.app [MO.lst [D.int (L.length:Int),D.int (L.length:Int),D.int v]]
   have gd4:=ae (a:=MO.lst [D.int (L.length:Int),D.int (L.length:Int),D.int v]) gd2
   have gl4:=ae (a:=MO.lst [D.int (L.length:Int),D.int (L.length:Int),D.int v]) gl2
   have t4:ap (B2++[MO.lst [D.int (L.length:Int),D.int (L.length:Int),D.int v]]) B2.length [D.int (L.length:Int),D.int (L.length:Int),D.int v]:=aq
   have b3:=aO gl2
   generalize B2++[MO.lst [D.int (L.length:Int),D.int (L.length:Int),D.int v]]=B4 at wm4 gd4 gl4 t4
   generalize B2.length=k4 at t4 b3
   obtain⟨c5,hc5⟩:=wm4.get hn
   refine⟨n,c5,3,rfl,hc5,by decide,by decide,λw c6 w0 w4=>⟨_,aV (by lia) t4,?_⟩⟩
   obtain⟨x,ex⟩:∃x:Int,atI [D.int (L.length:Int),D.int (L.length:Int),D.int v] w=some (.int x):=by
    have:w=0\/w=1\/w=2:=by lia
    rcases this with rfl | rfl | rfl
    ·exact⟨_,aN (j:=0) rfl⟩
    ·exact⟨_,aN (j:=1) rfl⟩
    ·exact⟨_,aN (j:=2) rfl⟩
   rw[ex]
   obtain⟨z,k,rfl⟩:=hyd
   have pl:=cb (kvs:=kvs) (k:=.tup [.str z,.int k]) (d:=.int x)
   refine⟨kvs,ax (by lia) gd4,rfl,aF (by lia),Fgt.now (hG _ _ ⟨ck kvs (.tup [.str z,.int k]) (.int x),_,_,(wm4.set hn _).hi (by lia),bq (ax (by lia) gd4),ax (by lia) (ax (by lia) gl4),by lia,lB hv,λy hy'=>?_,rfl⟩)⟩
   rw[AB6,hy,List.mem_append]at hy'
   refine pU.mpr (hy'.elim (λq=>.inl (hk y q)) λq=>.inr ?_)
   simpa using q
theorem Av(T:Tops P w K mg base):Cal P w K mg base 2 "_law_part" uj iD :=
 Cal.byD (N:=["_law_well_here","_law_house_here","_law_log_here","_law_counts","_law_hand","_law_many"]) T.b T.f_part (by walk_at "sc") xC (by have:=bR T;have:=gh T;walk_at "dv") zC
def bK:DSp:=λds M R=>∃(a b:D) (r:List D),ds=[.tup (a::b::r)]/\R (.tup [a,b]) M
theorem iJ:dY bK da:=by rintro ds M R ⟨a,b,r,rfl,_⟩;rfl
def fu:DTS:=bI (dSl (ac 0) bW (bF (dC (.int 2))))
theorem jt:WpT bK 1 fu:=by
 rintro ds M R ⟨a,b,r,rfl,h⟩
 simp only[fu]
 walk_at "dl"
 have e:cutD (a::b::r) none (some 2)=[a,b]:=by
  unfold cutD
  rw[show (some (2:Int))=some ((2:Nat):Int)from rfl,HT.sIx_none,HT.sIx_nat]
  simp
 rw[e]
 exact cj.now h
theorem jK(T:Tops P w K mg base):Cal P w K mg base 1 "_law_stamp_of" da bK :=
 Cal.byD (N:=["_law_deed"]) T.b T.f_l_stamp_of (by walk_at "sc") iJ (by walk_at "dv") jt
def dF:DSp:=λds M R=>∃(n:Nat) (c:Int) (p:Str×Int) (ps:List (Str×Int)) (rs:List (Str×List Str)) (r log:List D),ds=[.ref n,.tup (.tup ((p::ps).map aH)::.tup (rs.map bC)::r),.tup log]/\M[n]?=some (ao c)/\Few (p::ps)/\1<=(ah (p::ps)).length/\(∀q∈p::ps,q.1.length<=8)/\1<=rs.length/\rs.length<=4/\LogN log /\
 ∀(ys:List D) (B:Mem),LogN ys->(ys.map af).Perm (log.map af)->WM M n B->R (.tup ys) B
theorem nY:dY dF ii:=by rintro ds M R ⟨n,c,p,ps,rs,r,log,rfl,_⟩;rfl
theorem WM.cut(w:WM M n B)(h:M.length<=q):WM M n (B.set q x):=by
 obtain⟨c,L,rfl⟩:=w
 refine⟨c,L.set (q-M.length) x,?_⟩
 rw[ACz _ _ (by rw[AB5];exact h),AB5]
def gO:DTS:=bI (dCB bN (aa (dCB (iZ bK) (aa (ac 3) am)) am))
def gP:DTS:=dIf (yt (aG (dOp qEq (dCB au (aa (ac 0) (aa (dC (.int 3)) am))) (dC (.int 0)))) (aG (dOp qGt (dOp Ct (ac 6) (dC (.int 1))) (dCB qW (aa (dOp aK (cR (aa (dC (.int 0)) am)) (ac 10)) am))))) (zp (fG (aa (dOp Ct (ac 6) (dC (.int 1))) (aa (ac 7) (aa (ac 8) (aa (ac 9) am))))) (oF (ac 3) (ac 5))) (zp (fG (aa (ac 6) (aa (ac 7) (aa (ac 8) (aa (dCB jq (aa (ac 0) (aa (ac 1) (aa (cR am) am)))) am))))) (oF (ac 3) (ac 5)))
def gQ:DTS:=aI (iz 1 [7,8] (bx (ac 3)) (aA 0) (yt (aG (dOp qEq (dOp qIx (ac 0) (dC (.int 1))) (ac 1))) (aG (dOp qLt (dOp qIx (ac 0) (dC (.int 2))) (ac 2)))) (dOp qIx (ac 0) (dC (.int 0))) 10) (gP)
def dL:DTS:=aI (zp (dOp qIx (ac 3) (ac 5)) (mv 4 (bV (aA 6) (bV (aA 7) (bV (aA 8) (bV (aA 9) mw)))))) (gQ)
def gR:DTS:=aI (iK (bE (aa (dOp aK (dC (.int 1)) (dCB au (aa (ac 0) (aa (dC (.int 3)) am)))) am)) (aA 4) (dIf (aG (dOp qNe (ac 3) (cR am))) (aI (bb (dCB au (aa (ac 0) (aa (dCB ja (aa (ac 3) am)) am))) 5) (dL)) bo)) (gO)
def kX:DTS:=aI (bb (dCB tM (aa (ac 2) am)) 3) (gR)
theorem yA{M B:Mem}{E:DEnds}{n:Nat}{c:Int}{p:Str×Int}{ps:List (Str×Int)}{rs:List (Str×List Str)}{r log fs:List D}{y2 y4 y5 y6 y7 y8 y9 y10:Option D}(hn:M[n]?=some (ao c))(wm:WM M n B)(gf:B[M.length]?=some (.lst fs))(few:Few (p::ps))(h1:1<=(ah (p::ps)).length)(h8:∀q∈p::ps,q.1.length<=8)(r1:1<=rs.length)(r4:rs.length<=4)(ok:LogN log)(bg:Bag log fs)
  (hE:∀fs' B' y5 y6 y7 y8 y9 y10,WM M n B'->B'[M.length]?=some (.lst fs')->Bag log fs'->E.nx [some (.ref n),some (.tup (.tup ((p::ps).map aH)::.tup (rs.map bC)::r)),y2,some (.ref M.length),y4,y5,y6,y7,y8,y9,y10] B') :
  (dIf (aG (dOp qNe (ac 3) (cR am))) (aI (bb (dCB au (aa (ac 0) (aa (dCB ja (aa (ac 3) am)) am))) 5) (dL)) bo) E [some (.ref n),some (.tup (.tup ((p::ps).map aH)::.tup (rs.map bC)::r)),y2,some (.ref M.length),y4,y5,y6,y7,y8,y9,y10] B:=by
 have nM:=aO hn
 have fl:fs.length<=40:=by
  have:=congrArg AC9 bg.pl
  rw[AA6,AA6]at this
  rw[this];exact ok.len
 walk_at "dl"
 have nf:=gi (M:=B) (n:=M.length) (.inl gf) λx hx=>(lF 6 29 x (by decide) (bD (bg.deed x hx))).1
 refine⟨AAV _,nf.1,?_⟩
 rw[nf.2]
 have wm1:=wm.app [MO.lst []]
 have gf1:=ae (a:=MO.lst []) gf
 generalize B++[MO.lst []]=B1 at wm1 gf1
 obtain⟨c1,hc1⟩:=wm1.get hn
 cases fs with
 | nil=>exact bZ (hE _ _ _ _ _ _ _ _ wm1 gf1 bg)
 | cons f0 fs0 =>
 refine cM ?_
 generalize hfs:f0::fs0=fs at *
 have fl0:0<fs.length:=by rw[<-hfs,AAG];lia
 refine⟨_,.inl gf1,n,c1,fs.length,rfl,hc1,by lia,by lia,λv c2 v0 v1=>?_⟩
 have wm2:WM M n (B1.set n (ao c2)):=wm1.set hn _
 have gf2:(B1.set n (ao c2))[M.length]?=some (.lst fs):=ax (by lia) gf1
 generalize B1.set n (ao c2)=B2 at wm2 gf2
 obtain⟨j,hj,ej,ejv⟩:=cP v0 v1
 simp only[dL]
 walk_at "dl"
 refine⟨_,.inl gf2,?_⟩
 rw[ej]
 have hjm:fs[j]∈fs:=AAy hj
 have hj?:fs[j]?=some fs[j]:=AA7 hj
 generalize fs[j]=d at hjm hj?
 obtain⟨t,hd,num,act,rfl,hh,pa⟩:=bg.deed d hjm
 walk_at "dl"
 refine⟨trivial,?_⟩
 simp only[gQ]
 walk_at "dl"
 refine⟨fs,.inl gf2,λ_=>?_⟩
 refine bn (λd=>decide (aw d=hd)&&decide (bB d<num)) (λd=>.int (bp d)) (λS=>∃a,S=[a,some hd,some (.int num)]) (.inl gf2) _ _ _ ?_ ⟨_,rfl⟩ (by rw[AAY];exact az (by lia)) ?_
 ·rintro x hx S ⟨a,rfl⟩
  refine⟨[some x,some hd,some (.int num)],⟨_,rfl⟩,λY Z hYZ=>?_⟩
  obtain⟨t',hd',num',act',rfl,hh',_⟩:=bg.deed x hx
  walk_at "dl"
  refine⟨⟨rK hh',rK hh⟩,?_⟩
  have e:eqD B2 eqN hd' hd=decide (hd'=hd):=by
   by_cases q:hd'=hd
   ·rw[dT_ q];exact(oy (n:=29) hh' hh).mpr q
   ·rw[dF_ q];exact ACT.mpr λz=>q ((oy (n:=29) hh' hh).mp z)
  have hYZ:if (decide (hd'=hd)&&decide (num' < num))=true then Y (.int t') [some (.tup [.int t',hd',.int num',act']),some hd,some (.int num)] B2 else Z [some (.tup [.int t',hd',.int num',act']),some hd,some (.int num)] B2:=hYZ
  rw[e]
  by_cases q:hd'=hd
  ·rw[dT_ q]at hYZ ⊢
   exact cM hYZ
  ·rw[dF_ q]at hYZ ⊢
   exact bZ hYZ
 rw[AAr]
 obtain⟨as,eas,has⟩:∃as:List Int,(fs.filter λd=>decide (aw d=hd)&&decide (bB d<num)).map (λd=>D.int (bp d))=as.map D.int/\∀a∈fs,aw a=hd->bB a<num->bp a∈as:=by
  refine⟨(fs.filter λd=>decide (aw d=hd)&&decide (bB d<num)).map bp,by rw[ABE];rfl,λa ha h1 h2=>AAF.mpr ⟨a,AAX.mpr ⟨ha,?_⟩,rfl⟩⟩
  rw[dT_ h1,dT_ h2];rfl
 have al:as.length<=40:=by
  have:=congrArg AC9 eas
  rw[AA6,AA6]at this
  rw[<-this]
  exact AAh (ABt _ _) fl
 rw[eas]
 have wm3:=wm2.app [MO.lst (as.map D.int)]
 have gf3:=ae (a:=MO.lst (as.map D.int)) gf2
 have ga3:(B2++[MO.lst (as.map D.int)])[B2.length]?=some (.lst (as.map D.int)):=ak
 have b2:=aO gf2
 generalize B2++[MO.lst (as.map D.int)]=B3 at wm3 gf3 ga3
 generalize B2.length=k3 at ga3 b2
 simp only[gP]
 walk_at "dl"
 obtain⟨c4,hc4⟩:=wm3.get hn
 refine⟨n,c4,3,rfl,hc4,by decide,by decide,λu c5 u0 u3=>?_⟩
 have wm4:WM M n (B3.set n (ao c5)):=wm3.set hn _
 have gf4:(B3.set n (ao c5))[M.length]?=some (.lst fs):=ax (by lia) gf3
 have ga4:(B3.set n (ao c5))[k3]?=some (.lst (as.map D.int)):=ax (by lia) ga3
 generalize B3.set n (ao c5)=B4 at wm4 gf4 ga4
 refine⟨⟨aB,aB⟩,?_⟩
 have ix:ixN fs.length v=some j:=by
  unfold ixN
  rw[if_pos v0,if_pos v1]
  congr 1
  lia
 have other:∀B5:Mem,WM M n B5->B5[M.length]?=some (.lst fs)->(zp (fG (aa (ac 6) (aa (ac 7) (aa (ac 8) (aa (dCB jq (aa (ac 0) (aa (ac 1) (aa (cR am) am)))) am))))) (oF (ac 3) (ac 5))) E [some (.ref n),some (.tup (.tup (aH p::ps.map aH)::.tup (rs.map bC)::r)),y2,some (.ref M.length),y4,some (.int v),some (.int t),some hd,some (.int num),some act,some (.ref k3)] B5:=λB5 wm5 gf5=>by
  walk_at "dl"
  have wm6:=wm5.app [MO.lst []]
  have gf6:=ae (a:=MO.lst []) gf5
  have ge6:ap (B5++[MO.lst []]) B5.length []:=aq
  have b5:=aO gf5
  generalize B5++[MO.lst []]=B6 at wm6 gf6 ge6
  generalize B5.length=k6 at ge6 b5
  obtain⟨c6,hc6⟩:=wm6.get hn
  refine⟨AAV _,n,k6,c6,p,ps,rs,r,[],rfl,hc6,ge6,by lia,(λ_ z=>nomatch z),(λ_ z=>nomatch z),by decide,few,h1,h8,r1,r4,λx ds B7 bds wm7=>⟨az (by decide),?_⟩⟩
  refine⟨fs,j,wm7.other (by lia) gf6,ix,?_⟩
  exact hE _ _ _ _ _ _ _ _ ((wm6.trans hn wm7).cut (AAB _)) (bq (wm7.other (by lia) gf6)) (bg.set hj? ⟨_,_,_,_,rfl,hh,.tup (.cons (.str _) bds)⟩ rfl (.inl rfl))
 rw[bw]
 cases (u==0) with
 | false=>exact bZ (other B4 wm4 gf4)
 | true =>
  refine cM ⟨az (by decide),_,_,ak,ae ga4,by rw[AA6];exact az (by simp only[AAG,AAY];lia),0::as,aq,by simp,λm _ hm=>?_⟩
  have wm5:=(wm4.app [MO.lst [D.int 0]]).app [MO.lst ([D.int 0]++as.map D.int)]
  have gf5:=ae (a:=MO.lst ([D.int 0]++as.map D.int)) (ae (a:=MO.lst [D.int 0]) gf4)
  generalize B4++[MO.lst [D.int 0]]++[MO.lst ([D.int 0]++as.map D.int)]=B5 at wm5 gf5
  by_cases q:m<t-1
  ·rw[dT_ q]
   refine cM ⟨az (by decide),fs,j,gf5,ix,?_⟩
   refine hE _ _ _ _ _ _ _ _ (wm5.cut (AAB _)) (bq gf5) (bg.set hj? ⟨_,_,_,_,rfl,hh,pa⟩ rfl (.inr ⟨?_,λa ha e1 e2=>?_⟩))
   ·show t-1<t
    lia
   ·have:=hm _ (AA9 _ (has a ha e1 e2))
    show bp a<t-1
    lia
  ·rw[dF_ q]
   exact bZ (other B5 wm5 gf5)
theorem qK:WpT dF 11 kX:=by
 rintro ds M R ⟨n,c,p,ps,rs,r,log,rfl,hn,few,h1,h8,r1,r4,ok,h⟩
 have nM:=aO hn
 simp only[kX,gR]
 walk_at "dl"
 have wm0:WM M n (M++[MO.lst log]):=(WM.now hn).app _
 have gf0:(M++[MO.lst log])[M.length]?=some (.lst log):=ak
 generalize M++[MO.lst log]=B0 at wm0 gf0
 obtain⟨c1,hc1⟩:=wm0.get hn
 refine⟨n,c1,3,rfl,hc1,by decide,by decide,λv c2 v0 v3=>⟨⟨by lia,by lia⟩,?_⟩⟩
 have wm1:WM M n (B0.set n (ao c2)):=wm0.set hn _
 have gf1:(B0.set n (ao c2))[M.length]?=some (.lst log):=ax (by lia) gf0
 generalize B0.set n (ao c2)=B1 at wm1 gf1
 refine bc (λi S M'=>∃fs y4 y5 y6 y7 y8 y9 y10,WM M n M'/\M'[M.length]?=some (.lst fs)/\Bag log fs/\S=[some (.ref n),some (.tup (.tup (aH p::ps.map aH)::.tup (rs.map bC)::r)),some (.tup log),some (.ref M.length),y4,y5,y6,y7,y8,y9,y10]) ?_ ?_ ⟨log,_,_,_,_,_,_,_,wm1,gf1,Bag.of ok,rfl⟩
 ·rintro S M' ⟨fs,y4,y5,y6,y7,y8,y9,y10,wm,gf,bg,rfl⟩
  refine⟨trivial,?_⟩
  have fl:fs.length<=40:=by
   have:=congrArg AC9 bg.pl
   rw[AA6,AA6]at this
   rw[this];exact ok.len
  simp only[gO]
  walk_at "dl"
  refine⟨fs,stD,.inr ⟨_,rfl,.inl gf⟩,λd hd=>?_,(pO (λx hx=>?_) (by rw[AA6];lia)).g,λys hp hr=>⟨_,aq,?_⟩⟩
  ·obtain⟨t,hd',num,act,rfl,_⟩:=bg.deed d hd
   exact⟨_,_,_,rfl,rfl,rfl⟩
  ·obtain⟨d,hd,rfl⟩:=AAF.mp hx
   exact aM (bg.deed d hd)
  ·obtain⟨ly,py⟩:=bg.log ok hp hr
   exact .inl (h ys _ ly py (wm.app _))
 ·rintro i y S M' hy ⟨fs,y4,y5,y6,y7,y8,y9,y10,wm,gf,bg,rfl⟩ G hG
  refine⟨trivial,?_⟩
  simp only[aA,ADc,ADd]
  exact yA hn wm gf few h1 h8 r1 r4 ok bg λfs' B' y5 y6 y7 y8 y9 y10 wm' gf' bg'=>Fgt.now (hG _ _ ⟨fs',_,_,_,_,_,_,_,wm',gf',bg',rfl⟩)
theorem rh(T:Tops P w K mg base):Cal P w K mg base 5 "_law_altered" ii dF :=
 Cal.byD (N:=["_law_well_here","_law_house_here","_law_log_here","_law_found","_law_turn","_law_at","_law_time","_law_hand","_law_number","_law_act_here","_law_ahead"]) T.b T.f_altered (by walk_at "sc") nY (by have:=bR T;have:=yR T;have:=jK T;walk_at "dv") qK
def qF:DSp:=λds M R=>∃one other:List D,ds=[.tup one,.tup other]/\LogN one/\LogN other/\∀ys,ys.Perm (dZ one other)->mO M ys->R (.ref M.length) (M++[.lst ys])
theorem AM:dY qF Ao:=by rintro ds M R ⟨one,other,rfl,_⟩;rfl
theorem cut13:cutD [a,b,c,d] (some 1) (some 3)=[b,c]:=by
 unfold cutD
 rw[show (some (1:Int))=some ((1:Nat):Int)from rfl,show (some (3:Int))=some ((3:Nat):Int)from rfl,HT.sIx_nat,HT.sIx_nat]
 simp
theorem Dp(ha:PlH a)(hb:PlH b):(okD M eqN a=true/\okD M eqN b=true)/\eqD M eqN a b=decide (a=b):=by
 refine⟨⟨qc _ _ _ (fx ha),qc _ _ _ (fx hb)⟩,?_⟩
 obtain⟨z,i,j,rfl⟩:=ha
 obtain⟨z',i',j',rfl⟩:=hb
 have e:eqD M eqN (.tup [.tup [.str z,.int i],.int j]) (.tup [.tup [.str z',.int i'],.int j'])=(eqD M 29 (.tup [.str z,.int i]) (.tup [.str z',.int i'])&&(eqD M 29 (.int j) (.int j')&&true)):=rfl
 rw[e,bw,Bool.and_true,Bool.eq_iff_iff,AAK,oy (n:=28) ⟨_,_,rfl⟩ ⟨_,_,rfl⟩,beq_iff_eq,decide_eq_true_eq]
 simp
theorem wO:dZ (l++[d]) other=dZ l other++if unl other d=true then[af d]else[]:=by
 unfold dZ
 rw[ADf,AAk,ACi]
 split<;>rfl
theorem wP:unl (l++[e]) d=(unl l d||(decide (af e=af d) && !eqD [] eqN e d)):=by
 unfold unl
 rw[List.any_append]
 simp
def sW:DTS:=bI (dCB dq (aa (ac 2) am))
def sX:DTS:=aI (iK (bx (ac 0)) (aA 3) (iK (bx (ac 1)) (aA 4) (dIf (yt (aG (dOp qEq (dSl (ac 3) (bF (dC (.int 1))) (bF (dC (.int 3)))) (dSl (ac 4) (bF (dC (.int 1))) (bF (dC (.int 3)))))) (aG (dOp qNe (ac 3) (ac 4)))) (fU (dMl bO (ac 2) (aa (dSl (ac 3) (bF (dC (.int 1))) (bF (dC (.int 3)))) am))) bo))) (sW)
def CN:DTS:=aI (bb (cR am) 2) (sX)
theorem vZ{M B0 B:Mem}(dd:dg d)(o2:LogN other)(gl:B[M.length]?=some (.lst us))(pl:M <+: B)(ul:us.length<=40)
  (h:∀y4 B',B'[M.length]?=some (.lst (us++if unl other d=true then[af d]else[]))->M <+: B'->E.nx [y0,some (.tup other),some (.ref M.length),some d,y4] B') :
  (iK (bx (ac 1)) (aA 4) (dIf (yt (aG (dOp qEq (dSl (ac 3) (bF (dC (.int 1))) (bF (dC (.int 3)))) (dSl (ac 4) (bF (dC (.int 1))) (bF (dC (.int 3)))))) (aG (dOp qNe (ac 3) (ac 4)))) (fU (dMl bO (ac 2) (aa (dSl (ac 3) (bF (dC (.int 1))) (bF (dC (.int 3)))) am))) bo)) E [y0,some (.tup other),some (.ref M.length),some d,y4] B:=by
 walk_at "dl"
 intro _
 refine bc (λj S M'=>∃y4,M'[M.length]?=some (.lst (us++if unl (other.take j) d=true then[af d]else[]))/\M <+: M'/\S=[y0,some (.tup other),some (.ref M.length),some d,y4]) ?_ ?_ ⟨_,?_,pl,rfl⟩
 ·rintro S M' ⟨y4,g,p,rfl⟩
  rw[ABX]at g
  exact⟨trivial,h _ _ g p⟩
 ·rintro j e S M' hj ⟨y4,g,p,rfl⟩ G hG
  refine⟨trivial,?_⟩
  have he:e∈other:=AAc hj
  have de:=o2.deed e he
  have tk:other.take (j+1)=other.take j++[e]:=by rw[AB6,hj];rfl
  have pe:=Dp (M:=M') (jV dd) (jV de)
  have ee:eqD M' eqN d e=eqD [] eqN e d:=(oB 6 eqN eqN d e (by decide) (by decide) (bD dd)).trans (vQ eqN 6 d e (bD dd))
  have od:okD M' eqN d=true/\okD M' eqN e=true:=⟨(jW dd).1,(jW de).1⟩
  have um:=wP (l:=other.take j) (d:=d) (e:=e)
  rw[<-tk]at um
  have cd:∀{x:D},dg x->∃l,x=.tup l/\D.tup (cutD l (some 1) (some 3))=af x:=λ{x} hx=>by
   obtain⟨t,hd',num,act,rfl,_⟩:=hx
   exact⟨_,rfl,by rw[cut13];rfl⟩
  obtain⟨ld,rfl,cd1⟩:=cd dd
  obtain⟨le,rfl,ce1⟩:=cd de
  walk_at "dl"
  rw[cd1,ce1]
  refine⟨pe.1,?_⟩
  rw[pe.2]
  by_cases q:af (.tup ld)=af (.tup le)
  ·rw[dT_ q]
   refine cM ⟨od,?_⟩
   rw[ee]
   rw[dT_ q.symm,Bool.true_and]at um
   cases w:eqD [] eqN (.tup le) (.tup ld) with
   | true =>
    rw[w,Bool.not_true,Bool.or_false]at um
    refine bZ (Fgt.now (hG _ _ ⟨_,?_,p,rfl⟩))
    rw[um];exact g
   | false =>
    rw[w]at um
    have u0:unl (other.take j) (.tup ld)=false:=by
     refine List.any_eq_false.mpr λx hx z=>?_
     rw[AAK,decide_eq_true_eq]at z
     have hn:=aW.mp (z.1.trans q)
     have xe:=eI o2 (AE9 hx) he hn.1 hn.2
     subst xe
     have nd:(other.take j++[D.tup le]).Nodup:=by
      rw[<-tk]
      refine List.Nodup.sublist (AD1 _ _) ?_
      have:=pZ o2
      unfold List.Nodup at this ⊢
      rw[AAt]at this
      exact this.imp λh e=>h (by rw[e])
     exact(ACW.mp nd).2.2 _ hx _ (AAS.mpr rfl) rfl
    rw[u0]at um g
    rw[if_neg (by decide),AAq]at g
    refine cM ⟨⟨_,.inl g⟩,us,g,az (by lia),Fgt.now (hG _ _ ⟨_,?_,?_,rfl⟩)⟩
    ·rw[um,bq g];rfl
    ·obtain⟨L,rfl⟩:=p
     rw[ACz _ _ (AAB _)]
     exact ABS _ _
  ·rw[dF_ q]
   rw[dF_ (ABG q),ADv,Bool.or_false]at um
   refine bZ (Fgt.now (hG _ _ ⟨_,?_,p,rfl⟩))
   rw[um];exact g
 ·rw[List.take_zero]
  show B[M.length]?=some (.lst (us++[]))
  rw[AAq];exact gl
theorem CC:WpT qF 5 CN:=by
 rintro ds M R ⟨one,other,rfl,o1,o2,h⟩
 have l1:=o1.len
 simp only[CN,sX]
 walk_at "dl"
 refine⟨AAV _,λ_=>?_⟩
 refine bc (λi S M'=>∃a b,M'[M.length]?=some (.lst (dZ (one.take i) other))/\M <+: M'/\S=[some (.tup one),some (.tup other),some (.ref M.length),a,b]) ?_ ?_ ⟨_,_,ak,jD,rfl⟩
 ·rintro S M' ⟨a,b,g,p,rfl⟩
  refine⟨trivial,?_⟩
  rw[ABX]at g
  simp only[sW]
  walk_at "dl"
  have ul:(dZ one other).length<=40:=by
   unfold dZ
   rw[AA6]
   exact AAh (ABt _ _) l1
  have pl:=gw (other:=other) o1
  refine⟨_,.inl (.inl g),Do pl (by lia),λys hp up=>?_⟩
  have hys:∀y∈ys,PlH y:=λy hy=>pl y (hp.mem_iff.mp hy)
  have up':mO M ys:=(AAg.mp up).imp λ{x y} ⟨hx,hy,q⟩=>by rw[tV (M':=M') (hys y hy) (hys x hx)];exact q
  have bl:Bels M.length ys:=Bels.of λx hx=>by
   obtain⟨z,i,j,rfl⟩:=hys x hx
   exact .tup (.cons (vH ⟨_,_,rfl⟩) (.cons (.int _) .nil))
  exact cj.chgL (xs:=ys) .refl (h ys hp up') p.length_le ak (p.trans jD) bl
 ·rintro i d S M' hi ⟨a,b,g,p,rfl⟩ G hG
  refine⟨trivial,?_⟩
  have hd:=o1.deed d (AAc hi)
  have ul:(dZ (one.take i) other).length<=40:=by
   unfold dZ
   rw[AA6]
   refine AAh (ABt _ _) (AAh (List.length_take_le' _ _) l1)
  simp only[aA,ADc,ADd]
  refine vZ (B0:=M') hd o2 g p ul λy4 B' g' p'=>Fgt.now (hG _ _ ⟨_,_,?_,p',rfl⟩)
  rw[AB6,hi,Option.toList_some,wO]
  exact g'
theorem DU(T:Tops P w K mg base):Cal P w K mg base 1 "_law_due" Ao qF :=
 Cal.byD (N:=["_law_one","_law_other","_law_unlike","_law_deed","_law_there"]) T.b T.f_due (by walk_at "sc") AM (by walk_at "dv") CC
def cx:DSp:=λds M R=>∃(one other:List D) (p:D),ds=[.tup one,.tup other,p]/\LogN one/\LogN other/\(cq one other).length<=40/\ki (dZ one other) p/\R (.bl true) M
theorem nW:dY cx ie:=by rintro ds M R ⟨one,other,p,rfl,_⟩;rfl
def gD:DTS:=bI (yr (yq (dCB De (aa (dOp aK (ac 5) (cR (aa (qu T_ "Strange" (ac 3)) am))) am))) (dOp qEq (fG (aa (wd "Clash" "hand" (ac 3)) (aa (wd "Clash" "number" (ac 3)) am))) (ac 2)))
def gF:DTS:=aI (bb (dOp aK (ac 5) (cR (aa (qu T_ "NoSaying" (ac 3)) (aa (qu T_ "NotYours" (ac 3)) (aa (qu T_ "NoWhat" (ac 3)) am))))) 5) (gD)
def gG:DTS:=aI (bb (dOp aK (ac 5) (cR (aa (qu T_ "NoMessage" (ac 3)) (aa (qu T_ "NoName" (ac 3)) (aa (qu T_ "NoRow" (ac 3)) am))))) 5) (gF)
def dJ:DTS:=aI (bb (cR (aa (qu T_ "Gap" (ac 3)) (aa (qu T_ "NoDeed" (ac 3)) (aa (qu T_ "NoHouse" (ac 3)) (aa (qu T_ "NoRoom" (ac 3)) am))))) 5) (gG)
def gH:DTS:=aI (dIf (dOr (zo (aG (qu T_ "Clash" (ac 3)))) (dOr (zo (aG (dIsV T_ (ac 3)))) (aG (dCB Dd (aa (wd "Clash" "number" (ac 3)) (aa (dC (.ty "bool")) am)))))) (bI (dC (.bl false))) bo) (dJ)
def gI:DTS:=aI (dTry T_ "TalkError" 4 (wG (xCB aJ (aa (ac 0) (aa (ac 1) am)))) (λa_=>bb (ac 4) 3)) (gH)
def kN:DTS:=aI (bb (dC .non) 3) (gI)
theorem ref_3(h:R (.bl true) M)(pM:M <+: B)(g:B[q]?=some (.exc ⟨AA2 "Clash",[(AA2 "hand",.tup [.str z,.int i]),(AA2 "number",.int j)]⟩ a)) :
  dJ (EE M R) [y0,y1,some (.tup [.tup [.str z,.int i],.int j]),some (.ref q),y4,y5] B:=by
 simp only[dJ]
 walk_at "dl"
 have e1:fY T_ (AA2 "Clash") (AA2 "Gap")=some false:=by decide +kernel
 have e2:fY T_ (AA2 "Clash") (AA2 "NoDeed")=some false:=by decide +kernel
 have e3:fY T_ (AA2 "Clash") (AA2 "NoHouse")=some false:=by decide +kernel
 have e4:fY T_ (AA2 "Clash") (AA2 "NoRoom")=some false:=by decide +kernel
 simp only[g,e1,e2,e3,e4]
 refine⟨az (by decide),?_⟩
 have g2:=ae (a:=MO.lst [.bl false,.bl false,.bl false,.bl false]) g
 have l2:(B++[MO.lst [.bl false,.bl false,.bl false,.bl false]])[B.length]?=some (.lst [.bl false,.bl false,.bl false,.bl false]):=ak
 have p2:=pM.trans (jD (mo:=MO.lst [.bl false,.bl false,.bl false,.bl false]))
 generalize B++[MO.lst [.bl false,.bl false,.bl false,.bl false]]=B2 at g2 l2 p2
 generalize B.length=q2 at l2
 simp only[gG]
 walk_at "dl"
 have e1:fY T_ (AA2 "Clash") (AA2 "NoMessage")=some false:=by decide +kernel
 have e2:fY T_ (AA2 "Clash") (AA2 "NoName")=some false:=by decide +kernel
 have e3:fY T_ (AA2 "Clash") (AA2 "NoRow")=some false:=by decide +kernel
 simp only[g2,e1,e2,e3]
 refine⟨az (by decide),_,_,ae l2,ak,az (by decide),?_⟩
 simp only[ACh,AAr]
 have g3:=ae (a:=MO.lst [.bl false,.bl false,.bl false,.bl false,.bl false,.bl false,.bl false]) (ae (a:=MO.lst [.bl false,.bl false,.bl false]) g2)
 have l3:=ak (M:=B2++[MO.lst [.bl false,.bl false,.bl false]]) (mo:=MO.lst [.bl false,.bl false,.bl false,.bl false,.bl false,.bl false,.bl false])
 have p3:=(p2.trans (jD (mo:=MO.lst [.bl false,.bl false,.bl false]))).trans (jD (mo:=MO.lst [.bl false,.bl false,.bl false,.bl false,.bl false,.bl false,.bl false]))
 generalize B2++[MO.lst [.bl false,.bl false,.bl false]]++[MO.lst [.bl false,.bl false,.bl false,.bl false,.bl false,.bl false,.bl false]]=B3 at g3 l3 p3
 generalize (B2++[MO.lst [.bl false,.bl false,.bl false]]).length=q3 at l3
 simp only[gF]
 walk_at "dl"
 have e1:fY T_ (AA2 "Clash") (AA2 "NoSaying")=some false:=by decide +kernel
 have e2:fY T_ (AA2 "Clash") (AA2 "NotYours")=some false:=by decide +kernel
 have e3:fY T_ (AA2 "Clash") (AA2 "NoWhat")=some false:=by decide +kernel
 simp only[g3,e1,e2,e3]
 refine⟨az (by decide),_,_,ae l3,ak,az (by decide),?_⟩
 simp only[ACh,AAr]
 have g4:=ae (a:=MO.lst [.bl false,.bl false,.bl false,.bl false,.bl false,.bl false,.bl false,.bl false,.bl false,.bl false]) (ae (a:=MO.lst [.bl false,.bl false,.bl false]) g3)
 have l4:=ak (M:=B3++[MO.lst [.bl false,.bl false,.bl false]]) (mo:=MO.lst [.bl false,.bl false,.bl false,.bl false,.bl false,.bl false,.bl false,.bl false,.bl false,.bl false])
 have p4:=(p3.trans (jD (mo:=MO.lst [.bl false,.bl false,.bl false]))).trans (jD (mo:=MO.lst [.bl false,.bl false,.bl false,.bl false,.bl false,.bl false,.bl false,.bl false,.bl false,.bl false]))
 generalize B3++[MO.lst [.bl false,.bl false,.bl false]]++[MO.lst [.bl false,.bl false,.bl false,.bl false,.bl false,.bl false,.bl false,.bl false,.bl false,.bl false]]=B4 at g4 l4 p4
 generalize (B3++[MO.lst [.bl false,.bl false,.bl false]]).length=q4 at l4
 simp only[gD]
 walk_at "dl"
 have e1:fY T_ (AA2 "Clash") (AA2 "Strange")=some false:=by decide +kernel
 simp only[g4,e1]
 refine⟨az (by decide),_,_,ae l4,ak,az (by decide),?_⟩
 simp only[ACh,AAr]
 have g5:=ae (a:=MO.lst [.bl false,.bl false,.bl false,.bl false,.bl false,.bl false,.bl false,.bl false,.bl false,.bl false,.bl false]) (ae (a:=MO.lst [.bl false]) g4)
 have p5:=(p4.trans (jD (mo:=MO.lst [.bl false]))).trans (jD (mo:=MO.lst [.bl false,.bl false,.bl false,.bl false,.bl false,.bl false,.bl false,.bl false,.bl false,.bl false,.bl false]))
 refine⟨[false,false,false,false,false,false,false,false,false,false,false],aq,?_⟩
 refine cM ⟨_,_,_,g5,rfl,rfl,_,_,_,g5,rfl,rfl,az (by decide),?_⟩
 have pe:=Dp (M:=B4++[MO.lst [.bl false]]++[MO.lst [.bl false,.bl false,.bl false,.bl false,.bl false,.bl false,.bl false,.bl false,.bl false,.bl false,.bl false]]) (a:=.tup [.tup [.str z,.int i],.int j]) (b:=.tup [.tup [.str z,.int i],.int j]) ⟨_,_,_,rfl⟩ ⟨_,_,_,rfl⟩
 refine⟨pe.1,?_⟩
 rw[pe.2,dT_ rfl]
 exact cj.bl h p5
theorem qI:WpT cx 6 kN:=by
 rintro ds M R ⟨one,other,p,rfl,o1,o2,lj,lp,h⟩
 have pl:=gw (other:=other) o1
 simp only[kN,gI]
 walk_at "dl"
 refine⟨one,other,rfl,o1,o2,lj,λno=>?_,λhd n lm=>⟨show fY T_ (AA2 "Clash") (AA2 "TalkError")=some true by decide +kernel,λa=>?_⟩⟩
 ·have:=lp.1
  rw[no]at this
  exact nomatch this
 obtain rfl:=uQ pl lp lm
 obtain⟨z,i,j,ez⟩:=pl _ lp.1
 simp only[D.tup.injEq,ACU,D.int.injEq,and_true]at ez
 obtain⟨rfl,rfl⟩:=ez
 have g:(M++[MO.exc ⟨AA2 "Clash",[(AA2 "hand",.tup [.str z,.int i]),(AA2 "number",.int n)]⟩ a])[M.length]?=some (.exc ⟨AA2 "Clash",[(AA2 "hand",.tup [.str z,.int i]),(AA2 "number",.int n)]⟩ a):=ak
 have pM:M <+: M++[MO.exc ⟨AA2 "Clash",[(AA2 "hand",.tup [.str z,.int i]),(AA2 "number",.int n)]⟩ a]:=jD
 generalize M++[MO.exc ⟨AA2 "Clash",[(AA2 "hand",.tup [.str z,.int i]),(AA2 "number",.int n)]⟩ a]=B at g pM
 generalize M.length=q at g
 simp only[gH]
 walk_at "dl"
 have e1:fY T_ (AA2 "Clash") (AA2 "Clash")=some true:=by decide +kernel
 have e2:(AC8 (AA2 "Clash") T_).isSome=true:=by decide +kernel
 simp only[g,e1,e2]
 refine bZ ⟨trivial,bZ ⟨_,_,_,rfl,rfl,rfl,⟨show "int"∈zF by decide,by decide⟩,?_⟩⟩
 exact bZ (ref_3 h pM g)
theorem re(T:Tops P w K mg base):Cal P w K mg base 5 "_law_refused" ie cx :=
 Cal.byD (N:=["_law_one","_law_other","_law_due_here","_law_error","e","_law_some"]) T.b T.f_refused (by walk_at "sc") nW (by have:=dH T;have:=T.y_Clash_number;have:=T.y_Clash_hand;have:=T.cl;walk_at "dv") qI
theorem AL:dY AR An:=by rintro ds M R ⟨ns,mo,_,_,rfl,_⟩;rfl
theorem CF(w:WM M n B)(hq:q≠n)(l:ap M q xs):ap B q xs:=by
 obtain⟨c,L,rfl⟩:=w
 exact(aV hq l).more L
theorem AG(p:M <+: B)(l:ap M q xs):ap B q xs:=by
 obtain⟨L,rfl⟩:=p
 exact l.more L
noncomputable def nB:List (D×D)->List D->List (D×D)
 | kvs,[]=>kvs
 | kvs,d::ds=>nB (ck kvs (stD d) d) ds
theorem pV:∀(l:List D) (kvs:List (D×D)),(∃d∈l,stD d=s)->∃v∈l,stD v=s/\bi (nB kvs l) s=some v
 | [],_,⟨_,h,_⟩=>nomatch h
 | d::ds,kvs,h=>by
  by_cases q:∃x∈ds,stD x=s
  ·obtain⟨v,hv,e,g⟩:=pV ds (ck kvs (stD d) d) q
   exact⟨v,AA9 _ hv,e,g⟩
  ·have keep:∀(l:List D) (kvs:List (D×D)),(¬∃x∈l,stD x=s)->bi (nB kvs l) s=bi kvs s:=by
    intro l
    induction l with
    | nil=>exact λ_ _=>rfl
    | cons x l ih =>
     intro kvs hn
     show bi (nB (ck kvs (stD x) x) l) s=_
     rw[ih _ λ⟨y,hy,e⟩=>hn ⟨y,AA9 _ hy,e⟩,fj λe=>hn ⟨x,by simp,e.symm⟩]
   obtain⟨x,hx,e⟩:=h
   rcases AAL.mp hx with rfl | hx
   ·refine⟨x,by simp,e,?_⟩
    show bi (nB (ck kvs (stD x) x) ds) s=_
    rw[keep ds _ q,<-e,cw]
   ·exact absurd ⟨x,hx,e⟩ q
theorem tO:∀(l:List D) (kvs:List (D×D)),(kvs.map (·.1)).Nodup->((nB kvs l).map (·.1)).Nodup
 | [],_,h=>h
 | _::ds,_,h=>tO ds _ (jC h)
theorem lE:∀(l:List D) (kvs:List (D×D)),x∈(nB kvs l).map (·.1)↔x∈kvs.map (·.1)\/∃d∈l,stD d=x
 | [],_=>by
  show _∈_↔_
  simp[nB]
 | d::ds,kvs=>by
  show x∈(nB (ck kvs (stD d) d) ds).map (·.1)↔_
  rw[lE ds,pU]
  constructor
  ·rintro((h | h) | ⟨y,hy,e⟩)
   ·exact .inl h
   ·exact .inr ⟨d,by simp,h.symm⟩
   ·exact .inr ⟨y,AA9 _ hy,e⟩
  ·rintro(h | ⟨y,hy,e⟩)
   ·exact .inl (.inl h)
   ·rcases AAL.mp hy with rfl | hy
    ·exact .inl (.inr e.symm)
    ·exact .inr ⟨y,hy,e⟩
theorem tN{one other:List D}(k:Like one other):((nB [] (one++other)).map (·.1)).Perm ((cq one other).map stD):=by
 refine(List.perm_ext_iff_of_nodup (tO (one++other) [] ADF) k.nd).mpr λx=>?_
 rw[lE,k.mem]
 simp
theorem vO:∀{xs:List D},(∀x∈xs,f x (g x)=true)->eqL f xs (xs.map g)=true
 | [],_=>rfl
 | x::xs,h=>by
  show (f x (g x)&&eqL f xs (xs.map g))=true
  rw[h x (by simp),vO λy hy=>h y (AA9 _ hy)];rfl
theorem CU{M:Mem}{xs ys:List D}(h:∀x∈xs,StH x)(hp:ys.Perm xs)(r1:xs.Pairwise λa b=>ltD M eqN b a=false)(r2:ys.Pairwise λa b=>ltD M eqN b a=false):ys=xs:=by
 refine ACZ (le:=λa b=>ltD M eqN b a=false) (λa b ha hb h1 h2=>?_) r2 r1 hp
 rcases fv M (h a (hp.mem_iff.mp ha)) (h b hb)with t | t | t
 ·exact t.1
 ·rw[t.2.1]at h2;cases h2
 ·rw[t.2.2.1]at h1;cases h1
theorem yE(h:∀d∈ds,dg d):okD M eqN (.tup ds)=true:=nJ (n:=29) λx hx=>(lF 6 29 x (by decide) (bD (h x hx))).1
def pL:DTS:=bI (dC (.bl true))
def mY:DTS:=dIf (dOr (aG (dOp qNe (dCB (prN aJ) (aa (ac 4) (aa (ac 4) am))) (ac 4))) (aG (dOp qNe (dCB (prN aJ) (aa (ac 5) (aa (ac 5) am))) (ac 5)))) (bI (dC (.bl false))) bo
def sN:DTS:=dIf (aG (dOp qNe (dCB (prN aJ) (aa (ac 4) (aa (ac 5) am))) (dCB bN (aa (dLC 1 [8] (bx (dCB dn (aa (ac 8) am))) (aA 0) oJ (rS (ac 1) (ac 0))) am)))) (bI (dC (.bl false))) bo
def mZ:DTS:=aI (iK (bx (dOp aK (ac 4) (ac 5))) (aA 9) (jY (ac 8) (dSl (ac 9) bW (bF (dC (.int 2)))) (ac 9))) (sN)
def sO:DTS:=aI (iK (bE (aa (dC (.int 2)) am)) (aA 7) (aI (dIf (aG (dOp qEq (ac 6) (cR am))) (aI (bb (ka) 8) (mZ)) (dIf (dOr (zo (aG (dCB cx (aa (ac 4) (aa (ac 5) (aa (dOp qIx (ac 6) (dC (.int 0))) am)))))) (zo (aG (dCB cx (aa (ac 5) (aa (ac 4) (aa (dOp qIx (ac 6) (dC (.int 0))) am))))))) (bI (dC (.bl false))) bo)) (mY))) (pL)
def sP:DTS:=aI (bb (dCB qF (aa (ac 4) (aa (ac 5) am))) 6) (sO)
def sQ:DTS:=aI (bb (dCB dF (aa (ac 3) (aa (ac 1) (aa (dCB iD (aa (ac 3) (aa (ac 1) (aa (ac 2) am)))) am)))) 5) (sP)
def sR:DTS:=aI (bb (dCB iD (aa (ac 3) (aa (ac 1) (aa (ac 2) am)))) 4) (sQ)
def sS:DTS:=aI (bb (dCB iB (aa (dCB bM (aa (ac 0) (aa (dC (.int 1)) am))) (aa (dC (.int 2)) am))) 3) (sR)
def sT:DTS:=aI (bb (dCB qE (aa (dCB gq (aa (ac 0) (aa (dC (.int 2)) (aa (dC (.int 40)) am)))) (aa (ac 1) am))) 2) (sS)
def CM:DTS:=aI (bb (dCB gs (aa (dCB iB (aa (dCB bM (aa (ac 0) (aa (dC (.int 0)) am))) (aa (dC (.int 1)) am))) am)) 1) (sT)
theorem Eg{E:DEnds}{B:Mem}{one other:List D}{y0 y1 y2 y3 y6 y7 y8 y9:Option D}(o1:LogN one)(o2:LogN other)(h:E.nx [y0,y1,y2,y3,some (.tup one),some (.tup other),y6,y7,y8,y9] B):mY E [y0,y1,y2,y3,some (.tup one),some (.tup other),y6,y7,y8,y9] B:=by
 have self:∀{log:List D},LogN log->∀Q:DK,Q (.tup log) B->prN aJ [.tup log,.tup log] B Q:=λ{log} ok Q hQ=>by
  obtain⟨lk,je⟩:=uK ok
  refine⟨log,log,rfl,ok,ok,by rw[je];exact ok.len,λ_ ys hp up=>?_,λh n z=>?_⟩
  ·rw[je]at hp
   rw[AH ok hp up];exact hQ
  ·have:=z.1
   rw[lk.no]at this
   exact nomatch this
 have eqs:∀{log:List D},LogN log->(okD B eqN (.tup log)=true/\okD B eqN (.tup log)=true)/\eqD B eqN (.tup log) (.tup log)=true:=λ{log} ok =>
  have:=lF (M:=B) 7 eqN (.tup log) (by decide) (.tup (qG.of λd hd=>bD (ok.deed d hd)))
  ⟨⟨this.1,this.1⟩,this.2⟩
 simp only[mY]
 walk_at "dl"
 refine self o1 _ ⟨(eqs o1).1,?_⟩
 rw[(eqs o1).2]
 refine bZ (self o2 _ ⟨(eqs o2).1,?_⟩)
 rw[(eqs o2).2]
 exact bZ h
theorem law_7{E:DEnds}{B0:Mem}{one other:List D}{y0 y1 y2 y3 y6 y7 y9:Option D}(k:Like one other)(lj:(cq one other).length<=40)
  (h:∀y9 B,B0 <+: B->E.nx [y0,y1,y2,y3,some (.tup one),some (.tup other),y6,y7,some (.ref B0.length),y9] B):mZ E [y0,y1,y2,y3,some (.tup one),some (.tup other),y6,y7,some (.ref B0.length),y9] (B0++[.dkt []]):=by
 have l1:=k.o1.len
 have l2:=k.o2.len
 simp only[mZ]
 walk_at "dl"
 refine⟨az (by lia),λ_=>?_⟩
 refine dB (λys S M'=>∃kvs y9,M'=B0++[.dkt kvs]/\nB kvs ys=nB [] (one++other)/\(∀d∈ys,dg d)/\kvs.length+ys.length<=80/\S=[y0,y1,y2,y3,some (.tup one),some (.tup other),y6,y7,some (.ref B0.length),y9]) ?_ ?_ _ _ _ ⟨[],_,rfl,rfl,λd hd=>k.deed hd,by rw[AAC,AAY];lia,rfl⟩
 ·rintro S M' ⟨kvs,y9,rfl,ek,_,_,rfl⟩
  refine⟨trivial,?_⟩
  have ek:kvs=nB [] (one++other):=ek
  have kp:=tN k
  rw[<-ek]at kp
  simp only[sN]
  walk_at "dl"
  refine⟨one,other,rfl,k.o1,k.o2,lj,λ_ zs hp up=>?_,λh n z=>?_⟩
  ·have zm:∀d∈zs,d∈one++other:=λd hd=>gk (hp.mem_iff.mp hd)
   have zd:∀d∈zs,dg d:=λd hd=>k.deed (zm d hd)
   have ks:∀x∈kvs.map (·.1),StH x:=λx hx=>by
    obtain⟨d,hd,rfl⟩:=AAF.mp (kp.mem_iff.mp hx)
    exact aM (k.deed (gk hd))
   have kl:(kvs.map (·.1)).length<=40:=by rw[kp.length_eq,AA6];exact lj
   refine⟨kvs,ak,pO ks (by lia),λys hy uy=>⟨_,aq,λ_=>?_⟩⟩
   have ey:ys=zs.map stD:=by
    refine CU (M:=B0++[MO.dkt kvs]) (λx hx=>?_) (hy.trans (kp.trans (hp.map stD).symm)) ?_ uy
    ·obtain⟨d,hd,rfl⟩:=AAF.mp hx
     exact aM (zd d hd)
    ·rw[AAt]
     exact(AAg.mp up).imp λ{a b} ⟨ha,hb,q⟩=>by
      rw[lc (M':=[]) (aM (zd b hb)) (aM (zd a ha))];exact q
   have gm:(B0++[MO.dkt kvs]++[MO.lst ys])[B0.length]?=some (.dkt kvs):=ae ak
   have gv:∀d∈zs,∃v∈one++other,stD v=stD d/\bi kvs (stD d)=some v:=λd hd=>by
    rw[ek]
    exact pV _ _ ⟨d,zm d hd,rfl⟩
   have hL:ap (B0++[MO.dkt kvs]++[MO.lst ys]) (B0++[MO.dkt kvs]).length ys:=aq
   have pB:B0 <+: B0++[MO.dkt kvs]++[MO.lst ys]:=by rw[ABO];exact ABS _ _
   generalize B0++[MO.dkt kvs]++[MO.lst ys]=B2 at gm hL pB
   generalize (B0++[MO.dkt kvs]).length=q at hL
   subst ey
   have zl:zs.length<=40:=by rw[hp.length_eq];exact lj
   refine db (λs=>(bi kvs s).getD .non) (λS=>∃a,S=[a,some (.ref B0.length)]) hL _ _ _ ?_ ⟨_,rfl⟩ (by rw[AAY,AA6];exact az (by lia)) ?_
   ·rintro s hs S ⟨a,rfl⟩
    refine⟨[some s,some (.ref B0.length)],⟨_,rfl⟩,λY hY=>?_⟩
    obtain⟨d,hd,rfl⟩:=AAF.mp hs
    obtain⟨v,_,_,g⟩:=gv d hd
    rw[g]at hY
    obtain⟨t,hd',num,act,rfl,⟨z,i,rfl⟩,_⟩:=zd d hd
    walk_at "dl"
    exact⟨kvs,v,gm,rfl,g,hY⟩
   ·rw[AAr,ABE]
    have gd:∀d∈zs,dg ((bi kvs (stD d)).getD .non)/\eqD [] eqN d ((bi kvs (stD d)).getD .non)=true:=λd hd=>by
     obtain⟨v,hv,e,g⟩:=gv d hd
     rw[g]
     exact⟨k.deed hv,k.same (zm d hd) hv e.symm⟩
    refine⟨_,aq,⟨yE zd,yE λx hx=>?_⟩,?_⟩
    ·obtain⟨d,hd,rfl⟩:=AAF.mp hx
     exact(gd d hd).1
    have ee:∀N:Mem,eqD N eqN (.tup zs) (.tup (zs.map ((λs=>(bi kvs s).getD .non) ∘ stD)))=true:=λN=>by
     show eqL (eqD N 29) zs _=true
     exact vO λd hd=>(oB 6 29 eqN d _ (by decide) (by decide) (bD (zd d hd))).trans (gd d hd).2
    rw[ee]
    exact bZ (h _ _ (pB.trans jD))
  ·have:=z.1
   rw[k.no]at this
   exact nomatch this
 ·rintro d ds S M' ⟨kvs,y9,rfl,ek,dd,hl,rfl⟩ G hG
  refine⟨trivial,?_⟩
  have pl:=cb (kvs:=kvs) (k:=stD d) (d:=d)
  rw[AAG]at hl
  have ek':nB (ck kvs (stD d) d) ds=nB [] (one++other):=ek
  obtain⟨t,hd',num,act,rfl,⟨z,i,rfl⟩,_⟩:=dd d (by simp)
  walk_at "dl"
  refine⟨kvs,ak,rfl,aF (by lia),Fgt.now (hG _ _ ⟨_,_,?_,ek',λx hx=>dd x (AA9 _ hx),by lia,rfl⟩)⟩
  exact jz
theorem CB:WpT AR 10 CM:=by
 rintro ds M R ⟨ns,mo,h63,⟨hmo,hml⟩,rfl,rfl,h⟩
 have hL0:∀L:Mem,ap ([mo]++L) 0 (ns.map D.int):=λL=>by
  have:=lM (M:=[mo]++L) (n:=0) (mo:=mo) rfl hml
  rw[hmo]at this
  exact this
 simp only[CM]
 walk_at "dl"
 refine⟨0,ns,0,rfl,hL0 [],_,1,rfl,by decide,by decide,λi=>?_⟩
 refine⟨1,i,rfl,rfl,λps rs B hw wm=>?_⟩
 simp only[sT]
 walk_at "dl"
 have l0:ap B 0 (ns.map D.int):=CF wm (by decide) (hL0 [ao i])
 refine⟨0,ns,2,40,rfl,l0,by lia,by decide,by decide,λws C pC w100 hws=>?_⟩
 obtain⟨p,ps,rfl⟩:∃p qs,ps=p::qs:=by
  cases ps with
  | nil=>have:=hw.len.1;simp at this
  | cons p qs=>exact⟨p,qs,rfl⟩
 have few:Few (p::ps):=⟨hw.len.2,λq hq=>⟨by have:=hw.many q hq;lia,(hw.many q hq).2⟩⟩
 have h1:1<=(ah (p::ps)).length:=by
  have:=(hw.many p (by simp)).1
  rw[ah,List.flatMap_cons,AAC,dU]
  lia
 have h8:∀q∈p::ps,q.1.length<=8:=λq hq=>(hw.nm q hq).2.1
 have lC:ap (C++[.lst (ws.map .ref)]) 0 (ns.map D.int):=AG (pC.trans jD) l0
 have bl:=l0.lt
 have w0:0∉ws:=λz=>by have:=(hws 0 z).1;lia
 refine⟨C.length,ws,p,ps,rs,[],rfl,aq,λz=>?_,λw hm=>?_,w100,few,h1,h8,hw.rl.1,hw.rl.2,λlog D1 ok kp=>?_⟩
 ·obtain⟨_,c,hc⟩:=hws _ z
  have:=aO hc
  lia
 ·obtain⟨_,c,hc⟩:=hws w hm
  exact⟨c,ae hc⟩
 have l1:=kp.lst w0 lC
 have on:=ok.n
 simp only[sS]
 walk_at "dl"
 refine⟨0,ns,1,rfl,l1,_,2,rfl,by decide,by decide,λi=>?_⟩
 have hn:(D1++[ao i])[D1.length]?=some (ao i):=ak
 generalize D1++[ao i]=B0 at hn
 generalize D1.length=w at hn
 simp only[sR]
 walk_at "dl"
 refine⟨w,i,p::ps,_,log,rfl,hn,few,on,ok.h,λa B1 wm1=>?_⟩
 obtain⟨c1,hc1⟩:=wm1.get hn
 simp only[sQ]
 walk_at "dl"
 refine⟨w,c1,p::ps,_,log,rfl,hc1,few,on,ok.h,λb B2 wm2=>?_⟩
 obtain⟨c2,hc2⟩:=wm2.get hc1
 have oa:=zq (c:=a) on
 refine⟨w,c2,p,ps,rs,[],jk b log,rfl,hc2,few,h1,h8,hw.rl.1,hw.rl.2,zq on,λother B3 o2 sp wm3=>?_⟩
 have j12:(cq (jk a log) other).length<=40:=qk on (ADD _) sp
 have j21:(cq other (jk a log)).length<=40:=qk on sp (ADD _)
 generalize jk a log=one at oa j12 j21
 simp only[sP]
 walk_at "dl"
 refine⟨one,other,rfl,oa,o2,λys hp up=>?_⟩
 have gd:(B3++[MO.lst ys])[B3.length]?=some (.lst ys):=ak
 generalize B3++[MO.lst ys]=B4 at gd
 generalize B3.length=k at gd
 have pl:=gw (other:=other) oa
 have hys:∀y∈ys,PlH y:=λy hy=>pl y (hp.mem_iff.mp hy)
 simp only[sO]
 walk_at "dl"
 refine⟨⟨by decide,by decide⟩,?_⟩
 refine bc (λi S M'=>∃y7 y8 y9,M'[k]?=some (.lst ys)/\S=[some (.ref 0),some (vA (p::ps) rs),some (.tup log),some (.ref w),some (.tup one),some (.tup other),some (.ref k),y7,y8,y9]) ?_ ?_ ⟨_,_,_,gd,rfl⟩
 ·rintro S M' ⟨y7,y8,y9,g,rfl⟩
  refine⟨trivial,?_⟩
  simp only[pL]
  walk_at "dl"
  exact .inl (h _)
 ·rintro i y S M' hy ⟨y7,y8,y9,g,rfl⟩ G hG
  refine⟨trivial,?_⟩
  walk_at "dl"
  have nf:=gi (M:=M') (n:=k) (.inl g) λx hx=>by
   obtain⟨z,i,j,rfl⟩:=hys x hx
   rfl
  refine⟨AAV _,nf.1,?_⟩
  rw[nf.2]
  have g1:=ae (a:=MO.lst []) g
  generalize M'++[MO.lst []]=B5 at g1
  cases ys with
  | nil =>
   have k12:Like one other:=⟨oa,o2,hp.symm.eq_nil⟩
   refine cM (law_7 k12 j12 λy9 B pB=>Eg oa o2 (Fgt.now (hG _ _ ⟨_,_,_,?_,rfl⟩)))
   obtain⟨L,rfl⟩:=pB
   rw[AAJ (aO g1)];exact g1
  | cons y0 ys =>
   have l12:ki (dZ one other) y0:=qS pl hp up
   have l21:ki (dZ other one) y0:=⟨yD o2 l12.1,λq hq=>l12.2 q (yD oa hq)⟩
   refine bZ ⟨_,.inl g1,?_⟩
   rw[at0]
   refine⟨one,other,y0,rfl,oa,o2,j12,l12,bZ ⟨_,.inl g1,?_⟩⟩
   rw[at0]
   refine⟨other,one,y0,rfl,o2,oa,j21,l21,bZ ?_⟩
   exact Eg oa o2 (Fgt.now (hG _ _ ⟨_,_,_,g1,rfl⟩))
theorem ok_law(T:Tops P w K mg base)(F:Fun K "law" "law" (top 46) f fd):FnOk P w K mg base CX0 6 f fd An (spL K AR) :=
 xY (N:=["_law_script","_law_house_here","_law_log_here","_law_well_here","_law_one","_law_other","_law_due_here","_law_turn","_law_whole","_law_deed"]) T.b F (by walk_at "sc") AL (by have:=(dH T).nev;have:=jc T;have:=Au T;have:=xi T;have:=xj T;have:=DR T;have:=Av T;have:=rh T;have:=DU T;have:=re T;walk_at "dv") CB
end
end LW
namespace PySem.W.Fast
def tw10027143880651435672:=Nat
def tw10069871746887144564:=Nat
def tw10074285539366996723:=Nat
def tw10128672186582259448:=Nat
def tw10185095093285960713:=Nat
def tw10205957163629539067:=Nat
def tw10232691245141141939:=Nat
def tw10324127809176171607:=Nat
def tw10330153388678148506:=Nat
def tw10345212345038513867:=Nat
def tw10423042930341006311:=Nat
def tw10469895182499953003:=Nat
def tw10475189007602845464:=Nat
def tw10555384538439038899:=Nat
def tw10593551681326599974:=Nat
def tw10663938538881545522:=Nat
def tw10697530093060591316:=Nat
def tw10699528111259026355:=Nat
def tw10702992679336556317:=Nat
def tw10771635800024820013:=Nat
def tw10875910996961620854:=Nat
def tw10894184090732894266:=Nat
def tw10979063314017039837:=Nat
def tw11192387775912745198:=Nat
def tw11251125352106648283:=Nat
def tw11279611293543576299:=Nat
def tw1129173048956226565:=Nat
def tw11313668038754695141:=Nat
def tw11417133366444418859:=Nat
def tw11429390037253585272:=Nat
def tw11462565835867221263:=Nat
def tw11596944206310385752:=Nat
def tw11650601055524208032:=Nat
def tw11801867452579468055:=Nat
def tw11868211594446765842:=Nat
def tw11888767330652129035:=Nat
def tw1191122807522306502:=Nat
def tw12000807866319701803:=Nat
def tw12044706429002793124:=Nat
def tw12056850029606688668:=Nat
def tw12174224226531208294:=Nat
def tw12361440410568336664:=Nat
def tw12432312167928273139:=Nat
def tw12518838949110621533:=Nat
def tw12581057663965961184:=Nat
def tw12625506969053641618:=Nat
def tw12631932050111965082:=Nat
def tw12690692009793702999:=Nat
def tw12763466744631099387:=Nat
def tw12890461538480059301:=Nat
def tw12891954267538063780:=Nat
def tw12973712779675878561:=Nat
def tw13167103841002241107:=Nat
def tw13193453425561857793:=Nat
def tw13224318742778911843:=Nat
def tw13247514508458979699:=Nat
def tw13321839547162545734:=Nat
def tw13356775839016301507:=Nat
def tw13365670759439948176:=Nat
def tw13449948615837929900:=Nat
def tw13452621528930013662:=Nat
def tw13584770624604593432:=Nat
def tw13629442689538700140:=Nat
def tw13752808544853424989:=Nat
def tw13894324756094986322:=Nat
def tw13895355246024377584:=Nat
def tw13920773973297493426:=Nat
def tw13937347449175992790:=Nat
def tw13956198059372472726:=Nat
def tw14057448266693063053:=Nat
def tw14225812625211704093:=Nat
def tw14241329869484234883:=Nat
def tw14338626067692076930:=Nat
def tw14385513050721323239:=Nat
def tw14410101086297011030:=Nat
def tw14549176721258315323:=Nat
def tw14560595060944154176:=Nat
def tw14676225734666629441:=Nat
def tw14771927495283007025:=Nat
def tw15106007085871024428:=Nat
def tw15182862077498489276:=Nat
def tw15516879431899025359:=Nat
def tw15573390166597517795:=Nat
def tw15732321275074328434:=Nat
def tw15747830477835894690:=Nat
def tw1576659919517097888:=Nat
def tw15782065874397640925:=Nat
def tw15965240222977781581:=Nat
def tw16011738881527443409:=Nat
def tw16072583617599314070:=Nat
def tw16091660744079602140:=Nat
def tw16153042684279955309:=Nat
def tw16167682937510715777:=Nat
def tw16232478943605147133:=Nat
def tw16243029515857304899:=Nat
def tw16340827718213633305:=Nat
def tw16412856234169824793:=Nat
def tw16466819560201187790:=Nat
def tw16606988610862926082:=Nat
def tw16646283283577383119:=Nat
def tw16648776915447694134:=Nat
def tw16771482808226333624:=Nat
def tw16773973510544386163:=Nat
def tw16796623001659744121:=Nat
def tw16805563152056170040:=Nat
def tw16842433378464030423:=Nat
def tw16874809784261423350:=Nat
def tw16904050294264911743:=Nat
def tw16983421018990301:=Nat
def tw17062376062549839565:=Nat
def tw17080418579248721801:=Nat
def tw17161273878437888262:=Nat
def tw17222449304163093077:=Nat
def tw17228206207526607580:=Nat
def tw17229009919412595723:=Nat
def tw17264032297255023691:=Nat
def tw17681849568486973085:=Nat
def tw17687340386635338300:=Nat
def tw17871902763139684214:=Nat
def tw17889806281879832555:=Nat
def tw17904371290521533111:=Nat
def tw18204012504244956849:=Nat
def tw1821957685467879273:=Nat
def tw183834321389490922:=Nat
def tw1945330587515308674:=Nat
def tw2021215589327408654:=Nat
def tw2067475321373884758:=Nat
def tw2086916699493595125:=Nat
def tw2134664713577692996:=Nat
def tw2217106861690761482:=Nat
def tw2283540921793571540:=Nat
def tw2423148700649618769:=Nat
def tw2587594121228214325:=Nat
def tw2613554925075964302:=Nat
def tw2671646519764331103:=Nat
def tw2684353056913870743:=Nat
def tw2780733728304799142:=Nat
def tw2921047326669514038:=Nat
def tw2981702545727686757:=Nat
def tw3065505723258099229:=Nat
def tw307371165359768626:=Nat
def tw3091231041883536790:=Nat
def tw3117549832793504217:=Nat
def tw3530315030949603229:=Nat
def tw3579159477872121967:=Nat
def tw3690892739405418240:=Nat
def tw3724455267257164106:=Nat
def tw3730605915931786422:=Nat
def tw3770422604320439443:=Nat
def tw3774926963945748551:=Nat
def tw378326773364373990:=Nat
def tw3806062979982537602:=Nat
def tw3808896954918982731:=Nat
def tw3829407513111686860:=Nat
def tw3833872687008328681:=Nat
def tw3877284041568504587:=Nat
def tw3878531671581913507:=Nat
def tw3978708265084482472:=Nat
def tw4046865308150024516:=Nat
def tw4071931300624475832:=Nat
def tw4171736356538013214:=Nat
def tw4262204005991045995:=Nat
def tw4263725024370508486:=Nat
def tw4294489690690120797:=Nat
def tw4299794819422713273:=Nat
def tw4410837799141649725:=Nat
def tw456578012280635165:=Nat
def tw4623940377044509769:=Nat
def tw4640465870145275618:=Nat
def tw4770815736420662655:=Nat
def tw4801281053364446445:=Nat
def tw4882185715891187846:=Nat
def tw4884604531134422011:=Nat
def tw5046084625798388584:=Nat
def tw5118185754342295211:=Nat
def tw5127968491078373207:=Nat
def tw5129932105820287974:=Nat
def tw5130237180107434521:=Nat
def tw524660040660032738:=Nat
def tw5317955058666603571:=Nat
def tw5353824824300459607:=Nat
def tw5363627246718323173:=Nat
def tw5372740300001596578:=Nat
def tw5398864809962486892:=Nat
def tw5425105433733477325:=Nat
def tw5549250163793522077:=Nat
def tw5608195559313926739:=Nat
def tw5662357009392363181:=Nat
def tw5673702796100699558:=Nat
def tw5692652144802046194:=Nat
def tw584064967293876860:=Nat
def tw5855392824699374812:=Nat
def tw5930296110508273656:=Nat
def tw6088206297315722707:=Nat
def tw6144761043134561193:=Nat
def tw6166618719779205463:=Nat
def tw6167290066229927112:=Nat
def tw6180334966913413354:=Nat
def tw6259605734571240171:=Nat
def tw6378801670767063699:=Nat
def tw6406886896323114730:=Nat
def tw6463800646144679770:=Nat
def tw6565982512858815431:=Nat
def tw6583876033994285279:=Nat
def tw6592896045248931084:=Nat
def tw6601359468693907728:=Nat
def tw6643568013147546902:=Nat
def tw6765902005555230506:=Nat
def tw6791296219484342771:=Nat
def tw6811825891444436681:=Nat
def tw7023247840460392470:=Nat
def tw7127407477711388337:=Nat
def tw7160628270792453334:=Nat
def tw7302081328892559273:=Nat
def tw7369894058473811182:=Nat
def tw7389946006019176309:=Nat
def tw7425230849051785836:=Nat
def tw7445596425788106219:=Nat
def tw7567093460851540735:=Nat
def tw7602587174406242110:=Nat
def tw7644376086895981023:=Nat
def tw7705376814672142716:=Nat
def tw7780945842570585825:=Nat
def tw7832251734598837817:=Nat
def tw7964498059802915309:=Nat
def tw7984144658577557386:=Nat
def tw8083327846314548184:=Nat
def tw8136296740030622577:=Nat
def tw8285975202145774919:=Nat
def tw8692073990788412018:=Nat
def tw8711711020619790621:=Nat
def tw8767306144918241611:=Nat
def tw8790554420421557156:=Nat
def tw8811096868066332466:=Nat
def tw8828214159422353216:=Nat
def tw8877227131278098650:=Nat
def tw8888780402084367314:=Nat
def tw8914146593090005194:=Nat
def tw8977961655388989317:=Nat
def tw8990830195759045824:=Nat
def tw9008255360752349218:=Nat
def tw918626534449808874:=Nat
def tw9443417694647897296:=Nat
def tw9688985933232470523:=Nat
def tw9762902762325447196:=Nat
def tw9777716212529087878:=Nat
def tw977997630785048931:=Nat
def tw9845083874375050243:=Nat
def tw9904604493624005531:=Nat
def tw9954014836135271913:=Nat
end PySem.W.Fast
theorem L2.us1{P:List AEP->Prop}(h:∀a0,P [a0]):∀us:List AEP,us.length=1->P us
 | [a0],_=>h a0
theorem L2.us2{P:List AEP->Prop}(h:∀a0 a1,P [a0,a1]):∀us:List AEP,us.length=2->P us
 | [a0,a1],_=>h a0 a1
theorem L2.us3{P:List AEP->Prop}(h:∀a0 a1 a2,P [a0,a1,a2]):∀us:List AEP,us.length=3->P us
 | [a0,a1,a2],_=>h a0 a1 a2
local macro_rules | `(tactic| walk_at "fk")=>`(tactic| ((case a=>k_is);(case l=>k_is);(case c=>k_is);(case k=>k_is)))
local macro_rules | `(tactic| walk_at "f1")=>`(tactic| (refine' L2.fnat_mk (by assumption) (by assumption) ?a ?l ?c ?k (λ_ _ _ _ _ _=>L2.us1 (λ_=>rfl));walk_at "fk"))
local macro_rules | `(tactic| walk_at "f2")=>`(tactic| (refine' L2.fnat_mk (by assumption) (by assumption) ?a ?l ?c ?k (λ_ _ _ _ _ _=>L2.us2 (λ_ _=>rfl));walk_at "fk"))
local macro_rules | `(tactic| walk_at "f3")=>`(tactic| (refine' L2.fnat_mk (by assumption) (by assumption) ?a ?l ?c ?k (λ_ _ _ _ _ _=>L2.us3 (λ_ _ _=>rfl));walk_at "fk"))
open PySem PySem.W PyProof.Rows
set_option maxRecDepth 100000 in
set_option maxHeartbeats 0 in
theorem PySem.Challenge.cw_talkmarks_k16_logs_that_clash_holds : PySem.Challenge.rw_talkmarks_k16_logs_that_clash.Holds := by
 w_on; o_law; k_head; (case hw=>w_witness2)
 k_fill
 refine L2.law_walk (l:=PySem.Challenge.rw_talkmarks_k16_logs_that_clash) (k:=6) (st:=LW.top 46) (x:="_law_script") rfl rfl rfl ⟨rfl,by decide,by decide⟩ (fun w h Y=>PySem.W.kIn_of Y) ?F (fun _ _ _ _ _ _ _=>rfl)
 case F =>
  intro w mg h KX G
  have T:∀ P base,LW.Tops P w (L2.KOf KX) mg base:=by
   intro P base
   dsimp only [L2.KOf]
   constructor
   ·walk_at "f1"
   ·walk_at "f2"
   ·walk_at "f1"
   ·walk_at "f2"
   ·walk_at "f1"
   ·walk_at "f2"
   ·walk_at "f2"
   ·walk_at "f2"
   ·walk_at "f2"
   ·walk_at "f2"
   ·walk_at "f2"
   ·walk_at "f2"
   ·walk_at "f2"
   ·walk_at "f3"
   ·walk_at "f1"
   ·walk_at "f2"
   ·walk_at "f1"
   ·walk_at "f1"
   ·walk_at "f2"
   ·walk_at "f3"
   ·walk_at "f2"
   ·walk_at "f3"
   ·walk_at "f3"
   ·walk_at "f2"
   ·walk_at "f3"
   ·walk_at "f3"
   ·walk_at "f1"
   ·walk_at "f2"
   ·walk_at "f3"
   ·walk_at "f1"
   ·refine' L2.xiat_mk KX ?ca ?c0 ?cx ?cs ?c1 ?c2 ?cn ?xl ?cc ?ck (fun _ _ _ _ _ _=>L2.us3 (fun _ _ _=>rfl)); (case ca=>k_is); (case c0=>k_is); (case cs=>k_is); (case c1=>k_is); (case c2=>k_is); (case cn=>k_is); (case xl=>k_is); (case cc=>k_is); (case ck=>k_is); (case cx=>kernel_rfl)
   ·refine' L2.xfld_mk KX ?ca ?g1 ?g2 ?g3 ?g4 ?g5 ?ch ?cm; (case ca=>k_is); (case g1=>k_is); (case g2=>k_is); (case g3=>k_is); (case g4=>k_is); (case g5=>k_is); (case ch=>k_is); (case cm=>k_is)
   ·refine' L2.xfld_mk KX ?ca ?g1 ?g2 ?g3 ?g4 ?g5 ?ch ?cm; (case ca=>k_is); (case g1=>k_is); (case g2=>k_is); (case g3=>k_is); (case g4=>k_is); (case g5=>k_is); (case ch=>k_is); (case cm=>k_is)
   ·unfold LW.B_ LW.C_
    iterate 12 (refine' L2.TopB.b ?tq ?_; (case tq=>refine' PySem.W.mg_none_of KX G ?tr; (case tr=>k_is)))
    exact .nil
   ·kernel_rfl
  exact ⟨(T PySem.Challenge.pw_talkmarks_k16_logs_that_clash {}).f_law,fun base f fd F=>LW.ok_law (T _ base) F⟩
