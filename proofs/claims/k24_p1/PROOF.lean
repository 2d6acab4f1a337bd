import PyProof.Rows.All
import Wide.All
import OpenK.AllK
import Wide.FinOn
import Lean
import PyProof.EqAt
import PyProof.EqKinds
import PyProof.TupleCall
import PyProof.CompFree
import PyProof.NeKinds
import KE.KSortTup
import KE.KRevSl
import KE.KDictSum
import KE.KEqDict
import PyProof.Conv_int_bool
import PyProof.AttrMissHeap
import KE.KLam
import KE.KRevIter
import KE.KTryMore
import PyProof.ExcArgsOwn
import PySem.Challenge.RW_talkmarks_k24_no_such_room
open PySem renaming wpAny_bind->AA0,wpAny_pure->AA2,Spec->AAB,wpAny_holding->AAg,wpAny_mono->AAo,wpAny_newObj_type->AAr,wpAny_call_entry->AAv,wpAny_callSpecial?_slot->AB0,wpAny_setState_of->AB7,wpAny_forIn_list->ABD,mem_of_lookup->ABL,wpAny_Call_Name_kw->ABU,wpAny_ite_split->ABX,eqIsQuiet_byValue->ABk,wpAny_specialOf->ABm,codeAny_builtin->ABn,wpAny_dictEpoch->ABo,wpAny_rule->ABr,sizeLine_eq->ABt,wpAny_typeNameOfWhole_valiter->ABu,wpAny_askSetting->AC8,wpAny_attempt->ACE,wpAny_fieldsOf->ACJ,wpAny_setField->ACK,wpAny_execs_nil->ACN,wpAny_passesOwn->ACO,wpAny_dictEntries->ACS,wpAny_typeNameOf_valiter->ACT,codeAny_mono->ACU,wpAny_setEntries_of->ACY,Value->ACb,wpAny_isInstance->ACd,wpAny_callSpecialIfBoundUnlessNone?_slot->ACl,wpAny_newList->ACt,wpAny_seqItems->AD2,wpAny_pyHash_int->AD5,wpAny_pyHash_str->AD6,wpAny_typeOf->ADC,wpAny_loadPart'->ADI,wpAny_Call_method0_late->ADK,wpAny_Call_method_late->ADZ,wpAny_truthy_bool->ADa,wpAny_notOrdered_dict->ADo,wpAny_isOneOf_valiter->ADp,wpAny_execs_cons->ADq,plainId_quiet->ADr,evalArgs_none->ADu
open PySem.Str renaming ofString->AA1
open PySem.W renaming Frag->AA3,kitOne->AB8,kas_desc->ABs,keepIn->ABw,nsIn->ACD,findIn->ACH,fnOf->ACV,kas_rev->ACx,kas_place->AD1,hideAll->ADG,excIn->ADW,cellsFrom_some->ADX,kas_asc->ADc,kas_sort->ADj,kas_descPart->ADl,of_hideAll->AE7,codeIn->AEA,exmOne->AEE,methodObj->AEF,mg_of->AEK
open PySem.Heap renaming get?_push_of_some->AA4,get?_push_size->AAE,lt_size->AAH,get?_update_self->AAi,size_push->ABN,get?_update_other->ABf,get?_update_ne->ABj,SameBut->ACB,MadeExcOf->AED
open List renaming getElem?_eq_getElem->AA5,length_map->AA6,getElem?_eq_some_iff->AA7,mem_cons_of_mem->AA9,length_append->AAA,size_toArray->AAC,mem_append_right->AAF,mem_cons_self->AAG,length_cons->AAI,mem_cons->AAK,getElem?_append_left->AAM,getD_eq_getElem?_getD->AAS,mem_map->AAU,getElem?_map->AAV,all_eq_true->AAW,length_singleton->AAX,getElem?_set_ne->AAZ,getElem?_set_self->AAa,prefix_append->AAb,getElem?_append_right->AAc,mem_append_left->AAd,mem_of_getElem?->AAe,map_cons->AAf,length_nil->AAj,mem_append->AAl,range->AAn,length_set->AAp,map_append->AAq,append_assoc->AAs,mem_range->AAu,length_take->AAz,cons_lt_cons_iff->AB1,getElem_mem->AB4,nil_append->AB6,getElem?_eq_none->AB9,append_nil->ABC,lt_irrefl->ABF,map_map->ABG,getElem?_of_mem->ABH,all_cons->ABI,getElem?_take_of_lt->ABJ,mem_filter->ABK,mem_map_of_mem->ABM,filterMap_cons->ABT,nodup_cons->ABV,length_drop->ABb,lookup_cons->ABc,toArray->ABd,nodup_iff_pairwise_ne->ABe,getElem?_cons_succ->ABv,length->AC1,prefix_rfl->AC2,getElem_map->AC7,filter_cons->AC9,mem_filterMap->ACC,mem_singleton->ACG,nodup_append->ACR,getElem?_replicate->ACW,length_reverse->ACa,take_length->ACc,take_of_length_le->ACg,length_replicate->ACm,length_filter_le->ACo,length_range->ACv,pairwise_iff_getElem->AD3,any_eq_true->AD8,cons_append->AD9,zip_cons_cons->ADN,pairwise_singleton->ADP,getElem?_drop->ADQ,find?_cons->ADU,getElem?_cons_zero->ADV,ext_getElem?->ADd,pairwise_map->ADf,range'->ADg,take_add_one->ADh,replicate->ADi,nodup_nil->ADk,set_append_right->ADn,of_mem_zip->ADt,map_congr_left->ADz,map_id->AE0,find?_some->AE2,getD->AEH
open Nat renaming le_refl->AA8,ne_of_lt->AAL,lt_of_lt_of_le->AAR,zero_le->AAT,lt_irrefl->AAk,lt_succ_self->AAt,le_trans->AB3,lt_or_ge->ABR,not_lt_zero->ABW,lt_succ_of_lt->ABi,le_of_lt->ACA,not_lt->ACr,lt_trichotomy->ACs,le_add_right->AD7,sub_self->ADE,add_sub_cancel->ADS,le_succ->ADw
open Bool renaming false_eq_true->AAD,and_eq_true->AAO,eq_false_iff->ABP,false_ne_true->ABQ,not_true->ABY,or_eq_true->ADx,false_and->AE9,and_false->AEB
open Array renaming length_toList->AAJ,getElem?_toList->AAN,getElem?_eq_getElem->AAP,getElem?_eq_some_iff->AAh,getD_eq_getD_getElem?->AAx,forIn_toList->ABZ,getElem?_eq_none->AC4,getD->AC6
open Option.some renaming inj->AAQ
open PySem.SetTable renaming below->AAY,runEnd->AAm,bits->ABl,leap->ACF,Probe->ACL,grown->ACf,turns->AD4,fits->ADR,insertAt->ADe,sizeAbove->AE8,fill->AEM
open Classical renaming byContradiction->AAw,propDecidable->ABB
open PySem.Heap.SameBut renaming update->AAy
open PySem.Obj renaming mapSeq->AB2,data_mapDictKeys->ACy,mapFields->ADs,isFreed_of_dict->AE4,putSet->AEJ
open PyProof.Rows renaming slot_tuple_getitem->AB5,callWith_type1->AC0,get?_update_seq->ACQ,listUpdate_at->ACu,listItems_at->ADm,envOfC->AE5
open PySem.NameKind renaming free->ABA,cell->ACX
open PySem.Builtin.Tuple renaming tupleHashOf->ABE,tupleItemsOf->AC5,tupleExact->ACP
open Ne renaming symm->ABO
open PySem.Value renaming ref->ABS,none->ABp,type->ADA,builtin->ADT
open False renaming elim->ABa
open PySem.Calls renaming callWith_builtin->ABg,evalArgs_plain->ACw,spliced_cons->ADH,spliced_nil->ADb
open Option renaming map_eq_some_iff->ABh,isSome_iff_exists->ABq
open PySem.SeqAt renaming EqAt->ABx
open Int renaming toNat_natCast->ABy
open PySem.SetTable.below renaming go->ABz
open PySem.Builtin.List renaming listExtendWith->AC3,listTooLong->ADD,listLengthHint->AE1
open PySem.Builtin.Slice renaming slicePlaces->ACI,sliceAdjust->ACz,sliceApplied->AE6
open PySem.Around renaming under_plainId->ACM
open PySem.F renaming plainAttrs_dict->ACZ,slot_dict_get->ACn,args_tuple_add_2->ADB,slot_dict_values->ADF,entry_tuple_add->ADJ,slot_tuple_add->ADY
open List.Perm renaming refl->ACe,cons->AEC
open PySem.SetTable.layClean renaming free->ACh
open PySem.SeqAt.EqAt renaming int_str->ACi,str_int->ACj,int_int->ADL,str_str->ADM,same->ADy
open PySem.Builtin.Dict_items renaming ownsTuple->ACk
open PySem.Builtin.Str renaming strSliceIndices->ACp
open List.Pairwise renaming nil->ACq
open PySem.Txt renaming slice->AD0
open List.cons renaming injEq->ADO,inj->AEL
open ForInStep renaming yield->ADv
open PySem.Expr renaming Call->AE3
open True renaming intro->AEG
open PySem.SetTable.probe renaming go->AEI
set_option autoImplicit true
set_option relaxedAutoImplicit true
set_option compiler.extract_closed false
set_option Elab.async false
set_option linter.all false
set_option maxRecDepth 100000
-- CHANGE: your row's module here,as the last of these rows
theorem dF_{p:Prop}[Decidable p](h:¬p):decide p=false:=decide_eq_false h
theorem dT_{p:Prop}[Decidable p](h:p):decide p=true:=decide_eq_true h
theorem oT_{p:Prop}[Decidable p](h:decide p=true):p:=of_decide_eq_true h
namespace L2
open PySem PySem.Spec PyProof.Rows
noncomputable abbrev Key:=Sum Int Str
noncomputable def Dd:Key->Value->Bool
 | .inl k,v=>Value.isInt k v
 | .inr x,v=>Value.isStrOf x v
noncomputable def keyH(w:World):Key->Int
 | .inl k=>hashInt k
 | .inr x=>hashStr w x
theorem aQ:∀{k:Key}{v:Value},Dd k v=true->(∃i t,k=Sum.inl i/\v=Value.int i t)\/(∃x t,k=Sum.inr x/\v=Value.str x t)
 | .inl i,v,h=>by
  obtain⟨t,e⟩:=Value.isInt_shape (k:=i) (v:=v) h
  exact .inl ⟨i,t,rfl,e⟩
 | .inr x,v,h=>by
  obtain⟨t,e⟩:=Value.isStrOf_shape (x:=x) (v:=v) h
  exact .inr ⟨x,t,rfl,e⟩
theorem Dc(a b:Int):decide ((Sum.inl a:Key)=Sum.inl b)=(a==b):=by
 by_cases e:a=b
 ·subst e;simp
 ·have h:¬(Sum.inl a:Key)=Sum.inl b:=λq=>e (Sum.inl.inj q)
  rw[dF_ h]
  exact(beq_eq_false_iff_ne.mpr e).symm
theorem CZ(a b:Str):decide ((Sum.inr a:Key)=Sum.inr b)=decide (a=b):=by
 by_cases e:a=b
 ·subst e;simp
 ·have h:¬(Sum.inr a:Key)=Sum.inr b:=λq=>e (Sum.inr.inj q)
  rw[dF_ h,dF_ e]
theorem Db(a:Int)(b:Str):decide ((Sum.inl a:Key)=Sum.inr b)=false:=dF_ (λq=>nomatch q)
theorem Da(a:Str)(b:Int):decide ((Sum.inr a:Key)=Sum.inl b)=false:=dF_ (λq=>nomatch q)
noncomputable def uw(prog:Program)(w:World):PySem.KeyKind prog w Key where
 is:=Dd
 hash:=keyH w
 inj:=λv a b ha hb=>by
  rcases aQ ha with⟨i,t,rfl,rfl⟩|⟨x,t,rfl,rfl⟩
  ·rcases aQ hb with⟨j,u,rfl,e⟩|⟨y,u,rfl,e⟩
   ·injection e with e1 _;rw[e1]
   ·exact nomatch e
  ·rcases aQ hb with⟨j,u,rfl,e⟩|⟨y,u,rfl,e⟩
   ·exact nomatch e
   ·injection e with e1 _;rw[e1]
 byValue:=λk v h=>by
  rcases aQ h with⟨i,t,rfl,rfl⟩|⟨x,t,rfl,rfl⟩<;>rfl
 pyHash:=λhv h=>by
  rcases aQ hv with⟨i,t,rfl,rfl⟩|⟨x,t,rfl,rfl⟩
  ·exact AD5 h
  ·exact AD6 h
 eqBool:=λhu hv h=>by
  rcases aQ hu with⟨i,t,rfl,rfl⟩|⟨x,t,rfl,rfl⟩
  ·rcases aQ hv with⟨j,u,rfl,rfl⟩|⟨y,u,rfl,rfl⟩
   ·rw[Dc]at h;exact wpAny_eqBool_int h
   ·rw[Db]at h;exact ACi i t y u _ _ _ _ h
  ·rcases aQ hv with⟨j,u,rfl,rfl⟩|⟨y,u,rfl,rfl⟩
   ·rw[Da]at h;exact ACj x t j u _ _ _ _ h
   ·rw[CZ]at h;exact wpAny_eqBool_str h
 «strs»:=λk x t v h=>by
  rcases aQ h with⟨i,u,rfl,e⟩|⟨y,u,rfl,e⟩
  ·exact nomatch e
  ·injection e with e1 _
   subst e1
   cases v<;>rfl
inductive V where
 | non | bl (b:Bool) | int (i:Int) | str (x:Str) | byt (b:Array UInt8) | flt (b:UInt64) | ref (a:Addr) | ty (n:String)
 deriving DecidableEq
def aC:V->Value->Prop
 | .non,u=>u=ABp
 | .bl b,u=>u=Value.bool b
 | .int i,u=>∃t,u=Value.int i t
 | .str x,u=>∃t,u=Value.str x t
 | .byt b,u=>∃t,u=Value.bytes b t
 | .flt b,u=>∃t,u=Value.float b t
 | .ref a,u=>u=ABS a
 | .ty n,u=>u=ADA n
abbrev au:List V->List Value->Prop:=Paired aC
theorem au.length(r:au xs us):xs.length=us.length:=Paired.length r
theorem au.get:∀{xs:List V}{us:List Value}{i:Nat}{x:V},au xs us->xs[i]?=some x->∃u,us[i]?=some u/\aC x u
 | _,_,_,_,.nil,e=>by simp at e
 | _,_,0,_,.cons r _,e=>by simp at e;subst e;exact⟨_,rfl,r⟩
 | _,_,i+1,x,.cons _ t,e=>by
  obtain⟨u,h1,h2⟩:=au.get (i:=i) (x:=x) t (by simpa using e)
  exact⟨u,by simpa using h1,h2⟩
theorem au.set(r:aC x u):∀{xs:List V}{us:List Value} (i:Nat),au xs us->au (xs.set i x) (us.set i u)
 | _,_,_,.nil=>.nil
 | _,_,0,.cons _ t=>.cons r t
 | _,_,i+1,.cons q t=>.cons q (au.set r i t)
theorem au.append(h:au xs us)(s:au ys ws):au (xs++ys) (us++ws):=by
 induction h with
 | nil=>exact s
 | cons r t ih=>exact .cons r ih
theorem au.take:∀{xs:List V}{us:List Value} (n:Nat),au xs us->au (xs.take n) (us.take n)
 | _,_,0,_=>.nil
 | _,_,_+1,.nil=>.nil
 | _,_,n+1,.cons r t=>.cons r (au.take n t)
theorem au.drop:∀{xs:List V}{us:List Value} (n:Nat),au xs us->au (xs.drop n) (us.drop n)
 | _,_,0,r=>r
 | _,_,_+1,.nil=>.nil
 | _,_,n+1,.cons _ t=>au.drop n t
def RelO:Option V->Option Value->Prop
 | some v,some u=>aC v u
 | none,none=>True
 | _,_=>False
def KV{κ:Type}:List (κ×V)->List (κ×Value)->Prop:=Paired λ(p:κ×V) (q:κ×Value)=>p.1=q.1/\aC p.2 q.2
noncomputable def kV:Key->V
 | .inl i=>.int i
 | .inr x=>.str x
inductive HO where
 | lst (xs:List V)
 | tup (xs:List V)
 | dK (kvs:List (Key×V)) | dT (kvs:List (List Key×V))
 | set (S:Int->Bool) (n:Nat)
 | ins (C dx:Addr) (fs:List (Str×V))
 | own (x:Addr)
 | xd (fs:List (Str×V))
 | met (f x:Addr)
 | rng (lo hi:Int)
 | frz (o:Obj) (u:HO)
 | tbl (ps:Array Value)
 | ext (φ:Program->World->Heap->Prop)
abbrev Hp:=Addr->Option HO
noncomputable def upd(H:Hp)(a:Addr)(o:HO):Hp:=λb=>if b=a then some o else H b
theorem ay:upd H a o a=some o:=by unfold upd;rw[if_pos rfl]
theorem ag(h:b≠a):upd H a o b=H b:=by unfold upd;rw[if_neg h]
theorem wT{H:Hp}{a b:Addr}{o u:HO}(h:H a=some o)(h':H b=some u)(d:o≠u):a≠b:=by
 intro e;subst e;rw[h]at h';exact d (AAQ h')
theorem ae{H:Hp}{a b:Addr}{o:HO}(h:H a=some o)(h':H b=none):a≠b:=by
 intro e;subst e;rw[h]at h';cases h'
section
variable(P:Program)(w:World)
def yE(h:Heap)(a:Addr)(items:Array Value):Prop:=∃o,h.get? a=some o/\o.cls=.type "tuple"/\(∃n,o.data=.seq items n)/\o.dict=none
theorem yE.tup:yE h a items->IsTup h a items:=λ⟨o,e,c,⟨n,d⟩,_⟩=>⟨o,e,c,n,d⟩
theorem yE.new(h:Heap)(items:Array Value):yE (h.push { cls:=.type "tuple",data:=.seq items }) h.objs.size items:=⟨_,AAE _ rfl,rfl,⟨_,rfl⟩,rfl⟩
def bJ(H:Hp)(h:Heap)(a:Addr):HO->Prop
 | .lst xs=>xs.length<=sizeLine/\∃(its:List Value) (n:Nat),au xs its/\h.get? a=some { cls:=.type "list",data:=.seq its.toArray n }
 | .tup xs=>xs.length<=sizeLine/\∃its:List Value,au xs its/\yE h a its.toArray
 | .dK kvs=>kvs.length<=sizeLine/\(a==sysModules)=false/\∃vs,KV kvs vs/\h.DictOf (uw P w) a vs
 | .dT kvs=>kvs.length<=sizeLine/\(a==sysModules)=false/\∃xs:List (List Key×Addr×Value),
   Paired (λ(p:List Key×V) (q:List Key×Addr×Value)=>p.1=q.1/\H q.2.1=some (.tup (p.1.map kV))/\aC p.2 q.2.2) kvs xs /\
   ∃o es ep,h.get? a=some o/\o.ExactDict/\o.data=.dict es ep/\es.toList=xs.map (entryOfKey (tupleKind (uw P w)))/\(xs.map (·.1)).Nodup
 | .set S n=>h.SetOf (intKind P w) a S n
 | .ins C dx fs=>H dx=some (.own a)/\fs.length<=1000/\dx≠a/\h.get? a=some (PySem.W.instObj C dx) /\
   ∃mA,h.Ns1 dx mA/\(∀f,RelO (fs.lookup f) (mA f))/\PySem.Within mA (fs.map (·.1))
 | .own _=>∃o,h.get? a=some o
 | .xd fs=>∃mA,h.Ns1 a mA/\∀f,RelO (fs.lookup f) (mA f)
 | .rng lo hi=>∃t u v,h.get? a=some { cls:=.type "range",data:=.fields #[.int lo t,.int hi u,.int 1 v] }
 | .frz o u=>h.get? a=some o/\bJ H h a u
 | .tbl ps=>h.get? a=some { cls:=.none,data:=.fields ps }
 | .met f x=>h.get? a=some (AEF (.ref f) (.ref x))
 | .ext φ=>φ P w h/\(∃o,h.get? a=some o)/\∀h1 h2:Heap,φ P w h1->(∀o,h1.get? a=some o->h2.get? a=some o)->φ P w h2
def HOk(H:Hp)(h:Heap):Prop:=∀a o,H a=some o->bJ P w H h a o
end
section
variable{P:Program}{w:World}{H H':Hp}{h h':Heap}{a:Addr}{o:HO}
theorem bJ.lt(x:bJ P w H h a o):a<h.objs.size:=by
 cases o with
 | lst xs=>obtain⟨_,_,_,_,e⟩:=x;exact AAH e
 | tup xs=>obtain⟨_,_,_,p⟩:=x;exact p.tup.lt
 | dK kvs=>obtain⟨_,_,_,_,o,_,_,e,_⟩:=x;exact AAH e
 | dT kvs=>obtain⟨_,_,_,_,o,_,_,e,_⟩:=x;exact AAH e
 | set S n=>obtain⟨o,_,_,_,e,_⟩:=x;exact AAH e
 | ins C dx fs=>obtain⟨_,_,_,e,_⟩:=x;exact AAH e
 | own y=>obtain⟨_,e⟩:=x;exact AAH e
 | xd fs=>obtain⟨_,⟨_,_,_,e,_⟩,_⟩:=x;exact AAH e
 | rng lo hi=>obtain⟨_,_,_,e⟩:=x;exact AAH e
 | frz ob u=>obtain⟨e,_⟩:=x;exact AAH e
 | tbl ps=>exact AAH (show h.get? a=some _ from x)
 | met f y=>exact AAH (show h.get? a=some _ from x)
 | ext φ=>obtain⟨_,⟨_,e⟩,_⟩:=x;exact AAH e
theorem Paired.mapP{α β:Type}{F G:α->β->Prop}:∀{l₁:List α}{l₂:List β},Paired F l₁ l₂->(∀a b,F a b->G a b)->Paired G l₁ l₂
 | _,_,.nil,_=>.nil
 | _,_,.cons r t,f=>.cons (f _ _ r) (Paired.mapP t f)
theorem bJ.stay(x:bJ P w H h a o)(k:∀b u,(b=a\/H b=some (.own a))->h.get? b=some u->h'.get? b=some u)
  (ho:∀b,H b=some (.own a)->H' b=some (.own a)) (ht:∀b xs,H b=some (.tup xs)->H' b=some (.tup xs)):bJ P w H' h' a o:=by
 induction o with
 | lst xs=>obtain⟨z,its,n,r,e⟩:=x;exact⟨z,its,n,r,k _ _ (.inl rfl) e⟩
 | tup xs=>obtain⟨z,its,r,ob,e,c⟩:=x;exact⟨z,its,r,ob,k _ _ (.inl rfl) e,c⟩
 | dK kvs=>obtain⟨z,y,vs,r,ob,es,ep,e,c⟩:=x;exact⟨z,y,vs,r,ob,es,ep,k _ _ (.inl rfl) e,c⟩
 | dT kvs =>
  obtain⟨z,y,xs,r,ob,es,ep,e,c⟩:=x
  exact⟨z,y,xs,Paired.mapP r λp q z=>⟨z.1,ht _ _ z.2.1,z.2.2⟩,ob,es,ep,k _ _ (.inl rfl) e,c⟩
 | set S n=>obtain⟨ob,es,ep,t,e,c⟩:=x;exact⟨ob,es,ep,t,k _ _ (.inl rfl) e,c⟩
 | ins C dx fs =>
  obtain⟨d,z,ne,e,mA,⟨od,es,ep,e2,c⟩,r⟩:=x
  exact⟨ho _ d,z,ne,k _ _ (.inl rfl) e,mA,⟨od,es,ep,k _ _ (.inr d) e2,c⟩,r⟩
 | own y=>obtain⟨ob,e⟩:=x;exact⟨ob,k _ _ (.inl rfl) e⟩
 | xd fs=>obtain⟨mA,⟨od,es,ep,e,c⟩,r⟩:=x;exact⟨mA,⟨od,es,ep,k _ _ (.inl rfl) e,c⟩,r⟩
 | rng lo hi=>obtain⟨t,u,v,e⟩:=x;exact⟨t,u,v,k _ _ (.inl rfl) e⟩
 | frz ob u ih=>obtain⟨e,q⟩:=x;exact⟨k _ _ (.inl rfl) e,ih q⟩
 | tbl ps =>
  have e:h.get? a=some { cls:=.none,data:=.fields ps }:=x
  show h'.get? a=some { cls:=.none,data:=.fields ps }
  exact k a _ (.inl rfl) e
 | met f y =>
  have e:h.get? a=some (AEF (.ref f) (.ref y)):=x
  show h'.get? a=some (AEF (.ref f) (.ref y))
  exact k a _ (.inl rfl) e
 | ext φ=>obtain⟨p,⟨o,e⟩,st⟩:=x;exact⟨st _ _ p λo q=>k _ _ (.inl rfl) q,⟨o,k _ _ (.inl rfl) e⟩,st⟩
theorem HOk.lt(x:HOk P w H h)(e:H a=some o):a<h.objs.size:=(x a o e).lt
theorem HOk.fresh(x:HOk P w H h)(e:h.objs.size<=a):H a=none:=by
 cases q:H a with
 | none=>rfl
 | some u=>exact absurd (AAR (x.lt q) e) (AAk _)
theorem HOk.kept(x:HOk P w H h)(k:∀b u,h.get? b=some u->h'.get? b=some u):HOk P w H h':=λa o e =>
 (x a o e).stay (λb u _ q=>k b u q) (λ_ q=>q) λ_ _ q=>q
theorem HOk.laid(x:HOk P w H h)(k:∀b u,h.get? b=some u->h'.get? b=some u)(hp:h.objs.size<=a)(new:bJ P w (upd H a o) h' a o):HOk P w (upd H a o) h':=λb u e=>by
 have hn:=x.fresh hp
 by_cases hb:b=a
 ·subst hb;rw[ay]at e;cases e;exact new
 ·rw[ag hb]at e
  exact(x b u e).stay (λc v _ q=>k c v q) (λc q=>by rw[ag (ae q hn)];exact q) λc xs q=>by rw[ag (ae q hn)];exact q
end
def Rd(H:Hp)(a:Addr)(u:HO):Prop:=H a=some u\/∃o,H a=some (.frz o u)
theorem Rd.ok(r:Rd H a u)(x:HOk P w H h):bJ P w H h a u:=by
 rcases r with r | ⟨o,r⟩
 ·exact x a u r
 ·obtain⟨_,q⟩:=x a _ r
  exact q
def Mut:Option HO->Prop
 | some (.lst _)=>True
 | some (.dK _)=>True
 | some (.dT _)=>True
 | some (.set _ _)=>True
 | some (.ins _ _ _)=>True
 | some (.ext _)=>True
 | _=>False
section
variable{P:Program}{w:World}{H:Hp}{h h':Heap}{x e:Addr}{o':HO}
theorem HOk.write(ok:HOk P w H h)(mu:Mut (H x))(he:e=x\/H e=some (.own x))(k:∀b u,b≠e->h.get? b=some u->h'.get? b=some u)(heo:∃u,h'.get? e=some u)
  (new:bJ P w (upd H x o') h' x o'):HOk P w (upd H x o') h':=λb u q=>by
 have nown:∀c y,H c=some (.own y)->c≠x:=λc y r z=>by subst z;rw[r]at mu;exact mu
 have ntup:∀c xs,H c=some (.tup xs)->c≠x:=λc xs r z=>by subst z;rw[r]at mu;exact mu
 by_cases hb:b=x
 ·subst hb;rw[ay]at q;cases q;exact new
 ·rw[ag hb]at q
  by_cases hbe:b=e
  ·have q':H b=some (.own x):=by
    rcases he with z | z
    ·exact absurd (hbe.trans z) hb
    ·rw[hbe];exact z
   rw[q]at q';cases q'
   obtain⟨v,hv⟩:=heo
   exact⟨v,by rw[hbe];exact hv⟩
  ·refine(ok b u q).stay (λc v hc r=>k c v ?_ r) (λc r=>by rw[ag (nown c b r)];exact r) λc xs r=>by rw[ag (ntup c xs r)];exact r
   rcases hc with rfl | hc
   ·exact hbe
   ·rintro rfl
    rcases he with z | z
    ·exact nown c b hc z
    ·rw[hc]at z;cases z;exact hb rfl
end
structure Un(fs ex:List Addr)(H H':Hp)(h h':Heap):Prop where
 keep:∀b o,h.get? b=some o->H b=none->b∉fs->b∉ex->h'.get? b=some o
 slot:∀b o,h.get? b=some o->H b=none->b∈fs->b∉ex->∃sl,h'.get? b=some { o with slots:=sl }
 free:∀b o,h.get? b=some o->H b=none->b∉ex->H' b=none
 there:∀b o,h.get? b=some o->b∉ex->∃o',h'.get? b=some o'
 tups:∀b xs,H b=some (.tup xs)->H' b=some (.tup xs)
 frzs:∀b o u,H b=some (.frz o u)->H' b=some (.frz o u)
 tbls:∀b ps,H b=some (.tbl ps)->∃more,H' b=some (.tbl (ps++more))
section
variable{fs fs' ex ex':List Addr}{H H1 H2:Hp}{h h1 h2 h':Heap}{a x e:Addr}{o:HO}
theorem Un.any(u:Un fs ex H H1 h h1)(q:h.get? b=some ob)(n:H b=none)(hx:b∉ex):∃sl,h1.get? b=some { ob with slots:=sl }:=by
 by_cases hb:b∈fs
 ·exact u.slot b ob q n hb hx
 ·exact⟨ob.slots,u.keep b ob q n hb hx⟩
theorem Un.kept(k:∀b u,h.get? b=some u->h'.get? b=some u):Un fs ex H H h h' :=
 ⟨λb ob q _ _ _=>k b ob q,λb ob q _ _ _=>⟨ob.slots,k b ob q⟩,λ_ _ _ n _=>n,λb ob q _=>⟨ob,k b ob q⟩,λ_ _ q=>q,λ_ _ _ q=>q,λ_ ps q=>⟨#[],by rw[q];simp⟩⟩
theorem Un.refl:Un fs ex H H h h:=Un.kept λ_ _ q=>q
theorem Un.laid(k:∀b u,h.get? b=some u->h'.get? b=some u)(hp:h.objs.size<=a)(hn:H a=none):Un fs ex H (upd H a o) h h' where
 keep:=λb u q _ _ _=>k b u q
 slot:=λb u q _ _ _=>⟨u.slots,k b u q⟩
 free:=λb u q n _=>by rw[ag (AAL (AAR (AAH q) hp))];exact n
 there:=λb u q _=>⟨u,k b u q⟩
 tups:=λb xs q=>by rw[ag (ae q hn)];exact q
 frzs:=λb u xs q=>by rw[ag (ae q hn)];exact q
 tbls:=λb ps q=>⟨#[],by rw[ag (ae q hn),q];simp⟩
theorem Un.write(mu:Mut (H x))(he:e=x\/H e=some (.own x))(k:∀b u,b≠e->h.get? b=some u->h'.get? b=some u)(heo:∃u,h'.get? e=some u):Un fs ex H (upd H x o) h h':=by
 have hx:∀b,H b=none->b≠x:=λb n z=>by subst z;rw[n]at mu;exact mu
 have hb:∀b,H b=none->b≠e:=λb n z=>by
  subst z
  rcases he with r | r
  ·exact hx b n r
  ·rw[n]at r;cases r
 have hm:∀b u,H b=some u->¬Mut (some u)->b≠x:=λb u q nm z=>by subst z;rw[q]at mu;exact nm mu
 refine⟨λb u q n _ _=>k b u (hb b n) q,λb u q n _ _=>⟨u.slots,k b u (hb b n) q⟩,λb u q n _=>by rw[ag (hx b n)];exact n,λb u q _=>?_,
  λb xs q=>by rw[ag (hm b _ q λz=>z)];exact q,λb u xs q=>by rw[ag (hm b _ q λz=>z)];exact q,λb ps q=>⟨#[],by rw[ag (hm b _ q λz=>z),q];simp⟩⟩
 by_cases hbe:b=e
 ·subst hbe;exact heo
 ·exact⟨u,k b u hbe q⟩
end
noncomputable def trk(h:Heap)(H:Hp):List Addr:=(AAn h.objs.size).filter λa=>(H a).isSome
noncomputable def vY(h:Heap)(H:Hp):Heap:=ADG h (trk h H)
theorem vc(h:Heap)(H:Hp):(vY h H).objs.size=h.objs.size:=PySem.W.hideAll_size _ _
theorem xA(e:h.get? b=some o)(n:H b=none):(vY h H).get? b=some o :=
 PySem.W.hideAll_get _ e λhm=>by
  have q:(H b).isSome=true:=(ABK.mp hm).2
  rw[n]at q;simp at q
theorem zC(e:(vY h H).get? b=some o):h.get? b=some o/\H b=none:=by
 have e':h.get? b=some o:=AE7 (trk h H) e
 refine⟨e',?_⟩
 cases q:H b with
 | none=>rfl
 | some x =>
  have hm:b∈trk h H:=ABK.mpr ⟨AAu.mpr (AAH e'),by simp[q]⟩
  have z:(vY h H).get? b=none:=PySem.W.hideAll_none (trk h H) hm
  rw[z]at e;cases e
noncomputable def AS(g h:Heap)(L:Addr):List (Addr×Obj):=(AAn h.objs.size).filterMap λa=>if a=L\/(g.get? a).isSome=true then none else(h.get? a).map λo=>(a,o)
noncomputable def ax(g h:Heap)(L d:Addr):List (Addr×Obj):=(AS g h L).filter λp=>decide (p.1≠d)
structure Mod(K:AA3)(mg:Str->Option Value)(base:Heap):Prop where
 kin:K.In base
 glob:base.Ns mainGlobals mg
 blt:∃mb,base.Ns builtinsNs mb/\∀x:Str,x≠"__name__"->mb x=bootBuiltins x
 nolimit:base.NoLimit
/-- the context: a def's body (or a comprehension's block) running. base: fixed through the whole law;s₀,H₀: the entry;outer: the frames whose slots others may change (a def's callers);stack: all frames that run;
  ex: iterators that were made cT of the entry and are walked here (a comprehension's);fn: the names whose cells were made at the entry (a def: all;a comprehension's block: its own);calm: not Bk an except suite;pn: pins that every state bears;xe: what is wanted of an exception that leaves the code -/
structure Cx where
 prog:Program
 w:World
 K:AA3
 mg:Str->Option Value
 base:Heap
 A:Around
 N:List Str
 s₀:Shared
 H₀:Hp
 env:Env
 outer:List Env
 stack:List Env
 ex:List Addr
 fn:Str->Bool
 calm:Bool
 pn:List (Addr×Obj)
 xe:Value->Shared->Prop
noncomputable def frs(l:List Env):List Addr:=l.filterMap (·.frame)
noncomputable abbrev Cx.fs(X:Cx):List Addr:=frs X.outer
def Vis(sc:Scope)(x:Str):Prop:=sc.names.lookup x=some .local\/sc.names.lookup x=some .cell\/sc.names.lookup x=some .free
def Loc(sc:Scope)(x:Str):Prop:=sc.names.lookup x=some .local\/sc.names.lookup x=some .cell
def Look(env:Env)(h:Heap)(m:Str->Option Value)(x:Str)(u:Value):Prop :=
 (env.kindOf x=some .local/\m x=some u)\/((env.kindOf x=some .cell\/env.kindOf x=some .free)/\∃c,env.cells.lookup x=some c/\h.IsCell c (some u))
structure Cx.Ok(X:Cx):Prop where
 mod:Mod X.K X.mg X.base
 kind:X.env.scope.kind=.function
 glob:X.env.globals=mainGlobals
 blt:X.env.builtins=builtinsNs
 above:X.s₀.heap.objs.size<=X.env.locals
 inj:∀x y c,X.env.cells.lookup x=some c->X.env.cells.lookup y=some c->x=y
 has:∀x,(X.env.kindOf x=some .cell\/X.env.kindOf x=some .free)->∃c,X.env.cells.lookup x=some c
 cab:∀x c,X.fn x=true->X.env.cells.lookup x=some c->X.s₀.heap.objs.size<=c
 hd:X.calm=true->X.A.handled=none
 frames:X.A.frames=some X.stack
 stk:X.stack=X.outer\/(X.stack=X.env::X.outer/\X.env.frame=some X.env.locals)
 exf:∀b∈X.ex,b≠X.env.locals/\∀x c,X.env.cells.lookup x=some c->c≠b
 bs:∀b o,X.base.get? b=some o->X.s₀.heap.get? b=some o/\X.H₀ b=none
 bsz:X.base.objs.size<=X.s₀.heap.objs.size
 noex:∀b o,X.base.get? b=some o->b∉X.ex
 exfs:∀b∈X.ex,b∉X.fs
 funs:X.s₀.heap.FunFrames X.base X.outer
 frf:∀b∈X.fs,X.H₀ b=none
structure Inv(X:Cx)(pins:List (Addr×Obj))(σ:List (Option V))(H:Hp)(s:Shared):Prop where
 ok:X.Ok
 os:s.os=X.s₀.os
 bare:AllBare s.gens
 base:Un X.fs X.ex X.H₀ H X.s₀.heap s.heap
 loc:∃m,s.heap.Ns X.env.locals m/\∀(i:Nat) (x:Str) (v:V),X.N[i]?=some x->σ[i]?=some (some v)->Vis X.env.scope x->∃u,aC v u/\Look X.env s.heap m x u
 cell:∀x c,X.env.cells.lookup x=some c->∃v,s.heap.IsCell c v
 free:H X.env.locals=none
 freeC:∀x c,X.env.cells.lookup x=some c->H c=none
 pin:∀p∈X.pn++pins,s.heap.get? p.1=some p.2/\H p.1=none/\p.1≠X.env.locals/\p.1∉X.fs/\∀v,p.2.data≠.cell v
 hok:HOk X.prog X.w H s.heap
 len:σ.length=X.N.length
section
variable{X:Cx}{pins:List (Addr×Obj)}{σ:List (Option V)}{H H':Hp}{s:Shared}{h':Heap}
theorem Cx.Ok.nofr(ok:X.Ok)(e:X.base.get? b=some o):b∉X.fs:=λhb=>by
 have:=(ok.funs.mem hb).1
 rw[e]at this;cases this
theorem Inv.bs(I:Inv X pins σ H s):∀b o,X.base.get? b=some o->s.heap.get? b=some o/\H b=none:=λb o e =>
 ⟨I.base.keep b o (I.ok.bs b o e).1 (I.ok.bs b o e).2 (I.ok.nofr e) (I.ok.noex b o e),I.base.free b o (I.ok.bs b o e).1 (I.ok.bs b o e).2 (I.ok.noex b o e)⟩
theorem Inv.bk(I:Inv X pins σ H s):∀b o,X.base.get? b=some o->s.heap.get? b=some o:=λb o e=>(I.bs b o e).1
theorem Inv.mod(I:Inv X pins σ H s):Mod X.K X.mg X.base:=I.ok.mod
theorem Inv.kIn(I:Inv X pins σ H s):X.K.In s.heap:=I.ok.mod.kin.keeps I.bk
theorem Inv.lt(I:Inv X pins σ H s):X.env.locals<s.heap.objs.size:=let ⟨_,hn,_⟩:=I.loc;hn.lt
theorem Inv.sz(I:Inv X pins σ H s):X.s₀.heap.objs.size<=s.heap.objs.size:=AB3 I.ok.above (ACA I.lt)
theorem Inv.nofs(I:Inv X pins σ H s)(h:s.heap.objs.size<=a):a∉X.fs:=λhb=>by
 obtain⟨_,o,ho,_⟩:=I.ok.funs.mem hb
 exact absurd (AAR (AAH ho) (AB3 I.sz h)) (AAk _)
theorem Inv.cne(I:Inv X pins σ H s):∀x c,X.env.cells.lookup x=some c->c≠X.env.locals:=λx c e z=>by
 obtain⟨v,o,ho,hd⟩:=I.cell x c e
 obtain⟨m,⟨o',es,ep,ho',hd',_⟩,_⟩:=I.loc
 rw[z,ho']at ho;cases ho;rw[hd']at hd;cases hd
theorem Inv.funs(I:Inv X pins σ H s):s.heap.FunFrames X.base X.outer:=by
 have all:∀(l:List Env),(∀b∈frs l,b∈X.fs)->X.s₀.heap.FunFrames X.base l->s.heap.FunFrames X.base l:=by
  intro l
  induction l with
  | nil=>intro _ _;trivial
  | cons env r ih =>
   intro hs hl
   obtain⟨hk,⟨L,o,hf,hn,ho,hd⟩,hr⟩:=hl
   have hL:L∈X.fs:=hs L (by unfold frs;rw[ABT,hf];exact AAG)
   obtain⟨sl,e⟩:=I.base.slot L o ho (I.ok.frf L hL) hL λz=>I.ok.exfs L z hL
   exact⟨hk,⟨L,_,hf,hn,e,hd⟩,ih (λb hb=>hs b (by unfold frs;rw[ABT,hf];exact AA9 _ hb)) hr⟩
 exact all X.outer (λ_ hb=>hb) I.ok.funs
theorem Inv.stack(I:Inv X pins σ H s):s.heap.FunFrames X.base X.stack:=by
 rcases I.ok.stk with e | ⟨e,hf⟩
 ·rw[e];exact I.funs
 ·rw[e]
  obtain⟨m,hn,_⟩:=I.loc
  refine .cons (by rw[I.ok.kind];decide) hf hn ?_ I.funs
  exact Heap.get?_none_of_le (AB3 I.ok.bsz I.ok.above)
theorem Inv.stkSub(I:Inv X pins σ H s):∀b∈frs X.stack,b∈X.env.locals::X.fs:=λb hb=>by
 rcases I.ok.stk with e | ⟨e,hf⟩
 ·rw[e]at hb;exact AA9 _ hb
 ·rw[e]at hb
  unfold frs at hb
  rw[ABT,hf]at hb
  exact hb
theorem Inv.stkFree(I:Inv X pins σ H s):∀b∈frs X.stack,H b=none:=λb hb=>by
 rcases AAK.mp (I.stkSub b hb)with e | hb
 ·rw[e];exact I.free
 ·obtain⟨_,o,ho,_⟩:=I.ok.funs.mem hb
  exact I.base.free b o ho (I.ok.frf b hb) λz=>I.ok.exfs b z hb
theorem Inv.step{g':Array GenState}{t':Nat}{d':Drawn}{ch:List Addr}(I:Inv X pins σ H s)
  (hch:∀b∈ch,(b∈X.ex\/X.s₀.heap.objs.size<=b)/\b≠X.env.locals/\(∀x c,X.env.cells.lookup x=some c->c≠b)/\∀p∈X.pn++pins,p.1≠b)
  (keep:∀b o,b≠X.env.locals->b∉X.fs->b∉ch->s.heap.get? b=some o->H b=none->h'.get? b=some o)
  (slot:∀b o,b≠X.env.locals->b∈X.fs->b∉ch->s.heap.get? b=some o->H b=none->∃sl,h'.get? b=some { o with slots:=sl }) (free:∀b o,b∉ch->s.heap.get? b=some o->H b=none->H' b=none)
  (there:∀b o,b∉ch->s.heap.get? b=some o->∃o',h'.get? b=some o')
  (tups:∀b xs,H b=some (.tup xs)->H' b=some (.tup xs)) (frzs:∀b o u,H b=some (.frz o u)->H' b=some (.frz o u)) (tbls:∀b ps,H b=some (.tbl ps)->∃more,H' b=some (.tbl (ps++more)))
  (ns:∀m,s.heap.Ns X.env.locals m->h'.Ns X.env.locals m) (hok:HOk X.prog X.w H' h') (hg:AllBare g') :
  Inv X pins σ H' { s with heap:=h',gens:=g',drawn:=d',toks:=t' }:=by
 have neL:∀b o,X.s₀.heap.get? b=some o->b≠X.env.locals:=λb o e=>AAL (AAR (AAH e) I.ok.above)
 have neC:∀b o,X.s₀.heap.get? b=some o->b∉X.ex->b∉ch:=λb o e hx hb=>by
  rcases(hch b hb).1 with z | z
  ·exact hx z
  ·exact absurd (AAR (AAH e) z) (AAk _)
 have cellK:∀x c,X.env.cells.lookup x=some c->∀v,s.heap.IsCell c v->h'.IsCell c v:=λx c e v ⟨o,ho,hd⟩=>by
  have nch:c∉ch:=λz=>(hch c z).2.2.1 x c e rfl
  by_cases hc:c∈X.fs
  ·obtain⟨sl,q⟩:=slot c o (I.cne x c e) hc nch ho (I.freeC x c e)
   exact⟨_,q,hd⟩
  ·exact⟨o,keep c o (I.cne x c e) hc nch ho (I.freeC x c e),hd⟩
 refine⟨I.ok,I.os,hg,⟨λb o e n hb hx=>?_,λb o e n hb hx=>?_,λb o e n hx=>?_,λb o e hx=>?_,λb xs e=>tups b xs (I.base.tups b xs e),λb o xs e=>frzs b o xs (I.base.frzs b o xs e),λb ps e=>?_⟩,?_,λx c e=>?_,?_,λx c e=>?_,λp hp=>?_,hok,I.len⟩
 ·exact keep b o (neL b o e) hb (neC b o e hx) (I.base.keep b o e n hb hx) (I.base.free b o e n hx)
 ·obtain⟨sl,e1⟩:=I.base.slot b o e n hb hx
  obtain⟨sl',e2⟩:=slot b _ (neL b o e) hb (neC b o e hx) e1 (I.base.free b o e n hx)
  exact⟨sl',e2⟩
 ·obtain⟨o',e1⟩:=I.base.there b o e hx
  exact free b o' (neC b o e hx) e1 (I.base.free b o e n hx)
 ·obtain⟨o',e1⟩:=I.base.there b o e hx
  exact there b o' (neC b o e hx) e1
 ·obtain⟨m1,e1⟩:=I.base.tbls b ps e
  obtain⟨m2,e2⟩:=tbls b _ e1
  exact⟨m1++m2,by rw[e2,Array.append_assoc]⟩
 ·obtain⟨m,hn,hl⟩:=I.loc
  refine⟨m,ns m hn,λi x v e1 e2 e3=>?_⟩
  obtain⟨u,r,l⟩:=hl i x v e1 e2 e3
  refine⟨u,r,?_⟩
  rcases l with l | ⟨k,c,e,z⟩
  ·exact .inl l
  ·exact .inr ⟨k,c,e,cellK x c e _ z⟩
 ·obtain⟨v,z⟩:=I.cell x c e
  exact⟨v,cellK x c e v z⟩
 ·obtain⟨m,⟨o,_,_,ho,_⟩,_⟩:=I.loc
  exact free _ o (λz=>(hch _ z).2.1 rfl) ho I.free
 ·obtain⟨v,o,ho,hd⟩:=I.cell x c e
  exact free c o (λz=>(hch c z).2.2.1 x c e rfl) ho (I.freeC x c e)
 ·obtain⟨e,n,ne,nf,d⟩:=I.pin p hp
  have nch:p.1∉ch:=λz=>(hch p.1 z).2.2.2 p hp rfl
  exact⟨keep p.1 p.2 ne nf nch e n,free p.1 p.2 nch e n,ne,nf,d⟩
theorem Inv.un{t':Nat}(I:Inv X pins σ H s)(u:Un X.fs [] H H' s.heap h')(hok:HOk X.prog X.w H' h'):Inv X pins σ H' { s with heap:=h',toks:=t' }:=by
 obtain⟨m,⟨o,es,ep,ho,r⟩,_⟩:=id I.loc
 obtain⟨sl,hL⟩:=u.any ho I.free (by simp)
 exact I.step (g':=s.gens) (d':=s.drawn) (ch:=[]) (λ_ z=>nomatch z) (λb o _ hb _ e n=>u.keep b o e n hb (by simp)) (λb o _ hb _ e n=>u.slot b o e n hb (by simp)) (λb o _ e n=>u.free b o e n (by simp)) (λb o _ e=>u.there b o e (by simp)) u.tups u.frzs u.tbls (λm' hm=>by
  obtain⟨o',es',ep',ho',r'⟩:=hm
  rw[ho]at ho';cases ho'
  exact⟨_,es',ep',hL,r'⟩) hok I.bare
theorem Inv.call{g':Array GenState}{t':Nat}{d':Drawn}{ch:List Addr}(I:Inv X pins σ H s)(u:Un (frs X.stack) ch H H' s.heap h')(hok:HOk X.prog X.w H' h')(hg:AllBare g')
  (hch:∀b∈ch,(b∈X.ex\/X.s₀.heap.objs.size<=b)/\b≠X.env.locals/\(∀x c,X.env.cells.lookup x=some c->c≠b)/\∀p∈X.pn++pins,p.1≠b) :
  Inv X pins σ H' { s with heap:=h',gens:=g',drawn:=d',toks:=t' }:=by
 obtain⟨m,⟨o,es,ep,ho,r⟩,_⟩:=id I.loc
 obtain⟨sl,hL⟩:=u.any ho I.free λz=>(hch _ z).2.1 rfl
 exact I.step (ch:=ch) hch (λb o hL hb hc e n=>u.keep b o e n (λz=>(AAK.mp (I.stkSub b z)).elim hL hb) hc) (λb o _ _ hc e n=>u.any e n hc) (λb o hc e n=>u.free b o e n hc) (λb o hc e=>u.there b o e hc) u.tups u.frzs u.tbls (λm' hm=>by
  obtain⟨o',es',ep',ho',r'⟩:=hm
  rw[ho]at ho';cases ho'
  exact⟨_,es',ep',hL,r'⟩) hok hg
theorem Inv.turned{t':Nat}{it:Addr}(I:Inv X pins σ H s)(k:∀b o,b≠it->s.heap.get? b=some o->h'.get? b=some o)(hn:H it=none)(hL:it≠X.env.locals)
  (h1:it∈X.ex\/X.s₀.heap.objs.size<=it) (h2:∀x c,X.env.cells.lookup x=some c->c≠it) (h3:∀p∈X.pn++pins,p.1≠it):Inv X pins σ H { s with heap:=h',toks:=t' }:=by
 have nit:∀b u,H b=some u->b≠it:=λb u e z=>by rw[z,hn]at e;cases e
 refine I.step (g':=s.gens) (d':=s.drawn) (ch:=[it]) (λb hb=>?_) (λb o _ _ hc e _=>k b o (λz=>hc (by simp[z])) e) (λb o _ _ hc e _=>⟨o.slots,k b o (λz=>hc (by simp[z])) e⟩) (λ_ _ _ _ n=>n)
  (λb o hc e=>⟨o,k b o (λz=>hc (by simp[z])) e⟩) (λ_ _ e=>e) (λ_ _ _ e=>e) (λb ps e=>⟨#[],by rw[e];simp⟩) (λm hm=>?_) (λb u e=>?_) I.bare
 ·have e:b=it:=by simpa using hb
  subst e
  exact⟨h1,hL,h2,h3⟩
 ·obtain⟨o,es,ep,ho,r⟩:=hm
  exact⟨o,es,ep,k _ o (ABO hL) ho,r⟩
 ·refine(I.hok b u e).stay (λc v hc q=>k c v ?_ q) (λ_ q=>q) λ_ _ q=>q
  rcases hc with z | z
  ·rw[z];exact nit b u e
  ·exact nit c _ z
theorem Inv.tok(I:Inv X pins σ H s)(t:Nat):Inv X pins σ H { s with toks:=t }:=I.un (h':=s.heap) (t':=t) Un.refl I.hok
theorem Inv.kept(I:Inv X pins σ H s)(k:∀b u,s.heap.get? b=some u->h'.get? b=some u):Inv X pins σ H { s with heap:=h',toks:=t' }:=I.un (Un.kept k) (I.hok.kept k)
theorem Inv.laid(I:Inv X pins σ H s)(k:∀b u,s.heap.get? b=some u->h'.get? b=some u)(hp:s.heap.objs.size<=a)(new:bJ X.prog X.w (upd H a o) h' a o) :
  Inv X pins σ (upd H a o) { s with heap:=h',toks:=t' }:=I.un (Un.laid k hp (I.hok.fresh hp)) (I.hok.laid k hp new)
theorem Inv.write(I:Inv X pins σ H s)(mu:Mut (H x))(he:e=x\/H e=some (.own x))(k:∀b u,b≠e->s.heap.get? b=some u->h'.get? b=some u)(heo:∃u,h'.get? e=some u)
  (new:bJ X.prog X.w (upd H x o) h' x o):Inv X pins σ (upd H x o) { s with heap:=h',toks:=t' }:=I.un (Un.write mu he k heo) (I.hok.write mu he k heo new)
theorem Inv.pins_of(I:Inv X pins σ H s)(h:∀p∈pins',s.heap.get? p.1=some p.2/\H p.1=none/\p.1≠X.env.locals/\p.1∉X.fs/\∀v,p.2.data≠.cell v):Inv X pins' σ H s :=
 ⟨I.ok,I.os,I.bare,I.base,I.loc,I.cell,I.free,I.freeC,λp hp=>(AAl.mp hp).elim (λz=>I.pin p (AAd _ z)) (h p),I.hok,I.len⟩
theorem kW{N:List Str}(hN:N.Nodup){i j:Nat}{x:Str}(a:N[i]?=some x)(b:N[j]?=some x):i=j:=by
 obtain⟨h1,e1⟩:=AA7.mp a
 obtain⟨h2,e2⟩:=AA7.mp b
 exact(List.getElem_inj hN).mp (e1.trans e2.symm)
theorem tL{M:Model}{A:Around}{E:Value->Shared->Prop}{i:Nat}{x:Str}{v:V}{u:Value}{Q:Unit->Shared->Prop}(I:Inv X pins σ H s)(hN:X.N.Nodup)(hi:X.N[i]?=some x)(hx:Loc X.env.scope x)(r:aC v u)
  (h:∀s',Inv X pins (σ.set i (some v)) H s'->(∃a,ACB a s.heap s'.heap/\(a=X.env.locals\/X.env.cells.lookup x=some a))->Q () s') (hf:X.fn x=true\/X.env.scope.names.lookup x=some .local:=by first | exact .inl rfl | exact .inr rfl | assumption):wpAny M A (storeName X.env x u) Q E s:=by
 obtain⟨m,hn,hl⟩:=id I.loc
 have hcls:(X.env.scope.kind==.class||(X.env.scope.kind==.module&&X.env.locals != X.env.globals))=false:=by rw[I.ok.kind];rfl
 have hiσ:i<σ.length:=by rw[I.len];exact(AA7.mp hi).1
 have cne:=I.cne
 have tracked:∀{a:Addr}{h':Heap},(∃o,s.heap.get? a=some o/\H a=none)->ACB a s.heap h'->HOk X.prog X.w H h':=λ{a h'} ha hs b ob e=>by
  obtain⟨_,_,hfree⟩:=ha
  refine(I.hok b ob e).stay (λc w' hc q=>(hs.2 c ?_).trans q) (λ_ q=>q) λ_ _ q=>q
  rintro rfl
  rcases hc with rfl | hc
  ·rw[hfree]at e;cases e
  ·rw[hfree]at hc;cases hc
 rcases hx with hk | hk
 ·refine wpAny_storeName_local hk hn (λh' hn' hs=>?_) hcls
  obtain⟨oL,_,_,hoL,_⟩:=id hn
  refine h _ ⟨I.ok,I.os,I.bare,⟨λb o e n hb hx=>?_,λb o e n hb hx=>?_,I.base.free,λb o e hx=>?_,I.base.tups,I.base.frzs,I.base.tbls⟩,⟨_,hn',λj y v' e1 e2 e3=>?_⟩,λy c e=>?_,I.free,I.freeC,λp hp=>?_,tracked ⟨oL,hoL,I.free⟩ hs,by simpa using I.len⟩ ⟨_,hs,.inl rfl⟩
  ·exact(hs.2 b (AAL (AAR (AAH e) I.ok.above))).trans (I.base.keep b o e n hb hx)
  ·obtain⟨sl,e1⟩:=I.base.slot b o e n hb hx
   exact⟨sl,(hs.2 b (AAL (AAR (AAH e) I.ok.above))).trans e1⟩
  ·obtain⟨o',e1⟩:=I.base.there b o e hx
   exact⟨o',(hs.2 b (AAL (AAR (AAH e) I.ok.above))).trans e1⟩
  ·by_cases hj:j=i
   ·subst hj
    rw[hi]at e1;cases e1
    rw[AAa hiσ]at e2
    cases e2
    exact⟨u,r,.inl ⟨hk,by simp⟩⟩
   ·rw[AAZ (ABO hj)]at e2
    obtain⟨u',r',q⟩:=hl j y v' e1 e2 e3
    refine⟨u',r',?_⟩
    rcases q with⟨k,e⟩|⟨k,c,e,z⟩
    ·refine .inl ⟨k,?_⟩
     have:y≠x:=λe=>hj (kW hN e1 (e ▸ hi))
     simp[this,e]
    ·exact .inr ⟨k,c,e,z.sameBut hs (cne y c e)⟩
  ·obtain⟨w',z⟩:=I.cell y c e
   exact⟨w',z.sameBut hs (cne y c e)⟩
  ·obtain⟨e,n,ne,nf,d⟩:=I.pin p hp
   exact⟨(hs.2 p.1 ne).trans e,n,ne,nf,d⟩
 ·have hfn:X.fn x=true:=by
   rcases hf with z | z
   ·exact z
   ·rw[z]at hk;cases hk
  obtain⟨c,hc⟩:=I.ok.has x (.inl hk)
  obtain⟨w',z⟩:=I.cell x c hc
  refine wpAny_storeName_cell I.ok.kind hk hc z (λh' hc' hs=>?_)
  obtain⟨oc,hoc,hocd⟩:=id z
  refine h { s with heap:=h' } ⟨I.ok,I.os,I.bare,⟨λb o e n hb hx=>?_,λb o e n hb hx=>?_,I.base.free,λb o e hx=>?_,I.base.tups,I.base.frzs,I.base.tbls⟩,⟨m,hn.sameBut hs (ABO (cne x c hc)),λj y v' e1 e2 e3=>?_⟩,λy c' e=>?_,I.free,I.freeC,λp hp=>?_,tracked ⟨oc,hoc,I.freeC x c hc⟩ hs,by simpa using I.len⟩ ⟨c,hs,.inr hc⟩
  ·exact(hs.2 b (AAL (AAR (AAH e) (I.ok.cab x c hfn hc)))).trans (I.base.keep b o e n hb hx)
  ·obtain⟨sl,e1⟩:=I.base.slot b o e n hb hx
   exact⟨sl,(hs.2 b (AAL (AAR (AAH e) (I.ok.cab x c hfn hc)))).trans e1⟩
  ·obtain⟨o',e1⟩:=I.base.there b o e hx
   exact⟨o',(hs.2 b (AAL (AAR (AAH e) (I.ok.cab x c hfn hc)))).trans e1⟩
  ·by_cases hj:j=i
   ·subst hj
    rw[hi]at e1;cases e1
    rw[AAa hiσ]at e2
    cases e2
    exact⟨u,r,.inr ⟨.inl hk,c,hc,hc'⟩⟩
   ·rw[AAZ (ABO hj)]at e2
    obtain⟨u',r',q⟩:=hl j y v' e1 e2 e3
    refine⟨u',r',?_⟩
    rcases q with q | ⟨k,c',e,z'⟩
    ·exact .inl q
    ·refine .inr ⟨k,c',e,z'.sameBut hs ?_⟩
     rintro rfl
     exact hj (kW hN e1 (I.ok.inj _ _ _ e hc ▸ hi))
  ·by_cases hcc:c'=c
   ·subst hcc;exact⟨_,hc'⟩
   ·obtain⟨w2,z2⟩:=I.cell y c' e
    exact⟨w2,z2.sameBut hs hcc⟩
  ·obtain⟨e,n,ne,nf,d⟩:=I.pin p hp
   refine⟨(hs.2 p.1 ?_).trans e,n,ne,nf,d⟩
   intro q
   rw[q,hoc]at e
   have q':oc=p.2:=AAQ e
   exact d w' (by rw[<-q'];exact hocd)
theorem gP(I:Inv X pins σ H s)(hN:X.N.Nodup)(hi:X.N[i]?=some x)(hx:Loc X.env.scope x)(r:aC v u)
  (h:∀s',Inv X pins (σ.set i (some v)) H s'->Q () s') (hf:X.fn x=true\/X.env.scope.names.lookup x=some .local:=by first | exact .inl rfl | exact .inr rfl | assumption):wpAny M A (storeName X.env x u) Q E s :=
 tL I hN hi hx r (λs' I' _=>h s' I') hf
theorem Inv.call'(I:Inv X pins σ H s)(ho:s'.os=s.os)(u:Un (frs X.stack) ch H H' s.heap s'.heap)(hok:HOk X.prog X.w H' s'.heap)(hg:AllBare s'.gens)
  (hch:∀b∈ch,(b∈X.ex\/X.s₀.heap.objs.size<=b)/\b≠X.env.locals/\(∀x c,X.env.cells.lookup x=some c->c≠b)/\∀p∈X.pn++pins,p.1≠b):Inv X pins σ H' s':=by
 obtain⟨h',g',d',t',o'⟩:=s'
 have e:o'=s.os:=ho
 subst e
 exact I.call (g':=g') (t':=t') (d':=d') u hok hg hch
end
abbrev XK:=Value->Option Addr->Hp->Prop
noncomputable abbrev St:=List (Option V)
abbrev VK:=V->Hp->Prop
abbrev TE:=St->Hp->VK->Prop
abbrev TT:=St->Hp->(Bool->Hp->Prop)->Prop
abbrev TA:=St->Hp->(List V->Hp->Prop)->Prop
structure Ends where
 nx:St->Hp->Prop
 rt:VK
 bk:St->Hp->Prop:=λ_ _=>False
 ct:St->Hp->Prop:=λ_ _=>False
abbrev TS:=Ends->St->Hp->Prop
inductive EP(X:Cx)(pins:List (Addr×Obj))(σ:St)(Q:VK)(u:Value)(s':Shared):Prop
 | mk (v:_) (H':_) (f0:Inv X pins σ H' s') (f1:aC v u) (f2:Q v H')
inductive TP(X:Cx)(pins:List (Addr×Obj))(σ:St)(Q:Bool->Hp->Prop)(b:Bool)(s':Shared):Prop
 | mk (H':_) (f0:Inv X pins σ H' s') (f1:Q b H')
inductive AP(X:Cx)(pins:List (Addr×Obj))(σ:St)(Q:List V->Hp->Prop)(us:List Value)(s':Shared):Prop
 | mk (vs:_) (H':_) (f0:Inv X pins σ H' s') (f1:au vs us) (f2:Q vs H')
def SP(X:Cx)(pins:List (Addr×Obj))(D:Ends)(f:Flow)(s':Shared):Prop :=
 match f with
 | .next=>∃σ' H',Inv X pins σ' H' s'/\D.nx σ' H'
 | .brk=>∃σ' H',Inv X pins σ' H' s'/\D.bk σ' H'
 | .cont=>∃σ' H',Inv X pins σ' H' s'/\D.ct σ' H'
 | .ret u=>∃v σ' H',Inv X pins σ' H' s'/\aC v u/\D.rt v H'
def PE(X:Cx)(e:Expr)(t:TE):Prop :=
 ∀(pins:List (Addr×Obj)) (s:Shared) (σ:St) (H:Hp) (Q:VK),Inv X pins σ H s->t σ H Q->wpAny (model X.prog X.w) X.A (eval e X.env) (EP X pins σ Q) X.xe s
def PT(X:Cx)(e:Expr)(t:TT):Prop :=
 ∀(pins:List (Addr×Obj)) (s:Shared) (σ:St) (H:Hp) (Q:Bool->Hp->Prop),Inv X pins σ H s->t σ H Q->wpAny (model X.prog X.w) X.A (isTrue e X.env (eval e X.env)) (TP X pins σ Q) X.xe s
def PW(X:Cx)(e:Expr)(t:TT):Prop :=
 ∀(whole:Sem Value) (pins:List (Addr×Obj)) (s:Shared) (σ:St) (H:Hp) (Q:Bool->Hp->Prop),Inv X pins σ H s->t σ H Q->wpAny (model X.prog X.w) X.A (isTrue e X.env whole) (TP X pins σ Q) X.xe s
theorem PW.pt(h:PW X e t):PT X e t:=h _
def PA(X:Cx)(es:List Expr)(t:TA):Prop :=
 ∀(pos:Pos) (pins:List (Addr×Obj)) (s:Shared) (σ:St) (H:Hp) (Q:List V->Hp->Prop),Inv X pins σ H s->t σ H Q->wpAny (model X.prog X.w) X.A (spliced (backTo pos (starEach es X.env))) (AP X pins σ Q) X.xe s
def PS(X:Cx)(st:Stmt)(t:TS):Prop :=
 ∀(pins:List (Addr×Obj)) (s:Shared) (σ:St) (H:Hp) (D:Ends),Inv X pins σ H s->t D σ H->wpAny (model X.prog X.w) X.A (exec st X.env) (SP X pins D) X.xe s
def PSs(X:Cx)(st:List Stmt)(t:TS):Prop :=
 ∀(pins:List (Addr×Obj)) (s:Shared) (σ:St) (H:Hp) (D:Ends),Inv X pins σ H s->t D σ H->wpAny (model X.prog X.w) X.A (execs st X.env) (SP X pins D) X.xe s
theorem thn{α:Type}{t:Sem α}{Q Q':α->Shared->Prop}{M:Model}{A:Around}{E:Value->Shared->Prop}{s:Shared}(h:wpAny M A t Q E s)(hQ:∀a s,Q a s->Q' a s):wpAny M A t Q' E s:=AAo h hQ λ_ _ x=>x
section
variable{X:Cx}
def tVar(i:Nat):TE:=λσ H Q=>∃v,σ[i]?=some (some v)/\Q v H
def tC(v:V):TE:=λ_ H Q=>Q v H
theorem yh(hN:X.N[i]?=some x)(hv:Vis X.env.scope x)(hd:(x==("__debug__":Str))=false:=by decide)(hcd:(x==("__classdict__":Str))=false:=by decide):PE X (.Name x pos) (tVar i):=by
 intro pins s σ H Q I h
 obtain⟨v,e,h⟩:=h
 obtain⟨m,hn,hl⟩:=I.loc
 obtain⟨u,r,l⟩:=hl i x v hN e hv
 have fin:EP X pins σ Q u s:=⟨v,H,I,r,h⟩
 rcases l with⟨hk,hm⟩|⟨hk,c,hc,hcell⟩
 ·exact wpAny_Name (wpAny_loadName_local I.ok.kind hk hn hm fin) hd
 ·rcases hk with hk | hk
  ·exact wpAny_Name (wpAny_loadName_cell I.ok.kind hk hc hcell fin) hd
  ·exact wpAny_Name (wpAny_loadName_free I.ok.kind hk hc hcell fin hcd) hd
theorem Ce{i j pos}:PE X (.Constant (.int i) j pos) (tC (.int i)):=λ_ _ _ H _ I h=>wpAny_Constant_int ⟨.int i,H,I.tok _,⟨_,rfl⟩,h⟩
theorem pe_bl{b j pos}:PE X (.Constant (.bool b) j pos) (tC (.bl b)):=λ_ _ _ H _ I h=>Constant_bool ⟨.bl b,H,I,rfl,h⟩
theorem Cc{j pos}:PE X (.Constant .none j pos) (tC .non):=λ_ _ _ H _ I h=>Constant_none ⟨.non,H,I,rfl,h⟩
theorem Ca{x j pos}:PE X (.Constant (.str x) j pos) (tC (.str x)):=λ_ _ _ H _ I h=>Calls.Constant_str ⟨.str x,H,I.tok _,⟨_,rfl⟩,h⟩
def Gl(X:Cx)(x:Str):Prop:=X.env.kindOf x=some .globalImplicit
theorem jc(I:Inv X pins σ H s)(hg:Gl X x)(hm:X.mg x=some u)(h:Q u s)
  (hd:(x==("__debug__":Str))=false:=by decide):wpAny (model X.prog X.w) X.A (eval (.Name x pos) X.env) Q E s :=
 Calls.Name_function_global I.ok.kind hg (Calls.loadGlobal_global (by rw[I.ok.glob];exact I.mod.glob.keeps I.bk) hm h) hd
theorem eH(I:Inv X pins σ H s)(hg:Gl X x)(hm:X.mg x=none)(hv:bootBuiltins x=some u)(h:Q u s)
  (hn:x≠"__name__":=by decide) (hd:(x==("__debug__":Str))=false:=by decide):wpAny (model X.prog X.w) X.A (eval (.Name x pos) X.env) Q E s:=by
 obtain⟨mb,h1,h2⟩:=I.mod.blt
 exact Calls.Name_function_global I.ok.kind hg (Calls.loadGlobal_builtin (by rw[I.ok.glob];exact I.mod.glob.keeps I.bk) hm (by rw[I.ok.blt];exact h1.keeps I.bk) ((h2 x hn).trans hv) h) hd
theorem zo(hg:Gl X x)(hm:X.mg x=some u)(r:aC v u)(hd:(x==("__debug__":Str))=false:=by decide):PE X (.Name x pos) (tC v) :=
 λ_ _ _ H _ I h=>jc I hg hm ⟨v,H,I,r,h⟩ hd
theorem ue(hg:Gl X x)(hm:X.mg x=none)(hv:bootBuiltins x=some u)(r:aC v u)(hn:x≠"__name__":=by decide)(hd:(x==("__debug__":Str))=false:=by decide):PE X (.Name x pos) (tC v) :=
 λ_ _ _ H _ I h=>eH I hg hm hv ⟨v,H,I,r,h⟩ hn hd
variable{a b:Expr}{ta tb:TE}{pos:Pos}
theorem aC.none_iff(r:aC x v):(v==ABp)=decide (x=.non):=by
 cases x with
 | non=>cases r;rfl
 | bl _=>cases r;rfl
 | int _=>obtain⟨t,rfl⟩:=r;rfl
 | str _=>obtain⟨t,rfl⟩:=r;rfl
 | byt _=>obtain⟨t,rfl⟩:=r;rfl
 | flt _=>obtain⟨t,rfl⟩:=r;rfl
 | ref _=>cases r;rfl
 | ty _=>cases r;rfl
def tB(t:TE):TT:=λσ H Q=>t σ H λx H1=>∃c,x=.bl c/\Q c H1
theorem BR(h:PE X e t)(he:∀whole,isTrue e X.env whole=(do let v <-whole;standAt e.pos;holding [v] (truthy v)):=by intro _;rfl):PT X e (tB t):=by
 intro pins s σ H Q I hw
 refine isTrue_plain (thn (h pins s σ H _ I hw) ?_) (he _)
 rintro v s1 ⟨x,H1,I1,r1,q1⟩
 obtain⟨d,rfl,q⟩:=q1
 cases r1
 exact ADa ⟨H1,I1,q⟩
variable{tA tB':TT}{ax:List Expr}
def tAnd(t u:TT):TT:=λσ H Q=>t σ H λc H1=>if c=true then u σ H1 Q else Q false H1
def tOr(t u:TT):TT:=λσ H Q=>t σ H λc H1=>if c=true then Q true H1 else u σ H1 Q
def tNot(t:TT):TT:=λσ H Q=>t σ H λc H1=>Q (!c) H1
theorem zc(ha:PT X a tA):PW X (.BoolOp .And [a] pos) tA:=by
 intro wh pins s σ H Q I h
 refine isTrue_and (thn (ha pins s σ H Q I h) λc s1 e=>?_)
 cases c with
 | true=>exact isTrue_and_nil e
 | false=>exact e
theorem BO(ha:PT X a tA):PW X (.BoolOp .Or [a] pos) tA:=by
 intro wh pins s σ H Q I h
 refine isTrue_or (thn (ha pins s σ H Q I h) λc s1 e=>?_)
 cases c with
 | false=>exact isTrue_or_nil e
 | true=>exact e
theorem BP(ha:PT X a tA)(hb:PW X (.BoolOp .And (b::ax) pos) tB'):PW X (.BoolOp .And (a::b::ax) pos) (tAnd tA tB'):=by
 intro wh pins s σ H Q I h
 refine isTrue_and (thn (ha pins s σ H _ I h) ?_)
 rintro c s1 ⟨H1,I1,q1⟩
 cases c with
 | true=>exact hb wh pins s1 σ H1 Q I1 q1
 | false=>exact⟨H1,I1,q1⟩
theorem pw_or(ha:PT X a tA)(hb:PW X (.BoolOp .Or (b::ax) pos) tB'):PW X (.BoolOp .Or (a::b::ax) pos) (tOr tA tB'):=by
 intro wh pins s σ H Q I h
 refine isTrue_or (thn (ha pins s σ H _ I h) ?_)
 rintro c s1 ⟨H1,I1,q1⟩
 cases c with
 | true=>exact⟨H1,I1,q1⟩
 | false=>exact hb wh pins s1 σ H1 Q I1 q1
theorem BS(ha:PT X a tA):PT X (.UnaryOp .Not a pos) (tNot tA):=by
 intro pins s σ H Q I h
 refine isTrue_not (thn (ha pins s σ H (λc H1=>Q (!c) H1) I h) ?_)
 rintro c s1 ⟨H1,I1,q1⟩
 exact⟨H1,I1,q1⟩
def tAndV(ta tb:TE):TE:=λσ H Q=>ta σ H λx H1=>∃c,x=.bl c/\if c=true then tb σ H1 Q else Q (.bl false) H1
def tOrV(ta tb:TE):TE:=λσ H Q=>ta σ H λx H1=>∃c,x=.bl c/\if c=true then Q (.bl true) H1 else tb σ H1 Q
theorem Cb{op}(h:PE X a t):PE X (.BoolOp op [a] pos) t:=λpins s σ H Q I hw=>BoolOp_one (h pins s σ H Q I hw)
theorem Cg(ha:PE X a ta)(hb:PE X (.BoolOp .And (b::ax) pos) tb):PE X (.BoolOp .And (a::b::ax) pos) (tAndV ta tb):=by
 intro pins s σ H Q I h
 refine BoolOp_and (thn (ha pins s σ H _ I h) ?_)
 rintro v s1 ⟨x,H1,I1,r1,q1⟩
 obtain⟨c,rfl,q1⟩:=q1
 cases r1
 refine ADa ?_
 cases c with
 | true=>exact hb pins s1 σ H1 Q I1 q1
 | false=>exact⟨.bl false,H1,I1,rfl,q1⟩
theorem pe_or(ha:PE X a ta)(hb:PE X (.BoolOp .Or (b::ax) pos) tb):PE X (.BoolOp .Or (a::b::ax) pos) (tOrV ta tb):=by
 intro pins s σ H Q I h
 refine BoolOp_or (thn (ha pins s σ H _ I h) ?_)
 rintro v s1 ⟨x,H1,I1,r1,q1⟩
 obtain⟨c,rfl,q1⟩:=q1
 cases r1
 refine ADa ?_
 cases c with
 | false=>exact hb pins s1 σ H1 Q I1 q1
 | true=>exact⟨.bl true,H1,I1,rfl,q1⟩
end
def SqL(K:AA3)(H:Hp)(a:Addr)(xs:List V):Prop :=
 Rd H a (.lst xs) \/
  ∃(o:Obj) (its:Array Value) (n:Nat),K.lookup a=some o/\o.cls=.type "list"/\o.dict=none/\o.data=.seq its n/\its.size<=sizeLine/\au xs its.toList
def SqT(K:AA3)(H:Hp)(a:Addr)(xs:List V):Prop :=
 Rd H a (.tup xs) \/
  ∃(o:Obj) (its:Array Value) (n:Nat),K.lookup a=some o/\o.cls=.type "tuple"/\o.dict=none/\o.data=.seq its n/\its.size<=sizeLine/\au xs its.toList
noncomputable def absV:Value->Option V
 | .none=>some .non
 | .bool b=>some (.bl b)
 | .int i _=>some (.int i)
 | .str x _=>some (.str x)
 | .bytes b _=>some (.byt b)
 | .float b _=>some (.flt b)
 | .ref a=>some (.ref a)
 | .type n=>some (.ty n)
 | _=>none
theorem aC.abs(r:aC x u):absV u=some x:=by
 cases x with
 | non=>cases r;rfl
 | bl _=>cases r;rfl
 | int _=>obtain⟨t,rfl⟩:=r;rfl
 | str _=>obtain⟨t,rfl⟩:=r;rfl
 | byt _=>obtain⟨t,rfl⟩:=r;rfl
 | flt _=>obtain⟨t,rfl⟩:=r;rfl
 | ref _=>cases r;rfl
 | ty _=>cases r;rfl
theorem aC.inj(r:aC x u)(q:aC y u):x=y:=AAQ (r.abs.symm.trans q.abs)
theorem au.inj(h:au xs us)(h':au ys us):xs=ys:=by
 induction h generalizing ys with
 | nil=>cases h';rfl
 | cons r t ih=>cases h' with
  | cons r' t'=>rw[r.inj r',ih t']
section
variable{X:Cx}{pins:List (Addr×Obj)}{σ:St}{H:Hp}{s:Shared}{a:Addr}{xs ys:List V}
theorem SqT.of{K:AA3}(h:H a=some (.tup xs)):SqT K H a xs:=.inl (.inl h)
theorem Inv.list(I:Inv X pins σ H s)(h:SqL X.K H a xs):∃its:List Value,au xs its/\PlainL s.heap a its.toArray/\xs.length<=sizeLine:=by
 rcases h with h | ⟨o,its,n,hk,hc,hd,hs,hz,r⟩
 ·obtain⟨z,its,n,r,e⟩:=h.ok I.hok
  exact⟨its,r,⟨_,n,e,rfl,rfl,rfl⟩,z⟩
 ·refine⟨its.toList,r,⟨o,n,I.kIn a o hk,hc,hd,by simpa using hs⟩,?_⟩
  have e:=r.length
  simp only[AAJ]at e
  lia
theorem Inv.tuple(I:Inv X pins σ H s)(h:SqT X.K H a xs):∃its:List Value,au xs its/\IsTup s.heap a its.toArray/\xs.length<=sizeLine:=by
 rcases h with h | ⟨o,its,n,hk,hc,_,hs,hz,r⟩
 ·obtain⟨z,its,r,p⟩:=h.ok I.hok
  exact⟨its,r,p.tup,z⟩
 ·refine⟨its.toList,r,⟨o,I.kIn a o hk,hc,n,by simpa using hs⟩,?_⟩
  have e:=r.length
  simp only[AAJ]at e
  lia
theorem Inv.list_inj(I:Inv X pins σ H s)(h:SqL X.K H a xs)(h':SqL X.K H a ys):xs=ys:=by
 obtain⟨its,r,⟨o,n,e,_,_,d⟩,_⟩:=I.list h
 obtain⟨its',r',⟨o',n',e',_,_,d'⟩,_⟩:=I.list h'
 rw[e]at e';cases e'
 rw[d]at d'
 injection d' with d1 _
 have:its=its':=by simpa using congrArg Array.toList d1
 subst this
 exact r.inj r'
theorem Inv.tuple_inj(I:Inv X pins σ H s)(h:SqT X.K H a xs)(h':SqT X.K H a ys):xs=ys:=by
 obtain⟨its,r,⟨o,e,_,n,d⟩,_⟩:=I.tuple h
 obtain⟨its',r',⟨o',e',_,n',d'⟩,_⟩:=I.tuple h'
 rw[e]at e';cases e'
 rw[d]at d'
 injection d' with d1 _
 have:its=its':=by simpa using congrArg Array.toList d1
 subst this
 exact r.inj r'
end
noncomputable abbrev Cx.wish(X:Cx)(E:Value->Shared->Prop):Cx:={ X with xe:=E }
noncomputable abbrev Cx.nox(X:Cx):Cx:=X.wish λ_ _=>False
theorem Cx.Ok.wish{X:Cx}(ok:X.Ok)(E:Value->Shared->Prop):(X.wish E).Ok :=
 ⟨ok.mod,ok.kind,ok.glob,ok.blt,ok.above,ok.inj,ok.has,ok.cab,ok.hd,ok.frames,ok.stk,ok.exf,ok.bs,ok.bsz,ok.noex,ok.exfs,ok.funs,ok.frf⟩
theorem Cx.Ok.unwish{X:Cx}{E:Value->Shared->Prop}(ok:(X.wish E).Ok):X.Ok :=
 ⟨ok.mod,ok.kind,ok.glob,ok.blt,ok.above,ok.inj,ok.has,ok.cab,ok.hd,ok.frames,ok.stk,ok.exf,ok.bs,ok.bsz,ok.noex,ok.exfs,ok.funs,ok.frf⟩
section
variable{X:Cx}{pins:List (Addr×Obj)}{σ:St}{H:Hp}{s:Shared}{E:Value->Shared->Prop}
theorem Inv.wish(I:Inv X pins σ H s)(E:Value->Shared->Prop):Inv (X.wish E) pins σ H s:=⟨I.ok.wish E,I.os,I.bare,I.base,I.loc,I.cell,I.free,I.freeC,I.pin,I.hok,I.len⟩
theorem Inv.unwish(I:Inv (X.wish E) pins σ H s):Inv X pins σ H s:=⟨I.ok.unwish,I.os,I.bare,I.base,I.loc,I.cell,I.free,I.freeC,I.pin,I.hok,I.len⟩
theorem SP.unwish(h:SP (X.wish E) pins D f s'):SP X pins D f s':=by
 cases f with
 | next=>obtain⟨σ',H',I,q⟩:=h;exact⟨σ',H',I.unwish,q⟩
 | brk=>obtain⟨σ',H',I,q⟩:=h;exact⟨σ',H',I.unwish,q⟩
 | cont=>obtain⟨σ',H',I,q⟩:=h;exact⟨σ',H',I.unwish,q⟩
 | ret u=>obtain⟨v,σ',H',I,r,q⟩:=h;exact⟨v,σ',H',I.unwish,r,q⟩
theorem PE.nox(h:PE X.nox e t):PE X e t:=λpins s σ H Q I hw =>
 AAo (h pins s σ H Q (I.wish _) hw) (λ_ _ ⟨v,H',I',r,q⟩=>⟨v,H',I'.unwish,r,q⟩) λ_ _ z=>ABa z
theorem PSs.nox{st:List Stmt}{t:TS}(h:PSs X.nox st t):PSs X st t:=λpins s σ H D I hw =>
 AAo (h pins s σ H D (I.wish _) hw) (λ_ _ q=>q.unwish) λ_ _ z=>ABa z
end
section
variable{X:Cx}{st:Stmt}{ax:List Stmt}{t u:TS}{e:Expr}{te:TE}{pos:Pos}
def tNext:TS:=λD σ H=>D.nx σ H
def tSeq(t u:TS):TS:=λD σ H=>t { D with nx:=u D } σ H
theorem zh:PSs X [] tNext:=λ_ _ σ H _ I h=>ACN ⟨σ,H,I,h⟩
theorem wC(h1:PS X st t)(h2:PSs X ax u):PSs X (st::ax) (tSeq t u):=by
 intro pins s σ H D I h
 refine ADq (thn (h1 pins s σ H { D with nx:=u D } I h) λf s1 q=>?_)
 cases f with
 | next =>
  obtain⟨σ',H',I',q⟩:=q
  exact h2 pins s1 σ' H' D I' q
 | ret v=>exact q
 | brk=>exact q
 | cont=>exact q
theorem zg(h1:PS X st t):PSs X [st] t:=by
 intro pins s σ H D I h
 refine ADq (thn (h1 pins s σ H D I h) λf s1 q=>?_)
 cases f with
 | next=>exact ACN q
 | ret v=>exact q
 | brk=>exact q
 | cont=>exact q
theorem Inv.quiet(I:Inv X pins σ H s):interactive X.env=false:=by simp[interactive,I.ok.kind]
def tDrop(te:TE):TS:=λD σ H=>te σ H λ_ H1=>D.nx σ H1
theorem zi(he:PE X e te)(hs:swapsWith e none pos.line X.env=pure false:=by rfl):PS X (.Expr e pos) (tDrop te):=by
 intro pins s σ H D I h
 exact wpAny_Expr_any (thn (he pins s σ H _ I h) λv s1 ⟨x,H1,I1,r1,q1⟩=>⟨σ,H1,I1,q1⟩) I.quiet hs
def tRet(te:TE):TS:=λD σ H=>te σ H D.rt
theorem BU(he:PE X e te):PS X (.Return (some e) pos) (tRet te):=by
 intro pins s σ H D I h
 refine wpAny_Return_some (thn (he pins s σ H _ I h) ?_)
 rintro v s1 ⟨x,H1,I1,r1,q1⟩
 exact⟨x,σ,H1,I1,r1,q1⟩
def tIfS(c:TT)(t u:TS):TS:=λD σ H=>c σ H λb H1=>if b=true then t D σ H1 else u D σ H1
theorem ps_if(hc:PT X c tc)(ha:PSs X a t)(hb:PSs X b u):PS X (.If c a b pos) (tIfS tc t u):=by
 intro pins s σ H D I h
 refine wpAny_If (thn (hc pins s σ H _ I h) ?_)
 rintro d s1 ⟨H1,I1,q1⟩
 cases d with
 | true=>exact ha pins s1 σ H1 D I1 q1
 | false=>exact hb pins s1 σ H1 D I1 q1
end
abbrev TG:=V->St->Hp->(St->Hp->Prop)->Prop
abbrev TGs:=List V->St->Hp->(St->Hp->Prop)->Prop
def PG(X:Cx)(target:Expr)(t:TG):Prop :=
 ∀(pins:List (Addr×Obj)) (s:Shared) (σ:St) (H:Hp) (v:V) (u:Value) (Q:St->Hp->Prop),Inv X pins σ H s->aC v u->t v σ H Q ->
  wpAny (model X.prog X.w) X.A (assign target X.env u) (λ_ s'=>∃σ' H',Inv X pins σ' H' s'/\Q σ' H') X.xe s
def PGs(X:Cx)(ts:List Expr)(t:TGs):Prop :=
 ∀(pins:List (Addr×Obj)) (s:Shared) (σ:St) (H:Hp) (vs:List V) (us:List Value) (Q:St->Hp->Prop),Inv X pins σ H s->au vs us->t vs σ H Q ->
  wpAny (model X.prog X.w) X.A (assignInOrder ((assignEach ts X.env).map (·.2)) us) (λ_ s'=>∃σ' H',Inv X pins σ' H' s'/\Q σ' H') X.xe s
abbrev TSet:=V->V->V->Hp->(Hp->Prop)->Prop
def PSet(X:Cx)(t:TSet):Prop :=
 ∀(pins:List (Addr×Obj)) (s:Shared) (σ:St) (H:Hp) (o i v:V) (ov iv u:Value) (Q:Hp->Prop),Inv X pins σ H s->aC o ov->aC i iv->aC v u->t o i v H Q ->
  wpAny (model X.prog X.w) X.A (setItem ov iv u) (λ_ s'=>∃H',Inv X pins σ H' s'/\Q H') X.xe s
section
variable{X:Cx}{pos:Pos}
def DJ(i:Nat):TG:=λv σ H Q=>Q (σ.set i (some v)) H
theorem zn(hN:X.N.Nodup)(hi:X.N[i]?=some x)(hx:Loc X.env.scope x)(hf:X.fn x=true\/X.env.scope.names.lookup x=some .local:=by first | exact .inl rfl | exact .inr rfl | assumption):PG X (.Name x pos) (DJ i):=by
 intro pins s σ H v u Q I r h
 exact wpAny_assign_Name (gP I hN hi hx r (λs' I'=>⟨_,H,I',h⟩) hf)
def gNil:TGs:=λvs σ H Q=>vs=[]/\Q σ H
def gCons(t:TG)(u:TGs):TGs:=λvs σ H Q=>∃v r,vs=v::r/\t v σ H λσ' H'=>u r σ' H' Q
theorem zm:PGs X [] gNil:=by
 intro pins s σ H vs us Q I r h
 obtain⟨e,h⟩:=h
 subst e
 cases r
 exact assignInOrder_nil ⟨σ,H,I,h⟩
theorem wG(h1:PG X e t)(h2:PGs X es u)
  (hs:(assignEach (e::es) X.env).map (·.2)=assign e X.env::(assignEach es X.env).map (·.2):=by rfl):PGs X (e::es) (gCons t u):=by
 intro pins s σ H vs us Q I r h
 obtain⟨v,vr,e1,h⟩:=h
 subst e1
 cases r with
 | cons r rr =>
  rw[hs]
  refine assignInOrder_cons (thn (h1 pins s σ H _ _ _ I r h) ?_)
  rintro _ s1 ⟨σ1,H1,I1,q1⟩
  exact h2 pins s1 σ1 H1 _ _ Q I1 rr q1
def gTup(K:AA3)(n:Nat)(t:TGs):TG:=λv σ H Q=>∃a xs,v=.ref a/\SqT K H a xs/\xs.length=n/\t xs σ H Q
theorem BX(hc:X.calm=true)(h:PGs X es t)
  (hn:(assignEach es X.env).length=n:=by rfl) (hst:(assignEach es X.env).findIdx? (·.1)=none:=by rfl):PG X (.Tuple es k pos) (gTup X.K n t):=by
 intro pins s σ H v u Q I r hw
 obtain⟨a,xs,e1,hq,hl,hw⟩:=hw
 subst e1
 cases r
 obtain⟨its,rv,ht,hz⟩:=I.tuple hq
 refine assign_Tuple_tuple (I.ok.hd hc) ht (by simp[hn,<-hl,rv.length]) hst λh' hx=>?_
 have I1:Inv X pins σ H { s with heap:=h' }:=I.kept (t':=s.toks) λb o e=>hx b o (AAL (AAH e)) e
 exact h pins _ σ H xs _ Q I1 (by simpa using rv) hw
def gSub(to ti:TE)(t:TSet):TG:=λv σ H Q=>to σ H λo H1=>ti σ H1 λi H2=>t o i v H2 λH3=>Q σ H3
theorem BY(ho:PE X o to)(hi:PE X i ti)(hs:PSet X t)
  (ha:∀v,assign (.Subscript o i pos) X.env v=(do
   let ov <-holding [v] (eval o X.env)
   let iv <-holding [v,ov] (eval i X.env)
   standAt pos
   holding [v,ov,iv] (setItem ov iv v)
   release [v,ov,iv] []):=by intro _;rfl):PG X (.Subscript o i pos) (gSub to ti t):=by
 intro pins s σ H v u Q I r h
 rw[ha]
 refine AA0 (AAg (thn (ho pins s σ H _ I h) ?_))
 rintro ov s1 ⟨x,H1,I1,r1,q1⟩
 refine AA0 (AAg (thn (hi pins s1 σ H1 _ I1 q1) ?_))
 rintro iv s2 ⟨y,H2,I2,r2,q2⟩
 refine AA0 (wpAny_standAt (AA0 (AAg (thn (hs pins s2 σ H2 x y v ov iv u _ I2 r1 r2 r q2) ?_))))
 rintro _ s3 ⟨H3,I3,q3⟩
 exact wpAny_release ⟨σ,H3,I3,q3⟩
def tAsg(te:TE)(g:TG):TS:=λD σ H=>te σ H λx H1=>g x σ H1 D.nx
theorem BW(he:PE X e te)(hg:PG X tg g)(hs:swapsWithSole [tg] e pos.line X.env=pure false:=by rfl)(hw:swappedStores [tg] e X.env=pure none:=by rfl)
  (h1:(assignEach [tg] X.env).map (·.2)=[assign tg X.env]:=by rfl):PS X (.Assign [tg] e pos) (tAsg te g):=by
 intro pins s σ H D I h
 refine wpAny_Assign_stores (thn (he pins s σ H _ I h) ?_) hs hw
 rintro v s1 ⟨x,H1,I1,r1,q1⟩
 rw[h1]
 exact thn (hg pins s1 σ H1 x v _ I1 r1 q1) λ_ s2 q=>q
theorem BT(hN:X.N.Nodup)(hi:X.N[i]?=some x)(hx:Loc X.env.scope x)(he:PE X e te)(hs:swapsWith e (some (.Name x pos')) pos.line X.env=pure false:=by rfl)(hf:X.fn x=true\/X.env.scope.names.lookup x=some .local:=by first | exact .inl rfl | exact .inr rfl | assumption) :
  PS X (.Assign [.Name x pos'] e pos) (tAsg te (DJ i)):=by
 intro pins s σ H D I h
 refine wpAny_Assign_Name (thn (he pins s σ H _ I h) ?_) hs
 rintro v s1 ⟨y,H1,I1,r1,q1⟩
 exact gP I1 hN hi hx r1 (λs2 I2=>⟨_,H1,I2,q1⟩) hf
end
section
variable{X:Cx}{pos:Pos}
def yf(c:TT)(tb:TS):TS:=λD σ H=>∃W:Nat->St->Hp->Prop,(∃m,W m σ H)/\∀m σ H,W m σ H ->
 c σ H λb H1=>if b=true then ∃N:St->Hp->Prop,(∀σ' H',N σ' H'->∃m',m' < m/\W m' σ' H')/\tb { D with nx:=N,ct:=N,bk:=D.nx } σ H1 else D.nx σ H1
theorem wD(hp:PassesOwn (model X.prog X.w) X.A X.env X.xe)(hc:PT X c tc)(hb:PSs X body tb):PS X (.While c body [] pos) (yf tc tb):=by
 intro pins s σ H D I h
 obtain⟨W,⟨m0,w0⟩,turn⟩:=h
 refine wpAny_While (codeAny_whileLoop (λn s'=>∃σ' H',Inv X pins σ' H' s'/\W n σ' H') ?_ m0 ⟨σ,H,I,w0⟩)
 rintro n s1 ⟨σ1,H1,I1,w1⟩
 refine ACO hp (thn (hc pins s1 σ1 H1 _ I1 (turn n σ1 H1 w1)) ?_)
 rintro b s2 ⟨H2,I2,q2⟩
 cases b with
 | true =>
  obtain⟨N,hN,q2⟩:=q2
  rw[if_pos rfl]
  refine ACO hp (thn (hb pins s2 σ1 H2 _ I2 q2) λf s3 q3=>?_)
  cases f with
  | next =>
   obtain⟨σ3,H3,I3,n3⟩:=q3
   obtain⟨m',hm,w3⟩:=hN σ3 H3 n3
   exact⟨m',hm,σ3,H3,I3,w3⟩
  | cont =>
   obtain⟨σ3,H3,I3,n3⟩:=q3
   obtain⟨m',hm,w3⟩:=hN σ3 H3 n3
   exact⟨m',hm,σ3,H3,I3,w3⟩
  | brk=>exact q3
  | ret v=>exact q3
 | false =>
  rw[if_neg ABQ]
  exact ACN ⟨σ1,H2,I2,q2⟩
end
structure It where
 go:Nat->Hp->Prop
 yld:Nat->Hp->V->Hp->Prop
 stop:Nat->Hp->Prop
def sD(X:Cx)(pins:List (Addr×Obj))(H:Hp)(b:Addr):Prop :=
 H b=none/\b≠X.env.locals/\b∉X.fs/\(b∈X.ex\/X.s₀.heap.objs.size<=b)/\(∀x c,X.env.cells.lookup x=some c->c≠b)/\∀p∈X.pn++pins,p.1≠b
theorem Inv.fpOk(I:Inv X pins σ H s)(hb:s.heap.objs.size<=b)(hn:H' b=none):sD X pins H' b:=by
 refine⟨hn,Nat.ne_of_gt (AAR I.lt hb),I.nofs hb,.inr (AB3 I.sz hb),λx c e z=>?_,λp hp z=>?_⟩
 ·obtain⟨v,q⟩:=I.cell x c e
  exact absurd (AAR q.lt (by rw[z];exact hb)) (AAk _)
 ·exact absurd (AAR (AAH (I.pin p hp).1) (by rw[z];exact hb)) (AAk _)
structure Turn(P:Program)(w:World)(K:AA3)(tg:Expr)(J:It)(fp:List Addr)(it:Addr)(tn:Nat->Heap->Prop):Prop where
 mem:it∈fp
 obj:∀i h,tn i h->∀b∈fp,∃o,h.get? b=some o/\∀v,o.data≠.cell v
 keep:∀i h h',tn i h->(∀b∈fp,∀o,h.get? b=some o->h'.get? b=some o)->tn i h'
 item:∀(X:Cx),X.prog=P->X.w=w->X.K=K->X.calm=true->∀(i:Nat) (pins:List (Addr×Obj)) (s:Shared) (σ:St) (H:Hp) (E:Value->Shared->Prop),Inv X pins σ H s->(∀b∈fp,sD X pins H b)->tn i s.heap->J.go i H ->
  wpAny (model P w) X.A (pyNext (.ref it)) (λr s1=>∃u,r=some u /\
   wpAny (model P w) X.A (letOwnedTupleGo tg (.ref it) u) (λ_ s2=>∃x H',Inv X pins σ H' s2/\aC x u/\J.yld i H x H'/\tn (i+1) s2.heap/\∀b∈fp,H' b=none) E s1) E s
 done:∀(X:Cx),X.prog=P->X.w=w->X.K=K->X.calm=true->∀(i:Nat) (pins:List (Addr×Obj)) (s:Shared) (σ:St) (H:Hp) (E:Value->Shared->Prop),Inv X pins σ H s->(∀b∈fp,sD X pins H b)->tn i s.heap->J.stop i H ->
  wpAny (model P w) X.A (pyNext (.ref it)) (λr s1=>r=none/\Inv X pins σ H s1) E s
 self:∀(A:Around) (i:Nat) (s:Shared) (Q:Value->Shared->Prop) (E:Value->Shared->Prop),tn i s.heap->Q (.ref it) s->wpAny (model P w) A (pyIter (.ref it)) Q E s
abbrev TI:=St->Hp->(It->Hp->Prop)->Prop
inductive PIE(X:Cx)(pins:List (Addr×Obj))(σ:St)(tg:Expr)(R:It->Hp->Prop)(itv:Value)(s2:Shared):Prop
 | mk (it:Addr) (fp:List Addr) (tn:Nat->Heap->Prop) (J:It) (H':Hp) (f0:itv=.ref it) (f1:Inv X pins σ H' s2) (f2:Turn X.prog X.w X.K tg J fp it tn) (f3:tn 0 s2.heap) (f4:(∀b∈fp,sD X pins H' b)) (f5:R J H')
def PI(X:Cx)(tg iter:Expr)(wi:TI):Prop :=
 ∀(pins:List (Addr×Obj)) (s:Shared) (σ:St) (H:Hp) (R:It->Hp->Prop),Inv X pins σ H s->wi σ H R ->
  wpAny (model X.prog X.w) X.A (eval iter X.env) (λv s1=>wpAny (model X.prog X.w) X.A (pyIter v) (PIE X pins σ tg R) X.xe s1) X.xe s
theorem rT(ho:s.heap.get? it=some o)(hc:o.cls=.type n)(hd:o.data=.fields vs)
  (hn:["enumerate","zip","dict_itemiterator","dict_reverseitemiterator","odict_iterator","itertools.zip_longest","itertools.pairwise"].contains n=false) (hQ:Q () s):wpAny M A (letOwnedTupleGo tg (.ref it) u) Q E s:=by
 unfold letOwnedTupleGo
 cases tg<;>first
  | exact AA2 hQ
  | (cases u<;>first
    | exact AA2 hQ
    | (refine AA0 (wpAny_load ho ?_);rw[hc,hd];show wpAny M A (if (["enumerate","zip","dict_itemiterator","dict_reverseitemiterator","odict_iterator","itertools.zip_longest","itertools.pairwise"].contains n&&vs[0]?==some (rawInt _))=true then _ else _) Q E s;rw[if_neg (by intro h;rw[hn,AE9]at h;cases h)];exact AA2 hQ))
noncomputable def Itl(K:AA3)(a:Addr):It :=
 ⟨λi H=>∃xs x,SqL K H a xs/\xs[i]?=some x,λi H x H'=>H'=H/\∀xs,SqL K H a xs->xs[i]?=some x,λi H=>∃xs,SqL K H a xs/\xs.length<=i⟩
noncomputable def Itt(K:AA3)(a:Addr):It :=
 ⟨λi H=>∃xs x,SqT K H a xs/\xs[i]?=some x,λi H x H'=>H'=H/\∀xs,SqT K H a xs->xs[i]?=some x,λi H=>∃xs,SqT K H a xs/\xs.length<=i⟩
noncomputable def Itr(lo:Int)(n:Nat):It:=⟨λi _=>i<n,λi H x H'=>H'=H/\x=.int (lo+i),λi _=>n<=i⟩
theorem sM{P:Program}{w:World}{K:AA3}{tg:Expr}(a it:Addr):Turn P w K tg (Itl K a) [it] it (λi h=>h.IsListIter it a i) where
 mem:=by simp
 obj:=λi h st b hb=>by
  have e:b=it:=by simpa using hb
  subst e
  obtain⟨o,e,c,d⟩:=st
  exact⟨o,e,λv z=>by rw[d]at z;cases z⟩
 keep:=λi h h' st k=>st.at λo e=>k it (by simp) o e
 item:=by
  intro X hP hw hK hc i pins s σ H E I hf st hg
  subst hP hw hK
  obtain⟨xs,x,hq,hx⟩:=hg
  obtain⟨its,rv,p,hz⟩:=I.list hq
  obtain⟨u,hu,ru⟩:=rv.get hx
  obtain⟨f0,f1,f2,f3,f4,f5⟩:=hf it (by simp)
  refine wpAny_pyNext_list_item st p.isList (x:=u) (by simpa using hu) λh' st' sb=>?_
  have I1:Inv X pins σ H { s with heap:=h' }:=I.turned (t':=s.toks) (λb o hb e=>(sb.2 b hb).trans e) f0 f1 f3 f4 f5
  obtain⟨o,e,c,d⟩:=id st'
  exact⟨u,rfl,rT (s:={ s with heap:=h' }) e c d (by decide) ⟨x,H,I1,ru,⟨rfl,λys hy=>by rw[I.list_inj hy hq];exact hx⟩,st',λb hb=>(hf b hb).1⟩⟩
 done:=by
  intro X hP hw hK hc i pins s σ H E I hf st hg
  subst hP hw hK
  obtain⟨xs,hq,hx⟩:=hg
  obtain⟨its,rv,p,hz⟩:=I.list hq
  obtain⟨f0,f1,f2,f3,f4,f5⟩:=hf it (by simp)
  have hl:=rv.length
  exact wpAny_pyNext_list_end (I.ok.hd hc) st p.isList (by simp;lia) λh' eb=>⟨rfl,I.turned (t':=s.toks) (λb o hb e=>eb b o hb e) f0 f1 f3 f4 f5⟩
 self:=λ_ _ _ _ _ st h=>wpAny_pyIter_listiter st h
theorem qT{P:Program}{w:World}{K:AA3}{tg:Expr}(a it:Addr):Turn P w K tg (Itt K a) [it] it (λi h=>h.IsTupleIter it a i) where
 mem:=by simp
 obj:=λi h st b hb=>by
  have e:b=it:=by simpa using hb
  subst e
  obtain⟨o,e,c,d⟩:=st
  exact⟨o,e,λv z=>by rw[d]at z;cases z⟩
 keep:=λi h h' st k=>st.at λo e=>k it (by simp) o e
 item:=by
  intro X hP hw hK hc i pins s σ H E I hf st hg
  subst hP hw hK
  obtain⟨xs,x,hq,hx⟩:=hg
  obtain⟨its,rv,p,hz⟩:=I.tuple hq
  obtain⟨u,hu,ru⟩:=rv.get hx
  obtain⟨f0,f1,f2,f3,f4,f5⟩:=hf it (by simp)
  refine wpAny_pyNext_tuple_item st (show s.heap.IsTuple a its.toArray from p) (x:=u) (by simpa using hu) λh' st' sb=>?_
  have I1:Inv X pins σ H { s with heap:=h' }:=I.turned (t':=s.toks) (λb o hb e=>(sb.2 b hb).trans e) f0 f1 f3 f4 f5
  obtain⟨o,e,c,d⟩:=id st'
  exact⟨u,rfl,rT (s:={ s with heap:=h' }) e c d (by decide) ⟨x,H,I1,ru,⟨rfl,λys hy=>by rw[I.tuple_inj hy hq];exact hx⟩,st',λb hb=>(hf b hb).1⟩⟩
 done:=by
  intro X hP hw hK hc i pins s σ H E I hf st hg
  subst hP hw hK
  obtain⟨xs,hq,hx⟩:=hg
  obtain⟨its,rv,p,hz⟩:=I.tuple hq
  obtain⟨f0,f1,f2,f3,f4,f5⟩:=hf it (by simp)
  have hl:=rv.length
  exact wpAny_pyNext_tuple_end (I.ok.hd hc) st (show s.heap.IsTuple a its.toArray from p) (by simp;lia) λh' eb=>⟨rfl,I.turned (t':=s.toks) (λb o hb e=>eb b o hb e) f0 f1 f3 f4 f5⟩
 self:=λ_ _ _ _ _ st h=>wpAny_pyIter_tupleiter st h
theorem qU{P:Program}{w:World}{K:AA3}{tg:Expr}(it:Addr)(lo:Int)(n:Nat):Turn P w K tg (Itr lo n) [it] it (λi h=>IsRangeIter h it (lo+(i:Nat)*1) ((n:Int)-(i:Nat)) 1) where
 mem:=by simp
 obj:=λi h st b hb=>by
  have e:b=it:=by simpa using hb
  subst e
  exact⟨_,st,λv z=>by
   have z':Data.fields _=Data.cell v:=z
   cases z'⟩
 keep:=λi h h' st k=>k it (by simp) _ st
 item:=by
  intro X hP hw hK hc i pins s σ H E I hf st hg
  subst hP hw hK
  obtain⟨f0,f1,f2,f3,f4,f5⟩:=hf it (by simp)
  have W:=Walks.range (prog:=X.prog) (w:=X.w) (I.ok.hd hc) it lo 1 n
  refine W.item i s _ _ hg st λv h' tk hv st' kk=>?_
  obtain⟨t,rfl⟩:=hv
  have I1:Inv X pins σ H { s with heap:=h',toks:=tk }:=I.turned (λb o hb e=>kk b o (by simpa using hb) e) f0 f1 f3 f4 f5
  refine⟨_,rfl,rT (s:={ s with heap:=h',toks:=tk }) (n:="range_iterator") st' rfl rfl (by decide) ⟨.int (lo+i),H,I1,⟨t,?_⟩,⟨rfl,rfl⟩,st',λb hb=>(hf b hb).1⟩⟩
  rw[Int.mul_one]
 done:=by
  intro X hP hw hK hc i pins s σ H E I hf st hg
  subst hP hw hK
  obtain⟨f0,f1,f2,f3,f4,f5⟩:=hf it (by simp)
  exact wpAny_pyNext_range_end (I.ok.hd hc) st (by have:n<=i:=hg;lia) λh' eb=>⟨rfl,I.turned (t':=s.toks) (λb o hb e=>eb b o hb e) f0 f1 f3 f4 f5⟩
 self:=λ_ _ _ _ _ st h=>wpAny_pyIter_rangeiter st h
section
variable{X:Cx}{tg:Expr}
theorem qd{pins:List (Addr×Obj)}{σ:St}{H:Hp}{s:Shared}{R:It->Hp->Prop}{E:Value->Shared->Prop}{lo hi:Int}{t u v:Tok}{tk:Nat}(I:Inv X pins σ H s)(h1:-(2 ^ 62)<=lo)(h2:lo<2 ^ 62)(h3:-(2 ^ 62)<=hi)(h4:hi<2 ^ 62)
  (q:R (Itr lo (hi-lo).toNat) H):wpAny (model X.prog X.w) X.A (pyIter (.ref s.heap.objs.size)) (PIE X pins σ tg R) E { s with heap:=s.heap.push { cls:=.type "range",data:=.fields #[.int lo t,.int hi u,.int 1 v] },toks:=tk }:=by
 refine wpAny_pyIter_range (IsRange.new ..) (small_one h1 h2 h3 h4) ?_
 have I1:Inv X pins σ H { s with heap:=s.heap.push { cls:=.type "range",data:=.fields #[.int lo t,.int hi u,.int 1 v] },toks:=tk }:=I.kept λb o e=>AA4 _ e
 refine⟨(s.heap.push { cls:=.type "range",data:=.fields #[.int lo t,.int hi u,.int 1 v] }).objs.size,[(s.heap.push { cls:=.type "range",data:=.fields #[.int lo t,.int hi u,.int 1 v] }).objs.size],_,_,H,rfl,
  I1.kept (t':=tk) λb o e=>AA4 _ e,qU _ lo (hi-lo).toNat,?_,λb hb=>?_,q⟩
 ·have e1:lo+((0:Nat):Int)*1=lo:=by simp
  have e2:(((hi-lo).toNat:Nat):Int)-((0:Nat):Int)=Builtin.Range.rangeSize lo hi 1:=by rw[rangeSize_one];split<;>lia
  show IsRangeIter _ _ (lo+((0:Nat):Int)*1) ((((hi-lo).toNat:Nat):Int)-((0:Nat):Int)) 1
  rw[e1,e2]
  exact AAE _ rfl
 ·have e:b=(s.heap.push { cls:=.type "range",data:=.fields #[.int lo t,.int hi u,.int 1 v] }).objs.size:=by simpa using hb
  subst e
  exact I1.fpOk (AA8 _) (I1.hok.fresh (AA8 _))
def iRng1(ta:TA):TI:=λσ H R=>ta σ H λvs H1=>∃j:Int,vs=[.int j]/\-(2 ^ 62)<=j/\j<2 ^ 62/\R (Itr 0 j.toNat) H1
def iRng2(ta:TA):TI:=λσ H R=>ta σ H λvs H1=>∃i j:Int,vs=[.int i,.int j]/\(-(2 ^ 62)<=i/\i<2 ^ 62/\-(2 ^ 62)<=j/\j<2 ^ 62)/\R (Itr i (j-i).toNat) H1
theorem ub{a:Expr}{ta:TA}{p pos:Pos}(hg:Gl X "range")(hm:X.mg "range" = none)(ha:PA X [a] ta)(hs:starEach [a] X.env=[(false,eval a X.env)]:=by rfl):PI X tg (.Call (.Name "range" p) [a] [] pos) (iRng1 ta):=by
 intro pins s σ H R I h
 refine Call_ (eH I hg hm boot_range (AC0 (thn (ha pos pins s σ H _ I h) ?_) hs rfl))
 rintro us s1 ⟨vs,H1,I1,r1,q1⟩
 obtain⟨j,e,q1,q2,q⟩:=q1
 subst e
 cases r1 with
 | cons r rr =>
  cases rr
  obtain⟨t,rfl⟩:=r
  exact call_range_1 (qd I1 (by lia) (by lia) q1 q2 (by simpa using q))
theorem ua(hg:Gl X "range")(hm:X.mg "range" = none)(ha:PA X [a,b] ta)(hs:starEach [a,b] X.env=[(false,eval a X.env),(false,eval b X.env)]:=by rfl)(hs2:starEach [b] X.env=[(false,eval b X.env)]:=by rfl) :
  PI X tg (.Call (.Name "range" p) [a,b] [] pos) (iRng2 ta):=by
 intro pins s σ H R I h
 refine Call_ (eH I hg hm boot_range (AC0 (thn (ha pos pins s σ H _ I h) ?_) (by rw[hs,hs2]) (by rw[hs2];rfl)))
 rintro us s1 ⟨vs,H1,I1,r1,q1⟩
 obtain⟨i,j,e,⟨q1,q2,q3,q4⟩,q⟩:=q1
 subst e
 cases r1 with
 | cons r rr =>
  cases rr with
  | cons r' rr =>
   cases rr
   obtain⟨t,rfl⟩:=r
   obtain⟨t',rfl⟩:=r'
   exact call_range_2 (qd I1 q1 q2 q3 q4 q)
def tFor(wi:TI)(g:TG)(tb:TS):TS:=λD σ H=>wi σ H λJ H1=>∃W:Nat->Nat->St->Hp->Prop,(∃m,W 0 m σ H1)/\∀i m σ H,W i m σ H ->
 (J.stop i H/\D.nx σ H)\/(J.go i H/\∃N:St->Hp->Prop,(∀σ' H',N σ' H'->∃m',m' < m/\W (i+1) m' σ' H')/\∀x H',J.yld i H x H'->g x σ H' λσ2 H2=>tb { D with nx:=N,ct:=N,bk:=D.nx } σ2 H2)
noncomputable def fu(fp:List Addr)(h:Heap):List (Addr×Obj):=fp.filterMap λb=>(h.get? b).map λo=>(b,o)
theorem dP(hb:b∈fp)(e:h.get? b=some o):(b,o)∈fu fp h:=ACC.mpr ⟨b,hb,by rw[e];rfl⟩
theorem mL(hp:p∈fu fp h):p.1∈fp/\h.get? p.1=some p.2:=by
 obtain⟨b,hb,e⟩:=ACC.mp hp
 cases q:h.get? b with
 | none=>rw[q]at e;cases e
 | some o =>
  rw[q]at e
  have e':(b,o)=p:=AAQ e
  subst e'
  exact⟨hb,q⟩
theorem Inv.pinned(I:Inv X pins σ H s)(hf:∀b∈fp,sD X pins H b)(ho:∀b∈fp,∃o,s.heap.get? b=some o/\∀v,o.data≠.cell v):Inv X (pins++fu fp s.heap) σ H s :=
 I.pins_of λp hp=>(AAl.mp hp).elim (λz=>I.pin p (AAF _ z)) λz=>by
  obtain⟨hb,e⟩:=mL z
  obtain⟨f0,f1,f2,_⟩:=hf p.1 hb
  obtain⟨o,e',d⟩:=ho p.1 hb
  rw[e]at e';cases e'
  exact⟨e,f0,f1,f2,d⟩
theorem Inv.unpinned(I:Inv X (pins++pl) σ H s):Inv X pins σ H s:=I.pins_of λp hp=>I.pin p (AAF _ (AAd _ hp))
theorem BV(hp:PassesOwn (model X.prog X.w) X.A X.env X.xe)(hc:X.calm=true)(hi:PI X tg iter wi)(hg:PG X tg g)(hb:PSs X body tb)
  (hs:∀x,foldedSetIterable iter X.env x=pure x:=by intro _;rfl):PS X (.For tg iter body [] pos) (tFor wi g tb):=by
 intro pins s σ H D I h
 refine wpAny_For (thn (hi pins s σ H _ I h) λv s1 h1=>thn h1 λitv s2 h2=>?_) hs
 obtain⟨it,fp,tn,J,H2,e,I2,T,st2,f2,W,⟨m0,w0⟩,turn⟩:=h2
 subst e
 -- what stays true of the iterator's objects through the loop
 have stat:∀{H':Hp},(∀b∈fp,H' b=none)->∀b∈fp,sD X pins H' b:=λhn b hb=>⟨hn b hb,(f2 b hb).2⟩
 refine codeAny_forLoop_any (λn s'=>∃i σ' H',Inv X pins σ' H' s'/\tn i s'.heap/\(∀b∈fp,H' b=none)/\W i n σ' H') ?_ m0 ⟨0,σ,H2,I2,st2,λb hb=>(f2 b hb).1,w0⟩
 rintro n s3 ⟨i,σ3,H3,I3,st3,fr3,w3⟩
 rcases turn i n σ3 H3 w3 with⟨stop,qn⟩|⟨go,N,hN,step⟩
 ·refine ACO hp (thn (T.done X rfl rfl rfl hc i pins s3 σ3 H3 X.xe I3 (stat fr3) st3 stop) ?_)
  rintro r s4 ⟨hr,I4⟩
  subst hr
  exact ACN ⟨σ3,H3,I4,qn⟩
 ·refine ACO hp (thn (T.item X rfl rfl rfl hc i pins s3 σ3 H3 X.xe I3 (stat fr3) st3 go) ?_)
  rintro r s4 ⟨u,hr,h4⟩
  subst hr
  refine ACO hp (thn h4 ?_)
  rintro _ s5 ⟨x,H5,I5,r5,y5,st5,fr5⟩
  have I5':=I5.pinned (stat fr5) (T.obj _ _ st5)
  refine ACO hp (thn (hg _ s5 σ3 H5 x u _ I5' r5 (step x H5 y5)) ?_)
  rintro _ s6 ⟨σ6,H6,I6,q6⟩
  refine ACO hp (thn (hb _ s6 σ6 H6 _ I6 q6) λf s7 q7=>?_)
  have again:∀{σ7:St}{H7:Hp},Inv X (pins++fu fp s5.heap) σ7 H7 s7->N σ7 H7->∃m,m<n/\∃i σ' H',Inv X pins σ' H' s7/\tn i s7.heap/\(∀b∈fp,H' b=none)/\W i m σ' H':=λ{σ7 H7} I7 n7=>by
   obtain⟨m',hm,w7⟩:=hN σ7 H7 n7
   refine⟨m',hm,i+1,σ7,H7,I7.unpinned,T.keep _ _ _ st5 λb hb o e=>(I7.pin (b,o) (AAF _ (AAF _ (dP hb e)))).1,λb hb=>?_,w7⟩
   obtain⟨o,e,d⟩:=T.obj _ _ st5 b hb
   exact(I7.pin (b,o) (AAF _ (AAF _ (dP hb e)))).2.1
  cases f with
  | next=>obtain⟨σ7,H7,I7,n7⟩:=q7;exact again I7 n7
  | cont=>obtain⟨σ7,H7,I7,n7⟩:=q7;exact again I7 n7
  | brk=>obtain⟨σ7,H7,I7,q7⟩:=q7;exact⟨σ7,H7,I7.unpinned,q7⟩
  | ret v=>obtain⟨x7,σ7,H7,I7,r7,q7⟩:=q7;exact⟨x7,σ7,H7,I7.unpinned,r7,q7⟩
end
abbrev R2:=V->V->Hp->VK->Prop
def OpR(X:Cx)(f:Value->Value->Sem Value)(r:R2):Prop :=
 ∀(pins:List (Addr×Obj)) (s:Shared) (σ:St) (H:Hp) (x y:V) (v u:Value) (Q:VK),Inv X pins σ H s->aC x v->aC y u->r x y H Q ->
  wpAny (model X.prog X.w) X.A (f v u) (EP X pins σ Q) X.xe s
def UnR(X:Cx)(f:Value->Sem Value)(r:V->Hp->VK->Prop):Prop :=
 ∀(pins:List (Addr×Obj)) (s:Shared) (σ:St) (H:Hp) (x:V) (v:Value) (Q:VK),Inv X pins σ H s->aC x v->r x H Q ->
  wpAny (model X.prog X.w) X.A (f v) (EP X pins σ Q) X.xe s
def eE(X:Cx)(f:Value)(r:List V->Hp->VK->Prop):Prop :=
 ∀(pins:List (Addr×Obj)) (s:Shared) (σ:St) (H:Hp) (xs:List V) (us:List Value) (Q:VK),Inv X pins σ H s->au xs us->r xs H Q ->
  wpAny (model X.prog X.w) X.A (call f us) (EP X pins σ Q) X.xe s
def tOp(r:R2)(ta tb:TE):TE:=λσ H Q=>ta σ H λx H1=>tb σ H1 λy H2=>r x y H2 Q
def tUn(r:V->Hp->VK->Prop)(ta:TE):TE:=λσ H Q=>ta σ H λx H1=>r x H1 Q
def rI(C:Int->Int->Prop)(g:Int->Int->V):R2:=λx y H Q=>∃i j,x=.int i/\y=.int j/\C i j/\Q (g i j) H
def rI0(g:Int->Int->V):R2:=λx y H Q=>∃i j,x=.int i/\y=.int j/\Q (g i j) H
def rU(g:Int->V):V->Hp->VK->Prop:=λx H Q=>∃i,x=.int i/\Q (g i) H
section
variable{X:Cx}{a b c:Expr}{ta tb tc:TE}{pos:Pos}
theorem binT(ha:PE X a ta)(hb:PE X b tb){pins:List (Addr×Obj)}{s:Shared}{σ:St}{H:Hp}{R:V->V->Hp->Prop}(I:Inv X pins σ H s)
  (h:ta σ H λx H1=>tb σ H1 λy H2=>R x y H2) {Q:Value->Shared->Prop}{f:Value->Value->Sem Value}
  (hf:∀v u s2 x y H2,Inv X pins σ H2 s2->aC x v->aC y u->R x y H2->wpAny (model X.prog X.w) X.A (f v u) Q X.xe s2) :
  wpAny (model X.prog X.w) X.A (eval a X.env) (λv s₁=>wpAny (model X.prog X.w) X.A (eval b X.env) (λu s₂=>wpAny (model X.prog X.w) X.A (f v u) Q X.xe s₂) X.xe s₁) X.xe s:=by
 refine thn (ha pins s σ H _ I h) ?_
 rintro v s1 ⟨x,H1,I1,r1,q1⟩
 refine thn (hb pins s1 σ H1 _ I1 q1) ?_
 rintro u s2 ⟨y,H2,I2,r2,q2⟩
 exact hf v u s2 x y H2 I2 r1 r2 q2
theorem pe_op{op:Operator}{r:R2}(ho:OpR X (binaryOp op) r)(ha:PE X a ta)(hb:PE X b tb):PE X (.BinOp a op b pos) (tOp r ta tb):=by
 intro pins s σ H Q I h
 exact wpAny_BinOp (binT ha hb I h λv u s2 x y H2 I2 rx ry q=>ho pins s2 σ H2 x y v u Q I2 rx ry q)
theorem pe_un(ho:UnR X (unaryOp op) r)(ha:PE X a ta):PE X (.UnaryOp op a pos) (tUn r ta):=by
 intro pins s σ H Q I h
 refine UnaryOp_ (thn (ha pins s σ H _ I h) ?_)
 rintro v s1 ⟨x,H1,I1,r1,q1⟩
 exact ho pins s1 σ H1 x v Q I1 r1 q1
theorem opI{f:Value->Value->Sem Value}{C:Int->Int->Prop}{g:Int->Int->Int}
  (rule:∀(i j:Int) (t u:Tok) (s:Shared) (Q:Value->Shared->Prop) (E:Value->Shared->Prop),C i j->Q (.int (g i j) s.toks) { s with toks:=s.toks+1 }->wpAny (model X.prog X.w) X.A (f (.int i t) (.int j u)) Q E s) :
  OpR X f (rI C λi j=>.int (g i j)):=by
 intro pins s σ H x y v u Q I rx ry h
 obtain⟨i,j,rfl,rfl,hc,q⟩:=h
 obtain⟨t,rfl⟩:=rx
 obtain⟨t',rfl⟩:=ry
 exact rule i j t t' s _ _ hc ⟨.int (g i j),H,I.tok _,⟨_,rfl⟩,q⟩
theorem opI0{f:Value->Value->Sem Value}{g:Int->Int->Int}
  (rule:∀(i j:Int) (t u:Tok) (s:Shared) (Q:Value->Shared->Prop) (E:Value->Shared->Prop),Q (.int (g i j) s.toks) { s with toks:=s.toks+1 }->wpAny (model X.prog X.w) X.A (f (.int i t) (.int j u)) Q E s) :
  OpR X f (rI0 λi j=>.int (g i j)):=by
 intro pins s σ H x y v u Q I rx ry h
 obtain⟨i,j,rfl,rfl,q⟩:=h
 obtain⟨t,rfl⟩:=rx
 obtain⟨t',rfl⟩:=ry
 exact rule i j t t' s _ _ ⟨.int (g i j),H,I.tok _,⟨_,rfl⟩,q⟩
theorem opB0{f:Value->Value->Sem Value}{g:Int->Int->Bool}
  (rule:∀(i j:Int) (t u:Tok) (s:Shared) (Q:Value->Shared->Prop) (E:Value->Shared->Prop),Q (.bool (g i j)) s->wpAny (model X.prog X.w) X.A (f (.int i t) (.int j u)) Q E s) :
  OpR X f (rI0 λi j=>.bl (g i j)):=by
 intro pins s σ H x y v u Q I rx ry h
 obtain⟨i,j,rfl,rfl,q⟩:=h
 obtain⟨t,rfl⟩:=rx
 obtain⟨t',rfl⟩:=ry
 exact rule i j t t' s _ _ ⟨.bl (g i j),H,I,rfl,q⟩
def CPow(i j:Int):Prop:=0<=j/\j<=1000000/\i.natAbs<2 ^ 64
def CMul(i j:Int):Prop:=(-(2 ^ 64)<i/\i<2 ^ 64)\/(-(2 ^ 64)<j/\j<2 ^ 64)
theorem CMul.ok(h:CMul i j):IntMulOk i j:=by
 rcases h with⟨h1,h2⟩|⟨h1,h2⟩
 ·exact .of_left (intBits_le_64 h1 h2)
 ·exact .of_right (intBits_le_64 h1 h2)
theorem Cn:OpR X (binaryOp .Add) (rI0 λi j=>.int (i+j)):=opI0 λ_ _ _ _ _ _ _ q=>add_int q
theorem Ch:OpR X (binaryOp .Sub) (rI0 λi j=>.int (i-j)):=opI0 λ_ _ _ _ _ _ _ q=>sub_int q
theorem Ck:OpR X (binaryOp .Mult) (rI CMul λi j=>.int (i*j)):=opI λ_ _ _ _ _ _ _ hc q=>mul_int q hc.ok
theorem Cl:OpR X (binaryOp .Mod) (rI (λ_ j=>0<j) λi j=>.int (i % j)):=opI λi j _ _ _ _ _ hc q=>by
 have h1:(0:Int)<j:=hc
 exact mod_int' (by lia) (by rw[Int.fmod_eq_emod_of_nonneg i (by lia)];exact q)
theorem Cj:OpR X (binaryOp .Pow) (rI CPow λi j=>.int (i ^ j.toNat)):=opI λ_ _ _ _ _ _ _ hc q=>pow_int_small hc.1 hc.2.1 hc.2.2 q
theorem Ci:OpR X (binaryOp .LShift) (rI CPow λi j=>.int (i*2 ^ j.toNat)):=opI λ_ _ _ _ _ _ _ hc q=>lshift_int_small hc.1 hc.2.1 hc.2.2 q
theorem unI{f:Value->Sem Value}{g:Int->Int}
  (rule:∀(i:Int) (t:Tok) (s:Shared) (Q:Value->Shared->Prop) (E:Value->Shared->Prop),Q (.int (g i) s.toks) { s with toks:=s.toks+1 }->wpAny (model X.prog X.w) X.A (f (.int i t)) Q E s) :
  UnR X f (rU λi=>.int (g i)):=by
 intro pins s σ H x v Q I rx h
 obtain⟨i,rfl,q⟩:=h
 obtain⟨t,rfl⟩:=rx
 exact rule i t s _ _ ⟨.int (g i),H,I.tok _,⟨_,rfl⟩,q⟩
theorem Bm:UnR X (unaryOp .USub) (rU λi=>.int (-i)):=unI λ_ _ _ _ _ q=>neg_int q
end
section
variable{X:Cx}{a b c:Expr}{ta tb tc:TE}{pos:Pos}
theorem op_lt:OpR X (compareOp .Lt) (rI0 λi j=>.bl (decide (i<j))):=opB0 λ_ _ _ _ _ _ _ q=>lt_int q
theorem op_gt:OpR X (compareOp .Gt) (rI0 λi j=>.bl (decide (j<i))):=opB0 λ_ _ _ _ _ _ _ q=>gt_int q
theorem OpR.or(h:OpR X f r)(h':OpR X f r'):OpR X f (λx y H Q=>r x y H Q\/r' x y H Q):=by
 intro pins s σ H x y v u Q I rx ry q
 rcases q with q | q
 ·exact h pins s σ H x y v u Q I rx ry q
 ·exact h' pins s σ H x y v u Q I rx ry q
theorem zp(ho:OpR X (compareOp op) r)(ha:PE X a ta)(hb:PE X b tb)(hm:behindInMarks op b=false):PE X (.Compare a [op] [b] pos) (tOp r ta tb):=by
 intro pins s σ H Q I h
 exact wpAny_Compare1 (binT ha hb I h λv u s2 x y H2 I2 rx ry q=>ho pins s2 σ H2 x y v u Q I2 rx ry q) hm
def Bu(t:TE):TT:=λσ H Q=>t σ H λx H'=>∃k,x=.bl k/\Q k H'
theorem zf(ho:OpR X (compareOp op) r)(ha:PE X a ta)(hb:PE X b tb)(hm:behindInMarks op b=false):PT X (.Compare a [op] [b] pos) (Bu (tOp r ta tb)):=by
 intro pins s σ H Q I h
 refine wpAny_isTrue_Compare1 (thn (ha pins s σ H _ I h) λv s1 ⟨x,H1,I1,r1,q1⟩=>thn (hb pins s1 σ H1 _ I1 q1) λu s2 ⟨y,H2,I2,r2,q2⟩ =>
  thn (ho pins s2 σ H2 x y v u _ I2 r1 r2 q2) λc s3 ⟨z,H3,I3,r3,k,e,q3⟩=>?_) hm
 subst e
 cases r3
 exact ADa ⟨H3,I3,q3⟩
theorem kj:(sizeLine:Nat)<2 ^ 63:=by rw[ABt];decide
theorem re:OpR X (binaryOp .Add) (λx y H Q=>∃i j,x=.str i/\y=.str j/\i.length+j.length<=sizeLine/\Q (.str (i++j)) H):=by
 intro pins s σ H x y v u Q I rx ry h
 obtain⟨i,j,rfl,rfl,hz,q⟩:=h
 obtain⟨t,rfl⟩:=rx
 obtain⟨t',rfl⟩:=ry
 exact add_str (λt' tk=>⟨.str (i++j),H,I.tok _,⟨_,rfl⟩,q⟩) hz
theorem yL(r:au [x] us):∃u,us=[u]/\aC x u:=by
 cases r with
 | cons r1 r2=>cases r2;exact⟨_,rfl,r1⟩
end
structure ObjM(h:Heap)(x dx C:Addr)(mA:Str->Option Value):Prop where
 obj:h.get? x=some (PySem.W.instObj C dx)
 ns:h.Ns1 dx mA
 ne:dx≠x
structure Cls(K:AA3)(C:Addr):Prop where
 pg:PySem.W.plainGet K C Str.empty=true
 hd:PySem.W.hasDictIn K C=true
 po:PySem.W.plainOver K C=true
 sa:ACH K (.ref C) "__setattr__" = some (some (.builtin "object.__setattr__"))
structure Con(K:AA3)(C:Addr)(f:Str)(v:V)(u:Value):Prop where
 at_:ACH K (.ref C) f=some (some u)
 rel:aC v u
 get:PySem.W.specialIn K u "__get__" = some none
 cp:PySem.W.copiedNames.contains f=false
structure Meth(K:AA3)(C:Addr)(m:Str)(f:Addr):Prop where
 at_:ACH K (.ref C) m=some (some (.ref f))
 fn:PySem.W.isFn K (.ref f)=true
 kp:ABw K (.ref f)=true
section
variable{X:Cx}{pins:List (Addr×Obj)}{σ:St}{H:Hp}{s:Shared}{A:Around}{E:Value->Shared->Prop}{Q:Value->Shared->Prop}{c:Value}{b:Bool}
inductive TyOf(K:AA3)(H:Hp):V->Value->Prop where
 | non:TyOf K H .non (.type "NoneType")
 | bl (x:Bool):TyOf K H (.bl x) (.type "bool")
 | int (i:Int):TyOf K H (.int i) (.type "int")
 | str (x:Str):TyOf K H (.str x) (.type "str")
 | flt (x:UInt64):TyOf K H (.flt x) (.type "float")
 | lst {a:Addr}{xs:List V} (e:H a=some (.lst xs)):TyOf K H (.ref a) (.type "list")
 | frz {a:Addr}{o:Obj}{xs:List V} (e:H a=some (.frz o (.lst xs))):TyOf K H (.ref a) (.type "list")
 | tup {a:Addr}{xs:List V} (e:H a=some (.tup xs)):TyOf K H (.ref a) (.type "tuple")
 | dK {a:Addr}{kvs:List (Key×V)} (e:H a=some (.dK kvs)):TyOf K H (.ref a) (.type "dict")
 | dT {a:Addr}{kvs:List (List Key×V)} (e:H a=some (.dT kvs)):TyOf K H (.ref a) (.type "dict")
 | ins {a C dx:Addr}{fs:List (Str×V)} (e:H a=some (.ins C dx fs)) (cl:Cls K C) (ha:ACH K (.ref C) "__class__" = some (some (.builtin "object.__class__")))
   (hn:PySem.W.specialIn K (.builtin "object.__class__") "__get__" = some (some (.builtin "getset_descriptor.__get__"))) (htk:PySem.W.takesIn K (.builtin "object.__class__")=some true)
   (hm:PySem.W.mroIn K C (.type "object")=some true):TyOf K H (.ref a) (.ref C)
end
structure Room(k:Nat)(A:Around):Prop where
 hd:A.handled=none
 dp:A.depth+3*k+5<recursionLimit
 un:A.units+16*k+200<cLine
theorem Room.mono(r:Room k A)(h:j<=k):Room j A:=⟨r.hd,by have:=r.dp;lia,by have:=r.un;lia⟩
theorem Room.deeper(r:Room (k+1) A)(env:Env):Room k (A.deeper env) :=
 ⟨r.hd,by have:=r.dp;show A.depth+1+3*k+5<_;lia,by have:=r.un;show A.units+3+16*k+200<_;lia⟩
theorem Room.in1(r:Room (k+1) A):Room k A.in1 :=
 ⟨r.hd,by have:=r.dp;show A.depth+3*k+5<_;lia,by have:=r.un;show A.units+1+16*k+200<_;lia⟩
theorem Room.depth(r:Room k A):A.depth<recursionLimit:=by have:=r.dp;lia
def tNil:TA:=λ_ H Q=>Q [] H
def tCons(ta:TE)(tr:TA):TA:=λσ H Q=>ta σ H λx H1=>tr σ H1 λxs H2=>Q (x::xs) H2
section
variable{X:Cx}{e:Expr}{es:List Expr}{te:TE}{t:TA}{pos:Pos}
theorem ug:PA X [] tNil:=λ_ _ _ _ H Q I h=>ADb ⟨[],H,I,.nil,h⟩
theorem iK(ha:PE X e te)(hr:PA X es t)(hs:starEach (e::es) X.env=(false,eval e X.env)::starEach es X.env:=by rfl):PA X (e::es) (tCons te t):=by
 intro pos pins s σ H Q I h
 rw[hs]
 show wpAny _ _ (spliced ((false,eval e X.env)::backTo pos (starEach es X.env))) _ _ s
 refine ADH (thn (ha pins s σ H _ I h) ?_)
 rintro u s1 ⟨x,H1,I1,r1,q1⟩
 refine thn (hr pos pins s1 σ H1 _ I1 q1) ?_
 rintro us s2 ⟨xs,H2,I2,r2,q2⟩
 exact⟨x::xs,H2,I2,.cons r1 r2,q2⟩
def tTup(t:TA):TE:=λσ H Q=>t σ H λxs H1=>xs.length<=sizeLine/\∀p,H1 p=none->Q (.ref p) (upd H1 p (.tup xs))
def tLst(t:TA):TE:=λσ H Q=>t σ H λxs H1=>xs.length<=sizeLine/\∀p,H1 p=none->Q (.ref p) (upd H1 p (.lst xs))
theorem BZ{x1}(h:PA X es t):PE X (.Tuple es x1 pos) (tTup t):=by
 intro pins s σ H Q I hq
 refine wpAny_Tuple_spliced (thn (h pos pins s σ H _ I hq) λus s1 ⟨xs,H1,I1,r,z,q⟩=>⟨by rw[<-r.length];exact z,?_⟩)
 have hf:H1 s1.heap.objs.size=none:=I1.hok.fresh (AA8 _)
 refine⟨.ref s1.heap.objs.size,upd H1 s1.heap.objs.size (.tup xs),I1.laid (t':=s1.toks) (λb u e=>AA4 _ e) (AA8 _) ?_,rfl,q _ hf⟩
 exact⟨z,us,r,⟨_,AAE _ rfl,rfl,⟨_,rfl⟩,rfl⟩⟩
theorem Cd(h:PA X es t):PE X (.List es pos) (tLst t):=by
 intro pins s σ H Q I hq
 refine wpAny_List_spliced (thn (h pos pins s σ H _ I hq) λus s1 ⟨xs,H1,I1,r,z,q⟩=>⟨by rw[<-r.length];exact z,?_⟩)
 have hf:H1 s1.heap.objs.size=none:=I1.hok.fresh (AA8 _)
 refine⟨.ref s1.heap.objs.size,upd H1 s1.heap.objs.size (.lst xs),I1.laid (t':=s1.toks) (λb u e=>AA4 _ e) (AA8 _) ?_,rfl,q _ hf⟩
 exact⟨z,us,0,r,AAE _ rfl⟩
end
abbrev Sp:=List V->Hp->VK->XK->Prop
abbrev CXT:=List Env->Hp->Shared->XK->Value->Shared->Prop
structure Env0(P:Program)(w:World)(K:AA3)(mg:Str->Option Value)(base:Heap)(A:Around)(outer:List Env)(s:Shared)(H:Hp):Prop where
 frames:A.frames=some outer
 mod:Mod K mg base
 bs:∀b o,base.get? b=some o->s.heap.get? b=some o/\H b=none
 bsz:base.objs.size<=s.heap.objs.size
 funs:s.heap.FunFrames base outer
 frf:∀b∈frs outer,H b=none
 hok:HOk P w H s.heap
 bare:AllBare s.gens
inductive CE(outer:List Env)(P:Program)(w:World)(H:Hp)(s:Shared)(Q:VK)(u:Value)(s':Shared):Prop
 | mk (v:_) (H':_) (f0:s'.os=s.os) (f1:AllBare s'.gens) (f2:Un (frs outer) [] H H' s.heap s'.heap) (f3:HOk P w H' s'.heap) (f4:aC v u) (f5:Q v H')
def CR(CX:CXT)(outer:List Env)(P:Program)(w:World)(H:Hp)(s:Shared)(Q:VK)(E:XK)(r:Result)(s':Shared):Prop :=
 match r with
 | .ok (.ret u)=>CE outer P w H s Q u s'
 | .ok _=>False
 | .error e=>CX outer H s E e s'
structure FnOk(P:Program)(w:World)(K:AA3)(mg:Str->Option Value)(base:Heap)(CX:CXT)(k:Nat)(f:Addr)(fd:FuncData)(ps:List Str)(sp:Sp):Prop where
 len:∀vs H Q E,sp vs H Q E->vs.length=ps.length
 run:∀(A:Around) (outer:List Env) (s:Shared) (H:Hp) (args:Args) (us:List Value) (vs:List V) (Q:VK) (E:XK),Room k A->Env0 P w K mg base A outer s H->BindsTo s fd args (ps.zip us)->au vs us->sp vs H Q E ->
  codeAny (model P w) A (.call (.ref f) args) (CR CX outer P w H s Q E) s
theorem Env0.in1{P:Program}{w:World}{K:AA3}{mg:Str->Option Value}{base:Heap}{A:Around}{outer:List Env}{s:Shared}{H:Hp}(e:Env0 P w K mg base A outer s H) :
  Env0 P w K mg base A.in1 outer s H:=⟨e.frames,e.mod,e.bs,e.bsz,e.funs,e.frf,e.hok,e.bare⟩
section
variable{X:Cx}{pins:List (Addr×Obj)}{σ:St}{H:Hp}{s s':Shared}
theorem Inv.env0(I:Inv X pins σ H s):Env0 X.prog X.w X.K X.mg X.base X.A X.stack s H :=
 ⟨I.ok.frames,I.ok.mod,I.bs,AB3 I.ok.bsz I.sz,I.stack,I.stkFree,I.hok,I.bare⟩
theorem Inv.after(I:Inv X pins σ H s)(h:CE X.stack X.prog X.w H s Q u s'):EP X pins σ Q u s':=by
 obtain⟨v,H',os,bare,un,hok,r,q⟩:=h
 obtain⟨hh,g,d,t,os'⟩:=s'
 obtain rfl:os'=s.os:=os
 exact⟨v,H',I.call (h':=hh) (g':=g) (d':=d) (t':=t) (ch:=[]) un hok bare (λb z=>absurd z (by simp)),r,q⟩
end
def Bw(sp:Sp)(dvs:List V)(E:XK)(t:TA):TE:=λσ H Q=>t σ H λvs H1=>sp (vs++dvs) H1 Q E
def lO(K:AA3)(fd:FuncData)(ps:List Str)(ds:List Value):Prop :=
 ∀(s:Shared) (us:List Value),K.In s.heap->(us++ds).length=ps.length->BindsTo s fd ⟨us,[]⟩ (ps.zip (us++ds))
theorem lO.all{K:AA3}{fd:FuncData}{ps:List Str}(h:∀us:List Value,us.length=ps.length->bindArgs fd ⟨us,[]⟩=pure (ps.zip us)):lO K fd ps []:=λs us _ hl=>by
 rw[ABC]at hl ⊢
 exact .of_eq (h us hl)
def qI(CX:CXT)(X:Cx)(E:XK):Prop:=∀(pins:List (Addr×Obj)) (σ:St) (H:Hp) (s:Shared) (e:Value) (s':Shared),Inv X pins σ H s->CX X.stack H s E e s'->X.xe e s'
section
variable{X:Cx}{CX:CXT}{k:Nat}{f C:Addr}{fd:FuncData}{ps:List Str}{sp:Sp}{dvs:List V}{ds:List Value}{E:XK}{x m:Str}{p pos apos:Pos}{e o:Expr}{es:List Expr}{ta:TE}{t:TA}
theorem BF(F:FnOk X.prog X.w X.K X.mg X.base CX k f fd ps sp)(hr:Room k X.A)(hb:lO X.K fd ps ds)(hd:au dvs ds)(hx:qI CX X E)
  (I:Inv X pins σ H s) (r:au vs us) (h:sp (vs++dvs) H Q E):wpAny (model X.prog X.w) X.A (call (.ref f) us) (EP X pins σ Q) X.xe s:=by
 have r2:au (vs++dvs) (us++ds):=r.append hd
 have hl:(us++ds).length=ps.length:=by rw[<-r2.length];exact F.len _ _ _ _ h
 refine wpAny_call (ACU (F.run X.A X.stack s H ⟨us,[]⟩ (us++ds) (vs++dvs) Q E hr I.env0 (hb s us I.kIn hl) r2 h) λr s' hq=>?_)
 cases r with
 | error e=>exact hx pins σ H s e s' I hq
 | ok fl =>
  cases fl with
  | ret u=>exact I.after hq
  | next=>exact ABa hq
  | brk=>exact ABa hq
  | cont=>exact ABa hq
theorem zq(F:FnOk X.prog X.w X.K X.mg X.base CX k f fd ps sp)(hr:Room k X.A)(hg:Gl X x)(hm:X.mg x=some (.ref f))(hk:ABw X.K (.ref f)=true)(hb:lO X.K fd ps ds)(hd:au dvs ds)(hx:qI CX X E)
  (ha:PA X (e::es) t) (hdb:(x==("__debug__":Str))=false:=by decide) (he:starEach (e::es) X.env=(false,eval e X.env)::starEach es X.env:=by rfl) (hpl:(backTo pos (starEach es X.env)).any (·.1)=false:=by rfl) :
  PE X (.Call (.Name x p) (e::es) [] pos) (Bw sp dvs E t):=by
 intro pins s σ H Q I h
 refine ABU (jc I hg hm ?_ hdb)
 refine PySem.W.callWith_K (h₀:=X.base) I.ok.mod.kin hk (thn (ha pos pins s σ H _ I h) λus s1 ⟨vs,H1,I1,r,q⟩=>⟨I1.kIn,?_⟩) he hpl
 exact BF F hr hb hd hx I1 r q
structure Mk(K:AA3)(C f:Addr):Prop where
 makes:PySem.W.makesIn K C=true
 init:ACH K (.ref C) "__init__" = some (some (.ref f))
 fn:PySem.W.isFn K (.ref f)=true
 kp:ABw K (.ref C)=true
end
section
variable{X:Cx}{CX:CXT}{k:Nat}{f C:Addr}{fd:FuncData}{ps ks:List Str}{sp:Sp}{E:XK}{x m:Str}{p pos apos kpos:Pos}{e o:Expr}{es:List Expr}{kws:List Keyword}{te ta:TE}{t tk:TA}{nm:Option Str}
structure KBinds(K:AA3)(fd:FuncData)(ps ks:List Str)(g:List Value->List Value->List Value)(gV:List V->List V->List V):Prop where
 to:∀(s:Shared) (us ws:List Value),K.In s.heap->(g us ws).length=ps.length->BindsTo s fd ⟨us,ks.zip ws⟩ (ps.zip (g us ws))
 rel:∀{vs:List V}{us:List Value}{zs:List V}{ws:List Value},au vs us->au zs ws->au (gV vs zs) (g us ws)
variable{g:List Value->List Value->List Value}{gV:List V->List V->List V}
end
structure FnScope(N P:List Str)(sc:Scope):Prop where
 kind:sc.kind=.function
 co:sc.isCoroutine=false
 gen:sc.isGenerator=false
 nd:N.Nodup
 pre:N.take P.length=P
 par:∀x∈P,sc.names.lookup x=some .local\/sc.names.lookup x=some .cell
 nofree:∀y∈sc.names,y.2≠.free
theorem nF{kindOf:Str->Option NameKind}{x:Str}:∀{binds:List (Str×Value)}{m:Str->Option Value},(∀v,(x,v)∉binds)->bindL kindOf binds m x=m x
 | [],_,_=>rfl
 | (n,v)::r,m,h=>by
  unfold bindL
  rw[nF λw hw=>h w (AA9 _ hw)]
  split
  ·have:x≠n:=by rintro rfl;exact h v AAG
   simp[this]
  ·rfl
theorem nH{kindOf:Str->Option NameKind}{x:Str}:∀{binds:List (Str×Value)}{m:Str->Option Value},(∀v,(x,v)∉binds)->bindC kindOf binds m x=m x
 | [],_,_=>rfl
 | (n,v)::r,m,h=>by
  unfold bindC
  rw[nH λw hw=>h w (AA9 _ hw)]
  split
  ·rfl
  ·have:x≠n:=by rintro rfl;exact h v AAG
   simp[this]
theorem nG{kindOf:Str->Option NameKind}{x:Str}{v:Value}:∀{P:List Str}{vs:List Value}{i:Nat}{m:Str->Option Value},P.Nodup->P[i]?=some x->vs[i]?=some v->kindOf x=some .local ->
  bindL kindOf (P.zip vs) m x=some v
 | [],_,_,_,_,h,_,_=>by simp at h
 | _::_,[],_,_,_,_,h,_=>by simp at h
 | p::P,w::vs,0,m,nd,h1,h2,hk=>by
  simp at h1 h2;subst h1;subst h2
  show bindL kindOf ((p,w)::P.zip vs) m p=_
  unfold bindL
  rw[nF λv hv=>(ABV.mp nd).1 (ADt hv).1,if_pos hk]
  simp
 | p::P,w::vs,i+1,m,nd,h1,h2,hk=>by
  show bindL kindOf ((p,w)::P.zip vs) m x=_
  unfold bindL
  exact nG (i:=i) (ABV.mp nd).2 (by simpa using h1) (by simpa using h2) hk
theorem nI{kindOf:Str->Option NameKind}{x:Str}{v:Value}:∀{P:List Str}{vs:List Value}{i:Nat}{m:Str->Option Value},P.Nodup->P[i]?=some x->vs[i]?=some v->kindOf x≠some .local ->
  bindC kindOf (P.zip vs) m x=some v
 | [],_,_,_,_,h,_,_=>by simp at h
 | _::_,[],_,_,_,_,h,_=>by simp at h
 | p::P,w::vs,0,m,nd,h1,h2,hk=>by
  simp at h1 h2;subst h1;subst h2
  show bindC kindOf ((p,w)::P.zip vs) m p=_
  unfold bindC
  rw[nH λv hv=>(ABV.mp nd).1 (ADt hv).1,if_neg hk]
  simp
 | p::P,w::vs,i+1,m,nd,h1,h2,hk=>by
  show bindC kindOf ((p,w)::P.zip vs) m x=_
  unfold bindC
  exact nI (i:=i) (ABV.mp nd).2 (by simpa using h1) (by simpa using h2) hk
noncomputable def start(N:List Str)(vs:List V):St:=vs.map some++ADi (N.length-vs.length) none
noncomputable def jq(CX:CXT)(P:Program)(w:World)(K:AA3)(mg:Str->Option Value)(base:Heap)(N:List Str)(qual:Str)(scope:Scope)(f:Addr)(cd:Value)(A:Around)(outer:List Env)(s:Shared)(H:Hp)(E:XK):Cx where
 prog:=P
 w:=w
 K:=K
 mg:=mg
 base:=base
 A:=A.deeper (envOfC qual scope s.heap.objs.size f cd)
 N:=N
 s₀:=s
 H₀:=H
 env:=envOfC qual scope s.heap.objs.size f cd
 outer:=outer
 stack:=envOfC qual scope s.heap.objs.size f cd::outer
 ex:=[]
 calm:=true
 fn:=λ_=>true
 pn:=[]
 xe:=λe s'=>wpAny (model P w) (A.deeper (envOfC qual scope s.heap.objs.size f cd)) (leaving (envOfC qual scope s.heap.objs.size f cd) e) (λ_ s''=>CX outer H s E e s'') (λe' s''=>CX outer H s E e' s'') s'
theorem qD{sc:Scope}{n:Nat}{x:Str}(h:sc.names.lookup x=some .cell):∃c,(cellsFrom n sc.names []).lookup x=some c:=by
 have q:=ADX sc.names n [] (.inl h)
 exact ABq.mp q
theorem mZ{CX:CXT}{P:Program}{w:World}{K:AA3}{mg:Str->Option Value}{base:Heap}{N ps:List Str}{qual:Str}{scope:Scope}{f:Addr}{cd:Value}{A:Around}{outer:List Env}{s s1:Shared}{H:Hp}{E:XK}{us:List Value}{vs:List V}
  (S:FnScope N ps scope) (hd:A.handled=none) (e0:Env0 P w K mg base A outer s H) (hl:vs.length=ps.length) (r:au vs us)
  (x:InCallC s s.heap.objs.size (bindL (envOfC qual scope s.heap.objs.size f cd).kindOf (ps.zip us) λ_=>none) (cellsFrom (s.heap.objs.size+1) scope.names []) (bindC (envOfC qual scope s.heap.objs.size f cd).kindOf (ps.zip us) λ_=>none) s1) :
  Inv (jq CX P w K mg base N qual scope f cd A outer s H E) [] (start N vs) H s1:=by
 have hpl:ps.length<=N.length:=by have:=congrArg AC1 S.pre;rw[AAz]at this;lia
 obtain⟨h1,tk,rfl,hk⟩:=x.done
 have noA:∀b:Addr,b∉(jq CX P w K mg base N qual scope f cd A outer s H E).ex:=λb z=>absurd (show b∈([]:List Addr)from z) (by simp)
 refine⟨⟨e0.mod,S.kind,rfl,rfl,AA8 _,λy z c h1 h2=>?_,λy hy=>?_,λy c _ h=>?_,λ_=>hd,Around.frames_deeper e0.frames,.inr ⟨rfl,rfl⟩,λb z=>absurd z (noA b),e0.bs,e0.bsz,λb _ _=>noA b,λb z=>absurd z (noA b),e0.funs,e0.frf⟩,
  rfl,e0.bare,Un.kept hk,⟨_,x.toInCall.ns,λi y v h1 h2 h3=>?_⟩,λy c h=>⟨_,x.cell y c h⟩,e0.hok.fresh (AA8 _),λy c h=>?_,λp hp=>absurd (show p∈([]:List (Addr×Obj))from hp) (by simp),e0.hok.kept hk,?_⟩
 ·exact name_of_addr x.apart (ABL h1) (ABL h2)
 ·have hy:scope.names.lookup y=some .cell\/scope.names.lookup y=some .free:=hy
  rcases hy with hy | hy
  ·exact qD hy
  ·exact absurd rfl (S.nofree _ (ABL hy))
 ·exact ACA (x.above y c (ABL h))
 ·have hi:i<vs.length:=by
   unfold start at h2
   by_cases hi:i<vs.length
   ·exact hi
   ·rw[AAc (by simpa using hi)]at h2
    rw[ACW]at h2
    split at h2<;>cases h2
  have ha:vs[i]?=some v:=by
   unfold start at h2
   rw[AAM (by simpa using hi),AAV]at h2
   cases e:vs[i]? with
   | none=>rw[e]at h2;cases h2
   | some a=>rw[e]at h2;cases h2;rfl
  obtain⟨u,hu,rv⟩:=r.get ha
  have hp:ps[i]?=some y:=by
   rw[<-S.pre,ABJ (by lia)];exact h1
  have ndP:ps.Nodup:=by rw[<-S.pre];exact S.nd.sublist (List.take_sublist _ _)
  refine⟨u,rv,?_⟩
  rcases S.par y (AAe hp)with k | k
  ·exact .inl ⟨k,nG ndP hp hu k⟩
  ·obtain⟨c,e⟩:=qD (n:=s.heap.objs.size+1) k
   refine .inr ⟨.inl k,c,e,?_⟩
   have q:=x.cell y c e
   rw[nI ndP hp hu (by show scope.names.lookup y≠_;rw[k];decide)]at q
   exact q
 ·exact e0.hok.fresh (ACA (x.above y c (ABL h)))
 ·unfold start
  show _=N.length
  rw[AAA,AA6,ACm]
  lia
theorem As{CX:CXT}{P:Program}{w:World}{K:AA3}{mg:Str->Option Value}{base:Heap}{k:Nat}{f:Addr}{name qual:Str}{params:Arguments}{body:List Stmt}{scope:Scope}{dV kV doc pm cdv ct oc:Value}{an od:Option Addr}
  {osl:Array (Option Value)}{N ps:List Str}{sp:Sp} (lk:K.lookup f=some ⟨oc,od,.func (ACV name qual params body scope dV kV doc pm an cdv ct),osl⟩) (hcd:AEA K cdv qual=true) (S:FnScope N ps scope)
  (len:∀vs H Q E,sp vs H Q E->vs.length=ps.length)
  (hbody:∀(A:Around) (outer:List Env) (s:Shared) (H:Hp) (vs:List V) (Q:VK) (E:XK),Room k (A.deeper (envOfC qual scope s.heap.objs.size f cdv))->sp vs H Q E ->
   ∃t,PSs (jq CX P w K mg base N qual scope f cdv A outer s H E) body t/\t { nx:=λ_ H'=>Q .non H',rt:=Q } (start N vs) H) :
  FnOk P w K mg base CX (k+1) f (ACV name qual params body scope dV kV doc pm an cdv ct) ps sp:=by
 refine⟨len,λA outer s H args us vs Q E hr e0 hb r hsp=>?_⟩
 have hl:=len _ _ _ _ hsp
 have KX:K.In s.heap:=e0.mod.kin.keeps λb o e=>(e0.bs b o e).1
 have lim:s.heap.NoLimit:=e0.mod.nolimit.keeps λb o e=>(e0.bs b o e).1
 have hkind:∀y∈ps.zip us,scope.names.lookup y.1=some .local\/(scope.names.lookup y.1=some .cell/\((cellsFrom (s.heap.objs.size+1) scope.names []).lookup y.1).isSome=true):=λ⟨n,v⟩ hy=>by
  rcases S.par n (ADt hy).1 with q | q
  ·exact .inl q
  ·exact .inr ⟨q,ADX _ _ _ (.inl q)⟩
 refine codeAny_call_function hr.depth (KX _ _ lk) rfl S.co S.gen rfl (PySem.W.codeRec_of KX hcd) (hb _ _ _ _ ?_)
 refine wpAny_newFunctionEnv_cells S.kind hkind λenv he s1 x=>?_
 subst he
 refine⟨lim.keeps x.toInCall.keep,codeAny_func ?_⟩
 obtain⟨t,ht,hq⟩:=hbody A outer s H vs Q E (hr.deeper _) hsp
 have I:Inv (jq CX P w K mg base N qual scope f cdv A outer s H E) [] (start N vs) H s1:=mZ S hr.hd e0 hl r x
 refine AAo (ht [] s1 (start N vs) H _ I hq) (λfl s' hs=>?_) λe s' hs=>hs
 have fin:∀{σ':St}{H':Hp}{v:V}{u:Value},Inv (jq CX P w K mg base N qual scope f cdv A outer s H E) [] σ' H' s'->aC v u->Q v H'->CE outer P w H s Q u s' :=
  λ{σ' H' v u} J rv q=>⟨v,H',J.os,J.bare,J.base,J.hok,rv,q⟩
 cases fl with
 | ret u =>
  obtain⟨v,σ',H',J,rv,q⟩:=hs
  exact fin J rv q
 | next =>
  obtain⟨σ',H',J,q⟩:=hs
  exact fin (v:=V.non) (u:=ABp) J rfl q
 | brk =>
  obtain⟨_,_,_,q⟩:=hs
  exact ABa q
 | cont =>
  obtain⟨_,_,_,q⟩:=hs
  exact ABa q
section
variable{X:Cx}{x:Str}{p pos:Pos}{e:Expr}{es:List Expr}{t:TA}{id T:String}{r:List V->Hp->VK->Prop}
def tCB(r:List V->Hp->VK->Prop)(t:TA):TE:=λσ H Q=>t σ H λvs H1=>r vs H1 Q
theorem kM(hc:eE X (.builtin id) r)(hg:Gl X x)(hm:X.mg x=none)(hv:bootBuiltins x=some (.builtin id))(ha:PA X (e::es) t)(hn:x≠"__name__":=by decide)(hdb:(x==("__debug__":Str))=false:=by decide)
  (he:starEach (e::es) X.env=(false,eval e X.env)::starEach es X.env:=by rfl) (hpl:(backTo pos (starEach es X.env)).any (·.1)=false:=by rfl):PE X (.Call (.Name x p) (e::es) [] pos) (tCB r t):=by
 intro pins s σ H Q I h
 refine ABU (eH I hg hm hv ?_ hn hdb)
 exact PyProof.Rows.callWith_builtin1 (thn (ha pos pins s σ H _ I h) λus s1 ⟨vs,H1,I1,r1,q1⟩=>hc pins s1 σ H1 vs us Q I1 r1 q1) he hpl
theorem ud(hc:eE X (.type T) r)(hg:Gl X x)(hm:X.mg x=none)(hv:bootBuiltins x=some (.type T))(ha:PA X (e::es) t)(hn:x≠"__name__":=by decide)(hdb:(x==("__debug__":Str))=false:=by decide)
  (he:starEach (e::es) X.env=(false,eval e X.env)::starEach es X.env:=by rfl) (hpl:(backTo pos (starEach es X.env)).any (·.1)=false:=by rfl):PE X (.Call (.Name x p) (e::es) [] pos) (tCB r t):=by
 intro pins s σ H Q I h
 refine ABU (eH I hg hm hv ?_ hn hdb)
 exact AC0 (thn (ha pos pins s σ H _ I h) λus s1 ⟨vs,H1,I1,r1,q1⟩=>hc pins s1 σ H1 vs us Q I1 r1 q1) he hpl
end
end L2
namespace HT
open PySem PyProof.Rows
theorem rcLt_int(A:Around)(s:Shared)(a:Int)(t:Tok)(c:Int)(u:Tok)(prog:Program)(w:World)(E:Value->Shared->Prop)(Q:Value->Shared->Prop)(h:Q (.bool (decide (a<c))) s) :
  wpAny (model prog w) A (richCompare .Lt (.int a t) (.int c u)) Q E s :=
 (PyProof.Rows.lt_int h:wpAny (model prog w) A (compareOp .Lt (.int a t) (.int c u)) Q E s)
section
variable{prog:Program}{w:World}{A:Around}{E:Value->Shared->Prop}{s:Shared}
theorem cat_tup(ht:IsTup s.heap t vs.toArray)(hb:IsTup s.heap b ws.toArray)(hv:vs≠[])
  (h1:ws=[]->Q (.ref t) s) (h2:ws≠[]->Q (.ref s.heap.objs.size) { s with heap:=s.heap.push { cls:=.type "tuple",data:=.seq (vs++ws).toArray } })
  (hsz:vs.length+ws.length<=sizeLine):wpAny (model prog w) A (binaryOp .Add (.ref t) (.ref b)) Q E s:=by
 obtain⟨⟨cls,dd,data,sl⟩,ho,hc,n,hd⟩:=id ht
 obtain⟨⟨cls2,dd2,data2,sl2⟩,ho2,hc2,n2,hd2⟩:=id hb
 simp only at hc hd hc2 hd2
 subst hc hd hc2 hd2
 have e:vs.toArray++ws.toArray=(vs++ws).toArray:=by simp
 by_cases hw:ws=[]
 ·exact concat_meets ⟨_,ho,rfl⟩ ⟨_,ho2,rfl⟩ noFill_tuple_add seq_tuple_add ADY ADJ (ADB _ _)
   (tuple_addW1 t b vs.toArray ws.toArray n n2 dd dd2 sl sl2 (by simpa using hv) (by simp[hw])) ⟨ho,ho2,h1 hw⟩
 ·refine concat_meets ⟨_,ho,rfl⟩ ⟨_,ho2,rfl⟩ noFill_tuple_add seq_tuple_add ADY ADJ (ADB _ _)
   (tuple_addW2 t b vs.toArray ws.toArray n n2 dd dd2 sl sl2 (by simpa using hv) (by simpa using hw) (by rw[AAC,AAC];exact hsz)) ⟨ho,ho2,?_⟩
  rw[e]
  exact h2 hw
noncomputable def sIx(n d:Nat):Option Int->Nat
 | none=>d
 | some v=>if v<0 then(v+(n:Int)).toNat else min v.toNat n
theorem BD(n d:Nat)(hd:d<=n)(o:Option Int):sIx n d o<=n:=by
 cases o with
 | none=>exact hd
 | some v =>
  show (if v<0 then(v+(n:Int)).toNat else min v.toNat n)<=n
  by_cases hv:v<0
  ·rw[if_pos hv];lia
  ·rw[if_neg hv];exact Nat.min_le_right _ _
theorem vK(v:Int)(n d:Nat):(if v<0 then max (v+(n:Int)) 0 else min v (n:Int))=((sIx n d (some v):Nat):Int):=by
 show (if v<0 then max (v+(n:Int)) 0 else min v (n:Int))=(((if v<0 then(v+(n:Int)).toNat else min v.toNat n):Nat):Int)
 by_cases hv:v<0
 ·simp only[if_pos hv];lia
 ·simp only[if_neg hv];lia
theorem su(lo hi:Option Int)(n:Nat):ACz lo hi 1 (n:Int)=(((sIx n 0 lo:Nat):Int),((sIx n n hi:Nat):Int)):=by
 have h1:¬((1:Int)<0):=by lia
 unfold ACz
 simp only[h1,if_false]
 refine Prod.ext ?_ ?_
 ·cases lo with
  | none=>rfl
  | some v=>exact vK v n 0
 ·cases hi with
  | none=>rfl
  | some v=>exact vK v n n
theorem qZ(i j:Nat):ACI (i:Int) (j:Int) 1=j-i:=by
 unfold ACI
 have h1:(1:Int) > 0:=by lia
 simp only[h1,if_true,Int.ediv_one]
 split<;>lia
theorem jY(p:IsPart v o)(h:Q o s):wpAny (model prog w) A (Builtin.Slice.slicePartIndex v) Q E s:=by
 cases p with
 | none=>exact slicePart_none h
 | int i t=>exact slicePart_int h
theorem de{sl:Addr}{vl vu:Value}{lo hi:Option Int}{n:Nat}{Q:Int×Int×Nat->Shared->Prop}(hs:s.heap.IsSliceOf sl vl vu .none)(pl:IsPart vl lo)(pu:IsPart vu hi)
  (h:Q (((sIx n 0 lo:Nat):Int),1,sIx n n hi-sIx n 0 lo) s):wpAny (model prog w) A (AE6 (.ref sl) (pure (n:Int))) Q E s:=by
 obtain⟨os,hos,hcs,hds⟩:=id hs
 unfold AE6 Builtin.Slice.sliceFields
 refine AA0 (AA0 (wpAny_field hos hds (x:=vl) rfl (AA0 (wpAny_field hos hds (x:=vu) rfl (AA0 (wpAny_field hos hds (x:=.none) rfl (AA2 ?_)))))))
 refine AA0 (slicePart_none ?_)
 show wpAny _ _ (if ((1:Int)==0)=true then _ else _) _ _ s
 rw[if_neg (by decide)]
 refine AA0 (jY pl (AA0 (jY pu (AA0 (AA2 ?_)))))
 show wpAny _ _ (match ACz lo hi 1 (n:Int)with | (lo,hi)=>pure (lo,(1:Int),ACI lo hi 1)) _ _ s
 rw[su lo hi n]
 show wpAny _ _ (pure (((sIx n 0 lo:Nat):Int),(1:Int),ACI ((sIx n 0 lo:Nat):Int) ((sIx n n hi:Nat):Int) 1)) _ _ s
 rw[qZ]
 exact AA2 h
theorem wF(xs:Array Value)(i k:Nat):((AAn k).filterMap λ(m:Nat)=>xs[((i:Int)+(m:Int)*1).toNat]?).toArray=((xs.toList.drop i).take k).toArray:=by
 have e:(λ(m:Nat)=>xs[((i:Int)+(m:Int)*1).toNat]?)=λm=>xs[i+m]?:=by
  funext m
  have:((i:Int)+(m:Int)*1).toNat=i+m:=by lia
  rw[this]
 rw[e]
 have:=pick_run xs i k
 rw[List.filterMap_map]at this
 have e2:((λx=>xs[x]?) ∘ λx=>i+x)=λm=>xs[i+m]?:=rfl
 rw[e2]at this
 rw[this]
theorem getItem_tuple_cut{t sl:Addr}{items:Array Value}{vl vu:Value}{lo hi:Option Int}{Q:Value->Shared->Prop}(ht:IsTup s.heap t items)(hs:s.heap.IsSliceOf sl vl vu .none)(pl:IsPart vl lo)(pu:IsPart vu hi)
  (hw:¬(sIx items.size 0 lo=0/\sIx items.size items.size hi=items.size))
  (h:Q (.ref s.heap.objs.size) { s with heap:=s.heap.push { cls:=.type "tuple",data:=.seq ((items.toList.drop (sIx items.size 0 lo)).take (sIx items.size items.size hi-sIx items.size 0 lo)).toArray } })
  (hsz:items.size<=sizeLine):wpAny (model prog w) A (getItem (.ref t) (.ref sl)) Q E s:=by
 have htake:sizeOk (.seq ((items.toList.drop (sIx items.size 0 lo)).take (sIx items.size items.size hi-sIx items.size 0 lo)).toArray):=by
  show ((items.toList.drop (sIx items.size 0 lo)).take (sIx items.size items.size hi-sIx items.size 0 lo)).toArray.size<=sizeLine
  rw[AAC,AAz,ABb,AAJ]
  lia
 have hj:sIx items.size items.size hi<=items.size:=BD _ _ (AA8 _) hi
 obtain⟨os,hos,hcs,hds⟩:=id hs
 have hTs:s.TypeIs (.ref sl) "slice":=⟨os,hos,hcs⟩
 unfold getItem
 try with_reducible refine AAg ?_
 first | refine AA0 (AA2 ?_) | skip
 refine AA0 (wpAny_sequenceKey ht.typeIs (by decide) ?_)
 refine AA0 (AB0 (name:=AA1 "__getitem__") ht.typeIs AB5
  (AAv AB5 ht.typeIs entry_tuple_getitem ?_ (args_tuple_getitem _ _)))
 show wpAny _ _ (AC5 (.ref t) >>= _) _ _ s
 refine AA0 (tupleItemsOf_ ht ?_)
 refine AA0 (ADC hTs ?_)
 rw[if_pos (by decide)]
 refine AA0 (de hs pl pu ?_)
 have hno:¬((((sIx items.size 0 lo:Nat):Int)==0&&(1:Int)==1&&(sIx items.size items.size hi-sIx items.size 0 lo)==items.size)=true):=by
  intro q
  rw[AAO,AAO]at q
  have q1:((sIx items.size 0 lo:Nat):Int)=0:=eq_of_beq q.1.1
  have q2:sIx items.size items.size hi-sIx items.size 0 lo=items.size:=eq_of_beq q.2
  exact hw ⟨by lia,by lia⟩
 show wpAny _ _ (if (((sIx items.size 0 lo:Nat):Int)==0&&(1:Int)==1&&(sIx items.size items.size hi-sIx items.size 0 lo)==items.size)=true then _ else _) _ _ s
 rw[if_neg hno,wF]
 first
  | exact AA0 (m:=ACP _) (AAr (AA2 ⟨_,rfl,AA2 h⟩) htake)
  | exact AA0 (m:=ACP _) (AAr (AA0 (AA2 (AA2 ⟨_,rfl,AA2 h⟩))) htake)
  | exact AA0 (AA0 (m:=ACP _) (AAr (AA2 (AA2 ⟨_,rfl,AA2 h⟩)) htake))
  | exact AA0 (AA0 (m:=ACP _) (AAr (AA2 ⟨_,rfl,AA2 h⟩) htake))
end
end HT
namespace L2
open PySem PySem.Spec PyProof.Rows
abbrev TO:=St->Hp->(Option Int->Hp->Prop)->Prop
def PO(X:Cx)(e:Option Expr)(t:TO):Prop :=
 ∀(pins:List (Addr×Obj)) (s:Shared) (σ:St) (H:Hp) (Q:Option Int->Hp->Prop),Inv X pins σ H s->t σ H Q ->
  wpAny (model X.prog X.w) X.A (evalPart e X.env) (λu s'=>∃o H',Inv X pins σ H' s'/\IsPart u o/\Q o H') X.xe s
def yN:TO:=λ_ H Q=>Q none H
def tPart(t:TE):TO:=λσ H Q=>t σ H λx H1=>∃i,x=.int i/\Q (some i) H1
section
variable{X:Cx}{e:Expr}{te:TE}{lo hi:Option Expr}{tl th:TO}{pos p2:Pos}
theorem zk:PO X none yN:=by
 intro pins s σ H Q I h
 rw[evalPart_none]
 exact AA2 ⟨none,H,I,.none,h⟩
theorem zj(h:PE X e te):PO X (some e) (tPart te):=by
 intro pins s σ H Q I hw
 rw[evalPart_some]
 refine thn (h pins s σ H _ I hw) ?_
 rintro u s1 ⟨x,H1,I1,r1,q1⟩
 obtain⟨i,rfl,q⟩:=q1
 obtain⟨t,rfl⟩:=r1
 exact⟨some i,H1,I1,.int i t,q⟩
def SlR(X:Cx)(r:V->Option Int->Option Int->Hp->VK->Prop):Prop :=
 ∀(pins:List (Addr×Obj)) (s:Shared) (σ:St) (H:Hp) (x:V) (v vl vu:Value) (lo hi:Option Int) (sl:Addr) (Q:VK),Inv X pins σ H s->aC x v->s.heap.IsSliceOf sl vl vu .none->IsPart vl lo->IsPart vu hi->r x lo hi H Q ->
  ∃T id,typeLookup (.type T) "__getitem__" = pure (some (.builtin id))/\s.TypeIs v T/\wpAny (model X.prog X.w) X.A (getItem v (.ref sl)) (EP X pins σ Q) X.xe s
def tSl(r:V->Option Int->Option Int->Hp->VK->Prop)(te:TE)(tl th:TO):TE:=λσ H Q=>te σ H λx H1=>tl σ H1 λl H2=>th σ H2 λu H3=>r x l u H3 Q
theorem wI(hr:SlR X r)(he:PE X e te)(hl:PO X lo tl)(hu:PO X hi th):PE X (.Subscript e (.Slice lo hi none p2) pos) (tSl r te tl th):=by
 intro pins s σ H Q I h
 refine Subscript_ (thn (he pins s σ H _ I h) ?_)
 rintro v s1 ⟨x,H1,I1,r1,q1⟩
 refine wpAny_Slice (thn (hl pins s1 σ H1 _ I1 q1) ?_)
 rintro vl s2 ⟨l,H2,I2,pl,q2⟩
 refine thn (hu pins s2 σ H2 _ I2 q2) ?_
 rintro vu s3 ⟨u,H3,I3,pu,q3⟩
 rw[evalPart_none]
 refine AA2 ?_
 have I4:Inv X pins σ H3 { s3 with heap:=s3.heap.push { cls:=.type "slice",data:=.fields #[vl,vu,.none] } }:=I3.kept (t':=s3.toks) λb ob q=>AA4 _ q
 obtain⟨T,id,hT,ht,hg⟩:=hr pins { s3 with heap:=s3.heap.push { cls:=.type "slice",data:=.fields #[vl,vu,.none] } } σ H3 x v vl vu l u s3.heap.objs.size Q I4 r1 (Heap.IsSliceOf.new ..) pl pu q3
 show wpAny (model X.prog X.w) X.A (subscriptTail e (.Slice lo hi none p2) v (.ref s3.heap.objs.size)) (EP X pins σ Q) X.xe { s3 with heap:=s3.heap.push { cls:=.type "slice",data:=.fields #[vl,vu,.none] } }
 exact tail_any (ops:=[.ref s3.heap.objs.size,v]) ht hT hg (by with_unfolding_all rfl)
noncomputable def yA(xs:List V)(lo hi:Option Int):List V:=(xs.drop (HT.sIx xs.length 0 lo)).take (HT.sIx xs.length xs.length hi-HT.sIx xs.length 0 lo)
theorem jo(xs:List V)(lo hi:Option Int):(yA xs lo hi).length<=xs.length:=by
 unfold yA
 rw[AAz,ABb]
 lia
def rSlT(K:AA3):V->Option Int->Option Int->Hp->VK->Prop:=λx lo hi H Q=>∃a xs,x=.ref a/\SqT K H a xs /\
 ¬(HT.sIx xs.length 0 lo=0/\HT.sIx xs.length xs.length hi=xs.length)/\∀p,H p=none->Q (.ref p) (upd H p (.tup (yA xs lo hi)))
theorem BA:SlR X (rSlT X.K):=by
 intro pins s σ H x v vl vu lo hi sl Q I rx hs pl pu h
 obtain⟨a,xs,rfl,hx,hw,q⟩:=h
 cases rx
 obtain⟨its,r,ht,hz⟩:=I.tuple hx
 have hlen:its.toArray.size=xs.length:=by rw[AAC];exact r.length.symm
 refine⟨"tuple",_,AB5.lookup,ht.typeIs,?_⟩
 refine HT.getItem_tuple_cut ht hs pl pu (by rw[hlen];exact hw) ?_ (by rw[hlen];exact hz)
 rw[hlen]
 refine⟨.ref s.heap.objs.size,_,I.laid (t':=s.toks) (o:=.tup (yA xs lo hi)) (λb ob q=>AA4 _ q) (AA8 _) ?_,rfl,q _ (I.hok.fresh (AA8 _))⟩
 exact⟨AB3 (jo xs lo hi) hz,_,(r.drop (HT.sIx xs.length 0 lo)).take (HT.sIx xs.length xs.length hi-HT.sIx xs.length 0 lo),yE.new _ _⟩
def rCatT(K:AA3):R2:=λx y H Q=>∃a b xs ys,x=.ref a/\y=.ref b/\SqT K H a xs/\SqT K H b ys/\xs≠[]/\xs.length+ys.length<=sizeLine /\
 (ys=[]->Q (.ref a) H)/\(ys≠[]->∀p,H p=none->Q (.ref p) (upd H p (.tup (xs++ys))))
theorem au.nil_iff(r:au xs us):us=[]↔xs=[]:=by
 cases r with
 | nil=>simp
 | cons _ _=>simp
theorem zy:OpR X (binaryOp .Add) (rCatT X.K):=by
 intro pins s σ H x y v u Q I rx ry h
 obtain⟨a,b,xs,ys,rfl,rfl,ha,hb,hx,hz,q1,q2⟩:=h
 cases rx
 cases ry
 obtain⟨its,r1,p1,_⟩:=I.tuple ha
 obtain⟨its2,r2,p2,_⟩:=I.tuple hb
 refine HT.cat_tup p1 p2 (λz=>hx (r1.nil_iff.mp z)) (λz=>⟨.ref a,H,I,rfl,q1 (r2.nil_iff.mp z)⟩) (λz=>?_) (by rw[<-r1.length,<-r2.length];exact hz)
 refine⟨.ref s.heap.objs.size,_,I.laid (t':=s.toks) (o:=.tup (xs++ys)) (λb ob q=>AA4 _ q) (AA8 _) ?_,rfl,q2 (λw=>z (r2.nil_iff.mpr w)) _ (I.hok.fresh (AA8 _))⟩
 exact⟨by rw[AAA];exact hz,_,r1.append r2,yE.new _ _⟩
end
noncomputable def ixN(n:Nat)(i:Int):Option Nat:=if 0<=i then(if i<n then some i.toNat else none)else if -(n:Int)<=i then some (i+n).toNat else none
noncomputable def atI{α:Type}(xs:List α)(i:Int):Option α:=(ixN xs.length i).bind λj=>xs[j]?
theorem uX(h:ixN n i=some j):seqIndex? i n=some j/\j<n/\-(n:Int)<=i/\i<n:=by
 unfold ixN at h
 by_cases h0:0<=i
 ·rw[if_pos h0]at h
  by_cases h1:i<n
  ·rw[if_pos h1]at h
   have e:i.toNat=j:=AAQ h
   exact⟨by rw[seqIndex_of h0 h1,e],by lia,by lia,h1⟩
  ·rw[if_neg h1]at h;cases h
 ·rw[if_neg h0]at h
  by_cases h1:-(n:Int)<=i
  ·rw[if_pos h1]at h
   have e:(i+n).toNat=j:=AAQ h
   exact⟨by rw[seqIndex_neg (by lia) h1,e],by lia,h1,by lia⟩
  ·rw[if_neg h1]at h;cases h
theorem oZ{α:Type}{xs:List α}{i:Int}{v:α}(h:atI xs i=some v):∃j,seqIndex? i xs.length=some j/\xs[j]?=some v/\j<xs.length/\-(xs.length:Int)<=i/\i<xs.length:=by
 unfold atI at h
 cases e:ixN xs.length i with
 | none=>rw[e]at h;cases h
 | some j =>
  rw[e]at h
  obtain⟨h1,h2,h3,h4⟩:=uX e
  exact⟨j,h1,h,h2,h3,h4⟩
theorem az{α:Type}{xs:List α}{j:Nat}{v:α}(h:xs[j]?=some v):atI xs (j:Int)=some v:=by
 have hj:j<xs.length:=(AA7.mp h).1
 have e:ixN xs.length (j:Int)=some j:=by
  unfold ixN
  rw[if_pos (by lia),if_pos (by lia)];simp
 unfold atI;rw[e];exact h
def pe(b:Expr):Prop:=∀o i,subscripted b false o i=operate [o,i] (getItem o i)
def IxR(X:Cx)(r:R2):Prop :=
 ∀(value slice:Expr) (pins:List (Addr×Obj)) (s:Shared) (σ:St) (H:Hp) (x y:V) (v u:Value) (Q:VK),Inv X pins σ H s->aC x v->aC y u->r x y H Q ->
  subscripted slice false v u=operate [v,u] (getItem v u)->wpAny (model X.prog X.w) X.A (subscriptTail value slice v u) (EP X pins σ Q) X.xe s
def MtR(X:Cx)(id:String)(r:V->List V->Hp->VK->Prop):Prop :=
 ∀(pins:List (Addr×Obj)) (s:Shared) (σ:St) (H:Hp) (x:V) (xs:List V) (v:Value) (us:List Value) (Q:VK),Inv X pins σ H s->aC x v->au xs us->r x xs H Q ->
  wpAny (model X.prog X.w) X.A (call (.builtin id) (v::us)) (EP X pins σ Q) X.xe s
section
variable{X:Cx}{a b:Expr}{ta tb:TE}{pos:Pos}
theorem IxR.or(h:IxR X r)(h':IxR X r'):IxR X (λx y H Q=>r x y H Q\/r' x y H Q):=by
 intro value slice pins s σ H x y v u Q I rx ry q hs
 rcases q with q | q
 ·exact h value slice pins s σ H x y v u Q I rx ry q hs
 ·exact h' value slice pins s σ H x y v u Q I rx ry q hs
theorem pe_ix(hr:IxR X r)(ha:PE X a ta)(hb:PE X b tb)(hs:pe b):PE X (.Subscript a b pos) (tOp r ta tb):=by
 intro pins s σ H Q I h
 exact Subscript_ (binT ha hb I h λv u s2 x y H2 I2 rx ry q=>hr a b pins s2 σ H2 x y v u Q I2 rx ry q (hs _ _))
def rIxL(K:AA3):R2:=λx y H Q=>∃p xs i v,x=.ref p/\y=.int i/\SqL K H p xs/\atI xs i=some v/\Q v H
def rIxT(K:AA3):R2:=λx y H Q=>∃p xs i v,x=.ref p/\y=.int i/\SqT K H p xs/\atI xs i=some v/\Q v H
def rIxS:R2:=λx y H Q=>∃z i c,x=.str z/\y=.int i/\z.length<=sizeLine/\atI z.cps.toList i=some c/\Q (.str ⟨#[c]⟩) H
theorem Ah:IxR X (rIxL X.K):=by
 intro value slice pins s σ H x y v u Q I rx ry h hs
 obtain⟨p,xs,i,z,rfl,rfl,hq,he,q⟩:=h
 cases rx
 obtain⟨t,rfl⟩:=ry
 obtain⟨its,r,pl,hz⟩:=I.list hq
 obtain⟨j,h1,h2,h3,h4,h5⟩:=oZ he
 obtain⟨w,ew,rw'⟩:=r.get h2
 have hl:=r.length
 have hn:=kj
 have fin:EP X pins σ Q w s:=⟨z,H,I,rw',q⟩
 by_cases h0:0<=i
 ·have hj:i.toNat=j:=by
   rw[seqIndex_of h0 h5]at h1
   exact AAQ h1
  exact item_listR pl.isList h0 (by lia) (by rw[hj];simpa using ew) fin hs
 ·have hj:(i+(its.toArray.size:Int)).toNat=j:=by
   rw[seqIndex_neg (by lia) h4]at h1
   rw[AAC,<-hl]
   exact AAQ h1
  exact subscriptTail_builtinR (x:=w) pl.isList.typeIs slot_list_getitem.lookup
   (wpAny_getItem_list_neg (Q:=λr s'=>r=w/\EP X pins σ Q r s') pl.isList (by lia) (by rw[AAC]<;>lia) (by lia) (by rw[hj];simpa using ew) ⟨rfl,fin⟩) hs
theorem Do:IxR X (rIxT X.K):=by
 intro value slice pins s σ H x y v u Q I rx ry h hs
 obtain⟨p,xs,i,z,rfl,rfl,hq,he,q⟩:=h
 cases rx
 obtain⟨t,rfl⟩:=ry
 obtain⟨its,r,pl,hz⟩:=I.tuple hq
 obtain⟨j,h1,h2,h3,h4,h5⟩:=oZ he
 obtain⟨w,ew,rw'⟩:=r.get h2
 have hl:=r.length
 have hn:=kj
 have fin:EP X pins σ Q w s:=⟨z,H,I,rw',q⟩
 exact subscriptTail_builtinR (x:=w) pl.typeIs slot_tuple_getitem.lookup
  (getItem_tuple (j:=j) (Q:=λr s'=>r=w/\EP X pins σ Q r s') pl (by lia) (by lia) (by rw[AAC,<-hl];exact h1) (by simpa using ew) ⟨rfl,fin⟩) hs
theorem Dp:IxR X rIxS:=by
 intro value slice pins s σ H x y v u Q I rx ry h hs
 obtain⟨z,i,c,rfl,rfl,hz,he,q⟩:=h
 obtain⟨t,rfl⟩:=rx
 obtain⟨t',rfl⟩:=ry
 obtain⟨j,h1,h2,h3,h4,h5⟩:=oZ he
 have hl:z.cps.toList.length=z.length:=by simp[Str.length]
 rw[hl]at h1 h4 h5
 have hn:=kj
 exact tail_any (typeIs_str s z t) slot_str_getitem.lookup (getItem_str (c:=c) (by
  have e1:decide (i < -(2 ^ 63:Int))=false:=dF_ (by lia)
  have e2:decide (i ≥ 2 ^ 63)=false:=dF_ (by lia)
  rw[e1,e2,Bool.or_false]) (by rw[h1];simpa using h2) ⟨.str ⟨#[c]⟩,H,I.tok _,⟨_,rfl⟩,q⟩) hs
def rIx(K:AA3):R2:=λx y H Q=>rIxL K x y H Q\/rIxT K x y H Q\/rIxS x y H Q
theorem Dq:IxR X (rIx X.K):=Ah.or (Do.or Dp)
theorem rE(its:List Value)(n j:Nat)(u:Value):AB2 (·.setIfInBounds j u) { cls:=.type "list",data:=.seq its.toArray n }={ cls:=.type "list",data:=.seq (its.set j u).toArray n }:=by
 simp[AB2]
theorem Inv.lst(I:Inv X pins σ H s)(h:H p=some (.lst xs)) :
  ∃(its:List Value) (n:Nat),au xs its/\s.heap.get? p=some { cls:=.type "list",data:=.seq its.toArray n }/\xs.length<=sizeLine:=by
 obtain⟨z,its,n,r,e⟩:=I.hok p _ h
 exact⟨its,n,r,e,z⟩
theorem Inv.lstUpd{pins:List (Addr×Obj)}{σ:St}{H:Hp}{s:Shared}{p:Addr}{xs ys:List V}{its its':List Value}{n n':Nat}{f:Obj->Obj}(I:Inv X pins σ H s)(h:H p=some (.lst xs))
  (ho:s.heap.get? p=some { cls:=.type "list",data:=.seq its.toArray n }) (hf:f { cls:=.type "list",data:=.seq its.toArray n }={ cls:=.type "list",data:=.seq its'.toArray n' }) (r:au ys its') (hz:ys.length<=sizeLine) (t:Nat) :
  Inv X pins σ (upd H p (.lst ys)) { s with heap:=s.heap.update p f,toks:=t }:=by
 have e:(s.heap.update p f).get? p=some { cls:=.type "list",data:=.seq its'.toArray n' }:=by
  rw[AAi f ho (by rw[hf]<;>rfl),hf]
 refine I.write (x:=p) (e:=p) (by rw[h];trivial) (.inl rfl) (λb u hb q=>(ABf _ _ (ABO hb)).trans q) ⟨_,e⟩ ?_
 exact⟨hz,its',n',r,e⟩
def rSetL:V->V->V->Hp->(Hp->Prop)->Prop:=λo i v H Q=>∃p xs k j,o=.ref p/\i=.int k/\H p=some (.lst xs)/\ixN xs.length k=some j/\Q (upd H p (.lst (xs.set j v)))
theorem ww:PSet X rSetL:=by
 intro pins s σ H o i v ov iv u Q I ro ri rv h
 obtain⟨p,xs,k,j,rfl,rfl,hp,hj,q⟩:=h
 cases ro
 obtain⟨t,rfl⟩:=ri
 obtain⟨its,n,r,ho,hz⟩:=I.lst hp
 obtain⟨h1,h2,h3,h4⟩:=uX hj
 have hl:=r.length
 have hn:=kj
 have I':Inv X pins σ (upd H p (.lst (xs.set j v))) { s with heap:=s.heap.update p (AB2 (·.setIfInBounds j u)) } :=
  I.lstUpd hp ho (rE its n j u) (r.set rv j) (by rw[AAp];exact hz) s.toks
 by_cases h0:0<=k
 ·have hk:k.toNat=j:=by
   rw[seqIndex_of h0 h4]at h1
   exact AAQ h1
  exact PySem.W.ki_setAt ho h0 (by lia) (by rw[AAC,<-hl];exact h4) (by rw[hk];exact⟨_,I',q⟩)
 ·have hk:(k+(its.toArray.size:Int)).toNat=j:=by
   rw[seqIndex_neg (by lia) h3]at h1
   rw[AAC,<-hl]
   exact AAQ h1
  exact PySem.W.ki_setBack ho (by lia) (by rw[AAC,<-hl];exact h3) (by lia) (by rw[hk];exact⟨_,I',q⟩)
theorem mC(lo hi:Option Int)(n:Nat):(sliceBounds lo hi none n).1=((HT.sIx n 0 lo:Nat):Int)/\(sliceBounds lo hi none n).2.1=((HT.sIx n n hi:Nat):Int)/\(sliceBounds lo hi none n).2.2=1:=by
 refine⟨?_,?_,rfl⟩
 ·cases lo with
  | none=>simp[sliceBounds,HT.sIx]
  | some i =>
   simp only[sliceBounds,HT.sIx,Option.getD_none,show (1:Int) > 0 by decide,if_true]
   by_cases h:i<0
   ·simp only[h,if_true]<;>lia
   ·simp only[h,if_false]<;>lia
 ·cases hi with
  | none=>simp[sliceBounds,HT.sIx]
  | some i =>
   simp only[sliceBounds,HT.sIx,Option.getD_none,show (1:Int) > 0 by decide,if_true]
   by_cases h:i<0
   ·simp only[h,if_true]<;>lia
   ·simp only[h,if_false]<;>lia
theorem kH(its:List Value)(lo hi:Option Int):slicePick its.toArray lo hi none=((its.drop (HT.sIx its.length 0 lo)).take (HT.sIx its.length its.length hi-HT.sIx its.length 0 lo)).toArray:=by
 obtain⟨h1,h2,h3⟩:=mC lo hi its.toArray.size
 unfold slicePick
 rw[h1,h2,h3]
 simp only[sliceRange_one,pick_run,AAC]<;>rfl
def rSlL(K:AA3):V->Option Int->Option Int->Hp->VK->Prop:=λx lo hi H Q=>∃a xs,x=.ref a/\SqL K H a xs/\∀p,H p=none->Q (.ref p) (upd H p (.lst (yA xs lo hi)))
theorem yT:SlR X (rSlL X.K):=by
 intro pins s σ H x v vl vu lo hi sl Q I rx hs pl pu h
 obtain⟨a,xs,rfl,hx,q⟩:=h
 cases rx
 obtain⟨its,r,ht,hz⟩:=I.list hx
 have hlen:=r.length
 refine⟨"list",_,slot_list_getitem.lookup,ht.isList.typeIs,?_⟩
 refine wpAny_getItem_list_slice ht.isList hs pl pu .none (by simp) ?_ (by rw[AAC]<;>lia)
 rw[kH,<-hlen]
 refine⟨.ref s.heap.objs.size,_,I.laid (t':=s.toks) (o:=.lst (yA xs lo hi)) (λb ob q=>AA4 _ q) (AA8 _) ?_,rfl,q _ (I.hok.fresh (AA8 _))⟩
 exact⟨AB3 (jo xs lo hi) hz,_,0,(r.drop (HT.sIx xs.length 0 lo)).take (HT.sIx xs.length xs.length hi-HT.sIx xs.length 0 lo),AAE _ rfl⟩
theorem nE:eE X (.builtin "len") (λxs H Q=>∃p ys,xs=[.ref p]/\(SqL X.K H p ys\/SqT X.K H p ys)/\Q (.int ys.length) H):=by
 intro pins s σ H xs us Q I r h
 obtain⟨p,ys,rfl,hq,q⟩:=h
 obtain⟨u,rfl,rx⟩:=yL r
 cases rx
 have hn:=kj
 rcases hq with hq | hq
 ·obtain⟨its,r',pl,hz⟩:=I.list hq
  have hlen:=r'.length
  exact Calls.call_len_list pl.isList (by simp only[AAC]<;>lia) ⟨.int ys.length,H,I.tok _,⟨s.toks+1,by rw[AAC,hlen]⟩,q⟩
 ·obtain⟨its,r',pl,hz⟩:=I.tuple hq
  have hlen:=r'.length
  exact len_tuple pl (by simp only[AAC]<;>lia) ⟨.int ys.length,H,I.tok _,⟨s.toks+1,by rw[AAC,hlen]⟩,q⟩
theorem nD:eE X (.builtin "len") (λxs H Q=>∃z,xs=[.str z]/\z.length<=sizeLine/\Q (.int z.length) H):=by
 intro pins s σ H xs us Q I r h
 obtain⟨z,rfl,hz,q⟩:=h
 obtain⟨u,rfl,t,rfl⟩:=yL r
 have hn:=kj
 exact len_str (by lia) ⟨.int z.length,H,I.tok _,⟨_,rfl⟩,q⟩
theorem eE.or(h:eE X f r)(h':eE X f r'):eE X f (λxs H Q=>r xs H Q\/r' xs H Q):=by
 intro pins s σ H xs us Q I rs q
 rcases q with q | q
 ·exact h pins s σ H xs us Q I rs q
 ·exact h' pins s σ H xs us Q I rs q
theorem lI:eE X (.type "tuple") (λxs H Q=>∃p ys,xs=[.ref p]/\((SqL X.K H p ys/\∀l,H l=none->Q (.ref l) (upd H l (.tup ys)))\/(SqT X.K H p ys/\Q (.ref p) H))):=by
 intro pins s σ H xs us Q I r h
 obtain⟨p,ys,rfl,h⟩:=h
 obtain⟨u,rfl,rx⟩:=yL r
 cases rx
 rcases h with⟨hq,q⟩|⟨hq,q⟩
 ·obtain⟨its,r',pl,hz⟩:=I.list hq
  have hlen:=r'.length
  refine call_tuple_list pl.isList (λh' kp=>?_) (by simp only[AAC]<;>lia)
  have I1:Inv X pins σ H { s with heap:=h' }:=I.kept (t':=s.toks) kp
  have I2:Inv X pins σ (upd H h'.objs.size (.tup ys)) { s with heap:=h'.push { cls:=.type "tuple",data:=.seq its.toArray } } :=
   I1.laid (t':=s.toks) (λb o e=>AA4 _ e) (AA8 _) (show bJ X.prog X.w _ _ _ (.tup ys)from⟨hz,its,r',yE.new _ _⟩)
  exact⟨.ref h'.objs.size,_,I2,rfl,q _ (I1.hok.fresh (AA8 _))⟩
 ·obtain⟨its,r',pl,hz⟩:=I.tuple hq
  exact call_tuple_same pl ⟨.ref p,H,I,rfl,q⟩
def tyV(K:AA3)(T:String)(x:V)(H:Hp):Prop:=match x with
 | .str _=>T = "str"
 | .int _=>T = "int"
 | .ref p=>(T = "list"/\∃xs,SqL K H p xs)\/(T = "tuple"/\∃o,K.lookup p=some o/\o.cls=.type "tuple"/\o.dict=none) \/
   (T = "dict"/\((∃kvs,H p=some (.dK kvs))\/∃kvs,H p=some (.dT kvs)))\/(T = "set"/\∃S n,H p=some (.set S n))
 | _=>False
theorem ya(I:Inv X pins σ H s)(r:aC x v)(ty:tyV X.K T x H) :
  s.TypeIs v T/\∀a,v=.ref a->∃ob,s.heap.get? a=some ob/\ob.dict=none:=by
 cases x with
 | str z =>
  obtain⟨t,rfl⟩:=r
  cases (show T = "str" from ty)
  exact⟨typeIs_str s z t,λ_ e=>nomatch e⟩
 | int i =>
  obtain⟨t,rfl⟩:=r
  cases (show T = "int" from ty)
  exact⟨typeIs_int s i t,λ_ e=>nomatch e⟩
 | ref p =>
  cases r
  rcases ty with⟨rfl,xs,hq⟩|⟨rfl,o,hk,hc,hd⟩|⟨rfl,hk⟩|⟨rfl,S,n,hk⟩
  ·obtain⟨its,_,pl,_⟩:=I.list hq
   refine⟨pl.isList.typeIs,λa e=>?_⟩
   cases e
   obtain⟨o,n,e,c,hd,_⟩:=pl
   exact⟨o,e,hd⟩
  ·refine⟨⟨o,I.kIn p o hk,hc⟩,λa e=>?_⟩
   cases e
   exact⟨o,I.kIn _ o hk,hd⟩
  ·have z:∃o,s.heap.get? p=some o/\o.ExactDict:=by
    rcases hk with⟨kvs,hk⟩|⟨kvs,hk⟩
    ·obtain⟨_,_,_,_,o,_,_,e,ex,_⟩:=I.hok p _ hk
     exact⟨o,e,ex⟩
    ·obtain⟨_,_,_,_,o,_,_,e,ex,_⟩:=I.hok p _ hk
     exact⟨o,e,ex⟩
   obtain⟨o,e,ex⟩:=z
   refine⟨⟨o,e,ex.1⟩,λa e2=>?_⟩
   cases e2
   exact⟨o,e,ex.2.1⟩
  ·obtain⟨o,_,_,_,e,ex,_⟩:=I.hok p _ hk
   refine⟨⟨o,e,ex.1⟩,λa e2=>?_⟩
   cases e2
   exact⟨o,e,ex.2.1⟩
 | _=>exact ABa ty
def tBM0(K:AA3)(T:String)(r:V->List V->Hp->VK->Prop)(to:TE):TE:=λσ H Q=>to σ H λx H1=>tyV K T x H1/\r x [] H1 Q
def tBM(K:AA3)(T:String)(r:V->List V->Hp->VK->Prop)(to:TE)(t:TA):TE:=λσ H Q=>to σ H λx H1=>tyV K T x H1/\t σ H1 λxs H2=>r x xs H2 Q
variable{o e:Expr}{es:List Expr}{to:TE}{t:TA}{name:Str}{apos cpos:Pos}{T id:String}{r:V->List V->Hp->VK->Prop}
theorem Cf(pa:PlainAttrs T)(slot:Slot T name id)(hty:typeOf (.builtin id)=pure (.type "method_descriptor"))(hm:MtR X id r)(ho:PE X o to)
  (hbase:attributeBase o name X.env (eval o X.env)=eval o X.env:=by rfl) (hline:(apos.endLine==cpos.line)=true:=by rfl):PE X (.Call (.Attribute o name apos) [] [] cpos) (tBM0 X.K T r to):=by
 intro pins s σ H Q I h
 refine ADK hbase hline (thn (ho pins s σ H _ I h) ?_)
 rintro v s1 ⟨x,H1,I1,r1,ty,q1⟩
 obtain⟨h1,h2⟩:=ya I1 r1 ty
 exact⟨T,id,pa,slot,hty,h1,h2,ABg rfl (ADu (hm pins s1 σ H1 x [] v [] Q I1 r1 .nil q1))⟩
theorem pe_bm(pa:PlainAttrs T)(slot:Slot T name id)(hty:typeOf (.builtin id)=pure (.type "method_descriptor"))(hm:MtR X id r)(ho:PE X o to)(ha:PA X (e::es) t)
  (hbase:attributeBase o name X.env (eval o X.env)=eval o X.env:=by rfl)
  (hfew:((backTo cpos (starEach (e::es) X.env)).all (λx=>!x.1)&&(backToKw cpos (keywordEach [] X.env)).all (λx=>x.1.isSome)
   && decide ((e::es).length+([]:List Keyword).length+(if ([]:List Keyword).isEmpty then 0 else 1)<30))=true:=by rfl)
  (hline:(apos.endLine==cpos.line)=true:=by rfl) (hs:starEach (e::es) X.env=(false,eval e X.env)::starEach es X.env:=by rfl) (hplain:(backTo cpos (starEach es X.env)).any (·.1)=false:=by rfl) :
  PE X (.Call (.Attribute o name apos) (e::es) [] cpos) (tBM X.K T r to t):=by
 intro pins s σ H Q I h
 refine ADZ hbase hfew hline rfl (thn (ho pins s σ H _ I h) ?_)
 rintro v s1 ⟨x,H1,I1,r1,ty,q1⟩
 obtain⟨h1,h2⟩:=ya I1 r1 ty
 refine⟨T,id,pa,slot,hty,h1,h2,?_⟩
 have hA:=ha cpos pins s1 σ H1 _ I1 q1
 rw[hs]at hA ⊢
 refine ABg (by show (false||(backTo cpos (starEach es X.env)).any (·.1))=false;rw[hplain]<;>rfl) (ACw ?_)
 refine thn hA ?_
 rintro us s2 ⟨vs,H2,I2,r2,q2⟩
 exact hm pins s2 σ H2 x vs v us Q I2 r1 r2 q2
/- xs.append(e),list.index on a module's tuple .. are MtR facts of 06m -/
end
def MtM(X:Cx)(id:String)(r:V->List V->Hp->VK->Prop):Prop :=
 ∀(pins:List (Addr×Obj)) (s:Shared) (σ:St) (H:Hp) (x:V) (xs:List V) (v:Value) (us:List Value) (Q:VK),Inv X pins σ H s->aC x v->au xs us->r x xs H Q ->
  wpAny (model X.prog X.w) X.A (call (.builtin id) (v::us)) (EP X pins σ Q) X.xe s
theorem au.one(h:au [x] us):∃u,us=[u]/\aC x u:=by
 cases h with
 | cons r t=>cases t;exact⟨_,rfl,r⟩
theorem au.two(h:au [x,y] us):∃u v,us=[u,v]/\aC x u/\aC y v:=by
 cases h with
 | cons r t =>
  obtain⟨v,e,q⟩:=au.one t
  subst e
  exact⟨_,v,rfl,r,q⟩
theorem au.zero:∀{us:List Value},au [] us->us=[]
 | _,.nil=>rfl
theorem au.dropLast(h:au xs us):au xs.dropLast us.dropLast:=by
 induction h with
 | nil=>exact .nil
 | cons r t ih =>
  cases t with
  | nil=>exact .nil
  | cons q t'=>exact .cons r ih
theorem rX{α:Type}(l:List α):l.eraseIdx (l.length-1)=l.dropLast:=by
 induction l with
 | nil=>rfl
 | cons a r ih =>
  cases r with
  | nil=>rfl
  | cons b r =>
   have e:(a::b::r).length-1=((b::r).length-1)+1:=by
    have h1:(a::b::r).length=r.length+2:=rfl
    have h2:(b::r).length=r.length+1:=rfl
    lia
   rw[e,List.eraseIdx_cons_succ,ih]
   all_goals rfl
section
variable{X:Cx}{pins:List (Addr×Obj)}{σ:St}{H:Hp}{s:Shared}{l b:Addr}{xs ys zs:List V}
theorem Inv.lset{its its':List Value}{n:Nat}{f:Array Value->Array Value}{t':Nat}(I:Inv X pins σ H s)(hH:H l=some (.lst xs))
  (e:s.heap.get? l=some { cls:=.type "list",data:=.seq its.toArray n }) (hf:f its.toArray=its'.toArray) (hv:au ys its') (hz:ys.length<=sizeLine) :
  Inv X pins σ (upd H l (.lst ys)) { s with heap:=s.heap.update l (AB2 f),toks:=t' }:=by
 have q:=PySem.IsL.update e f
 rw[hf]at q
 refine I.write (x:=l) (e:=l) (by rw[hH];exact trivial) (.inl rfl) (λb' u hb hu=>(ABf s.heap (AB2 f) (ABO hb)).trans hu) ⟨_,q⟩ ?_
 exact⟨hz,its',_,hv,q⟩
theorem Inv.lnew(I:Inv X pins σ H s)(hv:au ys its)(hz:ys.length<=sizeLine) :
  Inv X pins σ (upd H s.heap.objs.size (.lst ys)) { s with heap:=s.heap.push { cls:=.type "list",data:=.seq its.toArray },toks:=t' } :=
 I.laid (λ_ _ q=>AA4 _ q) (AA8 _) ⟨hz,its,0,hv,AAE _ rfl⟩
theorem Inv.fresh(I:Inv X pins σ H s):H s.heap.objs.size=none:=I.hok.fresh (AA8 _)
theorem Inv.lstM(I:Inv X pins σ H s)(hH:H l=some (.lst xs)):xs.length<=sizeLine/\∃(its:List Value) (n:Nat),au xs its/\xs.length=its.length/\s.heap.get? l=some { cls:=.type "list",data:=.seq its.toArray n }:=by
 obtain⟨z,its,n,r,e⟩:=I.hok l _ hH
 exact⟨z,its,n,r,r.length,e⟩
theorem wR(h:n<=sizeLine):ADD n=false:=by
 unfold ADD
 exact dF_ (by lia)
end
section
variable{X:Cx}
def za:V->List V->Hp->VK->Prop:=λx vs H Q=>∃l xs y,x=.ref l/\vs=[y]/\H l=some (.lst xs)/\xs.length<sizeLine/\Q .non (upd H l (.lst (xs++[y])))
theorem uv:MtM X "list.append" za:=by
 intro pins s σ H x vs v us Q I rx rv h
 obtain⟨l,xs,y,rfl,rfl,hH,hz,q⟩:=h
 cases rx
 obtain⟨u,rfl,ru⟩:=rv.one
 obtain⟨z,its,n,r,hl,e⟩:=I.lstM hH
 refine call_meets F.slot_list_append ⟨_,e,rfl⟩ F.entry_list_append (F.args_list_append_2 _ _) (PySem.list_append l its.toArray n u (by rw[AAC];lia)) ⟨e,?_⟩
 refine⟨.non,_,I.lset (its':=its++[u]) hH e (by simp) (r.append (.cons ru .nil)) ?_,rfl,q⟩
 rw[AAA,AAX]
 lia
def yZ:V->List V->Hp->VK->Prop:=λx vs H Q=>∃l b xs zs,x=.ref l/\vs=[.ref b]/\H l=some (.lst xs)/\H b=some (.lst zs)/\xs.length+zs.length<=sizeLine/\Q .non (upd H l (.lst (xs++zs)))
theorem uu:MtM X "list.extend" yZ:=by
 intro pins s σ H x vs v us Q I rx rv h
 obtain⟨l,b,xs,zs,rfl,rfl,hH,hB,hz,q⟩:=h
 cases rx
 obtain⟨u,rfl,ru⟩:=rv.one
 cases ru
 obtain⟨z,its,n,r,hl,e⟩:=I.lstM hH
 obtain⟨z2,its2,n2,r2,hl2,e2⟩:=I.lstM hB
 have hsz:its.toArray.size+its2.toArray.size<=sizeLine:=by rw[AAC,AAC];lia
 have hlong:¬(!its.toArray.isEmpty&&ADD (its.toArray.size+its2.toArray.size))=true:=by
  rw[wR hsz,AEB]
  exact ABQ
 refine call_meets F.slot_list_extend ⟨_,e,rfl⟩ F.entry_list_extend (F.args_list_extend_2 _ _)
  (AutoSeq1.list_extend_list_list_0 l its.toArray n b its2.toArray n2 hlong (by rw[AAC];lia) (by lia)) ⟨e,e2,?_⟩
 refine⟨.non,_,I.lset (its':=its++its2) hH e (by simp) (r.append r2) ?_,rfl,q⟩
 rw[AAA]
 lia
def rPop:V->List V->Hp->VK->Prop:=λx vs H Q=>∃l xs y,x=.ref l/\vs=[]/\H l=some (.lst xs)/\xs[xs.length-1]?=some y/\Q y (upd H l (.lst xs.dropLast))
theorem Cz:MtM X "list.pop" rPop:=by
 intro pins s σ H x vs v us Q I rx rv h
 obtain⟨l,xs,y,rfl,rfl,hH,hy,q⟩:=h
 cases rx
 have hus:=rv.zero
 subst hus
 obtain⟨z,its,n,r,hl,e⟩:=I.lstM hH
 obtain⟨u,hu,ru⟩:=r.get hy
 have hy':its.toArray[its.toArray.size-1]?=some u:=by
  show its.toArray[its.length-1]?=some u
  rw[<-AAN,<-hl]
  exact hu
 refine call_meets F.slot_list_pop ⟨_,e,rfl⟩ F.entry_list_pop (F.args_list_pop_1 _) (MeetsSeq.list_pop_last l its.toArray n u hy' (by rw[AAC];lia)) ⟨e,?_⟩
 refine⟨y,_,I.lset (its':=its.dropLast) hH e ?_ r.dropLast ?_,ru,q⟩
 ·show its.toArray.eraseIdxIfInBounds (its.toArray.size-1)=its.dropLast.toArray
  rw[AAC,List.eraseIdxIfInBounds_toArray,rX]
 ·rw[List.length_dropLast]
  lia
def rCat:R2:=λx y H Q=>∃l b xs zs,x=.ref l/\y=.ref b/\H l=some (.lst xs)/\H b=some (.lst zs)/\xs.length+zs.length<=sizeLine/\∀p,H p=none->Q (.ref p) (upd H p (.lst (xs++zs)))
theorem Cm:OpR X (binaryOp .Add) rCat:=by
 intro pins s σ H x y v u Q I rx ry h
 obtain⟨l,b,xs,zs,rfl,rfl,hH,hB,hz,q⟩:=h
 cases rx
 cases ry
 obtain⟨z,its,n,r,hl,e⟩:=I.lstM hH
 obtain⟨z2,its2,n2,r2,hl2,e2⟩:=I.lstM hB
 refine PySem.P.add_list e e2 ?_ (by rw[AAC,AAC];lia)
 have ea:its.toArray++its2.toArray=(its++its2).toArray:=by simp
 rw[ea]
 exact⟨.ref _,_,I.lnew (t':=s.toks) (r.append r2) (by rw[AAA];lia),rfl,q _ I.fresh⟩
end
end L2
namespace Att
open PySem PySem.W PySem.Calls PyProof.Rows
theorem jg:∀(ns:List Int) (vs:List Value),WellAll P h vs (ns.map WData.int)->IntsAre vs ns:=by
 intro ns
 induction ns with
 | nil =>
  intro vs w
  rw[List.map_nil]at w
  cases w
  exact .nil
 | cons n ns ih =>
  intro vs w
  rw[AAf]at w
  cases w with
  | cons a b =>
   cases a
   exact .cons _ _ (ih _ b)
theorem tT{l:OpenLaw}{n:Nat}(hn:l.most=some n){P:Params}{h:Heap}{args:List WData}{vals:List Value}
  (hpre:l.row.toRowW.claim.pre args=true) (hwl:WellAll P h vals args) :
  ∃a vs ns,vals=[ABS a]/\args=[WData.list (ns.map WData.int)]/\h.get? a=some { cls:=.type "list",data:=.seq vs.toArray }/\IntsAre vs ns/\ns.length<=n:=by
 have hsh:WShape.hasAll [] args [.list .int]=true:=(pre_splitW hpre).1
 have hc:l.pre.holds [] { args:=args }=true:=(pre_splitW hpre).2
 obtain⟨d,r,rfl,h1,h2⟩:=hasAllW_cons hsh
 obtain rfl:=hasAllW_nil h2
 obtain⟨xs,rfl,h3⟩:=hasW_list h1
 obtain⟨ns,rfl⟩:=items_int h3
 have hlen:ns.length<=n:=by
  unfold OpenLaw.pre at hc
  have h4:(WTm.not (.lt (.lit (.int (n:Int))) (.len (.arg 0)))).holds [] { args:=[.list (ns.map .int)] }=true:=by
   have h4:=(holds_andW hc).1
   rw[hn]at h4
   exact h4
  have h5:=condW_of h4 (w_not (w_lt w_lit (w_len_list (w_arg rfl))))
  rw[AA6]at h5
  refine Nat.le_of_not_lt λq=>?_
  have q':(n:Int)<((ns.length:Nat):Int):=by lia
  first
   | (rw[dT_ q']at h5;exact absurd h5 (by decide))
   | (simp at h5;lia)
 cases hwl with
 | cons w1 w2 =>
  cases w2
  cases w1 with
  | list ho hall=>exact⟨_,_,ns,rfl,rfl,ho,jg ns _ hall,hlen⟩
theorem tZ(l:OpenLaw)(args:List WData):l.row.toRowW.claim.post args (.bool true) args=true :=
 postW_of (r:=l.row.toRowW) (X:=(true==true))
  (show WShape.has [] (.bool true) .bool=true by first | rfl | decide | simp[WShape.has,WShape.arms,WShape.armsAll])
  (show (WTm.eq .res (.lit (.bool true))).value [] { args:=args,res:=some (.bool true),after:=args }=some (.bool (true==true))from w_eq_bool (w_res rfl) w_lit) rfl
theorem attach_call{l:OpenLaw}{n:Nat}{q:Program}{loose:List Str}{XP:(Str->Option Value)->Heap->Prop}{YP:World->Heap->Prop}{d:DefRec}
  (hn:l.most=some n) (hdf:d.params.defaults=[])
  (call:∀(w:World) (s₀ s₁:Shared) (mg mb:Str->Option Value) (fa:Addr) (o:Obj) (pm cd doc:Value) (a:Addr) (vs:List Value) (ns:List Int),
   Ground q loose [] XP w s₀ mg mb s₁.heap->YP w s₁.heap ->
   s₁.heap.get? fa=some o->o.data=.func (docDef d.name d.params d.body d.scope pm cd doc)->s₁.heap.CodeRec cd d.name->mg d.name=some (.ref fa) ->
   s₁.heap.get? a=some { cls:=.type "list",data:=.seq vs.toArray }->IntsAre vs ns->ns.length<=n->s₁.gens = #[] ->
   codeAny (model l.prog w) callerA (.call (.ref fa) ⟨[.ref a],[]⟩) (λr s'=>r=.ok (.ret (.bool true))/\OldK s₁.heap s'.heap/\s'.os=s₁.os/\AllBare s'.gens) s₁) :
  WalkO q loose XP YP l.row.toRowW d [] (λf vs=>PySem.call f vs):=by
 intro w s₀ s₁ mg mb G Y fa o pm cd doc dV kV ho hd hcd hD hmg hg args vals as hpre hlay hrd hwl hlo
 obtain rfl:dV=.none:=Dflts.none hD hdf
 obtain rfl:kV=.none:=Dflts.noKw hD
 obtain⟨a,vs,ns,rfl,rfl,hobj,hints,hlen⟩:=tT hn hpre hwl
 refine enter_call (ACU (call w s₀ s₁ mg mb fa o pm cd doc a vs ns G Y ho (fd_plain hd) hcd hmg hobj hints hlen hg) λr s' hq=>?_)
 obtain⟨rfl,h2,h3,h4⟩:=hq
 exact⟨.inl ⟨.bool true,.bool true,[],rfl,λ_=>rfl,.bool true,tZ l _,λ_=>⟨ACq,λ_ hm=>(nomatch hm)⟩⟩,h2,h3,h4⟩
section
variable{prog:Program}{w:World}{A:Around}{E:Value->Shared->Prop}{s:Shared}{K:Frag}
noncomputable def noObjs(h:Heap):Heap:={ h with objs:=#[] }
theorem noObjs_get(h:Heap)(b:Addr):(noObjs h).get? b=none:=by
 cases e:(noObjs h).get? b with
 | none=>rfl
 | some o=>exact absurd (AAH e) (ABW _)
noncomputable def ledger(h:Heap)(L d:Addr):List (Addr×Obj):=(AAn h.objs.size).filterMap λa=>if a=L\/a=d then none else(h.get? a).map λo=>(a,o)
theorem mem_ledger:(a,o)∈ledger h L d↔a≠L/\a≠d/\h.get? a=some o:=by
 unfold ledger
 rw[ACC]
 constructor
 ·rintro⟨b,_,e⟩
  split at e
  ·cases e
  ·rename_i hb
   obtain⟨o',ho,e'⟩:=ABh.mp e
   cases e'
   exact⟨λq=>hb (.inl q),λq=>hb (.inr q),ho⟩
 ·rintro⟨n1,n2,ho⟩
  refine⟨a,AAu.mpr (AAH ho),?_⟩
  rw[if_neg (show ¬(a=L\/a=d)from λq=>q.elim n1 n2),ho]<;>rfl
theorem news_ledger(hne:d≠L)(ho:h.get? d=some od):News (noObjs h) L h ([]++(d,od)::ledger h L d):=by
 rintro⟨a,o⟩ hp
 rcases AAK.mp hp with e | hp
 ·cases e
  exact⟨ho,hne,noObjs_get _ _⟩
 ·obtain⟨n1,n2,e⟩:=mem_ledger.mp hp
  exact⟨e,n1,noObjs_get _ _⟩
theorem fr_all(n:h.Ns L m):Fr (noObjs h) L h m :=
 ⟨n,λb o e=>(by rw[noObjs_get]at e;cases e),AAT _⟩
end
end Att
namespace L2
open PySem PySem.Spec PyProof.Rows
theorem lT:∀{vs:List Value}{ns:List Int},IntsAre vs ns->au (ns.map V.int) vs
 | _,_,.nil=>.nil
 | _,_,.cons n t h=>.cons ⟨t,rfl⟩ (lT h)
noncomputable abbrev KOf{K:AA3}{h:Heap}(_:K.In h):AA3:=K
noncomputable def eT(s:Stmt):Arguments:=match s with
 | .FunctionDef _ a _ _ _ _ _ _ _ _=>a
 | _=>{ posonlyargs:=[],args:=[],vararg:=none,kwonlyargs:=[],kw_defaults:=[],kwarg:=none,defaults:=[] }
noncomputable def bc(s:Stmt):List Stmt:=match s with
 | .FunctionDef _ _ b _ _ _ _ _ _ _=>b
 | _=>[]
noncomputable def ak(s:Stmt):Scope:=match s with
 | .FunctionDef _ _ _ _ _ _ sc _ _ _=>sc
 | _=>{ kind:=.function,names:=[],isGenerator:=false,isCoroutine:=false }
abbrev CX0:CXT:=λ_ _ _ _ _ _=>False
abbrev E0:XK:=λ_ _ _=>False
theorem pass0:qI CX0 X E0:=λ_ _ _ _ _ _ _ h=>h.elim
structure Fun(K:AA3)(x qual:Str)(st:Stmt)(f:Addr)(fd:FuncData):Prop where
 ex:∃(oc:Value) (od:Option Addr) (kV doc pm:Value) (an:Option Addr) (cdv ct:Value) (osl:Array (Option Value)),
  fd=ACV x qual (eT st) (bc st) (ak st) .none kV doc pm an cdv ct/\K.lookup f=some ⟨oc,od,.func fd,osl⟩/\AEA K cdv qual=true
 kp:ABw K (.ref f)=true
section
variable{P:Program}{w:World}{K:AA3}{mg:Str->Option Value}{base:Heap}
theorem Fun.ok{x qual:Str}{st:Stmt}{f:Addr}{fd:FuncData}{N ps:List Str}{k:Nat}{sp:Sp}(F:Fun K x qual st f fd)(S:FnScope N ps (ak st))(len:∀vs H Q E,sp vs H Q E->vs.length=ps.length)
  (hbody:∀(cdv:Value) (A:Around) (outer:List Env) (s:Shared) (H:Hp) (vs:List V) (Q:VK) (E:XK),Room k (A.deeper (envOfC qual (ak st) s.heap.objs.size f cdv))->sp vs H Q E ->
   ∃t,PSs (jq CX0 P w K mg base N qual (ak st) f cdv A outer s H E).nox (bc st) t/\t { nx:=λ_ H'=>Q .non H',rt:=Q } (start N vs) H):FnOk P w K mg base CX0 (k+1) f fd ps sp:=by
 obtain⟨oc,od,kV,doc,pm,an,cdv,ct,osl,rfl,lk,hcd⟩:=F.ex
 refine As lk hcd S len λA outer s H vs Q E hr hsp=>?_
 obtain⟨t,h,q⟩:=hbody cdv A outer s H vs Q E hr hsp
 exact⟨t,h.nox,q⟩
theorem Fun.binds{x qual:Str}{st:Stmt}{f:Addr}{fd:FuncData}{ps:List Str}(F:Fun K x qual st f fd)
  (h:∀(kV doc pm:Value) (an:Option Addr) (cdv ct:Value) (us:List Value),us.length=ps.length->bindArgs (ACV x qual (eT st) (bc st) (ak st) .none kV doc pm an cdv ct) ⟨us,[]⟩=pure (ps.zip us)):lO K fd ps []:=by
 obtain⟨oc,od,kV,doc,pm,an,cdv,ct,osl,rfl,lk,hcd⟩:=F.ex
 exact .all (h kV doc pm an cdv ct)
theorem DN{x qual:Str}{st:Stmt}{f:Addr}{oc:Value}{od an:Option Addr}{osl:Array (Option Value)}{kV doc pm cdv ct:Value}(l:K.lookup f=some ⟨oc,od,.func (ACV x qual (eT st) (bc st) (ak st) .none kV doc pm an cdv ct),osl⟩)
  (c:AEA K cdv qual=true) (k:ABw K (.ref f)=true):Fun K x qual st f (ACV x qual (eT st) (bc st) (ak st) .none kV doc pm an cdv ct):=⟨⟨oc,od,kV,doc,pm,an,cdv,ct,osl,rfl,l,c⟩,k⟩
end
theorem aF(h:n<=1000):n<sizeLine:=Nat.lt_of_le_of_lt h (by decide)
section
variable{X:Cx}
theorem pv(i:Nat)(hN:X.N[i]?=some x:=by rfl)(hv:Vis X.env.scope x:=by first | exact Or.inl rfl | exact Or.inr (Or.inl rfl) | exact Or.inr (Or.inr rfl))(hd:(x==("__debug__":Str))=false:=by decide)
  (hcd:(x==("__classdict__":Str))=false:=by decide):PE X (.Name x pos) (tVar i):=yh hN hv hd hcd
end
theorem bK{A B:Prop}(h:B):if false=true then A else B:=by
 rw[if_neg ABQ]
 exact h
theorem cx{A B:Prop}(h:A):if true=true then A else B:=by
 rw[if_pos rfl]
 exact h
section
variable{κ:Type}[DecidableEq κ]
noncomputable def putK(kvs:List (κ×V))(k:κ)(v:V):List (κ×V) :=
 if (kvs.any λkv=>decide (kv.1=k))=true then kvs.map (λkv=>if kv.1=k then(kv.1,v)else kv)else kvs++[(k,v)]
theorem KV.any(r:KV kvs vs)(k:κ):(kvs.any λkv=>decide (kv.1=k))=vs.any λkv=>decide (kv.1=k):=by
 unfold KV at r
 induction r with
 | nil=>rfl
 | cons h t ih=>rw[List.any_cons,List.any_cons,ih,h.1]
theorem KV.repl(r:KV kvs vs)(k:κ)(ry:aC y u) :
  KV (kvs.map λkv=>if kv.1=k then(kv.1,y)else kv) (vs.map λkv=>if kv.1=k then(kv.1,u)else kv):=by
 unfold KV at r ⊢
 induction r with
 | nil=>exact .nil
 | @cons p q ps qs h t ih =>
  rw[AAf,AAf]
  refine .cons ?_ ih
  obtain⟨h1,h2⟩:=h
  by_cases e:p.1=k
  ·rw[if_pos e,if_pos (h1.symm.trans e)];exact⟨h1,ry⟩
  ·rw[if_neg e,if_neg (λz=>e (h1.trans z))];exact⟨h1,h2⟩
theorem KV.put(r:KV kvs vs)(k:κ)(ry:aC y u):KV (putK kvs k y) (stored vs k u):=by
 unfold putK stored
 rw[r.any k]
 by_cases e:(vs.any λkv=>decide (kv.1=k))=true
 ·rw[if_pos e,if_pos e];exact r.repl k ry
 ·rw[if_neg e,if_neg e];exact Paired.snoc r ⟨rfl,ry⟩
end
section
variable{X:Cx}{pins:List (Addr×Obj)}{σ:St}{H:Hp}{s:Shared}{a:Addr}{y v:V}{u r:Value}{o:Option V}{A:Around}{E:Value->Shared->Prop}
theorem Inv.big(I:Inv X pins σ H s):sysModules<s.heap.objs.size:=by
 have h:mainGlobals<s.heap.objs.size:=(I.mod.glob.keeps I.bk).lt
 exact Nat.lt_trans (by decide) h
theorem vG(I:Inv X pins σ H s)(mu:Mut (H a))(hs:ACB a s.heap h')(he:∃q,h'.get? a=some q)(new:bJ X.prog X.w (upd H a ob) h' a ob) :
  Inv X pins σ (upd H a ob) { s with heap:=h',toks:=t' } :=
 I.write (x:=a) (e:=a) mu (.inl rfl) (λb q hb z=>(hs.2 b hb).trans z) he new
end
def NoSl(i:Expr):Prop:=∀ov iv,subscripted i false ov iv=operate [ov,iv] (getItem ov iv)
theorem yO{prog:Program}{w:World}{A:Around}{E:Value->Shared->Prop}{s:Shared}{env:Env}{value slice:Expr}{pos:Pos}{T id:String}{Q:Value->Shared->Prop}
  (hl:typeLookup (.type T) "__getitem__" = pure (some (.builtin id))) (hs:NoSl slice)
  (h:wpAny (model prog w) A (eval value env) (λo s₁=>wpAny (model prog w) A (eval slice env) (λi s₂=>s₂.TypeIs o T/\wpAny (model prog w) A (getItem o i) Q E s₂) E s₁) E s) :
  wpAny (model prog w) A (eval (.Subscript value slice pos) env) Q E s:=by
 refine Subscript_ (AAo h (λo s₁ h₁=>AAo h₁ (λi s₂ h₂=>?_) λ_ _ x=>x) λ_ _ x=>x)
 obtain⟨hT,h₂⟩:=h₂
 unfold subscriptTail
 refine AA0 ?_
 rw[getitemInPython_of_ne hT.not_modules]
 refine AA0 (ABm hT hl ?_)
 have fin:wpAny (model prog w) A (subscripted slice false o i) (λr s₃=>wpAny (model prog w) A (letTemporaryGo value o r >>= λ_=>pure r) Q E s₃) E s₂:=by
  rw[hs o i]
  exact wpAny_operating (AAo h₂ (λr s₃ h₃=>AA0 (wpAny_letTemporaryGo (AA2 h₃))) λ_ _ x=>x)
 first
  | exact AA2 (AA0 fin)
  | exact AA0 (AA2 (AA0 fin))
  | exact AA0 fin
end L2
namespace DL
open PySem
theorem eV(env:Env):∀(names:List (Str×NameKind)) (acc:List (Str×Addr)),
  (∀p∈names,p.2=ABA->∃c,env.cells.lookup p.1=some c) ->
  ∃cl,(forIn (m:=Sem) names acc λ(p:Str×NameKind) (r:List (Str×Addr)) =>
    if (p.2==ABA)=true then(do let a <-cellOf env p.1;pure (ADv ((p.1,a)::r)))else pure (ADv r))=pure cl /\
   (∀z c,cl.lookup z=some c->acc.lookup z=some c\/env.cells.lookup z=some c) /\
   (∀z c,acc.lookup z=some c->∃c',cl.lookup z=some c') /\
   (∀p∈names,p.2=ABA->∃c,cl.lookup p.1=some c)
 | [],acc,_=>⟨acc,rfl,λ_ _ h=>.inl h,λz c h=>⟨c,h⟩,λ_ h=>nomatch h⟩
 | (n,k)::ax,acc,hyp=>by
  by_cases hk:k=ABA
  ·subst hk
   obtain⟨c0,hc0⟩:=hyp (n,.free) AAG rfl
   obtain⟨cl,e,h1,h2,h3⟩:=eV env ax ((n,c0)::acc) λp hp=>hyp p (AA9 _ hp)
   have ce:cellOf env n=pure c0:=by unfold cellOf;rw[hc0]
   have own:∃c',cl.lookup n=some c':=h2 n c0 (by simp[ABc])
   refine⟨cl,?_,λz c hz=>?_,λz c hz=>?_,λp hp hf=>?_⟩
   ·rw[List.forIn_cons]
    simp only[beq_self_eq_true,if_true,ce,pure_bind]
    exact e
   ·rcases h1 z c hz with q | q
    ·rw[ABc]at q
     by_cases hz':(z==n)=true
     ·rw[hz']at q
      have:z=n:=by simpa using hz'
      subst this
      cases q
      exact .inr hc0
     ·have hz'':(z==n)=false:=by simpa using hz'
      rw[hz'']at q
      exact .inl q
    ·exact .inr q
   ·by_cases hz':z=n
    ·subst hz';exact own
    ·refine h2 z c ?_
     rw[ABc]
     have hz'':(z==n)=false:=by simpa using hz'
     rw[hz'']
     exact hz
   ·rcases AAK.mp hp with rfl | hp
    ·exact own
    ·exact h3 p hp hf
  ·have hb:(k==ABA)=false:=by simpa using hk
   obtain⟨cl,e,h1,h2,h3⟩:=eV env ax acc λp hp=>hyp p (AA9 _ hp)
   refine⟨cl,?_,h1,h2,λp hp hf=>?_⟩
   ·rw[List.forIn_cons]
    simp only[hb,AAD,if_false,pure_bind]
    exact e
   ·rcases AAK.mp hp with rfl | hp
    ·exact absurd hf hk
    ·exact h3 p hp hf
theorem gI(hyp:∀p∈scope.names,p.2=ABA->∃c,env.cells.lookup p.1=some c) :
  ∃cl,closureFor scope env=pure cl/\(∀z c,cl.lookup z=some c->env.cells.lookup z=some c)/\(∀p∈scope.names,p.2=ABA->∃c,cl.lookup p.1=some c):=by
 obtain⟨cl,e,h1,h2,h3⟩:=eV env scope.names [] hyp
 refine⟨cl,?_,λz c hz=>?_,h3⟩
 ·unfold closureFor
  simp only[bind_pure]
  exact e
 ·rcases h1 z c hz with q | q
  ·simp at q
  ·exact q
theorem dq{env:Env}:∀{names:List (Str×NameKind)}{x:Str}{k:NameKind},
  (names.map λ(p:Str×NameKind)=>if (p.2==ABA&&env.scope.kind==.function&&env.kindOf p.1==some .cell)=true then(p.1,ACX)else(p.1,p.2)).lookup x=some k ->
   (names.lookup x=some k\/(k=ACX/\names.lookup x=some .free))
 | [],_,_,h=>by simp at h
 | (n,j)::ax,x,k,h=>by
  have ih:=@dq env ax x k
  rw[AAf,ABc]at h
  by_cases hx:(x==n)=true
  ·have hl:List.lookup x ((n,j)::ax)=some j:=by rw[ABc,hx]
   rw[hl]
   by_cases hc:(j==ABA&&env.scope.kind==.function&&env.kindOf n==some .cell)=true
   ·simp only[hc,if_true,hx]at h
    cases h
    have:j=ABA:=by
     simp only[AAO]at hc
     simpa using hc.1.1
    exact .inr ⟨rfl,by rw[this]⟩
   ·simp only[hc,AAD,if_false,hx]at h
    exact .inl h
  ·have hx':(x==n)=false:=by simpa using hx
   have hl:List.lookup x ((n,j)::ax)=List.lookup x ax:=by rw[ABc,hx']
   rw[hl]
   refine ih ?_
   by_cases hc:(j==ABA&&env.scope.kind==.function&&env.kindOf n==some .cell)=true
   ·simp only[hc,if_true,hx']at h
    exact h
   ·simp only[hc,AAD,if_false,hx']at h
    exact h
section
variable{prog:Program}{w:World}{A:Around}{R:Result->Shared->Prop}{s:Shared}
theorem kD(ifs:List Expr)(env:Env):compTests ifs env =
  (forIn ifs true λc r=>if r=true then do let ok <-isTrue c env (eval c env);pure (ADv ok)else pure (ADv r)):=by
 unfold compTests
 simp only[bind_pure]
theorem sj(J:Nat->Shared->Prop)(ne:Value->Shared->Prop)
  (hne:∀e s',ne e s'->notedBy (model prog w) A env (λe s'=>R (.error e) s') e s')
  (turn:∀n s,J n s->wpAny (model prog w) A (pyNext it) (λr s1=>match r with
   | none=>R (.ok .next) s1
   | some v=>wpAny (model prog w) A (letOwnedTupleGo target it v) (λ_ s2=>wpAny (model prog w) A (assign target env v) (λ_ s3 =>
     wpAny (model prog w) A (compTests ifs env) (λok s4 =>
      if ok=true then wpAny (model prog w) A (eval elt env) (λy s5=>wpAny (model prog w) A (call (.builtin "list.append") [acc,y]) (λ_ s6=>∃m,m<n/\J m s6) ne s5) ne s4
      else ∃m,m<n/\J m s4) ne s3) ne s2) ne s1) ne s)
  (n:Nat) (h:J n s):codeAny (model prog w) A (.compLoop (.ListComp elt [⟨target,iter,ifs,0⟩] scope pos) 0 it acc env) R s:=by
 refine codeAny_loop rfl J (λn s hJ=>?_) n h
 show wpAny _ A ((compTurn (.ListComp elt [⟨target,iter,ifs,0⟩] scope pos) 0 it acc env).onRaise (λx=>do noteFrame x env;theTreesLotGoes x)) _ _ s
 refine wpAny_noted ?_
 rw[compTurn_list]
 refine AA0 (wpAny_standAt (AA0 (AAo (turn n s hJ) (λr s1 h1=>?_) hne)))
 cases r with
 | none=>exact AA2 h1
 | some v =>
  refine AA0 (AAo h1 (λ_ s2 h2=>?_) hne)
  refine AA0 (AAo h2 (λ_ s3 h3=>?_) hne)
  rw[kD]at h3
  refine AA0 (AAo h3 (λok s4 h4=>?_) hne)
  cases ok with
  | false=>exact AA2 ⟨rfl,h4⟩
  | true =>
   exact AA0 (AA0 (AAo h4 (λy s5 h5=>AA0 (AAo h5 (λ_ s6 h6=>AA2 (AA2 ⟨rfl,h6⟩)) hne)) hne))
end
end DL
namespace L2
open PySem PySem.Spec PyProof.Rows DL
theorem gx{env:Env}:∀{names:List (Str×NameKind)}{x:Str},names.lookup x=some .free ->
  ((names.map λ(p:Str×NameKind)=>if (p.2==ABA&&env.scope.kind==.function&&env.kindOf p.1==some .cell)=true then(p.1,ACX)else(p.1,p.2)).lookup x=some .cell \/
   (names.map λ(p:Str×NameKind)=>if (p.2==ABA&&env.scope.kind==.function&&env.kindOf p.1==some .cell)=true then(p.1,ACX)else(p.1,p.2)).lookup x=some .free)
 | [],_,h=>by simp at h
 | (n,j)::ax,x,h=>by
  have ih:=@gx env ax x
  rw[AAf,ABc]
  rw[ABc]at h
  by_cases hc:(j==ABA&&env.scope.kind==.function&&env.kindOf n==some .cell)=true
  ·by_cases hx:(x==n)=true
   ·simp[hc,hx]
   ·have hx':(x==n)=false:=by simpa using hx
    rw[hx']at h
    simp only[hc,if_true,hx']
    exact ih h
  ·by_cases hx:(x==n)=true
   ·rw[hx]at h
    cases h
    right
    simp only[hc,AAD,if_false,hx]
   ·have hx':(x==n)=false:=by simpa using hx
    rw[hx']at h
    simp only[hc,AAD,if_false,hx']
    exact ih h
noncomputable def blk(X:Cx)(N':List Str)(scope:Scope)(cl:List (Str×Addr))(s₀:Shared)(H₀:Hp)(ex:List Addr):Cx :=
 { X with N:=N',s₀:=s₀,H₀:=H₀,env:=compEnvC scope cl s₀.heap.objs.size X.env,outer:=X.stack,ex:=ex,fn:=λx=>scope.names.lookup x==some .cell,pn:=[],xe:=λ_ _=>False }
structure BlkSc(X:Cx)(N':List Str)(nt:Nat)(js:List Nat)(scope:Scope):Prop where
 kind:scope.kind=.function
 nocell:∀y∈scope.names,y.2≠.cell
 loc:∀y∈scope.names,y.2=.local->scope.names.lookup y.1=some .local
 free:∀y∈scope.names,y.2=.free->(X.env.kindOf y.1=some .cell\/X.env.kindOf y.1=some .free)
 len:N'.length=nt+js.length
 fr:∀(k j:Nat),js[k]?=some j->∃x,N'[nt+k]?=some x/\X.N[j]?=some x/\scope.names.lookup x=some .free/\(X.env.kindOf x=some .cell\/X.env.kindOf x=some .free)
noncomputable def bst(nt:Nat)(js:List Nat)(σ:St):St:=ADi nt none++js.map λj=>(σ[j]?).join
theorem vR(nt:Nat)(js:List Nat)(σ:St):(bst nt js σ).length=nt+js.length:=by simp[bst]
theorem AM(h:(bst nt js σ)[i]?=some (some v)):∃k j,i=nt+k/\js[k]?=some j/\σ[j]?=some (some v):=by
 unfold bst at h
 by_cases hi:i<nt
 ·rw[AAM (by simpa using hi),ACW]at h
  simp[hi]at h
 ·rw[AAc (by simpa using ACr.mp hi),ACm,AAV]at h
  cases e:js[i-nt]? with
  | none=>rw[e]at h;cases h
  | some j =>
   rw[e]at h
   refine⟨i-nt,j,by lia,e,?_⟩
   have h':(σ[j]?).join=some v:=by simpa using h
   cases q:σ[j]? with
   | none=>rw[q]at h';cases h'
   | some o=>rw[q]at h';exact congrArg some h'
def PTs(X:Cx)(ifs:List Expr)(t:TT):Prop :=
 ∀(pins:List (Addr×Obj)) (s:Shared) (σ:St) (H:Hp) (Q:Bool->Hp->Prop),Inv X pins σ H s->t σ H Q->wpAny (model X.prog X.w) X.A (compTests ifs X.env) (TP X pins σ Q) X.xe s
def ttNil:TT:=λ_ H Q=>Q true H
theorem ze:PTs X [] ttNil:=λpins s σ H Q I h=>by
 rw[kD]
 exact wpAny_tests_nil ⟨H,I,h⟩
theorem zd(h:PT X c t):PTs X [c] t:=λpins s σ H Q I hq=>by
 rw[kD]
 exact wpAny_tests_one (h pins s σ H Q I hq)
def tLC(nt:Nat)(js:List Nat)(wi:TI)(g:TG)(tt:TT)(te:TE):TE:=λσ H Q=>wi σ H λJ H1=>∃W:Nat->Nat->List V->St->Hp->Prop,(∃m,W 0 m [] (bst nt js σ) H1) /\
 ∀i m vs τ H,W i m vs τ H->(J.stop i H/\∀p,H p=none->Q (.ref p) (upd H p (.lst vs))) \/
  (J.go i H/\∀x H',J.yld i H x H'->g x τ H' λτ2 H2=>tt τ2 H2 λb H3=>if b=true then te τ2 H3 λy H4=>vs.length<sizeLine/\∃m',m' < m/\W (i+1) m' (vs++[y]) τ2 H4 else ∃m',m' < m/\W (i+1) m' vs τ2 H3)
noncomputable abbrev bH(its:List Value)(k:Nat):Obj:={ cls:=.type "list",data:=.seq its.toArray k }
section
variable{X:Cx}{pins:List (Addr×Obj)}{σ:St}{H:Hp}{s:Shared}
theorem Inv.blkOk(B:BlkSc X N' nt js scope)(I:Inv X pins σ H s)
  (hcl1:∀z c,cl.lookup z=some c->X.env.cells.lookup z=some c) (hcl2:∀p∈scope.names,p.2=ABA->∃c,cl.lookup p.1=some c) (hf:∀b∈fp,sD X pins H b) (hfs:∀b∈fp,b<s.heap.objs.size) :
  (blk X N' scope cl { s with heap:=s.heap.push ob } H (s.heap.objs.size::fp)).Ok:=by
 have J:Inv X pins σ H { s with heap:=s.heap.push ob }:=I.kept (t':=s.toks) λb o e=>AA4 _ e
 have ltc:∀z c,cl.lookup z=some c->c<s.heap.objs.size:=λz c e=>by
  obtain⟨v,q⟩:=I.cell z c (hcl1 z c e)
  exact q.lt
 have hC:(s.heap.push ob).objs.size=s.heap.objs.size+1:=ABN ..
 refine⟨I.ok.mod,B.kind,I.ok.glob,I.ok.blt,AA8 _,λy z c h1 h2=>I.ok.inj y z c (hcl1 y c h1) (hcl1 z c h2),λy hy=>?_,λy c h=>?_,I.ok.hd,I.ok.frames,.inl rfl,λb hb=>?_,λb o e=>?_,?_,λb o e hb=>?_,λb hb=>?_,J.stack,I.stkFree⟩
 ·have key:scope.names.lookup y=some .free:=by
   rcases hy with hy | hy
   ·rcases dq (env:=X.env) (names:=scope.names) (x:=y) (k:=.cell) hy with q | ⟨_,q⟩
    ·exact absurd rfl (B.nocell _ (ABL q))
    ·exact q
   ·rcases dq (env:=X.env) (names:=scope.names) (x:=y) (k:=.free) hy with q | ⟨q,_⟩
    ·exact q
    ·cases q
  exact hcl2 (y,.free) (ABL key) rfl
 ·exact absurd rfl (B.nocell _ (ABL (beq_iff_eq.mp (show (scope.names.lookup y==some ACX)=true from h))))
 ·show b≠(s.heap.push ob).objs.size/\∀x c,cl.lookup x=some c->c≠b
  rw[hC]
  rcases AAK.mp hb with rfl | hb
  ·exact⟨AAL (AAt _),λx c e=>AAL (ltc x c e)⟩
  ·exact⟨AAL (ABi (hfs b hb)),λx c e=>(hf b hb).2.2.2.2.1 x c (hcl1 x c e)⟩
 ·exact⟨AA4 _ (I.bs b o e).1,(I.bs b o e).2⟩
 ·show X.base.objs.size<=(s.heap.push ob).objs.size
  rw[hC]
  exact Nat.le_succ_of_le (AB3 I.ok.bsz I.sz)
 ·rcases AAK.mp hb with rfl | hb
  ·exact absurd (AAH (I.bs _ o e).1) (AAk _)
  ·rcases(hf b hb).2.2.2.1 with z | z
   ·exact I.ok.noex b o e z
   ·exact absurd (AAR (AAH (I.ok.bs b o e).1) z) (AAk _)
 ·intro hz
  have hz':=I.stkSub b hz
  rcases AAK.mp hb with rfl | hb
  ·rcases AAK.mp hz' with q | q
   ·exact absurd I.lt (by rw[<-q];exact AAk _)
   ·exact I.nofs (AA8 _) q
  ·rcases AAK.mp hz' with q | q
   ·exact(hf b hb).2.1 q
   ·exact(hf b hb).2.2.1 q
theorem Inv.blkStart(B:BlkSc X N' nt js scope)(I:Inv X pins σ H s)
  (hcl1:∀z c,cl.lookup z=some c->X.env.cells.lookup z=some c) (hcl2:∀p∈scope.names,p.2=ABA->∃c,cl.lookup p.1=some c) (hf:∀b∈fp,sD X pins H b) (hfs:∀b∈fp,b<s.heap.objs.size)
  (old:∀b o,(s.heap.push (bH [] 0)).get? b=some o->h1.get? b=some o) (hn:h1.Ns (s.heap.push (bH [] 0)).objs.size mm) :
  Inv (blk X N' scope cl { s with heap:=s.heap.push (bH [] 0) } H (s.heap.objs.size::fp)) [(s.heap.objs.size,bH [] 0)] (bst nt js σ) H { s with heap:=h1,toks:=tk }:=by
 have old2:∀b o,s.heap.get? b=some o->h1.get? b=some o:=λb o e=>old b o (AA4 _ e)
 have hC:(s.heap.push (bH [] 0)).objs.size=s.heap.objs.size+1:=ABN ..
 refine⟨I.blkOk B hcl1 hcl2 hf hfs,rfl,I.bare,Un.kept old,⟨mm,hn,λi x v e1 e2 e3=>?_⟩,λx c e=>?_,?_,λx c e=>I.freeC x c (hcl1 x c e),λp hp=>?_,I.hok.kept old2,?_⟩
 ·obtain⟨k,j,rfl,hj,hσ⟩:=AM e2
  obtain⟨x',n1,n2,lf,kf⟩:=B.fr k j hj
  have ex:x=x':=AAQ (e1.symm.trans n1)
  subst ex
  obtain⟨m2,hn2,hl2⟩:=I.loc
  have vis:Vis X.env.scope x:=kf.elim (λz=>.inr (.inl z)) λz=>.inr (.inr z)
  obtain⟨u,r,look⟩:=hl2 j x v n2 hσ vis
  refine⟨u,r,?_⟩
  rcases look with⟨q,_⟩|⟨q,c,hc,hcell⟩
  ·rcases kf with z | z<;>(rw[q]at z;cases z)
  ·obtain⟨c',hc'⟩:=hcl2 (x,.free) (ABL lf) rfl
   have:c'=c:=AAQ ((hcl1 x c' hc').symm.trans hc)
   subst this
   exact .inr ⟨gx (env:=X.env) lf,c',hc',hcell.keeps old2⟩
 ·obtain⟨v,q⟩:=I.cell x c (hcl1 x c e)
  exact⟨v,q.keeps old2⟩
 ·exact I.hok.fresh (by show s.heap.objs.size<=(s.heap.push (bH [] 0)).objs.size;rw[hC];exact ADw _)
 ·have e:p=(s.heap.objs.size,bH [] 0):=by simpa [blk]using hp
  subst e
  refine⟨old _ _ (AAE _ rfl),I.hok.fresh (AA8 _),?_,?_,λv z=>by cases z⟩
  ·show s.heap.objs.size≠(s.heap.push (bH [] 0)).objs.size
   rw[hC]
   exact AAL (AAt _)
  ·intro hz
   rcases AAK.mp (I.stkSub _ hz)with q | q
   ·exact absurd I.lt (by rw[<-q];exact AAk _)
   ·exact I.nofs (AA8 _) q
 ·rw[vR]
  exact B.len.symm
theorem Inv.blkEnd(I:Inv X pins σ H s)
  (hf:∀b∈fp,sD X pins H b)
  (I4:Inv (blk X N' scope cl { s with heap:=s.heap.push (bH [] 0) } H (s.heap.objs.size::fp)) [(s.heap.objs.size,bH its k)] τ H' s')
  (rv:au vs its) (hl:vs.length<=sizeLine) (sb:ACB (s.heap.push (bH [] 0)).objs.size s'.heap h') :
  Inv X pins σ (upd H' s.heap.objs.size (.lst vs)) { s' with heap:=h' }:=by
 have hC:(s.heap.push (bH [] 0)).objs.size=s.heap.objs.size+1:=ABN ..
 have hDC:s.heap.objs.size≠(s.heap.push (bH [] 0)).objs.size:=by rw[hC];exact AAL (AAt _)
 obtain⟨oD,fD,_⟩:=I4.pin (s.heap.objs.size,bH its k) (by simp[blk])
 have oD':s'.heap.get? s.heap.objs.size=some (bH its k):=oD
 have fD':H' s.heap.objs.size=none:=fD
 have fC:H' (s.heap.push (bH [] 0)).objs.size=none:=I4.free
 have u:Un (frs X.stack) (s.heap.objs.size::fp) H H' (s.heap.push (bH [] 0)) s'.heap:=I4.base
 have ne:∀b o,s.heap.get? b=some o->b≠s.heap.objs.size/\b≠(s.heap.push (bH [] 0)).objs.size:=λb o e=>by
  have:=AAH e
  exact⟨AAL this,by rw[hC];exact AAL (ABi this)⟩
 have up:∀b o,s.heap.get? b=some o->(s.heap.push (bH [] 0)).get? b=some o:=λb o e=>AA4 _ e
 have nx:∀b o,s.heap.get? b=some o->b∉fp->b∉s.heap.objs.size::fp:=λb o e hx hz=>by
  rcases AAK.mp hz with q | q
  ·exact(ne b o e).1 q
  ·exact hx q
 refine I.call' (s':={ s' with heap:=h' }) (ch:=fp) I4.os ⟨λb o e n hb hx=>?_,λb o e n hb hx=>?_,λb o e n hx=>?_,λb o e hx=>?_,λb xs e=>?_,λb o w e=>?_,λb ps e=>?_⟩ (λb w q=>?_) I4.bare λb hb=>?_
 ·exact(sb.2 b (ne b o e).2).trans (u.keep b o (up b o e) n hb (nx b o e hx))
 ·obtain⟨sl,z⟩:=u.slot b o (up b o e) n hb (nx b o e hx)
  exact⟨sl,(sb.2 b (ne b o e).2).trans z⟩
 ·rw[ag (ne b o e).1]
  exact u.free b o (up b o e) n (nx b o e hx)
 ·obtain⟨o',z⟩:=u.there b o (up b o e) (nx b o e hx)
  exact⟨o',(sb.2 b (ne b o e).2).trans z⟩
 ·have z:=u.tups b xs e
  rw[ag (ae z fD')]
  exact z
 ·have z:=u.frzs b o w e
  rw[ag (ae z fD')]
  exact z
 ·obtain⟨more,z⟩:=u.tbls b ps e
  exact⟨more,by rw[ag (ae z fD')];exact z⟩
 ·by_cases hb:b=s.heap.objs.size
  ·subst hb
   rw[ay]at q
   cases q
   exact⟨hl,its,k,rv,(sb.2 _ hDC).trans oD'⟩
  ·rw[ag hb]at q
   refine(I4.hok b w q).stay (λc v hc r=>(sb.2 c ?_).trans r) (λc z=>by rw[ag (ae z fD')];exact z) λc xs z=>by rw[ag (ae z fD')];exact z
   rcases hc with rfl | hc
   ·exact ae q fC
   ·exact ae hc fC
 ·obtain⟨_,f1,_,f3,f4,f5⟩:=hf b hb
  exact⟨f3,f1,f4,f5⟩
theorem uG{elt tg iter:Expr}{ifs:List Expr}{scope:Scope}{pos:Pos}{N':List Str}{cl:List (Str×Addr)}{J:It}{fp:List Addr}{it:Addr}{tn:Nat->Heap->Prop}{g:TG}{tt:TT}{te:TE}{Q:VK}
  {W:Nat->Nat->List V->St->Hp->Prop}{R:Result->Shared->Prop}{s0:Shared}{H0:Hp}{D:Addr} (hc:X.calm=true)
  (hg:PG (blk X N' scope cl s0 H0 (D::fp)) tg g) (ht:PTs (blk X N' scope cl s0 H0 (D::fp)) ifs tt) (he:PE (blk X N' scope cl s0 H0 (D::fp)) elt te)
  (T:Turn X.prog X.w X.K tg J fp it tn) (hDf:D∉fp)
  (turn:∀i m vs τ H,W i m vs τ H->(J.stop i H/\∀p,H p=none->Q (.ref p) (upd H p (.lst vs))) \/
   (J.go i H/\∀x H',J.yld i H x H'->g x τ H' λτ2 H2=>tt τ2 H2 λb H3=>if b=true then te τ2 H3 λy H4=>vs.length<sizeLine/\∃m',m' < m/\W (i+1) m' (vs++[y]) τ2 H4 else ∃m',m' < m/\W (i+1) m' vs τ2 H3))
  (hstat:∀b∈fp,b≠s0.heap.objs.size/\b∉frs X.stack/\∀x c,cl.lookup x=some c->c≠b) (hDC:D≠s0.heap.objs.size) (hDs:D∉frs X.stack) (hDc:∀x c,cl.lookup x=some c->c≠D)
  (fin:∀τ H' s' vs its k,Inv (blk X N' scope cl s0 H0 (D::fp)) [(D,bH its k)] τ H' s'->au vs its->vs.length<=sizeLine->Q (.ref D) (upd H' D (.lst vs))->R (.ok .next) s')
  (m0:Nat) {τ0:St}{s3:Shared}{H3:Hp} (I3:Inv (blk X N' scope cl s0 H0 (D::fp)) [(D,bH [] 0)] τ0 H3 s3) (st3:tn 0 s3.heap) (fr3:∀b∈fp,H3 b=none) (w0:W 0 m0 [] τ0 H3) :
  codeAny (model X.prog X.w) X.A (.compLoop (.ListComp elt [⟨tg,iter,ifs,0⟩] scope pos) 0 (.ref it) (.ref D) (compEnvC scope cl s0.heap.objs.size X.env)) R s3:=by
 have fok:∀{ob:Obj}{H':Hp},(∀b∈fp,H' b=none)->∀b∈fp,sD (blk X N' scope cl s0 H0 (D::fp)) [(D,ob)] H' b:=λ{ob H'} hn b hb=>by
  obtain⟨a1,a2,a3⟩:=hstat b hb
  refine⟨hn b hb,a1,a2,.inl (AA9 _ hb),a3,λp hp z=>?_⟩
  have e:p=(D,ob):=by simpa [blk]using hp
  subst e
  exact hDf (by rw[show D=b from z];exact hb)
 refine sj (λn s'=>∃i τ H' vs its k,Inv (blk X N' scope cl s0 H0 (D::fp)) [(D,bH its k)] τ H' s'/\tn i s'.heap/\(∀b∈fp,H' b=none)/\au vs its/\vs.length<=sizeLine/\W i n vs τ H')
  (λ_ _=>False) (λ_ _ z=>z.elim) ?_ m0 ⟨0,τ0,H3,[],[],0,I3,st3,fr3,.nil,AAT _,w0⟩
 rintro n s' ⟨i,τ,H',vs,its,k,I',st',fr',rv,hl,w'⟩
 rcases turn i n vs τ H' w' with⟨stop,q⟩|⟨go,step⟩
 ·refine thn (T.done (blk X N' scope cl s0 H0 (D::fp)) rfl rfl rfl hc i _ s' τ H' (λ_ _=>False) I' (fok fr') st' stop) ?_
  rintro r s4 ⟨hr,I4⟩
  subst hr
  exact fin τ H' s4 vs its k I4 rv hl (q D (I'.pin (D,bH its k) (by simp[blk])).2.1)
 ·refine thn (T.item (blk X N' scope cl s0 H0 (D::fp)) rfl rfl rfl hc i _ s' τ H' (λ_ _=>False) I' (fok fr') st' go) ?_
  rintro r s4 ⟨u,hr,h4⟩
  subst hr
  refine thn h4 ?_
  rintro _ s5 ⟨x,H5,I5,r5,y5,st5,fr5⟩
  have I5':=I5.pinned (fok fr5) (T.obj _ _ st5)
  refine thn (hg _ s5 τ H5 x u _ I5' r5 (step x H5 y5)) ?_
  rintro _ s6 ⟨τ6,H6,I6,q6⟩
  refine thn (ht _ s6 τ6 H6 _ I6 q6) ?_
  rintro ok s7 ⟨H7,I7,q7⟩
  have memF:∀{b:Addr}{o:Obj},b∈fp->s5.heap.get? b=some o->(b,o)∈(blk X N' scope cl s0 H0 (D::fp)).pn++([(D,bH its k)]++fu fp s5.heap):=λhb e=>AAF _ (AAF _ (dP hb e))
  cases ok with
  | false =>
   obtain⟨m',hm,w7⟩:=(show ∃m',m' < n/\W (i+1) m' vs τ6 H7 from q7)
   refine⟨m',hm,i+1,τ6,H7,vs,its,k,I7.unpinned,T.keep _ _ _ st5 λb hb o e=>(I7.pin (b,o) (memF hb e)).1,λb hb=>?_,rv,hl,w7⟩
   obtain⟨o,e,_⟩:=T.obj _ _ st5 b hb
   exact(I7.pin (b,o) (memF hb e)).2.1
  | true =>
   refine thn (he _ s7 τ6 H7 _ I7 q7) ?_
   rintro yv s8 ⟨y,H8,I8,r8,q8⟩
   obtain⟨hsz,m',hm,w8⟩:=q8
   obtain⟨oD,fD,_⟩:=I8.pin (D,bH its k) (AAF _ (AAd _ (by simp)))
   have fD':H8 D=none:=fD
   refine append_at (its:=its.toArray) (n:=k) oD (λh9 sb9 o9=>?_) (by rw[AAC,<-rv.length];exact hl)
   have J8:Inv (blk X N' scope cl s0 H0 (D::fp)) (fu fp s5.heap) τ6 H8 s8:=I8.pins_of λp hp=>I8.pin p (AAF _ (AAF _ hp))
   have J9:Inv (blk X N' scope cl s0 H0 (D::fp)) (fu fp s5.heap) τ6 H8 { s8 with heap:=h9 }:=J8.turned (t':=s8.toks) (it:=D) (λb o hb e=>(sb9.2 b hb).trans e) fD' hDC (.inl AAG) hDc λp hp z=>by
    have hp':p∈fu fp s5.heap:=by simpa [blk]using hp
    exact hDf (by rw[<-z];exact(mL hp').1)
   have memG:∀{b:Addr}{o:Obj},b∈fp->s5.heap.get? b=some o->(b,o)∈(blk X N' scope cl s0 H0 (D::fp)).pn++fu fp s5.heap:=λhb e=>AAF _ (dP hb e)
   refine⟨m',hm,i+1,τ6,H8,vs++[y],its++[yv],k+1,J9.pins_of λp hp=>?_,T.keep _ _ _ st5 λb hb o e=>(J9.pin (b,o) (memG hb e)).1,λb hb=>?_,rv.append (.cons r8 .nil),?_,w8⟩
   ·have e:p=(D,bH (its++[yv]) (k+1)):=by simpa using hp
    subst e
    refine⟨?_,fD',hDC,hDs,λv z=>by cases z⟩
    rw[show bH (its++[yv]) (k+1)=({ cls:=.type "list",data:=.seq (its.toArray.push yv) (k+1) }:Obj) by rw[List.push_toArray]]
    exact o9
   ·obtain⟨o,e,_⟩:=T.obj _ _ st5 b hb
    exact(J9.pin (b,o) (memG hb e)).2.1
   ·rw[AAA]
    exact hsz
end
section
variable{X:Cx}
theorem pe_lc{elt tg iter:Expr}{ifs:List Expr}{scope:Scope}{pos:Pos}{N':List Str}{nt:Nat}{js:List Nat}{wi:TI}{g:TG}{tt:TT}{te:TE}(B:BlkSc X N' nt js scope)(hc:X.calm=true)(hi:PI X tg iter wi)
  (hg:∀cl s0 H0 ex,PG (blk X N' scope cl s0 H0 ex) tg g) (ht:∀cl s0 H0 ex,PTs (blk X N' scope cl s0 H0 ex) ifs tt) (he:∀cl s0 H0 ex,PE (blk X N' scope cl s0 H0 ex) elt te)
  (hs:∀x,foldedSetIterable iter X.env x=pure x:=by intro _;rfl):PE X (.ListComp elt [⟨tg,iter,ifs,0⟩] scope pos) (tLC nt js wi g tt te):=by
 intro pins s σ H Q I h
 rw[eval_ListComp]
 obtain⟨cl,ecl,hcl1,hcl2⟩:=gI (scope:=scope) (env:=X.env) λp hp hf=>I.ok.has p.1 (B.free p hp hf)
 refine wpAny_comprehension_free (use:=none) rfl hs ecl B.kind B.loc ?_
 refine thn (hi pins s σ H _ I h) λv s1 h1=>thn h1 λitv s2 h2=>?_
 obtain⟨it,fp,tn,J,H2,e,I2,T,st2,f2,W,⟨m0,w0⟩,turn⟩:=h2
 subst e
 refine AAr (wpAny_newFunctionEnv B.nocell (by intro y hy;simp at hy) (λh1 hns1 hsb1=>?_) B.kind)
 have hfs:∀b∈fp,b<s2.heap.objs.size:=λb hb=>by
  obtain⟨o,e,_⟩:=T.obj _ _ st2 b hb
  exact AAH e
 have hC:(s2.heap.push (bH [] 0)).objs.size=s2.heap.objs.size+1:=ABN ..
 have old:∀b o,(s2.heap.push (bH [] 0)).get? b=some o->h1.get? b=some o:=λb o e=>(hsb1.2 b (AAL (AAH e))).trans (AA4 _ e)
 have I3:=I2.blkStart (tk:=s2.toks+([]:List (Str×Value)).length) B hcl1 hcl2 f2 hfs old hns1
 have st3:tn 0 h1:=T.keep _ _ _ st2 λb _ o e=>old b o (AA4 _ e)
 have hDf:s2.heap.objs.size∉fp:=λz=>AAk _ (hfs _ z)
 have hDs:s2.heap.objs.size∉frs X.stack:=λz=>by
  rcases AAK.mp (I2.stkSub _ z)with q | q
  ·exact absurd I2.lt (by rw[<-q];exact AAk _)
  ·exact I2.nofs (AA8 _) q
 have hDC:s2.heap.objs.size≠(s2.heap.push (bH [] 0)).objs.size:=by rw[hC];exact AAL (AAt _)
 have ltc:∀z c,cl.lookup z=some c->c<s2.heap.objs.size:=λz c e=>by
  obtain⟨v,q⟩:=I2.cell z c (hcl1 z c e)
  exact q.lt
 have hstat:∀b∈fp,b≠(s2.heap.push (bH [] 0)).objs.size/\b∉frs X.stack/\∀x c,cl.lookup x=some c->c≠b:=λb hb=>by
  refine⟨by rw[hC];exact AAL (ABi (hfs b hb)),λz=>?_,λx c e=>(f2 b hb).2.2.2.2.1 x c (hcl1 x c e)⟩
  rcases AAK.mp (I2.stkSub b z)with q | q
  ·exact(f2 b hb).2.1 q
  ·exact(f2 b hb).2.2.1 q
 have loop:codeAny (model X.prog X.w) X.A (.compLoop (.ListComp elt [⟨tg,iter,ifs,0⟩] scope pos) 0 (.ref it) (.ref s2.heap.objs.size) (compEnvC scope cl (s2.heap.push (bH [] 0)).objs.size X.env))
   (compPost (model X.prog X.w) X.A X.xe none (EP X pins σ Q) (.ref s2.heap.objs.size) (s2.heap.push (bH [] 0)).objs.size) { s2 with heap:=h1,toks:=s2.toks+([]:List (Str×Value)).length }:=by
  refine uG (s0:={ s2 with heap:=s2.heap.push (bH [] 0) }) (H0:=H2) (N':=N') (Q:=Q) hc (hg _ _ _ _) (ht _ _ _ _) (he _ _ _ _) T hDf turn hstat hDC hDs (λx c e=>AAL (ltc x c e)) ?_ m0 I3 st3 (λb hb=>(f2 b hb).1) w0
  intro τ H' s' vs its k I4 rv hl q
  obtain⟨mm,hn,_⟩:=id I4.loc
  exact⟨mm,hn,λh' sb=>⟨.ref s2.heap.objs.size,_,I2.blkEnd f2 I4 rv hl sb,rfl,q⟩⟩
 exact codeAny_compStart_list loop (T.self _ 0 _ _ _ st3 loop)
end
section
inductive D where
 | non | bl (b:Bool) | int (i:Int) | str (x:Str) | ty (n:String) | tup (ds:List D) | ref (n:Nat)
inductive MO where
 | lst (xs:List D)
 | fz (xs:List D)
 | kl (xs:List D)
 | dct (kvs:List (Str×D))
 | dkt (kvs:List (D×D))
 | dkq (kvs:List (D×D))
 | dkm (kvs:List (D×D))
 | fdc (o:Obj) (kvs:List (Str×D))
 | tb (x:Str) (b:Bool)
 | exc (x:Str)
noncomputable abbrev Mem:=List MO
noncomputable def MO.isL:MO->Bool
 | .dct _=>false
 | .dkt _=>false
 | .dkq _=>false
 | .fdc _ _=>false
 | .dkm _=>false
 | .tb _ _=>false
 | .exc _=>false
 | _=>true
noncomputable def mkKV(ks:List Str)(vs:List V):List (Key×V):=(ks.zip vs).map λp=>(Sum.inr p.1,p.2)
mutual
inductive Rep(K:AA3)(ρ:List Addr)(H:Hp):D->V->Prop
 | non:Rep K ρ H .non .non
 | bl (b:Bool):Rep K ρ H (.bl b) (.bl b)
 | int (i:Int):Rep K ρ H (.int i) (.int i)
 | str (x:Str):Rep K ρ H (.str x) (.str x)
 | ty (n:String):Rep K ρ H (.ty n) (.ty n)
 | tup {a:Addr}{vs:List V}{ds:List D} (h:SqT K H a vs) (r:Reps K ρ H ds vs):Rep K ρ H (.tup ds) (.ref a)
 | ref {n:Nat}{a:Addr} (h:ρ[n]?=some a):Rep K ρ H (.ref n) (.ref a)
inductive Reps(K:AA3)(ρ:List Addr)(H:Hp):List D->List V->Prop
 | nil:Reps K ρ H [] []
 | cons {d:D}{v:V}{ds:List D}{vs:List V} (h:Rep K ρ H d v) (t:Reps K ρ H ds vs):Reps K ρ H (d::ds) (v::vs)
end
def KList(K:AA3)(a:Addr)(xs:List V):Prop :=
 ∃(o:Obj) (its:Array Value) (n:Nat),K.lookup a=some o/\o.cls=.type "list"/\o.dict=none/\o.data=.seq its n/\its.size<=sizeLine/\au xs its.toList
noncomputable def bY:Nat->D->Bool
 | _,.str _=>true
 | _,.int _=>true
 | n+1,.tup ds=>ds.all (bY n)
 | _,_=>false
noncomputable def hkD(w:World):Nat->D->Int
 | _,.str x=>hashStr w x
 | _,.int i=>hashInt i
 | n+1,.tup ds=>reduceHash (ABE (ds.map (hkD w n)))
 | _,_=>0
def dX(a:Addr)(xs:List (D×Addr×Value)):Program->World->Heap->Prop:=λ_ w h =>
 ∃(o:Obj) (es:Array DictEntry),h.get? a=some o/\o.ExactDict/\o.data=.dict es xs.length/\es.toList=xs.map λx=>⟨hkD w 8 x.1,.ref x.2.1,x.2.2⟩
def dQ(a:Addr)(e:Nat)(xs:List (D×Addr×Value)):Program->World->Heap->Prop:=λ_ w h =>
 ∃(o:Obj) (es:Array DictEntry),h.get? a=some o/\o.ExactDict/\o.data=.dict es e/\es.toList=xs.map λx=>⟨hkD w 8 x.1,.ref x.2.1,x.2.2⟩
noncomputable def rN:D->Bool
 | .non=>true
 | .tup ks=>bY 8 (.tup ks)
 | _=>false
noncomputable def hkM(w:World):D->Int
 | .non=>reduceHash 0xFCA86420
 | d=>hkD w 8 d
noncomputable def vA(hs:D->Int)(x:D×Value×Value):DictEntry:=⟨hs x.1,x.2.1,x.2.2⟩
def dM(a:Addr)(xs:List (D×Value×Value)):Program->World->Heap->Prop:=λ_ w h =>
 ∃(o:Obj) (es:Array DictEntry),h.get? a=some o/\o.ExactDict/\o.data=.dict es xs.length/\es.toList=xs.map (vA (hkM w))
def KvM(K:AA3)(ρ:List Addr)(H:Hp)(p:D×D)(q:D×Value×Value):Prop:=p.1=q.1/\rN p.1=true/\(∃u,Rep K ρ H p.1 u/\aC u q.2.1)/\∃v,Rep K ρ H p.2 v/\aC v q.2.2
def sw(K:AA3)(ρ:List Addr)(H:Hp)(p:D×D)(q:D×Addr×Value):Prop:=p.1=q.1/\bY 8 p.1=true/\Rep K ρ H p.1 (.ref q.2.1)/\∃v,Rep K ρ H p.2 v/\aC v q.2.2
def AZ(a:Addr)(C:Value):Program->World->Heap->Prop:=λ_ _ h=>∃o vs,h.get? a=some o/\o.cls=C/\o.data=.fields vs
def sC(K:AA3)(ρ:List Addr)(H:Hp)(a:Addr):MO->Prop
 | .lst ds=>∃vs,H a=some (.lst vs)/\Reps K ρ H ds vs
 | .fz ds=>∃o vs,H a=some (.frz o (.lst vs))/\Reps K ρ H ds vs
 | .kl ds=>∃vs,KList K a vs/\Reps K ρ H ds vs
 | .dct kvs=>∃vs,H a=some (.dK (mkKV (kvs.map (·.1)) vs))/\Reps K ρ H (kvs.map (·.2)) vs
 | .dkt kvs=>kvs.length<=sizeLine/\(a==sysModules)=false/\(kvs.map (·.1)).Nodup/\∃xs,H a=some (.ext (dX a xs))/\Paired (sw K ρ H) kvs xs
 | .dkq kvs=>kvs.length<=sizeLine/\(a==sysModules)=false/\(kvs.map (·.1)).Nodup/\∃xs,(∃e,H a=some (.ext (dQ a e xs)))/\Paired (sw K ρ H) kvs xs
 | .dkm kvs=>kvs.length<=sizeLine/\(a==sysModules)=false/\(kvs.map (·.1)).Nodup/\∃xs,H a=some (.ext (dM a xs))/\Paired (KvM K ρ H) kvs xs
 | .fdc o kvs=>∃vs,H a=some (.frz o (.dK (mkKV (kvs.map (·.1)) vs)))/\Reps K ρ H (kvs.map (·.2)) vs
 | .tb x b=>(∃c,PySem.W.tabIn K x=some (c,a)/\∀h:Heap,K.In h->PySem.W.CodeHd h c a)/\∃ps,H a=some (.tbl ps)/\(b=false->ps = #[])
 | .exc x=>∃C,ACD K mainGlobals x=some (some (.ref C))/\H a=some (.ext (AZ a (.ref C)))
def isK(mo:Option MO):Prop:=∃ds,mo=some (.kl ds)
def am(M:Mem)(n:Nat)(xs:List D):Prop:=M[n]?=some (.lst xs)\/M[n]?=some (.fz xs)\/M[n]?=some (.kl xs)
structure Sim(K:AA3)(ρ:List Addr)(M:Mem)(H:Hp):Prop where
 nd:∀(n m:Nat) (a:Addr),n≠m->ρ[n]?=some a->ρ[m]?=some a->isK M[n]?\/isK M[m]?
 len:ρ.length=M.length
 obj:∀(n:Nat) (a:Addr) (mo:MO),ρ[n]?=some a->M[n]?=some mo->sC K ρ H a mo
structure Grow(K:AA3)(ρ:List Addr)(H:Hp)(ρ':List Addr)(H':Hp):Prop where
 pre:ρ <+: ρ'
 tup:∀a xs,SqT K H a xs->SqT K H' a xs
theorem Grow.refl{K:AA3}{ρ:List Addr}{H:Hp}:Grow K ρ H ρ H:=⟨AC2,λ_ _ h=>h⟩
theorem Grow.trans{K:AA3}{ρ ρ1 ρ2:List Addr}{H H1 H2:Hp}(a:Grow K ρ H ρ1 H1)(b:Grow K ρ1 H1 ρ2 H2):Grow K ρ H ρ2 H2:=⟨a.pre.trans b.pre,λx xs h=>b.tup x xs (a.tup x xs h)⟩
theorem av{α:Type}{l l':List α}(h:l <+: l'){n:Nat}{a:α}(e:l[n]?=some a):l'[n]?=some a:=by
 obtain⟨t,rfl⟩:=h
 rw[AAM (AA7.mp e).1]
 exact e
theorem Rep.grow{K:AA3}{ρ ρ':List Addr}{H H':Hp}(g:Grow K ρ H ρ' H'){d:D}{v:V}(h:Rep K ρ H d v):Rep K ρ' H' d v :=
 Rep.rec (motive_1:=λd v _=>Rep K ρ' H' d v) (motive_2:=λds vs _=>Reps K ρ' H' ds vs) .non .bl .int .str .ty (λh _ r=>.tup (g.tup _ _ h) r) (λh=>.ref (av g.pre h)) .nil (λ_ _ h t=>.cons h t) h
theorem Reps.grow{K:AA3}{ρ ρ':List Addr}{H H':Hp}(g:Grow K ρ H ρ' H'){ds:List D}{vs:List V}(h:Reps K ρ H ds vs):Reps K ρ' H' ds vs :=
 Reps.rec (motive_1:=λd v _=>Rep K ρ' H' d v) (motive_2:=λds vs _=>Reps K ρ' H' ds vs) .non .bl .int .str .ty (λh _ r=>.tup (g.tup _ _ h) r) (λh=>.ref (av g.pre h)) .nil (λ_ _ h t=>.cons h t) h
section
variable{K:AA3}{ρ ρ':List Addr}{H H':Hp}{M:Mem}
theorem Reps.length(h:Reps K ρ H ds vs):ds.length=vs.length :=
 Reps.rec (motive_1:=λ_ _ _=>True) (motive_2:=λds vs _=>ds.length=vs.length) trivial (λ_=>trivial) (λ_=>trivial) (λ_=>trivial) (λ_=>trivial) (λ_ _ _=>trivial) (λ_=>trivial) rfl (λ_ _ _ t=>congrArg Nat.succ t) h
theorem Reps.append(h:Reps K ρ H ds vs)(s:Reps K ρ H es ws):Reps K ρ H (ds++es) (vs++ws) :=
 Reps.rec (motive_1:=λ_ _ _=>True) (motive_2:=λds vs _=>Reps K ρ H (ds++es) (vs++ws)) trivial (λ_=>trivial) (λ_=>trivial) (λ_=>trivial) (λ_=>trivial) (λ_ _ _=>trivial) (λ_=>trivial) s (λh _ _ t=>.cons h t) h
theorem Reps.get:∀{ds:List D}{vs:List V}{i:Nat}{d:D},Reps K ρ H ds vs->ds[i]?=some d->∃v,vs[i]?=some v/\Rep K ρ H d v
 | _,_,_,_,.nil,e=>by simp at e
 | _,_,0,_,.cons r _,e=>by simp at e;subst e;exact⟨_,rfl,r⟩
 | _,_,i+1,d,.cons _ t,e=>by
  obtain⟨v,h1,h2⟩:=Reps.get (i:=i) (d:=d) t (by simpa using e)
  exact⟨v,by simpa using h1,h2⟩
theorem Reps.getV:∀{ds:List D}{vs:List V}{i:Nat}{v:V},Reps K ρ H ds vs->vs[i]?=some v->∃d,ds[i]?=some d/\Rep K ρ H d v
 | _,_,_,_,.nil,e=>by simp at e
 | _,_,0,_,.cons r _,e=>by simp at e;subst e;exact⟨_,rfl,r⟩
 | _,_,i+1,d,.cons _ t,e=>by
  obtain⟨v,h1,h2⟩:=Reps.getV (i:=i) (v:=d) t (by simpa using e)
  exact⟨v,by simpa using h1,h2⟩
theorem Reps.take:∀{ds:List D}{vs:List V} (n:Nat),Reps K ρ H ds vs->Reps K ρ H (ds.take n) (vs.take n)
 | _,_,0,_=>by simpa using .nil
 | _,_,_+1,.nil=>.nil
 | _,_,n+1,.cons r t=>.cons r (Reps.take n t)
theorem Reps.drop:∀{ds:List D}{vs:List V} (n:Nat),Reps K ρ H ds vs->Reps K ρ H (ds.drop n) (vs.drop n)
 | _,_,0,r=>r
 | _,_,_+1,.nil=>.nil
 | _,_,n+1,.cons _ t=>Reps.drop n t
theorem SqT.laid(hp:H p=none)(h:SqT K H a xs):SqT K (upd H p o) a xs:=by
 rcases h with h | h
 ·rcases h with h | ⟨ob,h⟩
  ·exact .inl (.inl (by rw[ag (ae h hp)];exact h))
  ·exact .inl (.inr ⟨ob,by rw[ag (ae h hp)];exact h⟩)
 ·exact .inr h
theorem SqT.written(hp:H p=some (.lst vs))(h:SqT K H a xs):SqT K (upd H p o) a xs:=by
 rcases h with h | h
 ·rcases h with h | ⟨ob,h⟩
  ·exact .inl (.inl (by rw[ag (wT h hp (by intro z;cases z))];exact h))
  ·exact .inl (.inr ⟨ob,by rw[ag (wT h hp (by intro z;cases z))];exact h⟩)
 ·exact .inr h
theorem Grow.laid(hp:H p=none):Grow K ρ H ρ (upd H p o):=⟨AC2,λ_ _ h=>SqT.laid hp h⟩
theorem Grow.laidR(hp:H p=none):Grow K ρ H (ρ++[p]) (upd H p o):=⟨AAb _ _,λ_ _ h=>SqT.laid hp h⟩
theorem Sim.tracked(S:Sim K ρ M H){n:Nat}{a:Addr}(e:ρ[n]?=some a):(∃o,H a=some o)\/isK M[n]?:=by
 have hn:n<M.length:=by rw[<-S.len];exact(AA7.mp e).1
 have hm:M[n]?=some M[n]:=AA5 hn
 have h:=S.obj n a _ e hm
 rw[hm]
 cases hmo:M[n] with
 | lst ds=>rw[hmo]at h;obtain⟨vs,h,_⟩:=h;exact .inl ⟨_,h⟩
 | fz ds=>rw[hmo]at h;obtain⟨o,vs,h,_⟩:=h;exact .inl ⟨_,h⟩
 | kl ds=>exact .inr ⟨ds,rfl⟩
 | dct kvs=>rw[hmo]at h;obtain⟨vs,h,_⟩:=h;exact .inl ⟨_,h⟩
 | dkt kvs=>rw[hmo]at h;obtain⟨_,_,_,xs,h,_⟩:=h;exact .inl ⟨_,h⟩
 | dkq kvs=>rw[hmo]at h;obtain⟨_,_,_,xs,⟨_,h⟩,_⟩:=h;exact .inl ⟨_,h⟩
 | fdc o kvs=>rw[hmo]at h;obtain⟨vs,h,_⟩:=h;exact .inl ⟨_,h⟩
 | dkm kvs=>rw[hmo]at h;obtain⟨_,_,_,xs,h,_⟩:=h;exact .inl ⟨_,h⟩
 | tb x b=>rw[hmo]at h;obtain⟨_,ps,h,_⟩:=h;exact .inl ⟨_,h⟩
 | exc x=>rw[hmo]at h;obtain⟨_,_,h⟩:=h;exact .inl ⟨_,h⟩
theorem sC.grow(g:Grow K ρ H ρ' H')(hs:H' a=H a\/isK (some mo))(h:sC K ρ H a mo):sC K ρ' H' a mo:=by
 cases mo with
 | lst ds =>
  obtain⟨vs,e,r⟩:=h
  rcases hs with hs | ⟨_,z⟩
  ·exact⟨vs,by rw[hs];exact e,r.grow g⟩
  ·cases z
 | fz ds =>
  obtain⟨o,vs,e,r⟩:=h
  rcases hs with hs | ⟨_,z⟩
  ·exact⟨o,vs,by rw[hs];exact e,r.grow g⟩
  ·cases z
 | fdc o kvs =>
  obtain⟨vs,e,r⟩:=h
  rcases hs with hs | ⟨_,z⟩
  ·exact⟨vs,by rw[hs];exact e,r.grow g⟩
  ·cases z
 | tb x b =>
  obtain⟨c,ps,e,q⟩:=h
  rcases hs with hs | ⟨_,z⟩
  ·exact⟨c,ps,by rw[hs];exact e,q⟩
  ·cases z
 | exc x =>
  obtain⟨C,e,q⟩:=h
  rcases hs with hs | ⟨_,z⟩
  ·exact⟨C,e,by rw[hs];exact q⟩
  ·cases z
 | kl ds=>obtain⟨vs,e,r⟩:=h;exact⟨vs,e,r.grow g⟩
 | dkm kvs =>
  obtain⟨h1,h2,h3,xs,e,r⟩:=h
  rcases hs with hs | ⟨_,z⟩
  ·exact⟨h1,h2,h3,xs,by rw[hs];exact e,Paired.mapP r λ_ _ ⟨q1,q2,⟨u,q3,q3'⟩,v,q4,q5⟩=>⟨q1,q2,⟨u,q3.grow g,q3'⟩,v,q4.grow g,q5⟩⟩
  ·cases z
 | dct kvs =>
  obtain⟨vs,e,r⟩:=h
  rcases hs with hs | ⟨_,z⟩
  ·exact⟨vs,by rw[hs];exact e,r.grow g⟩
  ·cases z
 | dkt kvs =>
  obtain⟨h1,h2,h3,xs,e,r⟩:=h
  rcases hs with hs | ⟨_,z⟩
  ·exact⟨h1,h2,h3,xs,by rw[hs];exact e,Paired.mapP r λ_ _ ⟨q1,q2,q3,v,q4,q5⟩=>⟨q1,q2,q3.grow g,v,q4.grow g,q5⟩⟩
  ·cases z
 | dkq kvs =>
  obtain⟨h1,h2,h3,xs,e,r⟩:=h
  rcases hs with hs | ⟨_,z⟩
  ·exact⟨h1,h2,h3,xs,by rw[hs];exact e,Paired.mapP r λ_ _ ⟨q1,q2,q3,v,q4,q5⟩=>⟨q1,q2,q3.grow g,v,q4.grow g,q5⟩⟩
  ·cases z
theorem Sim.keeps{p:Addr}{o:HO}(S:Sim K ρ M H)(hp:H p=none){n:Nat}{a:Addr}{mo:MO}(e1:ρ[n]?=some a)(e2:M[n]?=some mo):upd H p o a=H a\/isK (some mo):=by
 rcases S.tracked e1 with⟨ob,hob⟩ | q
 ·exact .inl (ag (ae hob hp))
 ·rw[e2]at q
  exact .inr q
theorem Sim.laid{p:Addr}{o:HO}(S:Sim K ρ M H)(hp:H p=none):Sim K ρ M (upd H p o) :=
 ⟨S.nd,S.len,λn a mo e1 e2=>(S.obj n a mo e1 e2).grow (Grow.laid hp) (S.keeps hp e1 e2)⟩
theorem aH{α:Type}{l:List α}{x y:α}{n:Nat}(h:(l++[x])[n]?=some y):l[n]?=some y\/(n=l.length/\y=x):=by
 by_cases hn:n<l.length
 ·rw[AAM hn]at h
  exact .inl h
 ·have hn':n=l.length:=by
   have:=(AA7.mp h).1
   rw[AAA,AAX]at this
   lia
  subst hn'
  rw[AAc (AA8 _),ADE]at h
  simp at h
  exact .inr ⟨rfl,h.symm⟩
theorem isK.more{mo:MO}{n:Nat}(h:isK M[n]?):isK (M++[mo])[n]?:=by
 obtain⟨ds,e⟩:=h
 exact⟨ds,by rw[AAM (AA7.mp e).1];exact e⟩
theorem Sim.laidL{p:Addr}{ds:List D}{vs:List V}(S:Sim K ρ M H)(hp:H p=none)(r:Reps K ρ H ds vs):Sim K (ρ++[p]) (M++[.lst ds]) (upd H p (.lst vs)):=by
 have g:Grow K ρ H (ρ++[p]) (upd H p (.lst vs)):=Grow.laidR hp
 have old:∀(n:Nat),ρ[n]?=some p->isK M[n]?:=λn e=>by
  rcases S.tracked e with⟨o,q⟩ | q
  ·rw[hp]at q;cases q
  ·exact q
 refine⟨λn m a hnm e1 e2=>?_,by rw[AAA,AAA,S.len];rfl,λn a mo e1 e2=>?_⟩
 ·rcases aH e1 with f1 | ⟨f1,g1⟩
  ·rcases aH e2 with f2 | ⟨f2,g2⟩
   ·exact(S.nd n m a hnm f1 f2).elim (λz=>.inl z.more) λz=>.inr z.more
   ·subst g2
    exact .inl (old n f1).more
  ·rcases aH e2 with f2 | ⟨f2,g2⟩
   ·subst g1
    exact .inr (old m f2).more
   ·exact absurd (f1.trans f2.symm) hnm
 ·rcases aH e1 with f1 | ⟨f1,g1⟩
  ·have hn:n<M.length:=by rw[<-S.len];exact(AA7.mp f1).1
   rw[AAM hn]at e2
   exact(S.obj n a mo f1 e2).grow g (S.keeps hp f1 e2)
  ·subst g1 f1
   rw[S.len,AAc (AA8 _),ADE]at e2
   simp at e2
   subst e2
   exact⟨vs,ay,r.grow g⟩
theorem Sim.last(S:Sim K ρ M H):(ρ++[p])[M.length]?=some p:=by
 rw[<-S.len,AAc (AA8 _),ADE]
 rfl
theorem Sim.write(S:Sim K ρ M H)(e1:ρ[n]?=some a)(hM:M[n]?=some (.lst ds))(hH:H a=some (.lst vs))(r:Reps K ρ H ds' vs') :
  Sim K ρ (M.set n (.lst ds')) (upd H a (.lst vs'))/\Grow K ρ H ρ (upd H a (.lst vs')):=by
 have g:Grow K ρ H ρ (upd H a (.lst vs')):=⟨AC2,λ_ _ h=>SqT.written hH h⟩
 have hk:∀m,m≠n->(M.set n (.lst ds'))[m]?=M[m]?:=λm hm=>AAZ (ABO hm)
 have notK:¬isK M[n]?:=λ⟨_,z⟩=>by rw[hM]at z;cases z
 refine⟨⟨λm m' b hne f1 f2=>?_,by rw[AAp];exact S.len,λm b mo f1 f2=>?_⟩,g⟩
 ·have q:=S.nd m m' b hne f1 f2
  by_cases h1:m=n
  ·subst h1
   rw[hk m' (ABO hne)]
   exact .inr (q.resolve_left notK)
  ·rw[hk m h1]
   by_cases h2:m'=n
   ·subst h2
    exact .inl (q.resolve_right notK)
   ·rw[hk m' h2]
    exact q
 by_cases hm:m=n
 ·subst hm
  have hb:b=a:=AAQ (f1.symm.trans e1)
  subst hb
  rw[AAa (by rw[<-S.len];exact(AA7.mp e1).1)]at f2
  cases f2
  exact⟨vs',ay,r.grow g⟩
 ·rw[hk m hm]at f2
  by_cases hb:b=a
  ·subst hb
   have q:=S.nd m n b hm f1 e1
   have q':=q.resolve_right notK
   rw[f2]at q'
   exact(S.obj m b mo f1 f2).grow g (.inr q')
  ·exact(S.obj m b mo f1 f2).grow g (.inl (ag hb))
theorem am.seq(S:Sim K ρ M H)(h:am M n xs)(e:ρ[n]?=some a):∃vs,SqL K H a vs/\Reps K ρ H xs vs:=by
 rcases h with h | h | h
 ·obtain⟨vs,q,r⟩:=S.obj n a _ e h
  exact⟨vs,.inl (.inl q),r⟩
 ·obtain⟨o,vs,q,r⟩:=S.obj n a _ e h
  exact⟨vs,.inl (.inr ⟨o,q⟩),r⟩
 ·obtain⟨vs,q,r⟩:=S.obj n a _ e h
  exact⟨vs,.inr q,r⟩
theorem Sim.get(S:Sim K ρ M H){n:Nat}{mo:MO}(e:M[n]?=some mo):∃a,ρ[n]?=some a/\sC K ρ H a mo:=by
 have hn:n<ρ.length:=by rw[S.len];exact(AA7.mp e).1
 exact⟨ρ[n],AA5 hn,S.obj n _ mo (AA5 hn) e⟩
end
noncomputable abbrev SD:=List (Option D)
structure SRep(K:AA3)(ρ:List Addr)(H:Hp)(S:SD)(σ:St):Prop where
 len:S.length=σ.length
 get:∀(i:Nat) (d:D),S[i]?=some (some d)->∃v,σ[i]?=some (some v)/\Rep K ρ H d v
theorem SRep.grow{K:AA3}{ρ ρ':List Addr}{H H':Hp}{S:SD}{σ:St}(r:SRep K ρ H S σ)(g:Grow K ρ H ρ' H'):SRep K ρ' H' S σ :=
 ⟨r.len,λi d e=>let ⟨v,h1,h2⟩:=r.get i d e;⟨v,h1,h2.grow g⟩⟩
theorem SRep.set{K:AA3}{ρ:List Addr}{H:Hp}{S:SD}{σ:St}(r:SRep K ρ H S σ)(i:Nat){d:D}{v:V}(h:Rep K ρ H d v):SRep K ρ H (S.set i (some d)) (σ.set i (some v)):=by
 refine⟨by rw[AAp,AAp];exact r.len,λj e hj=>?_⟩
 by_cases hij:i=j
 ·subst hij
  by_cases hl:i<S.length
  ·rw[AAa hl]at hj
   cases hj
   exact⟨v,by rw[AAa (by rw[<-r.len];exact hl)],h⟩
  ·rw[AB9 (by rw[AAp];lia)]at hj
   cases hj
 ·rw[AAZ hij]at hj
  rw[AAZ hij]
  exact r.get j e hj
abbrev DK:=D->Mem->Prop
abbrev DTE:=SD->Mem->DK->Prop
abbrev DTT:=SD->Mem->(Bool->Mem->Prop)->Prop
abbrev DTA:=SD->Mem->(List D->Mem->Prop)->Prop
structure DEnds where
 nx:SD->Mem->Prop
 rt:DK
 bk:SD->Mem->Prop:=λ_ _=>False
 ct:SD->Mem->Prop:=λ_ _=>False
abbrev DTS:=DEnds->SD->Mem->Prop
abbrev DTG:=D->SD->Mem->(SD->Mem->Prop)->Prop
abbrev yF:=List D->SD->Mem->(SD->Mem->Prop)->Prop
abbrev DR2:=D->D->Mem->DK->Prop
abbrev DR1:=D->Mem->DK->Prop
abbrev DRA:=List D->Mem->DK->Prop
section
variable(K:AA3)
inductive VQ(ρ:List Addr)(H:Hp)(Q:DK)(v:V)(H':Hp):Prop
 | mk (d:D) (M':Mem) (ρ':List Addr) (s:Sim K ρ' M' H') (g:Grow K ρ H ρ' H') (r:Rep K ρ' H' d v) (q:Q d M')
inductive BQ(ρ:List Addr)(H:Hp)(Q:Bool->Mem->Prop)(b:Bool)(H':Hp):Prop
 | mk (M':Mem) (ρ':List Addr) (s:Sim K ρ' M' H') (g:Grow K ρ H ρ' H') (q:Q b M')
inductive AQ(ρ:List Addr)(H:Hp)(Q:List D->Mem->Prop)(vs:List V)(H':Hp):Prop
 | mk (ds:List D) (M':Mem) (ρ':List Addr) (s:Sim K ρ' M' H') (g:Grow K ρ H ρ' H') (r:Reps K ρ' H' ds vs) (q:Q ds M')
inductive SQ(ρ:List Addr)(H:Hp)(Q:SD->Mem->Prop)(σ':St)(H':Hp):Prop
 | mk (S':SD) (M':Mem) (ρ':List Addr) (s:Sim K ρ' M' H') (g:Grow K ρ H ρ' H') (r:SRep K ρ' H' S' σ') (q:Q S' M')
structure Ups(ρ:List Addr)(H:Hp)(F:DEnds)(E:Ends):Prop where
 nx:∀σ' H',SQ K ρ H F.nx σ' H'->E.nx σ' H'
 rt:∀v H',VQ K ρ H F.rt v H'->E.rt v H'
 bk:∀σ' H',SQ K ρ H F.bk σ' H'->E.bk σ' H'
 ct:∀σ' H',SQ K ρ H F.ct σ' H'->E.ct σ' H'
inductive lowE(t:DTE)(σ:St)(H:Hp)(R:VK):Prop
 | mk (S:SD) (M:Mem) (ρ:List Addr) (Q:DK) (s:Sim K ρ M H) (sr:SRep K ρ H S σ) (q:t S M Q) (k:∀v H',VQ K ρ H Q v H'->R v H')
inductive lowT(t:DTT)(σ:St)(H:Hp)(R:Bool->Hp->Prop):Prop
 | mk (S:SD) (M:Mem) (ρ:List Addr) (Q:Bool->Mem->Prop) (s:Sim K ρ M H) (sr:SRep K ρ H S σ) (q:t S M Q) (k:∀v H',BQ K ρ H Q v H'->R v H')
inductive lowA(t:DTA)(σ:St)(H:Hp)(R:List V->Hp->Prop):Prop
 | mk (S:SD) (M:Mem) (ρ:List Addr) (Q:List D->Mem->Prop) (s:Sim K ρ M H) (sr:SRep K ρ H S σ) (q:t S M Q) (k:∀v H',AQ K ρ H Q v H'->R v H')
inductive lowS(t:DTS)(E:Ends)(σ:St)(H:Hp):Prop
 | mk (S:SD) (M:Mem) (ρ:List Addr) (F:DEnds) (s:Sim K ρ M H) (sr:SRep K ρ H S σ) (q:t F S M) (k:Ups K ρ H F E)
inductive lowG(g:DTG)(v:V)(σ:St)(H:Hp)(R:St->Hp->Prop):Prop
 | mk (d:D) (S:SD) (M:Mem) (ρ:List Addr) (Q:SD->Mem->Prop) (s:Sim K ρ M H) (sr:SRep K ρ H S σ) (r:Rep K ρ H d v) (q:g d S M Q) (k:∀σ' H',SQ K ρ H Q σ' H'->R σ' H')
inductive lowGs(g:yF)(vs:List V)(σ:St)(H:Hp)(R:St->Hp->Prop):Prop
 | mk (ds:List D) (S:SD) (M:Mem) (ρ:List Addr) (Q:SD->Mem->Prop) (s:Sim K ρ M H) (sr:SRep K ρ H S σ) (r:Reps K ρ H ds vs) (q:g ds S M Q) (k:∀σ' H',SQ K ρ H Q σ' H'->R σ' H')
inductive lowR(r:DR2)(vx vy:V)(H:Hp)(R:VK):Prop
 | mk (x y:D) (M:Mem) (ρ:List Addr) (Q:DK) (s:Sim K ρ M H) (r1:Rep K ρ H x vx) (r2:Rep K ρ H y vy) (q:r x y M Q) (k:∀v H',VQ K ρ H Q v H'->R v H')
inductive lowU(r:DR1)(vx:V)(H:Hp)(R:VK):Prop
 | mk (x:D) (M:Mem) (ρ:List Addr) (Q:DK) (s:Sim K ρ M H) (r1:Rep K ρ H x vx) (q:r x M Q) (k:∀v H',VQ K ρ H Q v H'->R v H')
inductive lowC(r:DRA)(vs:List V)(H:Hp)(R:VK):Prop
 | mk (ds:List D) (M:Mem) (ρ:List Addr) (Q:DK) (s:Sim K ρ M H) (r1:Reps K ρ H ds vs) (q:r ds M Q) (k:∀v H',VQ K ρ H Q v H'->R v H')
end
def DE(X:Cx)(e:Expr)(t:DTE):Prop:=PE X e (lowE X.K t)
def DT(X:Cx)(e:Expr)(t:DTT):Prop:=PT X e (lowT X.K t)
def DW(X:Cx)(e:Expr)(t:DTT):Prop:=PW X e (lowT X.K t)
def DA(X:Cx)(es:List Expr)(t:DTA):Prop:=PA X es (lowA X.K t)
def DS(X:Cx)(st:Stmt)(t:DTS):Prop:=PS X st (lowS X.K t)
def DSs(X:Cx)(st:List Stmt)(t:DTS):Prop:=PSs X st (lowS X.K t)
def DG(X:Cx)(tg:Expr)(g:DTG):Prop:=PG X tg (lowG X.K g)
def DGs(X:Cx)(tg:List Expr)(g:yF):Prop:=PGs X tg (lowGs X.K g)
def OpD(X:Cx)(f:Value->Value->Sem Value)(r:DR2):Prop:=OpR X f (lowR X.K r)
def UnD(X:Cx)(f:Value->Sem Value)(r:DR1):Prop:=UnR X f (lowU X.K r)
def nM(X:Cx)(f:Value)(r:DRA):Prop:=eE X f (lowC X.K r)
section
variable{K:AA3}{ρ ρ1:List Addr}{H H1:Hp}
theorem VQ.trans(g:Grow K ρ H ρ1 H1)(h:VQ K ρ1 H1 Q v H'):VQ K ρ H Q v H':=by
 obtain⟨d,M',ρ',s,g',r,q⟩:=h
 exact⟨d,M',ρ',s,g.trans g',r,q⟩
theorem BQ.trans(g:Grow K ρ H ρ1 H1)(h:BQ K ρ1 H1 Q v H'):BQ K ρ H Q v H':=by
 obtain⟨M',ρ',s,g',q⟩:=h
 exact⟨M',ρ',s,g.trans g',q⟩
theorem SQ.trans(g:Grow K ρ H ρ1 H1)(h:SQ K ρ1 H1 Q v H'):SQ K ρ H Q v H':=by
 obtain⟨d,M',ρ',s,g',r,q⟩:=h
 exact⟨d,M',ρ',s,g.trans g',r,q⟩
theorem Ups.trans(g:Grow K ρ H ρ1 H1)(h:Ups K ρ H F E):Ups K ρ1 H1 F E :=
 ⟨λσ' H' q=>h.nx σ' H' (SQ.trans g q),λv H' q=>h.rt v H' (VQ.trans g q),λσ' H' q=>h.bk σ' H' (SQ.trans g q),λσ' H' q=>h.ct σ' H' (SQ.trans g q)⟩
theorem VQ.now(s:Sim K ρ M H)(r:Rep K ρ H d v)(q:Q d M):VQ K ρ H Q v H:=⟨d,M,ρ,s,.refl,r,q⟩
end
section
variable{K:AA3}{ρ:List Addr}{H:Hp}{v:V}{vs:List V}
theorem Rep.inv_non(h:Rep K ρ H .non v):v=.non:=by cases h;rfl
theorem Rep.inv_bl(h:Rep K ρ H (.bl b) v):v=.bl b:=by cases h;rfl
theorem Rep.inv_int(h:Rep K ρ H (.int i) v):v=.int i:=by cases h;rfl
theorem Rep.inv_str(h:Rep K ρ H (.str x) v):v=.str x:=by cases h;rfl
theorem Rep.inv_ty(h:Rep K ρ H (.ty n) v):v=.ty n:=by cases h;rfl
theorem Rep.inv_tup(h:Rep K ρ H (.tup ds) v):∃a vs,v=.ref a/\SqT K H a vs/\Reps K ρ H ds vs:=by cases h with | tup h r=>exact⟨_,_,rfl,h,r⟩
theorem Rep.inv_ref(h:Rep K ρ H (.ref n) v):∃a,v=.ref a/\ρ[n]?=some a:=by cases h with | ref h=>exact⟨_,rfl,h⟩
theorem au.inv_cons(h:au (x::vs) us):∃u ws,us=u::ws/\aC x u/\au vs ws:=by cases h with | cons h t=>exact⟨_,_,rfl,h,t⟩
theorem au.inv_nil(h:au [] us):us=[]:=by cases h;rfl
theorem Reps.inv_nil(h:Reps K ρ H [] vs):vs=[]:=by cases h;rfl
theorem Reps.inv_cons(h:Reps K ρ H (d::ds) vs):∃v ws,vs=v::ws/\Rep K ρ H d v/\Reps K ρ H ds ws:=by cases h with | cons h t=>exact⟨_,_,rfl,h,t⟩
end
end
theorem PE.imp(h:PE X e t')(i:∀σ H R,t σ H R->t' σ H R):PE X e t:=λpins s σ H R I q=>h pins s σ H R I (i σ H R q)
theorem PT.imp(h:PT X e t')(i:∀σ H R,t σ H R->t' σ H R):PT X e t:=λpins s σ H R I q=>h pins s σ H R I (i σ H R q)
theorem PW.imp(h:PW X e t')(i:∀σ H R,t σ H R->t' σ H R):PW X e t:=λw pins s σ H R I q=>h w pins s σ H R I (i σ H R q)
theorem PA.imp(h:PA X e t')(i:∀σ H R,t σ H R->t' σ H R):PA X e t:=λpos pins s σ H R I q=>h pos pins s σ H R I (i σ H R q)
theorem PS.imp(h:PS X e t')(i:∀E σ H,t E σ H->t' E σ H):PS X e t:=λpins s σ H R I q=>h pins s σ H R I (i R σ H q)
theorem PSs.imp(h:PSs X e t')(i:∀E σ H,t E σ H->t' E σ H):PSs X e t:=λpins s σ H R I q=>h pins s σ H R I (i R σ H q)
theorem OpR.imp(h:OpR X f r')(i:∀x y H R,r x y H R->r' x y H R):OpR X f r:=λpins s σ H x y v u R I a b q=>h pins s σ H x y v u R I a b (i x y H R q)
theorem eE.imp(h:eE X f r')(i:∀xs H R,r xs H R->r' xs H R):eE X f r:=λpins s σ H xs us R I a q=>h pins s σ H xs us R I a (i xs H R q)
section
variable{X:Cx}{a b c:Expr}{ta tb tc:DTE}{pos:Pos}
def ac(i:Nat):DTE:=λS M Q=>match S[i]? with
 | some (some d)=>Q d M
 | _=>False
def dC(d:D):DTE:=λ_ M Q=>Q d M
theorem wY{K:AA3}{i:Nat}(σ:St)(H:Hp)(R:VK)(h:lowE K (ac i) σ H R):tVar i σ H R:=by
 obtain⟨S,M,ρ,Q,s,r,q,k⟩:=h
 unfold ac at q
 cases e:S[i]? with
 | none=>rw[e]at q;exact q.elim
 | some o =>
  cases o with
  | none=>rw[e]at q;exact q.elim
  | some d =>
   rw[e]at q
   obtain⟨v,hv,rv⟩:=r.get i d e
   exact⟨v,hv,k v H (VQ.now s rv q)⟩
theorem d_var(hN:X.N[i]?=some x:=by rfl)(hv:Vis X.env.scope x:=by first | exact Or.inl rfl | exact Or.inr (Or.inl rfl) | exact Or.inr (Or.inr rfl))(hd:(x==("__debug__":Str))=false:=by decide)
  (hcd:(x==("__classdict__":Str))=false:=by decide):DE X (.Name x pos) (ac i):=PE.imp (yh hN hv hd hcd) wY
noncomputable def cV:D->Option V
 | .non=>some .non
 | .bl b=>some (.bl b)
 | .int i=>some (.int i)
 | .str x=>some (.str x)
 | .ty n=>some (.ty n)
 | _=>none
theorem vP{K:AA3}{ρ:List Addr}{H:Hp}{d:D}{v:V}(h:cV d=some v):Rep K ρ H d v:=by
 cases d with
 | non=>cases h;exact .non
 | bl b=>cases h;exact .bl b
 | int b=>cases h;exact .int b
 | str b=>cases h;exact .str b
 | ty b=>cases h;exact .ty b
 | tup b=>cases h
 | ref b=>cases h
theorem mQ{K:AA3}{d:D}{v:V}(hd:cV d=some v)(σ:St)(H:Hp)(R:VK)(h:lowE K (dC d) σ H R):tC v σ H R:=by
 obtain⟨S,M,ρ,Q,s,r,q,k⟩:=h
 exact k v H (VQ.now s (vP hd) q)
theorem d_int{i:Int}{j:Nat}:DE X (.Constant (.int i) j pos) (dC (.int i)):=PE.imp Ce (mQ rfl)
theorem d_bl{i:Bool}{j:Nat}:DE X (.Constant (.bool i) j pos) (dC (.bl i)):=PE.imp pe_bl (mQ rfl)
theorem d_non{j:Nat}:DE X (.Constant .none j pos) (dC .non):=PE.imp Cc (mQ rfl)
theorem d_str{i:Str}{j:Nat}:DE X (.Constant (.str i) j pos) (dC (.str i)):=PE.imp Ca (mQ rfl)
theorem Ep{x:Str}{T:String}(hm:X.mg x=none)(hv:bootBuiltins x=some (.type T))(hg:Gl X x:=by rfl)(hn:x≠"__name__":=by decide)(hb:(x==("__debug__":Str))=false:=by decide):DE X (.Name x pos) (dC (.ty T)) :=
 PE.imp (ue (v:=.ty T) hg hm hv rfl hn hb) (mQ rfl)
theorem low2{K:AA3}{S:SD}{M:Mem}{ρ:List Addr}{σ:St}{H:Hp}{P:D->D->Mem->Prop}{G:V->V->Hp->Prop}(s:Sim K ρ M H)(r:SRep K ρ H S σ)(h:ta S M λx M1=>tb S M1 λy M2=>P x y M2)
  (k:∀x y vx vy M2 ρ2 H2,Sim K ρ2 M2 H2->Grow K ρ H ρ2 H2->Rep K ρ2 H2 x vx->Rep K ρ2 H2 y vy->P x y M2->G vx vy H2):lowE K ta σ H λvx H1=>lowE K tb σ H1 λvy H2=>G vx vy H2:=by
 refine⟨S,M,ρ,_,s,r,h,?_⟩
 rintro vx H1 ⟨x,M1,ρ1,s1,g1,r1,q1⟩
 refine⟨S,M1,ρ1,_,s1,r.grow g1,q1,?_⟩
 rintro vy H2 ⟨y,M2,ρ2,s2,g2,r2,q2⟩
 exact k x y vx vy M2 ρ2 H2 s2 (g1.trans g2) (r1.grow g2) r2 q2
def dOp(r:DR2)(ta tb:DTE):DTE:=λS M Q=>ta S M λx M1=>tb S M1 λy M2=>r x y M2 Q
theorem kY{K:AA3}{r:DR2}(σ:St)(H:Hp)(R:VK)(h:lowE K (dOp r ta tb) σ H R):tOp (lowR K r) (lowE K ta) (lowE K tb) σ H R:=by
 obtain⟨S,M,ρ,Q,s,sr,q,k⟩:=h
 exact low2 s sr q λx y vx vy M2 ρ2 H2 s2 g2 r1 r2 q2=>⟨x,y,M2,ρ2,Q,s2,r1,r2,q2,λv H' w=>k v H' (VQ.trans g2 w)⟩
theorem d_op(ho:OpD X (binaryOp op) r)(ha:DE X a ta)(hb:DE X b tb):DE X (.BinOp a op b pos) (dOp r ta tb):=PE.imp (pe_op ho ha hb) kY
theorem d_cmp(ho:OpD X (compareOp op) r)(ha:DE X a ta)(hb:DE X b tb)(hm:behindInMarks op b=false:=by with_unfolding_all rfl):DE X (.Compare a [op] [b] pos) (dOp r ta tb):=PE.imp (zp ho ha hb hm) kY
def aE(t:DTE):DTT:=λS M Q=>t S M λx M'=>match x with
 | .bl b=>Q b M'
 | _=>False
theorem mP{K:AA3}{t:DTE}(σ:St)(H:Hp)(R:Bool->Hp->Prop)(h:lowT K (aE t) σ H R):Bu (lowE K t) σ H R:=by
 obtain⟨S,M,ρ,Q,s,sr,q,k⟩:=h
 refine⟨S,M,ρ,_,s,sr,q,?_⟩
 rintro v H' ⟨d,M',ρ',s',g',r',q'⟩
 cases r' with
 | bl b=>exact⟨b,rfl,k b H' ⟨M',ρ',s',g',q'⟩⟩
 | _=>exact q'.elim
theorem Ea(ho:OpD X (compareOp op) r)(ha:DE X a ta)(hb:DE X b tb)(hm:behindInMarks op b=false:=by with_unfolding_all rfl):DT X (.Compare a [op] [b] pos) (aE (dOp r ta tb)):=by
 refine PT.imp (zf ho ha hb hm) λσ H R h=>?_
 obtain⟨S,M,ρ,Q,s,sr,q,k⟩:=mP σ H R h
 exact kY σ H _ ⟨S,M,ρ,Q,s,sr,q,k⟩
theorem DY(h:DE X e t)(he:∀whole,isTrue e X.env whole=(do let v <-whole;standAt e.pos;holding [v] (truthy v)):=by intro _;rfl):DT X e (aE t):=PT.imp (BR h he) mP
def onB(z:D)(k:Bool->Prop):Prop:=match z with
 | .bl b=>k b
 | _=>False
theorem yi{b:Bool}{k:Bool->Prop}:onB (.bl b) k=k b:=rfl
variable{tA tB:DTT}{ax:List Expr}
def Bc(t u:DTT):DTT:=λS M Q=>t S M λb M1=>if b=true then u S M1 Q else Q false M1
def dOr(t u:DTT):DTT:=λS M Q=>t S M λb M1=>if b=true then Q true M1 else u S M1 Q
def Bb(t:DTT):DTT:=λS M Q=>t S M λb M1=>Q (!b) M1
theorem Aw(ha:DT X a tA):DW X (.BoolOp .And [a] pos) tA:=zc ha
theorem DU(ha:DT X a tA):DW X (.BoolOp .Or [a] pos) tA:=BO ha
theorem DV(ha:DT X a tA)(hb:DW X (.BoolOp .And (b::ax) pos) tB):DW X (.BoolOp .And (a::b::ax) pos) (Bc tA tB):=by
 refine PW.imp (BP ha hb) ?_
 rintro σ H R ⟨S,M,ρ,Q,s,sr,q,k⟩
 refine⟨S,M,ρ,_,s,sr,q,?_⟩
 rintro c H1 ⟨M1,ρ1,s1,g1,q1⟩
 cases c with
 | true=>exact cx ⟨S,M1,ρ1,Q,s1,sr.grow g1,(show tB S M1 Q from q1),λv H' w=>k v H' (BQ.trans g1 w)⟩
 | false=>exact bK (k false H1 ⟨M1,ρ1,s1,g1,q1⟩)
theorem dw_or(ha:DT X a tA)(hb:DW X (.BoolOp .Or (b::ax) pos) tB):DW X (.BoolOp .Or (a::b::ax) pos) (dOr tA tB):=by
 refine PW.imp (pw_or ha hb) ?_
 rintro σ H R ⟨S,M,ρ,Q,s,sr,q,k⟩
 refine⟨S,M,ρ,_,s,sr,q,?_⟩
 rintro c H1 ⟨M1,ρ1,s1,g1,q1⟩
 cases c with
 | false=>exact bK ⟨S,M1,ρ1,Q,s1,sr.grow g1,(show tB S M1 Q from q1),λv H' w=>k v H' (BQ.trans g1 w)⟩
 | true=>exact cx (k true H1 ⟨M1,ρ1,s1,g1,q1⟩)
theorem dw_t(h:DW X e t):DT X e t:=PW.pt h
theorem DZ(ha:DT X a tA):DT X (.UnaryOp .Not a pos) (Bb tA):=by
 refine PT.imp (BS ha) ?_
 rintro σ H R ⟨S,M,ρ,Q,s,sr,q,k⟩
 refine⟨S,M,ρ,_,s,sr,q,?_⟩
 rintro c H1 ⟨M1,ρ1,s1,g1,q1⟩
 exact k (!c) H1 ⟨M1,ρ1,s1,g1,q1⟩
def vI(ta tb:DTE):DTE:=λS M Q=>ta S M λx M1=>onB x λb=>if b=true then tb S M1 Q else Q (.bl false) M1
def dOrV(ta tb:DTE):DTE:=λS M Q=>ta S M λx M1=>onB x λb=>if b=true then Q (.bl true) M1 else tb S M1 Q
theorem d_one{op}(h:DE X a ta):DE X (.BoolOp op [a] pos) ta:=Cb h
theorem d_and(ha:DE X a ta)(hb:DE X (.BoolOp .And (b::ax) pos) tb):DE X (.BoolOp .And (a::b::ax) pos) (vI ta tb):=by
 refine PE.imp (Cg ha hb) ?_
 rintro σ H R ⟨S,M,ρ,Q,s,sr,q,k⟩
 refine⟨S,M,ρ,_,s,sr,q,?_⟩
 rintro v H1 ⟨d,M1,ρ1,s1,g1,r1,q1⟩
 cases r1 with
 | bl c =>
  cases c with
  | true=>exact⟨true,rfl,cx ⟨S,M1,ρ1,Q,s1,sr.grow g1,(show tb S M1 Q from q1),λv H' w=>k v H' (VQ.trans g1 w)⟩⟩
  | false=>exact⟨false,rfl,bK (k _ H1 ⟨_,M1,ρ1,s1,g1,.bl false,(show Q (.bl false) M1 from q1)⟩)⟩
 | _=>exact q1.elim
theorem d_or(ha:DE X a ta)(hb:DE X (.BoolOp .Or (b::ax) pos) tb):DE X (.BoolOp .Or (a::b::ax) pos) (dOrV ta tb):=by
 refine PE.imp (pe_or ha hb) ?_
 rintro σ H R ⟨S,M,ρ,Q,s,sr,q,k⟩
 refine⟨S,M,ρ,_,s,sr,q,?_⟩
 rintro v H1 ⟨d,M1,ρ1,s1,g1,r1,q1⟩
 cases r1 with
 | bl c =>
  cases c with
  | false=>exact⟨false,rfl,bK ⟨S,M1,ρ1,Q,s1,sr.grow g1,(show tb S M1 Q from q1),λv H' w=>k v H' (VQ.trans g1 w)⟩⟩
  | true=>exact⟨true,rfl,cx (k _ H1 ⟨_,M1,ρ1,s1,g1,.bl true,(show Q (.bl true) M1 from q1)⟩)⟩
 | _=>exact q1.elim
variable{e:Expr}{es:List Expr}{te:DTE}{t:DTA}
def ah:DTA:=λ_ M Q=>Q [] M
def aa(te:DTE)(t:DTA):DTA:=λS M Q=>te S M λd M1=>t S M1 λds M2=>Q (d::ds) M2
theorem Eo:DA X [] ah:=by
 refine PA.imp ug ?_
 rintro σ H R ⟨S,M,ρ,Q,s,sr,q,k⟩
 exact k [] H ⟨[],M,ρ,s,.refl,.nil,q⟩
theorem AH(ha:DE X e te)(hr:DA X es t)(hs:starEach (e::es) X.env=(false,eval e X.env)::starEach es X.env:=by rfl):DA X (e::es) (aa te t):=by
 refine PA.imp (iK ha hr hs) ?_
 rintro σ H R ⟨S,M,ρ,Q,s,sr,q,k⟩
 refine⟨S,M,ρ,_,s,sr,q,?_⟩
 rintro v H1 ⟨d,M1,ρ1,s1,g1,r1,q1⟩
 refine⟨S,M1,ρ1,_,s1,sr.grow g1,q1,?_⟩
 rintro vs H2 ⟨ds,M2,ρ2,s2,g2,r2,q2⟩
 exact k _ H2 ⟨d::ds,M2,ρ2,s2,g1.trans g2,.cons (r1.grow g2) r2,q2⟩
def gG(t:DTA):DTE:=λS M Q=>t S M λds M1=>ds.length<=sizeLine/\Q (.tup ds) M1
def fI(t:DTA):DTE:=λS M Q=>t S M λds M1=>ds.length<=sizeLine/\Q (.ref M1.length) (M1++[.lst ds])
theorem VQ.laidT{K:AA3}{ρ ρ1:List Addr}{H H1:Hp}{M1:Mem}{ds:List D}{vs:List V}{Q:DK}{p:Addr}(s1:Sim K ρ1 M1 H1)(g1:Grow K ρ H ρ1 H1)(r1:Reps K ρ1 H1 ds vs)(hp:H1 p=none)(q:Q (.tup ds) M1):VQ K ρ H Q (.ref p) (upd H1 p (.tup vs)) :=
 ⟨.tup ds,M1,ρ1,s1.laid hp,g1.trans (Grow.laid hp),.tup (SqT.of ay) (r1.grow (Grow.laid hp)),q⟩
theorem VQ.laidL{K:AA3}{ρ ρ1:List Addr}{H H1:Hp}{M1:Mem}{ds:List D}{vs:List V}{Q:DK}{p:Addr}(s1:Sim K ρ1 M1 H1)(g1:Grow K ρ H ρ1 H1)(r1:Reps K ρ1 H1 ds vs)(hp:H1 p=none)(q:Q (.ref M1.length) (M1++[.lst ds])):VQ K ρ H Q (.ref p) (upd H1 p (.lst vs)) :=
 ⟨.ref M1.length,M1++[.lst ds],ρ1++[p],s1.laidL hp r1,g1.trans (Grow.laidR hp),.ref s1.last,q⟩
theorem d_tup{x1}(h:DA X es t):DE X (.Tuple es x1 pos) (gG t):=by
 refine PE.imp (BZ h) ?_
 rintro σ H R ⟨S,M,ρ,Q,s,sr,q,k⟩
 refine⟨S,M,ρ,_,s,sr,q,?_⟩
 rintro vs H1 ⟨ds,M1,ρ1,s1,g1,r1,z,q1⟩
 exact⟨by rw[<-r1.length];exact z,λp hp=>k _ _ (VQ.laidT s1 g1 r1 hp q1)⟩
theorem d_lst(h:DA X es t):DE X (.List es pos) (fI t):=by
 refine PE.imp (Cd h) ?_
 rintro σ H R ⟨S,M,ρ,Q,s,sr,q,k⟩
 refine⟨S,M,ρ,_,s,sr,q,?_⟩
 rintro vs H1 ⟨ds,M1,ρ1,s1,g1,r1,z,q1⟩
 exact⟨by rw[<-r1.length];exact z,λp hp=>k _ _ (VQ.laidL s1 g1 r1 hp q1)⟩
def dCB(r:DRA)(t:DTA):DTE:=λS M Q=>t S M λds M1=>r ds M1 Q
theorem uB{K:AA3}{r:DRA}(σ:St)(H:Hp)(R:VK)(h:lowE K (dCB r t) σ H R):tCB (lowC K r) (lowA K t) σ H R:=by
 obtain⟨S,M,ρ,Q,s,sr,q,k⟩:=h
 refine⟨S,M,ρ,_,s,sr,q,?_⟩
 rintro vs H1 ⟨ds,M1,ρ1,s1,g1,r1,q1⟩
 exact⟨ds,M1,ρ1,Q,s1,r1,q1,λv H' w=>k v H' (VQ.trans g1 w)⟩
theorem AJ{x:Str}{p:Pos}{id:String}{r:DRA}(hc:nM X (.builtin id) r)(hm:X.mg x=none)(hv:bootBuiltins x=some (.builtin id))(ha:DA X (e::es) t)(hg:Gl X x:=by rfl)(hn:x≠"__name__":=by decide)(hdb:(x==("__debug__":Str))=false:=by decide)
  (he:starEach (e::es) X.env=(false,eval e X.env)::starEach es X.env:=by rfl) (hpl:(backTo pos (starEach es X.env)).any (·.1)=false:=by rfl):DE X (.Call (.Name x p) (e::es) [] pos) (dCB r t) :=
 PE.imp (kM hc hg hm hv ha hn hdb he hpl) uB
theorem xR(hc:nM X (.type T) r)(hm:X.mg x=none)(hv:bootBuiltins x=some (.type T))(ha:DA X (e::es) t)(hg:Gl X x:=by rfl)(hn:x≠"__name__":=by decide)(hdb:(x==("__debug__":Str))=false:=by decide)
  (he:starEach (e::es) X.env=(false,eval e X.env)::starEach es X.env:=by rfl) (hpl:(backTo pos (starEach es X.env)).any (·.1)=false:=by rfl):DE X (.Call (.Name x p) (e::es) [] pos) (dCB r t) :=
 PE.imp (ud hc hg hm hv ha hn hdb he hpl) uB
abbrev DSp:=List D->Mem->DK->Prop
def spL(K:AA3)(P:DSp):Sp:=λvs H Q _=>∃ds M ρ R,Sim K ρ M H/\Reps K ρ H ds vs/\P ds M R/\∀v H',VQ K ρ H R v H'->Q v H'
theorem uz{K:AA3}{P:DSp}(σ:St)(H:Hp)(R:VK)(h:lowE K (dCB P t) σ H R):Bw (spL K P) [] E0 (lowA K t) σ H R:=by
 obtain⟨S,M,ρ,Q,s,sr,q,k⟩:=h
 exact⟨S,M,ρ,_,s,sr,q,λvs H1 ⟨ds,M1,ρ1,s1,g1,r1,q1⟩=>⟨ds,M1,ρ1,Q,s1,by rw[ABC];exact r1,q1,λv H' w=>k v H' (VQ.trans g1 w)⟩⟩
theorem Eu(F:FnOk X.prog X.w X.K X.mg X.base CX0 k f fd ps (spL X.K P))(hr:Room k X.A)(hm:X.mg x=some (.ref f))(hk:ABw X.K (.ref f)=true)(hb:lO X.K fd ps [])
  (ha:DA X (e::es) t) (hg:Gl X x:=by rfl) (hdb:(x==("__debug__":Str))=false:=by decide) (he:starEach (e::es) X.env=(false,eval e X.env)::starEach es X.env:=by rfl) (hpl:(backTo pos (starEach es X.env)).any (·.1)=false:=by rfl) :
  DE X (.Call (.Name x p) (e::es) [] pos) (dCB P t):=PE.imp (zq F hr hg hm hk hb .nil pass0 ha hdb he hpl) uz
end
section
variable{X:Cx}{st:Stmt}{ax:List Stmt}{t u:DTS}{e:Expr}{te:DTE}{pos:Pos}
def aZ:DTS:=λE S M=>E.nx S M
def aA(t u:DTS):DTS:=λE S M=>t { E with nx:=λS' M'=>u E S' M' } S M
theorem Ee:DSs X [] aZ:=by
 refine PSs.imp zh ?_
 rintro E σ H ⟨S,M,ρ,F,s,sr,q,k⟩
 exact k.nx σ H ⟨S,M,ρ,s,.refl,sr,q⟩
theorem Ed(h:DS X st t):DSs X [st] t:=zg h
theorem AB(h1:DS X st t)(h2:DSs X ax u):DSs X (st::ax) (aA t u):=by
 refine PSs.imp (wC h1 h2) ?_
 rintro E σ H ⟨S,M,ρ,F,s,sr,q,k⟩
 exact⟨S,M,ρ,_,s,sr,q,⟨λσ' H' ⟨S',M',ρ',s',g',sr',q'⟩=>⟨S',M',ρ',F,s',sr',q',k.trans g'⟩,k.rt,k.bk,k.ct⟩⟩
def gc(te:DTE):DTS:=λE S M=>te S M λ_ M1=>E.nx S M1
theorem AA(he:DE X e te)(hs:swapsWith e none pos.line X.env=pure false:=by rfl):DS X (.Expr e pos) (gc te):=by
 refine PS.imp (zi he hs) ?_
 rintro E σ H ⟨S,M,ρ,F,s,sr,q,k⟩
 refine⟨S,M,ρ,_,s,sr,q,?_⟩
 rintro v H1 ⟨d,M1,ρ1,s1,g1,r1,q1⟩
 exact k.nx σ H1 ⟨S,M1,ρ1,s1,g1,sr.grow g1,q1⟩
def bA(te:DTE):DTS:=λE S M=>te S M E.rt
theorem Ec(he:DE X e te):DS X (.Return (some e) pos) (bA te):=by
 refine PS.imp (BU he) ?_
 rintro E σ H ⟨S,M,ρ,F,s,sr,q,k⟩
 exact⟨S,M,ρ,_,s,sr,q,λv H1 w=>k.rt v H1 w⟩
def dIf(c:DTT)(t u:DTS):DTS:=λE S M=>c S M λb M1=>if b=true then t E S M1 else u E S M1
theorem ds_if(hc:DT X c tc)(ha:DSs X a t)(hb:DSs X b u):DS X (.If c a b pos) (dIf tc t u):=by
 refine PS.imp (ps_if hc ha hb) ?_
 rintro E σ H ⟨S,M,ρ,F,s,sr,q,k⟩
 refine⟨S,M,ρ,_,s,sr,q,?_⟩
 rintro c H1 ⟨M1,ρ1,s1,g1,q1⟩
 cases c with
 | true=>exact cx ⟨S,M1,ρ1,F,s1,sr.grow g1,(show t F S M1 from q1),k.trans g1⟩
 | false=>exact bK ⟨S,M1,ρ1,F,s1,sr.grow g1,(show u F S M1 from q1),k.trans g1⟩
def aW(te:DTE)(i:Nat):DTS:=λE S M=>te S M λd M1=>E.nx (S.set i (some d)) M1
theorem Eb(hN:X.N.Nodup)(he:DE X e te)(hi:X.N[i]?=some x:=by rfl)(hx:Loc X.env.scope x:=by first | exact Or.inl rfl | exact Or.inr rfl)(hs:swapsWith e (some (.Name x pos')) pos.line X.env=pure false:=by rfl)
  (hf:X.fn x=true\/X.env.scope.names.lookup x=some .local:=by first | exact .inl rfl | exact .inr rfl | assumption):DS X (.Assign [.Name x pos'] e pos) (aW te i):=by
 refine PS.imp (BT hN hi hx he hs hf) ?_
 rintro E σ H ⟨S,M,ρ,F,s,sr,q,k⟩
 refine⟨S,M,ρ,_,s,sr,q,?_⟩
 rintro v H1 ⟨d,M1,ρ1,s1,g1,r1,q1⟩
 exact k.nx _ H1 ⟨_,M1,ρ1,s1,g1,(sr.grow g1).set i r1,q1⟩
def aw(i:Nat):DTG:=λd S M Q=>Q (S.set i (some d)) M
theorem oW(hN:X.N.Nodup)(hi:X.N[i]?=some x:=by rfl)(hx:Loc X.env.scope x:=by first | exact Or.inl rfl | exact Or.inr rfl)(hf:X.fn x=true\/X.env.scope.names.lookup x=some .local:=by first | exact .inl rfl | exact .inr rfl | assumption):DG X (.Name x pos) (aw i) :=
 λpins s σ H v u R I r ⟨d,S,M,ρ,Q,sm,sr,rd,q,k⟩=>zn hN hi hx hf pins s σ H v u R I r (k _ H ⟨_,M,ρ,sm,.refl,sr.set i rd,q⟩)
end
theorem qS{P:Program}{w:World}{K:AA3}{tg:Expr}(it:Addr)(n:Nat)(PV:Nat->Value->Prop)(PX:Nat->V->Prop)(Sx:Nat->Heap->Prop)
  (W:∀A':Around,A'.handled=none->Walks P w A' it [it] [it] n PV Sx) (hrel:∀i v,PV i v->∃x,aC x v/\PX i x)
  (hobj:∀i h,Sx i h->∃(o:Obj) (nm:String) (vs:Array Value),h.get? it=some o/\o.cls=.type nm/\o.data=.fields vs/\["enumerate","zip","dict_itemiterator","dict_reverseitemiterator","odict_iterator","itertools.zip_longest","itertools.pairwise"].contains nm=false)
  (hframe:∀(i:Nat) (h h':Heap),Sx i h->(∀o,h.get? it=some o->h'.get? it=some o)->Sx i h')
  (hself:∀(A:Around) (i:Nat) (s:Shared) (Q:Value->Shared->Prop) (E:Value->Shared->Prop),Sx i s.heap->Q (.ref it) s->wpAny (model P w) A (pyIter (.ref it)) Q E s) :
  Turn P w K tg ⟨λi _=>i<n,λi H x H'=>H'=H/\PX i x,λi _=>i=n⟩ [it] it Sx where
 mem:=by simp
 obj:=λi h st b hb=>by
  have e:b=it:=by simpa using hb
  subst e
  obtain⟨o,nm,vs,e,_,d,_⟩:=hobj i h st
  exact⟨o,e,λv z=>by rw[d]at z;cases z⟩
 keep:=λi h h' st k=>hframe i h h' st λo e=>k it (by simp) o e
 item:=by
  intro X hP hw hK hc i pins s σ H E I hf st hg
  subst hP hw hK
  obtain⟨f0,f1,f2,f3,f4,f5⟩:=hf it (by simp)
  refine(W X.A (I.ok.hd hc)).item i s _ _ hg st λv h' tk hv st' kk=>?_
  obtain⟨x,rx,px⟩:=hrel i v hv
  have I1:Inv X pins σ H { s with heap:=h',toks:=tk }:=I.turned (λb o hb e=>kk b o (by simpa using hb) e) f0 f1 f3 f4 f5
  obtain⟨o,nm,vs,e,c,d,hn⟩:=hobj _ _ st'
  exact⟨v,rfl,rT (s:={ s with heap:=h',toks:=tk }) e c d hn ⟨x,H,I1,rx,⟨rfl,px⟩,st',λb hb=>(hf b hb).1⟩⟩
 done:=by
  intro X hP hw hK hc i pins s σ H E I hf st hg
  subst hP hw hK
  obtain⟨f0,f1,f2,f3,f4,f5⟩:=hf it (by simp)
  have hi:i=n:=hg
  subst hi
  exact(W X.A (I.ok.hd hc)).done s _ _ st λh' tk kk=>⟨rfl,I.turned (λb o hb e=>kk b o (by simpa using hb) e) f0 f1 f3 f4 f5⟩
 self:=hself
noncomputable def tQ(x:Str):List D:=x.cps.toList.map λc=>.str ⟨#[c]⟩
structure Src where
 items:List D
 ok:Mem->Prop
abbrev DTI:=SD->Mem->(Src->Mem->Prop)->Prop
structure ItD(K:AA3)(src:Src)(ρ0:List Addr)(H0:Hp)(J:It):Prop where
 go:∀(i:Nat) ρ M H,Sim K ρ M H->Grow K ρ0 H0 ρ H->src.ok M->i<src.items.length->J.go i H
 yld:∀(i:Nat) ρ M H x H',Sim K ρ M H->Grow K ρ0 H0 ρ H->src.ok M->i<src.items.length->J.yld i H x H'->∃d ρ',src.items[i]?=some d/\Sim K ρ' M H'/\Grow K ρ H ρ' H'/\Rep K ρ' H' d x
 stop:∀(ρ:List Addr) M H,Sim K ρ M H->Grow K ρ0 H0 ρ H->src.ok M->J.stop src.items.length H
def IQ(K:AA3)(ρ:List Addr)(H:Hp)(Q:Src->Mem->Prop):It->Hp->Prop:=λJ H'=>∃src M' ρ',Sim K ρ' M' H'/\Grow K ρ H ρ' H'/\ItD K src ρ' H' J/\Q src M'
def lowI(K:AA3)(di:DTI):TI:=λσ H R=>∃S M ρ Q,Sim K ρ M H/\SRep K ρ H S σ/\di S M Q/\∀J H',IQ K ρ H Q J H'->R J H'
def DI(X:Cx)(tg iter:Expr)(di:DTI):Prop:=PI X tg iter (lowI X.K di)
theorem ItD.tup{K:AA3}{ρ:List Addr}{H:Hp}{a:Addr}{vs:List V}{ds:List D}(h:SqT K H a vs)(r:Reps K ρ H ds vs)(uniq:∀ys,SqT K H a ys->ys=vs):ItD K ⟨ds,λ_=>True⟩ ρ H (Itt K a) where
 go:=λi ρ' M H' s g _ hi=>by
  have hl:i<vs.length:=by rw[<-r.length];exact hi
  exact⟨vs,vs[i],g.tup a vs h,AA5 hl⟩
 yld:=λi ρ' M H' x H2 s g _ hi y=>by
  obtain⟨rfl,y⟩:=y
  obtain⟨d,hd,rd⟩:=(r.grow g).getV (y vs (g.tup a vs h))
  exact⟨d,ρ',hd,s,.refl,rd⟩
 stop:=λρ' M H' s g _=>⟨vs,g.tup a vs h,by rw[<-r.length];exact AA8 _⟩
theorem ItD.lst{K:AA3}{ρ:List Addr}{H:Hp}{n:Nat}{a:Addr}{ds:List D}(e:ρ[n]?=some a):ItD K ⟨ds,λM=>am M n ds⟩ ρ H (Itl K a) where
 go:=λi ρ' M H' s g ok hi=>by
  obtain⟨vs,h,r⟩:=am.seq s ok (av g.pre e)
  have hl:i<vs.length:=by rw[<-r.length];exact hi
  exact⟨vs,vs[i],h,AA5 hl⟩
 yld:=λi ρ' M H' x H2 s g ok hi y=>by
  obtain⟨rfl,y⟩:=y
  obtain⟨vs,h,r⟩:=am.seq s ok (av g.pre e)
  obtain⟨d,hd,rd⟩:=r.getV (y vs h)
  exact⟨d,ρ',hd,s,.refl,rd⟩
 stop:=λρ' M H' s g ok=>by
  obtain⟨vs,h,r⟩:=am.seq s ok (av g.pre e)
  exact⟨vs,h,by rw[<-r.length];exact AA8 _⟩
theorem ItD.plain{K:AA3}{ρ:List Addr}{H:Hp}{ds:List D}{J:It}(hg:∀i H,i<ds.length->J.go i H)(hy:∀i H x H',i<ds.length->J.yld i H x H'->H'=H/\∃d,ds[i]?=some d/\cV d=some x)(hs:∀H,J.stop ds.length H):ItD K ⟨ds,λ_=>True⟩ ρ H J where
 go:=λi ρ' M H' s g _ hi=>hg i H' hi
 yld:=λi ρ' M H' x H2 s g _ hi y=>by
  obtain⟨rfl,d,hd,hv⟩:=hy i _ x H2 hi y
  exact⟨d,ρ',hd,s,.refl,vP hv⟩
 stop:=λρ' M H' s g _=>hs H'
section
variable{X:Cx}{tg:Expr}
def cw(te:DTE):DTI:=λS M R=>te S M λd M1=>match d with
 | .tup ds=>ds.length<=sizeLine->R ⟨ds,λ_=>True⟩ M1
 | .str x=>R ⟨tQ x,λ_=>True⟩ M1
 | .ref n=>∃xs,am M1 n xs/\(xs.length<=sizeLine->R ⟨xs,λM=>am M n xs⟩ M1)
 | _=>False
theorem Ei(hl:DE X l tl):DI X tg l (cw tl):=by
 intro pins s σ H R I h
 obtain⟨S,M,ρ,Q,sm,sr,q,k⟩:=h
 refine thn (hl pins s σ H _ I ⟨S,M,ρ,_,sm,sr,q,λv H' w=>w⟩) ?_
 rintro u s1 ⟨v,H1,I1,rv,d,M1,ρ1,sm1,g1,r1,q1⟩
 cases r1 with
 | non=>exact q1.elim
 | bl b=>exact q1.elim
 | int i=>exact q1.elim
 | ty n=>exact q1.elim
 | @tup a vs ds hq r =>
  cases rv
  obtain⟨its,rr,p,hz⟩:=I1.tuple hq
  refine wpAny_pyIter_tuple (show s1.heap.IsTuple a its.toArray from p) ?_
  refine⟨s1.heap.objs.size,[s1.heap.objs.size],_,_,H1,rfl,I1.kept (t':=s1.toks) λb o e=>AA4 _ e,qT a _,⟨_,AAE _ rfl,rfl,rfl⟩,λb hb=>?_,k _ H1 ⟨⟨ds,λ_=>True⟩,M1,ρ1,sm1,g1,ItD.tup hq r λys hy=>I1.tuple_inj hy hq,?_⟩⟩
  ·have e:b=s1.heap.objs.size:=by simpa using hb
   subst e
   exact I1.fpOk (AA8 _) (I1.hok.fresh (AA8 _))
  ·exact(show ds.length<=sizeLine->Q ⟨ds,λ_=>True⟩ M1 from q1) (by rw[r.length];exact hz)
 | @ref n a hn =>
  cases rv
  obtain⟨xs,hL,q2⟩:=(show ∃xs,am M1 n xs/\(xs.length<=sizeLine->Q ⟨xs,λM=>am M n xs⟩ M1)from q1)
  obtain⟨vs,hq,r⟩:=am.seq sm1 hL hn
  obtain⟨its,rr,p,hz⟩:=I1.list hq
  refine wpAny_pyIter_list p.isList ?_
  refine⟨s1.heap.objs.size,[s1.heap.objs.size],_,_,H1,rfl,I1.kept (t':=s1.toks) λb o e=>AA4 _ e,sM a _,⟨_,AAE _ rfl,rfl,rfl⟩,λb hb=>?_,k _ H1 ⟨⟨xs,λM=>am M n xs⟩,M1,ρ1,sm1,g1,ItD.lst hn,q2 (by rw[r.length];exact hz)⟩⟩
  have e:b=s1.heap.objs.size:=by simpa using hb
  subst e
  exact I1.fpOk (AA8 _) (I1.hok.fresh (AA8 _))
 | str x =>
  obtain⟨t,rfl⟩:=rv
  have fin:∀(nm:String) (ob:Obj),(ob.cls=.type nm/\ob.data=.fields #[.str x t,.int 0 0]) ->
    (∀A':Around,A'.handled=none->Walks X.prog X.w A' s1.heap.objs.size [s1.heap.objs.size] [s1.heap.objs.size] x.cps.size (SignAt x) (λi h=>h.IsStrIter s1.heap.objs.size nm x t i)) ->
    (∀(A:Around) (i:Nat) (s:Shared) (Q:Value->Shared->Prop) (E:Value->Shared->Prop),s.heap.IsStrIter s1.heap.objs.size nm x t i->Q (.ref s1.heap.objs.size) s->wpAny (model X.prog X.w) A (pyIter (.ref s1.heap.objs.size)) Q E s) ->
    ["enumerate","zip","dict_itemiterator","dict_reverseitemiterator","odict_iterator","itertools.zip_longest","itertools.pairwise"].contains nm=false->(s1.heap.push ob).IsStrIter s1.heap.objs.size nm x t 0 ->
    PIE X pins σ tg R (.ref s1.heap.objs.size) { s1 with heap:=s1.heap.push ob }:=λnm ob hob W hself hnm st=>by
   refine⟨s1.heap.objs.size,[s1.heap.objs.size],_,_,H1,rfl,I1.kept (t':=s1.toks) λb o e=>AA4 _ e,
    qS (PX:=λi v=>∃c,x.cps[i]?=some c/\v=.str ⟨#[c]⟩) _ _ _ _ W (λi v ⟨c,u,e1,e2⟩=>⟨.str ⟨#[c]⟩,⟨u,e2⟩,c,e1,rfl⟩) (λi h st=>?_) (λi h h' st k=>?_) hself,st,λb hb=>?_,k _ H1 ⟨⟨tQ x,λ_=>True⟩,M1,ρ1,sm1,g1,ItD.plain ?_ ?_ ?_,q1⟩⟩
   ·obtain⟨o,e,c,d⟩:=st
    exact⟨o,nm,_,e,c,d,hnm⟩
   ·obtain⟨o,e,r⟩:=st
    exact⟨o,k o e,r⟩
   ·have e:b=s1.heap.objs.size:=by simpa using hb
    subst e
    exact I1.fpOk (AA8 _) (I1.hok.fresh (AA8 _))
   ·intro i _ hi
    simpa [tQ]using hi
   ·rintro i H x' H' _ ⟨rfl,c,e,rfl⟩
    exact⟨rfl,.str ⟨#[c]⟩,by simp[tQ,e],rfl⟩
   ·intro H
    simp[tQ]
  cases ha:x.cps.all (· < 128)
  ·exact wpAny_pyIter_wide ha (fin _ _ ⟨rfl,rfl⟩ (λA' hA=>Walks.strWide hA _ x t) (λ_ _ _ _ _ st h=>wpAny_pyIter_striter_wide st h) (by decide) ⟨_,AAE _ rfl,rfl,rfl⟩)
  ·exact wpAny_pyIter_ascii ha (fin _ _ ⟨rfl,rfl⟩ (λA' hA=>Walks.strAscii hA _ x t) (λ_ _ _ _ _ st h=>wpAny_pyIter_striter_ascii st h) (by decide) ⟨_,AAE _ rfl,rfl,rfl⟩)
noncomputable def nN(lo:Int)(n:Nat):List D:=(AAn n).map λi=>.int (lo+((i:Nat):Int))
theorem ItD.rng{K:AA3}{ρ:List Addr}{H:Hp}(lo:Int)(n:Nat):ItD K ⟨nN lo n,λ_=>True⟩ ρ H (Itr lo n):=by
 refine ItD.plain (λi _ hi=>?_) (λi H x H' hi y=>?_) λH=>?_
 ·show i<n
  simpa [nN]using hi
 ·obtain⟨e,rfl⟩:=y
  have hi':i<n:=by simpa [nN]using hi
  exact⟨e,.int (lo+i),by simp[nN,hi'],rfl⟩
 ·show n<=(nN lo n).length
  simp[nN]
def cu(ta:DTA):DTI:=λS M R=>ta S M λds M1=>match ds with
 | [.int j]=>(-(2 ^ 62)<=j/\j<2 ^ 62)/\R ⟨nN 0 j.toNat,λ_=>True⟩ M1
 | _=>False
def lG(ta:DTA):DTI:=λS M R=>ta S M λds M1=>match ds with
 | [.int i,.int j]=>(-(2 ^ 62)<=i/\i<2 ^ 62/\-(2 ^ 62)<=j/\j<2 ^ 62)/\R ⟨nN i (j-i).toNat,λ_=>True⟩ M1
 | _=>False
theorem PI.imp(h:PI X tg iter t')(i:∀σ H R,t σ H R->t' σ H R):PI X tg iter t:=λpins s σ H R I q=>h pins s σ H R I (i σ H R q)
theorem vD(hm:X.mg "range" = none)(ha:DA X [a] ta)(hg:Gl X "range":=by rfl)(hs:starEach [a] X.env=[(false,eval a X.env)]:=by rfl):DI X tg (.Call (.Name "range" p) [a] [] pos) (cu ta):=by
 refine PI.imp (ub hg hm ha hs) ?_
 rintro σ H R ⟨S,M,ρ,Q,s,sr,q,k⟩
 refine⟨S,M,ρ,_,s,sr,q,?_⟩
 rintro vs H1 ⟨ds,M1,ρ1,s1,g1,r1,q1⟩
 try dsimp only at q1
 split at q1
 ·rename_i j
  obtain⟨⟨h1,h2⟩,q2⟩:=q1
  first | have hzz:=Reps.inv_cons r1 | have hzz:=au.inv_cons r1
  clear r1
  obtain⟨_,_,rfl,r,t⟩:=hzz
  cases r
  cases t
  exact⟨j,rfl,h1,h2,k _ H1 ⟨_,M1,ρ1,s1,g1,ItD.rng 0 j.toNat,q2⟩⟩
 ·exact q1.elim
theorem vC(hm:X.mg "range" = none)(ha:DA X [a,b] ta)(hg:Gl X "range":=by rfl)(hs:starEach [a,b] X.env=[(false,eval a X.env),(false,eval b X.env)]:=by rfl)(hs2:starEach [b] X.env=[(false,eval b X.env)]:=by rfl) :
  DI X tg (.Call (.Name "range" p) [a,b] [] pos) (lG ta):=by
 refine PI.imp (ua hg hm ha hs hs2) ?_
 rintro σ H R ⟨S,M,ρ,Q,s,sr,q,k⟩
 refine⟨S,M,ρ,_,s,sr,q,?_⟩
 rintro vs H1 ⟨ds,M1,ρ1,s1,g1,r1,q1⟩
 try dsimp only at q1
 split at q1
 ·rename_i i j
  obtain⟨h,q2⟩:=q1
  first | have hzz:=Reps.inv_cons r1 | have hzz:=au.inv_cons r1
  clear r1
  obtain⟨_,_,rfl,r,t⟩:=hzz
  cases r
  cases t with
  | cons r t =>
   cases r
   cases t
   exact⟨i,j,rfl,h,k _ H1 ⟨_,M1,ρ1,s1,g1,ItD.rng i (j-i).toNat,q2⟩⟩
 ·exact q1.elim
end
section
mutual
inductive Bel(k:Nat):D->Prop
 | non:Bel k .non
 | bl (b:Bool):Bel k (.bl b)
 | int (i:Int):Bel k (.int i)
 | str (x:Str):Bel k (.str x)
 | ty (n:String):Bel k (.ty n)
 | tup {ds:List D} (h:Bels k ds):Bel k (.tup ds)
 | ref {n:Nat} (h:n<k):Bel k (.ref n)
inductive Bels(k:Nat):List D->Prop
 | nil:Bels k []
 | cons {d:D}{ds:List D} (h:Bel k d) (t:Bels k ds):Bels k (d::ds)
end
noncomputable def MO.items:MO->List D
 | .lst xs=>xs
 | .fz xs=>xs
 | .kl xs=>xs
 | .dct kvs=>kvs.map (·.2)
 | .dkt kvs=>kvs.map (·.2)
 | .dkq kvs=>kvs.map (·.2)
 | .fdc _ kvs=>kvs.map (·.2)
 | .dkm kvs=>kvs.map (·.2)
 | .tb _ _=>[]
 | .exc _=>[]
theorem Rep.bel{K:AA3}{ρ:List Addr}{H:Hp}{d:D}{v:V}(h:Rep K ρ H d v):Bel ρ.length d :=
 Rep.rec (motive_1:=λd v _=>Bel ρ.length d) (motive_2:=λds vs _=>Bels ρ.length ds) .non .bl .int .str .ty (λ_ _ r=>.tup r) (λh=>.ref (AA7.mp h).1) .nil (λ_ _ h t=>.cons h t) h
theorem Reps.bel{K:AA3}{ρ:List Addr}{H:Hp}{ds:List D}{vs:List V}(h:Reps K ρ H ds vs):Bels ρ.length ds :=
 Reps.rec (motive_1:=λd v _=>Bel ρ.length d) (motive_2:=λds vs _=>Bels ρ.length ds) .non .bl .int .str .ty (λ_ _ r=>.tup r) (λh=>.ref (AA7.mp h).1) .nil (λ_ _ h t=>.cons h t) h
theorem Bel.inv(b:Bel k d):(∀ds,d=.tup ds->Bels k ds)/\∀n,d=.ref n->n<k:=by
 cases b with
 | tup b=>exact⟨(λ_ e=>by injection e with e;exact e ▸ b),(λ_ e=>by cases e)⟩
 | ref b=>exact⟨(λ_ e=>by cases e),(λ_ e=>by injection e with e;exact e ▸ b)⟩
 | _=>exact⟨(λ_ e=>by cases e),(λ_ e=>by cases e)⟩
theorem Bels.inv{k:Nat}{d:D}{ds:List D}(b:Bels k (d::ds)):Bel k d/\Bels k ds:=by
 cases b with
 | cons b c=>exact⟨b,c⟩
theorem Rep.cut{K:AA3}{ρ:List Addr}{H:Hp}{k:Nat}{d:D}{v:V}(h:Rep K ρ H d v):Bel k d->Rep K (ρ.take k) H d v :=
 Rep.rec (motive_1:=λd v _=>Bel k d->Rep K (ρ.take k) H d v) (motive_2:=λds vs _=>Bels k ds->Reps K (ρ.take k) H ds vs) (λ_=>.non) (λb _=>.bl b) (λb _=>.int b) (λb _=>.str b) (λb _=>.ty b) (λh _ r b=>.tup h (r (b.inv.1 _ rfl)))
  (λh b=>.ref (by rw[ABJ (b.inv.2 _ rfl)];exact h)) (λ_=>.nil) (λ_ _ h t b=>.cons (h b.inv.1) (t b.inv.2)) h
theorem Reps.cut{K:AA3}{ρ:List Addr}{H:Hp}{k:Nat}{ds:List D}{vs:List V}(h:Reps K ρ H ds vs):Bels k ds->Reps K (ρ.take k) H ds vs :=
 Reps.rec (motive_1:=λd v _=>Bel k d->Rep K (ρ.take k) H d v) (motive_2:=λds vs _=>Bels k ds->Reps K (ρ.take k) H ds vs) (λ_=>.non) (λb _=>.bl b) (λb _=>.int b) (λb _=>.str b) (λb _=>.ty b) (λh _ r b=>.tup h (r (b.inv.1 _ rfl)))
  (λh b=>.ref (by rw[ABJ (b.inv.2 _ rfl)];exact h)) (λ_=>.nil) (λ_ _ h t b=>.cons (h b.inv.1) (t b.inv.2)) h
theorem Bel.mono{j k:Nat}(h:j<=k){d:D}(b:Bel j d):Bel k d :=
 Bel.rec (motive_1:=λd _=>Bel k d) (motive_2:=λds _=>Bels k ds) .non .bl .int .str .ty (λ_ b=>.tup b) (λb=>.ref (AAR b h)) .nil (λ_ _ b c=>.cons b c) b
theorem Bels.mono{j k:Nat}(h:j<=k){ds:List D}(b:Bels j ds):Bels k ds :=
 Bels.rec (motive_1:=λd _=>Bel k d) (motive_2:=λds _=>Bels k ds) .non .bl .int .str .ty (λ_ b=>.tup b) (λb=>.ref (AAR b h)) .nil (λ_ _ b c=>.cons b c) b
theorem Bels.of:∀{xs:List D},(∀d∈xs,Bel k d)->Bels k xs
 | [],_=>.nil
 | d::ds,h=>.cons (h d AAG) (Bels.of λe he=>h e (AA9 _ he))
section
variable{K:AA3}{ρ ρ':List Addr}{H H':Hp}{M M':Mem}
theorem qo:∀(n:Nat) (d:D),bY n d=true->Bel k d:=by
 intro n
 induction n with
 | zero =>
  intro d h
  cases d with
  | str x=>exact .str x
  | int x=>exact .int x
  | _=>cases h
 | succ n ih =>
  intro d h
  cases d with
  | str x=>exact .str x
  | int x=>exact .int x
  | tup ds=>exact .tup (Bels.of λx hx=>ih x (AAW.mp (show ds.all (bY n)=true from h) x hx))
  | _=>cases h
theorem uM(r:Paired (sw K ρ H) kvs xs):Bels ρ.length (kvs.map (·.2)):=by
 induction r with
 | nil=>exact .nil
 | cons q _ ih =>
  obtain⟨_,_,_,v,q4,_⟩:=q
  exact .cons q4.bel ih
theorem uL(r:Paired (sw K ρ H) kvs xs)(b:Bels k (kvs.map (·.2))):Paired (sw K (ρ.take k) H) kvs xs:=by
 induction r with
 | nil=>exact .nil
 | cons q _ ih =>
  obtain⟨q1,q2,q3,v,q4,q5⟩:=q
  rw[AAf]at b
  cases b with
  | cons b1 b2=>exact .cons ⟨q1,q2,q3.cut (qo _ _ q2),v,q4.cut b1,q5⟩ (ih b2)
theorem xp:∀(d:D),rN d=true->Bel k d
 | .non,_=>.non
 | .tup ks,h=>qo 8 _ h
 | .bl _,h=>nomatch h
 | .int _,h=>nomatch h
 | .str _,h=>nomatch h
 | .ty _,h=>nomatch h
 | .ref _,h=>nomatch h
theorem zS(r:Paired (KvM K ρ H) kvs xs):Bels ρ.length (kvs.map (·.2)):=by
 induction r with
 | nil=>exact .nil
 | cons q _ ih =>
  obtain⟨_,_,_,v,q4,_⟩:=q
  exact .cons q4.bel ih
theorem zR(r:Paired (KvM K ρ H) kvs xs)(b:Bels k (kvs.map (·.2))):Paired (KvM K (ρ.take k) H) kvs xs:=by
 induction r with
 | nil=>exact .nil
 | cons q _ ih =>
  obtain⟨q1,q2,⟨u,q3,q3'⟩,v,q4,q5⟩:=q
  rw[AAf]at b
  cases b with
  | cons b1 b2=>exact .cons ⟨q1,q2,⟨u,q3.cut (xp _ q2),q3'⟩,v,q4.cut b1,q5⟩ (ih b2)
theorem sC.bels(h:sC K ρ H a mo):Bels ρ.length mo.items:=by
 cases mo with
 | lst ds=>obtain⟨vs,_,r⟩:=h;exact r.bel
 | fz ds=>obtain⟨o,vs,_,r⟩:=h;exact r.bel
 | kl ds=>obtain⟨vs,_,r⟩:=h;exact r.bel
 | dct kvs=>obtain⟨vs,_,r⟩:=h;exact r.bel
 | dkt kvs=>obtain⟨_,_,_,xs,_,r⟩:=h;exact uM r
 | dkq kvs=>obtain⟨_,_,_,xs,_,r⟩:=h;exact uM r
 | fdc o kvs=>obtain⟨vs,_,r⟩:=h;exact r.bel
 | dkm kvs=>obtain⟨_,_,_,xs,_,r⟩:=h;exact zS r
 | tb x b=>exact .nil
 | exc x=>exact .nil
theorem sC.cut(h:sC K ρ H a mo)(b:Bels k mo.items):sC K (ρ.take k) H a mo:=by
 cases mo with
 | lst ds=>obtain⟨vs,e,r⟩:=h;exact⟨vs,e,r.cut b⟩
 | fz ds=>obtain⟨o,vs,e,r⟩:=h;exact⟨o,vs,e,r.cut b⟩
 | kl ds=>obtain⟨vs,e,r⟩:=h;exact⟨vs,e,r.cut b⟩
 | dct kvs=>obtain⟨vs,e,r⟩:=h;exact⟨vs,e,r.cut b⟩
 | dkt kvs=>obtain⟨h1,h2,h3,xs,e,r⟩:=h;exact⟨h1,h2,h3,xs,e,uL r b⟩
 | dkq kvs=>obtain⟨h1,h2,h3,xs,e,r⟩:=h;exact⟨h1,h2,h3,xs,e,uL r b⟩
 | fdc o kvs=>obtain⟨vs,e,r⟩:=h;exact⟨vs,e,r.cut b⟩
 | dkm kvs=>obtain⟨h1,h2,h3,xs,e,r⟩:=h;exact⟨h1,h2,h3,xs,e,zR r b⟩
 | tb x b=>exact h
 | exc x=>exact h
theorem Sim.bels(S:Sim K ρ M H){n:Nat}{mo:MO}(e:M[n]?=some mo):Bels M.length mo.items:=by
 obtain⟨a,_,h⟩:=S.get e
 rw[<-S.len]
 exact h.bels
theorem Sim.cut(S:Sim K ρ M H)(k:Nat)(hb:∀(n:Nat) (mo:MO),n<k->M[n]?=some mo->Bels k mo.items):Sim K (ρ.take k) (M.take k) H:=by
 have lt:∀{n:Nat}{a:Addr},(ρ.take k)[n]?=some a->n<k/\ρ[n]?=some a:=λ{n a} e=>by
  have h1:=(AA7.mp e).1
  rw[AAz]at h1
  have h2:n<k:=by lia
  rw[ABJ h2]at e
  exact⟨h2,e⟩
 refine⟨λn m a hne e1 e2=>?_,by rw[AAz,AAz,S.len],λn a mo e1 e2=>?_⟩
 ·obtain⟨l1,f1⟩:=lt e1
  obtain⟨l2,f2⟩:=lt e2
  rw[ABJ l1,ABJ l2]
  exact S.nd n m a hne f1 f2
 ·obtain⟨l1,f1⟩:=lt e1
  rw[ABJ l1]at e2
  exact(S.obj n a mo f1 e2).cut (hb n mo l1 e2)
theorem SRep.cut(r:SRep K ρ H S σ)(hl:S'.length=S.length)(h:∀(i:Nat) d,S'[i]?=some (some d)->S[i]?=some (some d)/\Bel k d):SRep K (ρ.take k) H S' σ :=
 ⟨hl.trans r.len,λi d e=>let ⟨e',b⟩:=h i d e;let ⟨v,hv,rv⟩:=r.get i d e';⟨v,hv,rv.cut b⟩⟩
theorem Grow.cut(g:Grow K ρ H ρ' H')(h:ρ.length<=k):Grow K ρ H (ρ'.take k) H':=by
 refine⟨?_,g.tup⟩
 obtain⟨t,rfl⟩:=g.pre
 rw[List.take_append]
 rw[ACg h]
 exact AAb _ _
end
inductive FgtS(k:Nat):SD->SD->Prop
 | nil:FgtS k [] []
 | keep {d:D}{S S':SD} (h:Bel k d) (t:FgtS k S S'):FgtS k (some d::S) (some d::S')
 | drop {o:Option D}{S S':SD} (t:FgtS k S S'):FgtS k (o::S) (none::S')
theorem FgtS.len(h:FgtS k S S'):S'.length=S.length:=by
 induction h with
 | nil=>rfl
 | keep _ _ ih=>rw[AAI,AAI,ih]
 | drop _ ih=>rw[AAI,AAI,ih]
theorem FgtS.get(h:FgtS k S S'):∀(i:Nat) d,S'[i]?=some (some d)->S[i]?=some (some d)/\Bel k d:=by
 induction h with
 | nil=>intro i d e;simp at e
 | keep b _ ih =>
  intro i d e
  cases i with
  | zero=>simp at e;subst e;exact⟨rfl,b⟩
  | succ i=>exact ih i d (by simpa using e)
 | drop _ ih =>
  intro i d e
  cases i with
  | zero=>simp at e
  | succ i=>exact ih i d (by simpa using e)
def Fgt(M0:Mem)(P:SD->Mem->Prop)(S:SD)(M:Mem):Prop :=
 P S M\/(∃k S',M0.length<=k/\FgtS k S S'/\(∀(n:Nat) mo,n<k->M[n]?=some mo->Bels k mo.items)/\P S' (M.take k))\/∃S',FgtS M0.length S S'/\M0 <+: M/\P S' M0
theorem wf{α:Type}{l l':List α}(h:l <+: l'):l'.take l.length=l:=by
 obtain⟨t,rfl⟩:=h
 rw[List.take_append_of_le_length (AA8 _),ACc]
theorem SQ.fgt{K:AA3}{ρ:List Addr}{H:Hp}{M0:Mem}{P:SD->Mem->Prop}{σ':St}{H':Hp}(s0:Sim K ρ M0 H)(h:SQ K ρ H (Fgt M0 P) σ' H'):SQ K ρ H P σ' H':=by
 have hk:ρ.length<=M0.length:=by rw[s0.len];exact AA8 _
 obtain⟨S',M',ρ',s',g',sr',q'⟩:=h
 rcases q' with q' | ⟨k,S2,h1,h2,h4,q⟩|⟨S2,h2,hp,q⟩
 ·exact⟨S',M',ρ',s',g',sr',q'⟩
 ·exact⟨S2,M'.take k,ρ'.take k,s'.cut k h4,g'.cut (AB3 hk h1),sr'.cut h2.len h2.get,q⟩
 ·have sc:=s'.cut M0.length λn mo hn e=>by
   obtain⟨t,rfl⟩:=hp
   rw[AAM hn]at e
   exact s0.bels e
  rw[wf hp]at sc
  exact⟨S2,M0,ρ'.take M0.length,sc,g'.cut hk,sr'.cut h2.len h2.get,q⟩
def nB(ok:Mem->Prop)(g:DTG)(tb:DTS)(E:DEnds)(k0:Mem):List D->SD->Mem->Prop
 | [],S,M=>ok M/\E.nx S M
 | x::xs,S,M=>ok M/\g x S M λS2 M2=>tb ⟨Fgt k0 (nB ok g tb E k0 xs),E.rt,E.nx,Fgt k0 (nB ok g tb E k0 xs)⟩ S2 M2
def kt(di:DTI)(g:DTG)(tb:DTS):DTS:=λE S M=>di S M λsrc M1=>nB src.ok g tb E M1 src.items S M1
theorem nr{α:Type}{l:List α}{i:Nat}{x:α}(h:l[i]?=some x):l.drop i=x::l.drop (i+1):=by
 obtain⟨hi,e⟩:=AA7.mp h
 rw[List.drop_eq_getElem_cons hi,e]
theorem wX{K:AA3}{di:DTI}{g:DTG}{tb:DTS}(E:Ends)(σ:St)(H:Hp)(h:lowS K (kt di g tb) E σ H):tFor (lowI K di) (lowG K g) (lowS K tb) E σ H:=by
 obtain⟨S,M,ρ,F,s,sr,q,k⟩:=h
 refine⟨S,M,ρ,_,s,sr,q,?_⟩
 rintro J H1 ⟨src,M1,ρ1,s1,g1,it,q1⟩
 have k1:=k.trans g1
 refine⟨λi m τ H2=>∃S2 M2 ρ2,Sim K ρ2 M2 H2/\Grow K ρ1 H1 ρ2 H2/\SRep K ρ2 H2 S2 τ/\i<=src.items.length/\m=src.items.length-i/\nB src.ok g tb F M1 (src.items.drop i) S2 M2,
  ⟨_,S,M1,ρ1,s1,.refl,sr.grow g1,AAT _,rfl,q1⟩,?_⟩
 rintro i m τ H2 ⟨S2,M2,ρ2,s2,g2,sr2,hi,rfl,q2⟩
 by_cases hlt:i<src.items.length
 ·have hx:src.items[i]?=some src.items[i]:=AA5 hlt
  rw[nr hx]at q2
  obtain⟨ok,q3⟩:=(show src.ok M2/\g src.items[i] S2 M2 _ from q2)
  refine .inr ⟨it.go i ρ2 M2 H2 s2 g2 ok hlt,_,λτ' H' z=>z,λx H3 y=>?_⟩
  obtain⟨d,ρ3,hd,s3,g3,r3⟩:=it.yld i ρ2 M2 H2 x H3 s2 g2 ok hlt y
  have ed:d=src.items[i]:=AAQ (hd.symm.trans hx)
  subst ed
  refine⟨_,S2,M2,ρ3,_,s3,sr2.grow g3,r3,q3,?_⟩
  rintro τ4 H4 ⟨S4,M4,ρ4,s4,g4,sr4,q4⟩
  have g14:=(g2.trans g3).trans g4
  refine⟨S4,M4,ρ4,_,s4,sr4,q4,?_⟩
  have again:∀τ5 H5,SQ K ρ4 H4 (Fgt M1 (nB src.ok g tb F M1 (src.items.drop (i+1)))) τ5 H5 ->
    ∃m',m' < src.items.length-i/\∃S2 M2 ρ2,Sim K ρ2 M2 H5/\Grow K ρ1 H1 ρ2 H5/\SRep K ρ2 H5 S2 τ5/\i+1<=src.items.length/\m'=src.items.length-(i+1)/\nB src.ok g tb F M1 (src.items.drop (i+1)) S2 M2:=λτ5 H5 z=>by
   obtain⟨S5,M5,ρ5,s5,g5,sr5,q5⟩:=SQ.fgt (ρ:=ρ1) (H:=H1) s1 (SQ.trans g14 z)
   exact⟨_,by lia,S5,M5,ρ5,s5,g5,sr5,hlt,rfl,q5⟩
  exact⟨again,λv H5 z=>k1.rt v H5 (VQ.trans g14 z),λτ5 H5 z=>k1.nx τ5 H5 (SQ.trans g14 z),again⟩
 ·have e:i=src.items.length:=by lia
  subst e
  rw[List.drop_of_length_le (AA8 _)]at q2
  obtain⟨ok,q3⟩:=(show src.ok M2/\F.nx S2 M2 from q2)
  exact .inl ⟨it.stop ρ2 M2 H2 s2 g2 ok,k1.nx τ H2 ⟨S2,M2,ρ2,s2,g2,sr2,q3⟩⟩
section
variable{X:Cx}
theorem Ef(hi:DI X tg iter di)(hg:DG X tg g)(hb:DSs X body tb)(hp:PassesOwn (model X.prog X.w) X.A X.env X.xe:=by exact PassesOwn.never)(hc:X.calm=true:=by rfl)
  (hs:∀x,foldedSetIterable iter X.env x=pure x:=by intro _;rfl):DS X (.For tg iter body [] pos) (kt di g tb):=PS.imp (BV hp hc hi hg hb hs) wX
noncomputable def En(nt:Nat)(js:List Nat)(S:SD):SD:=ADi nt none++js.map λj=>(S[j]?).join
def jA(ok:Mem->Prop)(g:DTG)(tt:DTT)(te:DTE)(Q:DK):List D->List D->SD->Mem->Prop
 | [],acc,S,M=>ok M/\Q (.ref M.length) (M++[.lst acc])
 | x::xs,acc,S,M=>ok M/\g x S M λS2 M2=>tt S2 M2 λb M3=>if b=true then te S2 M3 λy M4=>acc.length<sizeLine/\jA ok g tt te Q xs (acc++[y]) S2 M4 else jA ok g tt te Q xs acc S2 M3
def dLC(nt:Nat)(js:List Nat)(di:DTI)(g:DTG)(tt:DTT)(te:DTE):DTE:=λS M Q=>di S M λsrc M1=>jA src.ok g tt te Q src.items [] (En nt js S) M1
theorem SRep.bst{K:AA3}{ρ:List Addr}{H:Hp}{S:SD}{σ:St}(r:SRep K ρ H S σ)(nt:Nat)(js:List Nat):SRep K ρ H (En nt js S) (L2.bst nt js σ):=by
 refine⟨by simp[En,vR],λi d e=>?_⟩
 unfold En at e
 unfold L2.bst
 by_cases hi:i<nt
 ·rw[AAM (by simpa using hi),ACW]at e
  simp[hi]at e
 ·rw[AAc (by simpa using ACr.mp hi),ACm,AAV]at e
  rw[AAc (by simpa using ACr.mp hi),ACm,AAV]
  cases q:js[i-nt]? with
  | none=>rw[q]at e;cases e
  | some j =>
   rw[q]at e
   have e':(S[j]?).join=some d:=by simpa using e
   cases q2:S[j]? with
   | none=>rw[q2]at e';cases e'
   | some o =>
    rw[q2]at e'
    have e2:o=some d:=e'
    subst e2
    obtain⟨v,hv,rv⟩:=r.get j d q2
    exact⟨v,by simp[hv],rv⟩
theorem uA{K:AA3}{nt:Nat}{js:List Nat}{di:DTI}{g:DTG}{tt:DTT}{te:DTE}(σ:St)(H:Hp)(R:VK)(h:lowE K (dLC nt js di g tt te) σ H R):tLC nt js (lowI K di) (lowG K g) (lowT K tt) (lowE K te) σ H R:=by
 obtain⟨S,M,ρ,Q,s,sr,q,k⟩:=h
 refine⟨S,M,ρ,_,s,sr,q,?_⟩
 rintro J H1 ⟨src,M1,ρ1,s1,g1,it,q1⟩
 refine⟨λi m vs τ H2=>∃S2 M2 ρ2 acc,Sim K ρ2 M2 H2/\Grow K ρ1 H1 ρ2 H2/\SRep K ρ2 H2 S2 τ/\Reps K ρ2 H2 acc vs/\i<=src.items.length/\m=src.items.length-i/\jA src.ok g tt te Q (src.items.drop i) acc S2 M2,
  ⟨_,_,M1,ρ1,[],s1,.refl,(sr.grow g1).bst nt js,.nil,AAT _,rfl,q1⟩,?_⟩
 rintro i m vs τ H2 ⟨S2,M2,ρ2,acc,s2,g2,sr2,ra,hi,rfl,q2⟩
 by_cases hlt:i<src.items.length
 ·have hx:src.items[i]?=some src.items[i]:=AA5 hlt
  rw[nr hx]at q2
  obtain⟨ok,q3⟩:=(show src.ok M2/\g src.items[i] S2 M2 _ from q2)
  refine .inr ⟨it.go i ρ2 M2 H2 s2 g2 ok hlt,λx H3 y=>?_⟩
  obtain⟨d,ρ3,hd,s3,g3,r3⟩:=it.yld i ρ2 M2 H2 x H3 s2 g2 ok hlt y
  have ed:d=src.items[i]:=AAQ (hd.symm.trans hx)
  subst ed
  refine⟨_,S2,M2,ρ3,_,s3,sr2.grow g3,r3,q3,?_⟩
  rintro τ4 H4 ⟨S4,M4,ρ4,s4,g4,sr4,q4⟩
  refine⟨S4,M4,ρ4,_,s4,sr4,q4,?_⟩
  rintro b H5 ⟨M5,ρ5,s5,g5,q5⟩
  have g15:=((g2.trans g3).trans g4).trans g5
  cases b with
  | false=>exact bK ⟨_,by lia,S4,M5,ρ5,acc,s5,g15,sr4.grow g5,ra.grow ((g3.trans g4).trans g5),hlt,rfl,(show jA src.ok g tt te Q (src.items.drop (i+1)) acc S4 M5 from q5)⟩
  | true =>
   refine cx ⟨S4,M5,ρ5,_,s5,sr4.grow g5,(show te S4 M5 _ from q5),?_⟩
   rintro v H6 ⟨y',M6,ρ6,s6,g6,r6,hl,q6⟩
   have ra6:=ra.grow (((g3.trans g4).trans g5).trans g6)
   exact⟨by rw[<-ra.length];exact hl,_,by lia,S4,M6,ρ6,acc++[y'],s6,g15.trans g6,sr4.grow (g5.trans g6),ra6.append (.cons r6 .nil),hlt,rfl,q6⟩
 ·have e:i=src.items.length:=by lia
  subst e
  rw[List.drop_of_length_le (AA8 _)]at q2
  obtain⟨ok,q3⟩:=(show src.ok M2/\Q (.ref M2.length) (M2++[.lst acc])from q2)
  exact .inl ⟨it.stop ρ2 M2 H2 s2 g2 ok,λp hp=>k _ _ (VQ.laidL s2 (g1.trans g2) ra hp q3)⟩
theorem d_lc(B:BlkSc X N' nt js scope)(hi:DI X tg iter di)
  (hg:∀cl s0 H0 ex,DG (blk X N' scope cl s0 H0 ex) tg g) (ht:∀cl s0 H0 ex,PTs (blk X N' scope cl s0 H0 ex) ifs (lowT X.K tt)) (he:∀cl s0 H0 ex,DE (blk X N' scope cl s0 H0 ex) elt te) (hc:X.calm=true:=by rfl)
  (hs:∀x,foldedSetIterable iter X.env x=pure x:=by intro _;rfl):DE X (.ListComp elt [⟨tg,iter,ifs,0⟩] scope pos) (dLC nt js di g tt te):=PE.imp (pe_lc (g:=lowG X.K g) (tt:=lowT X.K tt) (te:=lowE X.K te) B hc hi (λcl s0 H0 ex=>hg cl s0 H0 ex) ht (λcl s0 H0 ex=>he cl s0 H0 ex) hs) uA
def se:DTT:=λ_ M Q=>Q true M
theorem Ay:PTs X [] (lowT X.K se):=λpins s σ H R I ⟨S,M,ρ,Q,sm,sr,q,k⟩=>ze pins s σ H R I (k true H ⟨M,ρ,sm,.refl,q⟩)
theorem Ax(h:DT X c t):PTs X [c] (lowT X.K t):=zd h
end
def Chg(M M1:Mem):Prop:=M1.length=M.length/\∀(i:Nat) (mo:MO),M1[i]?=some mo->M[i]?=some mo\/Bels M.length mo.items
theorem Chg.refl:Chg M M:=⟨rfl,λ_ _ h=>.inl h⟩
theorem Chg.set(c:Chg M M1)(b:Bels M.length mo.items):Chg M (M1.set n mo):=by
 refine⟨by rw[AAp];exact c.1,λi mo' h=>?_⟩
 by_cases e:n=i
 ·subst e
  by_cases hl:n<M1.length
  ·rw[AAa hl]at h
   cases h
   exact .inr b
  ·rw[AB9 (by rw[AAp];lia)]at h
   cases h
 ·rw[AAZ e]at h
  exact c.2 i mo' h
def bu(M:Mem)(R:DK):DK:=λd M'=>R d M'\/(∃M1,Chg M M1/\Bel M.length d/\M1 <+: M'/\R d M1)\/∃M1 n xs,Chg M M1/\d=.ref n/\M.length<=n/\M'[n]?=some (.lst xs)/\M1 <+: M'/\Bels M.length xs/\R (.ref M.length) (M1++[.lst xs])
theorem bd{α:Type}{l l':List α}(h:l <+: l'):l'.take l.length=l:=by
 obtain⟨t,rfl⟩:=h
 rw[List.take_append_of_le_length (AA8 _),ACc]
theorem VQ.endq{K:AA3}{ρ:List Addr}{M:Mem}{H:Hp}{R:DK}{v:V}{H':Hp}(s:Sim K ρ M H)(h:VQ K ρ H (bu M R) v H'):VQ K ρ H R v H':=by
 obtain⟨d,M',ρ',s',g',r',q'⟩:=h
 have hρ:ρ'.take M.length=ρ:=by rw[<-s.len];exact bd g'.pre
 rcases q' with q | ⟨M1,c,b,pre,q⟩|⟨M1,n,xs,c,rfl,hnM,e,pre,b,q⟩
 ·exact⟨d,M',ρ',s',g',r',q⟩
 ·have sc:=s'.cut M.length λn mo hn e=>by
   have e':M1[n]?=some mo:=by
    obtain⟨t,rfl⟩:=pre
    rw[AAM (by rw[c.1];exact hn)]at e
    exact e
   exact(c.2 n mo e').elim (λz=>s.bels z) id
  have tk:M'.take M.length=M1:=by rw[<-c.1];exact bd pre
  rw[hρ,tk]at sc
  have rc:=r'.cut b
  rw[hρ]at rc
  exact⟨d,M1,ρ,sc,⟨AC2,g'.tup⟩,rc,q⟩
 ·have sc:=s'.cut M.length λn mo hn e=>by
   have e':M1[n]?=some mo:=by
    obtain⟨t,rfl⟩:=pre
    rw[AAM (by rw[c.1];exact hn)]at e
    exact e
   exact(c.2 n mo e').elim (λz=>s.bels z) id
  have tk:M'.take M.length=M1:=by rw[<-c.1];exact bd pre
  rw[hρ,tk]at sc
  obtain⟨a,rfl,hn⟩:=Rep.inv_ref r'
  obtain⟨vs,hH,rr⟩:=s'.obj n a _ hn e
  have rc:=rr.cut b
  rw[hρ]at rc
  have g2:Grow K ρ H' (ρ++[a]) H':=⟨AAb _ _,λ_ _ h=>h⟩
  have old:∀(m:Nat),ρ[m]?=some a->isK M1[m]?:=λm em=>by
   have hm:m≠n:=λz=>by
    have:m<M.length:=by rw[<-s.len];exact(AA7.mp em).1
    lia
   have q:=s'.nd m n a hm (av g'.pre em) hn
   have hlt:m<M.length:=by rw[<-s.len];exact(AA7.mp em).1
   rcases q with⟨ds,z⟩|⟨ds,z⟩
   ·refine⟨ds,?_⟩
    have hlt1:m<M1.length:=by rw[c.1];exact hlt
    have:=av pre (AA5 hlt1)
    rw[z]at this
    rw[AA5 hlt1]
    exact this.symm
   ·rw[e]at z;cases z
  refine⟨.ref M.length,M1++[.lst xs],ρ++[a],⟨λn1 m1 a1 hne e1 e2=>?_,by rw[AAA,AAA,sc.len];rfl,λn1 a1 mo e1 e2=>?_⟩,⟨AAb _ _,g'.tup⟩,.ref (by have:=sc.last (p:=a);rw[c.1]at this;exact this),q⟩
  ·rcases aH e1 with f1 | ⟨f1,w1⟩
   ·rcases aH e2 with f2 | ⟨f2,w2⟩
    ·exact(sc.nd n1 m1 a1 hne f1 f2).elim (λz=>.inl z.more) λz=>.inr z.more
    ·subst w2
     exact .inl (old n1 f1).more
   ·rcases aH e2 with f2 | ⟨f2,w2⟩
    ·subst w1
     exact .inr (old m1 f2).more
    ·exact absurd (f1.trans f2.symm) hne
  ·rcases aH e1 with f1 | ⟨f1,w1⟩
   ·have hn1:n1<M1.length:=by rw[<-sc.len];exact(AA7.mp f1).1
    rw[AAM hn1]at e2
    exact(sc.obj n1 a1 mo f1 e2).grow g2 (.inl rfl)
   ·subst w1 f1
    rw[sc.len,AAc (AA8 _),ADE]at e2
    simp at e2
    subst e2
    exact⟨vs,hH,rc.grow g2⟩
noncomputable def bj(N:List Str)(ds:List D):SD:=ds.map some++ADi (N.length-ds.length) none
theorem SRep.start{K:AA3}{ρ:List Addr}{H:Hp}{ds:List D}{vs:List V}(r:Reps K ρ H ds vs)(N:List Str):SRep K ρ H (bj N ds) (L2.start N vs):=by
 refine⟨by simp[bj,L2.start,r.length],λi d e=>?_⟩
 unfold bj at e
 unfold L2.start
 by_cases hi:i<ds.length
 ·rw[AAM (by simpa using hi),AAV]at e
  rw[AAM (by simpa [<-r.length]using hi),AAV]
  have e':ds[i]?=some d:=by
   rw[AA5 hi]at e ⊢
   simpa using e
  obtain⟨v,hv,rv⟩:=r.get e'
  exact⟨v,by rw[hv];rfl,rv⟩
 ·rw[AAc (by simpa using ACr.mp hi),ACW]at e
  split at e<;>cases e
theorem d_fn{P:Program}{w:World}{K:AA3}{mg:Str->Option Value}{base:Heap}{x qual:Str}{st:Stmt}{f:Addr}{fd:FuncData}{N ps:List Str}{k:Nat}(Pr:DSp)(F:Fun K x qual st f fd)(Sc:FnScope N ps (ak st))
  (len:∀ds M R,Pr ds M R->ds.length=ps.length)
  (hbody:∀(cdv:Value) (A:Around) (outer:List Env) (s:Shared) (H:Hp) (E:XK),Room k (A.deeper (envOfC qual (ak st) s.heap.objs.size f cdv)) ->
   ∃t,DSs (jq CX0 P w K mg base N qual (ak st) f cdv A outer s H E).nox (bc st) t/\∀ds M R,Pr ds M R->t ⟨λ_ M'=>bu M R .non M',bu M R,λ_ _=>False,λ_ _=>False⟩ (bj N ds) M) :
  FnOk P w K mg base CX0 (k+1) f fd ps (spL K Pr):=by
 refine F.ok Sc (λvs H Q E ⟨ds,M,ρ,R,s,r,q,_⟩=>by rw[<-r.length];exact len ds M R q) λcdv A outer s H vs Q E hr h=>?_
 obtain⟨ds,M,ρ,R,sm,r,q,kk⟩:=h
 obtain⟨t,ht,hq⟩:=hbody cdv A outer s H E hr
 refine⟨lowS K t,ht,bj N ds,M,ρ,_,sm,SRep.start r N,hq ds M R q,⟨λσ' H' ⟨S',M',ρ',s',g',sr',q'⟩=>?_,λv H' z=>kk v H' (VQ.endq sm z),λσ' H' ⟨S',M',ρ',s',g',sr',q'⟩=>q'.elim,λσ' H' ⟨S',M',ρ',s',g',sr',q'⟩=>q'.elim⟩⟩
 exact kk .non H' (VQ.endq sm ⟨.non,M',ρ',s',g',.non,q'⟩)
end
section
variable{X:Cx}
theorem dfin(I:Inv X pins σ H s)(sm:Sim X.K ρ M H)(k:∀v H',VQ X.K ρ H Q v H'->R v H')(hv:cV d=some v)(rel:aC v u)(q:Q d M):EP X pins σ R u s :=
 ⟨v,H,I,rel,k v H (VQ.now sm (vP hv) q)⟩
theorem fG(I:Inv X pins σ H s)(sm:Sim X.K ρ M H)(k:∀v H',VQ X.K ρ H Q v H'->R v H')(q:Q (.bl b) M):EP X pins σ R (.bool b) s :=
 ⟨.bl b,H,I,rfl,k _ H (VQ.now sm (.bl b) q)⟩
def qAdd:DR2:=λx y M Q=>match x,y with
 | .int i,.int j=>Q (.int (i+j)) M
 | .str a,.str b=>a.length+b.length<=sizeLine/\Q (.str (a++b)) M
 | .ref n,.ref m=>∃xs ys,M[n]?=some (.lst xs)/\M[m]?=some (.lst ys)/\xs.length+ys.length<=sizeLine/\Q (.ref M.length) (M++[.lst (xs++ys)])
 | _,_=>False
theorem Cw:OpD X (binaryOp .Add) qAdd:=by
 refine OpR.imp (Cn.or (re.or Cm)) ?_
 rintro vx vy H R ⟨x,y,M,ρ,Q,sm,r1,r2,q,k⟩
 unfold qAdd at q
 split at q
 ·cases r1
  cases r2
  exact .inl ⟨_,_,rfl,rfl,k _ H (VQ.now sm (.int _) q)⟩
 ·cases r1
  cases r2
  exact .inr (.inl ⟨_,_,rfl,rfl,q.1,k _ H (VQ.now sm (.str _) q.2)⟩)
 ·obtain⟨xs,ys,e1,e2,hl,q⟩:=q
  obtain⟨_,rfl,h1⟩:=Rep.inv_ref r1
  obtain⟨_,rfl,h2⟩:=Rep.inv_ref r2
  obtain⟨vs,f1,g1⟩:=sm.obj _ _ _ h1 e1
  obtain⟨ws,f2,g2⟩:=sm.obj _ _ _ h2 e2
  exact .inr (.inr ⟨_,_,vs,ws,rfl,rfl,f1,f2,by rw[<-g1.length,<-g2.length];exact hl,λp hp=>k _ _ (VQ.laidL sm .refl (g1.append g2) hp q)⟩)
 ·exact q.elim
def BH:DR2:=λx y M Q=>match x,y with
 | .int i,.int j=>Q (.int (i-j)) M
 | _,_=>False
theorem Cr:OpD X (binaryOp .Sub) BH:=by
 refine OpR.imp Ch ?_
 rintro vx vy H R ⟨x,y,M,ρ,Q,sm,r1,r2,q,k⟩
 unfold BH at q
 split at q
 ·cases r1
  cases r2
  exact⟨_,_,rfl,rfl,k _ H (VQ.now sm (.int _) q)⟩
 ·exact q.elim
def AU(i j:Int):Prop:=0<j/\j<340282366920938463463374607431768211456
theorem wK:OpR X (binaryOp .FloorDiv) (rI AU λi j=>.int (i / j)):=opI λi j _ _ _ _ _ hc q=>by
 have h1:(0:Int)<j:=hc.1
 have h2:j<340282366920938463463374607431768211456:=hc.2
 have h3:j.natAbs.log2<128:=(Nat.log2_lt (by lia)).mpr (by rw[show (2:Nat) ^ 128=340282366920938463463374607431768211456 by decide];lia)
 exact floordiv_int (by lia) (by rw[Int.fdiv_eq_ediv_of_nonneg i (by lia)];exact q) (.inl (PyProof.noPylong_of_log2 (by lia)))
def oh:DR2:=λx y M Q=>match x,y with
 | .int i,.int j=>AU i j/\Q (.int (i / j)) M
 | _,_=>False
theorem zE:OpD X (binaryOp .FloorDiv) oh:=by
 refine OpR.imp wK ?_
 rintro vx vy H R ⟨x,y,M,ρ,Q,sm,r1,r2,q,k⟩
 unfold oh at q
 split at q
 ·cases r1
  cases r2
  exact⟨_,_,rfl,rfl,q.1,k _ H (VQ.now sm (.int _) q.2)⟩
 ·exact q.elim
def tW:DR2:=λx y M Q=>match x,y with
 | .int i,.int j=>0<j/\Q (.int (i % j)) M
 | _,_=>False
theorem Cu:OpD X (binaryOp .Mod) tW:=by
 refine OpR.imp Cl ?_
 rintro vx vy H R ⟨x,y,M,ρ,Q,sm,r1,r2,q,k⟩
 unfold tW at q
 split at q
 ·cases r1
  cases r2
  exact⟨_,_,rfl,rfl,q.1,k _ H (VQ.now sm (.int _) q.2)⟩
 ·exact q.elim
noncomputable def nX(a b:Str):Bool:=decide (a.cps.toList<b.cps.toList)
def qLt:DR2:=λx y M Q=>match x,y with
 | .int i,.int j=>Q (.bl (decide (i<j))) M
 | .str a,.str b=>Q (.bl (nX a b)) M
 | _,_=>False
def qGt:DR2:=λx y M Q=>match x,y with
 | .int i,.int j=>Q (.bl (decide (j<i))) M
 | .str a,.str b=>Q (.bl (nX b a)) M
 | _,_=>False
theorem od_lt:OpD X (compareOp .Lt) qLt:=by
 rintro pins s σ H vx vy v u R I rx ry ⟨x,y,M,ρ,Q,sm,r1,r2,q,k⟩
 unfold qLt at q
 split at q
 ·cases r1
  cases r2
  exact op_lt pins s σ H _ _ v u R I rx ry ⟨_,_,rfl,rfl,k _ H (VQ.now sm (.bl _) q)⟩
 ·cases r1
  cases r2
  obtain⟨t,rfl⟩:=rx
  obtain⟨t',rfl⟩:=ry
  exact PySem.P.lt_str (fG I sm k q)
 ·exact q.elim
theorem od_gt:OpD X (compareOp .Gt) qGt:=by
 rintro pins s σ H vx vy v u R I rx ry ⟨x,y,M,ρ,Q,sm,r1,r2,q,k⟩
 unfold qGt at q
 split at q
 ·cases r1
  cases r2
  exact op_gt pins s σ H _ _ v u R I rx ry ⟨_,_,rfl,rfl,k _ H (VQ.now sm (.bl _) q)⟩
 ·cases r1
  cases r2
  obtain⟨t,rfl⟩:=rx
  obtain⟨t',rfl⟩:=ry
  exact PySem.P.gt_str (fG I sm k q)
 ·exact q.elim
def qIs:DR2:=λx y M Q=>match x,y with
 | .bl a,.bl b=>Q (.bl (a==b)) M
 | .non,.non=>Q (.bl true) M
 | _,.non=>Q (.bl false) M
 | _,_=>False
theorem yX{K:AA3}{ρ:List Addr}{H:Hp}{x:D}{v:V}(r:Rep K ρ H x v)(h:x≠.non):v≠.non:=by
 cases r<;>first | exact absurd rfl h | (intro z;cases z)
theorem od_is:OpD X (compareOp .Is) qIs:=by
 rintro pins s σ H vx vy v u R I rx ry ⟨x,y,M,ρ,Q,sm,r1,r2,q,k⟩
 unfold qIs at q
 split at q
 ·cases r1
  cases r2
  cases rx
  cases ry
  exact is_bool (fG I sm k q)
 ·cases r1
  cases r2
  cases rx
  cases ry
  exact is_none_gen (dfin (d:=.bl true) I sm k rfl rfl q)
 ·rename_i h1 h2
  cases r2
  cases ry
  refine is_none_gen (dfin (d:=.bl false) I sm k rfl ?_ q)
  have:=yX r1 λz=>by subst z;exact h2 rfl
  rw[rx.none_iff,dF_ this]
  rfl
 ·exact q.elim
noncomputable def tyD(M:Mem):D->String
 | .non=>"NoneType"
 | .bl _=>"bool"
 | .int _=>"int"
 | .str _=>"str"
 | .ty _=>"type"
 | .tup _=>"tuple"
 | .ref n=>match M[n]? with
  | some mo=>if mo.isL=true then "list" else "?"
  | none=>"?"
noncomputable def xv(t T:String):Bool:=t==T||(t == "bool" && T == "int")
noncomputable def yM:List String:=["NoneType","bool","int","str","list","tuple"]
noncomputable def Bo:List String:=["bool","int","str","list","tuple"]
theorem zZ(K:AA3)(ht:t∈yM)(hT:T∈Bo):AB8 K (.type t) (.type T)=some (xv t T):=by
 simp only[yM,Bo,AAK,List.not_mem_nil,or_false]at ht hT
 rcases ht with rfl | rfl | rfl | rfl | rfl | rfl<;>rcases hT with rfl | rfl | rfl | rfl | rfl<;>kernel_rfl
theorem yx(I:Inv X pins σ H s)(sm:Sim X.K ρ M H)(r:Rep X.K ρ H d v)(rv:aC v u)(hd:tyD M d∈yM)
  (step:∀(Hx:Heap->Prop),PySem.W.KitX X.K u (.type (tyD M d)) Hx->Hx s.heap->u≠.builtin "__main__.__loader__#opaque"->wpAny (model X.prog X.w) X.A (call (.builtin "isinstance") [u,c]) Q X.xe s):wpAny (model X.prog X.w) X.A (call (.builtin "isinstance") [u,c]) Q X.xe s:=by
 cases r with
 | non=>cases rv;exact step _ PySem.W.kitx_none AEG (λz=>nomatch z)
 | bl y=>cases rv;exact step _ PySem.W.kitx_bool AEG (λz=>nomatch z)
 | int i=>obtain⟨t,rfl⟩:=rv;exact step _ PySem.W.kitx_int AEG (λz=>nomatch z)
 | str i=>obtain⟨t,rfl⟩:=rv;exact step _ PySem.W.kitx_str AEG (λz=>nomatch z)
 | ty n=>exact absurd hd (by simp only[tyD];decide)
 | tup h rr =>
  cases rv
  obtain⟨its,_,⟨o,h1,h2,_⟩,_⟩:=I.tuple h
  exact step _ PySem.W.kitx_tuple ⟨o,h1,h2⟩ (λz=>nomatch z)
 | @ref n a e =>
  cases rv
  have hn:n<M.length:=by rw[<-sm.len];exact(AA7.mp e).1
  have hm:M[n]?=some M[n]:=AA5 hn
  have hd':(match M[n]? with | some mo=>if mo.isL=true then "list" else "?" | none=>"?")∈yM:=hd
  rw[hm]at hd'
  have hil:M[n].isL=true:=by
   cases q:M[n].isL with
   | true=>rfl
   | false =>
    simp only[q,AAD,if_false]at hd'
    exact absurd hd' (by decide)
  have hL:am M n M[n].items:=by
   cases q:M[n] with
   | lst xs=>exact .inl (by rw[hm,q];rfl)
   | fz xs=>exact .inr (.inl (by rw[hm,q];rfl))
   | kl xs=>exact .inr (.inr (by rw[hm,q];rfl))
   | dct xs=>rw[q]at hil;cases hil
   | dkt xs=>rw[q]at hil;cases hil
   | dkq xs=>rw[q]at hil;cases hil
   | fdc o xs=>rw[q]at hil;cases hil
   | dkm xs=>rw[q]at hil;cases hil
   | tb x b=>rw[q]at hil;cases hil
   | exc x=>rw[q]at hil;cases hil
  obtain⟨vs,hq,_⟩:=am.seq sm hL e
  obtain⟨its,_,⟨o,n',h1,h2,_⟩,_⟩:=I.list hq
  have ht:tyD M (.ref n) = "list":=by
   show (match M[n]? with | some mo=>if mo.isL=true then "list" else "?" | none=>"?") = "list"
   rw[hm]
   exact if_pos hil
  rw[ht]at step
  exact step _ PySem.W.kitx_list ⟨o,h1,h2⟩ (λz=>nomatch z)
def BK:DRA:=λds M Q=>match ds with
 | [d,.ty T]=>(tyD M d∈yM/\T∈Bo)/\Q (.bl (xv (tyD M d) T)) M
 | [d,.tup [.ty T,.ty T']]=>(tyD M d∈yM/\T∈Bo/\T'∈Bo)/\Q (.bl (xv (tyD M d) T||xv (tyD M d) T')) M
 | _=>False
theorem Ez:nM X (.builtin "isinstance") BK:=by
 rintro pins s σ H vs us R I rv ⟨ds,M,ρ,Q,sm,rs,q,k⟩
 unfold BK at q
 split at q
 ·rename_i d T
  obtain⟨⟨h1,h2⟩,q⟩:=q
  first | have hzz:=Reps.inv_cons rs | have hzz:=au.inv_cons rs
  clear rs
  obtain⟨_,_,rfl,r1,rs⟩:=hzz
  first | have hzz:=Reps.inv_cons rs | have hzz:=au.inv_cons rs
  clear rs
  obtain⟨_,_,rfl,r2,rs⟩:=hzz
  cases rs
  cases r2
  obtain⟨u,u',rfl,e1,e2⟩:=au.two rv
  cases e2
  refine yx I sm r1 e1 h1 λHx Z p hx=>?_
  exact PySem.W.kia_one Z I.kIn p (zZ X.K h1 h2) hx λtk=>fG (I.tok tk) sm k q
 ·rename_i d T T'
  obtain⟨⟨h1,h2,h3⟩,q⟩:=q
  first | have hzz:=Reps.inv_cons rs | have hzz:=au.inv_cons rs
  clear rs
  obtain⟨_,_,rfl,r1,rs⟩:=hzz
  first | have hzz:=Reps.inv_cons rs | have hzz:=au.inv_cons rs
  clear rs
  obtain⟨_,_,rfl,r2,rs⟩:=hzz
  cases rs
  obtain⟨u,u',rfl,e1,e2⟩:=au.two rv
  obtain⟨a,ws,rfl,hq,rt⟩:=Rep.inv_tup r2
  cases e2
  obtain⟨its,rr,⟨o,g1,g2,n,g3⟩,_⟩:=I.tuple hq
  first | have hzz:=Reps.inv_cons rt | have hzz:=au.inv_cons rt
  clear rt
  obtain⟨_,_,rfl,t1,rt⟩:=hzz
  first | have hzz:=Reps.inv_cons rt | have hzz:=au.inv_cons rt
  clear rt
  obtain⟨_,_,rfl,t2,rt⟩:=hzz
  cases rt
  cases t1
  cases t2
  obtain⟨w1,w2,rfl,f1,f2⟩:=au.two rr
  cases f1
  cases f2
  obtain⟨oc,od,odt,osl⟩:=o
  cases g2
  cases g3
  refine yx I sm r1 e1 h1 λHx Z p hx=>?_
  refine PySem.W.kia_tup Z I.kIn p g1 (b:=xv (tyD M d) T||xv (tyD M d) T') ?_ hx λtk=>fG (I.tok tk) sm k q
  show (match AB8 X.K (.type (tyD M d)) (.type T)with | some true=>some true | some false=>PySem.W.kitAny X.K (.type (tyD M d)) [.type T'] | none=>none)=_
  rw[zZ X.K h1 h2]
  cases xv (tyD M d) T with
  | true=>rfl
  | false =>
   show (match AB8 X.K (.type (tyD M d)) (.type T')with | some true=>some true | some false=>some false | none=>none)=_
   rw[zZ X.K h1 h3]
   cases xv (tyD M d) T'<;>rfl
 ·exact q.elim
def lP:DRA:=λds M Q=>match ds with
 | [.str x]=>x.length<=sizeLine/\Q (.int x.length) M
 | [.tup xs]=>Q (.int xs.length) M
 | [.ref n]=>∃xs,am M n xs/\Q (.int xs.length) M
 | _=>False
theorem Ey:nM X (.builtin "len") lP:=by
 refine eE.imp (nE.or nD) ?_
 rintro vs H R ⟨ds,M,ρ,Q,sm,rs,q,k⟩
 unfold lP at q
 split at q
 ·first | have hzz:=Reps.inv_cons rs | have hzz:=au.inv_cons rs
  clear rs
  obtain⟨_,_,rfl,r1,rs⟩:=hzz
  cases rs
  cases r1
  exact .inr ⟨_,rfl,q.1,k _ H (VQ.now sm (.int _) q.2)⟩
 ·first | have hzz:=Reps.inv_cons rs | have hzz:=au.inv_cons rs
  clear rs
  obtain⟨_,_,rfl,r1,rs⟩:=hzz
  cases rs
  cases r1 with
  | tup h r=>exact .inl ⟨_,_,rfl,.inr h,k _ H (VQ.now sm (by rw[<-r.length];exact .int _) q)⟩
 ·obtain⟨xs,hL,q⟩:=q
  first | have hzz:=Reps.inv_cons rs | have hzz:=au.inv_cons rs
  clear rs
  obtain⟨_,_,rfl,r1,rs⟩:=hzz
  cases rs
  obtain⟨_,rfl,e⟩:=Rep.inv_ref r1
  obtain⟨ws,hq,r⟩:=am.seq sm hL e
  exact .inl ⟨_,_,rfl,.inl hq,k _ H (VQ.now sm (by rw[<-r.length];exact .int _) q)⟩
 ·exact q.elim
end
end L2
namespace L2
open PySem PySem.Spec PyProof.Rows DL _root_.HT
section
variable{prog:Program}{w:World}{A:Around}{E:Value->Shared->Prop}{s:Shared}
theorem lB{t sl:Addr}{items:Array Value}{vl vu:Value}{lo hi:Option Int}{Q:Value->Shared->Prop}(ht:IsTup s.heap t items)(hs:s.heap.IsSliceOf sl vl vu .none)(pl:IsPart vl lo)(pu:IsPart vu hi)
  (hw:sIx items.size 0 lo=0/\sIx items.size items.size hi=items.size) (h:Q (.ref t) s):wpAny (model prog w) A (getItem (.ref t) (.ref sl)) Q E s:=by
 obtain⟨os,hos,hcs,hds⟩:=id hs
 have hTs:s.TypeIs (.ref sl) "slice":=⟨os,hos,hcs⟩
 unfold getItem
 try with_reducible refine AAg ?_
 first | refine AA0 (AA2 ?_) | skip
 refine AA0 (wpAny_sequenceKey ht.typeIs (by decide) (AA0 (AB0 (name:=AA1 "__getitem__") ht.typeIs AB5 (AAv AB5 ht.typeIs entry_tuple_getitem ?_ (args_tuple_getitem _ _)))))
 refine(show wpAny (model prog w) _ (AC5 (.ref t) >>= _) _ _ s from AA0 (tupleItemsOf_ ht (AA0 (ADC hTs ?_))))
 rw[if_pos (by decide)]
 refine AA0 (de hs pl pu ?_)
 refine(show wpAny (model prog w) _ (if (((sIx items.size 0 lo:Nat):Int)==0&&(1:Int)==1&&(sIx items.size items.size hi-sIx items.size 0 lo)==items.size)=true then _ else _) _ _ s from ?_)
 rw[if_pos (by rw[hw.1,hw.2];simp)]
 unfold Builtin.Tuple.tupleIsExact
 refine AA0 (AA0 (ADC ht.typeIs (AA2 ?_)))
 rw[if_pos (by decide)]
 exact AA0 (ABr (AA2 ⟨_,rfl,AA2 h⟩))
end
end L2
namespace L2
open PySem PySem.Spec PyProof.Rows DL
section
variable{X:Cx}{a b:Expr}{ta tb:DTE}{pos:Pos}
theorem IxR.imp(h:IxR X r')(i:∀x y H R,r x y H R->r' x y H R):IxR X r:=λvalue slice pins s σ H x y v u R I rx ry q hs=>h value slice pins s σ H x y v u R I rx ry (i x y H R q) hs
theorem Reps.atI{K:AA3}{ρ:List Addr}{H:Hp}{ds:List D}{vs:List V}{i:Int}{d:D}(r:Reps K ρ H ds vs)(h:L2.atI ds i=some d):∃v,L2.atI vs i=some v/\Rep K ρ H d v:=by
 unfold L2.atI at h ⊢
 rw[r.length]at h
 cases e:ixN vs.length i with
 | none=>rw[e]at h;cases h
 | some j =>
  rw[e]at h
  obtain⟨v,hv,rv⟩:=r.get (show ds[j]?=some d from h)
  exact⟨v,hv,rv⟩
def qIx:DR2:=λx y M Q=>match x,y with
 | .tup xs,.int i=>match L2.atI xs i with
  | some d=>Q d M
  | none=>False
 | .str z,.int i=>z.length<=sizeLine/\match L2.atI z.cps.toList i with
  | some c=>Q (.str ⟨#[c]⟩) M
  | none=>False
 | .ref n,.int i=>∃xs,am M n xs/\match L2.atI xs i with
  | some d=>Q d M
  | none=>False
 | _,_=>False
theorem Ag:IxR X (lowR X.K qIx):=by
 refine IxR.imp Dq ?_
 rintro vx vy H R ⟨x,y,M,ρ,Q,sm,r1,r2,q,k⟩
 unfold qIx at q
 split at q
 ·rename_i xs i
  split at q
  ·rename_i d e
   cases r2
   obtain⟨_,_,rfl,h,r⟩:=Rep.inv_tup r1
   obtain⟨v,hv,rv⟩:=r.atI e
   exact .inr (.inl ⟨_,_,_,v,rfl,rfl,h,hv,k _ H (VQ.now sm rv q)⟩)
  ·exact q.elim
 ·rename_i z i
  obtain⟨hz,q⟩:=q
  split at q
  ·rename_i c e
   cases r2
   cases r1
   exact .inr (.inr ⟨z,i,c,rfl,rfl,hz,e,k _ H (VQ.now sm (.str _) q)⟩)
  ·exact q.elim
 ·rename_i n i
  obtain⟨xs,hL,q⟩:=q
  split at q
  ·rename_i d e
   cases r2
   obtain⟨_,rfl,hn⟩:=Rep.inv_ref r1
   obtain⟨vs,hq,r⟩:=am.seq sm hL hn
   obtain⟨v,hv,rv⟩:=r.atI e
   exact .inl ⟨_,_,_,v,rfl,rfl,hq,hv,k _ H (VQ.now sm rv q)⟩
  ·exact q.elim
 ·exact q.elim
theorem d_ix(ha:DE X a ta)(hb:DE X b tb)(hs:pe b:=by intro _ _;rfl):DE X (.Subscript a b pos) (dOp qIx ta tb):=PE.imp (pe_ix Ag ha hb hs) kY
abbrev DTO:=SD->Mem->(Option Int->Mem->Prop)->Prop
def CD(K:AA3)(t:DTO):TO:=λσ H R=>∃S M ρ Q,Sim K ρ M H/\SRep K ρ H S σ/\t S M Q/\∀o H',(∃M' ρ',Sim K ρ' M' H'/\Grow K ρ H ρ' H'/\Q o M')->R o H'
def bT:DTO:=λ_ M Q=>Q none M
def fZ(t:DTE):DTO:=λS M Q=>t S M λx M1=>match x with
 | .int i=>Q (some i) M1
 | _=>False
theorem PO.imp(h:PO X e t')(i:∀σ H R,t σ H R->t' σ H R):PO X e t:=λpins s σ H R I q=>h pins s σ H R I (i σ H R q)
theorem AD:PO X none (CD X.K bT):=by
 refine PO.imp zk ?_
 rintro σ H R ⟨S,M,ρ,Q,s,sr,q,k⟩
 exact k none H ⟨M,ρ,s,.refl,q⟩
theorem AC(h:DE X e te):PO X (some e) (CD X.K (fZ te)):=by
 refine PO.imp (zj h) ?_
 rintro σ H R ⟨S,M,ρ,Q,s,sr,q,k⟩
 refine⟨S,M,ρ,_,s,sr,q,?_⟩
 rintro v H1 ⟨d,M1,ρ1,s1,g1,r1,q1⟩
 cases r1 with
 | int i=>exact⟨i,rfl,k _ H1 ⟨M1,ρ1,s1,g1,q1⟩⟩
 | _=>exact q1.elim
theorem BB:SlR X (λx lo hi H Q=>∃z,x=.str z/\z.length<=sizeLine/\Q (.str (AD0 z lo hi)) H):=by
 intro pins s σ H x v vl vu lo hi sl Q I rx hs pl pu h
 obtain⟨z,rfl,hz,q⟩:=h
 obtain⟨t,rfl⟩:=rx
 have part:∀{v:Value}{o:Option Int},IsPart v o->∃p:Option (Int×Tok),v=partValue p/\p.map (·.1)=o:=λh=>by
  cases h with
  | none=>exact⟨none,rfl,rfl⟩
  | int i t=>exact⟨some (i,t),rfl,rfl⟩
 obtain⟨p1,rfl,e1⟩:=part pl
 obtain⟨p2,rfl,e2⟩:=part pu
 subst e1 e2
 refine⟨"str",_,slot_str_getitem.lookup,typeIs_str _ _ _,wpAny_getItem_str_slice (l:=p1) (u:=p2) (st:=none) hs rfl ?_⟩
 exact post_val_or_str ⟨AB3 (Txt.slice_le z _ _) hz,λt' k=>⟨.str _,H,I.tok k,⟨t',rfl⟩,q⟩⟩
noncomputable def cutD(xs:List D)(lo hi:Option Int):List D:=(xs.drop (HT.sIx xs.length 0 lo)).take (HT.sIx xs.length xs.length hi-HT.sIx xs.length 0 lo)
theorem Reps.cutD{K:AA3}{ρ:List Addr}{H:Hp}{ds:List D}{vs:List V}(r:Reps K ρ H ds vs)(lo hi:Option Int):Reps K ρ H (L2.cutD ds lo hi) (yA vs lo hi):=by
 unfold L2.cutD yA
 rw[r.length]
 exact(r.drop _).take _
def qSl:D->Option Int->Option Int->Mem->DK->Prop:=λx lo hi M Q=>match x with
 | .str z=>z.length<=sizeLine/\Q (.str (AD0 z lo hi)) M
 | .ref n=>∃xs,am M n xs/\Q (.ref M.length) (M++[.lst (cutD xs lo hi)])
 | .tup xs=>Q (.tup (cutD xs lo hi)) M
 | _=>False
def lowSl(K:AA3)(r:D->Option Int->Option Int->Mem->DK->Prop):V->Option Int->Option Int->Hp->VK->Prop:=λvx lo hi H R=>∃x M ρ Q,Sim K ρ M H/\Rep K ρ H x vx/\r x lo hi M Q/\∀v H',VQ K ρ H Q v H'->R v H'
theorem sld:SlR X (lowSl X.K qSl):=by
 rintro pins s σ H x v vl vu lo hi sl R I rx hs pl pu ⟨d,M,ρ,Q,sm,r1,q,k⟩
 unfold qSl at q
 split at q
 ·cases r1
  exact BB pins s σ H _ v vl vu lo hi sl R I rx hs pl pu ⟨_,rfl,q.1,k _ H (VQ.now sm (.str _) q.2)⟩
 ·obtain⟨xs,hL,q⟩:=q
  obtain⟨_,rfl,hn⟩:=Rep.inv_ref r1
  obtain⟨vs,hq,r⟩:=am.seq sm hL hn
  exact yT pins s σ H _ v vl vu lo hi sl R I rx hs pl pu ⟨_,vs,rfl,hq,λp hp=>k _ _ (VQ.laidL sm .refl (r.cutD lo hi) hp q)⟩
 ·obtain⟨_,_,rfl,h,r⟩:=Rep.inv_tup r1
  rename_i xs a vs
  by_cases hw:HT.sIx xs.length 0 lo=0/\HT.sIx xs.length xs.length hi=xs.length
  ·cases rx
   obtain⟨its,rr,ht,hz⟩:=I.tuple h
   have hlen:its.toArray.size=xs.length:=by rw[AAC,r.length];exact rr.length.symm
   have e:L2.cutD xs lo hi=xs:=by unfold L2.cutD;rw[hw.1,hw.2,List.drop_zero,Nat.sub_zero,ACc]
   rw[e]at q
   exact⟨"tuple",_,AB5.lookup,ht.typeIs,lB ht hs pl pu (by rw[hlen];exact hw) ⟨.ref _,H,I,rfl,k _ H (VQ.now sm (.tup h r) q)⟩⟩
  ·exact BA pins s σ H _ v vl vu lo hi sl R I rx hs pl pu ⟨_,_,rfl,h,by rw[<-r.length];exact hw,λp hp=>k _ _ (VQ.laidT sm .refl (r.cutD lo hi) hp q)⟩
 ·exact q.elim
def dSl(te:DTE)(tl th:DTO):DTE:=λS M Q=>te S M λx M1=>tl S M1 λl M2=>th S M2 λu M3=>qSl x l u M3 Q
theorem AI{e:Expr}{te:DTE}{lo hi:Option Expr}{tl th:DTO}{p2:Pos}(he:DE X e te)(hl:PO X lo (CD X.K tl))(hu:PO X hi (CD X.K th)):DE X (.Subscript e (.Slice lo hi none p2) pos) (dSl te tl th):=by
 refine PE.imp (wI sld he hl hu) ?_
 rintro σ H R ⟨S,M,ρ,Q,s,sr,q,k⟩
 refine⟨S,M,ρ,_,s,sr,q,?_⟩
 rintro v H1 ⟨d,M1,ρ1,s1,g1,r1,q1⟩
 refine⟨S,M1,ρ1,_,s1,sr.grow g1,q1,?_⟩
 rintro l H2 ⟨M2,ρ2,s2,g2,q2⟩
 refine⟨S,M2,ρ2,_,s2,sr.grow (g1.trans g2),q2,?_⟩
 rintro u H3 ⟨M3,ρ3,s3,g3,q3⟩
 exact⟨d,M3,ρ3,Q,s3,r1.grow (g2.trans g3),q3,λv H' w=>k v H' (VQ.trans ((g1.trans g2).trans g3) w)⟩
def kI:DR2:=λx y M Q=>match x,y with
 | .int i,.int j=>CMul i j/\Q (.int (i*j)) M
 | .str z,.int n=>(0<=n/\n<2 ^ 63/\z.length*n.toNat<=sizeLine)/\Q (.str (Txt.mul z n)) M
 | _,_=>False
theorem oz(h0:0<=n)(h:z.length*n.toNat<=sizeLine)(hn:n<2 ^ 63):MulOk z n:=by
 refine⟨?_,λh1 h2=>?_,λh1 h2=>?_⟩
 ·have e1:decide (n < -(2 ^ 63:Int))=false:=dF_ (by lia)
  have e2:decide (n ≥ 2 ^ 63)=false:=dF_ (by lia)
  rw[e1,e2]
  rfl
 ·have hz:(z.length:Int)*n<=2 ^ 24:=by
   have e:((z.length*n.toNat:Nat):Int)=(z.length:Int)*n:=by
    rw[Int.natCast_mul,Int.toNat_of_nonneg h0]
   have h':((z.length*n.toNat:Nat):Int)<=(2 ^ 24:Nat):=Int.ofNat_le.mpr h
   rw[e]at h'
   exact h'
  have hpos:0<n:=by lia
  intro hgt
  have:=Int.lt_of_lt_of_le (Int.lt_mul_of_ediv_lt hpos hgt) hz
  lia
 ·unfold PySem.Builtin.Str.tooLong
  simpa using h
theorem zD:OpD X (binaryOp .Mult) kI:=by
 rintro pins s σ H vx vy v u R I rx ry ⟨x,y,M,ρ,Q,sm,r1,r2,q,k⟩
 unfold kI at q
 split at q
 ·cases r1
  cases r2
  exact Ck pins s σ H _ _ v u R I rx ry ⟨_,_,rfl,rfl,q.1,k _ H (VQ.now sm (.int _) q.2)⟩
 ·rename_i z n
  cases r1
  cases r2
  obtain⟨t,rfl⟩:=rx
  obtain⟨t',rfl⟩:=ry
  obtain⟨⟨h0,h2,h1⟩,q⟩:=q
  exact PySem.SB.mul (oz h0 h1 h2) λt' j=>⟨.str _,H,I.tok j,⟨t',rfl⟩,k _ H (VQ.now sm (.str _) q)⟩
 ·exact q.elim
variable{o e:Expr}{es:List Expr}{to:DTE}{t:DTA}{name:Str}{apos cpos:Pos}{id:String}
def lowMs(K:AA3)(r:Str->DRA):V->List V->Hp->VK->Prop:=λvx vs H R=>∃z ds M ρ Q,vx=.str z/\Sim K ρ M H/\Reps K ρ H ds vs/\r z ds M Q/\∀v H',VQ K ρ H Q v H'->R v H'
def jx(K:AA3)(r:Nat->DRA):V->List V->Hp->VK->Prop:=λvx vs H R=>∃n a ds M ρ Q,vx=.ref a/\ρ[n]?=some a/\Sim K ρ M H/\Reps K ρ H ds vs/\r n ds M Q/\∀v H',VQ K ρ H Q v H'->R v H'
def dMl(r:Nat->DRA)(to:DTE)(t:DTA):DTE:=λS M Q=>to S M λx M1=>match x with
 | .ref n=>(∃xs,am M1 n xs)/\t S M1 λds M2=>r n ds M2 Q
 | _=>False
theorem d_ml(slot:Slot "list" name id)(hty:typeOf (.builtin id)=pure (.type "method_descriptor"))(hm:MtR X id (jx X.K r))(ho:DE X o to)(ha:DA X (e::es) t)
  (hbase:attributeBase o name X.env (eval o X.env)=eval o X.env:=by rfl)
  (hfew:((backTo cpos (starEach (e::es) X.env)).all (λx=>!x.1)&&(backToKw cpos (keywordEach [] X.env)).all (λx=>x.1.isSome)
   && decide ((e::es).length+([]:List Keyword).length+(if ([]:List Keyword).isEmpty then 0 else 1)<30))=true:=by rfl)
  (hline:(apos.endLine==cpos.line)=true:=by rfl) (hs:starEach (e::es) X.env=(false,eval e X.env)::starEach es X.env:=by rfl) (hplain:(backTo cpos (starEach es X.env)).any (·.1)=false:=by rfl) :
  DE X (.Call (.Attribute o name apos) (e::es) [] cpos) (dMl r to t):=by
 refine PE.imp (pe_bm PySem.F.plainAttrs_list slot hty hm ho ha hbase hfew hline hs hplain) ?_
 rintro σ H R ⟨S,M,ρ,Q,s,sr,q,k⟩
 refine⟨S,M,ρ,_,s,sr,q,?_⟩
 rintro v H1 ⟨d,M1,ρ1,s1,g1,r1,q1⟩
 cases r1 with
 | @ref n a hn =>
  obtain⟨⟨xs,hL⟩,q1⟩:=(show (∃xs,am M1 n xs)/\t S M1 _ from q1)
  obtain⟨vs,hq,_⟩:=am.seq s1 hL hn
  refine⟨.inl ⟨rfl,vs,hq⟩,S,M1,ρ1,_,s1,sr.grow g1,q1,?_⟩
  rintro vs H2 ⟨ds,M2,ρ2,s2,g2,r2,q2⟩
  exact⟨n,a,ds,M2,ρ2,Q,rfl,av g2.pre hn,s2,r2,q2,λv H' w=>k v H' (VQ.trans (g1.trans g2) w)⟩
 | _=>exact q1.elim
def bQ(n:Nat):DRA:=λds M Q=>match ds with
 | [d]=>∃xs,M[n]?=some (.lst xs)/\xs.length<sizeLine/\Q .non (M.set n (.lst (xs++[d])))
 | _=>False
theorem rD:MtR X "list.append" (jx X.K bQ):=by
 rintro pins s σ H x xs v us R I rx rs ⟨n,a,ds,M,ρ,Q,ez,hn,sm,rr,q,k⟩
 unfold bQ at q
 split at q
 ·rename_i d
  obtain⟨ys,e,hl,q⟩:=q
  first | have hzz:=Reps.inv_cons rr | have hzz:=au.inv_cons rr
  clear rr
  obtain⟨_,_,rfl,r1,rr⟩:=hzz
  cases rr
  obtain⟨vs,hH,r⟩:=sm.obj n a _ hn e
  obtain⟨w1,w2⟩:=sm.write hn e hH (r.append (.cons r1 .nil))
  exact uv pins s σ H x _ v us R I rx rs ⟨a,vs,_,ez,rfl,hH,by rw[<-r.length];exact hl,k _ _ ⟨.non,_,ρ,w1,w2,.non,q⟩⟩
 ·exact q.elim
end
def cU(K:AA3)(mg:Str->Option Value)(x:Str)(st:Stmt)(ps:List Str):Prop :=
 ∃f fd,Fun K x x st f fd/\mg x=some (.ref f)/\lO K fd ps []
def Cal(P:Program)(w:World)(K:AA3)(mg:Str->Option Value)(base:Heap)(k:Nat)(x:Str)(ps:List Str)(Pr:DSp):Prop :=
 ∃f fd,FnOk P w K mg base CX0 k f fd ps (spL K Pr)/\mg x=some (.ref f)/\ABw K (.ref f)=true/\lO K fd ps []
theorem fnat_mk{K:AA3}{h:Heap}{mg:Str->Option Value}{x:Str}{st:Stmt}{ps:List Str}{f:Addr}{oc:Value}{od an:Option Addr}{osl:Array (Option Value)}{kV doc pm cdv ct:Value}
  (X:K.In h) (G:h.Ns mainGlobals mg) (a:ACD K mainGlobals x=some (some (.ref f)))
  (l:K.lookup f=some ⟨oc,od,.func (ACV x x (eT st) (bc st) (ak st) .none kV doc pm an cdv ct),osl⟩)
  (c:AEA K cdv x=true) (k:ABw K (.ref f)=true)
  (h:∀(kV doc pm:Value) (an:Option Addr) (cdv ct:Value) (us:List Value),us.length=ps.length->bindArgs (ACV x x (eT st) (bc st) (ak st) .none kV doc pm an cdv ct) ⟨us,[]⟩=pure (ps.zip us)):cU K mg x st ps :=
 have F:=DN (st:=st) l c k
 ⟨f,_,F,AEK X G a,F.binds h⟩
theorem Cal.of{P:Program}{w:World}{K:AA3}{mg:Str->Option Value}{base:Heap}{x:Str}{st:Stmt}{N ps:List Str}{k:Nat}{Pr:DSp}(F:cU K mg x st ps)(Sc:FnScope N ps (ak st))
  (len:∀ds M R,Pr ds M R->ds.length=ps.length) {t:DTS}
  (der:∀(f:Addr) (cdv:Value) (A:Around) (outer:List Env) (s:Shared) (H:Hp) (E:XK),Room k (A.deeper (envOfC x (ak st) s.heap.objs.size f cdv))->DSs (jq CX0 P w K mg base N x (ak st) f cdv A outer s H E).nox (bc st) t)
  (wp:∀ds M R,Pr ds M R->t ⟨λ_ M'=>bu M R .non M',bu M R,λ_ _=>False,λ_ _=>False⟩ (bj N ds) M):Cal P w K mg base (k+1) x ps Pr:=by
 obtain⟨f,fd,F1,hm,hb⟩:=F
 exact⟨f,fd,d_fn Pr F1 Sc len λcdv A outer s H E hr=>⟨t,der f cdv A outer s H E hr,wp⟩,hm,F1.kp,hb⟩
theorem Ar{P:Program}{w:World}{K:AA3}{mg:Str->Option Value}{base:Heap}{x:Str}{st:Stmt}{N ps:List Str}{k:Nat}{Pr:DSp}{f:Addr}{fd:FuncData}(F:Fun K x x st f fd)(Sc:FnScope N ps (ak st))
  (len:∀ds M R,Pr ds M R->ds.length=ps.length) {t:DTS}
  (der:∀(f:Addr) (cdv:Value) (A:Around) (outer:List Env) (s:Shared) (H:Hp) (E:XK),Room k (A.deeper (envOfC x (ak st) s.heap.objs.size f cdv))->DSs (jq CX0 P w K mg base N x (ak st) f cdv A outer s H E).nox (bc st) t)
  (wp:∀ds M R,Pr ds M R->t ⟨λ_ M'=>bu M R .non M',bu M R,λ_ _=>False,λ_ _=>False⟩ (bj N ds) M):FnOk P w K mg base CX0 (k+1) f fd ps (spL K Pr) :=
 d_fn Pr F Sc len λcdv A outer s H E hr=>⟨t,der f cdv A outer s H E hr,wp⟩
theorem FnOk.more{P:Program}{w:World}{K:AA3}{mg:Str->Option Value}{base:Heap}{CX:CXT}{j k:Nat}{f:Addr}{fd:FuncData}{ps:List Str}{sp:Sp}(F:FnOk P w K mg base CX j f fd ps sp)(h:j<=k):FnOk P w K mg base CX k f fd ps sp :=
 ⟨F.len,λA outer s H args us vs Q E hr=>F.run A outer s H args us vs Q E (hr.mono h)⟩
section
variable{X:Cx}{e:Expr}{es:List Expr}{t:DTA}{pos:Pos}
theorem d_cal(C:Cal X.prog X.w X.K X.mg X.base j x ps P)(hr:Room k X.A)(ha:DA X (e::es) t)(hj:j<=k:=by decide)
  (hg:Gl X x:=by rfl) (hdb:(x==("__debug__":Str))=false:=by decide) (he:starEach (e::es) X.env=(false,eval e X.env)::starEach es X.env:=by rfl) (hpl:(backTo pos (starEach es X.env)).any (·.1)=false:=by rfl) :
  DE X (.Call (.Name x p) (e::es) [] pos) (dCB P t):=by
 obtain⟨f,fd,F,hm,hk,hb⟩:=C
 exact Eu F (hr.mono hj) hm hk hb ha hg hdb he hpl
end
theorem iZ(h:M[n]?=some mo)(hl:mo.isL=true):am M n mo.items:=by
 cases mo with
 | lst xs=>exact .inl h
 | fz xs=>exact .inr (.inl h)
 | kl xs=>exact .inr (.inr h)
 | dct xs=>cases hl
 | dkt xs=>cases hl
 | dkq xs=>cases hl
 | fdc o xs=>cases hl
 | dkm xs=>cases hl
 | tb x b=>cases hl
 | exc x=>cases hl
theorem fj{K:AA3}{ρ:List Addr}{H:Hp}:∀(ns:List Int),Reps K ρ H (ns.map D.int) (ns.map V.int)
 | []=>.nil
 | n::ns=>.cons (.int n) (fj ns)
noncomputable def kz(nm:List (Str×NameKind))(N N':List Str)(nt:Nat)(js:List Nat)(sc:Scope):Bool :=
 sc.kind==.function&&sc.names.all (λy=>y.2 != .cell&&(y.2 != .local||sc.names.lookup y.1==some .local)&&(y.2 != .free||(nm.lookup y.1==some .cell||nm.lookup y.1==some .free))) &&
 N'.length==nt+js.length&&(AAn js.length).all λk=>match js[k]?,N'[nt+k]? with
  | some j,some x=>N[j]?==some x&&sc.names.lookup x==some .free&&(nm.lookup x==some .cell||nm.lookup x==some .free)
  | _,_=>false
theorem BlkSc.chk(h:kz X.env.scope.names X.N N' nt js scope=true):BlkSc X N' nt js scope:=by
 unfold kz at h
 simp only[AAO,AAW,beq_iff_eq,ADx,bne_iff_ne]at h
 obtain⟨⟨⟨h1,h2⟩,h3⟩,h4⟩:=h
 refine⟨h1,λy hy=>(h2 y hy).1.1,λy hy e=>((h2 y hy).1.2.resolve_left (λz=>z e)),λy hy e=>((h2 y hy).2.resolve_left (λz=>z e)),h3,λk j e=>?_⟩
 have hk:k<js.length:=(AA7.mp e).1
 have q:=h4 k (AAu.mpr hk)
 rw[e]at q
 cases f:N'[nt+k]? with
 | none=>rw[f]at q;exact absurd q (by simp)
 | some x =>
  rw[f]at q
  simp only[AAO,beq_iff_eq,ADx]at q
  exact⟨x,rfl,q.1.1,q.1.2,q.2⟩
section
variable{X:Cx}{a:Expr}{ta:DTE}{pos:Pos}
def dUn(r:DR1)(ta:DTE):DTE:=λS M Q=>ta S M λx M1=>r x M1 Q
theorem d_un(ho:UnD X (unaryOp op) r)(ha:DE X a ta):DE X (.UnaryOp op a pos) (dUn r ta):=by
 refine PE.imp (pe_un ho ha) ?_
 rintro σ H R ⟨S,M,ρ,Q,s,sr,q,k⟩
 refine⟨S,M,ρ,_,s,sr,q,?_⟩
 rintro v H1 ⟨d,M1,ρ1,s1,g1,r1,q1⟩
 exact⟨d,M1,ρ1,Q,s1,r1,q1,λv H' w=>k v H' (VQ.trans g1 w)⟩
def BJ:DR1:=λx M Q=>match x with
 | .int i=>Q (.int (-i)) M
 | _=>False
theorem Bn:UnD X (unaryOp .USub) BJ:=by
 rintro pins s σ H vx v R I rx ⟨x,M,ρ,Q,sm,r1,q,k⟩
 unfold BJ at q
 split at q
 ·cases r1
  exact Bm pins s σ H _ v R I rx ⟨_,rfl,k _ H (VQ.now sm (.int _) q)⟩
 ·exact q.elim
end
noncomputable def eqL(f:D->D->Bool):List D->List D->Bool
 | [],[]=>true
 | x::xs,y::ys=>f x y&&eqL f xs ys
 | _,_=>false
noncomputable def eqD(M:Mem):Nat->D->D->Bool
 | _,.non,.non=>true
 | _,.bl a,.bl b=>a==b
 | _,.bl a,.int b=>(if a then 1 else 0)==b
 | _,.int a,.bl b=>a==(if b then 1 else 0)
 | _,.int a,.int b=>a==b
 | _,.str a,.str b=>a==b
 | n+1,.tup xs,.tup ys=>eqL (eqD M n) xs ys
 | n+1,.ref i,.ref j=>match M[i]?,M[j]? with
  | some a,some b=>eqL (eqD M n) a.items b.items
  | _,_=>false
 | _,_,_=>false
noncomputable def okD(M:Mem):Nat->D->Bool
 | _,.ty _=>false
 | n+1,.tup xs=>xs.all (okD M n)
 | n+1,.ref i=>match M[i]? with
  | some a=>a.isL&&a.items.all (okD M n)
  | none=>false
 | 0,.tup _=>false
 | 0,.ref _=>false
 | _,_=>true
theorem vz:∀{xs ys:List D},eqL f xs ys=true->xs.length=ys.length
 | [],[],_=>rfl
 | [],_::_,h=>by simp[eqL]at h
 | _::_,[],h=>by simp[eqL]at h
 | x::xs,y::ys,h=>by
  simp only[eqL,AAO]at h
  rw[AAI,AAI,vz h.2]
theorem vV(n:Nat)(e:Nat->Bool):(AAn (n+1)).all e=(e 0&&(AAn n).all λj=>e (j+1)):=by
 rw[List.range_succ_eq_map,ABI,List.all_map]
 rfl
theorem ji:∀{xs ys:List D}{e:Nat->Bool},xs.length=ys.length->(∀(j:Nat) x y,xs[j]?=some x->ys[j]?=some y->e j=f x y)->(AAn xs.length).all e=eqL f xs ys
 | [],[],e,_,_=>by simp[eqL]
 | [],_::_,_,h,_=>by simp at h
 | _::_,[],_,h,_=>by simp at h
 | x::xs,y::ys,e,h,he=>by
  rw[AAI,vV,eqL,he 0 x y rfl rfl,ji (by simpa using h) λj x' y' h1 h2=>he (j+1) x' y' (by simpa using h1) (by simpa using h2)]
theorem vt(h:xs.length≠ys.length):eqL f xs ys=false:=by
 cases q:eqL f xs ys with
 | false=>rfl
 | true=>exact absurd (vz q) h
theorem eX{vs:List V}{us:List Value}(h:au vs us){j:Nat}{v:V}(e:vs[j]?=some v):∃u,us[j]?=some u/\aC v u:=by
 induction h generalizing j with
 | nil=>simp at e
 | cons r _ ih =>
  cases j with
  | zero=>simp at e;subst e;exact⟨_,rfl,r⟩
  | succ j=>exact ih (by simpa using e)
section
variable{X:Cx}{pins:List (Addr×Obj)}{σ:St}{H:Hp}{s:Shared}{ρ:List Addr}{M:Mem}
theorem iD(I:Inv X pins σ H s)(sm:Sim X.K ρ M H){i:Nat}{a:Addr}{mo:MO}(e:ρ[i]?=some a)(hm:M[i]?=some mo)(hl:mo.isL=true):∃vs its,SqL X.K H a vs/\Reps X.K ρ H mo.items vs/\au vs its/\PlainL s.heap a its.toArray:=by
 obtain⟨vs,hq,r⟩:=am.seq sm (iZ hm hl) e
 obtain⟨its,rr,pl,_⟩:=I.list hq
 exact⟨vs,its,hq,r,rr,pl⟩
theorem cB(hm:M[i]?=some mo)(o:okD M (n+1) (.ref i)=true):mo.isL=true/\mo.items.all (okD M n)=true:=by
 have o':(match M[i]? with | some a=>a.isL&&a.items.all (okD M n) | none=>false)=true:=o
 rw[hm]at o'
 exact(AAO _ _).mp o'
theorem xI(I:Inv X pins σ H s)(sm:Sim X.K ρ M H):∀(n:Nat) (x y:D) (v:V),Rep X.K ρ H x v->Rep X.K ρ H y v->okD M n x=true->okD M n y=true->eqD M n x y=true:=by
 have all:∀(n:Nat),(∀(x y:D) (v:V),Rep X.K ρ H x v->Rep X.K ρ H y v->okD M n x=true->okD M n y=true->eqD M n x y=true) ->
   ∀(xs ys:List D) (vs:List V),Reps X.K ρ H xs vs->Reps X.K ρ H ys vs->xs.all (okD M n)=true->ys.all (okD M n)=true->eqL (eqD M n) xs ys=true:=by
  intro n ih xs
  induction xs with
  | nil=>intro ys vs h1 h2 _ _;cases h1;cases h2;rfl
  | cons x xs hi =>
   intro ys vs h1 h2 o1 o2
   cases h1 with
   | cons r1 t1 =>
    cases h2 with
    | cons r2 t2 =>
     rw[ABI,AAO]at o1 o2
     rw[eqL,ih _ _ _ r1 r2 o1.1 o2.1,hi _ _ t1 t2 o1.2 o2.2]
     rfl
 intro n
 induction n with
 | zero =>
  intro x y v h1 h2 o1 o2
  cases h1<;>cases h2<;>first | (simp[okD]at o1;done) | rfl | simp[eqD]
 | succ n ih =>
  intro x y v h1 h2 o1 o2
  cases h1 with
  | non=>cases h2;rfl
  | bl b=>cases h2;simp[eqD]
  | int b=>cases h2;simp[eqD]
  | str b=>cases h2;simp[eqD]
  | ty b=>simp[okD]at o1
  | @tup a vs ds hq r =>
   cases h2 with
   | tup hq' r' =>
    have e:=I.tuple_inj hq hq'
    subst e
    exact all n ih _ _ _ r r' (by simpa [okD]using o1) (by simpa [okD]using o2)
   | @ref i _ e =>
    exfalso
    obtain⟨its,_,⟨o,e1,e2,_⟩,_⟩:=I.tuple hq
    have hi:i<M.length:=by rw[<-sm.len];exact(AA7.mp e).1
    obtain⟨vs',its',_,_,_,⟨o',n',f1,f2,_⟩⟩:=iD I sm e (AA5 hi) (cB (AA5 hi) o2).1
    rw[e1]at f1;cases f1
    rw[e2]at f2;injection f2 with f3;exact absurd f3 (by decide)
  | @ref i a e =>
   have hi:i<M.length:=by rw[<-sm.len];exact(AA7.mp e).1
   have hm:=AA5 hi
   obtain⟨vs,its,hq,r,rr,pl⟩:=iD I sm e hm (cB hm o1).1
   cases h2 with
   | tup hq' r' =>
    exfalso
    obtain⟨its',_,⟨o,e1,e2,_⟩,_⟩:=I.tuple hq'
    obtain⟨o',n',f1,f2,_⟩:=pl
    rw[e1]at f1;cases f1
    rw[e2]at f2;injection f2 with f3;exact absurd f3 (by decide)
   | @ref j _ e' =>
    have hj:j<M.length:=by rw[<-sm.len];exact(AA7.mp e').1
    have hm':=AA5 hj
    obtain⟨vs',its',hq',r',rr',pl'⟩:=iD I sm e' hm' (cB hm' o2).1
    have ev:vs=vs':=I.list_inj hq hq'
    subst ev
    have o1':=(cB hm o1).2
    have o2':=(cB hm' o2).2
    simp only[eqD,hm,hm']
    exact all n ih _ _ _ r r' o1' o2'
theorem gD(I:Inv X pins σ H s)(sm:Sim X.K ρ M H):∀(n:Nat) (A:Around) (x y:D) (vx vy:V) (u v:Value),A.units+n<cLine->Rep X.K ρ H x vx->aC vx u->Rep X.K ρ H y vy->aC vy v->okD M n x=true->okD M n y=true ->
  ABx A s u v (eqD M n x y)/\SeqAt.RcAt A s u v (eqD M n x y)/\SeqAt.RcNeAt A s u v (!eqD M n x y):=by
 intro n
 induction n with
 | zero =>
  intro A x y vx vy u v hu r1 e1 r2 e2 o1 o2
  cases r1 with
  | ty b=>simp[okD]at o1
  | tup b=>simp[okD]at o1
  | ref b=>simp[okD]at o1
  | non =>
   cases e1
   cases r2 with
   | ty b=>simp[okD]at o2
   | tup b=>simp[okD]at o2
   | ref b=>simp[okD]at o2
   | non=>cases e2;exact⟨ADy _,SeqAt.RcAt.none_none,SeqAt.RcNeAt.none_none⟩
   | bl b=>cases e2;exact⟨SeqAt.EqAt.none_bool _,SeqAt.RcAt.none_bool _,SeqAt.RcNeAt.none_bool _⟩
   | int b=>obtain⟨t,rfl⟩:=e2;exact⟨SeqAt.EqAt.none_int _ _,SeqAt.RcAt.none_int _ _,SeqAt.RcNeAt.none_int _ _⟩
   | str b=>obtain⟨t,rfl⟩:=e2;exact⟨SeqAt.EqAt.none_str _ _,SeqAt.RcAt.none_str _ _,SeqAt.RcNeAt.none_str _ _⟩
  | bl a =>
   cases e1
   cases r2 with
   | ty b=>simp[okD]at o2
   | tup b=>simp[okD]at o2
   | ref b=>simp[okD]at o2
   | non=>cases e2;exact⟨SeqAt.EqAt.bool_none _,SeqAt.RcAt.bool_none _,SeqAt.RcNeAt.bool_none _⟩
   | bl b=>cases e2;exact⟨SeqAt.EqAt.bool_bool _ _,SeqAt.RcAt.bool_bool _ _,SeqAt.RcNeAt.bool_bool _ _⟩
   | int b=>obtain⟨t,rfl⟩:=e2;exact⟨SeqAt.EqAt.bool_int _ _ _,SeqAt.RcAt.bool_int _ _ _,SeqAt.RcNeAt.bool_int _ _ _⟩
   | str b=>obtain⟨t,rfl⟩:=e2;exact⟨SeqAt.EqAt.bool_str _ _ _,SeqAt.RcAt.bool_str _ _ _,SeqAt.RcNeAt.bool_str _ _ _⟩
  | int a =>
   obtain⟨t0,rfl⟩:=e1
   cases r2 with
   | ty b=>simp[okD]at o2
   | tup b=>simp[okD]at o2
   | ref b=>simp[okD]at o2
   | non=>cases e2;exact⟨SeqAt.EqAt.int_none _ _,SeqAt.RcAt.int_none _ _,SeqAt.RcNeAt.int_none _ _⟩
   | bl b=>cases e2;exact⟨SeqAt.EqAt.int_bool _ _ _,SeqAt.RcAt.int_bool _ _ _,SeqAt.RcNeAt.int_bool _ _ _⟩
   | int b=>obtain⟨t,rfl⟩:=e2;exact⟨ADL _ _ _ _,SeqAt.RcAt.int_int _ _ _ _,SeqAt.RcNeAt.int_int _ _ _ _⟩
   | str b=>obtain⟨t,rfl⟩:=e2;exact⟨ACi _ _ _ _,SeqAt.RcAt.int_str _ _ _ _,SeqAt.RcNeAt.int_str _ _ _ _⟩
  | str a =>
   obtain⟨t0,rfl⟩:=e1
   cases r2 with
   | ty b=>simp[okD]at o2
   | tup b=>simp[okD]at o2
   | ref b=>simp[okD]at o2
   | non=>cases e2;exact⟨SeqAt.EqAt.str_none _ _,SeqAt.RcAt.str_none _ _,SeqAt.RcNeAt.str_none _ _⟩
   | bl b=>cases e2;exact⟨SeqAt.EqAt.str_bool _ _ _,SeqAt.RcAt.str_bool _ _ _,SeqAt.RcNeAt.str_bool _ _ _⟩
   | int b=>obtain⟨t,rfl⟩:=e2;exact⟨ACj _ _ _ _,SeqAt.RcAt.str_int _ _ _ _,SeqAt.RcNeAt.str_int _ _ _ _⟩
   | str b=>obtain⟨t,rfl⟩:=e2;exact⟨ADM _ _ _ _,SeqAt.RcAt.str_str _ _ _ _,SeqAt.RcNeAt.str_str _ _ _ _⟩
 | succ n ih =>
  intro A x y vx vy u v hu r1 e1 r2 e2 o1 o2
  have hu0:A.units<cLine:=by lia
  have hu1:A.in1.units+n<cLine:=by show A.units+1+n<cLine;lia
  -- what a list or a tuple is,as the heap has it
  have tupAt:∀{a:Addr}{vs:List V}{ds:List D},SqT X.K H a vs->Reps X.K ρ H ds vs->∃its:List Value,au vs its/\s.heap.IsTuple a its.toArray/\ds.length=its.length:=λ{a vs ds} hq r=>by
   obtain⟨its,rr,pl,_⟩:=I.tuple hq
   exact⟨its,rr,pl,r.length.trans rr.length⟩
  have lstAt:∀{i:Nat}{a:Addr},ρ[i]?=some a->okD M (n+1) (.ref i)=true->∃mo,M[i]?=some mo/\∃vs its,Reps X.K ρ H mo.items vs/\au vs its/\s.heap.IsList a its.toArray/\mo.items.length=its.length:=λ{i a} e ok=>by
   have hi:i<M.length:=by rw[<-sm.len];exact(AA7.mp e).1
   have hm:=AA5 hi
   obtain⟨vs,its,hq,r,rr,pl⟩:=iD I sm e hm (cB hm ok).1
   exact⟨_,hm,vs,its,r,rr,pl.isList,r.length.trans rr.length⟩
  have items:∀{xs ys:List D}{vs ws:List V}{its jts:List Value},Reps X.K ρ H xs vs->au vs its->Reps X.K ρ H ys ws->au ws jts->xs.all (okD M n)=true->ys.all (okD M n)=true ->
    ∀(j:Nat) (h1:j<its.toArray.size) (h2:j<jts.toArray.size),ABx A.in1 s its.toArray[j] jts.toArray[j] (eqD M n (xs.getD j .non) (ys.getD j .non)):=λ{xs ys vs ws its jts} r1 q1 r2 q2 o1 o2 j h1 h2=>by
   have l1:j<xs.length:=by rw[r1.length,q1.length];simpa using h1
   have l2:j<ys.length:=by rw[r2.length,q2.length];simpa using h2
   obtain⟨v1,g1,p1⟩:=r1.get (AA5 l1)
   obtain⟨v2,g2,p2⟩:=r2.get (AA5 l2)
   obtain⟨u1,k1,m1⟩:=eX q1 g1
   obtain⟨u2,k2,m2⟩:=eX q2 g2
   have z1:its.toArray[j]=u1:=by
    have:=(AA7.mp k1).2
    simpa using this
   have z2:jts.toArray[j]=u2:=by
    have:=(AA7.mp k2).2
    simpa using this
   rw[z1,z2]
   have y1:xs.getD j .non=xs[j]:=by simp[AEH,AA5 l1]
   have y2:ys.getD j .non=ys[j]:=by simp[AEH,AA5 l2]
   rw[y1,y2]
   exact(ih A.in1 _ _ _ _ _ _ hu1 p1 m1 p2 m2 (AAW.mp o1 _ (AB4 l1)) (AAW.mp o2 _ (AB4 l2))).1
  have rng:∀(xs ys:List D),xs.length=ys.length->(AAn xs.length).all (λj=>eqD M n (xs.getD j .non) (ys.getD j .non))=eqL (eqD M n) xs ys:=λxs ys h=>ji h λj x y h1 h2=>by
   simp[AEH,h1,h2]
  have fin:∀{a b:Addr}{k:Bool},Rep X.K ρ H x (.ref a)->Rep X.K ρ H y (.ref b)->eqD M (n+1) x y=k->SeqAt.RcAt A s (.ref a) (.ref b) k->SeqAt.RcNeAt A s (.ref a) (.ref b) (!k) ->
    ABx A s (.ref a) (.ref b) (eqD M (n+1) x y)/\SeqAt.RcAt A s (.ref a) (.ref b) (eqD M (n+1) x y)/\SeqAt.RcNeAt A s (.ref a) (.ref b) (!eqD M (n+1) x y):=λ{a b k} p1 p2 ek h1 h2=>by
   subst ek
   refine⟨?_,h1,h2⟩
   by_cases hab:a=b
   ·subst hab
    rw[xI I sm (n+1) x y _ p1 p2 o1 o2]
    exact ADy _
   ·exact SeqAt.EqAt.of_refs hab h1
  cases r1 with
  | ty b=>simp[okD]at o1
  | non =>
   cases e1
   cases r2 with
   | ty b=>simp[okD]at o2
   | tup hq r=>cases e2;obtain⟨its,rr,pl,_⟩:=tupAt hq r;exact⟨SeqAt.EqAt.none_tuple pl hu0,SeqAt.RcAt.none_tuple pl hu0,SeqAt.RcNeAt.none_tuple pl hu0⟩
   | ref e=>cases e2;obtain⟨mo,hm,vs,its,r,rr,pl,_⟩:=lstAt e o2;exact⟨SeqAt.EqAt.none_list pl hu0,SeqAt.RcAt.none_list pl hu0,SeqAt.RcNeAt.none_list pl hu0⟩
   | non=>cases e2;exact⟨ADy _,SeqAt.RcAt.none_none,SeqAt.RcNeAt.none_none⟩
   | bl b=>cases e2;exact⟨SeqAt.EqAt.none_bool _,SeqAt.RcAt.none_bool _,SeqAt.RcNeAt.none_bool _⟩
   | int b=>obtain⟨t,rfl⟩:=e2;exact⟨SeqAt.EqAt.none_int _ _,SeqAt.RcAt.none_int _ _,SeqAt.RcNeAt.none_int _ _⟩
   | str b=>obtain⟨t,rfl⟩:=e2;exact⟨SeqAt.EqAt.none_str _ _,SeqAt.RcAt.none_str _ _,SeqAt.RcNeAt.none_str _ _⟩
  | bl a =>
   cases e1
   cases r2 with
   | ty b=>simp[okD]at o2
   | tup hq r=>cases e2;obtain⟨its,rr,pl,_⟩:=tupAt hq r;exact⟨SeqAt.EqAt.bool_tuple _ pl hu0,SeqAt.RcAt.bool_tuple _ pl hu0,SeqAt.RcNeAt.bool_tuple _ pl hu0⟩
   | ref e=>cases e2;obtain⟨mo,hm,vs,its,r,rr,pl,_⟩:=lstAt e o2;exact⟨SeqAt.EqAt.bool_list _ pl hu0,SeqAt.RcAt.bool_list _ pl hu0,SeqAt.RcNeAt.bool_list _ pl hu0⟩
   | non=>cases e2;exact⟨SeqAt.EqAt.bool_none _,SeqAt.RcAt.bool_none _,SeqAt.RcNeAt.bool_none _⟩
   | bl b=>cases e2;exact⟨SeqAt.EqAt.bool_bool _ _,SeqAt.RcAt.bool_bool _ _,SeqAt.RcNeAt.bool_bool _ _⟩
   | int b=>obtain⟨t,rfl⟩:=e2;exact⟨SeqAt.EqAt.bool_int _ _ _,SeqAt.RcAt.bool_int _ _ _,SeqAt.RcNeAt.bool_int _ _ _⟩
   | str b=>obtain⟨t,rfl⟩:=e2;exact⟨SeqAt.EqAt.bool_str _ _ _,SeqAt.RcAt.bool_str _ _ _,SeqAt.RcNeAt.bool_str _ _ _⟩
  | int a =>
   obtain⟨t0,rfl⟩:=e1
   cases r2 with
   | ty b=>simp[okD]at o2
   | tup hq r=>cases e2;obtain⟨its,rr,pl,_⟩:=tupAt hq r;exact⟨SeqAt.EqAt.int_tuple _ _ pl hu0,SeqAt.RcAt.int_tuple _ _ pl hu0,SeqAt.RcNeAt.int_tuple _ _ pl hu0⟩
   | ref e=>cases e2;obtain⟨mo,hm,vs,its,r,rr,pl,_⟩:=lstAt e o2;exact⟨SeqAt.EqAt.int_list _ _ pl hu0,SeqAt.RcAt.int_list _ _ pl hu0,SeqAt.RcNeAt.int_list _ _ pl hu0⟩
   | non=>cases e2;exact⟨SeqAt.EqAt.int_none _ _,SeqAt.RcAt.int_none _ _,SeqAt.RcNeAt.int_none _ _⟩
   | bl b=>cases e2;exact⟨SeqAt.EqAt.int_bool _ _ _,SeqAt.RcAt.int_bool _ _ _,SeqAt.RcNeAt.int_bool _ _ _⟩
   | int b=>obtain⟨t,rfl⟩:=e2;exact⟨ADL _ _ _ _,SeqAt.RcAt.int_int _ _ _ _,SeqAt.RcNeAt.int_int _ _ _ _⟩
   | str b=>obtain⟨t,rfl⟩:=e2;exact⟨ACi _ _ _ _,SeqAt.RcAt.int_str _ _ _ _,SeqAt.RcNeAt.int_str _ _ _ _⟩
  | str a =>
   obtain⟨t0,rfl⟩:=e1
   cases r2 with
   | ty b=>simp[okD]at o2
   | tup hq r=>cases e2;obtain⟨its,rr,pl,_⟩:=tupAt hq r;exact⟨SeqAt.EqAt.str_tuple _ _ pl hu0,SeqAt.RcAt.str_tuple _ _ pl hu0,SeqAt.RcNeAt.str_tuple _ _ pl hu0⟩
   | ref e=>cases e2;obtain⟨mo,hm,vs,its,r,rr,pl,_⟩:=lstAt e o2;exact⟨SeqAt.EqAt.str_list _ _ pl hu0,SeqAt.RcAt.str_list _ _ pl hu0,SeqAt.RcNeAt.str_list _ _ pl hu0⟩
   | non=>cases e2;exact⟨SeqAt.EqAt.str_none _ _,SeqAt.RcAt.str_none _ _,SeqAt.RcNeAt.str_none _ _⟩
   | bl b=>cases e2;exact⟨SeqAt.EqAt.str_bool _ _ _,SeqAt.RcAt.str_bool _ _ _,SeqAt.RcNeAt.str_bool _ _ _⟩
   | int b=>obtain⟨t,rfl⟩:=e2;exact⟨ACj _ _ _ _,SeqAt.RcAt.str_int _ _ _ _,SeqAt.RcNeAt.str_int _ _ _ _⟩
   | str b=>obtain⟨t,rfl⟩:=e2;exact⟨ADM _ _ _ _,SeqAt.RcAt.str_str _ _ _ _,SeqAt.RcNeAt.str_str _ _ _ _⟩
  | @tup a vs ds hq r =>
   cases e1
   obtain⟨its,rr,pl,ll⟩:=tupAt hq r
   cases r2 with
   | ty b=>simp[okD]at o2
   | non=>cases e2;exact⟨SeqAt.EqAt.tuple_none pl hu0,SeqAt.RcAt.tuple_none pl hu0,SeqAt.RcNeAt.tuple_none pl hu0⟩
   | bl b=>cases e2;exact⟨SeqAt.EqAt.tuple_bool _ pl hu0,SeqAt.RcAt.tuple_bool _ pl hu0,SeqAt.RcNeAt.tuple_bool _ pl hu0⟩
   | int b=>obtain⟨t,rfl⟩:=e2;exact⟨SeqAt.EqAt.tuple_int _ _ pl hu0,SeqAt.RcAt.tuple_int _ _ pl hu0,SeqAt.RcNeAt.tuple_int _ _ pl hu0⟩
   | str b=>obtain⟨t,rfl⟩:=e2;exact⟨SeqAt.EqAt.tuple_str _ _ pl hu0,SeqAt.RcAt.tuple_str _ _ pl hu0,SeqAt.RcNeAt.tuple_str _ _ pl hu0⟩
   | ref e=>cases e2;obtain⟨mo,hm,vs',its',r',rr',pl',_⟩:=lstAt e o2;exact⟨SeqAt.EqAt.tuple_list pl pl' hu0,SeqAt.RcAt.tuple_list pl pl' hu0,SeqAt.RcNeAt.tuple_list pl pl' hu0⟩
   | @tup b ws es hq' r' =>
    cases e2
    obtain⟨jts,rr',pl',ll'⟩:=tupAt hq' r'
    have ok1:ds.all (okD M n)=true:=by simpa [okD]using o1
    have ok2:es.all (okD M n)=true:=by simpa [okD]using o2
    have key:((AAn (min its.toArray.size jts.toArray.size)).all (λj=>eqD M n (ds.getD j .non) (es.getD j .non))&&its.toArray.size==jts.toArray.size)=eqL (eqD M n) ds es:=by
     rw[AAC,AAC]
     by_cases hl:ds.length=es.length
     ·rw[<-ll,<-ll',<-hl,Nat.min_self,rng ds es hl]
      simp
     ·rw[vt hl,<-ll,<-ll']
      simp[hl]
    have h1:=SeqAt.RcAt.tuples pl pl' hu0 (items r rr r' rr' ok1 ok2)
    have h2:=SeqAt.RcNeAt.tuples pl pl' hu0 (items r rr r' rr' ok1 ok2)
    rw[key]at h1 h2
    exact fin (.tup hq r) (.tup hq' r') rfl h1 h2
  | @ref i a e =>
   cases e1
   obtain⟨mo,hm,vs,its,r,rr,pl,ll⟩:=lstAt e o1
   cases r2 with
   | ty b=>simp[okD]at o2
   | non=>cases e2;exact⟨SeqAt.EqAt.list_none pl hu0,SeqAt.RcAt.list_none pl hu0,SeqAt.RcNeAt.list_none pl hu0⟩
   | bl b=>cases e2;exact⟨SeqAt.EqAt.list_bool _ pl hu0,SeqAt.RcAt.list_bool _ pl hu0,SeqAt.RcNeAt.list_bool _ pl hu0⟩
   | int b=>obtain⟨t,rfl⟩:=e2;exact⟨SeqAt.EqAt.list_int _ _ pl hu0,SeqAt.RcAt.list_int _ _ pl hu0,SeqAt.RcNeAt.list_int _ _ pl hu0⟩
   | str b=>obtain⟨t,rfl⟩:=e2;exact⟨SeqAt.EqAt.list_str _ _ pl hu0,SeqAt.RcAt.list_str _ _ pl hu0,SeqAt.RcNeAt.list_str _ _ pl hu0⟩
   | tup hq' r'=>cases e2;obtain⟨its',rr',pl',_⟩:=tupAt hq' r';exact⟨SeqAt.EqAt.list_tuple pl pl' hu0,SeqAt.RcAt.list_tuple pl pl' hu0,SeqAt.RcNeAt.list_tuple pl pl' hu0⟩
   | @ref j b e' =>
    cases e2
    obtain⟨mo',hm',ws,jts,r',rr',pl',ll'⟩:=lstAt e' o2
    have ok1:mo.items.all (okD M n)=true:=(cB hm o1).2
    have ok2:mo'.items.all (okD M n)=true:=(cB hm' o2).2
    have ek:eqD M (n+1) (.ref i) (.ref j)=eqL (eqD M n) mo.items mo'.items:=by simp only[eqD,hm,hm']
    by_cases hl:mo.items.length=mo'.items.length
    ·have hsz:its.toArray.size=jts.toArray.size:=by rw[AAC,AAC,<-ll,<-ll',hl]
     have h1:=SeqAt.RcAt.lists pl pl' hsz hu0 (items r rr r' rr' ok1 ok2)
     have h2:=SeqAt.RcNeAt.lists pl pl' hsz hu0 (items r rr r' rr' ok1 ok2)
     rw[AAC,<-ll,rng _ _ hl]at h1 h2
     exact fin (.ref e) (.ref e') ek h1 h2
    ·have hsz:(its.toArray.size != jts.toArray.size)=true:=by
      rw[AAC,AAC,<-ll,<-ll']
      simpa using hl
     have h1:=SeqAt.RcAt.lists_lengths pl pl' hsz hu0
     have h2:=SeqAt.RcNeAt.lists_lengths pl pl' hsz hu0
     exact fin (.ref e) (.ref e') (ek.trans (vt hl)) h1 h2
noncomputable def eqN:Nat:=30
def qEq:DR2:=λx y M Q=>(okD M eqN x=true/\okD M eqN y=true)/\Q (.bl (eqD M eqN x y)) M
def qNe:DR2:=λx y M Q=>(okD M eqN x=true/\okD M eqN y=true)/\Q (.bl (!eqD M eqN x y)) M
noncomputable def inD(M:Mem)(x:D)(ys:List D):Bool:=ys.any λy=>eqD M eqN y x
def BN(neg:Bool):DR2:=λx y M Q=>match y with
 | .tup ys=>(okD M eqN x=true/\ys.all (okD M eqN)=true)/\Q (.bl (inD M x ys != neg)) M
 | .ref n=>∃ys,am M n ys/\(okD M eqN x=true/\ys.all (okD M eqN)=true)/\Q (.bl (inD M x ys != neg)) M
 | .str z=>match x with
  | .str p=>Q (.bl ((!(Builtin.Str.occurrences z p 0 z.length 1).isEmpty) != neg)) M
  | _=>False
 | _=>False
abbrev qIn:DR2:=BN false
abbrev ka:DR2:=BN true
end
section
variable{X:Cx}
theorem pp(hr:Room k A):A.units+eqN<cLine:=by have:=hr.un;unfold eqN;lia
theorem od_eq(hr:Room k X.A):OpD X (compareOp .Eq) qEq:=by
 rintro pins s σ H vx vy v u R I rx ry ⟨x,y,M,ρ,Q,sm,r1,r2,⟨⟨o1,o2⟩,q⟩,k⟩
 exact(gD I sm eqN X.A x y vx vy v u (pp hr) r1 rx r2 ry o1 o2).2.1 _ _ _ _ (fG I sm k q)
theorem od_ne(hr:Room k X.A):OpD X (compareOp .NotEq) qNe:=by
 rintro pins s σ H vx vy v u R I rx ry ⟨x,y,M,ρ,Q,sm,r1,r2,⟨⟨o1,o2⟩,q⟩,k⟩
 exact(gD I sm eqN X.A x y vx vy v u (pp hr) r1 rx r2 ry o1 o2).2.2 _ _ _ _ (fG I sm k q)
theorem ng{pins:List (Addr×Obj)}{σ:St}{H:Hp}{s:Shared}{ρ:List Addr}{M:Mem}(I:Inv X pins σ H s)(sm:Sim X.K ρ M H):∀(n:Nat) (x y z:D) (v:V),Rep X.K ρ H x v->Rep X.K ρ H y v->okD M n x=true->okD M n y=true->eqD M n x z=eqD M n y z:=by
 have all:∀(n:Nat),(∀(x y z:D) (v:V),Rep X.K ρ H x v->Rep X.K ρ H y v->okD M n x=true->okD M n y=true->eqD M n x z=eqD M n y z) ->
   ∀(xs ys zs:List D) (vs:List V),Reps X.K ρ H xs vs->Reps X.K ρ H ys vs->xs.all (okD M n)=true->ys.all (okD M n)=true->eqL (eqD M n) xs zs=eqL (eqD M n) ys zs:=by
  intro n ih xs
  induction xs with
  | nil=>intro ys zs vs h1 h2 _ _;cases h1;cases h2;rfl
  | cons x xs hi =>
   intro ys zs vs h1 h2 o1 o2
   cases h1 with
   | cons r1 t1 =>
    cases h2 with
    | cons r2 t2 =>
     cases zs with
     | nil=>rfl
     | cons z zs =>
      rw[ABI,AAO]at o1 o2
      rw[eqL,eqL,ih _ _ z _ r1 r2 o1.1 o2.1,hi _ zs _ t1 t2 o1.2 o2.2]
 intro n
 induction n with
 | zero =>
  intro x y z v h1 h2 o1 o2
  cases h1<;>cases h2<;>first | rfl | (cases z<;>rfl)
 | succ n ih =>
  intro x y z v h1 h2 o1 o2
  cases h1 with
  | non=>cases h2;rfl
  | bl b=>cases h2;rfl
  | int b=>cases h2;rfl
  | str b=>cases h2;rfl
  | ty b=>cases h2;rfl
  | @tup a vs ds hq r =>
   cases h2 with
   | tup hq' r' =>
    have e:=I.tuple_inj hq hq'
    subst e
    cases z with
    | tup zs=>exact all n ih _ _ zs _ r r' o1 o2
    | _=>rfl
   | @ref i _ e =>
    exfalso
    obtain⟨its,_,⟨o,e1,e2,_⟩,_⟩:=I.tuple hq
    have hi:i<M.length:=by rw[<-sm.len];exact(AA7.mp e).1
    obtain⟨vs',its',_,_,_,⟨o',n',f1,f2,_⟩⟩:=iD I sm e (AA5 hi) (cB (AA5 hi) o2).1
    rw[e1]at f1;cases f1
    rw[e2]at f2;injection f2 with f3;exact absurd f3 (by decide)
  | @ref i a e =>
   have hi:i<M.length:=by rw[<-sm.len];exact(AA7.mp e).1
   have hm:=AA5 hi
   obtain⟨vs,its,hq,r,rr,pl⟩:=iD I sm e hm (cB hm o1).1
   cases h2 with
   | tup hq' r' =>
    exfalso
    obtain⟨its',_,⟨o,e1,e2,_⟩,_⟩:=I.tuple hq'
    obtain⟨o',n',f1,f2,_⟩:=pl
    rw[e1]at f1;cases f1
    rw[e2]at f2;injection f2 with f3;exact absurd f3 (by decide)
   | @ref j _ e' =>
    have hj:j<M.length:=by rw[<-sm.len];exact(AA7.mp e').1
    have hm':=AA5 hj
    obtain⟨vs',its',hq',r',rr',pl'⟩:=iD I sm e' hm' (cB hm' o2).1
    have ev:vs=vs':=I.list_inj hq hq'
    subst ev
    cases z with
    | ref k =>
     simp only[eqD,hm,hm']
     cases M[k]? with
     | none=>rfl
     | some mo=>exact all n ih _ _ _ _ r r' (cB hm o1).2 (cB hm' o2).2
    | _=>rfl
theorem uY{k:Nat}(hr:Room k X.A){pins:List (Addr×Obj)}{σ:St}{H:Hp}{s:Shared}{ρ:List Addr}{M:Mem}(I:Inv X pins σ H s)(sm:Sim X.K ρ M H){x:D}{vx:V}{v:Value}(r1:Rep X.K ρ H x vx)(rx:aC vx v)(o1:okD M eqN x=true) :
  ∀{ys:List D}{ws:List V}{its:List Value},Reps X.K ρ H ys ws->au ws its->ys.all (okD M eqN)=true->∃e:Value->Bool,(∀u∈its,ABx X.A.in1 s u v (e u))/\its.any e=inD M x ys:=by
 have hu:X.A.in1.units+eqN<cLine:=by have:=hr.un;show X.A.units+1+eqN<cLine;unfold eqN;lia
 intro ys ws its rs vs ok
 classical
 refine⟨λu=>if h:∃d v',Rep X.K ρ H d v'/\aC v' u/\okD M eqN d=true then eqD M eqN h.choose x else false,λu hm=>?_,?_⟩
 ·obtain⟨j,hj,ej⟩:=List.getElem_of_mem hm
  have lj:j<ws.length:=by rw[vs.length];exact hj
  obtain⟨d,hd,rd⟩:=rs.getV (AA5 lj)
  obtain⟨u',hu',ru⟩:=eX vs (AA5 lj)
  have:u'=u:=by rw[AA5 hj]at hu';cases hu';exact ej
  subst this
  have okd:=AAW.mp ok _ (AAe hd)
  have h:∃d v',Rep X.K ρ H d v'/\aC v' u'/\okD M eqN d=true:=⟨d,_,rd,ru,okd⟩
  show ABx X.A.in1 s u' v (if h:_ then _ else _)
  rw[dif_pos h]
  obtain⟨v',p1,p2,p3⟩:=h.choose_spec
  have ev:=aC.inj p2 ru
  subst ev
  rw[ng I sm eqN _ d x _ p1 rd p3 okd]
  exact(gD I sm eqN X.A.in1 d x _ vx _ v hu rd ru r1 rx (AAW.mp ok _ (AAe hd)) o1).1
 ·clear hu o1
  unfold inD
  induction ys generalizing ws its with
  | nil=>cases rs;cases vs;rfl
  | cons d ds ih =>
   cases rs with
   | cons r t =>
   cases vs with
   | cons q t' =>
    rename_i v' vs' u us
    rw[ABI,AAO]at ok
    have h:∃d v',Rep X.K ρ H d v'/\aC v' u/\okD M eqN d=true:=⟨d,_,r,q,ok.1⟩
    rw[List.any_cons,List.any_cons,ih t t' ok.2,dif_pos h]
    obtain⟨v2,p1,p2,p3⟩:=h.choose_spec
    have ev:=aC.inj p2 q
    subst ev
    rw[ng I sm eqN _ d x _ p1 r p3 ok.1]
theorem yk(neg:Bool)(hr:Room k X.A):OpD X (compareOp (if neg then .NotIn else .In)) (BN neg):=by
 rintro pins s σ H vx vy v u R I rx ry ⟨x,y,M,ρ,Q,sm,r1,r2,q,k⟩
 cases r2 with
 | non=>exact q.elim
 | bl b=>exact q.elim
 | int b=>exact q.elim
 | ty b=>exact q.elim
 | str z =>
  cases r1 with
  | str p =>
   obtain⟨t,rfl⟩:=rx
   obtain⟨t',rfl⟩:=ry
   cases neg with
   | false=>exact in_str (fG I sm k (by simpa [BN]using q))
   | true=>exact notIn_str (fG I sm k (by simpa [BN]using q))
  | _=>exact q.elim
 | @tup a ws ys hq r =>
  cases ry
  obtain⟨⟨o1,o2⟩,q⟩:=(show (okD M eqN x=true/\_)/\_ from q)
  obtain⟨its,rr,pl,hz⟩:=I.tuple hq
  obtain⟨e,he,ee⟩:=uY hr I sm r1 rx o1 r rr o2
  have ea:its.toArray.any e=inD M x ys:=by rw[<-ee];simp
  cases neg with
  | false=>exact SeqAt.in_tupleAt e pl (λw hw=>he w (by simpa using hw)) (by rw[ea];exact fG I sm k (by simpa using q))
  | true=>exact SeqAt.notIn_tupleAt e pl (λw hw=>he w (by simpa using hw)) (by rw[ea];exact fG I sm k (by simpa using q))
 | ref h =>
  cases ry
  obtain⟨ys,hL,⟨o1,o2⟩,q⟩:=(show ∃ys,am M _ ys/\(okD M eqN x=true/\_)/\_ from q)
  obtain⟨ws,hq,r⟩:=am.seq sm hL h
  obtain⟨its,rr,pl,hz⟩:=I.list hq
  obtain⟨e,he,ee⟩:=uY hr I sm r1 rx o1 r rr o2
  have ea:its.toArray.any e=inD M x ys:=by rw[<-ee];simp
  cases neg with
  | false=>exact SeqAt.in_listAt e pl.isList (λw hw=>he w (by simpa using hw)) (by rw[ea];exact fG I sm k (by simpa using q))
  | true=>exact SeqAt.notIn_listAt e pl.isList (λw hw=>he w (by simpa using hw)) (by rw[ea];exact fG I sm k (by simpa using q))
theorem od_in(hr:Room k X.A):OpD X (compareOp .In) qIn:=yk false hr
theorem wQ(hr:Room k X.A):OpD X (compareOp .NotIn) ka:=yk true hr
end
theorem EB:bootBuiltins "len" = some (.builtin "len"):=by decide +kernel
theorem cS:bootBuiltins "isinstance" = some (.builtin "isinstance"):=by decide +kernel
theorem nK:bootBuiltins "sorted" = some (.builtin "sorted"):=by decide +kernel
theorem AO:bootBuiltins "list" = some (.type "list"):=by decide +kernel
theorem xX:bootBuiltins "tuple" = some (.type "tuple"):=by decide +kernel
noncomputable def visB(sc:Scope)(x:Str):Bool:=match sc.names.lookup x with
 | some .local=>true
 | some .cell=>true
 | some .free=>true
 | _=>false
theorem Bl(h:visB sc x=true):Vis sc x:=by
 unfold visB at h
 unfold Vis
 split at h
 ·rename_i e;exact .inl e
 ·rename_i e;exact .inr (.inl e)
 ·rename_i e;exact .inr (.inr e)
 ·cases h
noncomputable def AY(sc:Scope)(x:Str):Bool:=match sc.names.lookup x with
 | some .local=>true
 | some .cell=>true
 | _=>false
theorem uC(h:AY sc x=true):Loc sc x:=by
 unfold AY at h
 unfold Loc
 split at h
 ·rename_i e;exact .inl e
 ·rename_i e;exact .inr e
 ·cases h
structure HE(X:Cx)(e:Expr)(t:DTE):Prop where
 ok:DE X e t
structure HT(X:Cx)(e:Expr)(t:DTT):Prop where
 ok:DT X e t
structure HW(X:Cx)(e:Expr)(t:DTT):Prop where
 ok:DW X e t
structure HA(X:Cx)(es:List Expr)(t:DTA):Prop where
 ok:DA X es t
structure HS(X:Cx)(e:Stmt)(t:DTS):Prop where
 ok:DS X e t
structure HB(X:Cx)(e:List Stmt)(t:DTS):Prop where
 ok:DSs X e t
structure HG(X:Cx)(e:Expr)(t:DTG):Prop where
 ok:DG X e t
structure HI(X:Cx)(tg e:Expr)(t:DTI):Prop where
 ok:DI X tg e t
structure HTs(X:Cx)(e:List Expr)(t:DTT):Prop where
 ok:PTs X e (lowT X.K t)
structure HO'(X:Cx)(e:Option Expr)(t:DTO):Prop where
 ok:PO X e (CD X.K t)
structure HOp(X:Cx)(f:Value->Value->Sem Value)(r:DR2):Prop where
 ok:OpD X f r
structure HUn(X:Cx)(f:Value->Sem Value)(r:DR1):Prop where
 ok:UnD X f r
structure HC(X:Cx)(f:Value)(r:DRA):Prop where
 ok:nM X f r
structure HMs(X:Cx)(name:Str)(r:Str->DRA):Prop where
 ok:∃id,Slot "str" name id/\typeOf (.builtin id)=pure (.type "method_descriptor")/\MtR X id (lowMs X.K r)
structure HMl(X:Cx)(name:Str)(r:Nat->DRA):Prop where
 ok:∃id,Slot "list" name id/\typeOf (.builtin id)=pure (.type "method_descriptor")/\MtR X id (jx X.K r)
section
variable{X:Cx}{e a b c o:Expr}{es ax:List Expr}{te ta tb tc to:DTE}{t:DTA}{pos p:Pos}{x:Str}{tA tB:DTT}{k:Nat}
theorem k_var(hN:X.N[i]?=some x:=by kernel_rfl)(hv:visB X.env.scope x=true:=by kernel_rfl)(hd:(x==("__debug__":Str))=false:=by kernel_rfl)
  (hcd:(x==("__classdict__":Str))=false:=by kernel_rfl):HE X (.Name x pos) (ac i):=⟨d_var hN (Bl hv) hd hcd⟩
theorem k_int:HE X (.Constant (.int i) j pos) (dC (.int i)):=⟨d_int⟩
theorem k_bl:HE X (.Constant (.bool i) j pos) (dC (.bl i)):=⟨d_bl⟩
theorem k_non:HE X (.Constant .none j pos) (dC .non):=⟨d_non⟩
theorem k_str:HE X (.Constant (.str i) j pos) (dC (.str i)):=⟨d_str⟩
theorem Df(hm:X.mg x=none)(hv:bootBuiltins x=some (.type T))(hg:X.env.kindOf x=some .globalImplicit:=by kernel_rfl)(hn:(x==("__name__":Str))=false:=by kernel_rfl)(hb:(x==("__debug__":Str))=false:=by kernel_rfl):HE X (.Name x pos) (dC (.ty T)) :=
 ⟨Ep hm hv hg (by simpa using hn) hb⟩
theorem k_op(ho:HOp X (binaryOp op) r)(ha:HE X a ta)(hb:HE X b tb):HE X (.BinOp a op b pos) (dOp r ta tb):=⟨d_op ho.ok ha.ok hb.ok⟩
theorem k_un(ho:HUn X (unaryOp op) r)(ha:HE X a ta):HE X (.UnaryOp op a pos) (dUn r ta):=⟨d_un ho.ok ha.ok⟩
theorem k_cmp(ho:HOp X (compareOp op) r)(ha:HE X a ta)(hb:HE X b tb)(hm:behindInMarks op b=false:=by kernel_rfl):HE X (.Compare a [op] [b] pos) (dOp r ta tb):=⟨d_cmp ho.ok ha.ok hb.ok hm⟩
theorem CO(ho:HOp X (compareOp op) r)(ha:HE X a ta)(hb:HE X b tb)(hm:behindInMarks op b=false:=by kernel_rfl):HT X (.Compare a [op] [b] pos) (aE (dOp r ta tb)):=⟨Ea ho.ok ha.ok hb.ok hm⟩
theorem CM(h:HE X e te)(he:∀whole,isTrue e X.env whole=(do let v <-whole;standAt e.pos;holding [v] (truthy v)):=by intro _;kernel_rfl):HT X e (aE te):=⟨DY h.ok he⟩
theorem zQ(ha:HT X a tA):HW X (.BoolOp .And [a] pos) tA:=⟨Aw ha.ok⟩
theorem CI(ha:HT X a tA):HW X (.BoolOp .Or [a] pos) tA:=⟨DU ha.ok⟩
theorem yp(ha:HT X a tA)(hb:HW X (.BoolOp .And (b::ax) pos) tB):HW X (.BoolOp .And (a::b::ax) pos) (Bc tA tB):=⟨DV ha.ok hb.ok⟩
theorem CJ(ha:HT X a tA)(hb:HW X (.BoolOp .Or (b::ax) pos) tB):HW X (.BoolOp .Or (a::b::ax) pos) (dOr tA tB):=⟨dw_or ha.ok hb.ok⟩
theorem kw_t(h:HW X e tA):HT X e tA:=⟨dw_t h.ok⟩
theorem CN(ha:HT X a tA):HT X (.UnaryOp .Not a pos) (Bb tA):=⟨DZ ha.ok⟩
theorem k_one{op}(h:HE X a ta):HE X (.BoolOp op [a] pos) ta:=⟨d_one h.ok⟩
theorem k_and(ha:HE X a ta)(hb:HE X (.BoolOp .And (b::ax) pos) tb):HE X (.BoolOp .And (a::b::ax) pos) (vI ta tb):=⟨d_and ha.ok hb.ok⟩
theorem k_or(ha:HE X a ta)(hb:HE X (.BoolOp .Or (b::ax) pos) tb):HE X (.BoolOp .Or (a::b::ax) pos) (dOrV ta tb):=⟨d_or ha.ok hb.ok⟩
theorem De:HA X [] ah:=⟨Eo⟩
theorem Ac(ha:HE X e te)(hr:HA X es t)(hs:starEach (e::es) X.env=(false,eval e X.env)::starEach es X.env:=by kernel_rfl):HA X (e::es) (aa te t):=⟨AH ha.ok hr.ok hs⟩
theorem k_tup{x1}(h:HA X es t):HE X (.Tuple es x1 pos) (gG t):=⟨d_tup h.ok⟩
theorem k_lst(h:HA X es t):HE X (.List es pos) (fI t):=⟨d_lst h.ok⟩
theorem Af{id:String}{r:DRA}(hc:HC X (.builtin id) r)(hm:X.mg x=none)(hv:bootBuiltins x=some (.builtin id))(ha:HA X (e::es) t)(hg:X.env.kindOf x=some .globalImplicit:=by kernel_rfl)(hn:(x==("__name__":Str))=false:=by kernel_rfl)(hdb:(x==("__debug__":Str))=false:=by kernel_rfl)
  (he:starEach (e::es) X.env=(false,eval e X.env)::starEach es X.env:=by kernel_rfl) (hpl:(backTo pos (starEach es X.env)).any (·.1)=false:=by kernel_rfl):HE X (.Call (.Name x p) (e::es) [] pos) (dCB r t):=⟨AJ hc.ok hm hv ha.ok hg (by simpa using hn) hdb he hpl⟩
theorem xt(hc:HC X (.type T) r)(hm:X.mg x=none)(hv:bootBuiltins x=some (.type T))(ha:HA X (e::es) t)(hg:X.env.kindOf x=some .globalImplicit:=by kernel_rfl)(hn:(x==("__name__":Str))=false:=by kernel_rfl)(hdb:(x==("__debug__":Str))=false:=by kernel_rfl)
  (he:starEach (e::es) X.env=(false,eval e X.env)::starEach es X.env:=by kernel_rfl) (hpl:(backTo pos (starEach es X.env)).any (·.1)=false:=by kernel_rfl):HE X (.Call (.Name x p) (e::es) [] pos) (dCB r t):=⟨xR hc.ok hm hv ha.ok hg (by simpa using hn) hdb he hpl⟩
theorem k_cal(C:Cal X.prog X.w X.K X.mg X.base j x ps P)(hr:Room k X.A)(ha:HA X (e::es) t)(hj:Nat.ble j k=true:=by kernel_rfl)
  (hg:X.env.kindOf x=some .globalImplicit:=by kernel_rfl) (hdb:(x==("__debug__":Str))=false:=by kernel_rfl) (he:starEach (e::es) X.env=(false,eval e X.env)::starEach es X.env:=by kernel_rfl) (hpl:(backTo pos (starEach es X.env)).any (·.1)=false:=by kernel_rfl) :
  HE X (.Call (.Name x p) (e::es) [] pos) (dCB P t):=⟨d_cal C hr ha.ok (Nat.le_of_ble_eq_true hj) hg hdb he hpl⟩
theorem k_ix(ha:HE X a ta)(hb:HE X b tb)(hs:pe b:=by intro _ _;kernel_rfl):HE X (.Subscript a b pos) (dOp qIx ta tb):=⟨d_ix ha.ok hb.ok hs⟩
theorem zY:HO' X none bT:=⟨AD⟩
theorem zX(h:HE X e te):HO' X (some e) (fZ te):=⟨AC h.ok⟩
theorem Ae{lo hi:Option Expr}{tl th:DTO}{p2:Pos}(he:HE X e te)(hl:HO' X lo tl)(hu:HO' X hi th):HE X (.Subscript e (.Slice lo hi none p2) pos) (dSl te tl th):=⟨AI he.ok hl.ok hu.ok⟩
variable{name:Str}{apos cpos:Pos}
theorem k_ml(hm:HMl X name r)(ho:HE X o to)(ha:HA X (e::es) t)
  (hbase:attributeBase o name X.env (eval o X.env)=eval o X.env:=by kernel_rfl)
  (hfew:((backTo cpos (starEach (e::es) X.env)).all (λx=>!x.1)&&(backToKw cpos (keywordEach [] X.env)).all (λx=>x.1.isSome)
   && decide ((e::es).length+([]:List Keyword).length+(if ([]:List Keyword).isEmpty then 0 else 1)<30))=true:=by kernel_rfl)
  (hline:(apos.endLine==cpos.line)=true:=by kernel_rfl) (hs:starEach (e::es) X.env=(false,eval e X.env)::starEach es X.env:=by kernel_rfl) (hplain:(backTo cpos (starEach es X.env)).any (·.1)=false:=by kernel_rfl) :
  HE X (.Call (.Attribute o name apos) (e::es) [] cpos) (dMl r to t):=let ⟨_,h1,h2,h3⟩:=hm.ok;⟨d_ml h1 h2 h3 ho.ok ha.ok hbase hfew hline hs hplain⟩
variable{st:Stmt}{sts:List Stmt}{ts us:DTS}{aS bS:List Stmt}
theorem CQ:HB X [] aZ:=⟨Ee⟩
theorem CP(h:HS X st ts):HB X [st] ts:=⟨Ed h.ok⟩
theorem zW(h1:HS X st ts)(h2:HB X sts us):HB X (st::sts) (aA ts us):=⟨AB h1.ok h2.ok⟩
theorem uO(he:HE X e te)(hs:swapsWith e none pos.line X.env=pure false:=by kernel_rfl):HS X (.Expr e pos) (gc te):=⟨AA he.ok hs⟩
theorem yt(he:HE X e te):HS X (.Return (some e) pos) (bA te):=⟨Ec he.ok⟩
theorem CS(hc:HT X c tA)(ha:HB X aS ts)(hb:HB X bS us):HS X (.If c aS bS pos) (dIf tA ts us):=⟨ds_if hc.ok ha.ok hb.ok⟩
theorem yr(hN:X.N.Nodup)(he:HE X e te)(hi:X.N[i]?=some x:=by kernel_rfl)(hx:AY X.env.scope x=true:=by kernel_rfl)(hs:swapsWith e (some (.Name x pos')) pos.line X.env=pure false:=by kernel_rfl)
  (hf:X.fn x=true:=by kernel_rfl):HS X (.Assign [.Name x pos'] e pos) (aW te i):=⟨Eb hN he.ok hi (uC hx) hs (.inl hf)⟩
theorem Ab(hN:X.N.Nodup)(hi:X.N[i]?=some x:=by kernel_rfl)(hx:AY X.env.scope x=true:=by kernel_rfl)(hf:X.fn x=true:=by kernel_rfl):HG X (.Name x pos) (aw i):=⟨oW hN hi (uC hx) (.inl hf)⟩
theorem CY(hN:X.N.Nodup)(hi:X.N[i]?=some x:=by kernel_rfl)(hf:X.env.scope.names.lookup x=some .local:=by kernel_rfl):HG X (.Name x pos) (aw i):=⟨oW hN hi (.inl hf) (.inr hf)⟩
variable{tg iter:Expr}{di:DTI}{g:DTG}
theorem CT(h:HE X e te):HI X tg e (cw te):=⟨Ei h.ok⟩
theorem yu{body:List Stmt}{tb:DTS}(hi:HI X tg iter di)(hg:HG X tg g)(hb:HB X body tb)(hp:PassesOwn (model X.prog X.w) X.A X.env X.xe:=by exact PassesOwn.never)(hc:X.calm=true:=by kernel_rfl)
  (hs:∀x,foldedSetIterable iter X.env x=pure x:=by intro _;kernel_rfl):HS X (.For tg iter body [] pos) (kt di g tb):=⟨Ef hi.ok hg.ok hb.ok hp hc hs⟩
theorem zU:HTs X [] se:=⟨Ay⟩
theorem zT(h:HT X c tA):HTs X [c] tA:=⟨Ax h.ok⟩
theorem k_lc(hi:HI X tg iter di)
  (hg:∀cl s0 H0 ex,HG (blk X N' scope cl s0 H0 ex) tg g) (ht:∀cl s0 H0 ex,HTs (blk X N' scope cl s0 H0 ex) ifs tt) (he:∀cl s0 H0 ex,HE (blk X N' scope cl s0 H0 ex) elt te) (B:kz X.env.scope.names X.N N' nt js scope=true:=by kernel_rfl) (hc:X.calm=true:=by kernel_rfl)
  (hs:∀x,foldedSetIterable iter X.env x=pure x:=by intro _;kernel_rfl):HE X (.ListComp elt [⟨tg,iter,ifs,0⟩] scope pos) (dLC nt js di g tt te):=⟨d_lc (BlkSc.chk B) hi.ok (λcl s0 H0 ex=>(hg cl s0 H0 ex).ok) (λcl s0 H0 ex=>(ht cl s0 H0 ex).ok) (λcl s0 H0 ex=>(he cl s0 H0 ex).ok) hc hs⟩
theorem uT(hm:X.mg "range" = none)(ha:HA X [a] t)(hg:X.env.kindOf "range" = some .globalImplicit:=by kernel_rfl)(hs:starEach [a] X.env=[(false,eval a X.env)]:=by kernel_rfl):HI X tg (.Call (.Name "range" p) [a] [] pos) (cu t):=⟨vD hm ha.ok hg hs⟩
theorem uS(hm:X.mg "range" = none)(ha:HA X [a,b] t)(hg:X.env.kindOf "range" = some .globalImplicit:=by kernel_rfl)(hs:starEach [a,b] X.env=[(false,eval a X.env),(false,eval b X.env)]:=by kernel_rfl)(hs2:starEach [b] X.env=[(false,eval b X.env)]:=by kernel_rfl) :
  HI X tg (.Call (.Name "range" p) [a,b] [] pos) (lG t):=⟨vC hm ha.ok hg hs hs2⟩
theorem Dt:HOp X (binaryOp .Sub) BH:=⟨Cr⟩
theorem Dw:HOp X (binaryOp .Mult) kI:=⟨zD⟩
theorem Am:HOp X (binaryOp .FloorDiv) oh:=⟨zE⟩
theorem Dx:HOp X (binaryOp .Mod) tW:=⟨Cu⟩
theorem ho_lt:HOp X (compareOp .Lt) qLt:=⟨od_lt⟩
theorem ho_gt:HOp X (compareOp .Gt) qGt:=⟨od_gt⟩
theorem ho_is:HOp X (compareOp .Is) qIs:=⟨od_is⟩
theorem ho_eq(hr:Room k X.A):HOp X (compareOp .Eq) qEq:=⟨od_eq hr⟩
theorem ho_ne(hr:Room k X.A):HOp X (compareOp .NotEq) qNe:=⟨od_ne hr⟩
theorem ho_in(hr:Room k X.A):HOp X (compareOp .In) qIn:=⟨od_in hr⟩
theorem xy(hr:Room k X.A):HOp X (compareOp .NotIn) ka:=⟨wQ hr⟩
theorem Ds:HUn X (unaryOp .USub) BJ:=⟨Bn⟩
theorem DC:HC X (.builtin "len") lP:=⟨Ey⟩
theorem DF:HC X (.builtin "isinstance") BK:=⟨Ez⟩
theorem vb:HMl X "append" bQ:=⟨_,PySem.F.slot_list_append,PySem.F.type_list_append,rD⟩
end
theorem Cal.byH{P:Program}{w:World}{K:AA3}{mg:Str->Option Value}{base:Heap}{x:Str}{st:Stmt}{N ps:List Str}{k:Nat}{Pr:DSp}(F:cU K mg x st ps)(Sc:FnScope N ps (ak st))
  (len:∀ds M R,Pr ds M R->ds.length=ps.length) {t:DTS}
  (der:∀(f:Addr) (cdv:Value) (A:Around) (outer:List Env) (s:Shared) (H:Hp) (E:XK),Room k (A.deeper (envOfC x (ak st) s.heap.objs.size f cdv))->HB (jq CX0 P w K mg base N x (ak st) f cdv A outer s H E).nox (bc st) t)
  (wp:∀ds M R,Pr ds M R->t ⟨λ_ M'=>bu M R .non M',bu M R,λ_ _=>False,λ_ _=>False⟩ (bj N ds) M):Cal P w K mg base (k+1) x ps Pr :=
 Cal.of F Sc len (λf cdv A outer s H E hr=>(der f cdv A outer s H E hr).ok) wp
theorem xD{P:Program}{w:World}{K:AA3}{mg:Str->Option Value}{base:Heap}{x:Str}{st:Stmt}{N ps:List Str}{k:Nat}{Pr:DSp}{f:Addr}{fd:FuncData}(F:Fun K x x st f fd)(Sc:FnScope N ps (ak st))
  (len:∀ds M R,Pr ds M R->ds.length=ps.length) {t:DTS}
  (der:∀(f:Addr) (cdv:Value) (A:Around) (outer:List Env) (s:Shared) (H:Hp) (E:XK),Room k (A.deeper (envOfC x (ak st) s.heap.objs.size f cdv))->HB (jq CX0 P w K mg base N x (ak st) f cdv A outer s H E).nox (bc st) t)
  (wp:∀ds M R,Pr ds M R->t ⟨λ_ M'=>bu M R .non M',bu M R,λ_ _=>False,λ_ _=>False⟩ (bj N ds) M):FnOk P w K mg base CX0 (k+1) f fd ps (spL K Pr) :=
 Ar F Sc len (λf cdv A outer s H E hr=>(der f cdv A outer s H E hr).ok) wp
section
variable{ok:Mem->Prop}{g:DTG}{tb:DTS}{E:DEnds}{k0:Mem}
theorem gZ(I:List D->SD->Mem->Prop)(h0:∀S M,I [] S M->ok M/\E.nx S M)
  (h1:∀x xs S M,I (x::xs) S M->∀L:SD->Mem->Prop,(∀S' M',I xs S' M'->L S' M')->ok M/\g x S M λS2 M2=>tb ⟨Fgt k0 L,E.rt,E.nx,Fgt k0 L⟩ S2 M2) :
  ∀xs S M,I xs S M->nB ok g tb E k0 xs S M
 | [],S,M,h=>h0 S M h
 | x::xs,S,M,h=>h1 x xs S M h _ (gZ I h0 h1 xs)
theorem aU(I:Nat->SD->Mem->Prop)(h0:∀S M,I xs.length S M->ok M/\E.nx S M)
  (h1:∀i x S M,xs[i]?=some x->I i S M->∀L:SD->Mem->Prop,(∀S' M',I (i+1) S' M'->L S' M')->ok M/\g x S M λS2 M2=>tb ⟨Fgt k0 L,E.rt,E.nx,Fgt k0 L⟩ S2 M2)
 (h:I 0 S M):nB ok g tb E k0 xs S M:=by
 refine gZ (λys S M=>∃i,xs.drop i=ys/\i+ys.length=xs.length/\I i S M) ?_ ?_ xs S M ⟨0,rfl,by simp,h⟩
 ·rintro S M ⟨i,_,e,q⟩
  have:i=xs.length:=by simpa using e
  subst this
  exact h0 S M q
 ·rintro x ys S M ⟨i,e,el,q⟩ L hL
  have hx:xs[i]?=some x:=by
   have:(xs.drop i)[0]?=some x:=by rw[e];rfl
   simpa using this
  refine h1 i x S M hx q L λS' M' q'=>hL S' M' ⟨i+1,?_,by simp at el;lia,q'⟩
  rw[<-List.drop_drop,e]
  rfl
theorem Fgt.now(h:P S M):Fgt k0 P S M:=.inl h
theorem dN{lo:Int}{n i:Nat}{x:D}:(nN lo n)[i]?=some x↔i<n/\x=.int (lo+(i:Int)):=by
 unfold nN
 rw[AAV]
 by_cases h:i<n
 ·simp[h,eq_comm]
 ·simp[h]
theorem fi{lo:Int}{n:Nat}:(nN lo n).length=n:=by simp[nN]
end
theorem bL(p:D->Bool)(f:D->D)(I:SD->Prop)(hok:ok M) :
  ∀(xs acc:List D) (S:SD),(∀x∈xs,∀S,I S->∃S',I S'/\∀(Y:D->SD->Mem->Prop) (Z:SD->Mem->Prop),(if p x=true then Y (f x) S' M else Z S' M) ->
    g x S M λS2 M2=>tt S2 M2 λb M3=>if b=true then te S2 M3 λy M4=>Y y S2 M4 else Z S2 M3) ->
   I S->acc.length+xs.length<=sizeLine->Q (.ref M.length) (M++[.lst (acc++(xs.filter p).map f)])->jA ok g tt te Q xs acc S M
 | [],acc,S,_,_,_,q=>⟨hok,by simpa using q⟩
 | x::xs,acc,S,step,hS,hl,q=>by
  obtain⟨S',hS',k⟩:=step x AAG S hS
  refine⟨hok,k (λy S2 M4=>acc.length<sizeLine/\jA ok g tt te Q xs (acc++[y]) S2 M4) (λS2 M3=>jA ok g tt te Q xs acc S2 M3) ?_⟩
  have step':=λy hy=>step y (AA9 _ hy)
  rw[AAI]at hl
  by_cases hp:p x=true
  ·rw[if_pos hp]
   refine⟨by lia,bL p f I hok xs _ S' step' hS' (by rw[AAA,AAX];lia) ?_⟩
   rw[List.filter_cons_of_pos hp,AAf]at q
   rw[AAs]
   exact q
  ·rw[if_neg hp]
   refine bL p f I hok xs acc S' step' hS' (by lia) ?_
   rw[List.filter_cons_of_neg hp]at q
   exact q
theorem bU(f:D->D)(I:SD->Prop)(hok:ok M)
  (xs acc:List D) (S:SD) (step:∀x∈xs,∀S,I S->∃S',I S'/\∀(Y:D->SD->Mem->Prop),Y (f x) S' M->g x S M λS2 M2=>te S2 M2 λy M4=>Y y S2 M4)
  (hS:I S) (hl:acc.length+xs.length<=sizeLine) (q:Q (.ref M.length) (M++[.lst (acc++xs.map f)])):jA ok g se te Q xs acc S M:=by
 refine bL (λ_=>true) f I hok xs acc S (λx hx S hS=>?_) hS hl (by rw[List.filter_eq_self.mpr λ_ _=>rfl];exact q)
 obtain⟨S',hS',k⟩:=step x hx S hS
 refine⟨S',hS',λY Z h=>?_⟩
 rw[if_pos rfl]at h
 have:=k Y h
 simp only[se,if_true]
 exact this
theorem af:(M++[mo])[M.length]?=some mo:=by simp
theorem aX:am (M++[.lst xs]) M.length xs:=.inl af
theorem am.more(h:am M n xs)(L:Mem):am (M++L) n xs:=by
 have key:∀{mo:MO},M[n]?=some mo->(M++L)[n]?=some mo:=λe=>by
  rw[AAM (AA7.mp e).1];exact e
 rcases h with h | h | h
 ·exact .inl (key h)
 ·exact .inr (.inl (key h))
 ·exact .inr (.inr (key h))
theorem bu.keep(h:R d M)(b:Bel M.length d)(p:M <+: M'):bu M R d M':=.inr (.inl ⟨M,.refl,b,p,h⟩)
theorem bu.now(h:R d M):bu M R d M:=.inl h
theorem bu.bl(h:R (.bl b) M)(p:M <+: M'):bu M R (.bl b) M':=.keep h (.bl b) p
theorem fS:M <+: M++[mo]:=AAb _ _
theorem yQ{a b:Str}(h:a.cps.toList=b.cps.toList):a=b:=by
 cases a;cases b
 simp only[Array.toList_inj]at h
 simpa using h
theorem jb{a:Str}:a.length=a.cps.toList.length:=by show a.cps.size=_;simp
theorem AR{a b:Str}:(a++b).cps.toList=a.cps.toList++b.cps.toList:=by
 show (a.cps++b.cps).toList=_
 simp
theorem bo{a b:Str}:(a++b).length=a.length+b.length:=by
 rw[jb,jb,jb,AR,AAA]
theorem ao(h:n<=1000):n<=sizeLine:=ACA (aF h)
theorem eJ{α:Type}{xs:List α}{i:Int}(h0:0<=i)(h1:i<xs.length):∃(j:Nat) (hj:j<xs.length),atI xs i=some xs[j]/\(j:Int)=i:=by
 have hj:i.toNat<xs.length:=by lia
 refine⟨i.toNat,hj,?_,by lia⟩
 have e:i=((i.toNat:Nat):Int):=by lia
 have q:atI xs ((i.toNat:Nat):Int)=some xs[i.toNat]:=az (AA5 hj)
 rw[<-e]at q
 exact q
section
variable{M:Mem}
theorem am.get(h:am M n xs):∃mo,M[n]?=some mo/\mo.items=xs/\mo.isL=true:=by
 rcases h with h | h | h<;>exact⟨_,h,rfl,rfl⟩
theorem qw(h1:am M i xs)(h2:am M j ys):eqD M (n+1) (.ref i) (.ref j)=eqL (eqD M n) xs ys:=by
 obtain⟨a,ha,rfl,hl1⟩:=h1.get
 obtain⟨b,hb,rfl,hl2⟩:=h2.get
 simp only[eqD,ha,hb]
theorem kT(h1:am M i xs)(h:∀x∈xs,okD M n x=true):okD M (n+1) (.ref i)=true:=by
 obtain⟨a,ha,rfl,hl1⟩:=h1.get
 simp only[okD,ha,hl1,Bool.true_and]
 exact AAW.mpr h
theorem zB(h:∀x∈xs,okD M n x=true):okD M (n+1) (.tup xs)=true:=by
 simp only[okD]
 exact AAW.mpr h
theorem aI:okD M n (.str x)=true:=by cases n<;>rfl
theorem kU:okD M n (.int x)=true:=by cases n<;>rfl
theorem yj:okD M n (.bl x)=true:=by cases n<;>rfl
theorem ur:okD M n .non=true:=by cases n<;>rfl
theorem Au:eqL f xs []=xs.isEmpty:=by cases xs<;>rfl
theorem jk:eqD M n (.int a) (.int b)=(a==b):=by cases n<;>rfl
theorem bG:eqD M n (.str a) (.str b)=(a==b):=by cases n<;>rfl
end
section
variable{X:Cx}{pos:Pos}
def nA:yF:=λds S M Q=>match ds with
 | []=>Q S M
 | _=>False
def cD(t:DTG)(u:yF):yF:=λds S M Q=>match ds with
 | d::r=>t d S M λS' M'=>u r S' M' Q
 | []=>False
def ny(n:Nat)(t:yF):DTG:=λd S M Q=>match d with
 | .tup ds=>ds.length=n/\t ds S M Q
 | _=>False
theorem AE:DGs X [] nA:=by
 rintro pins s σ H vs us R I r ⟨ds,S,M,ρ,Q,sm,sr,rr,q,k⟩
 cases rr with
 | nil=>exact zm pins s σ H _ us R I r ⟨rfl,k σ H ⟨S,M,ρ,sm,.refl,sr,q⟩⟩
 | cons _ _=>exact q.elim
theorem xO(h1:DG X e t)(h2:DGs X es u)
  (hs:(assignEach (e::es) X.env).map (·.2)=assign e X.env::(assignEach es X.env).map (·.2):=by rfl):DGs X (e::es) (cD t u):=by
 rintro pins s σ H vs us R I r ⟨ds,S,M,ρ,Q,sm,sr,rr,q,k⟩
 cases rr with
 | nil=>exact q.elim
 | cons r1 rr =>
  refine wG h1 h2 hs pins s σ H _ us R I r ⟨_,_,rfl,_,S,M,ρ,_,sm,sr,r1,q,?_⟩
  rintro σ1 H1 ⟨S1,M1,ρ1,s1,g1,sr1,q1⟩
  exact⟨_,S1,M1,ρ1,Q,s1,sr1,rr.grow g1,q1,λσ' H' w=>k σ' H' (SQ.trans g1 w)⟩
theorem Ek(h:DGs X es t)(hc:X.calm=true:=by rfl)
  (hn:(assignEach es X.env).length=n:=by rfl) (hst:(assignEach es X.env).findIdx? (·.1)=none:=by rfl):DG X (.Tuple es j pos) (ny n t):=by
 rintro pins s σ H v u R I r ⟨d,S,M,ρ,Q,sm,sr,rd,q,k⟩
 cases rd with
 | tup hq rr=>exact BX hc h hn hst pins s σ H _ u R I r ⟨_,_,rfl,hq,by rw[<-rr.length];exact q.1,_,S,M,ρ,Q,sm,sr,rr,q.2,k⟩
 | _=>exact q.elim
def dAsg(te:DTE)(g:DTG):DTS:=λE S M=>te S M λd M1=>g d S M1 E.nx
theorem Eg(he:DE X e te)(hg:DG X tg g)(hs:swapsWithSole [tg] e pos.line X.env=pure false:=by rfl)(hw:swappedStores [tg] e X.env=pure none:=by rfl)
  (h1:(assignEach [tg] X.env).map (·.2)=[assign tg X.env]:=by rfl):DS X (.Assign [tg] e pos) (dAsg te g):=by
 refine PS.imp (BW he hg hs hw h1) ?_
 rintro E σ H ⟨S,M,ρ,F,s,sr,q,k⟩
 refine⟨S,M,ρ,_,s,sr,q,?_⟩
 rintro v H1 ⟨d,M1,ρ1,s1,g1,r1,q1⟩
 exact⟨d,S,M1,ρ1,_,s1,sr.grow g1,r1,q1,λσ' H' w=>k.nx σ' H' (SQ.trans g1 w)⟩
def qSet:D->D->D->Mem->(Mem->Prop)->Prop:=λo i v M Q=>match o,i with
 | .ref n,.int k=>∃xs j,M[n]?=some (.lst xs)/\ixN xs.length k=some j/\Q (M.set n (.lst (xs.set j v)))
 | _,_=>False
theorem Reps.set{K:AA3}{ρ:List Addr}{H:Hp}{d:D}{v:V}(r:Rep K ρ H d v):∀{ds:List D}{vs:List V} (i:Nat),Reps K ρ H ds vs->Reps K ρ H (ds.set i d) (vs.set i v)
 | _,_,_,.nil=>.nil
 | _,_,0,.cons _ t=>.cons r t
 | _,_,i+1,.cons q t=>.cons q (Reps.set r i t)
def xP(to ti:DTE):DTG:=λv S M Q=>to S M λo M1=>ti S M1 λi M2=>qSet o i v M2 λM3=>Q S M3
theorem El(ho:DE X o to)(hi:DE X i ti)
  (ha:∀v,assign (.Subscript o i pos) X.env v=(do
   let ov <-holding [v] (eval o X.env)
   let iv <-holding [v,ov] (eval i X.env)
   standAt pos
   holding [v,ov,iv] (setItem ov iv v)
   release [v,ov,iv] []):=by intro _;rfl):DG X (.Subscript o i pos) (xP to ti):=by
 rintro pins s σ H v u R I r ⟨d,S,M,ρ,Q,sm,sr,rd,q,k⟩
 refine BY ho hi ww ha pins s σ H v u R I r ⟨S,M,ρ,_,sm,sr,q,?_⟩
 rintro vo H1 ⟨o',M1,ρ1,s1,g1,r1,q1⟩
 refine⟨S,M1,ρ1,_,s1,sr.grow g1,q1,?_⟩
 rintro vi H2 ⟨i',M2,ρ2,s2,g2,r2,q2⟩
 have r1':=r1.grow g2
 cases r1' with
 | @ref n a hn =>
  cases r2 with
  | int j =>
   obtain⟨xs,jj,e,hj,q3⟩:=(show ∃xs j',M2[n]?=some (.lst xs)/\ixN xs.length j=some j'/\Q S (M2.set n (.lst (xs.set j' d)))from q2)
   obtain⟨vs,hH,rr⟩:=s2.obj n a _ hn e
   obtain⟨w1,w2⟩:=s2.write hn e hH (Reps.set (rd.grow (g1.trans g2)) jj rr)
   exact⟨a,vs,j,jj,rfl,rfl,hH,by rw[<-rr.length];exact hj,k σ _ ⟨S,_,ρ2,w1,(g1.trans g2).trans w2,sr.grow ((g1.trans g2).trans w2),q3⟩⟩
  | _=>exact q2.elim
 | _=>exact q2.elim
def fq:DRA:=λds M Q=>match ds with
 | [.ref n]=>∃xs,am M n xs/\Q (.tup xs) M
 | [.tup xs]=>Q (.tup xs) M
 | _=>False
theorem xW:nM X (.type "tuple") fq:=by
 refine eE.imp lI ?_
 rintro vs H R ⟨ds,M,ρ,Q,sm,rs,q,k⟩
 unfold fq at q
 split at q
 ·obtain⟨xs,hL,q⟩:=q
  first | have hzz:=Reps.inv_cons rs | have hzz:=au.inv_cons rs
  clear rs
  obtain⟨_,_,rfl,r1,rs⟩:=hzz
  cases rs
  obtain⟨_,rfl,e⟩:=Rep.inv_ref r1
  obtain⟨ws,hq,r⟩:=am.seq sm hL e
  exact⟨_,ws,rfl,.inl ⟨hq,λl hl=>k _ _ (VQ.laidT sm .refl r hl q)⟩⟩
 ·first | have hzz:=Reps.inv_cons rs | have hzz:=au.inv_cons rs
  clear rs
  obtain⟨_,_,rfl,r1,rs⟩:=hzz
  cases rs
  cases r1 with
  | tup hq r=>exact⟨_,_,rfl,.inr ⟨hq,k _ H (VQ.now sm (.tup hq r) q)⟩⟩
 ·exact q.elim
theorem wL:OpR X (binaryOp .Add) (λx y H Q=>∃a b ys,x=.ref a/\y=.ref b/\SqT X.K H a []/\SqT X.K H b ys/\Q (.ref b) H):=by
 intro pins s σ H x y v u Q I rx ry h
 obtain⟨a,b,ys,rfl,rfl,ha,hb,q⟩:=h
 cases rx
 cases ry
 obtain⟨its,r1,p1,_⟩:=I.tuple ha
 obtain⟨its2,r2,p2,_⟩:=I.tuple hb
 have e:its=[]:=r1.nil_iff.mpr rfl
 subst e
 obtain⟨⟨cls,dd,data,sl⟩,ho,hc,n,hd⟩:=id p1
 obtain⟨⟨cls2,dd2,data2,sl2⟩,ho2,hc2,n2,hd2⟩:=id p2
 simp only at hc hd hc2 hd2
 subst hc hd hc2 hd2
 exact concat_meets ⟨_,ho,rfl⟩ ⟨_,ho2,rfl⟩ noFill_tuple_add seq_tuple_add ADY ADJ (ADB _ _)
  (tuple_addW0 a b _ _ n n2 dd dd2 sl sl2 (by simp)) ⟨ho,ho2,⟨.ref b,H,I,rfl,q⟩⟩
def aO:DR2:=λx y M Q=>match x,y with
 | .tup xs,.tup ys=>xs.length+ys.length<=sizeLine/\Q (.tup (xs++ys)) M
 | _,_=>qAdd x y M Q
theorem zF:OpD X (binaryOp .Add) aO:=by
 rintro pins s σ H vx vy v u R I rx ry ⟨x,y,M,ρ,Q,sm,r1,r2,q,k⟩
 unfold aO at q
 split at q
 ·rename_i xs ys
  obtain⟨a,vs,rfl,h1,t1⟩:=Rep.inv_tup r1
  obtain⟨b,ws,rfl,h2,t2⟩:=Rep.inv_tup r2
  have l1:=t1.length
  have l2:=t2.length
  cases xs with
  | nil =>
   cases t1
   exact wL pins s σ H _ _ v u R I rx ry ⟨a,b,ws,rfl,rfl,h1,h2,k _ H (VQ.now sm (.tup h2 t2) q.2)⟩
  | cons x0 xs0 =>
   refine zy pins s σ H _ _ v u R I rx ry ⟨a,b,vs,ws,rfl,rfl,h1,h2,?_,by rw[<-l1,<-l2];exact q.1,λz=>?_,λ_ p hp=>k _ _ (VQ.laidT sm .refl (t1.append t2) hp q.2)⟩
   ·intro z
    subst z
    simp at l1
   ·subst z
    have:ys=[]:=by simpa using l2
    subst this
    rw[ABC]at q
    exact k _ H (VQ.now sm (.tup h1 t1) q.2)
 ·exact Cw pins s σ H vx vy v u R I rx ry ⟨x,y,M,ρ,Q,sm,r1,r2,q,k⟩
def fR(n:Nat):DRA:=λds M Q=>match ds with
 | [.ref m]=>∃xs ys,M[n]?=some (.lst xs)/\M[m]?=some (.lst ys)/\n≠m/\xs.length+ys.length<=sizeLine/\Q .non (M.set n (.lst (xs++ys)))
 | _=>False
theorem rC:MtR X "list.extend" (jx X.K fR):=by
 rintro pins s σ H x xs v us R I rx rs ⟨n,a,ds,M,ρ,Q,ez,hn,sm,rr,q,k⟩
 unfold fR at q
 split at q
 ·rename_i m
  obtain⟨ys,zs,e,e2,hne,hl,q⟩:=q
  first | have hzz:=Reps.inv_cons rr | have hzz:=au.inv_cons rr
  clear rr
  obtain⟨_,_,rfl,r1,rr⟩:=hzz
  cases rr
  obtain⟨b,rfl,hm⟩:=Rep.inv_ref r1
  obtain⟨vs,hH,r⟩:=sm.obj n a _ hn e
  obtain⟨ws,hH2,r2⟩:=sm.obj m b _ hm e2
  obtain⟨w1,w2⟩:=sm.write hn e hH (r.append r2)
  exact uu pins s σ H x _ v us R I rx rs ⟨a,b,vs,ws,ez,rfl,hH,hH2,by rw[<-r.length,<-r2.length];exact hl,k _ _ ⟨.non,_,ρ,w1,w2,.non,q⟩⟩
 ·exact q.elim
end
end L2
namespace Srt
open PySem PySem.W PyProof.Rows
noncomputable def run{α:Type}(c:Nat->Nat->Bool):KasT α->α
 | .ret a=>a
 | .ask i j k=>run c (k (c i j))
theorem dL{α β:Type}{c:Nat->Nat->Bool}{f:α->KasT β}:∀t:KasT α,run c (t.bind f)=run c (f (run c t))
 | .ret a=>rfl
 | .ask i j k=>dL (k (c i j))
def Bd{α:Type}(n:Nat):KasT α->Prop
 | .ret _=>True
 | .ask i j k=>i<n/\j<n/\∀b,Bd n (k b)
def All{α:Type}(P:α->Prop):KasT α->Prop
 | .ret a=>P a
 | .ask _ _ k=>∀b,All P (k b)
theorem All.mono{α:Type}{P Q:α->Prop}(h:∀a,P a->Q a):∀t:KasT α,All P t->All Q t
 | .ret a,q=>h a q
 | .ask _ _ k,q=>λb=>All.mono h (k b) (q b)
theorem All.bind{α β:Type}{P:β->Prop}{f:α->KasT β}:∀t:KasT α,All (λa=>All P (f a)) t->All P (t.bind f)
 | .ret a,q=>q
 | .ask _ _ k,q=>λb=>All.bind (k b) (q b)
theorem Bd.bindA{α β:Type}{n:Nat}{f:α->KasT β}:∀t:KasT α,Bd n t->All (λa=>Bd n (f a)) t->Bd n (t.bind f)
 | .ret a,_,q=>q
 | .ask _ _ k,b,q=>⟨b.1,b.2.1,λx=>Bd.bindA (k x) (b.2.2 x) (q x)⟩
theorem All.run{α:Type}{P:α->Prop}{c:Nat->Nat->Bool}:∀t:KasT α,All P t->P (Srt.run c t)
 | .ret a,q=>q
 | .ask i j k,q=>All.run (k (c i j)) (q _)
theorem wp_run{α:Type}{cmp:Nat->Nat->(Bool->Shared->Prop)->Shared->Prop}{c:Nat->Nat->Bool}{n:Nat}{s:Shared}{Q:α->Shared->Prop}(hc:∀i j (C:Bool->Shared->Prop),i<n->j<n->C (c i j) s->cmp i j C s) :
  ∀t:KasT α,Bd n t->Q (run c t) s->t.kasWp cmp Q s
 | .ret a,_,q=>q
 | .ask i j k,b,q=>hc i j _ b.1 b.2.1 (wp_run hc (k (c i j)) (b.2.2 _) q)
structure Ord(c:Nat->Nat->Bool):Prop where
 irr:∀a,c a a=false
 tr:∀a b d,c a b=true->c b d=true->c a d=true
 neg:∀a b d,c a d=true->c a b=true\/c b d=true
section
variable{c:Nat->Nat->Bool}(O:Ord c)
def le(c:Nat->Nat->Bool)(a b:Nat):Prop:=c b a=false
theorem le_refl(O:Ord c)(a:Nat):le c a a:=O.irr a
theorem le_trans(O:Ord c)(h1:le c a b)(h2:le c b d):le c a d:=by
 unfold le at *
 cases q:c d a with
 | false=>rfl
 | true =>
  rcases O.neg d b a q with h | h
  ·rw[h2]at h;cases h
  ·rw[h1]at h;cases h
theorem le_of_lt(O:Ord c)(h:c a b=true):le c a b:=by
 unfold le
 cases q:c b a with
 | false=>rfl
 | true=>have:=O.tr a b a h q;rw[O.irr]at this;cases this
noncomputable abbrev at_(p:Array Nat)(k:Nat):Nat:=p.getD k 0
def Up(c:Nat->Nat->Bool)(p:Array Nat)(m:Nat):Prop:=∀i j,i<=j->j<m->le c (at_ p i) (at_ p j)
def Dn(c:Nat->Nat->Bool)(p:Array Nat)(m:Nat):Prop:=∀i j,i<=j->j<m->le c (at_ p j) (at_ p i)
def Eqs(c:Nat->Nat->Bool)(p:Array Nat)(a b:Nat):Prop:=∀i j,a<=i->i<b->a<=j->j<b->le c (at_ p i) (at_ p j)
theorem Up.one(O:Ord c)(p:Array Nat):Up c p 1:=λi j hij hj=>by
 have:i=j:=by lia
 subst this;exact le_refl O _
theorem Up.snoc(O:Ord c)(h:Up c p n)(h1:1<=n)(hl:le c (at_ p (n-1)) (at_ p n)):Up c p (n+1):=λi j hij hj=>by
 by_cases hjn:j<n
 ·exact h i j hij hjn
 ·have:j=n:=by lia
  subst this
  by_cases hi:i=j
  ·subst hi;exact le_refl O _
  ·exact le_trans O (h i (j-1) (by lia) (by lia)) hl
theorem Dn.snoc(O:Ord c)(h:Dn c p n)(h1:1<=n)(hl:le c (at_ p n) (at_ p (n-1))):Dn c p (n+1):=λi j hij hj=>by
 by_cases hjn:j<n
 ·exact h i j hij hjn
 ·have:j=n:=by lia
  subst this
  by_cases hi:i=j
  ·subst hi;exact le_refl O _
  ·exact le_trans O hl (h i (j-1) (by lia) (by lia))
theorem eI(hj:j<=p.size)(k:Nat):at_ (ACx p i j) k=if i<=k/\k<j then at_ p (i+j-1-k)else at_ p k:=by
 have e:=getElem?_mirror_all (xs:=p) (i:=i) hj k
 unfold at_ ACx
 rw[AAx,e]
 by_cases h:i<=k/\k<j
 ·rw[if_pos h,if_pos h,AAx]
 ·rw[if_neg h,if_neg h,AAx]
theorem nL(hk:k<p.size)(hd:d<=k)(i:Nat):at_ (bubble p k d) i=if i=k-d then at_ p k else if k-d<i/\i<=k then at_ p (i-1)else at_ p i:=by
 have e:=getElem?_bubble (xs:=p) hk d hd i
 unfold at_
 rw[AAx,e]
 by_cases h:i=k-d
 ·rw[if_pos h,if_pos h,AAx]
 ·rw[if_neg h,if_neg h]
  by_cases h':k-d<i/\i<=k
  ·rw[if_pos h',if_pos h',AAx]
  ·rw[if_neg h',if_neg h',AAx]
theorem Dn.rev(h:Dn c p n)(hn:n<=p.size):Up c (ACx p 0 n) n:=λi j hij hj=>by
 rw[eI hn,eI hn,if_pos ⟨AAT _,by lia⟩,if_pos ⟨AAT _,hj⟩]
 exact h _ _ (by lia) (by lia)
theorem Dn.revEq(O:Ord c)(h:Dn c p n)(hn:n<=p.size)(he:Eqs c p a n):Dn c (ACx p a n) n:=λi j hij hj=>by
 rw[eI hn,eI hn]
 by_cases h1:a<=i/\i<n
 ·by_cases h2:a<=j/\j<n
  ·rw[if_pos h1,if_pos h2]
   exact he _ _ (by lia) (by lia) (by lia) (by lia)
  ·exact absurd ⟨by lia,hj⟩ h2
 ·by_cases h2:a<=j/\j<n
  ·rw[if_neg h1,if_pos h2]
   exact h _ _ (by lia) (by lia)
  ·rw[if_neg h1,if_neg h2]
   exact h _ _ hij hj
theorem pc(O:Ord c):∀(f n:Nat),1<=n->Up c p n->Up c p (run c (ADc p f n))/\n<=run c (ADc p f n)/\run c (ADc p f n)<=n+f /\
  (run c (ADc p f n)<n+f->c (at_ p (run c (ADc p f n))) (at_ p (run c (ADc p f n)-1))=true)
 | 0,n,_,h=>⟨h,AA8 _,AA8 _,λz=>absurd z (AAk _)⟩
 | f+1,n,h1,h=>by
  show Up c p (run c (if c (at_ p n) (at_ p (n-1))=true then .ret n else ADc p f (n+1)))/\n<=run c (if c (at_ p n) (at_ p (n-1))=true then .ret n else ADc p f (n+1)) /\
   run c (if c (at_ p n) (at_ p (n-1))=true then .ret n else ADc p f (n+1))<=n+(f+1)/\(run c (if c (at_ p n) (at_ p (n-1))=true then .ret n else ADc p f (n+1))<n+(f+1) ->
    c (at_ p (run c (if c (at_ p n) (at_ p (n-1))=true then .ret n else ADc p f (n+1)))) (at_ p (run c (if c (at_ p n) (at_ p (n-1))=true then .ret n else ADc p f (n+1))-1))=true)
  by_cases q:c (at_ p n) (at_ p (n-1))=true
  ·rw[if_pos q]
   exact⟨h,AA8 _,AD7 _ _,λ_=>q⟩
  ·rw[if_neg q]
   obtain⟨a1,a2,a3,a4⟩:=pc O f (n+1) (by lia) (h.snoc O h1 (by unfold le;simpa using q))
   exact⟨a1,by lia,by lia,λz=>a4 (by lia)⟩
theorem cH:(ACx p i j).size=p.size:=mirror_size _ _ _ _
def vX(c:Nat->Nat->Bool)(z n m:Nat)(r:Array Nat×Nat×Nat):Prop:=r.1.size=z/\Dn c r.1 r.2.1/\n<=r.2.1/\r.2.1<=m/\r.2.2+1<=r.2.1/\Eqs c r.1 (r.2.1-(r.2.2+1)) r.2.1
def lN(c:Nat->Nat->Bool)(z nrem:Nat)(r:Nat×Array Nat):Prop:=r.2.size=z/\Up c r.2 r.1/\1<=r.1/\r.1<=nrem
def pf(c:Nat->Nat->Bool)(p:Array Nat)(k m:Nat):Prop:=m<=k/\(∀i,i<m->le c (at_ p i) (at_ p k))/\∀i,m<=i->i<k->c (at_ p k) (at_ p i)=true
theorem gX(O:Ord c):∀(f:Nat) (p:Array Nat) (n q:Nat),q+1<=n->n+f<=p.size->Dn c p n->Eqs c p (n-(q+1)) n ->
  vX c p.size n (n+f) (run c (ABs f p n q))
 | 0,p,n,q,h1,h2,hd,he=>⟨rfl,hd,AA8 _,AA8 _,h1,he⟩
 | f+1,p,n,q,h1,h2,hd,he=>by
  have hn:n<=p.size:=by lia
  show vX c p.size n (n+(f+1)) (run c (if c (at_ p n) (at_ p (n-1))=true then(if q > 0 then ABs f (ACx p (n-(q+1)) n) (n+1) 0 else ABs f p (n+1) 0)
   else .ask (at_ p (n-1)) (at_ p n) λd=>if d=true then .ret (p,n,q)else ABs f p (n+1) (q+1)))
  by_cases hc:c (at_ p n) (at_ p (n-1))=true
  ·rw[if_pos hc]
   by_cases hq:q > 0
   ·rw[if_pos hq]
    have hd':Dn c (ACx p (n-(q+1)) n) (n+1):=by
     refine(hd.revEq O hn he).snoc O (by lia) ?_
     rw[eI hn,eI hn,if_neg (by lia),if_pos ⟨by lia,by lia⟩]
     exact le_trans O (le_of_lt O hc) (he _ _ (by lia) (by lia) (by lia) (by lia))
    have r:=gX O f (ACx p (n-(q+1)) n) (n+1) 0 (by lia) (by rw[cH];lia) hd' (λi j a1 a2 a3 a4=>by
     have:i=n:=by lia
     have:j=n:=by lia
     subst_vars
     exact le_refl O _)
    obtain⟨a1,a2,a3,a4,a5,a6⟩:=r
    exact⟨a1.trans cH,a2,by lia,by lia,a5,a6⟩
   ·rw[if_neg hq]
    have r:=gX O f p (n+1) 0 (by lia) (by lia) (hd.snoc O (by lia) (le_of_lt O hc)) (λi j a1 a2 a3 a4=>by
     have:i=n:=by lia
     have:j=n:=by lia
     subst_vars
     exact le_refl O _)
    obtain⟨a1,a2,a3,a4,a5,a6⟩:=r
    exact⟨a1,a2,by lia,by lia,a5,a6⟩
  ·rw[if_neg hc]
   show vX c p.size n (n+(f+1)) (run c (if c (at_ p (n-1)) (at_ p n)=true then .ret (p,n,q)else ABs f p (n+1) (q+1)))
   by_cases hc':c (at_ p (n-1)) (at_ p n)=true
   ·rw[if_pos hc']
    exact⟨rfl,hd,AA8 _,by show n<=_;lia,h1,he⟩
   ·rw[if_neg hc']
    have l1:le c (at_ p n) (at_ p (n-1)):=by unfold le;simpa using hc'
    have l2:le c (at_ p (n-1)) (at_ p n):=by unfold le;simpa using hc
    have r:=gX O f p (n+1) (q+1) (by lia) (by lia) (hd.snoc O (by lia) l1) (λi j a1 a2 a3 a4=>by
     by_cases hi:i=n
     ·by_cases hj:j=n
      ·subst hi hj;exact le_refl O _
      ·subst hi
       exact le_trans O l1 (he _ _ (by lia) (by lia) (by lia) (by lia))
     ·by_cases hj:j=n
      ·subst hj
       exact le_trans O (he _ _ (by lia) (by lia) (by lia) (by lia)) l2
      ·exact he _ _ (by lia) (by lia) (by lia) (by lia))
    obtain⟨a1,a2,a3,a4,a5,a6⟩:=r
    exact⟨a1,a2,by lia,by lia,a5,a6⟩
theorem lV(O:Ord c)(h1:1<=n)(hn:n<=nrem)(hz:nrem<=p.size)(hd:Dn c p n) :
  lN c p.size nrem (run c (kas_tail3 n nrem p)):=by
 unfold kas_tail3
 rw[dL]
 obtain⟨a1,a2,a3,_⟩:=pc O (nrem-n) n h1 (hd.rev (by lia))
 exact⟨cH,a1,AB3 h1 a2,AB3 a3 (by lia)⟩
theorem gF(O:Ord c)(h1:1<=n)(hn:n+1<=nrem)(hz:nrem<=p.size)(he:Eqs c p 0 n)(hc:c (at_ p n) (at_ p (n-1))=true) :
  lN c p.size nrem (run c (ADl n nrem p)):=by
 have hd:Dn c p (n+1):=by
  refine Dn.snoc O (λi j hij hj=>he _ _ (by lia) (by lia) (by lia) (by lia)) h1 (le_of_lt O hc)
 unfold ADl
 rw[dL]
 obtain⟨b1,b2,b3,b4,b5,b6⟩:=gX O (nrem-(n+1)) p (n+1) 0 (by lia) (by lia) hd (λi j a1 a2 a3 a4=>by
  have:i=n:=by lia
  have:j=n:=by lia
  subst_vars
  exact le_refl O _)
 by_cases hq:(run c (ABs (nrem-(n+1)) p (n+1) 0)).2.2 > 0
 ·rw[if_pos hq]
  obtain⟨d1,d2,d3,d4⟩:=lV O (p:=ACx (run c (ABs (nrem-(n+1)) p (n+1) 0)).1 ((run c (ABs (nrem-(n+1)) p (n+1) 0)).2.1-((run c (ABs (nrem-(n+1)) p (n+1) 0)).2.2+1)) (run c (ABs (nrem-(n+1)) p (n+1) 0)).2.1)
   (n:=(run c (ABs (nrem-(n+1)) p (n+1) 0)).2.1) (nrem:=nrem) (by lia) (by lia) (by rw[cH,b1];exact hz) (b2.revEq O (by rw[b1];lia) b6)
  exact⟨d1.trans (cH.trans b1),d2,d3,d4⟩
 ·rw[if_neg hq]
  obtain⟨d1,d2,d3,d4⟩:=lV O (p:=(run c (ABs (nrem-(n+1)) p (n+1) 0)).1) (n:=(run c (ABs (nrem-(n+1)) p (n+1) 0)).2.1) (nrem:=nrem) (by lia) (by lia) (by rw[b1];exact hz) b2
  exact⟨d1.trans b1,d2,d3,d4⟩
theorem vJ(O:Ord c)(h1:1<=nrem)(hz:nrem<=p.size) :
  lN c p.size nrem (run c (kas_count nrem p)):=by
 unfold kas_count
 rw[dL]
 obtain⟨a1,a2,a3,a4⟩:=pc O (nrem-1) 1 (AA8 _) (Up.one O p)
 generalize run c (ADc p (nrem-1) 1)=n at a1 a2 a3 a4
 by_cases hn:(n==nrem)=true
 ·rw[if_pos hn]
  exact⟨rfl,a1,a2,by show n<=nrem;lia⟩
 ·rw[if_neg hn]
  have hn':n≠nrem:=by simpa using hn
  have hlt:c (at_ p n) (at_ p (n-1))=true:=a4 (by lia)
  by_cases h2:n > 1
  ·rw[if_pos h2]
   show lN c p.size nrem (run c (if c (at_ p 0) (at_ p (n-1))=true then .ret (n,p)else ADl n nrem (ACx p 0 n)))
   by_cases hc:c (at_ p 0) (at_ p (n-1))=true
   ·rw[if_pos hc]
    exact⟨rfl,a1,a2,by show n<=nrem;lia⟩
   ·rw[if_neg hc]
    have hz':n<=p.size:=by lia
    have l0:le c (at_ p (n-1)) (at_ p 0):=by unfold le;simpa using hc
    have he:Eqs c p 0 n:=λi j b1 b2 b3 b4=>le_trans O (a1 i (n-1) (by lia) (by lia)) (le_trans O l0 (a1 0 j (by lia) b4))
    have he':Eqs c (ACx p 0 n) 0 n:=λi j b1 b2 b3 b4=>by
     rw[eI hz',eI hz',if_pos ⟨b1,b2⟩,if_pos ⟨b3,b4⟩]
     exact he _ _ (by lia) (by lia) (by lia) (by lia)
    have hc':c (at_ (ACx p 0 n) n) (at_ (ACx p 0 n) (n-1))=true:=by
     rw[eI hz',eI hz',if_neg (by lia),if_pos ⟨by lia,by lia⟩]
     rcases O.neg _ (at_ p (0+n-1-(n-1))) _ hlt with z | z
     ·exact z
     ·have:=he (n-1) (0+n-1-(n-1)) (by lia) (by lia) (by lia) (by lia)
      unfold le at this
      rw[this]at z;cases z
    obtain⟨d1,d2,d3,d4⟩:=gF O (p:=ACx p 0 n) (n:=n) (nrem:=nrem) (by lia) (by lia) (by rw[cH];exact hz) he' hc'
    exact⟨d1.trans cH,d2,d3,d4⟩
  ·rw[if_neg h2]
   have:n=1:=by lia
   subst this
   exact gF O (by lia) (by lia) hz (λi j b1 b2 b3 b4=>by
    have:i=0:=by lia
    have:j=0:=by lia
    subst_vars
    exact le_refl O _) hlt
theorem iH(O:Ord c)(hu:Up c p k):∀(f l r:Nat),l<=r->r<=k->r-l<=f->(∀i,i<l->le c (at_ p i) (at_ p k))->(∀i,r<=i->i<k->c (at_ p k) (at_ p i)=true) ->
  pf c p k (run c (AD1 p k f l r))
 | 0,l,r,h1,h2,h3,h4,h5=>⟨by show l<=k;lia,h4,λi a1 a2=>h5 i (by have a1':l<=i:=a1;lia) a2⟩
 | f+1,l,r,h1,h2,h3,h4,h5=>by
  show pf c p k (run c (if l ≥ r then .ret l else .ask (at_ p k) (at_ p ((l+r) / 2)) λc=>if c=true then AD1 p k f l ((l+r) / 2)else AD1 p k f ((l+r) / 2+1) r))
  by_cases hl:l ≥ r
  ·rw[if_pos hl]
   exact⟨by show l<=k;lia,h4,λi a1 a2=>h5 i (by have a1':l<=i:=a1;lia) a2⟩
  ·rw[if_neg hl]
   show pf c p k (run c (if c (at_ p k) (at_ p ((l+r) / 2))=true then AD1 p k f l ((l+r) / 2)else AD1 p k f ((l+r) / 2+1) r))
   by_cases hc:c (at_ p k) (at_ p ((l+r) / 2))=true
   ·rw[if_pos hc]
    refine iH O hu f l ((l+r) / 2) (by lia) (by lia) (by lia) h4 λi a1 a2=>?_
    rcases O.neg _ (at_ p i) _ hc with z | z
    ·exact z
    ·have:=hu ((l+r) / 2) i a1 a2
     unfold le at this
     rw[this]at z;cases z
   ·rw[if_neg hc]
    have lm:le c (at_ p ((l+r) / 2)) (at_ p k):=by unfold le;simpa using hc
    refine iH O hu f ((l+r) / 2+1) r (by lia) h2 (by lia) (λi hi=>?_) h5
    exact le_trans O (hu i ((l+r) / 2) (by lia) (by lia)) lm
theorem vQ(O:Ord c)(hk:k<p.size)(hu:Up c p k)(hm:m<=k)(h1:∀i,i<m->le c (at_ p i) (at_ p k))(h2:∀i,m<=i->i<k->c (at_ p k) (at_ p i)=true):Up c (bubble p k (k-m)) (k+1):=by
 intro i j hij hj
 have e:k-(k-m)=m:=by lia
 rw[nL hk (by lia),nL hk (by lia),e]
 by_cases hi:i=m
 ·rw[if_pos hi]
  by_cases hjm:j=m
  ·rw[if_pos hjm];exact le_refl O _
  ·rw[if_neg hjm,if_pos ⟨by lia,by lia⟩]
   exact le_of_lt O (h2 _ (by lia) (by lia))
 ·rw[if_neg hi]
  by_cases hi2:m<i/\i<=k
  ·rw[if_pos hi2,if_neg (by lia),if_pos ⟨by lia,by lia⟩]
   exact hu _ _ (by lia) (by lia)
  ·rw[if_neg hi2]
   by_cases hjm:j=m
   ·rw[if_pos hjm];exact h1 i (by lia)
   ·rw[if_neg hjm]
    by_cases hj2:m<j/\j<=k
    ·rw[if_pos hj2]
     exact hu _ _ (by lia) (by lia)
    ·rw[if_neg hj2]
     exact hu _ _ hij (by lia)
theorem vS(O:Ord c):∀(f:Nat) (p:Array Nat) (k:Nat),k+f<=p.size->Up c p k->(run c (kas_bin f p k)).size=p.size/\Up c (run c (kas_bin f p k)) (k+f)
 | 0,p,k,_,h=>⟨rfl,h⟩
 | f+1,p,k,hz,h=>by
  show (run c ((AD1 p k k 0 k).bind λl=>kas_bin f (bubble p k (k-l)) (k+1))).size=p.size/\Up c (run c ((AD1 p k k 0 k).bind λl=>kas_bin f (bubble p k (k-l)) (k+1))) (k+(f+1))
  rw[dL]
  obtain⟨a1,a2,a3⟩:=iH O h k 0 k (AAT _) (AA8 _) (by lia) (λi hi=>absurd hi (ABW _)) λi a1 a2=>absurd a2 (by lia)
  obtain⟨b1,b2⟩:=vS O f (bubble p k (k-run c (AD1 p k k 0 k))) (k+1) (by rw[bubble_size];lia) (vQ O (by lia) h a1 a2 a3)
  exact⟨b1.trans (bubble_size _ _ _),by rw[show k+(f+1)=k+1+f by lia];exact b2⟩
theorem yR(O:Ord c)(h1:1<=n):(run c (ADj n)).size=n/\Up c (run c (ADj n)) n:=by
 have hs:(ABd (AAn n)).size=n:=by simp
 unfold ADj
 rw[dL]
 obtain⟨a1,a2,a3,a4⟩:=vJ O (p:=ABd (AAn n)) h1 (by rw[hs];exact AA8 _)
 rw[hs]at a1
 generalize run c (kas_count n (ABd (AAn n)))=r at a1 a2 a3 a4
 by_cases hl:r.1<n
 ·rw[if_pos hl]
  obtain⟨b1,b2⟩:=vS O (n-max r.1 1) r.2 (max r.1 1) (by rw[a1];lia) (by rw[show max r.1 1=r.1 by lia];exact a2)
  exact⟨b1.trans a1,by rw[show n=max r.1 1+(n-max r.1 1) by lia];simpa using b2⟩
 ·rw[if_neg hl]
  have e1:r.1=n:=by lia
  rw[e1]at a2
  exact⟨a1,a2⟩
def Ent(n:Nat)(p:Array Nat):Prop:=p.toList.Perm (AAn n)
theorem Ent.lt(h:Ent n p)(h0:0<n)(k:Nat):at_ p k<n:=by
 unfold at_
 rw[AAx]
 cases e:p[k]? with
 | none=>simpa using h0
 | some x =>
  have:x∈p.toList:=by
   rw[<-AAN]at e
   exact AAe e
  have:=h.mem_iff.mp this
  simpa using this
theorem Ent.rev(h:Ent n p):Ent n (ACx p i j):=(Array.perm_iff_toList_perm.mp (mirror_perm p i j ((j-i) / 2))).trans h
theorem Ent.bub(h:Ent n p):Ent n (bubble p i j):=(Array.perm_iff_toList_perm.mp (bubble_perm p i j)).trans h
section
variable{n:Nat}(h0:0<n)
theorem vU(h0:0<n)(h:Ent n p):∀(f k:Nat),Bd n (ADc p f k)
 | 0,_=>trivial
 | f+1,k=>⟨h.lt h0 _,h.lt h0 _,λb=>by cases b with
  | true=>exact trivial
  | false=>exact vU h0 h f (k+1)⟩
theorem lF(h0:0<n):∀(f:Nat) (p:Array Nat) (k q:Nat),Ent n p->Bd n (ABs f p k q)/\All (λr=>Ent n r.1) (ABs f p k q)
 | 0,p,k,q,h=>⟨trivial,h⟩
 | f+1,p,k,q,h=>by
  have key:∀b,(Bd n (if b=true then(if q > 0 then ABs f (ACx p (k-(q+1)) k) (k+1) 0 else ABs f p (k+1) 0)
    else KasT.ask (p.getD (k-1) 0) (p.getD k 0) λd=>if d=true then KasT.ret (p,k,q)else ABs f p (k+1) (q+1)))/\All (λr=>Ent n r.1) (if b=true then(if q > 0 then ABs f (ACx p (k-(q+1)) k) (k+1) 0 else ABs f p (k+1) 0)
    else KasT.ask (p.getD (k-1) 0) (p.getD k 0) λd=>if d=true then KasT.ret (p,k,q)else ABs f p (k+1) (q+1)):=λb=>by
   cases b with
   | true =>
    rw[if_pos rfl]
    by_cases hq:q > 0
    ·rw[if_pos hq];exact lF h0 f _ _ _ h.rev
    ·rw[if_neg hq];exact lF h0 f _ _ _ h
   | false =>
    rw[if_neg (by simp)]
    have a:=lF h0 f p (k+1) (q+1) h
    refine⟨⟨h.lt h0 _,h.lt h0 _,λb=>?_⟩,λb=>?_⟩
    ·cases b with
     | true=>exact trivial
     | false=>exact a.1
    ·cases b with
     | true=>exact h
     | false=>exact a.2
  exact⟨⟨h.lt h0 _,h.lt h0 _,λb=>(key b).1⟩,λb=>(key b).2⟩
theorem gO(h0:0<n)(h:Ent n p):Bd n (kas_tail3 k m p)/\All (λr=>Ent n r.2) (kas_tail3 k m p):=by
 have triv:∀{t:KasT Nat}{Q:Prop},Q->All (λ_=>Q) t:=λ{t Q} q=>by
  induction t with
  | ret a=>exact q
  | ask i j k ih=>exact λb=>ih b
 unfold kas_tail3
 exact⟨Bd.bindA _ (vU h0 h.rev _ _) (triv trivial),All.bind _ (triv h.rev)⟩
theorem cR(h0:0<n)(h:Ent n p):Bd n (ADl k m p)/\All (λr=>Ent n r.2) (ADl k m p):=by
 unfold ADl
 obtain⟨b1,b2⟩:=lF h0 (m-(k+1)) p (k+1) 0 h
 refine⟨Bd.bindA _ b1 (b2.mono (λr hr=>?_)),All.bind _ (b2.mono (λr hr=>?_))⟩
 ·by_cases hq:r.2.2 > 0
  ·rw[if_pos hq];exact(gO h0 hr.rev).1
  ·rw[if_neg hq];exact(gO h0 hr).1
 ·by_cases hq:r.2.2 > 0
  ·rw[if_pos hq];exact(gO h0 hr.rev).2
  ·rw[if_neg hq];exact(gO h0 hr).2
theorem xU(h0:0<n)(h:Ent n p):Bd n (kas_count m p)/\All (λr=>Ent n r.2) (kas_count m p):=by
 have triv:∀{t:KasT Nat}{Q:Nat->Prop},(∀a,Q a)->All Q t:=λ{t Q} q=>by
  induction t with
  | ret a=>exact q a
  | ask i j k ih=>exact λb=>ih b
 unfold kas_count
 refine⟨Bd.bindA _ (vU h0 h _ _) (triv λk=>?_),All.bind _ (triv λk=>?_)⟩
 ·by_cases h1:(k==m)=true
  ·rw[if_pos h1];exact trivial
  ·rw[if_neg h1]
   by_cases h2:k > 1
   ·rw[if_pos h2]
    refine⟨h.lt h0 _,h.lt h0 _,λb=>?_⟩
    cases b with
    | true=>exact trivial
    | false=>exact(cR h0 h.rev).1
   ·rw[if_neg h2];exact(cR h0 h).1
 ·by_cases h1:(k==m)=true
  ·rw[if_pos h1];exact h
  ·rw[if_neg h1]
   by_cases h2:k > 1
   ·rw[if_pos h2]
    intro b
    cases b with
    | true=>exact h
    | false=>exact(cR h0 h.rev).2
   ·rw[if_neg h2];exact(cR h0 h).2
theorem kK(h0:0<n)(h:Ent n p):∀(f l r:Nat),Bd n (AD1 p k f l r)
 | 0,_,_=>trivial
 | f+1,l,r=>by
  show Bd n (if l ≥ r then KasT.ret l else KasT.ask (p.getD k 0) (p.getD ((l+r) / 2) 0) λc=>if c=true then AD1 p k f l ((l+r) / 2)else AD1 p k f ((l+r) / 2+1) r)
  by_cases hl:l ≥ r
  ·rw[if_pos hl];exact trivial
  ·rw[if_neg hl]
   refine⟨h.lt h0 _,h.lt h0 _,λb=>?_⟩
   cases b with
   | true=>exact kK h0 h f _ _
   | false=>exact kK h0 h f _ _
theorem qF(h0:0<n):∀(f:Nat) (p:Array Nat) (k:Nat),Ent n p->Bd n (kas_bin f p k)/\All (λr=>Ent n r) (kas_bin f p k)
 | 0,p,k,h=>⟨trivial,h⟩
 | f+1,p,k,h=>by
  have triv:∀{t:KasT Nat}{Q:Nat->Prop},(∀a,Q a)->All Q t:=λ{t Q} q=>by
   induction t with
   | ret a=>exact q a
   | ask i j k ih=>exact λb=>ih b
  exact⟨Bd.bindA _ (kK h0 h _ _ _) (triv λl=>(qF h0 f _ _ h.bub).1),All.bind _ (triv λl=>(qF h0 f _ _ h.bub).2)⟩
theorem sort_bd(h0:0<n):Bd n (ADj n)/\All (λr=>Ent n r) (ADj n):=by
 have h:Ent n (ABd (AAn n)):=by unfold Ent;simp
 obtain⟨b1,b2⟩:=xU h0 (m:=n) h
 unfold ADj
 refine⟨Bd.bindA _ b1 (b2.mono λr hr=>?_),All.bind _ (b2.mono λr hr=>?_)⟩
 ·by_cases hl:r.1<n
  ·rw[if_pos hl];exact(qF h0 _ _ _ hr).1
  ·rw[if_neg hl];exact trivial
 ·by_cases hl:r.1<n
  ·rw[if_pos hl];exact(qF h0 _ _ _ hr).2
  ·rw[if_neg hl];exact hr
end
theorem sort_list{α:Type}[Inhabited α]{lt:α->α->Bool}(xs:List α)(h1:1<=xs.length)(irr:∀a∈xs,lt a a=false)(tr:∀a∈xs,∀b∈xs,∀d∈xs,lt a b=true->lt b d=true->lt a d=true)
  (neg:∀a∈xs,∀b∈xs,∀d∈xs,lt a d=true->lt a b=true\/lt b d=true) :
  let c:=λi j=>if i<xs.length then(if j<xs.length then lt (xs.getD i default) (xs.getD j default)else true)else false
  let p:=run c (ADj xs.length)
  let ys:=p.toList.map λi=>xs.getD i default
  ys.Perm xs/\ys.Pairwise λa b=>lt b a=false:=by
 intro c p ys
 have mem:∀i,i<xs.length->xs.getD i default∈xs:=λi hi=>by
  rw[AAS,AA5 hi]
  exact AB4 hi
 have O:Ord c:=by
  refine⟨λa=>?_,λa b d=>?_,λa b d=>?_⟩
  ·show (if a<xs.length then(if a<xs.length then lt _ _ else true)else false)=false
   by_cases ha:a<xs.length
   ·rw[if_pos ha,if_pos ha];exact irr _ (mem a ha)
   ·rw[if_neg ha]
  ·show (if a<xs.length then(if b<xs.length then lt _ _ else true)else false)=true->(if b<xs.length then(if d<xs.length then lt _ _ else true)else false)=true->(if a<xs.length then(if d<xs.length then lt _ _ else true)else false)=true
   by_cases ha:a<xs.length
   ·by_cases hb:b<xs.length
    ·by_cases hd:d<xs.length
     ·rw[if_pos ha,if_pos hb,if_pos hb,if_pos hd,if_pos ha,if_pos hd];exact tr _ (mem a ha) _ (mem b hb) _ (mem d hd)
     ·intro _ _;rw[if_pos ha,if_neg hd]
    ·rw[if_neg (show ¬b<xs.length from hb)]
     intro _ z
     rw[if_neg hb]at z;cases z
   ·intro z;rw[if_neg ha]at z;cases z
  ·show (if a<xs.length then(if d<xs.length then lt _ _ else true)else false)=true->(if a<xs.length then(if b<xs.length then lt _ _ else true)else false)=true\/(if b<xs.length then(if d<xs.length then lt _ _ else true)else false)=true
   by_cases ha:a<xs.length
   ·by_cases hb:b<xs.length
    ·by_cases hd:d<xs.length
     ·rw[if_pos ha,if_pos hd,if_pos ha,if_pos hb,if_pos hb,if_pos hd];exact neg _ (mem a ha) _ (mem b hb) _ (mem d hd)
     ·intro _;right;rw[if_pos hb,if_neg hd]
    ·intro _;left;rw[if_pos ha,if_neg hb]
   ·intro z;rw[if_neg ha]at z;cases z
 have hE:Ent xs.length p:=All.run _ (sort_bd (by lia)).2
 obtain⟨hs,hU⟩:=yR O h1
 refine⟨?_,?_⟩
 ·have e:(AAn xs.length).map (λi=>xs.getD i default)=xs:=by
   apply ADd
   intro i
   rw[AAV]
   by_cases hi:i<xs.length
   ·rw[List.getElem?_range hi]
    simp[AAS,AA5 hi]
   ·rw[AB9 (by simpa using hi),AB9 (by simpa using hi)]
    rfl
  have:=hE.map λi=>xs.getD i default
  rw[e]at this
  exact this
 ·show (p.toList.map λi=>xs.getD i default).Pairwise λa b=>lt b a=false
  rw[List.pairwise_iff_getElem]
  intro i j hi hj hij
  rw[AA6,AAJ]at hi hj
  have hs':p.size=xs.length:=hs
  have l:=hU i j (by lia) (by lia)
  have hl:∀k,at_ p k<xs.length:=λk=>hE.lt (by lia) k
  unfold le at l
  have l':(if at_ p j<xs.length then(if at_ p i<xs.length then lt (xs.getD (at_ p j) default) (xs.getD (at_ p i) default)else true)else false)=false:=l
  rw[if_pos (hl j),if_pos (hl i)]at l'
  have ai:p.toList[i]=at_ p i:=by unfold at_;simp[AC6,hi]
  have aj:p.toList[j]=at_ p j:=by unfold at_;simp[AC6,hj]
  rw[AC7,AC7,ai,aj]
  exact l'
end
end Srt
namespace L2
open PySem PySem.Spec PyProof.Rows DL
def sv(A:Around)(s:Shared)(x y:Value)(k:Bool):Prop:=∀(prog:Program) (w:World) (E:Value->Shared->Prop) (Q:Value->Shared->Prop),Q (.bool k) s->wpAny (model prog w) A (richCompare .Lt x y) Q E s
inductive LexAt(A:Around)(s:Shared):List Value->List Value->Bool->Prop
 | nn:LexAt A s [] [] false
 | nc {y:Value}{ys:List Value}:LexAt A s [] (y::ys) true
 | cn {x:Value}{xs:List Value}:LexAt A s (x::xs) [] false
 | eq {x y:Value}{xs ys:List Value}{k:Bool} (h:ABx A s x y true) (t:LexAt A s xs ys k):LexAt A s (x::xs) (y::ys) k
 | ne {x y:Value}{xs ys:List Value}{k:Bool} (h:ABx A s x y false) (t:sv A s x y k):LexAt A s (x::xs) (y::ys) k
section
open PySem.SeqAt
open PySem.AutoSeq1 (wpAny_loadPart')
open PySem.MeetsSeq PySem.MeetsSeq2 PySem.MeetsSeq3
theorem lU(l b:Addr)(items items2:Array Value)(n n2:Nat)(dd dd2:Option Addr)(sl sl2:Array (Option Value))(k:Bool) :
  Meets (Builtin.«tuple.__lt__» ⟨[.ref l,.ref b],[]⟩)
   (λA R s=>s.heap.get? l=some (⟨.type "tuple",dd,.seq items n,sl⟩:Obj)/\s.heap.get? b=some { cls:=.type "tuple",dict:=dd2,data:=.seq items2 n2,slots:=sl2 } /\
    LexAt A.in1 s items.toList items2.toList k/\R (.ok (.ret (.bool k))) s) :=
 .of_wp λprog w A R s h=>by
  obtain⟨hp,g,d,tk,os⟩:=s;obtain⟨hl,hb,hx,h⟩:=h
  have f2:=AutoSeq1.sub_tuple_tuple
  wp_walk using ADI hl,ADI hb,ABD _ (λax b s'=>b.1=none/\s'=⟨hp,g,d,tk,os⟩/\∃(vs ws:List Value),ax=vs.zip ws /\
   LexAt A.in1 ⟨hp,g,d,tk,os⟩ vs ws k/\vs.length+items2.size=ws.length+items.size) _
  case turn =>
   rintro⟨y,x⟩ ax b s' ⟨hb',rfl,vs,ws,hz,hlex,hlen⟩
   cases hlex with
   | nn=>cases hz
   | nc=>cases hz
   | cn=>cases hz
   | eq he t =>
    rw[ADN]at hz
    injection hz with hyx hrest
    injection hyx with hy hx
    subst hy hx
    refine AA0 (he prog w _ _ ?_)
    wp_walk
    exact⟨rfl,rfl,_,_,hrest,t,by simp only[AAI]at hlen;lia⟩
   | ne he t =>
    rw[ADN]at hz
    injection hz with hyx hrest
    injection hyx with hy hx
    subst hy hx
    refine AA0 (he prog w _ _ ?_)
    have hri:=t prog w
    wp_walk using hri
    exact⟨_,rfl,by simpa using h⟩
  case fin =>
   rintro⟨b1,b2⟩ s' ⟨hb',rfl,vs,ws,hz,hlex,hlen⟩
   simp only at hb'
   subst hb'
   have hv:k=decide (items.size<items2.size):=by
    cases hlex with
    | nn=>simp only[AAj]at hlen;exact(dF_ (by lia)).symm
    | nc=>simp only[AAj,AAI]at hlen;exact(dT_ (by lia)).symm
    | cn=>simp only[AAj,AAI]at hlen;exact(dF_ (by lia)).symm
    | eq _ _=>rw[ADN]at hz;cases hz
    | ne _ _=>rw[ADN]at hz;cases hz
   rw[hv]at h
   wp_walk
   exact⟨_,rfl,by simpa [Builtin.Tuple.tupleCompareSizes]using h⟩
  case h =>
   exact⟨rfl,rfl,items.toList,items2.toList,rfl,hx,by simp;lia⟩
end
theorem sv.tuples(hl:s.heap.IsTuple l items)(hb:s.heap.IsTuple b items2)(hu:A.units<cLine)(hx:LexAt A.in1 s items.toList items2.toList k):sv A s (.ref l) (.ref b) k:=λprog w E Q h=>by
 obtain⟨⟨cls,dd,data,sl⟩,ho,hc,n,hd⟩:=id hl
 obtain⟨⟨cls2,dd2,data2,sl2⟩,ho2,hc2,n2,hd2⟩:=id hb
 simp only at hc hd hc2 hd2
 subst hc hd hc2 hd2
 exact richCompare_meets_room (op:=.Lt) ⟨_,ho,rfl⟩ ⟨_,ho2,rfl⟩ PySem.F.slot_tuple_lt PySem.F.entry_tuple_lt (PySem.F.args_tuple_lt_2 _ _) (lU l b items items2 n n2 dd dd2 sl sl2 k)
  ⟨ho,ho2,hx,show Value.bool k≠Value.notImplemented/\Q (.bool k) s from⟨(λx=>nomatch x),h⟩⟩ hu
noncomputable def oG(f g:D->D->Bool):List D->List D->Bool
 | [],[]=>false
 | [],_::_=>true
 | _::_,[]=>false
 | x::xs,y::ys=>if f x y=true then oG f g xs ys else g x y
noncomputable def ltD(M:Mem):Nat->D->D->Bool
 | _,.int a,.int b=>decide (a<b)
 | _,.str a,.str b=>nX a b
 | n+1,.tup xs,.tup ys=>oG (eqD M n) (ltD M n) xs ys
 | _,_,_=>false
noncomputable def vZ(f g:D->D->Bool):List D->List D->Bool
 | x::xs,y::ys=>if f x y=true then vZ f g xs ys else g x y
 | _,_=>true
noncomputable def gH(M:Mem):Nat->D->D->Bool
 | _,.int _,.int _=>true
 | _,.str _,.str _=>true
 | n+1,.tup xs,.tup ys=>vZ (eqD M n) (gH M n) xs ys
 | _,_,_=>false
theorem sv.ints(A:Around)(s:Shared)(a:Int)(t:Tok)(c:Int)(u:Tok):sv A s (.int a t) (.int c u) (decide (a<c)):=λprog w E Q h=>HT.rcLt_int A s a t c u prog w E Q h
theorem sv.texts(A:Around)(s:Shared)(a:Str)(t:Tok)(c:Str)(u:Tok):sv A s (.str a t) (.str c u) (nX a c):=λprog w E Q h =>
 (PySem.P.lt_str (show Q (.bool (decide (a.cps.toList<c.cps.toList))) s from h):wpAny (model prog w) A (compareOp .Lt (.str a t) (.str c u)) Q E s)
section
variable{X:Cx}{pins:List (Addr×Obj)}{σ:St}{H:Hp}{s:Shared}{ρ:List Addr}{M:Mem}
theorem ym(I:Inv X pins σ H s)(sm:Sim X.K ρ M H):∀(n:Nat) (A:Around) (x y:D) (vx vy:V) (u v:Value),A.units+n<cLine->Rep X.K ρ H x vx->aC vx u->Rep X.K ρ H y vy->aC vy v->okD M n x=true->okD M n y=true->gH M n x y=true ->
  sv A s u v (ltD M n x y):=by
 intro n
 induction n with
 | zero =>
  intro A x y vx vy u v hu r1 e1 r2 e2 o1 o2 cm
  cases r1 with
  | int a =>
   cases r2 with
   | int b=>obtain⟨t,rfl⟩:=e1;obtain⟨t',rfl⟩:=e2;exact sv.ints A s a t b t'
   | _=>simp[gH]at cm
  | str a =>
   cases r2 with
   | str b=>obtain⟨t,rfl⟩:=e1;obtain⟨t',rfl⟩:=e2;exact sv.texts A s a t b t'
   | _=>simp[gH]at cm
  | _=>simp[gH]at cm
 | succ n ih =>
  intro A x y vx vy u v hu r1 e1 r2 e2 o1 o2 cm
  have hu0:A.units<cLine:=by lia
  have hu1:A.in1.units+n<cLine:=by show A.units+1+n<cLine;lia
  have lex:∀(ds es:List D) (vs ws:List V) (its jts:List Value),Reps X.K ρ H ds vs->au vs its->Reps X.K ρ H es ws->au ws jts->ds.all (okD M n)=true->es.all (okD M n)=true->vZ (eqD M n) (gH M n) ds es=true ->
    LexAt A.in1 s its jts (oG (eqD M n) (ltD M n) ds es):=by
   intro ds
   induction ds with
   | nil =>
    intro es vs ws its jts p1 q1 p2 q2 _ _ _
    cases p1;cases q1
    cases p2 with
    | nil=>cases q2;exact .nn
    | cons _ _=>cases q2;exact .nc
   | cons d ds hi =>
    intro es vs ws its jts p1 q1 p2 q2 k1 k2 k3
    cases p1 with
    | cons a1 p1 =>
     cases q1 with
     | cons b1 q1 =>
      cases p2 with
      | nil=>cases q2;exact .cn
      | @cons e _ es' _ a2 p2 =>
       cases q2 with
       | cons b2 q2 =>
        rw[ABI,AAO]at k1 k2
        have he:=(gD I sm n A.in1 d _ _ _ _ _ hu1 a1 b1 a2 b2 k1.1 k2.1).1
        rw[oG]
        rw[vZ]at k3
        by_cases hq:eqD M n d e=true
        ·rw[hq]at he
         rw[if_pos hq]at k3 ⊢
         exact .eq he (hi _ _ _ _ _ p1 q1 p2 q2 k1.2 k2.2 k3)
        ·have hq':=ABP.mpr hq
         rw[hq']at he
         rw[if_neg hq]at k3 ⊢
         exact .ne he (ih A.in1 _ _ _ _ _ _ hu1 a1 b1 a2 b2 k1.1 k2.1 k3)
  cases r1 with
  | int a =>
   cases r2 with
   | int b=>obtain⟨t,rfl⟩:=e1;obtain⟨t',rfl⟩:=e2;exact sv.ints A s a t b t'
   | _=>simp[gH]at cm
  | str a =>
   cases r2 with
   | str b=>obtain⟨t,rfl⟩:=e1;obtain⟨t',rfl⟩:=e2;exact sv.texts A s a t b t'
   | _=>simp[gH]at cm
  | tup hq r =>
   cases r2 with
   | tup hq' r' =>
    cases e1;cases e2
    obtain⟨its,rr,pl,_⟩:=I.tuple hq
    obtain⟨jts,rr',pl',_⟩:=I.tuple hq'
    refine sv.tuples pl pl' hu0 ?_
    exact lex _ _ _ _ _ _ r rr r' rr' (by simpa [okD]using o1) (by simpa [okD]using o2) cm
   | _=>simp[gH]at cm
  | _=>simp[gH]at cm
end
noncomputable def okP:Nat->D->Bool
 | _,.int _=>true
 | _,.str _=>true
 | n+1,.tup xs=>xs.all (okP n)
 | _,_=>false
noncomputable def Ba(f:D->List Int):List D->List Int
 | []=>[0]
 | x::xs=>1::(f x++Ba f xs)
noncomputable def enc:Nat->D->List Int
 | _,.int i=>[0,i]
 | _,.str x=>1::(x.cps.toList.map (λ(c:Nat)=>(c:Int)+1)++[0])
 | n+1,.tup xs=>2::Ba (enc n) xs
 | _,_=>[3]
def bC(x y:List Int):Prop:=∀a b,x++a<y++b
theorem bC.cons(i:Int)(h:bC x y):bC (i::x) (i::y):=λa b=>AB1.mpr (.inr ⟨rfl,h a b⟩)
theorem bC.head(x y:List Int)(h:i<j):bC (i::x) (j::y):=λa b=>AB1.mpr (.inl h)
theorem bC.lt(h:bC x y):x<y:=by have:=h [] [];simpa using this
theorem bC.pre(z:List Int)(h:bC x y):bC (z++x) (z++y):=by
 induction z with
 | nil=>exact h
 | cons i z ih=>exact ih.cons i
theorem bC.more(u v:List Int)(h:bC x y):bC (x++u) (y++v):=λa b=>by
 rw[AAs,AAs]
 exact h _ _
def Tri(x y:D)(n:Nat)(l:Bool)(r:Bool):Prop:=(x=y/\l=false/\r=false)\/(x≠y/\l=true/\r=false/\bC (enc n x) (enc n y))\/(x≠y/\l=false/\r=true/\bC (enc n y) (enc n x))
theorem nC:∀(x y:List Nat),(x=y)\/(x<y/\¬y<x/\bC (x.map (λ(c:Nat)=>(c:Int)+1)++[0]) (y.map (λ(c:Nat)=>(c:Int)+1)++[0]))\/(¬x<y/\y<x/\bC (y.map (λ(c:Nat)=>(c:Int)+1)++[0]) (x.map (λ(c:Nat)=>(c:Int)+1)++[0]))
 | [],[]=>.inl rfl
 | [],c::y=>.inr (.inl ⟨List.nil_lt_cons _ _,List.not_lt_nil _,bC.head _ _ (by dsimp only;lia)⟩)
 | c::x,[]=>.inr (.inr ⟨List.not_lt_nil _,List.nil_lt_cons _ _,bC.head _ _ (by dsimp only;lia)⟩)
 | c::x,e::y=>by
  rcases ACs c e with h | h | h
  ·refine .inr (.inl ⟨AB1.mpr (.inl h),λz=>?_,bC.head _ _ (by dsimp only;lia)⟩)
   rcases AB1.mp z with z | ⟨z,_⟩<;>lia
  ·subst h
   rcases nC x y with q | ⟨q1,q2,q3⟩|⟨q1,q2,q3⟩
   ·exact .inl (by rw[q])
   ·refine .inr (.inl ⟨AB1.mpr (.inr ⟨rfl,q1⟩),λz=>?_,q3.cons _⟩)
    rcases AB1.mp z with z | ⟨_,z⟩
    ·lia
    ·exact q2 z
   ·refine .inr (.inr ⟨λz=>?_,AB1.mpr (.inr ⟨rfl,q2⟩),q3.cons _⟩)
    rcases AB1.mp z with z | ⟨_,z⟩
    ·lia
    ·exact q1 z
  ·refine .inr (.inr ⟨λz=>?_,AB1.mpr (.inl h),bC.head _ _ (by dsimp only;lia)⟩)
   rcases AB1.mp z with z | ⟨z,_⟩<;>lia
theorem DR(M:Mem):∀(n:Nat) (x y:D),okP n x=true->okP n y=true->(eqD M n x y=true↔x=y):=by
 have all:∀(n:Nat),(∀(x y:D),okP n x=true->okP n y=true->(eqD M n x y=true↔x=y))->∀(xs ys:List D),xs.all (okP n)=true->ys.all (okP n)=true->(eqL (eqD M n) xs ys=true↔xs=ys):=by
  intro n ih xs
  induction xs with
  | nil=>intro ys _ _;cases ys<;>simp[eqL]
  | cons x xs hi =>
   intro ys h1 h2
   cases ys with
   | nil=>simp[eqL]
   | cons y ys =>
    rw[ABI,AAO]at h1 h2
    rw[eqL,AAO,ih x y h1.1 h2.1,hi ys h1.2 h2.2,ADO]
 intro n
 induction n with
 | zero =>
  intro x y h1 h2
  cases x<;>simp[okP]at h1<;>cases y<;>simp[okP]at h2<;>simp[eqD]
 | succ n ih =>
  intro x y h1 h2
  cases x with
  | int a=>cases y<;>simp[okP]at h2<;>simp[eqD]
  | str a=>cases y<;>simp[okP]at h2<;>simp[eqD]
  | tup xs =>
   cases y with
   | tup ys =>
    simp only[eqD,D.tup.injEq]
    exact all n ih xs ys (by simpa [okP]using h1) (by simpa [okP]using h2)
   | int a=>simp[eqD]
   | str a=>simp[eqD]
   | _=>simp[okP]at h2
  | _=>simp[okP]at h1
theorem Cq(M:Mem):∀(n:Nat) (x:D),okP n x=true->okD M n x=true:=by
 intro n
 induction n with
 | zero=>intro x h;cases x<;>simp[okP]at h<;>rfl
 | succ n ih =>
  intro x h
  cases x with
  | int a=>rfl
  | str a=>rfl
  | tup xs =>
   simp only[okD]
   rw[AAW]
   intro y hy
   exact ih y (AAW.mp (show xs.all (okP n)=true from h) y hy)
  | _=>simp[okP]at h
theorem Bp(M:Mem):∀(n:Nat) (x y:D),okP n x=true->okP n y=true->gH M n x y=true->Tri x y n (ltD M n x y) (ltD M n y x):=by
 have base:∀(n:Nat) (a b:Int),Tri (.int a) (.int b) n (decide (a<b)) (decide (b<a)):=λn a b=>by
  have e:∀a,enc n (.int a)=[0,a]:=λa=>by cases n<;>rfl
  rcases Int.lt_trichotomy a b with h | h | h
  ·exact .inr (.inl ⟨by simp;lia,dT_ h,dF_ (by lia),by rw[e,e];exact(bC.head [] [] h).cons 0⟩)
  ·subst h;exact .inl ⟨rfl,dF_ (by lia),dF_ (by lia)⟩
  ·exact .inr (.inr ⟨by simp;lia,dF_ (by lia),dT_ h,by rw[e,e];exact(bC.head [] [] h).cons 0⟩)
 have bases:∀(n:Nat) (a b:Str),Tri (.str a) (.str b) n (nX a b) (nX b a):=λn a b=>by
  have e:∀a:Str,enc n (.str a)=1::(a.cps.toList.map (λ(c:Nat)=>(c:Int)+1)++[0]):=λa=>by cases n<;>rfl
  unfold nX
  rcases nC a.cps.toList b.cps.toList with h | ⟨h1,h2,h3⟩|⟨h1,h2,h3⟩
  ·have:a=b:=yQ h
   subst this
   exact .inl ⟨rfl,dF_ (ABF _),dF_ (ABF _)⟩
  ·exact .inr (.inl ⟨λz=>by cases z;exact h2 h1,dT_ h1,dF_ h2,by rw[e,e];exact h3.cons 1⟩)
  ·exact .inr (.inr ⟨λz=>by cases z;exact h1 h2,dF_ h1,dT_ h2,by rw[e,e];exact h3.cons 1⟩)
 intro n
 induction n with
 | zero =>
  intro x y h1 h2 h3
  cases x<;>simp[okP]at h1<;>cases y<;>simp[okP]at h2<;>first | exact base 0 _ _ | exact bases 0 _ _ | simp[gH]at h3
 | succ n ih =>
  intro x y h1 h2 h3
  have lists:∀(xs ys:List D),xs.all (okP n)=true->ys.all (okP n)=true->vZ (eqD M n) (gH M n) xs ys=true ->
    (xs=ys/\oG (eqD M n) (ltD M n) xs ys=false/\oG (eqD M n) (ltD M n) ys xs=false) \/
    (xs≠ys/\oG (eqD M n) (ltD M n) xs ys=true/\oG (eqD M n) (ltD M n) ys xs=false/\bC (Ba (enc n) xs) (Ba (enc n) ys)) \/
    (xs≠ys/\oG (eqD M n) (ltD M n) xs ys=false/\oG (eqD M n) (ltD M n) ys xs=true/\bC (Ba (enc n) ys) (Ba (enc n) xs)):=by
   intro xs
   induction xs with
   | nil =>
    intro ys _ _ _
    cases ys with
    | nil=>exact .inl ⟨rfl,rfl,rfl⟩
    | cons y ys=>exact .inr (.inl ⟨by simp,rfl,rfl,bC.head _ _ (by decide)⟩)
   | cons x xs hi =>
    intro ys h1 h2 h3
    cases ys with
    | nil=>exact .inr (.inr ⟨by simp,rfl,rfl,bC.head _ _ (by decide)⟩)
    | cons y ys =>
     rw[ABI,AAO]at h1 h2
     rw[vZ]at h3
     have qe:=DR M n x y h1.1 h2.1
     have qe':=DR M n y x h2.1 h1.1
     rw[oG,oG]
     by_cases hq:x=y
     ·subst hq
      rw[if_pos (qe.mpr rfl)]at h3
      rw[if_pos (qe.mpr rfl),if_pos (qe.mpr rfl)]
      rcases hi ys h1.2 h2.2 h3 with⟨a1,a2,a3⟩|⟨a1,a2,a3,a4⟩|⟨a1,a2,a3,a4⟩
      ·exact .inl ⟨by rw[a1],a2,a3⟩
      ·exact .inr (.inl ⟨λz=>a1 (AEL z).2,a2,a3,(a4.pre (enc n x)).cons 1⟩)
      ·exact .inr (.inr ⟨λz=>a1 (AEL z).2,a2,a3,(a4.pre (enc n x)).cons 1⟩)
     ·have n1:¬eqD M n x y=true:=λz=>hq (qe.mp z)
      have n2:¬eqD M n y x=true:=λz=>hq (qe'.mp z).symm
      rw[if_neg n1]at h3
      rw[if_neg n1,if_neg n2]
      rcases ih x y h1.1 h2.1 h3 with⟨a1,_⟩|⟨a1,a2,a3,a4⟩|⟨a1,a2,a3,a4⟩
      ·exact absurd a1 hq
      ·exact .inr (.inl ⟨λz=>hq (AEL z).1,a2,a3,(a4.more _ _).cons 1⟩)
      ·exact .inr (.inr ⟨λz=>hq (AEL z).1,a2,a3,(a4.more _ _).cons 1⟩)
  cases x with
  | int a=>cases y<;>simp[okP]at h2<;>first | exact base (n+1) _ _ | simp[gH]at h3
  | str a=>cases y<;>simp[okP]at h2<;>first | exact bases (n+1) _ _ | simp[gH]at h3
  | tup xs =>
   cases y with
   | tup ys =>
    rcases lists xs ys (by simpa [okP]using h1) (by simpa [okP]using h2) h3 with⟨a1,a2,a3⟩|⟨a1,a2,a3,a4⟩|⟨a1,a2,a3,a4⟩
    ·exact .inl ⟨by rw[a1],a2,a3⟩
    ·exact .inr (.inl ⟨λz=>a1 (D.tup.inj z),a2,a3,a4.cons 2⟩)
    ·exact .inr (.inr ⟨λz=>a1 (D.tup.inj z),a2,a3,a4.cons 2⟩)
   | _=>simp[gH]at h3
  | _=>simp[okP]at h1
theorem oA(h1:okP n x=true)(h2:okP n y=true)(h3:gH M n x y=true):ltD M n x y=decide (enc n x<enc n y):=by
 rcases Bp M n x y h1 h2 h3 with⟨a1,a2,a3⟩|⟨a1,a2,a3,a4⟩|⟨a1,a2,a3,a4⟩
 ·subst a1;rw[a2,dF_ (ABF _)]
 ·rw[a2,dT_ a4.lt]
 ·rw[a2,dF_ (λz=>ABF _ (List.lt_trans z a4.lt))]
theorem Av(h1:okP n x=true)(h2:okP n y=true)(h3:gH M n x y=true)(e:enc n x=enc n y):x=y:=by
 rcases Bp M n x y h1 h2 h3 with⟨a1,_⟩|⟨_,_,_,a4⟩|⟨_,_,_,a4⟩
 ·exact a1
 ·have:=a4.lt;rw[e]at this;exact absurd this (ABF _)
 ·have:=a4.lt;rw[e]at this;exact absurd this (ABF _)
end L2
namespace L2
open PySem PySem.Spec PyProof.Rows DL PySem.W
section
variable{X:Cx}{pins:List (Addr×Obj)}{σ:St}{H:Hp}{s:Shared}
theorem Inv.laidF(I:Inv X pins σ H s)(k:∀b u,b≠X.env.locals->s.heap.get? b=some u->h'.get? b=some u)(hn:s.heap.Ns X.env.locals m)(hn':h'.Ns X.env.locals m)
  (hp:s.heap.get? a=none) (fa:H a=none) (new:bJ X.prog X.w (upd H a o) h' a o):Inv X pins σ (upd H a o) { s with heap:=h',toks:=t' }:=by
 have nea:∀b u,s.heap.get? b=some u->b≠a:=λb u e z=>by subst z;rw[hp]at e;cases e
 refine I.step (g':=s.gens) (d':=s.drawn) (ch:=[]) (λ_ z=>nomatch z) (λb u hL _ _ e _=>k b u hL e) (λb u hL _ _ e _=>⟨u.slots,k b u hL e⟩) (λb u _ e n=>by rw[ag (nea b u e)];exact n) (λb u _ e=>?_)
  (λb xs q=>by rw[ag (ae q fa)];exact q) (λb u xs q=>by rw[ag (ae q fa)];exact q) (λb ps q=>⟨#[],by rw[ag (ae q fa),q];simp⟩) (λm' hm=>?_) (λb w q=>?_) I.bare
 ·by_cases hb:b=X.env.locals
  ·subst hb
   obtain⟨o',_,_,ho,_⟩:=hn'
   exact⟨o',ho⟩
  ·exact⟨u,k b u hb e⟩
 ·have:m=m':=funext λx=>hn.agree hm x
  subst this
  exact hn'
 ·by_cases hb:b=a
  ·subst hb
   rw[ay]at q
   cases q
   exact new
  ·rw[ag hb]at q
   refine(I.hok b w q).stay (λc v hc r=>k c v ?_ r) (λc z=>by rw[ag (ae z fa)];exact z) λc xs z=>by rw[ag (ae z fa)];exact z
   rcases hc with rfl | hc
   ·exact ae q I.free
   ·exact ae hc I.free
theorem Inv.keptF(I:Inv X pins σ H s)(k:∀b u,b≠X.env.locals->s.heap.get? b=some u->h'.get? b=some u)(hn:s.heap.Ns X.env.locals m)(hn':h'.Ns X.env.locals m):Inv X pins σ H { s with heap:=h',toks:=t' }:=by
 refine I.step (g':=s.gens) (d':=s.drawn) (ch:=[]) (λ_ z=>nomatch z) (λb u hL _ _ e _=>k b u hL e) (λb u hL _ _ e _=>⟨u.slots,k b u hL e⟩) (λb u _ e n=>n) (λb u _ e=>?_)
  (λb xs q=>q) (λb u xs q=>q) (λb ps q=>⟨#[],by rw[q];simp⟩) (λm' hm=>?_) (λb w q=>?_) I.bare
 ·by_cases hb:b=X.env.locals
  ·subst hb
   obtain⟨o',_,_,ho,_⟩:=hn'
   exact⟨o',ho⟩
  ·exact⟨u,k b u hb e⟩
 ·have:m=m':=funext λx=>hn.agree hm x
  subst this
  exact hn'
 ·refine(I.hok b w q).stay (λc v hc r=>k c v ?_ r) (λc z=>z) λc xs z=>z
  rcases hc with rfl | hc
  ·exact ae q I.free
  ·exact ae hc I.free
end
section
variable{prog:Program}{w:World}{A:Around}{E:Value->Shared->Prop}{s:Shared}
theorem mB{l:Addr}{vs:List Value}{Q:Value->Shared->Prop}(hl:s.heap.IsList l vs.toArray)(h2:vs.length<2)
  (h:∀D h' n,s.heap.objs.size<=D->(∀b o,s.heap.get? b=some o->h'.get? b=some o)->h'.get? D=some { cls:=.type "list",data:=.seq vs.toArray n }->Q (.ref D) { s with heap:=h' }) :
  wpAny (model prog w) A (call (.builtin "sorted") ([ABS l])) Q E s:=by
 have few:vs.length<=sizeLine:=by rw[ABt];lia
 refine Calls.call_function_entry kind_sorted plain_sorted entry_sorted (args_sorted1 (.ref l)) ?_
 unfold Builtin.«sorted»
 refine AA0 (m:=checkCount "sorted" 1 1 _) (AA2 (AA0 (collect_list hl (AA0 (ACt ?_ few)) few)))
 generalize hg:((s.heap.push (seqObj "list" #[] 0)).update s.heap.objs.size (AB2 (· ++ vs.toArray)))=g1
 have hsz:g1.objs.size=s.heap.objs.size+1:=by rw[<-hg,Heap.size_update,size_push']
 have k1:∀b o,s.heap.get? b=some o->g1.get? b=some o:=λb o q=>by
  have hlt:=AAH q
  rw[<-hg,ABj _ _ _ _ (AAL hlt),Heap.get?_push_ne _ _ _ (AAL hlt)]
  exact q
 show wpAny _ _ _ _ _ { s with heap:=g1.push (seqObj "list" vs.toArray 0) }
 have hoL:(g1.push (seqObj "list" vs.toArray 0)).get? g1.objs.size=some (seqObj "list" vs.toArray 0):=AAE _ rfl
 refine AA0 (AAg (AAv slot_list_sort (⟨_,hoL,rfl⟩) entry_list_sort ?body (args_list_sort (.ref _))))
 case body =>
  rw[list_sort_plain]
  refine AA0 (ADm hoL rfl ?_)
  refine AA0 (ACu hoL rfl ?_ (by rw[AAC,ABt];lia) (AAT _))
  obtain⟨e1,ho1⟩:∃e1,((g1.push (seqObj "list" vs.toArray 0)).update g1.objs.size (AB2 λ_=>(#[]:Array Value))).get? g1.objs.size=some (seqObj "list" #[] e1):=⟨_,ACQ hoL λ_=>#[]⟩
  refine AA0 (seqEpoch_at ho1 rfl (AA0 (wpAny_newTuple (AA0 (ACt (AAg ?_) (AAT _))) few)))
  dsimp only
  have hv2:vs.toArray.size<2:=by rw[AAC];exact h2
  rw[if_pos hv2,if_pos hv2]
  refine AA0 (AA2 ?_)
  rw[StateT.run_pure]
  refine AA0 (AA2 ?_)
  dsimp only
  generalize hg3:(((g1.push (seqObj "list" vs.toArray 0)).update g1.objs.size (AB2 λ_=>(#[]:Array Value))).push (seqObj "tuple" vs.toArray 0)).push (seqObj "list" #[] 0)=g3
  have ho3:g3.get? g1.objs.size=some (seqObj "list" #[] e1):=by rw[<-hg3];exact AA4 _ (AA4 _ ho1)
  have k3:∀b o,b≠g1.objs.size->s.heap.get? b=some o->g3.get? b=some o:=λb o hb q=>by
   have q1:=k1 b o q
   rw[<-hg3]
   refine AA4 _ (AA4 _ ?_)
   rw[ABj _ _ _ _ hb]
   exact AA4 _ q1
  refine AA0 (seqEpoch_at ho3 rfl ?_)
  have eo:∀us:List Value,us.length<2->(us.toArray.zip us.toArray).map (·.2)=us.toArray:=λus hu=>by
   match us,hu with
   | [],_=>simp
   | [v],_=>simp
   | _::_::_,hu=>simp at hu;lia
  have eout:(arrOf (SortSt.mk' general' (vs.toArray.zip vs.toArray) #[] 7 none)).map (·.2)=vs.toArray:=eo vs h2
  rw[eout]
  refine AA0 (ACu ho3 rfl ?_ (AAT _) (by rw[AAC,ABt];lia))
  simp only[show failedOf (SortSt.mk' general' (vs.toArray.zip vs.toArray) #[] 7 none)=none from rfl,bne_self_eq_false,AAD,if_false]
  refine AA2 ⟨_,rfl,AA2 ⟨_,rfl,?_⟩⟩
  obtain⟨c2,hc2⟩:∃c2,(g3.update g1.objs.size (AB2 λ_=>vs.toArray)).get? g1.objs.size=some (seqObj "list" vs.toArray c2):=⟨_,ACQ ho3 λ_=>vs.toArray⟩
  refine h g1.objs.size _ c2 (by lia) (λb o q=>?_) hc2
  have hb:b≠g1.objs.size:=AAL (by rw[hsz];exact ABi (AAH q))
  rw[ABj _ _ _ _ hb]
  exact k3 b o hb q
end
structure SrtOk(M:Mem)(xs:List D):Prop where
 len:xs.length<64
 ok:∀x∈xs,okP eqN x=true
 cm:∀x∈xs,∀y∈xs,gH M eqN x y=true
 kd:(∀x∈xs,∃z,x=.str z)\/(∀x∈xs,∃i,x=.int i)\/(∀x∈xs,∃z r,x=.tup (.str z::r))\/(∀x∈xs,∃i r,x=.tup (.int i::r))\/(∀x∈xs,∃z r,x=.tup (.tup z::r))
structure SrtG(M:Mem)(xs:List D):Prop where
 len:xs.length<64
 okd:∀x∈xs,okD M eqN x=true
 cm:∀x∈xs,∀y∈xs,gH M eqN x y=true
 kd:(∀x∈xs,∃z,x=.str z)\/(∀x∈xs,∃i,x=.int i)\/(∀x∈xs,∃z r,x=.tup (.str z::r))\/(∀x∈xs,∃i r,x=.tup (.int i::r))\/(∀x∈xs,∃z r,x=.tup (.tup z::r))
 od:∃en:D->List Int,∀a∈xs,∀b∈xs,ltD M eqN a b=decide (en a<en b)
theorem SrtOk.g(so:SrtOk M xs):SrtG M xs :=
 ⟨so.len,λx hx=>Cq M _ _ (so.ok x hx),so.cm,so.kd,enc eqN,λa ha b hb=>oA (so.ok a ha) (so.ok b hb) (so.cm a ha b hb)⟩
def Be(M:Mem)(ys:List D):Prop:=ys.Pairwise λa b=>ltD M eqN b a=false
def iG:DRA:=λds M Q=>match ds with
 | [.ref n]=>∃xs,am M n xs/\SrtG M xs/\∀ys,ys.Perm xs->Be M ys->Q (.ref M.length) (M++[.lst ys])
 | _=>False
theorem Reps.perm{K:AA3}{ρ:List Addr}{H:Hp}{ds:List D}{vs:List V}(r:Reps K ρ H ds vs)(is:List Nat)(hi:∀i∈is,i<ds.length):Reps K ρ H (is.map λi=>ds.getD i .non) (is.map λi=>vs.getD i .non):=by
 induction is with
 | nil=>exact .nil
 | cons i is ih =>
  have h:=hi i AAG
  obtain⟨v,e,rv⟩:=r.get (AA5 h)
  refine .cons ?_ (ih λj hj=>hi j (AA9 _ hj))
  show Rep K ρ H (ds.getD i .non) (vs.getD i .non)
  rw[AAS,AAS,e,AA5 h]
  exact rv
theorem au.perm(r:au vs us)(is:List Nat)(hi:∀i∈is,i<vs.length):au (is.map λi=>vs.getD i .non) (is.map λi=>us.getD i .none):=by
 induction is with
 | nil=>exact .nil
 | cons i is ih =>
  have h:=hi i AAG
  obtain⟨v,e,rv⟩:=eX r (AA5 h)
  refine .cons ?_ (ih λj hj=>hi j (AA9 _ hj))
  show aC (vs.getD i .non) (us.getD i .none)
  rw[AAS,AAS,e,AA5 h]
  exact rv
instance:Inhabited D:=⟨.non⟩
section
variable{X:Cx}{pins:List (Addr×Obj)}{σ:St}{H:Hp}{s:Shared}{ρ:List Addr}{M:Mem}
theorem zG(o:HO)(x:bJ P w H h a o):∃u,h.get? a=some u:=by
 cases o with
 | lst _=>obtain⟨_,_,_,_,e⟩:=x;exact⟨_,e⟩
 | tup _=>obtain⟨_,_,_,o,e,_⟩:=x;exact⟨o,e⟩
 | dK _=>obtain⟨_,_,_,_,_,_,_,e,_⟩:=x;exact⟨_,e⟩
 | dT _=>obtain⟨_,_,_,_,o,_,_,e,_⟩:=x;exact⟨o,e⟩
 | set _ _=>obtain⟨o,_,_,_,e,_⟩:=x;exact⟨_,e⟩
 | ins _ _ _=>obtain⟨_,_,_,e,_⟩:=x;exact⟨_,e⟩
 | own _=>exact x
 | xd _=>obtain⟨_,⟨_,_,_,e,_⟩,_⟩:=x;exact⟨_,e⟩
 | rng _ _=>obtain⟨_,_,_,e⟩:=x;exact⟨_,e⟩
 | frz _ _=>obtain⟨e,_⟩:=x;exact⟨_,e⟩
 | tbl _=>exact⟨_,x⟩
 | met _ _=>exact⟨_,x⟩
 | ext _=>obtain⟨_,e,_⟩:=x;exact e
theorem HOk.none(x:HOk P w H h)(e:h.get? a=none):H a=none:=by
 cases q:H a with
 | none=>rfl
 | some o =>
  exfalso
  obtain⟨u,hu⟩:=zG o (x a o q)
  rw[e]at hu;cases hu
theorem zJ(I:Inv X pins σ H s)(sm:Sim X.K ρ M H)(n:Nat)(A:Around)(hu:A.units+n<cLine):∀(ds es:List D) (vs ws:List V) (its jts:List Value),Reps X.K ρ H ds vs->au vs its->Reps X.K ρ H es ws->au ws jts->ds.all (okD M n)=true->es.all (okD M n)=true ->
  vZ (eqD M n) (gH M n) ds es=true->LexAt A s its jts (oG (eqD M n) (ltD M n) ds es):=by
 intro ds
 induction ds with
 | nil =>
  intro es vs ws its jts p1 q1 p2 q2 _ _ _
  cases p1;cases q1
  cases p2 with
  | nil=>cases q2;exact .nn
  | cons _ _=>cases q2;exact .nc
 | cons d ds hi =>
  intro es vs ws its jts p1 q1 p2 q2 k1 k2 k3
  cases p1 with
  | cons a1 p1 =>
   cases q1 with
   | cons b1 q1 =>
    cases p2 with
    | nil=>cases q2;exact .cn
    | @cons e _ es' _ a2 p2 =>
     cases q2 with
     | cons b2 q2 =>
      rw[ABI,AAO]at k1 k2
      have he:=(gD I sm n A d _ _ _ _ _ hu a1 b1 a2 b2 k1.1 k2.1).1
      rw[oG]
      rw[vZ]at k3
      by_cases hq:eqD M n d e=true
      ·rw[hq]at he
       rw[if_pos hq]at k3 ⊢
       exact .eq he (hi _ _ _ _ _ p1 q1 p2 q2 k1.2 k2.2 k3)
      ·have hq':=ABP.mpr hq
       rw[hq']at he
       rw[if_neg hq]at k3 ⊢
       exact .ne he (ym I sm n A _ _ _ _ _ _ hu a1 b1 a2 b2 k1.1 k2.1 k3)
end
section
variable{prog:Program}{w:World}{A:Around}{s:Shared}{b:Bool}{Q:Bool->Shared->Prop}
theorem xr(h:LexAt A s its jts k):∀(i:Nat),(b&&i==0)=false->(b&&i+1==0)=false->Q k s->KatLex prog w A b (decide (its.length<jts.length)) Q (its.zip jts) i s:=by
 have un:∀i:Nat,(b&&i+1==0)=false:=λi=>by cases b<;>simp
 induction h with
 | nn=>intro i _ _ q;exact q
 | nc=>intro i _ _ q;exact(show Q (decide (0<_+1)) s by rw[dT_ (Nat.succ_pos _)];exact q)
 | cn=>intro i _ _ q;exact(show Q (decide (_+1<0)) s by rw[dF_ (ABW _)];exact q)
 | @eq x y xs ys k he t ih =>
  intro i hb _ q
  refine kat_cons (he prog w _ _ (kat_yes ?_))
  have:=ih (i+1) (un i) (un (i+1)) q
  rw[show decide ((x::xs).length<(y::ys).length)=decide (xs.length<ys.length) by simp]
  exact this
 | @ne x y xs ys k he t =>
  intro i hb _ q
  refine kat_cons (he prog w _ _ (kat_no ?_))
  rw[hb]
  exact kat_one _ _ (t prog w _ _ q)
theorem uV(he:ABx A s p q e)(hl:e=false->∀Q':Bool->Shared->Prop,Q' l s->wpAny (model prog w) A (oneLt' (b&&0==0) p q) Q' (λ_ _=>False) s)(ht:e=true->LexAt A s its jts k)(h:Q (if e=true then k else l) s) :
  KatLex prog w A b (decide ((p::its).length<(q::jts).length)) Q ((p::its).zip (q::jts)) 0 s:=by
 refine kat_cons (he prog w _ _ ?_)
 cases e with
 | true =>
  refine kat_yes ?_
  rw[show decide ((p::its).length<(q::jts).length)=decide (its.length<jts.length) by simp]
  exact xr (ht rfl) 1 (by cases b<;>rfl) (by cases b<;>rfl) h
 | false=>exact kat_no (hl rfl _ h)
end
section
variable{X:Cx}{pins:List (Addr×Obj)}{σ:St}{H:Hp}{s:Shared}{ρ:List Addr}{M:Mem}
theorem mR{M:Model}{h:Heap}{x:Str}{t:Tok}:Looks M h (typeOf (.str x t)) (.type "str"):=Looks.of_pure rfl
theorem mS{M:Model}{h:Heap}{x:Int}{t:Tok}:Looks M h (typeOf (.int x t)) (.type "int"):=Looks.of_pure rfl
theorem Reps.getD'(r:Reps X.K ρ H ds vs)(rr:au vs its)(h:i<ds.length):∃v,Rep X.K ρ H (ds.getD i default) v/\aC v (its.getD i .none)/\ds.getD i default∈ds:=by
 obtain⟨v,e,rv⟩:=r.get (AA5 h)
 obtain⟨u,e',ru⟩:=eX rr e
 refine⟨v,?_,?_,?_⟩
 ·rw[AAS,AA5 h];exact rv
 ·rw[AAS,e'];exact ru
 ·rw[AAS,AA5 h];exact AB4 h
theorem Reps.mem(r:Reps X.K ρ H ds vs)(rr:au vs its)(h:u∈its):∃d v,d∈ds/\Rep X.K ρ H d v/\aC v u:=by
 induction ds generalizing vs its with
 | nil=>cases r;cases rr;cases h
 | cons d0 ds ih =>
  cases r with
  | cons r1 r =>
   cases rr with
   | cons q1 q =>
    rcases(AAK (a:=u)).mp h with rfl | h
    ·exact⟨_,_,AAG,r1,q1⟩
    ·obtain⟨d,v,h1,h2,h3⟩:=ih r q h
     exact⟨d,v,AA9 _ h1,h2,h3⟩
theorem oR(I:Inv X pins σ H s)(r:Reps X.K ρ H xs ws)(rr:au ws its)(hx:∀x∈xs,∃f r,x=.tup (f::r)) :
  ∃fs,KatTups s.heap its fs/\fs.length=its.length/\∀u∈fs,∃d v,Rep X.K ρ H d v/\aC v u/\∃r,D.tup (d::r)∈xs:=by
 induction xs generalizing ws its with
 | nil=>cases r;cases rr;exact⟨[],.nil,rfl,λ_ z=>nomatch z⟩
 | cons d ds ih =>
  cases r with
  | cons r1 r =>
   cases rr with
   | cons q1 q =>
    obtain⟨fs,h1,h2,h3⟩:=ih r q λx hx'=>hx x (AA9 _ hx')
    obtain⟨f,ax,rfl⟩:=hx d AAG
    cases r1 with
    | tup hq rs =>
     cases q1
     obtain⟨its,rv,pl,hz⟩:=I.tuple hq
     cases rs with
     | cons a1 rs =>
      cases rv with
      | cons b1 rv =>
       obtain⟨o,ho,hc,n,hd⟩:=pl
       refine⟨_::fs,.cons ho hc hd rfl h1,by simp[h2],λu hu=>?_⟩
       rcases AAK.mp hu with rfl | hu
       ·exact⟨_,_,a1,b1,_,AAG⟩
       ·obtain⟨d,v,e1,e2,r',e3⟩:=h3 u hu
        exact⟨d,v,e1,e2,r',AA9 _ e3⟩
noncomputable def ltc(M:Mem)(xs:List D)(i j:Nat):Bool:=ltD M eqN (xs.getD i default) (xs.getD j default)
theorem iC(I:Inv X pins σ H s)(sm:Sim X.K ρ M H){xs:List D}{ws:List V}{its:List Value}(so:SrtG M xs)(r:Reps X.K ρ H xs ws)(rr:au ws its)(h2:2<=its.length){A:Around}(hu:A.units+eqN<cLine) :
  wpAny (model X.prog X.w) A (keyKind' its.toArray) (λκ s'=>s'=s/\∀i j (C:Bool->Shared->Prop),i<its.length->j<its.length->C (ltc M xs i j) s->kas_ask X.prog X.w A κ its i j C s) (λ_ _=>False) s:=by
 have lw:=r.length
 have li:=rr.length
 have le:xs.length=its.length:=by lia
 have tups:∀(b:Bool),(∀x∈xs,∃f r,x=.tup (f::r))->(∀(f g:D) (vf vg:V) (p q:Value) (r r':List D),D.tup (f::r)∈xs->D.tup (g::r')∈xs->Rep X.K ρ H f vf->aC vf p->Rep X.K ρ H g vg->aC vg q ->
   (eqD M 29 f g=false->∀Q':Bool->Shared->Prop,Q' (ltD M 29 f g) s->wpAny (model X.prog X.w) A (oneLt' (b&&0==0) p q) Q' (λ_ _=>False) s)) ->
   ∀i j (C:Bool->Shared->Prop),i<its.length->j<its.length->C (ltc M xs i j) s->kas_ask X.prog X.w A (tuples' b) its i j C s:=by
  intro b hx hone i j C hi hj hc
  unfold kas_ask
  obtain⟨v1,r1,e1,m1⟩:=r.getD' rr (show i<xs.length by lia)
  obtain⟨v2,r2,e2,m2⟩:=r.getD' rr (show j<xs.length by lia)
  unfold ltc at hc
  have k1:=so.okd _ m1
  have k2:=so.okd _ m2
  have k3:=so.cm _ m1 _ m2
  generalize xs.getD i default=x at *
  generalize xs.getD j default=y at *
  obtain⟨f,rf,rfl⟩:=hx _ m1
  obtain⟨g,rg,rfl⟩:=hx _ m2
  cases r1 with
  | tup hq rs =>
   cases r2 with
   | tup hq' rs' =>
    generalize its.getD i .none=u1 at *
    generalize its.getD j .none=u2 at *
    cases e1;cases e2
    obtain⟨as,ra,pa,_⟩:=I.tuple hq
    obtain⟨bs,rb,pb,_⟩:=I.tuple hq'
    obtain⟨o,ho,_,n,hd⟩:=pa
    obtain⟨o',ho',_,n',hd'⟩:=pb
    refine kat_lt ho hd ho' hd' ?_
    cases rs with
    | cons a1 rs =>
     cases ra with
     | @cons _ p _ la b1 ra =>
      cases rs' with
      | cons a2 rs' =>
       cases rb with
       | @cons _ q _ lb b2 rb =>
        have hu':A.units+29<cLine:=by have:eqN=30:=rfl;lia
        have z1:okD M 29 f=true/\rf.all (okD M 29)=true:=by
         have:(f::rf).all (okD M 29)=true:=k1
         rwa [ABI,AAO]at this
        have z2:okD M 29 g=true/\rg.all (okD M 29)=true:=by
         have:(g::rg).all (okD M 29)=true:=k2
         rwa [ABI,AAO]at this
        have z3:(if eqD M 29 f g=true then vZ (eqD M 29) (gH M 29) rf rg else gH M 29 f g)=true:=k3
        have he:=(gD I sm 29 A _ _ _ _ _ _ hu' a1 b1 a2 b2 z1.1 z2.1).1
        have hc':C (if eqD M 29 f g=true then oG (eqD M 29) (ltD M 29) rf rg else ltD M 29 f g) s:=hc
        cases hq3:eqD M 29 f g with
        | true =>
         rw[hq3]at he hc' z3
         have:=uV (prog:=X.prog) (w:=X.w) (b:=b) (Q:=C) (l:=true) he (λz=>nomatch z) (λ_=>zJ I sm 29 A hu' _ _ _ _ _ _ rs ra rs' rb z1.2 z2.2 z3) hc'
         simpa using this
        | false =>
         rw[hq3]at he hc'
         have:=uV (prog:=X.prog) (w:=X.w) (b:=b) (Q:=C) (l:=ltD M 29 f g) (its:=la) (jts:=lb) (k:=true) he (λ_=>hone f g _ _ _ _ _ _ m1 m2 a1 b1 a2 b2 hq3) (λz=>nomatch z) hc'
         simpa using this
 have fin:∀(κ:SortKind),(∀i j (C:Bool->Shared->Prop),i<its.length->j<its.length->C (ltc M xs i j) s->kas_ask X.prog X.w A κ its i j C s)->(s=s/\∀i j (C:Bool->Shared->Prop),i<its.length->j<its.length->C (ltc M xs i j) s->kas_ask X.prog X.w A κ its i j C s):=λκ h=>⟨rfl,h⟩
 have eqn:A.units+29<cLine:=by have:eqN=30:=rfl;lia
 rcases so.kd with hk | hk | hk | hk | hk
 ·refine kas_kind (T:=.type "str") h2 (λu hu=>?_) (by decide) (by decide) (fin _ λi j C hi hj hc=>?_)
  ·obtain⟨d,v,m1,r1,e1⟩:=r.mem rr hu
   obtain⟨z,rfl⟩:=hk d m1
   cases r1
   obtain⟨t,rfl⟩:=e1
   exact mR
  ·unfold kas_ask
   obtain⟨v1,r1,e1,m1⟩:=r.getD' rr (show i<xs.length by lia)
   obtain⟨v2,r2,e2,m2⟩:=r.getD' rr (show j<xs.length by lia)
   unfold ltc at hc
   obtain⟨z,hz⟩:=hk _ m1
   obtain⟨z',hz'⟩:=hk _ m2
   rw[hz]at r1 hc
   rw[hz']at r2 hc
   cases r1;cases r2
   obtain⟨t,h1⟩:=e1
   obtain⟨t',h2⟩:=e2
   rw[h1,h2]
   exact kas_lt_str hc
 ·refine kas_kind (T:=.type "int") h2 (λu hu=>?_) (by decide) (by decide) (fin _ λi j C hi hj hc=>?_)
  ·obtain⟨d,v,m1,r1,e1⟩:=r.mem rr hu
   obtain⟨z,rfl⟩:=hk d m1
   cases r1
   obtain⟨t,rfl⟩:=e1
   exact mS
  ·unfold kas_ask
   obtain⟨v1,r1,e1,m1⟩:=r.getD' rr (show i<xs.length by lia)
   obtain⟨v2,r2,e2,m2⟩:=r.getD' rr (show j<xs.length by lia)
   unfold ltc at hc
   obtain⟨z,hz⟩:=hk _ m1
   obtain⟨z',hz'⟩:=hk _ m2
   rw[hz]at r1 hc
   rw[hz']at r2 hc
   cases r1;cases r2
   obtain⟨t,h1⟩:=e1
   obtain⟨t',h2⟩:=e2
   rw[h1,h2]
   exact kat_lt_int hc
 ·obtain⟨fs,t1,t2,t3⟩:=oR I r rr λx hx=>(hk x hx).elim λz ⟨r,e⟩=>⟨_,_,e⟩
  refine kat_kind (T:=.type "str") t1 (by lia) (λu hu=>?_) (by decide) (fin _ (tups _ (λx hx=>(hk x hx).elim λz ⟨r,e⟩=>⟨_,_,e⟩) λf g vf vg p q r r' m1 m2 r1 e1 r2 e2 hq Q' h=>?_))
  ·obtain⟨d,v,r1,e1,r',m1⟩:=t3 u hu
   obtain⟨z,r'',e⟩:=hk _ m1
   cases e
   cases r1
   obtain⟨t,rfl⟩:=e1
   exact mR
  ·obtain⟨z,_,e⟩:=hk _ m1
   cases e
   obtain⟨z',_,e'⟩:=hk _ m2
   cases e'
   cases r1;cases r2
   obtain⟨t,rfl⟩:=e1
   obtain⟨t',rfl⟩:=e2
   exact oneLt_str h
 ·obtain⟨fs,t1,t2,t3⟩:=oR I r rr λx hx=>(hk x hx).elim λz ⟨r,e⟩=>⟨_,_,e⟩
  refine kat_kind (T:=.type "int") t1 (by lia) (λu hu=>?_) (by decide) (fin _ (tups _ (λx hx=>(hk x hx).elim λz ⟨r,e⟩=>⟨_,_,e⟩) λf g vf vg p q r r' m1 m2 r1 e1 r2 e2 hq Q' h=>?_))
  ·obtain⟨d,v,r1,e1,r',m1⟩:=t3 u hu
   obtain⟨z,r'',e⟩:=hk _ m1
   cases e
   cases r1
   obtain⟨t,rfl⟩:=e1
   exact mS
  ·obtain⟨z,_,e⟩:=hk _ m1
   cases e
   obtain⟨z',_,e'⟩:=hk _ m2
   cases e'
   cases r1;cases r2
   obtain⟨t,rfl⟩:=e1
   obtain⟨t',rfl⟩:=e2
   exact oneLt_int h
 ·obtain⟨fs,t1,t2,t3⟩:=oR I r rr λx hx=>(hk x hx).elim λz ⟨r,e⟩=>⟨_,_,e⟩
  refine kat_kind (T:=.type "tuple") t1 (by lia) (λu hu=>?_) (by decide) (fin _ (tups _ (λx hx=>(hk x hx).elim λz ⟨r,e⟩=>⟨_,_,e⟩) λf g vf vg p q r r' m1 m2 r1 e1 r2 e2 hq Q' h=>?_))
  ·obtain⟨d,v,r1,e1,r',m1⟩:=t3 u hu
   obtain⟨z,r'',e⟩:=hk _ m1
   cases e
   cases r1 with
   | tup hq rs =>
    cases e1
    obtain⟨_,_,pl,_⟩:=I.tuple hq
    obtain⟨o,ho,hc,_⟩:=pl
    rw[<-hc]
    exact(show Looks _ s.heap (typeOf (.ref _)) o.cls from(Looks.ld ho).andThen .now)
  ·have k1:okD M 29 f=true:=by
    have:(f::r).all (okD M 29)=true:=so.okd _ m1
    rw[ABI,AAO]at this
    exact this.1
   have k2:okD M 29 g=true:=by
    have:(g::r').all (okD M 29)=true:=so.okd _ m2
    rw[ABI,AAO]at this
    exact this.1
   have k3:(if eqD M 29 f g=true then vZ (eqD M 29) (gH M 29) r r' else gH M 29 f g)=true:=so.cm _ m1 _ m2
   rw[hq]at k3
   exact kat_one _ _ (ym I sm 29 A _ _ _ _ _ _ eqn r1 e1 r2 e2 k1 k2 k3 _ _ _ _ h)
end
section
variable{X:Cx}{pins:List (Addr×Obj)}{σ:St}{H:Hp}{s:Shared}{ρ:List Addr}{M:Mem}
theorem zx(so:SrtG M xs):(∀a∈xs,ltD M eqN a a=false)/\(∀a∈xs,∀b∈xs,∀d∈xs,ltD M eqN a b=true->ltD M eqN b d=true->ltD M eqN a d=true)/\∀a∈xs,∀b∈xs,∀d∈xs,ltD M eqN a d=true->ltD M eqN a b=true\/ltD M eqN b d=true:=by
 obtain⟨en,e⟩:=so.od
 refine⟨λa ha=>?_,λa ha b hb d hd h1 h2=>?_,λa ha b hb d hd h=>?_⟩
 ·rw[e a ha a ha,dF_ (ABF _)]
 ·rw[e a ha b hb,decide_eq_true_eq]at h1
  rw[e b hb d hd,decide_eq_true_eq]at h2
  rw[e a ha d hd,decide_eq_true_eq]
  exact List.lt_trans h1 h2
 ·rw[e a ha d hd,decide_eq_true_eq]at h
  rw[e a ha b hb,e b hb d hd,decide_eq_true_eq,decide_eq_true_eq]
  by_cases z:en a<en b
  ·exact .inl z
  ·have z':en b<=en a:=z
   exact .inr (List.lt_of_le_of_lt z' h)
theorem wk{k:Nat}{l:Addr}{xs:List D}{ws:List V}{its:List Value}{R:VK}(hr:Room k X.A)(I:Inv X pins σ H s)(sm:Sim X.K ρ M H)(so:SrtG M xs)(r:Reps X.K ρ H xs ws)(rr:au ws its)(hl:s.heap.IsList l its.toArray)(hz:ws.length<=sizeLine)(h2:2<=its.length)(h64:its.length<64)
  (hne:l≠X.env.locals) (kk:∀v H',((∀Q:DK,(∀ys,ys.Perm xs->Be M ys->Q (.ref M.length) (M++[.lst ys]))->VQ X.K ρ H Q v H'))->R v H') :
  wpAny (model X.prog X.w) X.A (call (.builtin "sorted") [.ref l]) (EP X pins σ R) X.xe s:=by
 obtain⟨m,hn,hm⟩:=I.loc
 have lw:=r.length
 have li:=rr.length
 obtain⟨ol,hol,_⟩:=id hl
 have mem:∀a o,(a,o)∈[]++(l,ol)::Att.ledger s.heap X.env.locals l↔a≠X.env.locals/\s.heap.get? a=some o:=λa o=>by
  rw[AB6,AAK,Att.mem_ledger]
  constructor
  ·rintro(h | ⟨h1,_,h3⟩)
   ·cases h;exact⟨hne,hol⟩
   ·exact⟨h1,h3⟩
  ·rintro⟨h1,h2⟩
   by_cases hal:a=l
   ·subst hal
    rw[hol]at h2;cases h2
    exact .inl rfl
   ·exact .inr ⟨h1,hal,h2⟩
 refine kat_sorted (Att.fr_all hn) (Att.news_ledger hne hol) hl h2 h64 λD e1 h' F' N' lt=>?_
 have kp:∀b u,b≠X.env.locals->s.heap.get? b=some u->h'.get? b=some u:=λb u hb e=>(N' (b,u) (AA9 _ ((mem b u).mpr ⟨hb,e⟩))).1
 have hDL:D≠X.env.locals:=(N' _ AAG).2.1
 have hD:s.heap.get? D=none:=by
  cases q:s.heap.get? D with
  | none=>rfl
  | some o=>exact absurd (lt (D,o) ((mem D o).mpr ⟨hDL,q⟩)) (AAk _)
 have I':Inv X pins σ H { s with heap:=h' }:=I.keptF (t':=s.toks) kp hn F'.ns
 have hu:X.A.in1.in1.units+eqN<cLine:=by
  have:=hr.un
  have:eqN=30:=rfl
  show X.A.units+1+1+eqN<cLine
  lia
 refine AAo (iC I' sm so r rr h2 hu) (λκ s' hk=>?_) λ_ _ x=>x
 obtain⟨rfl,hask⟩:=hk
 refine Srt.wp_run (n:=its.length) (c:=λi j=>if i<xs.length then(if j<xs.length then ltD M eqN (xs.getD i default) (xs.getD j default)else true)else false) (λi j C hi hj hc=>?_) _ (Srt.sort_bd (by lia)).1 ?_
 ·refine hask i j C hi hj ?_
  rw[if_pos (by lia),if_pos (by lia)]at hc
  exact hc
 ·have hent:=Srt.All.run (c:=λi j=>if i<xs.length then(if j<xs.length then ltD M eqN (xs.getD i default) (xs.getD j default)else true)else false) _ (Srt.sort_bd (n:=its.length) (by lia)).2
  obtain⟨o1,o2,o3⟩:=zx so
  have hsl:=Srt.sort_list xs (by lia) o1 o2 o3
  try dsimp only at hsl
  rw[show xs.length=its.length by lia]at hsl hent ⊢
  generalize Srt.run _ (ADj its.length)=p at hent hsl ⊢
  have hi:∀i∈p.toList,i<xs.length:=λi h=>by
   have:=hent.mem_iff.mp h
   rw[AAu]at this
   lia
  refine KasFin.intro F' N' (UpdF.head λq hq=>AAL (lt q hq)) λh2 c F2 N2=>?_
  have r':=r.perm p.toList hi
  have rr':=rr.perm p.toList (λi h=>by have:=hi i h;lia)
  have hD':H D=none:=HOk.none I.hok hD
  refine⟨.ref D,_,I.laidF (t':=s.toks) (o:=.lst (p.toList.map λi=>ws.getD i .non)) (λb u hb e=>(N2 (b,u) (AA9 _ ((mem b u).mpr ⟨hb,e⟩))).1) hn F2.ns hD hD' ⟨?_,_,c,rr',(N2 _ AAG).1⟩,rfl,
   kk _ _ λQ hQ=>VQ.laidL sm .refl r' hD' (hQ _ hsl.1 hsl.2)⟩
  rw[AA6]
  have:=hsl.1.length_eq
  rw[AA6]at this
  lia
end
theorem Inv.sqL_ne(I:Inv X pins σ H s)(h:SqL X.K H a xs):a≠X.env.locals:=by
 rcases h with h | ⟨o,its,n,hk,_⟩
 ·rcases h with h | ⟨_,h⟩
  ·exact ae h I.free
  ·exact ae h I.free
 ·have:=AAH (I.mod.kin a o hk)
  exact AAL (AAR this (AB3 I.ok.bsz I.ok.above))
section
variable{X:Cx}
theorem vN(hr:Room k X.A):nM X (.builtin "sorted") iG:=by
 rintro pins s σ H vs us R I rv ⟨ds,M,ρ,Q,sm,rs,q,kk⟩
 unfold iG at q
 split at q
 ·obtain⟨xs,hL,so,q⟩:=q
  cases rs with
  | cons r1 rs =>
   cases rs
   obtain⟨u,rfl,e1⟩:=au.one rv
   cases r1 with
   | ref e =>
    cases e1
    obtain⟨ws,hq,r⟩:=am.seq sm hL e
    obtain⟨its,rr,pl,hz⟩:=I.list hq
    have lw:=r.length
    have li:=rr.length
    by_cases h2:its.length<2
    ·refine mB pl.isList h2 λD h' n hD hk ho=>?_
     refine⟨.ref D,_,I.laid (t':=s.toks) (o:=.lst ws) hk hD ⟨hz,its,n,rr,ho⟩,rfl,kk _ _ (VQ.laidL sm .refl r (I.hok.fresh hD) (q xs (ACe _) ?_))⟩
     unfold Be
     match xs,(show xs.length<2 by lia) with
     | [],_=>exact ACq
     | [x],_=>exact ADP _ _
     | _::_::_,hx=>simp at hx;lia
    ·have h2':2<=its.length:=by lia
     have h64:its.length<64:=by have:=so.len;lia
     exact wk hr I sm so r rr pl.isList hz h2' h64 (I.sqL_ne hq) λv H' x=>kk v H' (x Q q)
 ·exact q.elim
end
structure ZA(z TI TO i1 i2:Addr)(f1 f2:List Addr):Prop where
 nd:[z,TI,TO,i1,i2].Nodup
 z1:z∉f1
 o1:TO∉f1
 y1:i2∉f1
 z2:z∉f2
 o2:TO∉f2
 x2:i1∉f2
section
variable{X:Cx}{pins:List (Addr×Obj)}{σ:St}{H:Hp}{s:Shared}{h':Heap}
theorem Inv.turnedL{t':Nat}{fp:List Addr}(I:Inv X pins σ H s)(hf:∀b∈fp,sD X pins H b)(k:∀b o,b∉fp->s.heap.get? b=some o->h'.get? b=some o):Inv X pins σ H { s with heap:=h',toks:=t' }:=by
 have nfp:∀b u,H b=some u->b∉fp:=λb u e z=>by rw[(hf b z).1]at e;cases e
 refine I.step (g':=s.gens) (d':=s.drawn) (ch:=fp) (λb hb=>⟨(hf b hb).2.2.2.1,(hf b hb).2.1,(hf b hb).2.2.2.2.1,(hf b hb).2.2.2.2.2⟩) (λb o _ _ hc e _=>k b o hc e) (λb o _ _ hc e _=>⟨o.slots,k b o hc e⟩) (λ_ _ _ _ n=>n)
  (λb o hc e=>⟨o,k b o hc e⟩) (λ_ _ e=>e) (λ_ _ _ e=>e) (λb ps e=>⟨#[],by rw[e];simp⟩) (λm hm=>?_) (λb u e=>?_) I.bare
 ·obtain⟨o,es,ep,ho,r⟩:=hm
  exact⟨o,es,ep,k _ o (λz=>(hf _ z).2.1 rfl) ho,r⟩
 ·refine(I.hok b u e).stay (λc v hc q=>k c v ?_ q) (λ_ q=>q) λ_ _ q=>q
  rcases hc with rfl | z
  ·exact nfp _ u e
  ·exact nfp _ _ z
end
noncomputable def zipD(xs ys:List D):List D:=(xs.zip ys).map λp=>.tup [p.1,p.2]
def RowAt(M:Mem)(x:D)(xs:List D)(ok:Mem->Prop):Prop:=match x with
 | .tup ds=>xs=ds/\ok=λ_=>True
 | .ref n=>am M n xs/\ok=λM=>am M n xs
 | _=>False
section
variable{prog:Program}{w:World}{A:Around}{E:Value->Shared->Prop}{s:Shared}
theorem oE{D:Addr}{vs:List Value}{n:Nat}{Q:Value->Shared->Prop}(ho:s.heap.get? D=some (seqObj "list" vs.toArray n))(h2:vs.length<2)
  (h:∀h' c,(∀b o,b≠D->s.heap.get? b=some o->h'.get? b=some o)->h'.get? D=some (seqObj "list" vs.toArray c)->Q .none { s with heap:=h' }):wpAny (model prog w) A (call (.builtin "list.sort") [.ref D]) Q E s:=by
 have few:vs.length<=sizeLine:=by rw[ABt];lia
 refine AAv slot_list_sort (⟨_,ho,rfl⟩) entry_list_sort ?_ (args_list_sort (.ref D))
 rw[list_sort_plain]
 refine AA0 (ADm ho rfl (AA0 (ACu ho rfl ?_ (by rw[AAC];exact few) (AAT _))))
 obtain⟨e1,ho1⟩:∃e1,(s.heap.update D (AB2 λ_=>(#[]:Array Value))).get? D=some (seqObj "list" #[] e1):=⟨_,ACQ ho λ_=>#[]⟩
 refine AA0 (seqEpoch_at ho1 rfl (AA0 (wpAny_newTuple (AA0 (ACt (AAg ?_) (AAT _))) few)))
 dsimp only
 have hv2:vs.toArray.size<2:=by rw[AAC];exact h2
 rw[if_pos hv2,if_pos hv2]
 refine AA0 (AA2 ?_)
 rw[StateT.run_pure]
 refine AA0 (AA2 ?_)
 dsimp only
 generalize hg3:((s.heap.update D (AB2 λ_=>(#[]:Array Value))).push (seqObj "tuple" vs.toArray 0)).push (seqObj "list" #[] 0)=g3
 have ho3:g3.get? D=some (seqObj "list" #[] e1):=by rw[<-hg3];exact AA4 _ (AA4 _ ho1)
 have k3:∀b o,b≠D->s.heap.get? b=some o->g3.get? b=some o:=λb o hb q=>by
  rw[<-hg3]
  refine AA4 _ (AA4 _ ?_)
  rw[ABj _ _ _ _ hb]
  exact q
 refine AA0 (seqEpoch_at ho3 rfl ?_)
 have eo:∀us:List Value,us.length<2->(us.toArray.zip us.toArray).map (·.2)=us.toArray:=λus hu=>by
  match us,hu with
  | [],_=>simp
  | [v],_=>simp
  | _::_::_,hu=>simp at hu;lia
 have eout:(arrOf (SortSt.mk' general' (vs.toArray.zip vs.toArray) #[] 7 none)).map (·.2)=vs.toArray:=eo vs h2
 rw[eout]
 refine AA0 (ACu ho3 rfl ?_ (AAT _) (by rw[AAC];exact Nat.le_succ_of_le few))
 simp only[show failedOf (SortSt.mk' general' (vs.toArray.zip vs.toArray) #[] 7 none)=none from rfl,bne_self_eq_false,AAD,if_false]
 obtain⟨c2,hc2⟩:∃c2,(g3.update D (AB2 λ_=>vs.toArray)).get? D=some (seqObj "list" vs.toArray c2):=⟨_,ACQ ho3 λ_=>vs.toArray⟩
 refine AA2 ⟨_,rfl,h _ c2 (λb o hb q=>?_) hc2⟩
 rw[ABj _ _ _ _ hb]
 exact k3 b o hb q
end
section
variable{X:Cx}{pins:List (Addr×Obj)}{σ:St}{H:Hp}{s:Shared}{ρ:List Addr}{M:Mem}
theorem yS{k:Nat}{D:Addr}{xs:List L2.D}{ws:List V}{its:List Value}{R:VK}{h1:Heap}{tk n:Nat}{m:Str->Option Value}{A:Around}{E:Value->Shared->Prop}(hr:Room k X.A)(hA:A.units<=X.A.units+4)(I:Inv X pins σ H s)(sm:Sim X.K ρ M H)(so:SrtG M xs)(r:Reps X.K ρ H xs ws)(rr:au ws its)
  (hn:s.heap.Ns X.env.locals m) (hn1:h1.Ns X.env.locals m) (kp1:∀b u,b≠X.env.locals->s.heap.get? b=some u->h1.get? b=some u) (hD:s.heap.get? D=none) (hne:D≠X.env.locals) (ho:h1.get? D=some (seqObj "list" its.toArray n))
  (kk:∀v H',((∀Q:DK,(∀ys,ys.Perm xs->Be M ys->Q (.ref M.length) (M++[.lst ys]))->VQ X.K ρ H Q v H'))->R v H') :
  wpAny (model X.prog X.w) A (call (.builtin "list.sort") [.ref D]) (λ_ s'=>EP X pins σ R (.ref D) s') E { s with heap:=h1,toks:=tk }:=by
 have lw:=r.length
 have li:=rr.length
 have l64:=so.len
 have hH:H D=none:=HOk.none I.hok hD
 have neD:∀b u,s.heap.get? b=some u->b≠D:=λb u e q=>by subst q;rw[hD]at e;cases e
 by_cases h2:its.length<2
 ·refine oE ho h2 λh' c kp' ho'=>?_
  have hn':h'.Ns X.env.locals m:=by
   obtain⟨o,es,ep,e,ax⟩:=hn1
   exact⟨o,es,ep,kp' _ _ (ABO hne) e,ax⟩
  refine⟨.ref D,_,I.laidF (t':=tk) (o:=.lst ws) (λb u hb e=>kp' b u (neD b u e) (kp1 b u hb e)) hn hn' hD hH ⟨by rw[ABt];lia,its,c,rr,ho'⟩,rfl,kk _ _ λQ hQ=>VQ.laidL sm .refl r hH (hQ xs (ACe _) ?_)⟩
  unfold Be
  match xs,(show xs.length<2 by lia) with
  | [],_=>exact ACq
  | [x],_=>exact ADP _ _
  | _::_::_,hx=>simp at hx;lia
 ·have h2':2<=its.length:=by lia
  have mem:∀a o,(a,o)∈Att.ledger h1 X.env.locals D↔a≠X.env.locals/\a≠D/\h1.get? a=some o:=λa o=>Att.mem_ledger
  have U:UpdF D (seqObj "list" its.toArray n) ([]++(D,seqObj "list" its.toArray n)::Att.ledger h1 X.env.locals D) λo'=>(D,o')::Att.ledger h1 X.env.locals D:=UpdF.head λp hp=>((mem p.1 p.2).mp hp).2.1
  refine kat_lsort (s:={ s with heap:=h1,toks:=tk }) (vs:=its) (Att.fr_all hn1) (Att.news_ledger hne ho) U rfl h2' (by lia) λe1 h' F' N'=>?_
  have kp:∀b u,b≠X.env.locals->s.heap.get? b=some u->h'.get? b=some u:=λb u hb e=>(N' (b,u) (AA9 _ ((mem b u).mpr ⟨hb,neD b u e,kp1 b u hb e⟩))).1
  have I':Inv X pins σ H { s with heap:=h',toks:=tk }:=I.keptF (t':=tk) kp hn F'.ns
  have hu:A.in1.units+eqN<cLine:=by
   have:=hr.un
   have:eqN=30:=rfl
   show A.units+1+eqN<cLine
   lia
  refine AAo (iC I' sm so r rr h2' hu) (λκ s' hk=>?_) λ_ _ x=>x
  obtain⟨rfl,hask⟩:=hk
  refine Srt.wp_run (n:=its.length) (c:=λi j=>if i<xs.length then(if j<xs.length then ltD M eqN (xs.getD i default) (xs.getD j default)else true)else false) (λi j C hi hj hc=>?_) _ (Srt.sort_bd (by lia)).1 ?_
  ·refine hask i j C hi hj ?_
   rw[if_pos (by lia),if_pos (by lia)]at hc
   exact hc
  ·have hent:=Srt.All.run (c:=λi j=>if i<xs.length then(if j<xs.length then ltD M eqN (xs.getD i default) (xs.getD j default)else true)else false) _ (Srt.sort_bd (n:=its.length) (by lia)).2
   obtain⟨o1,o2,o3⟩:=zx so
   have hsl:=Srt.sort_list xs (by lia) o1 o2 o3
   try dsimp only at hsl
   rw[show xs.length=its.length by lia]at hsl hent ⊢
   generalize Srt.run _ (ADj its.length)=p at hent hsl ⊢
   have hi:∀i∈p.toList,i<xs.length:=λi h=>by
    have:=hent.mem_iff.mp h
    rw[AAu]at this
    lia
   refine KasFin.intro F' N' (UpdF.head λq hq=>((mem q.1 q.2).mp hq).2.1) λh2 c F2 N2=>?_
   have r':=r.perm p.toList hi
   have rr':=rr.perm p.toList (λi h=>by have:=hi i h;lia)
   refine⟨.ref D,_,I.laidF (t':=tk) (o:=.lst (p.toList.map λi=>ws.getD i .non)) (λb u hb e=>(N2 (b,u) (AA9 _ ((mem b u).mpr ⟨hb,neD b u e,kp1 b u hb e⟩))).1) hn F2.ns hD hH ⟨?_,_,c,rr',(N2 _ AAG).1⟩,rfl,
    kk _ _ λQ hQ=>VQ.laidL sm .refl r' hH (hQ _ hsl.1 hsl.2)⟩
   rw[AA6]
   have:=hsl.1.length_eq
   rw[AA6]at this
   rw[ABt]
   lia
end
section
variable{K:AA3}{ρ:List Addr}{H:Hp}{M:Mem}
theorem Sim.laidM(S:Sim K ρ M H)(hp:H p=none)(ok:sC K (ρ++[p]) (upd H p o) p mo):Sim K (ρ++[p]) (M++[mo]) (upd H p o):=by
 have g:Grow K ρ H (ρ++[p]) (upd H p o):=Grow.laidR hp
 have old:∀(n:Nat),ρ[n]?=some p->isK M[n]?:=λn e=>by
  rcases S.tracked e with⟨o,q⟩ | q
  ·rw[hp]at q;cases q
  ·exact q
 refine⟨λn m a hnm e1 e2=>?_,by rw[AAA,AAA,S.len];rfl,λn a mo' e1 e2=>?_⟩
 ·rcases aH e1 with f1 | ⟨f1,g1⟩
  ·rcases aH e2 with f2 | ⟨f2,g2⟩
   ·exact(S.nd n m a hnm f1 f2).elim (λz=>.inl z.more) λz=>.inr z.more
   ·subst g2
    exact .inl (old n f1).more
  ·rcases aH e2 with f2 | ⟨f2,g2⟩
   ·subst g1
    exact .inr (old m f2).more
   ·exact absurd (f1.trans f2.symm) hnm
 ·rcases aH e1 with f1 | ⟨f1,g1⟩
  ·have hn:n<M.length:=by rw[<-S.len];exact(AA7.mp f1).1
   rw[AAM hn]at e2
   exact(S.obj n a mo' f1 e2).grow g (S.keeps hp f1 e2)
  ·subst g1 f1
   rw[S.len,AAc (AA8 _),ADE]at e2
   simp at e2
   subst e2
   exact ok
end
structure HGs(X:Cx)(es:List Expr)(t:yF):Prop where
 ok:DGs X es t
section
variable{X:Cx}{e a b c o i tg:Expr}{es ax:List Expr}{te ta tb tc to ti:DTE}{t:DTA}{pos p p2 pos':Pos}{x:Str}{k:Nat}{g:DTG}{u:yF}{name:Str}{apos cpos:Pos}
theorem Aa:HGs X [] nA:=⟨AE⟩
theorem xo(h1:HG X e g)(h2:HGs X es u)(hs:(assignEach (e::es) X.env).map (·.2)=assign e X.env::(assignEach es X.env).map (·.2):=by kernel_rfl):HGs X (e::es) (cD g u):=⟨xO h1.ok h2.ok hs⟩
theorem CV(h:HGs X es u)(hc:X.calm=true:=by kernel_rfl)(hn:(assignEach es X.env).length=n:=by kernel_rfl)(hst:(assignEach es X.env).findIdx? (·.1)=none:=by kernel_rfl):HG X (.Tuple es j pos) (ny n u):=⟨Ek h.ok hc hn hst⟩
theorem CW(ho:HE X o to)(hi:HE X i ti)
  (ha:∀v,assign (.Subscript o i pos) X.env v=(do
   let ov <-holding [v] (eval o X.env)
   let iv <-holding [v,ov] (eval i X.env)
   standAt pos
   holding [v,ov,iv] (setItem ov iv v)
   release [v,ov,iv] []):=by intro _;kernel_rfl):HG X (.Subscript o i pos) (xP to ti):=⟨El ho.ok hi.ok ha⟩
theorem yw(he:HE X e te)(hg:HG X tg g)(hs:swapsWithSole [tg] e pos.line X.env=pure false:=by kernel_rfl)(hw:swappedStores [tg] e X.env=pure none:=by kernel_rfl)
  (h1:(assignEach [tg] X.env).map (·.2)=[assign tg X.env]:=by kernel_rfl):HS X (.Assign [tg] e pos) (dAsg te g):=⟨Eg he.ok hg.ok hs hw h1⟩
theorem An:HOp X (binaryOp .Add) aO:=⟨zF⟩
theorem xC:HC X (.type "tuple") fq:=⟨xW⟩
theorem va:HMl X "extend" fR:=⟨_,PySem.F.slot_list_extend,PySem.F.type_list_extend,rC⟩
def dMl0(r:Nat->DRA)(to:DTE):DTE:=λS M Q=>to S M λx M1=>match x with
 | .ref n=>(∃xs,am M1 n xs)/\r n [] M1 Q
 | _=>False
theorem k_ml0(hm:HMl X name r)(ho:HE X o to)(hbase:attributeBase o name X.env (eval o X.env)=eval o X.env:=by kernel_rfl)(hline:(apos.endLine==cpos.line)=true:=by kernel_rfl) :
  HE X (.Call (.Attribute o name apos) [] [] cpos) (dMl0 r to):=by
 obtain⟨id,h1,h2,h3⟩:=hm.ok
 refine⟨PE.imp (Cf PySem.F.plainAttrs_list h1 h2 h3 ho.ok hbase hline) ?_⟩
 rintro σ H R ⟨S,M,ρ,Q,s,sr,q,k⟩
 refine⟨S,M,ρ,_,s,sr,q,?_⟩
 rintro v H1 ⟨d,M1,ρ1,s1,g1,r1,q1⟩
 cases r1 with
 | @ref n a hn =>
  obtain⟨⟨xs,hL⟩,q1⟩:=(show (∃xs,am M1 n xs)/\r n [] M1 _ from q1)
  obtain⟨vs,hq,_⟩:=am.seq s1 hL hn
  exact⟨.inl ⟨rfl,vs,hq⟩,n,a,[],M1,ρ1,Q,rfl,hn,s1,.nil,q1,λv H' w=>k v H' (VQ.trans g1 w)⟩
 | _=>exact q1.elim
end
section
variable{X:Cx}
def Bv(nt:Nat)(js:List Nat)(wi:TI)(g:TG)(tt:TT)(te:TE)(gN:TG):TS:=λD σ H=>tLC nt js wi g tt te σ H λv H1=>gN v σ H1 D.nx
theorem wE(B:BlkSc X N' nt js scope)(hc:X.calm=true)(hi:PI X tg iter wi)
  (hg:∀cl s0 H0 ex,PG (blk X N' scope cl s0 H0 ex) tg g) (ht:∀cl s0 H0 ex,PTs (blk X N' scope cl s0 H0 ex) ifs tt) (he:∀cl s0 H0 ex,PE (blk X N' scope cl s0 H0 ex) elt te) (hn:PG X (.Name x pos') gN)
  (hs:∀x,foldedSetIterable iter X.env x=pure x) (hsw:swapsWith (.ListComp elt [⟨tg,iter,ifs,0⟩] scope pos) (some (.Name x pos')) pos2.line X.env=pure true) :
  PS X (.Assign [.Name x pos'] (.ListComp elt [⟨tg,iter,ifs,0⟩] scope pos) pos2) (Bv nt js wi g tt te gN):=by
 intro pins s σ H Dn I h
 rw[exec_Assign_Name_used _ _ _ _ hsw]
 refine AA0 (wpAny_standAt ?_)
 obtain⟨cl,ecl,hcl1,hcl2⟩:=gI (scope:=scope) (env:=X.env) λp hp hf=>I.ok.has p.1 (B.free p hp hf)
 refine AA0 (show wpAny (model X.prog X.w) X.A (comprehension (.ListComp elt [⟨tg,iter,ifs,0⟩] scope pos) scope X.env _ (newList []) false (eval iter X.env) (some (assign (.Name x pos') X.env)) >>= λ_=>pure ()) _ _ _ from AA0 ?_)
 refine wpAny_comprehension_free (use:=some (assign (.Name x pos') X.env)) (Q:=λ_ s''=>wpAny (model X.prog X.w) X.A (pure ()) (λ_ s3=>wpAny (model X.prog X.w) X.A (pure Flow.next) (SP X pins Dn) X.xe s3) X.xe s'') rfl hs ecl B.kind B.loc ?_
 refine thn (hi pins s σ H _ I h) λv s1 h1=>thn h1 λitv s2 h2=>?_
 obtain⟨it,fp,tn,J,H2,e,I2,T,st2,f2,W,⟨m0,w0⟩,turn⟩:=h2
 subst e
 refine AAr (wpAny_newFunctionEnv B.nocell (by intro y hy;simp at hy) (λh1 hns1 hsb1=>?_) B.kind)
 have hfs:∀b∈fp,b<s2.heap.objs.size:=λb hb=>by
  obtain⟨o,e,_⟩:=T.obj _ _ st2 b hb
  exact AAH e
 have hC:(s2.heap.push (bH [] 0)).objs.size=s2.heap.objs.size+1:=ABN ..
 have old:∀b o,(s2.heap.push (bH [] 0)).get? b=some o->h1.get? b=some o:=λb o e=>(hsb1.2 b (AAL (AAH e))).trans (AA4 _ e)
 have I3:=I2.blkStart (tk:=s2.toks+([]:List (Str×Value)).length) B hcl1 hcl2 f2 hfs old hns1
 have st3:tn 0 h1:=T.keep _ _ _ st2 λb _ o e=>old b o (AA4 _ e)
 have hDf:s2.heap.objs.size∉fp:=λz=>AAk _ (hfs _ z)
 have hDs:s2.heap.objs.size∉frs X.stack:=λz=>by
  rcases AAK.mp (I2.stkSub _ z)with q | q
  ·exact absurd I2.lt (by rw[<-q];exact AAk _)
  ·exact I2.nofs (AA8 _) q
 have hDC:s2.heap.objs.size≠(s2.heap.push (bH [] 0)).objs.size:=by rw[hC];exact AAL (AAt _)
 have ltc:∀z c,cl.lookup z=some c->c<s2.heap.objs.size:=λz c e=>by
  obtain⟨v,q⟩:=I2.cell z c (hcl1 z c e)
  exact q.lt
 have hstat:∀b∈fp,b≠(s2.heap.push (bH [] 0)).objs.size/\b∉frs X.stack/\∀x c,cl.lookup x=some c->c≠b:=λb hb=>by
  refine⟨by rw[hC];exact AAL (ABi (hfs b hb)),λz=>?_,λx c e=>(f2 b hb).2.2.2.2.1 x c (hcl1 x c e)⟩
  rcases AAK.mp (I2.stkSub b z)with q | q
  ·exact(f2 b hb).2.1 q
  ·exact(f2 b hb).2.2.1 q
 have leC:s2.heap.objs.size<=(s2.heap.push (bH [] 0)).objs.size:=by rw[hC];exact ADw _
 have loop:codeAny (model X.prog X.w) X.A (.compLoop (.ListComp elt [⟨tg,iter,ifs,0⟩] scope pos) 0 (.ref it) (.ref s2.heap.objs.size) (compEnvC scope cl (s2.heap.push (bH [] 0)).objs.size X.env))
   (compPost (model X.prog X.w) X.A X.xe (some (assign (.Name x pos') X.env)) (λ_ s''=>wpAny (model X.prog X.w) X.A (pure ()) (λ_ s3=>wpAny (model X.prog X.w) X.A (pure Flow.next) (SP X pins Dn) X.xe s3) X.xe s'') (.ref s2.heap.objs.size) (s2.heap.push (bH [] 0)).objs.size) { s2 with heap:=h1,toks:=s2.toks+([]:List (Str×Value)).length }:=by
  refine uG (s0:={ s2 with heap:=s2.heap.push (bH [] 0) }) (H0:=H2) (N':=N') (Q:=λv H1=>gN v σ H1 Dn.nx) hc (hg _ _ _ _) (ht _ _ _ _) (he _ _ _ _) T hDf turn hstat hDC hDs (λx c e=>AAL (ltc x c e)) ?_ m0 I3 st3 (λb hb=>(f2 b hb).1) w0
  intro τ H' s' vs its k I4 rv hl q
  obtain⟨mm,hn4,_⟩:=id I4.loc
  obtain⟨oC,es,ep,eC,ax⟩:=id hn4
  have I5:Inv X pins σ (upd H' s2.heap.objs.size (.lst vs)) s':=I2.blkEnd f2 I4 rv hl ⟨rfl,λ_ _=>rfl⟩
  have fC:upd H' s2.heap.objs.size (.lst vs) (s2.heap.push (bH [] 0)).objs.size=none:=by rw[ag (ABO hDC)];exact I4.free
  have fk:∀Hx:Hp,Hx (s2.heap.push (bH [] 0)).objs.size=none->sD X pins Hx (s2.heap.push (bH [] 0)).objs.size:=λHx hx=>I2.fpOk leC hx
  have dC:∀v,oC.data≠.cell v:=λv z=>by
   have:∃es ep,oC.data=.dict es ep:=by
    first
     | (obtain⟨d,_⟩:=ax;exact⟨_,_,d⟩)
     | (obtain⟨_,d,_⟩:=ax;exact⟨_,_,d⟩)
     | (obtain⟨_,_,d,_⟩:=ax;exact⟨_,_,d⟩)
   obtain⟨_,_,d⟩:=this
   rw[d]at z;cases z
  have I6:Inv X (pins++[((s2.heap.push (bH [] 0)).objs.size,oC)]) σ (upd H' s2.heap.objs.size (.lst vs)) s':=I5.pins_of λp hp=>by
   rcases AAl.mp hp with hp | hp
   ·exact I5.pin p (AAF _ hp)
   ·have:p=((s2.heap.push (bH [] 0)).objs.size,oC):=by simpa using hp
    subst this
    exact⟨eC,fC,(fk _ fC).2.1,(fk _ fC).2.2.1,dC⟩
  refine thn (hn _ s' σ _ (.ref s2.heap.objs.size) (.ref s2.heap.objs.size) _ I6 rfl q) ?_
  rintro _ s7 ⟨σ7,H7,I7,q7⟩
  obtain⟨p1,p2,_⟩:=I7.pin ((s2.heap.push (bH [] 0)).objs.size,oC) (AAF _ (AAF _ AAG))
  refine⟨mm,⟨oC,es,ep,p1,ax⟩,λh' sb=>AA2 (AA2 ⟨σ7,H7,?_,q7⟩)⟩
  have I8:Inv X pins σ7 H7 s7:=I7.pins_of λp hp=>I7.pin p (AAF _ (AAd _ hp))
  refine I8.turnedL (t':=s7.toks) (fp:=[(s2.heap.push (bH [] 0)).objs.size]) (λb hb=>?_) λb o hb e=>(sb.2 b (by simpa using hb)).trans e
  have:b=(s2.heap.push (bH [] 0)).objs.size:=by simpa using hb
  subst this
  exact fk H7 p2
 exact codeAny_compStart_list loop (T.self _ 0 _ _ _ st3 loop)
def jn(nt:Nat)(js:List Nat)(di:DTI)(g:DTG)(tt:DTT)(te:DTE)(i:Nat):DTS:=λE S M=>dLC nt js di g tt te S M λd M1=>aw i d S M1 E.nx
theorem xM(B:BlkSc X N' nt js scope)(hc:X.calm=true)(hi:DI X tg iter di)
  (hg:∀cl s0 H0 ex,DG (blk X N' scope cl s0 H0 ex) tg g) (ht:∀cl s0 H0 ex,PTs (blk X N' scope cl s0 H0 ex) ifs (lowT X.K tt)) (he:∀cl s0 H0 ex,DE (blk X N' scope cl s0 H0 ex) elt te) (hn:DG X (.Name x pos') (aw i))
  (hs:∀x,foldedSetIterable iter X.env x=pure x) (hsw:swapsWith (.ListComp elt [⟨tg,iter,ifs,0⟩] scope pos) (some (.Name x pos')) pos2.line X.env=pure true) :
  DS X (.Assign [.Name x pos'] (.ListComp elt [⟨tg,iter,ifs,0⟩] scope pos) pos2) (jn nt js di g tt te i) :=
 PS.imp (wE (g:=lowG X.K g) (tt:=lowT X.K tt) (te:=lowE X.K te) B hc hi (λcl s0 H0 ex=>hg cl s0 H0 ex) ht (λcl s0 H0 ex=>he cl s0 H0 ex) hn hs hsw) λE σ H ⟨S,M,ρ,F,s,sr,q,k⟩ =>
  uA σ H _ ⟨S,M,ρ,_,s,sr,q,λv H1 ⟨d,M1,ρ1,s1,g1,r1,q1⟩=>⟨d,S,M1,ρ1,_,s1,sr.grow g1,r1,q1,λσ' H' w=>k.nx σ' H' (SQ.trans g1 w)⟩⟩
theorem xi(hN:X.N.Nodup)(hi:HI X tg iter di)
  (hg:∀cl s0 H0 ex,HG (blk X N' scope cl s0 H0 ex) tg g) (ht:∀cl s0 H0 ex,HTs (blk X N' scope cl s0 H0 ex) ifs tt) (he:∀cl s0 H0 ex,HE (blk X N' scope cl s0 H0 ex) elt te) (B:kz X.env.scope.names X.N N' nt js scope=true:=by kernel_rfl) (hc:X.calm=true:=by kernel_rfl)
  (hs:∀x,foldedSetIterable iter X.env x=pure x:=by intro _;kernel_rfl) (hsw:swapsWith (.ListComp elt [⟨tg,iter,ifs,0⟩] scope pos) (some (.Name x pos')) pos2.line X.env=pure true:=by kernel_rfl)
  (hix:X.N[i]?=some x:=by kernel_rfl) (hx:AY X.env.scope x=true:=by kernel_rfl) (hf:X.fn x=true:=by kernel_rfl):HS X (.Assign [.Name x pos'] (.ListComp elt [⟨tg,iter,ifs,0⟩] scope pos) pos2) (jn nt js di g tt te i) :=
 ⟨xM (BlkSc.chk B) hc hi.ok (λcl s0 H0 ex=>(hg cl s0 H0 ex).ok) (λcl s0 H0 ex=>(ht cl s0 H0 ex).ok) (λcl s0 H0 ex=>(he cl s0 H0 ex).ok) (oW hN hix (uC hx) (.inl hf)) hs hsw⟩
end
theorem at0:atI (a::r) 0=some a:=by
 have:=az (xs:=a::r) (j:=0) (v:=a) rfl
 simpa using this
theorem at1:atI (a::b::r) 1=some b:=by
 have:=az (xs:=a::b::r) (j:=1) (v:=b) rfl
 simpa using this
theorem at2:atI (a::b::c::r) 2=some c:=by
 have:=az (xs:=a::b::c::r) (j:=2) (v:=c) rfl
 simpa using this
theorem bu.lst(h:R (.ref M.length) (M++[.lst xs]))(hn:M.length<=n)(e:(M++L)[n]?=some (.lst xs))(b:Bels M.length xs):bu M R (.ref n) (M++L) :=
 .inr (.inr ⟨M,n,xs,.refl,rfl,hn,e,AAb _ _,b,h⟩)
theorem bu.chg(c:Chg M M1)(h:R d M1)(b:Bel M.length d)(p:M1 <+: M'):bu M R d M':=.inr (.inl ⟨M1,c,b,p,h⟩)
theorem bu.chgL(c:Chg M M1)(h:R (.ref M.length) (M1++[.lst xs]))(hn:M.length<=n)(e:M'[n]?=some (.lst xs))(p:M1 <+: M')(b:Bels M.length xs):bu M R (.ref n) M':=.inr (.inr ⟨M1,n,xs,c,rfl,hn,e,p,b,h⟩)
theorem fP:(M++a::L).set M.length b=M++b::L:=by
 rw[ADn _ _ (AA8 _)]
 simp
theorem fX:(M++a::L)[M.length]?=some a:=by simp
theorem lH(I:List D->List D->SD->Mem->Prop)(h0:∀acc S M,I [] acc S M->ok M/\Q (.ref M.length) (M++[.lst acc]))
  (h1:∀x xs acc S M,I (x::xs) acc S M->∀K:List D->SD->Mem->Prop,(∀acc S M,I xs acc S M->K acc S M)->ok M/\g x S M λS2 M2=>tt S2 M2 λb M3=>if b=true then te S2 M3 λy M4=>acc.length<sizeLine/\K (acc++[y]) S2 M4 else K acc S2 M3) :
  ∀xs acc S M,I xs acc S M->jA ok g tt te Q xs acc S M
 | [],acc,S,M,h=>h0 acc S M h
 | x::xs,acc,S,M,h=>h1 x xs acc S M h _ (lH I h0 h1 xs)
noncomputable def unS:D->Str
 | .str x=>x
 | _=>Str.empty
theorem mI{ys:List D}{ks:List Str}(h:ys.Perm (ks.map D.str)):∃ns:List Str,ys=ns.map D.str/\ns.Perm ks:=by
 refine⟨ys.map unS,?_,?_⟩
 ·rw[ABG]
  have:∀y∈ys,(D.str ∘ unS) y=y:=λy hy=>by
   obtain⟨x,_,rfl⟩:=AAU.mp (h.mem_iff.mp hy)
   rfl
  exact(ADz this ▸ (List.map_id' ys).symm:ys=ys.map (D.str ∘ unS))
 ·have:=h.map unS
  rw[ABG]at this
  have e:(unS ∘ D.str)=id:=rfl
  rwa [e,AE0]at this
theorem qu:(M++a::b::L)[M.length+1]?=some b:=by
 rw[AAc (by lia),show M.length+1-M.length=1 by lia];rfl
theorem wH{α:Type}(f:α->D)(g:D->α)(hg:∀a,g (f a)=a){ys:List D}{l:List α}(h:ys.Perm (l.map f)):∃l':List α,ys=l'.map f/\l'.Perm l:=by
 refine⟨ys.map g,?_,?_⟩
 ·rw[ABG]
  have:∀y∈ys,(f ∘ g) y=y:=λy hy=>by
   obtain⟨x,_,rfl⟩:=AAU.mp (h.mem_iff.mp hy)
   show f (g (f x))=f x
   rw[hg]
  exact(ADz this ▸ (List.map_id' ys).symm:ys=ys.map (f ∘ g))
 ·have:=h.map g
  rw[ABG]at this
  have e:(g ∘ f)=id:=funext hg
  rwa [e,AE0]at this
section
variable{prog:Program}{w:World}{A:Around}{E:Value->Shared->Prop}{s:Shared}
noncomputable def aL(w:World):Obj:={ cls:=.type "set",dict:=none,data:=.set #[] 0 (.fresh 0 0 (!w.params.followText "set-order")) }
theorem oY(a:Value)(h:Q₁ (.ref s.heap.objs.size) { s with heap:=s.heap.push (aL w) }) :
  codeAny (model prog w) A (.call (.builtin "set.__new__") ⟨[.type "set",a],[]⟩) (wants Q₁ E) s:=by
 refine codeAny_of_tree (show wpAny (model prog w) A.in1 (do checkBuiltinCall "set.__new__" ⟨[.type "set",a],[]⟩;again (.builtin "set.__new__" ⟨[.type "set",a],[]⟩)) _ _ s from ?_)
 refine AA0 (wpAny_of_eq (F.newCall_set_1 a) (AA2 ⟨ADr F.plain_set_new _,ABn F.entry_set_new ?_⟩))
 rw[ACM F.plain_set_new _]
 have hsub:=sub_set_self
 obtain⟨hp,g,d,tk,os⟩:=s
 unfold Builtin.«set.__new__» Builtin.Frozenset.newClass
 dsimp only
 wp_walk
 refine AC8 (AA2 ?_)
 simp only[newObj]
 exact AA0 (wpAny_alloc (AA2 (AA2 h)))
end
structure TxSrc(prog:Program)(w:World)(h:Heap)(l:Addr)(T:String)(n:Nat)(P:Nat->Value->Prop):Prop where
 obj:∃o,h.get? l=some o/\o.cls=.type T
 ns:isSubtype (.type T) (.type "set")=pure false
 nf:isSubtype (.type T) (.type "frozenset")=pure false
 nd:(ADA T==ADA "dict")=false
 iter:∀(A:Around) (s':Shared),A.handled=none->(∀o,h.get? l=some o->s'.heap.get? l=some o)->∃(oI:Obj) (St:Nat->Heap->Prop),
  (∀(E:Value->Shared->Prop) (Q:Value->Shared->Prop),Q (.ref s'.heap.objs.size) { s' with heap:=s'.heap.push oI }->wpAny (model prog w) A (pyIter (.ref l)) Q E s') /\
  Walks prog w A s'.heap.objs.size [s'.heap.objs.size,l] [s'.heap.objs.size] n P St/\St 0 (s'.heap.push oI)
theorem nW:isSubtype (.type "tuple") (.type "set")=pure false:=by rw[isSubtype_type];kernel_rfl
theorem my:isSubtype (.type "tuple") (.type "frozenset")=pure false:=by rw[isSubtype_type];kernel_rfl
theorem TxSrc.list(hl:h.IsList l its):TxSrc prog w h l "list" its.size (λi v=>its[i]?=some v):=by
 refine⟨let ⟨o,e,c,_⟩:=hl;⟨o,e,c⟩,F.sub_list_set,F.sub_list_frozenset,by decide,λA s' hh hk=>?_⟩
 have hl':s'.heap.IsList l its:=hl.at hk
 have lt:l<s'.heap.objs.size:=let ⟨o,e,_⟩:=hl';AAH e
 exact⟨_,_,λE Q q=>wpAny_pyIter_list hl' q,Walks.list hh _ l (AAL lt) its,⟨_,AAE _ rfl,rfl,rfl⟩,hl'.push _⟩
theorem TxSrc.tuple(hl:h.IsTuple l its):TxSrc prog w h l "tuple" its.size (λi v=>its[i]?=some v):=by
 refine⟨let ⟨o,e,c,_⟩:=hl;⟨o,e,c⟩,nW,my,by decide,λA s' hh hk=>?_⟩
 have hl':s'.heap.IsTuple l its:=let ⟨o,e,r⟩:=hl;⟨o,hk o e,r⟩
 have lt:l<s'.heap.objs.size:=let ⟨o,e,_⟩:=hl';AAH e
 exact⟨_,_,λE Q q=>wpAny_pyIter_tuple hl' q,Walks.tuple hh _ l (AAL lt) its,⟨_,AAE _ rfl,rfl,rfl⟩,let ⟨o,e,r⟩:=hl';⟨o,AA4 _ e,r⟩⟩
theorem aN:Slot "set_iterator" "__next__" "set_iterator.__next__" :=
 .of (owner:="set_iterator") (n:="__next__") (by rw[typeLookup_type,builtinLookup_eq_fast];kernel_rfl) (by decide +kernel) (by decide +kernel) (by decide +kernel) (by first | exact .inl (by decide +kernel) | exact .inr (by decide +kernel)) (by rw[isSubtype_type];kernel_rfl)
theorem cQ:entryFor table "set_iterator.__next__" = some Builtin.«set_iterator.__next__»:=entryFor_of_tree (by kernel_rfl)
theorem iQ:Manifest.owners.lookup (String.ofList ['r','o','t','a','r','e','t','i','_','t','e','s'].reverse)=some Manifest.sig_set_iterator:=by kernel_rfl
theorem dS(a:Value):argsOk "set_iterator.__next__" ⟨[a],[]⟩:=by
 unfold argsOk;rw[signature?_of (id:="set_iterator.__next__") (n:=['_','_','t','x','e','n','_','_']) (o:=['r','o','t','a','r','e','t','i','_','t','e','s']) (by kernel_rfl) iQ];kernel_rfl
theorem lD:entryFor table "set.__iter__" = some Builtin.«frozenset.__iter__»:=entryFor_alias (id':="frozenset.__iter__") (by kernel_rfl) rfl (by decide +kernel) (by kernel_rfl)
theorem fY{α:Type}:∀(l:List α) (i:Nat) (h:i<l.length),(l[i]::l.eraseIdx i).Perm l
 | x::l,0,_=>ACe _
 | x::l,i+1,h=>by
  have h':i<l.length:=by simpa using h
  exact(List.Perm.swap x l[i] (l.eraseIdx i)).trans (AEC x (fY l i h'))
theorem ss(hn:n≠0)(h:∀i d,i<n->Q i { s with drawn:=d }):wpAny M A (choose src n) Q E s:=by
 intro Γ p hΓ
 show Sem.wp M Γ (Sem.choose src n λi=>Sem.pure i) _ _ p s
 rw[Sem.wp_choose]
 refine⟨hn,?_⟩
 rw[Sem.wp_pure]
 exact h _ _ (Nat.mod_lt _ (Nat.pos_of_ne_zero hn))
theorem nw{α:Type}{M:Model}{A:Around}{E:Value->Shared->Prop}:∀(n:Nat) (xs:List α) (s:Shared) (Q:List α->Shared->Prop),xs.length=n->(∀ys d,ys.Perm xs->Q ys { s with drawn:=d })->wpAny M A (drawOrder n xs) Q E s
 | 0,xs,s,Q,e,h=>by
  cases xs with
  | nil=>exact AA2 (h [] s.drawn (ACe _))
  | cons _ _=>cases e
 | n+1,[],s,Q,e,h=>by cases e
 | n+1,x::xs,s,Q,e,h=>by
  unfold drawOrder
  refine AA0 (ss (by simp) λi d hi=>?_)
  rw[AA5 hi]
  refine AA0 (nw n ((x::xs).eraseIdx i) { s with drawn:=d } _ (by rw[List.length_eraseIdx_of_lt hi];simp at e ⊢;lia) λys d' hp=>AA2 (h _ d' ?_))
  exact(AEC _ hp).trans (fY _ i hi)
theorem iI{α:Type}(next:Nat->Nat)(xs:Array α):(pickOrder next xs).toList.Perm xs.toList:=by
 have go:∀(fuel k:Nat) (left:List α) (out:Array α),left.length=fuel->(pickOrder.go next fuel k left out).toList.Perm (out.toList++left):=by
  intro fuel
  induction fuel with
  | zero =>
   intro k left out e
   cases left with
   | nil=>simp[pickOrder.go]
   | cons _ _=>cases e
  | succ n ih =>
   intro k left out e
   have hi:next k % left.length<left.length:=Nat.mod_lt _ (by lia)
   unfold pickOrder.go
   rw[AA5 hi]
   dsimp only
   refine(ih (k+1) _ _ (by rw[List.length_eraseIdx_of_lt hi];lia)).trans ?_
   rw[Array.toList_push,AAs]
   exact List.Perm.append_left _ (fY _ _ hi)
 have:=go xs.size 0 xs.toList #[] (by simp)
 simpa [pickOrder]using this
noncomputable def cM(first:Value)(i n:Nat)(a:Addr)(ep:Nat):Obj:={ cls:=.type "set_iterator",data:=.fields #[first,rawInt i,.ref a,rawInt n,rawInt ep] }
structure SetAt(h:Heap)(a:Addr)(o:Obj)(es:Array (Int×Value))(ep:Nat)(t:SetTable):Prop where
 ob:h.get? a=some o
 dt:o.data=.set es ep t
 ft:t.fits es.size=true
section
variable{prog:Program}{w:World}{A:Around}{E:Value->Shared->Prop}{s:Shared}{a it:Addr}{o:Obj}{es:Array (Int×Value)}{ep:Nat}{t:SetTable}
theorem jX(hh:A.handled=none)(h:∀h' e,(∀b o,s.heap.get? b=some o->h'.get? b=some o)->(∃o,h'.get? e=some o/\o.cls=.type "StopIteration")->F (.ref e) { s with heap:=h' }) :
  wpAny (model prog w) A (do raiseNew (<-newExc (.type "StopIteration") []):Sem Fin) Q F s:=by
 refine AA0 ?_
 simp only[newExc,newTuple]
 refine AA0 (AAr (AA0 (m:=firstArgMember _ _) (wpAny_of_eq (a:=ABp) (by first | rfl | (simp only[firstArgMember];rfl)) (AAr ?_ (by size_fits)))) (by size_fits))
 simp only[raiseNew]
 refine AA0 (wpAny_handled ?_)
 rw[hh]
 exact AA0 (AA2 (wpAny_throw (h _ _ (λb o e=>AA4 _ (AA4 _ e)) ⟨_,AAE _ rfl,rfl⟩)))
theorem iX{slot i next:Nat}{x:Value}{Q:Option Value->Shared->Prop}(hI:s.heap.get? it=some (cM (rawInt slot) i es.size a ep))(S:SetAt s.heap a o es ep t)
  (hn:∀(A:Around) (E:Value->Shared->Prop) (Q:Option (Value×Nat)->Shared->Prop),Q (some (x,next)) s->wpAny (model prog w) A (setNext a slot i ep) Q E s)
  (hQ:∀h',h'.get? it=some (cM (rawInt next) (i+1) es.size a ep)->ACB it s.heap h'->Q (some x) { s with heap:=h' }):wpAny (model prog w) A (pyNext (.ref it)) Q E s:=by
 have hT:s.TypeIs (.ref it) "set_iterator":=⟨_,hI,rfl⟩
 unfold pyNext
 refine AA0 (ACE (AB0 (name:=AA1 "__next__") hT aN (AAv aN hT cQ ?_ (dS _))))
 unfold Builtin.«set_iterator.__next__»
 refine AA0 (AA2 (AA0 (ACJ hI rfl ?_)))
 dsimp only [cM,rawInt]
 refine AA0 (ACY S.ob S.dt S.ft ?_)
 rw[if_neg (by simp)]
 refine AA0 (hn _ _ _ ?_)
 dsimp only
 refine AA0 (ACK hI rfl (by simp) (AA0 (ACK (AAi _ hI rfl) rfl (by simp) (AA2 ⟨x,rfl,AA2 (hQ _ ?_ ((AAy ..).trans (AAy ..)))⟩))))
 refine(AAi _ (AAi _ hI rfl) rfl).trans ?_
 simp[cM,ADs,rawInt]
theorem cK{slot i:Nat}{Q:Option Value->Shared->Prop}(hh:A.handled=none)(hI:s.heap.get? it=some (cM (rawInt slot) i es.size a ep))(S:SetAt s.heap a o es ep t)
  (hn:∀(A:Around) (E:Value->Shared->Prop) (Q:Option (Value×Nat)->Shared->Prop),Q none s->wpAny (model prog w) A (setNext a slot i ep) Q E s)
  (hQ:∀h',(∀b o,b≠it->s.heap.get? b=some o->h'.get? b=some o)->Q none { s with heap:=h' }):wpAny (model prog w) A (pyNext (.ref it)) Q E s:=by
 have hT:s.TypeIs (.ref it) "set_iterator":=⟨_,hI,rfl⟩
 unfold pyNext
 refine AA0 (ACE (AB0 (name:=AA1 "__next__") hT aN (AAv aN hT cQ ?_ (dS _))))
 unfold Builtin.«set_iterator.__next__»
 refine AA0 (AA2 (AA0 (ACJ hI rfl ?_)))
 dsimp only [cM,rawInt]
 refine AA0 (ACY S.ob S.dt S.ft ?_)
 rw[if_neg (by simp)]
 refine AA0 (hn _ _ _ ?_)
 dsimp only
 refine AA0 (ACK hI rfl (by simp) ?_)
 refine jX (by simp[hh]) ?_
 rintro h' e hk ⟨oe,he,hc⟩
 refine AA0 (ACd (T:="StopIteration") (b:=true) ⟨oe,he,hc⟩ isSubtype_stop (AA2 (hQ h' λb ob hb eb=>hk b ob ?_)))
 exact((AAy ..).2 b hb).trans eb
theorem rB{tt:Addr}{ps:List Nat}{i j:Nat}{e:Int×Value}{Q:Option Value->Shared->Prop}(hI:s.heap.get? it=some (cM (.ref tt) i es.size a ep))(hP:s.heap.IsTuple tt (ps.map λ(k:Nat)=>rawInt k).toArray)(S:SetAt s.heap a o es ep t)
  (hj:ps[i]?=some j) (he:es[j]?=some e) (hQ:∀h',h'.get? it=some (cM (.ref tt) (i+1) es.size a ep)->ACB it s.heap h'->Q (some e.2) { s with heap:=h' }):wpAny (model prog w) A (pyNext (.ref it)) Q E s:=by
 have hT:s.TypeIs (.ref it) "set_iterator":=⟨_,hI,rfl⟩
 obtain⟨ot,hot,_,nt,hdt⟩:=hP
 unfold pyNext
 refine AA0 (ACE (AB0 (name:=AA1 "__next__") hT aN (AAv aN hT cQ ?_ (dS _))))
 unfold Builtin.«set_iterator.__next__»
 refine AA0 (AA2 (AA0 (ACJ hI rfl ?_)))
 dsimp only [cM,rawInt]
 refine AA0 (ACY S.ob S.dt S.ft ?_)
 rw[if_neg (by simp)]
 refine AA0 (AD2 hot hdt ?_)
 have hx:(ps.map λ(k:Nat)=>rawInt k).toArray[i]?=some (.int j 0):=by simp[hj,rawInt]
 simp only[ABy,hx]
 unfold setNextDrawn
 refine AA0 (AA0 (AB7 S.ob S.dt S.ft ?_))
 simp only[bne_self_eq_false,AAD,if_false,he]
 refine AA2 (AA0 (ACK hI rfl (by simp) (AA2 ⟨_,rfl,AA2 (hQ _ ?_ (AAy ..))⟩)))
 refine(AAi _ hI rfl).trans ?_
 simp[cM,ADs,rawInt]
theorem jw{tt:Addr}{ps:List Nat}{i:Nat}{Q:Option Value->Shared->Prop}(hh:A.handled=none)(hI:s.heap.get? it=some (cM (.ref tt) i es.size a ep))(hP:s.heap.IsTuple tt (ps.map λ(k:Nat)=>rawInt k).toArray)(S:SetAt s.heap a o es ep t)
  (hj:ps[i]?=none) (hQ:∀h',(∀b o,b≠it->s.heap.get? b=some o->h'.get? b=some o)->Q none { s with heap:=h' }):wpAny (model prog w) A (pyNext (.ref it)) Q E s:=by
 have hT:s.TypeIs (.ref it) "set_iterator":=⟨_,hI,rfl⟩
 obtain⟨ot,hot,_,nt,hdt⟩:=hP
 unfold pyNext
 refine AA0 (ACE (AB0 (name:=AA1 "__next__") hT aN (AAv aN hT cQ ?_ (dS _))))
 unfold Builtin.«set_iterator.__next__»
 refine AA0 (AA2 (AA0 (ACJ hI rfl ?_)))
 dsimp only [cM,rawInt]
 refine AA0 (ACY S.ob S.dt S.ft ?_)
 rw[if_neg (by simp)]
 refine AA0 (AD2 hot hdt ?_)
 have hx:(ps.map λ(k:Nat)=>rawInt k).toArray[i]?=none:=by simpa using hj
 simp only[ABy,hx]
 refine AA0 (ACK hI rfl (by simp) (AA0 (ACK (AAi _ hI rfl) rfl (by simp) ?_)))
 refine jX (by simp[hh]) ?_
 rintro h' e hk ⟨oe,he,hc⟩
 refine AA0 (ACd (T:="StopIteration") (b:=true) ⟨oe,he,hc⟩ isSubtype_stop (AA2 (hQ h' λb ob hb eb=>hk b ob ?_)))
 exact(((AAy ..).trans (AAy ..)).2 b hb).trans eb
end
end L2
namespace L2
theorem nodup_le{α:Type}[DecidableEq α]:∀(l xs:List α),l.Nodup->(∀x∈l,x∈xs)->l.length<=xs.length
 | [],xs,_,_=>AAT _
 | a::l,xs,nd,h=>by
  have ha:a∈xs:=h a AAG
  have nd':=ABV.mp nd
  have ih:=nodup_le l (xs.erase a) nd'.2 λx hx=>(List.mem_erase_of_ne (show x≠a from λz=>nd'.1 (by rw[<-z];exact hx))).mpr (h x (AA9 _ hx))
  rw[List.length_erase_of_mem ha]at ih
  have:0<xs.length:=List.length_pos_of_mem ha
  rw[AAI]
  lia
end L2
namespace Ht
open PySem
noncomputable def adv(m:Nat)(p:ACL):ACL :=
 if p.more > 0 then { p with j:=p.j+1,more:=p.more-1 } else
 { p with j:=(ACF m p.i p.perturb).1,more:=AAm m (ACF m p.i p.perturb).1-(ACF m p.i p.perturb).1,i:=(ACF m p.i p.perturb).1,perturb:=(ACF m p.i p.perturb).2 }
noncomputable def fO(m i pt:Nat):ACL:={ j:=i,more:=AAm m i-i,i,perturb:=pt,dummy:=none }
noncomputable def iB(m:Nat)(p:ACL):Nat->ACL
 | 0=>p
 | n+1=>adv m (iB m p n)
noncomputable def sq(m:Nat)(h:Int)(n:Nat):ACL:=iB m (fO m (ABl h % (m+1)) (ABl h)) n
theorem mz(m:Nat)(p:ACL)(a b:Nat):iB m p (a+b)=iB m (iB m p a) b:=by
 induction b with
 | zero=>rfl
 | succ b ih=>rw[Nat.add_succ,iB,ih];rfl
theorem BE(m i:Nat):AAm m i-i<=9:=by
 unfold AAm;split<;>lia
theorem uZ(m i pt:Nat):∀k,k<=AAm m i-i->iB m (fO m i pt) k={ j:=i+k,more:=AAm m i-i-k,i,perturb:=pt,dummy:=none }
 | 0,_=>by simp[iB,fO]
 | k+1,h=>by
  rw[iB,uZ m i pt k (by lia)]
  unfold adv
  rw[if_pos (show AAm m i-i-k > 0 by lia)]
  simp only[SetTable.Probe.mk.injEq,true_and,and_true]
  lia
theorem wS(m i pt:Nat):iB m (fO m i pt) (AAm m i-i+1)=fO m (ACF m i pt).1 (ACF m i pt).2:=by
 rw[iB,uZ m i pt _ (AA8 _)]
 unfold adv
 rw[if_neg (show ¬AAm m i-i-(AAm m i-i) > 0 by lia)]
 rfl
noncomputable def cG(m:Nat)(h:Int):Nat->Nat×Nat
 | 0=>(ABl h % (m+1),ABl h)
 | k+1=>ACF m (cG m h k).1 (cG m h k).2
noncomputable def cT(m:Nat)(h:Int):Nat->Nat
 | 0=>0
 | k+1=>cT m h k+(AAm m (cG m h k).1-(cG m h k).1+1)
theorem xY(m:Nat)(h:Int)(k:Nat):cT m h k<=10*k:=by
 induction k with
 | zero=>exact AA8 _
 | succ k ih=>have:=BE m (cG m h k).1;unfold cT;lia
theorem yg(m:Nat)(h:Int)(k:Nat):sq m h (cT m h k)=fO m (cG m h k).1 (cG m h k).2:=by
 induction k with
 | zero=>rfl
 | succ k ih =>
  unfold sq at ih ⊢
  unfold cT
  rw[mz,ih,wS]
  rfl
theorem tO(m:Nat)(h:Int)(k r:Nat)(hr:r<=AAm m (cG m h k).1-(cG m h k).1):(sq m h (cT m h k+r)).j=(cG m h k).1+r:=by
 have e:=yg m h k
 unfold sq at e ⊢
 rw[mz,e,uZ _ _ _ _ hr]
theorem AN(h:Int):ABl h<2 ^ 64:=by
 unfold ABl
 have h0:=Int.emod_nonneg h (show (2 ^ 64:Int)≠0 by decide)
 have h1:=Int.emod_lt_of_pos h (show (0:Int)<2 ^ 64 by decide)
 lia
theorem kg(m:Nat)(h:Int):∀k,(cG m h k).2=ABl h / 32 ^ k
 | 0=>by simp[cG]
 | k+1=>by
  show (cG m h k).2 / 32=_
  rw[kg m h k,Nat.div_div_eq_div_mul,<-Nat.pow_succ]
theorem mH(m:Nat)(h:Int)(k:Nat)(hk:13<=k):(cG m h k).2=0:=by
 rw[kg]
 apply Nat.div_eq_of_lt
 have h1:=AN h
 have h2:32 ^ 13<=32 ^ k:=Nat.pow_le_pow_right (by decide) hk
 have h3:(2:Nat) ^ 64<32 ^ 13:=by decide
 lia
noncomputable def pj(m i:Nat):Nat:=(i*5+1) % (m+1)
noncomputable def bi(m i:Nat):Nat->Nat
 | 0=>i
 | k+1=>pj m (bi m i k)
theorem cF(m i a b:Nat):bi m i (a+b)=bi m (bi m i a) b:=by
 induction b with
 | zero=>rfl
 | succ b ih=>rw[Nat.add_succ,bi,ih];rfl
theorem nY(m:Nat)(h:Int)(r:Nat):(cG m h (13+r)).1=bi m (cG m h 13).1 r:=by
 induction r with
 | zero=>rfl
 | succ r ih =>
  show (ACF m (cG m h (13+r)).1 (cG m h (13+r)).2).1=pj m (bi m (cG m h 13).1 r)
  rw[mH m h _ (by lia),ih]
  rfl
theorem nZ(m:Nat)(h:Int):∀k,(cG m h k).1<=m
 | 0=>Nat.lt_succ_iff.mp (Nat.mod_lt _ (Nat.succ_pos _))
 | k+1=>Nat.lt_succ_iff.mp (Nat.mod_lt _ (Nat.succ_pos _))
def Bf(m:Nat):Prop:=bi m 0 (m+1)=0/\∀s,s<=m->∃k,k<=m/\bi m 0 k=s
noncomputable def oq(m:Nat):Nat->Nat->List Nat
 | 0,_=>[]
 | n+1,i=>i::oq m n (pj m i)
theorem iR(m:Nat):∀(n i k:Nat),k<n->(oq m n i)[k]?=some (bi m i k)
 | 0,_,_,h=>absurd h (ABW _)
 | n+1,i,0,_=>rfl
 | n+1,i,k+1,h=>by
  rw[oq,ABv,iR m n (pj m i) k (by lia),<-show bi m (bi m i 1) k=bi m i (k+1)from by rw[<-cF,Nat.add_comm]]
  rfl
theorem oT(m:Nat)(h:((oq m (m+2) 0)[m+1]?==some 0&&(AAn (m+1)).all λs=>(oq m (m+1) 0).contains s)=true):Bf m:=by
 rw[AAO,beq_iff_eq,AAW]at h
 refine⟨?_,λs hs=>?_⟩
 ·have:=iR m (m+2) 0 (m+1) (by lia)
  rw[h.1]at this
  exact(AAQ this).symm
 ·have:=h.2 s (AAu.mpr (by lia))
  rw[List.contains_iff_mem]at this
  obtain⟨k,hk⟩:=ABH this
  have hl:k<m+1:=by
   have:=(AA7.mp hk).1
   have len:∀n i,(oq m n i).length=n:=by
    intro n;induction n with
    | zero=>intro i;rfl
    | succ n ih=>intro i;simp[oq,ih]
   rw[len]at this;exact this
  rw[iR m _ 0 k hl]at hk
  exact⟨k,by lia,AAQ hk⟩
theorem full7:Bf 7:=oT 7 (by decide +kernel)
theorem DO:Bf 31:=oT 31 (by decide +kernel)
theorem Ap:Bf 127:=oT 127 (by decide +kernel)
theorem vm(F:Bf m)(hi:i<=m)(hs:s<=m):∃k,k<=m/\bi m i k=s:=by
 obtain⟨a,ha,ea⟩:=F.2 i hi
 obtain⟨b,hb,eb⟩:=F.2 s hs
 by_cases h:a<=b
 ·refine⟨b-a,by lia,?_⟩
  rw[<-ea,<-cF,show a+(b-a)=b by lia];exact eb
 ·refine⟨m+1-a+b,by lia,?_⟩
  rw[<-ea,<-cF,show a+(m+1-a+b)=(m+1)+b by lia,cF,F.1];exact eb
def jC(m:Nat):Prop:=m=7\/m=31\/m=127
theorem jC.full(h:jC m):Bf m:=by
 rcases h with rfl | rfl | rfl
 ·exact full7
 ·exact DO
 ·exact Ap
theorem yB(hm:jC m)(h:Int)(hs:s<=m):∃k,k<=m+13/\(cG m h k).1=s:=by
 obtain⟨r,hr,e⟩:=vm hm.full (nZ m h 13) hs
 exact⟨13+r,by lia,by rw[nY];exact e⟩
theorem yY(hm:jC m)(h:Int)(hs:s<=m):∃n,n<10*(m+15)/\(sq m h n).j=s:=by
 obtain⟨k,hk,e⟩:=yB hm h hs
 refine⟨cT m h k,by have:=xY m h k;lia,?_⟩
 rw[yg];exact e
theorem Bz(h:Int):∀n,∃k r,r<=AAm m (cG m h k).1-(cG m h k).1/\n=cT m h k+r
 | 0=>⟨0,0,AAT _,rfl⟩
 | n+1=>by
  obtain⟨k,r,hr,e⟩:=Bz (m:=m) h n
  by_cases q:r<AAm m (cG m h k).1-(cG m h k).1
  ·exact⟨k,r+1,q,by lia⟩
  ·exact⟨k+1,0,AAT _,by rw[cT];lia⟩
theorem tN(h:Int)(n:Nat):(sq m h n).j<=m:=by
 obtain⟨k,r,hr,e⟩:=Bz (m:=m) h n
 rw[e,tO m h k r hr]
 have:=nZ m h k
 unfold AAm at hr
 split at hr<;>lia
theorem below_spec(xs:Array Nat)(hr:xs.toList.Pairwise (· < ·))(j:Nat) :
  AAY xs j<=xs.size/\(∀k (h:k<xs.size),k<AAY xs j->xs[k]<j)/\∀k (h:k<xs.size),AAY xs j<=k->j<=xs[k]:=by
 have mono:∀a b (ha:a<xs.size) (hb:b<xs.size),a<b->xs[a]<xs[b]:=λa b ha hb h=>by
  have:=AD3.mp hr a b (by simpa using ha) (by simpa using hb) h
  simpa using this
 have go:∀(fuel lo hi:Nat),lo<=hi->hi<=xs.size->hi-lo<=fuel->(∀k (h:k<xs.size),k<lo->xs[k]<j)->(∀k (h:k<xs.size),hi<=k->j<=xs[k]) ->
   ABz xs j fuel lo hi<=xs.size/\(∀k (h:k<xs.size),k<ABz xs j fuel lo hi->xs[k]<j)/\∀k (h:k<xs.size),ABz xs j fuel lo hi<=k->j<=xs[k]:=by
  intro fuel
  induction fuel with
  | zero =>
   intro lo hi h1 h2 h3 h4 h5
   have:lo=hi:=by lia
   subst this
   exact⟨h2,h4,h5⟩
  | succ fuel ih =>
   intro lo hi h1 h2 h3 h4 h5
   unfold ABz
   by_cases h:lo<hi
   ·rw[if_pos h]
    have hm:(lo+hi) / 2<xs.size:=by lia
    have eg:xs.getD ((lo+hi) / 2) j=xs[(lo+hi) / 2]:=by simp[AC6,hm]
    simp only[eg]
    by_cases q:xs[(lo+hi) / 2]<j
    ·rw[if_pos q]
     refine ih _ _ (by lia) h2 (by lia) (λk hk hlt=>?_) h5
     rcases ABR k ((lo+hi) / 2)with z | z
     ·exact Nat.lt_trans (mono k _ hk hm z) q
     ·have:k=(lo+hi) / 2:=by lia
      subst this;exact q
    ·rw[if_neg q]
     refine ih _ _ (by lia) (by lia) (by lia) h4 λk hk hle=>?_
     rcases ABR ((lo+hi) / 2) k with z | z
     ·exact AB3 (ACr.mp q) (ACA (mono _ k hm hk z))
     ·have:k=(lo+hi) / 2:=by lia
      subst this;exact ACr.mp q
   ·rw[if_neg h]
    have:lo=hi:=by lia
    subst this
    exact⟨h2,h4,h5⟩
 exact go xs.size 0 xs.size (AAT _) (AA8 _) (by lia) (λk _ h=>absurd h (ABW _)) λk h h'=>absurd h (ACr.mpr h')
theorem below_at(hr:xs.toList.Pairwise (· < ·))(h:xs[i]?=some j):AAY xs j=i:=by
 obtain⟨hi,e⟩:=AAh.mp h
 obtain⟨b1,b2,b3⟩:=below_spec xs hr j
 have mono:∀a b (ha:a<xs.size) (hb:b<xs.size),a<b->xs[a]<xs[b]:=λa b ha hb h=>by
  have:=AD3.mp hr a b (by simpa using ha) (by simpa using hb) h
  simpa using this
 rcases ACs (AAY xs j) i with q | q | q
 ·have hb:AAY xs j<xs.size:=by lia
  have:=b3 _ hb (AA8 _)
  have:=mono _ i hb hi q
  lia
 ·exact q
 ·have:=b2 i hi q
  lia
theorem slot_live{t:SetTable}(hr:t.place.toList.Pairwise (· < ·)){i j:Nat}(h:t.place[i]?=some j):t.slot j=.live i:=by
 unfold SetTable.slot
 simp only[below_at hr h]
 rw[if_pos (by rw[h];simp)]
theorem qY{t:SetTable}(hd:t.dummies = #[]){j:Nat}(h:j∉t.place.toList):t.slot j=.empty:=by
 unfold SetTable.slot
 have e1:¬(t.place[AAY t.place j]?==some j)=true:=λz=>h (by
  rw[beq_iff_eq]at z
  have:=Array.mem_of_getElem? z
  simpa using this)
 have e2:SetTable.has t.dummies j=false:=by rw[hd];rfl
 simp only[e1,if_false,e2,AAD]
theorem go_spec{t:SetTable}(hr:t.place.toList.Pairwise (· < ·))(hd:t.dummies = #[])(hashAt:Nat->Int)(h:Int):∀(fuel n N:Nat),n<=N->N<n+fuel->(sq t.mask h N).j∉t.place.toList->(∀k,n<=k->k<N->(sq t.mask h k).j∈t.place.toList) ->
  (∀k,(sq t.mask h k).dummy=none) ->
  ((∀k i,n<=k->k<N->t.place[i]?=some (sq t.mask h k).j->hashAt i≠h)/\AEI t hashAt h fuel (sq t.mask h n)=some (.empty (sq t.mask h N).j none)) \/
  ∃n' i,n<=n'/\n' < N/\t.place[i]?=some (sq t.mask h n').j/\hashAt i=h/\(∀k i,n<=k->k<n'->t.place[i]?=some (sq t.mask h k).j->hashAt i≠h)/\AEI t hashAt h fuel (sq t.mask h n)=some (.candidate (sq t.mask h n').j i (sq t.mask h (n'+1))):=by
 intro fuel
 induction fuel with
 | zero=>intro n N h1 h2;lia
 | succ fuel ih =>
  intro n N h1 h2 h3 h4 h5
  unfold AEI
  by_cases e:n=N
  ·subst e
   rw[qY hd h3]
   exact .inl ⟨λk i a b=>by lia,by rw[h5]⟩
  ·have hm:=h4 n (AA8 _) (by lia)
   obtain⟨i,hi⟩:=ABH hm
   have hi':t.place[i]?=some (sq t.mask h n).j:=by rw[<-AAN];exact hi
   rw[slot_live hr hi']
   dsimp only
   have uq:∀i',t.place[i']?=some (sq t.mask h n).j->i'=i:=λi' z=>by rw[<-below_at hr z,below_at hr hi']
   by_cases q:hashAt i=h
   ·simp only[beq_iff_eq,q,if_true]
    exact .inr ⟨n,i,AA8 _,by lia,hi',q,λk i a b=>by lia,rfl⟩
   ·simp only[beq_iff_eq,q,if_false]
    rcases ih (n+1) N (by lia) (by lia) h3 (λk a b=>h4 k (by lia) b) h5 with⟨z1,z2⟩|⟨n',i',a1,a2,a3,a4,a5,a6⟩
    ·refine .inl ⟨λk i' a b c=>?_,z2⟩
     rcases ABR n k with z | z
     ·exact z1 k i' z b c
     ·have:k=n:=by lia
      subst this;rw[uq i' c];exact q
    ·refine .inr ⟨n',i',by lia,a2,a3,a4,λk i'' a b c=>?_,a6⟩
     rcases ABR n k with z | z
     ·exact a5 k i'' z b c
     ·have:k=n:=by lia
      subst this;rw[uq i'' c];exact q
theorem sq_dummy(m:Nat)(h:Int):∀n,(sq m h n).dummy=none
 | 0=>rfl
 | n+1=>by
  show (adv m (sq m h n)).dummy=none
  unfold adv
  split
  ·exact sq_dummy m h n
  ·exact sq_dummy m h n
structure TOk(t:SetTable)(hs:List Int):Prop where
 msk:jC t.mask
 len:t.place.size=hs.length
 nod:t.dummies = #[]
 ris:t.place.toList.Pairwise (· < ·)
 rng:∀j∈t.place.toList,j<=t.mask
 few:t.place.size*5<t.mask*3
 path:∀(i:Nat) (h:Int) (j:Nat),hs[i]?=some h->t.place[i]?=some j->∃n,(sq t.mask h n).j=j/\∀n',n' < n->(sq t.mask h n').j∈t.place.toList
theorem vj{m:Nat}{l:List Nat}(hn:l.Nodup)(hr:∀j∈l,j<=m)(hl:l.length<=m):∃j,j<=m/\j∉l:=by
 refine AAw λhc=>?_
 have all:∀j∈AAn (m+1),j∈l:=λj hj=>AAw λhj'=>hc ⟨j,by have:=AAu.mp hj;lia,hj'⟩
 have:=L2.nodup_le (AAn (m+1)) l List.nodup_range all
 rw[ACv]at this
 lia
theorem oU{m:Nat}(hm:jC m){l:List Nat}(hn:l.Nodup)(hr:∀j∈l,j<=m)(hl:l.length<=m)(h:Int):∃N,N<10*(m+15)/\(sq m h N).j∉l/\∀k,k<N->(sq m h k).j∈l:=by
 obtain⟨s,hs,hs'⟩:=vj hn hr hl
 obtain⟨n,hn1,hn2⟩:=yY hm h hs
 have:∀b n,n<b->(sq m h n).j∉l->∃N,N<=n/\(sq m h N).j∉l/\∀k,k<N->(sq m h k).j∈l:=by
  intro b
  induction b with
  | zero=>intro n h;lia
  | succ b ih =>
   intro n hb hq
   by_cases q:∀k,k<n->(sq m h k).j∈l
   ·exact⟨n,AA8 _,hq,q⟩
   ·have:∃k,k<n/\(sq m h k).j∉l:=AAw λz=>q λk hk=>AAw λz'=>z ⟨k,hk,z'⟩
    obtain⟨k,hk,hk'⟩:=this
    obtain⟨N,a1,a2,a3⟩:=ih k (by lia) hk'
    exact⟨N,by lia,a2,a3⟩
 obtain⟨N,a1,a2,a3⟩:=this (n+1) n (AAt _) (by rw[hn2];exact hs')
 exact⟨N,by lia,a2,a3⟩
theorem TOk.empty{t:SetTable}{hs:List Int}(T:TOk t hs)(h:Int):∃N,N<10*(t.mask+15)/\(sq t.mask h N).j∉t.place.toList/\∀k,k<N->(sq t.mask h k).j∈t.place.toList:=by
 refine oU T.msk (T.ris.imp λh=>AAL h) T.rng ?_ h
 have:=T.few
 rw[AAJ]
 rcases T.msk with e | e | e<;>lia
theorem tY{t:SetTable}(hr:t.place.toList.Pairwise (· < ·)){j:Nat}(hj:j∉t.place.toList) :
  (t.put j).1.place.toList=t.place.toList.take (AAY t.place j)++j::t.place.toList.drop (AAY t.place j)/\(t.put j).1.place.toList.Pairwise (· < ·):=by
 obtain⟨b1,b2,b3⟩:=below_spec t.place hr j
 have e:(t.put j).1.place.toList=t.place.toList.take (AAY t.place j)++j::t.place.toList.drop (AAY t.place j):=by
  show (ADe t.place (AAY t.place j) j).toList=_
  rw[SetTable.toList_insertAt]
 refine⟨e,?_⟩
 rw[e,List.pairwise_append]
 refine⟨hr.sublist (List.take_sublist ..),List.pairwise_cons.mpr ⟨λx hx=>?_,hr.sublist (List.drop_sublist ..)⟩,λx hx y hy=>?_⟩
 ·obtain⟨k,hk⟩:=ABH hx
  rw[ADQ]at hk
  have hk':t.place[AAY t.place j+k]?=some x:=by rw[<-AAN];exact hk
  obtain⟨hl,ex⟩:=AAh.mp hk'
  have:=b3 _ hl (AD7 _ _)
  rw[ex]at this
  rcases ABR j x with z | z
  ·exact z
  ·have:x=j:=by lia
   subst this
   exact absurd (List.mem_of_mem_drop hx) hj
 ·obtain⟨k,hk⟩:=ABH hx
  rw[List.getElem?_take]at hk
  split at hk
  ·rename_i hkl
   have hk':t.place[k]?=some x:=by rw[<-AAN];exact hk
   obtain⟨hl,ex⟩:=AAh.mp hk'
   have h1:=b2 k hl hkl
   rw[ex]at h1
   rcases AAK.mp hy with rfl | hy
   ·exact h1
   ·obtain⟨k2,hk2⟩:=ABH hy
    rw[ADQ]at hk2
    have hk2':t.place[AAY t.place j+k2]?=some y:=by rw[<-AAN];exact hk2
    obtain⟨hl2,ey⟩:=AAh.mp hk2'
    have:=b3 _ hl2 (AD7 _ _)
    rw[ey]at this
    lia
  ·cases hk
end Ht
namespace L2
open PySem PySem.Spec PyProof.Rows DL PySem.W
theorem dn:Slot "set_iterator" "__iter__" "set_iterator.__iter__" :=
 .of (owner:="set_iterator") (n:="__iter__") (by rw[typeLookup_type,builtinLookup_eq_fast];kernel_rfl) (by decide +kernel) (by decide +kernel) (by decide +kernel) (by first | exact .inl (by decide +kernel) | exact .inr (by decide +kernel)) (by rw[isSubtype_type];kernel_rfl)
theorem gM:entryFor table "set_iterator.__iter__" = some Builtin.«dict_keyiterator.__iter__»:=entryFor_alias (id':="dict_keyiterator.__iter__") (by kernel_rfl) rfl (by decide +kernel) (by kernel_rfl)
theorem jp(a:Value):argsOk "set_iterator.__iter__" ⟨[a],[]⟩:=by
 unfold argsOk;rw[signature?_of (id:="set_iterator.__iter__") (n:=['_','_','r','e','t','i','_','_']) (o:=['r','o','t','a','r','e','t','i','_','t','e','s']) (by kernel_rfl) iQ];kernel_rfl
section
variable{prog:Program}{w:World}{A:Around}{E:Value->Shared->Prop}{s:Shared}{a it:Addr}{o:Obj}{es:Array (Int×Value)}{ep:Nat}{t:SetTable}
theorem dI(hI:s.heap.get? it=some (cM first i n a ep))(h:Q (.ref it) s):wpAny (model prog w) A (pyIter (.ref it)) Q E s:=by
 have hT:s.TypeIs (.ref it) "set_iterator":=⟨_,hI,rfl⟩
 refine wpAny_pyIter_slot hT dn (AAv dn hT gM (show wpAny _ _ (ret (.ref it)) _ _ s from ?_) (jp _))
 exact AA2 ⟨_,rfl,"set_iterator",_,hT,aN.lookup,h⟩
theorem SetAt.at(S:SetAt h a o es ep t)(k:∀o,h.get? a=some o->h'.get? a=some o):SetAt h' a o es ep t:=⟨k _ S.ob,S.dt,S.ft⟩
theorem gk(hb:w.params.followText "set-order" = true)(S:SetAt s.heap a o es ep t)(h:Q (((pickOrder (w.params.setOrder a ep) es)[i]?).map λe=>(e.2,0)) s) :
  wpAny (model prog w) A (setNext a 0 i ep) Q E s:=by
 unfold setNext
 refine AA0 (AB7 S.ob S.dt S.ft ?_)
 unfold setsByText
 refine AA0 (AA0 (AC8 (AA2 ?_)))
 simp only[model,hb,if_true,bne_self_eq_false,AAD,if_false]
 unfold setWalk
 refine AA0 (AA0 (AB7 S.ob S.dt S.ft ?_))
 unfold setsByText
 refine AA0 (AA0 (AC8 (AA2 ?_)))
 simp only[model,hb,if_true]
 exact AA0 (AC8 (AA2 (AA2 h)))
theorem qP(hb:w.params.followText "set-order" = true)(hh:A.handled=none)(hne:a≠it) :
  Walks prog w A it [it,a] [it] es.size (λi v=>((pickOrder (w.params.setOrder a ep) es).toList.map (·.2))[i]?=some v) (λi h=>h.get? it=some (cM (rawInt 0) i es.size a ep)/\SetAt h a o es ep t) where
 sub:=λb hb=>by simp at hb;simp[hb]
 frame:=λ_ _ _ st hk=>⟨hk it (by simp) _ st.1,st.2.at λo e=>hk a (by simp) o e⟩
 item:=λi s Q E hi st hQ=>by
  have hl:(pickOrder (w.params.setOrder a ep) es).size=es.size:=by have:=(iI (w.params.setOrder a ep) es).length_eq;simpa using this
  obtain⟨e,he⟩:∃e,(pickOrder (w.params.setOrder a ep) es)[i]?=some e:=⟨_,AAP (by rw[hl];exact hi)⟩
  refine iX (slot:=0) (next:=0) (x:=e.2) st.1 st.2 (λA E Q q=>gk hb st.2 (by rw[he];exact q)) λh' h1 sb=>hQ _ h' s.toks (by simp[he]) ⟨h1,st.2.at λo e=>(sb.2 a hne).trans e⟩ λb o hb e=>(sb.2 b (by simpa using hb)).trans e
 done:=λs Q E st hQ=>by
  have hl:(pickOrder (w.params.setOrder a ep) es).size=es.size:=by have:=(iI (w.params.setOrder a ep) es).length_eq;simpa using this
  refine cK (slot:=0) hh st.1 st.2 (λA E Q q=>gk hb st.2 ?_) λh' k=>hQ h' s.toks λb o hb e=>k b o (by simpa using hb) e
  rw[AC4 (by rw[hl];exact AA8 _)]
  exact q
 self:=λ_ _ _ _ st hQ=>dI st.1 hQ
theorem nR{tt:Addr}{ps:List Nat}(hp:ps.Perm (AAn es.size))(hh:A.handled=none)(hne:a≠it)(hnt:tt≠it) :
  Walks prog w A it [it,a,tt] [it] es.size (λi v=>(ps.filterMap λj=>(es[j]?).map (·.2))[i]?=some v) (λi h=>h.get? it=some (cM (.ref tt) i es.size a ep)/\SetAt h a o es ep t/\h.IsTuple tt (ps.map λ(k:Nat)=>rawInt k).toArray) where
 sub:=λb hb=>by simp at hb;simp[hb]
 frame:=λ_ _ _ st hk=>⟨hk it (by simp) _ st.1,st.2.1.at λo e=>hk a (by simp) o e,let ⟨o,e,r⟩:=st.2.2;⟨o,hk tt (by simp) _ e,r⟩⟩
 item:=λi s Q E hi st hQ=>by
  have hl:ps.length=es.size:=by have:=hp.length_eq;simpa using this
  have hall:∀j∈ps,j<es.size:=λj hj=>by have:=hp.mem_iff.mp hj;simpa using this
  have hj:ps[i]?=some ps[i]:=AA5 (by lia)
  have hlt:ps[i]<es.size:=hall _ (AB4 _)
  have he:es[ps[i]]?=some es[ps[i]]:=AAP hlt
  have fm:(ps.filterMap λj=>(es[j]?).map (·.2))=ps.map λj=>(es.getD j default).2:=by
   clear hj hl hp hi st hQ he hlt
   induction ps with
   | nil=>rfl
   | cons j r ih =>
    have hj:=hall j AAG
    rw[ABT,AAP hj,AAf,<-ih λk hk=>hall k (AA9 _ hk)]
    simp[AC6,hj]
  refine rB st.1 st.2.2 st.2.1 hj he λh' h1 sb=>hQ _ h' s.toks ?_ ⟨h1,st.2.1.at λo e=>(sb.2 a hne).trans e,let ⟨o,e,r⟩:=st.2.2;⟨o,(sb.2 tt hnt).trans e,r⟩⟩ λb o hb e=>(sb.2 b (by simpa using hb)).trans e
  rw[fm,AAV,hj]
  simp[AC6,hlt]
 done:=λs Q E st hQ=>by
  have hl:ps.length=es.size:=by have:=hp.length_eq;simpa using this
  exact jw hh st.1 st.2.2 st.2.1 (AB9 (by lia)) λh' k=>hQ h' s.toks λb o hb e=>k b o (by simpa using hb) e
 self:=λ_ _ _ _ st hQ=>dI st.1 hQ
theorem gs(hb:w.params.followText "set-order" = false)(hled:t.led=true)(hsz:es.size<=1)(S:SetAt s.heap a o es ep t)
  (h:Q (match es[AAY t.place slot]?,t.place[AAY t.place slot]? with | some (_,x),some j=>some (x,j+1) | _,_=>none) s) :
  wpAny (model prog w) A (setNext a slot i ep) Q E s:=by
 unfold setNext
 refine AA0 (AB7 S.ob S.dt S.ft ?_)
 unfold setsByText
 refine AA0 (AA0 (AC8 (AA2 ?_)))
 simp only[model,hb,AAD,if_false]
 refine ABX (λz=>?_) λ_=>?_
 ·have z':(!t.plain&&decide (es.size > 1))=true:=z
  simp at z'
  lia
 ·refine AA0 (show wpAny (model prog w) A (if (!t.led && !es.isEmpty)=true then unsupported _ else pure ()) _ _ s from ?_)
  rw[hled]
  simp only[ABY,AE9,AAD,if_false]
  exact AA2 (AA2 h)
theorem nJ(j k:Nat):AAY #[j] k=if j<k then 1 else 0:=by
 unfold AAY
 simp only[AAC,AAI,AAj]
 unfold ABz
 simp only[Nat.zero_lt_succ,if_true]
 by_cases h:j<k
 ·simp[h,ABz]
 ·simp[h,ABz]
theorem qQ(hb:w.params.followText "set-order" = false)(hled:t.led=true)(hsz:es.size<=1)(hh:A.handled=none)(hne:a≠it) :
  Walks prog w A it [it,a] [it] es.size (λi v=>(es.toList.map (·.2))[i]?=some v) (λi h=>h.get? it=some (cM (rawInt (if i=0 then 0 else t.place.getD 0 0+1:Nat)) i es.size a ep)/\SetAt h a o es ep t) where
 sub:=λb hb=>by simp at hb;simp[hb]
 frame:=λ_ _ _ st hk=>⟨hk it (by simp) _ st.1,st.2.at λo e=>hk a (by simp) o e⟩
 item:=λi s Q E hi st hQ=>by
  obtain rfl:i=0:=by lia
  have ps:t.place.size=1:=by have:=st.2.ft;simp[ADR]at this;lia
  obtain⟨j,hj⟩:∃j,t.place = #[j]:=⟨t.place[0],by apply Array.ext (by simpa using ps);intro i h1 h2;simp at h2;subst h2;rfl⟩
  have he:es[0]?=some es[0]:=AAP hi
  refine iX (slot:=0) (next:=j+1) (x:=es[0].2) st.1 st.2 (λA E Q q=>gs hb hled hsz st.2 ?_) λh' h1 sb=>hQ _ h' s.toks ?_ ⟨?_,st.2.at λo e=>(sb.2 a hne).trans e⟩ λb o hb e=>(sb.2 b (by simpa using hb)).trans e
  ·rw[hj,nJ,if_neg (ABW _),he]
   exact q
  ·rw[AAV,AAN,he];rfl
  ·simpa [hj]using h1
 done:=λs Q E st hQ=>by
  refine cK (slot:=if es.size=0 then 0 else t.place.getD 0 0+1) hh st.1 st.2 (λA E Q q=>gs hb hled hsz st.2 ?_) λh' k=>hQ h' s.toks λb o hb e=>k b o (by simpa using hb) e
  have ps:t.place.size=es.size:=by have:=st.2.ft;simp[ADR]at this;lia
  by_cases z:es.size=0
  ·have:es = #[]:=Array.eq_empty_of_size_eq_zero z
   subst this
   simpa using q
  ·obtain⟨j,hj⟩:∃j,t.place = #[j]:=⟨t.place[0],by apply Array.ext (by simp;lia);intro i h1 h2;simp at h2;subst h2;rfl⟩
   have e1:AAY t.place (if es.size=0 then 0 else t.place.getD 0 0+1)=1:=by rw[if_neg z,hj,nJ];simp
   rw[e1,AC4 (by lia)]
   exact q
 self:=λ_ _ _ _ st hQ=>dI st.1 hQ
theorem gu(hb:w.params.followText "set-order" = false)(hled:t.led=true)(hnd:(!t.plain&&decide (es.size > 1))=false)(S:SetAt s.heap a o es ep t)
  (h:Q (match es[AAY t.place slot]?,t.place[AAY t.place slot]? with | some (_,x),some j=>some (x,j+1) | _,_=>none) s) :
  wpAny (model prog w) A (setNext a slot i ep) Q E s:=by
 unfold setNext
 refine AA0 (AB7 S.ob S.dt S.ft ?_)
 unfold setsByText
 refine AA0 (AA0 (AC8 (AA2 ?_)))
 simp only[model,hb,AAD,if_false]
 refine ABX (λz=>?_) λ_=>?_
 ·have z':(!t.plain&&decide (es.size > 1))=true:=z
  rw[hnd]at z';cases z'
 ·refine AA0 (show wpAny (model prog w) A (if (!t.led && !es.isEmpty)=true then unsupported _ else pure ()) _ _ s from ?_)
  rw[hled]
  simp only[ABY,AE9,AAD,if_false]
  exact AA2 (AA2 h)
theorem qR(hb:w.params.followText "set-order" = false)(hled:t.led=true)(hnd:(!t.plain&&decide (es.size > 1))=false)(hr:t.place.toList.Pairwise (· < ·))(hh:A.handled=none)(hne:a≠it) :
  Walks prog w A it [it,a] [it] es.size (λi v=>(es.toList.map (·.2))[i]?=some v) (λi h=>h.get? it=some (cM (rawInt (if i=0 then 0 else t.place.getD (i-1) 0+1:Nat)) i es.size a ep)/\SetAt h a o es ep t):=by
 have bel:∀i,i<=t.place.size->AAY t.place (if i=0 then 0 else t.place.getD (i-1) 0+1)=i:=λi hi=>by
  obtain⟨b1,b2,b3⟩:=Ht.below_spec t.place hr (if i=0 then 0 else t.place.getD (i-1) 0+1)
  have mono:∀a b (ha:a<t.place.size) (hb:b<t.place.size),a<b->t.place[a]<t.place[b]:=λa b ha hb h=>by
   have:=AD3.mp hr a b (by simpa using ha) (by simpa using hb) h
   simpa using this
  by_cases z:i=0
  ·rw[if_pos z]at b1 b2 b3 ⊢
   rcases Nat.eq_zero_or_pos (AAY t.place 0)with q | q
   ·rw[q,z]
   ·have:=b2 0 (by lia) q
    lia
  ·rw[if_neg z]at b1 b2 b3 ⊢
   have hl:i-1<t.place.size:=by lia
   have eg:t.place.getD (i-1) 0=t.place[i-1]:=by simp[AC6,hl]
   rw[eg]at b1 b2 b3 ⊢
   rcases ACs (AAY t.place (t.place[i-1]+1)) i with q | q | q
   ·have:=b3 (i-1) hl (by lia)
    lia
   ·exact q
   ·have:=b2 i (by lia) q
    have:=mono (i-1) i hl (by lia) (by lia)
    lia
 exact {
  sub:=λb hb=>by simp at hb;simp[hb]
  frame:=λ_ _ _ st hk=>⟨hk it (by simp) _ st.1,st.2.at λo e=>hk a (by simp) o e⟩
  item:=λi s Q E hi st hQ=>by
   have ps:t.place.size=es.size:=by have:=st.2.ft;simp[ADR]at this;lia
   have hp:i<t.place.size:=by lia
   have he:es[i]?=some es[i]:=AAP hi
   have hpl:t.place[i]?=some t.place[i]:=AAP hp
   refine iX (next:=t.place[i]+1) (x:=es[i].2) st.1 st.2 (λA E Q q=>gu hb hled hnd st.2 ?_) λh' h1 sb=>hQ _ h' s.toks ?_ ⟨?_,st.2.at λo e=>(sb.2 a hne).trans e⟩ λb o hb e=>(sb.2 b (by simpa using hb)).trans e
   ·rw[bel i (by lia),he,hpl]
    exact q
   ·rw[AAV,AAN,he];rfl
   ·rw[if_neg (Nat.succ_ne_zero i),ADS,show t.place.getD i 0=t.place[i] by simp[AC6,hp]]
    exact h1
  done:=λs Q E st hQ=>by
   have ps:t.place.size=es.size:=by have:=st.2.ft;simp[ADR]at this;lia
   refine cK hh st.1 st.2 (λA E Q q=>gu hb hled hnd st.2 ?_) λh' k=>hQ h' s.toks λb o hb e=>k b o (by simpa using hb) e
   rw[bel es.size (by lia),AC4 (AA8 _)]
   exact q
  self:=λ_ _ _ _ st hQ=>dI st.1 hQ }
end
section
variable{prog:Program}{w:World}{A:Around}{E:Value->Shared->Prop}{s:Shared}{a:Addr}{o:Obj}{es:Array (Int×Value)}{ep:Nat}{t:SetTable}
theorem xu(S:SetAt s.heap a o es ep t)(hc:o.cls=.type "set")(hpl:t.plain=true->es.size<=1\/t.place.toList.Pairwise (· < ·))(hled:t.led = !w.params.followText "set-order")(hz:es.size<=sizeLine)
  (h:∀(it:Addr) (h':Heap) (d:Drawn) (vs:List Value) (fp:List Addr) (St:Nat->Heap->Prop),(∀b o,s.heap.get? b=some o->h'.get? b=some o)->vs.Perm (es.toList.map (·.2))->s.heap.objs.size<=it->it<h'.objs.size->(∀b∈fp,b=a\/s.heap.objs.size<=b/\b<h'.objs.size) ->
   (∀A':Around,A'.handled=none->Walks prog w A' it fp [it] es.size (λi v=>vs[i]?=some v) St)->St 0 h'->Q (.ref it) { s with heap:=h',drawn:=d }):wpAny (model prog w) A (pyIter (.ref a)) Q E s:=by
 have hT:s.TypeIs (.ref a) "set":=⟨o,S.ob,hc⟩
 have la:a<s.heap.objs.size:=AAH S.ob
 refine wpAny_pyIter_slot hT F.slot_set_iter (AAv F.slot_set_iter hT lD ?_ (F.args_set_iter_1 _))
 unfold Builtin.«frozenset.__iter__»
 refine AA0 (show wpAny (model prog w) _ (pure a) _ _ s from AA2 ?_)
 unfold Builtin.Frozenset.sizeOf
 refine AA0 (AA0 (ACY S.ob S.dt S.ft (AA2 ?_)))
 unfold setDrawn
 refine AA0 (AA0 (AB7 S.ob S.dt S.ft ?_))
 unfold setsByText
 refine AA0 (AA0 (AC8 (AA2 (AA2 ?_))))
 by_cases hd:(!w.params.followText "set-order" && (!t.plain&&decide (es.size > 1)))=true
 ·refine ABX (λ_=>?_) λz=>absurd hd z
  refine AA0 (nw _ _ _ _ (by simp) λps d hp=>?_)
  refine AA0 (show wpAny (model prog w) _ (newObj (.type "tuple") (.seq (ps.map λ(i:Nat)=>rawInt i).toArray)) _ _ _ from AAr ?_ (by have e:=hp.length_eq;rw[ACv]at e;show (ps.map λ(i:Nat)=>rawInt i).toArray.size<=sizeLine;rw[AAC,AA6,e];exact hz))
  have S1:=S.at (h':=s.heap.push { cls:=.type "tuple",data:=.seq (ps.map λ(i:Nat)=>rawInt i).toArray }) λo e=>AA4 _ e
  refine AA0 (wpAny_setEpoch_of (s:={ s with heap:=_,drawn:=d }) S1.ob S1.dt S1.ft ?_)
  refine AA0 (show wpAny (model prog w) _ (newObj (.type "set_iterator") (.fields #[.ref s.heap.objs.size,rawInt 0,.ref a,rawInt es.size,rawInt ep])) _ _ _ from AAr ?_ (by size_fits))
  refine AA2 ⟨_,rfl,"set_iterator",_,⟨_,AAE _ rfl,rfl⟩,aN.lookup,?_⟩
  have sz:(s.heap.push { cls:=.type "tuple",data:=.seq (ps.map λ(i:Nat)=>rawInt i).toArray }).objs.size=s.heap.objs.size+1:=ABN ..
  refine h _ _ d (ps.filterMap λj=>(es[j]?).map (·.2)) _ _ (λb o e=>AA4 _ (AA4 _ e)) ?_ (by show s.heap.objs.size<=(s.heap.push _).objs.size;rw[sz];exact ADw _) (by show _<((s.heap.push _).push _).objs.size;rw[ABN (h:=s.heap.push _)];exact AAt _) ?_
   (λA' hh=>nR (o:=o) (t:=t) (ep:=ep) hp hh (AAL (by rw[sz];exact ABi la)) (AAL (by rw[sz];exact AAt _))) ⟨AAE _ rfl,S1.at λo e=>AA4 _ e,⟨_,AA4 _ (AAE _ rfl),rfl,_,rfl⟩⟩
  ·refine(hp.filterMap _).trans ?_
   have e1:(AAn es.size).filterMap (λj=>(es[j]?).map (·.2))=((AAn es.size).filterMap λj=>es[j]?).map (·.2):=by rw[List.map_filterMap]
   rw[e1,filterMap_getElem?_range]
  ·intro b hb
   rw[ABN,sz]
   rcases AAK.mp hb with rfl | hb
   ·exact .inr ⟨by rw[sz];exact ADw _,by rw[sz];exact AAt _⟩
   ·rcases AAK.mp hb with rfl | hb
    ·exact .inl rfl
    ·rw[ACG.mp hb]
     exact .inr ⟨AA8 _,ABi (AAt _)⟩
 ·refine ABX (λz=>absurd z hd) λ_=>?_
  refine AA0 (AA2 (AA0 (wpAny_setEpoch_of S.ob S.dt S.ft ?_)))
  refine AA0 (show wpAny (model prog w) _ (newObj (.type "set_iterator") (.fields #[rawInt 0,rawInt 0,.ref a,rawInt es.size,rawInt ep])) _ _ _ from AAr ?_ (by size_fits))
  refine AA2 ⟨_,rfl,"set_iterator",_,⟨_,AAE _ rfl,rfl⟩,aN.lookup,?_⟩
  have S1:=S.at (h':=s.heap.push (cM (rawInt 0) 0 es.size a ep)) λo e=>AA4 _ e
  have fpl:∀b∈[s.heap.objs.size,a],b=a\/s.heap.objs.size<=b/\b<(s.heap.push (cM (rawInt 0) 0 es.size a ep)).objs.size:=λb hb=>by
   rcases AAK.mp hb with rfl | hb
   ·exact .inr ⟨AA8 _,by rw[ABN];exact AAt _⟩
   ·exact .inl (ACG.mp hb)
  by_cases hb:w.params.followText "set-order" = true
  ·refine h _ _ s.drawn ((pickOrder (w.params.setOrder a ep) es).toList.map (·.2)) _ _ (λb o e=>AA4 _ e) ((iI _ es).map _) (AA8 _) (by rw[ABN];exact AAt _) fpl
    (λA' hh=>qP (o:=o) (t:=t) (ep:=ep) hb hh (AAL la)) ⟨AAE _ rfl,S1⟩
  ·have hb':w.params.followText "set-order" = false:=by simpa using hb
   have hnd:(!t.plain&&decide (es.size > 1))=false:=by
    rw[hb']at hd
    simpa using hd
   have ao:es.size<=1\/t.place.toList.Pairwise (· < ·):=by
    by_cases q:t.plain=true
    ·exact hpl q
    ·simp[q]at hnd
     exact .inl hnd
   rcases ao with h1 | hr
   ·refine h _ _ s.drawn (es.toList.map (·.2)) _ _ (λb o e=>AA4 _ e) (ACe _) (AA8 _) (by rw[ABN];exact AAt _) fpl
     (λA' hh=>qQ (o:=o) (t:=t) (ep:=ep) hb' (by rw[hled,hb'];rfl) h1 hh (AAL la)) ⟨?_,S1⟩
    rw[if_pos rfl]
    exact AAE _ rfl
   ·refine h _ _ s.drawn (es.toList.map (·.2)) _ _ (λb o e=>AA4 _ e) (ACe _) (AA8 _) (by rw[ABN];exact AAt _) fpl
     (λA' hh=>qR (o:=o) (t:=t) (ep:=ep) hb' (by rw[hled,hb'];rfl) hnd hr hh (AAL la)) ⟨?_,S1⟩
    rw[if_pos rfl]
    exact AAE _ rfl
end
end L2
namespace L2
open PySem PySem.Spec PyProof.Rows DL PySem.W PySem.Calls PyProof.V
section
variable{prog:Program}{w:World}{A:Around}{E:Value->Shared->Prop}{s:Shared}{a:Addr}{o:Obj}{es:Array (Int×Value)}{ep:Nat}{t:SetTable}
theorem xz(hT:s.TypeIs (.ref a) "set")(h:Q false s):wpAny (model prog w) A (AE1 (.ref a)) Q E s:=by
 unfold AE1
 refine AA0 (ABm hT F.slot_set_len.lookup ?_)
 generalize hi:("set.__len__":String)=ident
 wp_delta
 rw[show splitId ident=some ("set","__len__") by rw[<-hi];decide +kernel]
 rw[<-hi]
 refine AA0 (ACd (T:="set") (b:=true) hT sub_set_self (ABX (λz=>absurd z (by decide)) λ_=>ABX (λ_=>AA0 (ADC hT (AA2 h))) λz=>absurd (by decide +kernel) z))
theorem rW{R:Result->Shared->Prop}(hh:A.handled=none)(S:SetAt s.heap a o es ep t)(hc:o.cls=.type "set")(hpl:t.plain=true->es.size<=1\/t.place.toList.Pairwise (· < ·))(hled:t.led = !w.params.followText "set-order")(hz:es.size<=sizeLine)
  {D:Addr}{c₀:Nat} (hDa:D≠a) (hD:s.heap.get? D=some { cls:=.type "list",data:=.seq #[] c₀ }) (res:Value)
  (hR:∀h' tk d vs c,(∀b u,b≠D->s.heap.get? b=some u->h'.get? b=some u)->h'.get? D=some { cls:=.type "list",data:=.seq vs c }->vs.toList.Perm (es.toList.map (·.2))->R (.ok (.ret res)) { s with heap:=h',toks:=tk,drawn:=d }) :
  wpAny (model prog w) A.in1 (AC3 (.ref D) (.ref a) res)
   (λfin s'=>match fin with | .done f=>R (.ok f) s' | .again c'=>c'.quiet=true/\codeAny (model prog w) A c' R s') (λe s'=>R (.error e) s') s:=by
 have ld:D<s.heap.objs.size:=AAH hD
 have hT:s.TypeIs (.ref a) "set":=⟨o,S.ob,hc⟩
 unfold AC3
 refine AA0 (ADC hT ?_)
 have e1:Builtin.List.listSameRef (.ref D) (.ref a)=false:=by simp[Builtin.List.listSameRef,hDa]
 have e2:(ADA "set" == ADA "list")=false:=by decide
 have e3:(ADA "set" == ADA "tuple")=false:=by decide
 simp only[e1,e2,e3,Bool.or_false,AAD,if_false]
 refine AA0 (xu S hc hpl hled hz λit h1 d vs fp St k1 pv lit uit hfp W st=>?_)
 have hDf:D∉fp:=λz=>by
  rcases hfp D z with e | ⟨e,_⟩
  ·exact hDa e
  ·exact absurd ld (ACr.mpr e)
 have lv:vs.length=es.size:=by have:=pv.length_eq;simpa using this
 have go:∀(h:Heap) (c₁:Nat),St 0 h->(∀b u,b≠D->h1.get? b=some u->h.get? b=some u)->h.get? D=some { cls:=.type "list",data:=.seq #[] c₁ } ->
   codeAny (model prog w) A (.builtin "list.extend.loop" ⟨[.ref D,.ref it,res],[]⟩) R { s with heap:=h,drawn:=d }:=λh c₁ st' kk hD'=>by
  refine codeAny_extend_loopS (W A.in1 (by simp[hh])).toS hz D hDf res es.size 0 _ #[] c₁ rfl (AAT _) st' hD' (ItemsOf.nil _) λs' acc c' hm hD'' hacc=>?_
  rw[Moved.eq_with hm]
  have ea:acc.toList=vs:=by
   apply ADd
   intro i
   by_cases hi:i<es.size
   ·have hi':i<acc.size:=by rw[hacc.1];exact hi
    have h1:acc[i]?=some acc[i]:=AAP hi'
    rw[AAN,h1]
    exact(hacc.2 i _ h1).symm
   ·rw[AB9 (by rw[AAJ,hacc.1];lia),AB9 (by lia)]
  refine hR s'.heap s'.toks d acc c' (λb u hb e=>hm.heap b u (λz=>?_) (kk b u hb (k1 b u e))) hD'' (by rw[ea];exact pv)
  rcases AAK.mp z with e' | z
  ·exact hb e'
  ·rw[ACG.mp z]at e
   exact absurd (AAH e) (ACr.mpr lit)
 have hD1:=k1 _ _ hD
 refine AA0 (AAg (xz (s:={ s with heap:=h1,drawn:=d }) ⟨o,k1 _ _ S.ob,hc⟩ ?_))
 refine ABX (λz=>?_) λ_=>AA2 ⟨ADr F.plain_extend_loop _,go h1 c₀ st (λ_ _ _ e=>e) hD1⟩
 refine AA0 (ABr (AA0 (show wpAny (model prog w) _ (updateSeq D (·.push .none) >>= λ_=>updateSeq D (·.pop)) _ _ _ from AA0 (wpAny_updateSeq hD1 rfl ?_))))
 have hD2:=AAi (AB2 (·.push ABp)) hD1 rfl
 refine wpAny_updateSeq (hz:=by seq_fits) hD2 rfl ?_
 have hD3:=AAi (AB2 (·.pop)) hD2 rfl
 have other:∀b,b≠D->((h1.update D (AB2 (·.push ABp))).update D (AB2 (·.pop))).get? b=h1.get? b:=λb hb=>by
  rw[ABf _ _ (ABO hb),ABf _ _ (ABO hb)]
 refine AA2 ⟨ADr F.plain_extend_loop _,go _ _ ((W A hh).frame 0 _ _ st λb hb u e=>(other b λq=>hDf (q ▸ hb)).trans e) (λb u hb e=>(other b hb).trans e) hD3⟩
theorem qV{Q:Value->Shared->Prop}(hh:A.handled=none)(S:SetAt s.heap a o es ep t)(hc:o.cls=.type "set")(hpl:t.plain=true->es.size<=1\/t.place.toList.Pairwise (· < ·))(hled:t.led = !w.params.followText "set-order")(hz:es.size<=sizeLine)
  (h:∀h' tk d D (vs:List Value),(∀b u,s.heap.get? b=some u->h'.get? b=some u)->s.heap.get? D=none->h'.get? D=some { cls:=.type "list",data:=.seq vs.toArray }->vs.Perm (es.toList.map (·.2)) ->
   wpAny (model prog w) A.in1 (call (.builtin "list.sort") [.ref D]) (λ_ s'=>Q (.ref D) s') E { s with heap:=h',toks:=tk,drawn:=d }):wpAny (model prog w) A (call (.builtin "sorted") [.ref a]) Q E s:=by
 have la:a<s.heap.objs.size:=AAH S.ob
 refine call_function_entry kind_sorted plain_sorted entry_sorted (args_sorted1 _) ?_
 unfold Builtin.«sorted»
 refine AA0 (m:=checkCount "sorted" 1 1 _) (AA2 ?_)
 unfold collect
 refine AA0 (AA0 (wpAny_runValue (ABn F.entry_proto_collect ?_)))
 rw[ACM F.plain_proto_collect _]
 refine(show wpAny (model prog w) _ (newList [] >>= λl=>again (.builtin "list.__iadd__" ⟨[l,.ref a],[]⟩)) _ _ s from AA0 (AAr (AA2 ⟨ADr F.plain_list_iadd _,ABn F.entry_list_iadd ?_⟩)))
 rw[ACM F.plain_list_iadd _]
 have S1:=S.at (h':=s.heap.push { cls:=.type "list",data:=.seq ([]:List Value).toArray }) λo e=>AA4 _ e
 have key:=rW (prog:=prog) (A:=A.in1) (s:={ s with heap:=s.heap.push { cls:=.type "list",data:=.seq ([]:List Value).toArray } }) (D:=s.heap.objs.size) (c₀:=0) (res:=.ref s.heap.objs.size)
  (R:=λr s'=>∃h' tk d vs c,r=.ok (.ret (.ref s.heap.objs.size))/\s'={ s with heap:=h',toks:=tk,drawn:=d }/\(∀b u,s.heap.get? b=some u->h'.get? b=some u)/\h'.get? s.heap.objs.size=some { cls:=.type "list",data:=.seq vs c }/\vs.toList.Perm (es.toList.map (·.2)))
  (by simp[hh]) S1 hc hpl hled hz (Nat.ne_of_gt la) (AAE _ rfl) λh' tk d vs c k hD p=>⟨h',tk,d,vs,c,rfl,rfl,λb u e=>k b u (AAL (AAH e)) (AA4 _ e),hD,p⟩
 have last:∀h' tk d (vs:Array Value) c,(∀b u,s.heap.get? b=some u->h'.get? b=some u)->h'.get? s.heap.objs.size=some { cls:=.type "list",data:=.seq vs c }->vs.toList.Perm (es.toList.map (·.2)) ->
   wpAny (model prog w) A.in1 (do let ob <-load s.heap.objs.size;match ob.data with | .seq xs _=>pure xs.toList | _=>unsupported "internal:collect":Sem (List Value))
    (λxs s'=>wpAny (model prog w) A.in1 (do let l <-newList xs;let _ <-holding [l] (call (.builtin "list.sort") [l] []);ret l) (λfin s'=>∃v,fin=Fin.done (Flow.ret v)/\Q v s') E s') E { s with heap:=h',toks:=tk,drawn:=d }:=λh' tk d vs c kk hD p=>by
  refine AA0 (wpAny_load hD (AA2 (AA0 (ACt ?_ (by rw[p.length_eq];simpa using hz)))))
  have la':s.heap.objs.size<h'.objs.size:=AAH hD
  refine AA0 (AAg (AAo (h (h'.push { cls:=.type "list",data:=.seq vs.toList.toArray }) tk d h'.objs.size vs.toList (λb u e=>AA4 _ (kk b u e)) ?_ (AAE _ rfl) p) (λ_ s' q=>AA2 ⟨_,rfl,q⟩) λ_ _ z=>z))
  cases q:s.heap.get? h'.objs.size with
  | none=>rfl
  | some o'=>exact absurd (AAH (kk _ _ q)) (AAk _)
 refine AAo key (λfin s' x=>?_) λe s' ⟨_,_,_,_,_,z,_⟩=>by cases z
 cases fin with
 | done f =>
  obtain⟨h',tk,d,vs,c,z,rfl,kk,hD,p⟩:=x
  cases z
  exact last h' tk d vs c kk hD p
 | again c' =>
  refine⟨x.1,ACU x.2 ?_⟩
  rintro r s2 ⟨h',tk,d,vs,c,z,e,kk,hD,p⟩
  subst z e
  exact last h' tk d vs c kk hD p
end
end L2
namespace L2
open PySem PySem.Spec PyProof.Rows DL PySem.W
section
variable{X:Cx}{e:Expr}{te:DTE}{p p' pos pos':Pos}{k:Nat}
theorem Inv.drew(I:Inv X pins σ H s):Inv X pins σ H { s with drawn:=d } :=
 ⟨I.ok,I.os,I.bare,I.base,I.loc,I.cell,I.free,I.freeC,I.pin,I.hok,I.len⟩
end
end L2
namespace L2
open PySem PySem.Spec PyProof.Rows DL PySem.Builtin PySem.Builtin.Str PySem.StrLaws
theorem vL(a b len:Nat):strSliceIndices (some (a:Int)) (some (b:Int)) 1 len=strSliceIndices (some ((min a len:Nat):Int)) (some ((min b len:Nat):Int)) 1 len:=by
 have e:∀i:Nat,max (0:Int) (min (i:Int) (len:Int))=max (0:Int) (min ((min i len:Nat):Int) (len:Int)):=λi=>by lia
 have n:∀i:Nat,¬((i:Int)<0):=λi=>by lia
 simp only[strSliceIndices,n,if_false,show ((1:Int) > 0)=True by simp,if_true]
 rw[e a,e b]
theorem fh(x:Str)(l u:Option Int):(AD0 x l u).cps.toList=if (strSliceIndices l u 1 x.length).length=x.length then x.cps.toList else(strSliceIndices l u 1 x.length).filterMap (x.cps[·]?):=by
 unfold AD0
 by_cases h:(strSliceIndices l u 1 x.length).length=x.length
 ·rw[if_pos (by simp[h]),if_pos h]
 ·rw[if_neg (by simp[h]),if_neg h]
theorem tP(x:Str){a b:Nat}(hab:a<=b):(AD0 x (some (a:Int)) (some (b:Int))).cps.toList=(x.cps.toList.drop a).take (b-a):=by
 have hm:min a x.length<=min b x.length:=by lia
 have key:(strSliceIndices (some ((min a x.length:Nat):Int)) (some ((min b x.length:Nat):Int)) 1 x.length).filterMap (x.cps[·]?)=(x.cps.toList.drop (min a x.length)).take (min b x.length-min a x.length):=sliced_plain x hm (Nat.min_le_right ..)
 have ll:=jb (a:=x)
 have fin:(x.cps.toList.drop (min a x.length)).take (min b x.length-min a x.length)=(x.cps.toList.drop a).take (b-a):=by
  by_cases ha:a<=x.length
  ·rw[Nat.min_eq_left ha]
   by_cases hb:b<=x.length
   ·rw[Nat.min_eq_left hb]
   ·rw[Nat.min_eq_right (by lia),ACg (by rw[ABb];lia),ACg (by rw[ABb];lia)]
  ·rw[List.drop_eq_nil_of_le (i:=a) (by lia),List.drop_eq_nil_of_le (i:=min a x.length) (by lia)]
   simp
 rw[fh,vL,key,fin]
 split
 ·rename_i h
  rw[strSliceIndices_plain hm (Nat.min_le_right ..)]at h
  simp only[AA6,ACv]at h
  have h0:min a x.length=0:=by lia
  by_cases hx:x.length=0
  ·have:x.cps.toList=[]:=List.eq_nil_of_length_eq_zero (by lia)
   rw[this];simp
  ·have:a=0:=by lia
   subst this
   rw[List.drop_zero,ACg (by lia)]
 ·rfl
end L2
namespace L2
open PySem PySem.Spec PyProof.Rows DL PySem.W
section
variable{X:Cx}
def zb:DR2:=λx y M Q=>match x,y with
 | .int i,.int j=>CPow i j/\Q (.int (i ^ j.toNat)) M
 | _,_=>False
theorem Ct:OpD X (binaryOp .Pow) zb:=by
 refine OpR.imp Cj ?_
 rintro vx vy H R ⟨x,y,M,ρ,Q,sm,r1,r2,q,k⟩
 unfold zb at q
 split at q
 ·cases r1
  cases r2
  exact⟨_,_,rfl,rfl,q.1,k _ H (VQ.now sm (.int _) q.2)⟩
 ·exact q.elim
theorem Dv:HOp X (binaryOp .Pow) zb:=⟨Ct⟩
end
end L2
namespace Ht
open PySem
def Occ(ow:Array (Option Nat))(s:Nat):Prop:=∃i,ow[s]?=some (some i)
theorem getD_none(hs:s<ow.size):(ow.getD s (some 0)).isNone=true↔¬Occ ow s:=by
 have e:ow[s]?=some ow[s]:=AAP hs
 have e2:ow.getD s (some 0)=ow[s]:=by simp[AC6,hs]
 rw[e2]
 unfold Occ
 rw[e]
 cases ow[s]<;>simp
theorem vn(hz:ow.size=m+1)(h:Int):∀(fuel k0 k:Nat),k0<=k->k<k0+fuel->¬Occ ow (cG m h k).1->(∀n,n<cT m h k0->Occ ow (sq m h n).j) ->
  ∃N,ACh m ow fuel (cG m h k0).1 (cG m h k0).2=some (sq m h N).j/\¬Occ ow (sq m h N).j/\∀n,n<N->Occ ow (sq m h n).j:=by
 intro fuel
 induction fuel with
 | zero=>intro k0 k h1 h2;lia
 | succ fuel ih =>
  intro k0 k h1 h2 h3 h4
  have ile:=nZ m h k0
  have rle:AAm m (cG m h k0).1<=m/\(cG m h k0).1<=AAm m (cG m h k0).1:=by
   unfold AAm;split<;>lia
  unfold ACh
  cases hf:(AAn (AAm m (cG m h k0).1+1-(cG m h k0).1)).find? λk=>(ow.getD ((cG m h k0).1+k) (some 0)).isNone with
  | some r =>
   have hr:=AE2 hf
   have hmem:=List.mem_of_find?_eq_some hf
   rw[AAu]at hmem
   refine⟨cT m h k0+r,by rw[tO m h k0 r (by lia)],?_,λn hn=>?_⟩
   ·rw[tO m h k0 r (by lia)]
    exact(getD_none (by lia)).mp hr
   ·rcases ABR n (cT m h k0)with q | q
    ·exact h4 n q
    ·obtain⟨r',rfl⟩:∃r',n=cT m h k0+r':=⟨n-cT m h k0,by lia⟩
     rw[tO m h k0 r' (by lia)]
     refine AAw λhno=>?_
     have hlt:r' < r:=by lia
     have z:=(getD_none (ow:=ow) (s:=(cG m h k0).1+r') (by lia)).mpr hno
     have:=List.find?_range_eq_some.mp hf
     have:=this.2.2 r' hlt
     rw[z]at this
     exact absurd this (by simp)
  | none =>
   have all:∀r,r<=AAm m (cG m h k0).1-(cG m h k0).1->Occ ow ((cG m h k0).1+r):=λr hr=>by
    refine AAw λhno=>?_
    have z:=(getD_none (ow:=ow) (s:=(cG m h k0).1+r) (by lia)).mpr hno
    have:=List.find?_eq_none.mp hf r (AAu.mpr (by lia))
    exact this z
   have hk:k0≠k:=λe=>by subst e;exact h3 (all 0 (AAT _))
   refine ih (k0+1) k (by lia) (by lia) h3 λn hn=>?_
   unfold cT at hn
   rcases ABR n (cT m h k0)with q | q
   ·exact h4 n q
   ·obtain⟨r',rfl⟩:∃r',n=cT m h k0+r':=⟨n-cT m h k0,by lia⟩
    rw[tO m h k0 r' (by lia)]
    exact all r' (by lia)
structure Laid(m:Nat)(hs:List Int)(ow:Array (Option Nat))(k:Nat):Prop where
 sz:ow.size=m+1
 lt:∀s i:Nat,ow[s]?=some (some i)->i<k
 inj:∀s s' i:Nat,ow[s]?=some (some i)->ow[s']?=some (some i)->s=s'
 all:∀i:Nat,i<k->∃s:Nat,ow[s]?=some (some i)
 path:∀(s i:Nat) (h:Int),ow[s]?=some (some i)->hs[i]?=some h->∃n,(sq m h n).j=s/\∀n',n' < n->Occ ow (sq m h n').j
theorem Laid.room(L:Laid m hs ow k)(hk:k<=m):∃s,s<=m/\¬Occ ow s:=by
 refine AAw λhc=>?_
 have occ:∀s,s<=m->Occ ow s:=λs hs=>AAw λz=>hc ⟨s,hs,z⟩
 have idx:∀s,s∈AAn (m+1)->((ow.getD s none).getD 0)∈AAn k:=λs hs'=>by
  obtain⟨i,e⟩:=occ s (by have:=AAu.mp hs';lia)
  have:ow.getD s none=some i:=by
   obtain⟨hl,z⟩:=AAh.mp e
   simp[AC6,hl,z]
  rw[this]
  exact AAu.mpr (L.lt s i e)
 have nd:((AAn (m+1)).map λs=>(ow.getD s none).getD 0).Nodup:=by
  rw[ABe,ADf]
  have base:=List.nodup_range (n:=m+1)
  rw[ABe]at base
  refine base.imp_of_mem λ{a b} ha hb hne e=>hne ?_
  obtain⟨i,ei⟩:=occ a (by have:=AAu.mp ha;lia)
  obtain⟨j,ej⟩:=occ b (by have:=AAu.mp hb;lia)
  have e1:ow.getD a none=some i:=by
   obtain⟨hl,z⟩:=AAh.mp ei
   simp[AC6,hl,z]
  have e2:ow.getD b none=some j:=by
   obtain⟨hl,z⟩:=AAh.mp ej
   simp[AC6,hl,z]
  rw[e1,e2]at e
  have:i=j:=e
  subst this
  exact L.inj a b i ei ej
 have:=L2.nodup_le _ (AAn k) nd λx hx=>by
  obtain⟨s,hs',rfl⟩:=AAU.mp hx
  exact idx s hs'
 rw[AA6,ACv,ACv]at this
 lia
theorem Laid.step(hm:jC m)(L:Laid m hs ow k)(hk:k<=m)(hh:hs[k]?=some h) :
  ∃j,ACh m ow (AD4 m) (ABl h % (m+1)) (ABl h)=some j/\Laid m hs (ow.setIfInBounds j (some k)) (k+1):=by
 obtain⟨s,hs1,hs2⟩:=L.room hk
 obtain⟨k',hk',e⟩:=yB hm h hs1
 obtain⟨N,f1,f2,f3⟩:=vn L.sz h (AD4 m) 0 k' (AAT _) (by unfold AD4;lia) (by rw[e];exact hs2) λn hn=>absurd hn (ABW _)
 refine⟨(sq m h N).j,f1,?_⟩
 have jl:(sq m h N).j<ow.size:=by have:=tN (m:=m) h N;rw[L.sz];lia
 have same:(ow.setIfInBounds (sq m h N).j (some k))[(sq m h N).j]?=some (some k):=by
  rw[Array.getElem?_setIfInBounds_self_of_lt jl]
 have other:∀s,s≠(sq m h N).j->(ow.setIfInBounds (sq m h N).j (some k))[s]?=ow[s]?:=λs hne=>Array.getElem?_setIfInBounds_ne (ABO hne)
 have grow:∀s,Occ ow s->Occ (ow.setIfInBounds (sq m h N).j (some k)) s:=λs ⟨i,z⟩=>by
  by_cases q:s=(sq m h N).j
  ·subst q;exact⟨k,same⟩
  ·exact⟨i,by rw[other s q];exact z⟩
 have wh:∀s i,(ow.setIfInBounds (sq m h N).j (some k))[s]?=some (some i)->(s=(sq m h N).j/\i=k)\/(s≠(sq m h N).j/\ow[s]?=some (some i)):=λs i z=>by
  by_cases q:s=(sq m h N).j
  ·subst q;rw[same]at z;cases z;exact .inl ⟨rfl,rfl⟩
  ·rw[other s q]at z;exact .inr ⟨q,z⟩
 refine⟨by rw[Array.size_setIfInBounds];exact L.sz,λs i z=>?_,λs s' i z z'=>?_,λi hi=>?_,λs i h' z hh'=>?_⟩
 ·rcases wh s i z with⟨_,e⟩|⟨_,z⟩
  ·lia
  ·have:=L.lt s i z;lia
 ·rcases wh s i z with⟨e1,e2⟩|⟨_,z⟩
  ·rcases wh s' i z' with⟨e3,_⟩|⟨_,z'⟩
   ·rw[e1,e3]
   ·have:=L.lt s' i z';lia
  ·rcases wh s' i z' with⟨_,e4⟩|⟨_,z'⟩
   ·have:=L.lt s i z;lia
   ·exact L.inj s s' i z z'
 ·by_cases q:i=k
  ·subst q;exact⟨_,same⟩
  ·obtain⟨s,z⟩:=L.all i (by lia)
   refine⟨s,?_⟩
   rw[other s λe=>f2 ⟨i,by rw[<-e];exact z⟩]
   exact z
 ·rcases wh s i z with⟨e1,e2⟩|⟨_,z⟩
  ·subst e1 e2
   rw[hh]at hh';cases hh'
   exact⟨N,rfl,λn' hn'=>grow _ (f3 n' hn')⟩
  ·obtain⟨n,a1,a2⟩:=L.path s i h' z hh'
   exact⟨n,a1,λn' hn'=>grow _ (a2 n' hn')⟩
theorem zN(hm:jC m)(hs:List Int)(hl:hs.length<=m):∃ow,SetTable.layClean m hs.toArray=some ow/\Laid m hs ow hs.length:=by
 have start:Laid m hs (Array.replicate (m+1) none) 0:=by
  have no:∀s i:Nat,(Array.replicate (m+1) (none:Option Nat))[s]?≠some (some i):=λs i z=>by
   rw[Array.getElem?_replicate]at z
   split at z<;>cases z
  exact⟨by simp,λs i z=>absurd z (no s i),λs _ i z=>absurd z (no s i),λi hi=>absurd hi (ABW _),λs i _ z=>absurd z (no s i)⟩
 have go:∀(ax:List Int) (k:Nat) (ow:Array (Option Nat)),hs.drop k=ax->k+ax.length=hs.length->Laid m hs ow k ->
   ∃ow',ax.foldl (init:=some (ow,k)) (λacc h=>do
    let (owner,k) <-acc
    let j <-ACh m owner (AD4 m) (ABl h % (m+1)) (ABl h)
    pure (owner.setIfInBounds j (some k),k+1))=some (ow',hs.length)/\Laid m hs ow' hs.length:=by
  intro ax
  induction ax with
  | nil =>
   intro k ow e hk L
   have:k=hs.length:=by simpa using hk
   subst this
   exact⟨ow,rfl,L⟩
  | cons h ax ih =>
   intro k ow e hk L
   have hh:hs[k]?=some h:=by
    have:(hs.drop k)[0]?=some h:=by rw[e];rfl
    rw[ADQ]at this
    simpa using this
   rw[AAI]at hk
   obtain⟨j,f1,L'⟩:=L.step hm (by lia) hh
   obtain⟨ow',g1,g2⟩:=ih (k+1) (ow.setIfInBounds j (some k)) (by
    have:hs.drop (k+1)=(hs.drop k).drop 1:=by rw[List.drop_drop]
    rw[this,e];rfl) (by lia) L'
   refine⟨ow',?_,g2⟩
   rw[List.foldl_cons]
   simp only[Option.bind_eq_bind,Option.bind_some,f1,Option.pure_def]
   exact g1
 obtain⟨ow,g1,g2⟩:=go hs 0 _ rfl (by simp) start
 refine⟨ow,?_,g2⟩
 unfold SetTable.layClean
 rw[<-Array.foldl_toList]
 have:hs.toArray.toList=hs:=by simp
 rw[this,g1]
 rfl
theorem iJ{α:Type}[DecidableEq α]:∀{l l':List α},l.Nodup->l'.Nodup->(∀x,x∈l↔x∈l')->l.Perm l'
 | [],l',_,_,h=>by
  have:l'=[]:=List.eq_nil_iff_forall_not_mem.mpr λx hx=>absurd ((h x).mpr hx) (by simp)
  rw[this]
 | x::l,l',n,n',h=>by
  have hx:x∈l':=(h x).mp AAG
  have n1:=ABV.mp n
  refine(AEC x (iJ n1.2 (n'.erase x) λy=>?_)).trans (List.perm_cons_erase hx).symm
  by_cases e:y=x
  ·subst e
   constructor
   ·intro z;exact absurd z n1.1
   ·intro z;exact absurd z (List.Nodup.not_mem_erase n')
  ·rw[List.mem_erase_of_ne e,<-h y,AAK]
   exact⟨.inr,λz=>z.resolve_left e⟩
noncomputable def bb(m:Nat)(ow:Array (Option Nat)):List (Nat×Nat):=(AAn (m+1)).filterMap λj=>(ow.getD j none).map (j,·)
theorem cL(L:Laid m hs ow k):(s,i)∈bb m ow↔ow[s]?=some (some i):=by
 unfold bb
 rw[ACC]
 constructor
 ·rintro⟨j,hj,e⟩
  have hj':j<ow.size:=by rw[L.sz];exact AAu.mp hj
  have e2:ow.getD j none=ow[j]:=by simp[AC6,hj']
  rw[e2]at e
  cases q:ow[j] with
  | none=>rw[q]at e;cases e
  | some i' =>
   rw[q]at e
   have:=AAQ e
   cases this
   rw[AAP hj',q]
 ·intro e
  obtain⟨hl,z⟩:=AAh.mp e
  refine⟨s,AAu.mpr (by rw[<-L.sz];exact hl),?_⟩
  have e2:ow.getD s none=ow[s]:=by simp[AC6,hl]
  rw[e2,z];rfl
theorem mT(m:Nat)(ow:Array (Option Nat)):((bb m ow).map (·.1)).Pairwise (· < ·):=by
 unfold bb
 rw[ADf]
 refine List.Pairwise.filterMap (R:=(· < ·)) _ (λa a' h b hb b' hb'=>?_) (List.pairwise_lt_range)
 obtain⟨x,_,rfl⟩:=ABh.mp hb
 obtain⟨y,_,rfl⟩:=ABh.mp hb'
 exact h
theorem mU(L:Laid m hs ow hs.length):((bb m ow).map (·.2)).Perm (AAn hs.length):=by
 have nd1:(bb m ow).Nodup:=by
  have:=mT m ow
  rw[ADf]at this
  exact this.imp λh e=>by rw[e]at h;exact AAk _ h
 have nd:((bb m ow).map (·.2)).Nodup:=by
  rw[ABe,ADf]
  rw[ABe]at nd1
  refine nd1.imp_of_mem λ{a b} ha hb hne e=>hne ?_
  obtain⟨s,i⟩:=a
  obtain⟨s',i'⟩:=b
  have e':i=i':=e
  subst e'
  rw[L.inj s s' i ((cL L).mp ha) ((cL L).mp hb)]
 refine iJ nd List.nodup_range λi=>?_
 rw[AAu,AAU]
 constructor
 ·rintro⟨⟨s,i'⟩,hm,rfl⟩
  exact L.lt s i' ((cL L).mp hm)
 ·intro hi
  obtain⟨s,e⟩:=L.all i hi
  exact⟨(s,i),(cL L).mpr e,rfl⟩
theorem lA{α:Type}{l:List α}{p:Nat}{x y:α}(hp:p<=l.length){i:Nat}(h:(l.take p++x::l.drop p)[i]?=some y):(i<p/\l[i]?=some y)\/(i=p/\y=x)\/(p<i/\l[i-1]?=some y):=by
 have lt:(l.take p).length=p:=by rw[AAz];lia
 rcases ACs i p with q | q | q
 ·rw[AAM (by lia),List.getElem?_take,if_pos q]at h
  exact .inl ⟨q,h⟩
 ·subst q
  rw[AAc (by lia),lt,ADE]at h
  exact .inr (.inl ⟨rfl,(AAQ h).symm⟩)
 ·rw[AAc (by lia),lt]at h
  obtain⟨r,hr⟩:∃r,i-p=r+1:=⟨i-p-1,by lia⟩
  rw[hr,ABv,ADQ]at h
  exact .inr (.inr ⟨q,by rw[show i-1=p+r by lia];exact h⟩)
structure TPre(t:SetTable)(hs:List Int):Prop where
 msk:jC t.mask
 len:t.place.size=hs.length
 nod:t.dummies = #[]
 ris:t.place.toList.Pairwise (· < ·)
 rng:∀j∈t.place.toList,j<=t.mask
 path:∀(i:Nat) (h:Int) (j:Nat),hs[i]?=some h->t.place[i]?=some j->∃n,(sq t.mask h n).j=j/\∀n',n' < n->(sq t.mask h n').j∈t.place.toList
theorem put_pre(T:TOk t hs)(h2:(sq t.mask h N).j∉t.place.toList)(h3:∀k,k<N->(sq t.mask h k).j∈t.place.toList)(pl:Bool) :
  (t.put (sq t.mask h N).j).2<=hs.length/\TPre { (t.put (sq t.mask h N).j).1 with plain:=pl } (hs.take (t.put (sq t.mask h N).j).2++h::hs.drop (t.put (sq t.mask h N).j).2):=by
 obtain⟨e,ris⟩:=tY T.ris h2
 obtain⟨b1,_,_⟩:=below_spec t.place T.ris (sq t.mask h N).j
 have bl:AAY t.place (sq t.mask h N).j<=hs.length:=by rw[<-T.len];exact b1
 refine⟨bl,⟨T.msk,?_,?_,ris,λj hj=>?_,λi h' j hh hj=>?_⟩⟩
 ·have:=congrArg AC1 e
  rw[AAJ,AAA,AAI,AAz,ABb,AAJ]at this
  show (t.put (sq t.mask h N).j).1.place.size=(hs.take (AAY t.place (sq t.mask h N).j)++h::hs.drop (AAY t.place (sq t.mask h N).j)).length
  rw[this,AAA,AAI,AAz,ABb,T.len]
 ·show (if SetTable.has t.dummies (sq t.mask h N).j then SetTable.eraseAt t.dummies (AAY t.dummies (sq t.mask h N).j)else t.dummies) = #[]
  rw[T.nod]
  rfl
 ·have hj':j∈(t.put (sq t.mask h N).j).1.place.toList:=hj
  rw[e]at hj'
  rcases AAl.mp hj' with q | q
  ·exact T.rng j (List.mem_of_mem_take q)
  ·rcases AAK.mp q with q | q
   ·rw[q];exact tN h N
   ·exact T.rng j (List.mem_of_mem_drop q)
 ·have sub:∀x,x∈t.place.toList->x∈(t.put (sq t.mask h N).j).1.place.toList:=λx hx=>by
   rw[e]
   rw[<-List.take_append_drop (AAY t.place (sq t.mask h N).j) t.place.toList]at hx
   rcases AAl.mp hx with q | q
   ·exact AAd _ q
   ·exact AAF _ (AA9 _ q)
  have hj':(t.put (sq t.mask h N).j).1.place.toList[i]?=some j:=by rw[AAN];exact hj
  rw[e]at hj'
  have go:∀k,hs[k]?=some h'->t.place[k]?=some j->∃n,(sq t.mask h' n).j=j/\∀n',n' < n->(sq t.mask h' n').j∈(t.put (sq t.mask h N).j).1.place.toList:=λk z1 z2=>by
   obtain⟨n,a1,a2⟩:=T.path k h' j z1 z2
   exact⟨n,a1,λn' hn'=>sub _ (a2 n' hn')⟩
  rcases lA (by rw[AAJ];exact b1) hj' with⟨q,z⟩|⟨q,z⟩|⟨q,z⟩
  ·rcases lA bl hh with⟨q',z'⟩|⟨q',z'⟩|⟨q',z'⟩
   ·exact go i z' (by rw[<-AAN];exact z)
   ·lia
   ·lia
  ·rcases lA bl hh with⟨q',z'⟩|⟨q',z'⟩|⟨q',z'⟩
   ·lia
   ·subst z z'
    exact⟨N,rfl,λn' hn'=>sub _ (h3 n' hn')⟩
   ·lia
  ·rcases lA bl hh with⟨q',z'⟩|⟨q',z'⟩|⟨q',z'⟩
   ·lia
   ·lia
   ·exact go (i-1) z' (by rw[<-AAN];exact z)
theorem TPre.ok(T:TPre t hs)(h:t.tooFull=false):TOk t hs:=by
 refine⟨T.msk,T.len,T.nod,T.ris,T.rng,?_,T.path⟩
 unfold SetTable.tooFull AEM at h
 rw[T.nod]at h
 simp at h
 simpa using h
theorem TPre.anew(T:TPre t hs)(h:t.tooFull=true)(hb:(hs.length-1)*5<t.mask*3)(h60:hs.length<=64) :
  AE8 (ACf hs.length)<=sizeLine/\∃t2 ord,t.relaid hs.toArray (ACf hs.length)=some (t2,ord)/\ord.toList.Perm (AAn hs.length)/\TOk t2 (ord.toList.map λi=>hs.getD i 0)/\t2.led=t.led:=by
 have full:hs.length*5 ≥ t.mask*3:=by
  unfold SetTable.tooFull AEM at h
  rw[T.nod,T.len]at h
  simpa using h
 have gm:∃m,AE8 (ACf hs.length)=m+1/\jC m/\hs.length<=m/\hs.length*5<m*3:=by
  rcases T.msk with e | e | e
  ·have:hs.length=5:=by lia
   rw[this]
   exact⟨31,by decide +kernel,.inr (.inl rfl),by decide,by decide⟩
  ·have:hs.length=19:=by lia
   rw[this]
   exact⟨127,by decide +kernel,.inr (.inr rfl),by decide,by decide⟩
  ·lia
 obtain⟨m,e,hm,hl,few⟩:=gm
 refine⟨by rw[e,ABt];rcases hm with rfl | rfl | rfl<;>lia,?_⟩
 obtain⟨ow,f1,L⟩:=zN hm hs hl
 unfold SetTable.relaid
 rw[e,ADS]
 unfold SetTable.laid
 rw[f1]
 refine⟨_,_,rfl,?_,?_,rfl⟩
 ·show ((bb m ow).map (·.2)).toArray.toList.Perm _
  simpa using mU L
 ·have pl:((bb m ow).map (·.1)).toArray.toList=(bb m ow).map (·.1):=by simp
  have ol:((bb m ow).map (·.2)).toArray.toList=(bb m ow).map (·.2):=by simp
  have ln:(bb m ow).length=hs.length:=by have:=(mU L).length_eq;simpa using this
  refine⟨hm,?_,rfl,?_,λj hj=>?_,?_,λi h' j hh hj=>?_⟩
  ·show ((bb m ow).map (·.1)).toArray.size=(((bb m ow).map (·.2)).toArray.toList.map λi=>hs.getD i 0).length
   simp
  ·show ((bb m ow).map (·.1)).toArray.toList.Pairwise _
   rw[pl];exact mT m ow
  ·have hj':j∈((bb m ow).map (·.1)).toArray.toList:=hj
   rw[pl]at hj'
   obtain⟨⟨s,i⟩,hm',rfl⟩:=AAU.mp hj'
   have:=(AAh.mp ((cL L).mp hm')).1
   rw[L.sz]at this
   show s<=m
   lia
  ·show ((bb m ow).map (·.1)).toArray.size*5<m*3
   rw[AAC,AA6,ln];exact few
  ·have hh':(((bb m ow).map (·.2)).map λi=>hs.getD i 0)[i]?=some h':=by rw[<-ol];exact hh
   have hj':((bb m ow).map (·.1))[i]?=some j:=by rw[<-pl,AAN];exact hj
   rw[ABG,AAV]at hh'
   rw[AAV]at hj'
   cases q:(bb m ow)[i]? with
   | none=>rw[q]at hj';cases hj'
   | some p =>
    obtain⟨s,k⟩:=p
    rw[q]at hh' hj'
    have e1:s=j:=AAQ hj'
    have e2:hs.getD k 0=h':=AAQ hh'
    subst e1
    have mem:=(cL L).mp (AAe q)
    have kl:=L.lt s k mem
    have hk:hs[k]?=some h':=by
     rw[AA5 kl]
     rw[<-e2];simp[AEH,kl]
    obtain⟨n,a1,a2⟩:=L.path s k h' mem hk
    refine⟨n,a1,λn' hn'=>?_⟩
    obtain⟨k',z⟩:=a2 n' hn'
    show (sq m h' n').j∈((bb m ow).map (·.1)).toArray.toList
    rw[pl]
    exact AAU.mpr ⟨(_,k'),(cL L).mpr z,rfl⟩
end Ht
namespace L2
open PySem PySem.Spec PyProof.Rows DL PySem.W
theorem lp:∀(n:Nat) (d:D),bY n d=true->okD M n d=true
 | 0,d,h=>by cases d<;>first | rfl | cases h
 | n+1,d,h=>by
  cases d with
  | tup ds =>
   have h':ds.all (bY n)=true:=h
   show ds.all (okD M n)=true
   rw[AAW]at h' ⊢
   exact λx hx=>lp n x (h' x hx)
  | str x=>rfl
  | int i=>rfl
  | _=>cases h
theorem eP:∀(n:Nat) (x y:D),bY n x=true->bY n y=true->(eqD M n x y=true↔x=y):=by
 intro n
 induction n with
 | zero =>
  intro x y h1 h2
  cases x with
  | str a =>
   cases y with
   | str b=>simp[eqD]
   | int b=>simp[eqD]
   | _=>cases h2
  | int a =>
   cases y with
   | str b=>simp[eqD]
   | int b=>simp[eqD]
   | _=>cases h2
  | _=>cases h1
 | succ n ih =>
  have go:∀xs ys:List D,xs.all (bY n)=true->ys.all (bY n)=true->(eqL (eqD M n) xs ys=true↔xs=ys):=by
   intro xs
   induction xs with
   | nil=>intro ys _ _;cases ys<;>simp[eqL]
   | cons x xs ih2 =>
    intro ys a1 a2
    cases ys with
    | nil=>simp[eqL]
    | cons y ys =>
     rw[ABI,AAO]at a1 a2
     show (eqD M n x y&&eqL (eqD M n) xs ys)=true↔_
     rw[AAO,ih x y a1.1 a2.1,ih2 ys a1.2 a2.2,ADO]
  intro x y h1 h2
  cases x with
  | str a =>
   cases y with
   | str b=>simp[eqD]
   | int b=>simp[eqD]
   | tup ys=>simp[eqD]
   | _=>cases h2
  | int a =>
   cases y with
   | str b=>simp[eqD]
   | int b=>simp[eqD]
   | tup ys=>simp[eqD]
   | _=>cases h2
  | tup xs =>
   cases y with
   | str b=>simp[eqD]
   | int b=>simp[eqD]
   | tup ys=>rw[D.tup.injEq];exact go _ _ h1 h2
   | _=>cases h2
  | _=>cases h1
section
variable{X:Cx}{pins:List (Addr×Obj)}{σ:St}{H:Hp}{ρ:List Addr}{M:Mem}
theorem DH(sm:Sim X.K ρ M H):∀(n:Nat) (A:Around) (s:Shared) (d:D) (v:V) (u:Value) (E:Value->Shared->Prop) (Q:Int->Shared->Prop),A.units+n<cLine->Inv X pins σ H s->Rep X.K ρ H d v->aC v u->bY n d=true ->
  (∀tk,Q (hkD X.w n d) { s with toks:=tk })->wpAny (model X.prog X.w) A (pyHash u) Q E s:=by
 intro n
 induction n with
 | zero =>
  intro A s d v u E Q hu I r rv hk h
  cases r with
  | str x=>obtain⟨t,rfl⟩:=rv;exact AD6 (h _)
  | int x=>obtain⟨t,rfl⟩:=rv;exact AD5 (h _)
  | _=>cases hk
 | succ n ih =>
  intro A s d v u E Q hu I r rv hk h
  cases r with
  | str x=>obtain⟨t,rfl⟩:=rv;exact AD6 (h _)
  | int x=>obtain⟨t,rfl⟩:=rv;exact AD5 (h _)
  | @tup a vs ds hq rr =>
   cases rv
   obtain⟨its,r2,p,_⟩:=I.tuple hq
   obtain⟨o,ho,hc,nn,hd⟩:=id p
   have hT:s.TypeIs (.ref a) "tuple":=⟨o,ho,hc⟩
   have hks:ds.all (bY n)=true:=hk
   unfold pyHash
   first | unfold pyHashByItsType | skip
   first | refine AA0 (wpAny_cRoomFor_or (.inr (by lia)) ?_) | skip
   refine AA0 (ABm hT F.slot_tuple_hash.lookup ?_)
   refine(show wpAny (model X.prog X.w) _ (if (some (ADT "tuple.__hash__")==some ABp)=true then _ else _) Q E s from ?_)
   rw[if_neg (by rw[beq_builtin_none];exact ABQ)]
   refine AA0 (ABm hT F.slot_tuple_hash.lookup ?_)
   refine(show wpAny (model X.prog X.w) _ (callSpecialIfBoundUnlessNone? (.ref a) "__hash__" _ >>= _) Q E s from AA0 (ACl hT F.slot_tuple_hash (AAv F.slot_tuple_hash hT F.entry_tuple_hash ?_ (F.args_tuple_hash_1 _))))
   refine(show wpAny (model X.prog X.w) _ (AC5 (.ref a) >>= _) _ _ s from AA0 (wpAny_tupleItemsOf ho hd (AA0 ?_)))
   rw[<-ABZ]
   refine ABD _ (λax (b:Array Int) s'=>∃done left ws,ds=done++left/\Reps X.K ρ H left ws/\au ws ax/\b.toList=done.map (hkD X.w n)/\∃tk,s'={ s with toks:=tk }) _ ?_ ?_ _ _ ⟨[],ds,vs,rfl,rr,by simpa using r2,rfl,s.toks,rfl⟩
   ·rintro x ax b s' ⟨done,left,ws,e,h1,h2,hb,tk,rfl⟩
    cases h2 with
    | @cons v0 _ ws' _ q1 q2 =>
     cases h1 with
     | @cons d0 _ left' _ r0 t0 =>
      refine AA0 (ih _ _ d0 v0 x _ _ (by show A.units+1+n<cLine;lia) (I.tok tk) r0 q1 ?_ λtk'=>?_)
      ·have:=AAW.mp hks d0 (by rw[e];simp)
       exact this
      ·first
        | exact AA2 ⟨done++[d0],left',ws',by rw[e];simp,t0,q2,by simp[hb],tk',rfl⟩
        | exact AA0 (AA2 (AA2 ⟨done++[d0],left',ws',by rw[e];simp,t0,q2,by simp[hb],tk',rfl⟩))
   ·rintro b s' ⟨done,left,ws,e,h1,h2,hb,tk,rfl⟩
    cases h2
    cases h1
    rw[ABC]at e
    subst e
    refine(show wpAny (model X.prog X.w) _ (retInt (ABE b.toList)) _ _ _ from ?_)
    rw[hb]
    refine wpAny_ret_mkInt ?_
    have key:hkD X.w (n+1) (.tup ds)=reduceHash (ABE (ds.map (hkD X.w n))):=rfl
    generalize ABE (ds.map (hkD X.w n))=z at key
    refine(show wpAny (model X.prog X.w) _ (if (decide (-(2:Int) ^ 63<=z)&&decide (z<2 ^ 63))=true then _ else _) Q E _ from ?_)
    unfold reduceHash at key
    by_cases hr:(decide (-(2:Int) ^ 63<=z)&&decide (z<2 ^ 63))=true
    ·rw[if_pos hr]at key ⊢
     exact AA2 (by rw[<-key];exact h _)
    ·rw[if_neg hr]at key ⊢
     exact AA0 (ABr (AA2 (by rw[<-key];exact h _)))
  | _=>cases hk
end
section
variable{X:Cx}{pins:List (Addr×Obj)}{σ:St}{H:Hp}{ρ:List Addr}{M:Mem}
theorem hbv_D(sm:Sim X.K ρ M H):∀(n k:Nat) (A:Around) (s:Shared) (d:D) (v:V) (u:Value) (E:Value->Shared->Prop) (Q:Bool->Shared->Prop),n<=k->Inv X pins σ H s->Rep X.K ρ H d v->aC v u->bY n d=true->(∀b,Q b s)->wpAny (model X.prog X.w) A (hashByValue k u) Q E s:=by
 intro n
 induction n with
 | zero =>
  intro k A s d v u E Q hk I r rv kd h
  cases r with
  | str x=>obtain⟨t,rfl⟩:=rv;cases k<;>exact AA2 (h _)
  | int x=>obtain⟨t,rfl⟩:=rv;cases k<;>exact AA2 (h _)
  | _=>cases kd
 | succ n ih =>
  intro k A s d v u E Q hk I r rv kd h
  cases r with
  | str x=>obtain⟨t,rfl⟩:=rv;cases k<;>exact AA2 (h _)
  | int x=>obtain⟨t,rfl⟩:=rv;cases k<;>exact AA2 (h _)
  | @tup a vs ds hq rr =>
   cases rv
   obtain⟨k,rfl⟩:∃k',k=k'+1:=⟨k-1,by lia⟩
   obtain⟨its,r2,p,_⟩:=I.tuple hq
   obtain⟨o,ho,hc,nn,hd⟩:=id p
   have hT:s.TypeIs (.ref a) "tuple":=⟨o,ho,hc⟩
   have hks:ds.all (bY n)=true:=kd
   unfold hashByValue
   refine AA0 (ABm hT F.slot_tuple_hash.lookup ?_)
   dsimp only
   refine AA0 (AD2 ho hd ?_)
   simp only[Option.getD_some]
   rw[<-ABZ]
   refine AA0 ?_
   refine ABD _ (λax r s'=>s'=s/\r.1=none/\∃left ws,(∀x∈left,bY n x=true)/\Reps X.K ρ H left ws/\au ws ax) _ ?_ ?_ _ _ ⟨rfl,rfl,ds,vs,AAW.mp hks,rr,by simpa using r2⟩
   ·rintro x ax r s' ⟨rfl,hr,left,ws,hl,h1,h2⟩
    cases h2 with
    | cons q1 q2 =>
     cases h1 with
     | cons r0 t0 =>
      refine AA0 (ih k _ _ _ _ x _ _ (by lia) I r0 q1 (hl _ AAG) λb=>?_)
      cases b with
      | false=>exact AA2 (AA2 (h _))
      | true=>exact AA2 ⟨rfl,rfl,_,_,λx hx=>hl x (AA9 _ hx),t0,q2⟩
   ·rintro⟨r1,r2⟩ s' ⟨rfl,hr,_⟩
    simp only at hr
    subst hr
    exact AA2 (h _)
  | _=>cases kd
theorem tV(sm:Sim X.K ρ M H):∀(n k:Nat) (A:Around) (s:Shared) (d:D) (v:V) (u:Value) (E:Value->Shared->Prop) (Q:Bool->Shared->Prop),n<=k->Inv X pins σ H s->Rep X.K ρ H d v->aC v u->bY n d=true->Q true s->wpAny (model X.prog X.w) A (eqIsQuiet k u) Q E s:=by
 intro n
 induction n with
 | zero =>
  intro k A s d v u E Q hk I r rv kd h
  cases r with
  | str x=>obtain⟨t,rfl⟩:=rv;rw[ABk k (v:=.str x t) rfl];exact AA2 h
  | int x=>obtain⟨t,rfl⟩:=rv;rw[ABk k (v:=.int x t) rfl];exact AA2 h
  | _=>cases kd
 | succ n ih =>
  intro k A s d v u E Q hk I r rv kd h
  cases r with
  | str x=>obtain⟨t,rfl⟩:=rv;rw[ABk k (v:=.str x t) rfl];exact AA2 h
  | int x=>obtain⟨t,rfl⟩:=rv;rw[ABk k (v:=.int x t) rfl];exact AA2 h
  | @tup a vs ds hq rr =>
   cases rv
   obtain⟨k,rfl⟩:∃k',k=k'+1:=⟨k-1,by lia⟩
   obtain⟨its,r2,p,_⟩:=I.tuple hq
   obtain⟨o,ho,hc,nn,hd⟩:=id p
   have hT:s.TypeIs (.ref a) "tuple":=⟨o,ho,hc⟩
   have hks:ds.all (bY n)=true:=kd
   unfold eqIsQuiet
   refine AA0 (ABm hT F.slot_tuple_eq.lookup ?_)
   refine(show wpAny (model X.prog X.w) A (isInstance (.ref a) (.type "tuple") >>= _) _ _ s from AA0 (ACd hT isSubtype_tuple_tuple ?_))
   simp only[ABY,AAD,if_false]
   refine AA0 (AD2 ho hd ?_)
   simp only[Option.getD_some]
   refine AA0 ?_
   rw[<-ABZ]
   refine ABD _ (λax r s'=>s'=s/\r.1=none/\∃left ws,(∀x∈left,bY n x=true)/\Reps X.K ρ H left ws/\au ws ax) _ ?_ ?_ _ _ ⟨rfl,rfl,ds,vs,AAW.mp hks,rr,by simpa using r2⟩
   ·rintro x ax r s' ⟨rfl,hr,left,ws,hl,h1,h2⟩
    cases h2 with
    | cons q1 q2 =>
     cases h1 with
     | cons r0 t0 =>
      refine AA0 (ih k _ _ _ _ x _ _ (by lia) I r0 q1 (hl _ AAG) ?_)
      simp only[ABY,AAD,if_false]
      exact AA2 ⟨rfl,rfl,_,_,λx hx=>hl x (AA9 _ hx),t0,q2⟩
   ·rintro⟨r1,r2⟩ s' ⟨rfl,hr,_⟩
    simp only at hr
    subst hr
    exact AA2 h
  | _=>cases kd
theorem Ew(sm:Sim X.K ρ M H):∀(n k:Nat) (A:Around) (s:Shared) (d:D) (v:V) (u:Value) (E:Value->Shared->Prop) (Q:Bool->Shared->Prop),n<=k->Inv X pins σ H s->Rep X.K ρ H d v->aC v u->bY n d=true->Q false s->wpAny (model X.prog X.w) A (ofAClassStatement k u) Q E s:=by
 intro n
 induction n with
 | zero =>
  intro k A s d v u E Q hk I r rv kd h
  cases r with
  | str x=>obtain⟨t,rfl⟩:=rv;cases k<;>exact AA2 h
  | int x=>obtain⟨t,rfl⟩:=rv;cases k<;>exact AA2 h
  | _=>cases kd
 | succ n ih =>
  intro k A s d v u E Q hk I r rv kd h
  cases r with
  | str x=>obtain⟨t,rfl⟩:=rv;cases k<;>exact AA2 h
  | int x=>obtain⟨t,rfl⟩:=rv;cases k<;>exact AA2 h
  | @tup a vs ds hq rr =>
   cases rv
   obtain⟨k,rfl⟩:∃k',k=k'+1:=⟨k-1,by lia⟩
   obtain⟨its,r2,p,_⟩:=I.tuple hq
   obtain⟨o,ho,hc,nn,hd⟩:=id p
   have hT:s.TypeIs (.ref a) "tuple":=⟨o,ho,hc⟩
   have hks:ds.all (bY n)=true:=kd
   unfold ofAClassStatement
   refine AA0 (ADC hT ?_)
   dsimp only
   simp only[beq_self_eq_true,if_true]
   refine AA0 (AA2 ?_)
   simp only[ABY,AAD,if_false]
   refine AA0 (AD2 ho hd ?_)
   dsimp only
   refine AA0 ?_
   rw[<-ABZ]
   refine ABD _ (λax r s'=>s'=s/\r.1=none/\∃left ws,(∀x∈left,bY n x=true)/\Reps X.K ρ H left ws/\au ws ax) _ ?_ ?_ _ _ ⟨rfl,rfl,ds,vs,AAW.mp hks,rr,by simpa using r2⟩
   ·rintro x ax r s' ⟨rfl,hr,left,ws,hl,h1,h2⟩
    cases h2 with
    | cons q1 q2 =>
     cases h1 with
     | cons r0 t0 =>
      refine AA0 (ih k _ _ _ _ x _ _ (by lia) I r0 q1 (hl _ AAG) ?_)
      simp only[AAD,if_false]
      exact AA2 ⟨rfl,rfl,_,_,λx hx=>hl x (AA9 _ hx),t0,q2⟩
   ·rintro⟨r1,r2⟩ s' ⟨rfl,hr,_⟩
    simp only at hr
    subst hr
    exact AA2 h
  | _=>cases kd
end
noncomputable def ko:D->Bool
 | .tup _=>true
 | _=>false
def Ent(X:Cx)(ρ:List Addr)(H:Hp)(n:Nat)(d:D)(e:Int×Value):Prop:=(∃v,Rep X.K ρ H d v/\aC v e.2)/\e.1=hkD X.w n d/\bY n d=true/\ko d=true
structure KSet(X:Cx)(ρ:List Addr)(H:Hp)(h:Heap)(a:Addr)(n:Nat)(ds:List D)(o:Obj)(es:Array (Int×Value))(ep:Nat)(t:SetTable):Prop where
 ob:h.get? a=some o
 ex:o.ExactSet
 dt:o.data=.set es ep t
 en:Paired (Ent X ρ H n) ds es.toList
 nd:ds.Nodup
 tk:Ht.TOk t (es.toList.map (·.1))
 ld:t.led = !X.w.params.followText "set-order"
theorem du{α β:Type}{R:α->β->Prop}:∀{xs:List α}{ys:List β}{i:Nat}{y:β},Paired R xs ys->ys[i]?=some y->∃x,xs[i]?=some x/\R x y
 | _,_,i,y,.nil,e=>by simp at e
 | _,_,0,y,.cons r _,e=>by simp at e;subst e;exact⟨_,rfl,r⟩
 | _,_,i+1,y,.cons _ t,e=>by
  obtain⟨x,h1,h2⟩:=du (i:=i) t (by simpa using e)
  exact⟨x,by simpa using h1,h2⟩
theorem fv{α β:Type}{R:α->β->Prop}:∀{xs:List α}{ys:List β}{i:Nat}{x:α},Paired R xs ys->xs[i]?=some x->∃y,ys[i]?=some y/\R x y
 | _,_,i,y,.nil,e=>by simp at e
 | _,_,0,y,.cons r _,e=>by simp at e;subst e;exact⟨_,rfl,r⟩
 | _,_,i+1,y,.cons _ t,e=>by
  obtain⟨x,h1,h2⟩:=fv (i:=i) t (by simpa using e)
  exact⟨x,by simpa using h1,h2⟩
theorem KSet.fits(S:KSet X ρ H h a n ds o es ep t):t.fits es.size=true:=by
 have h1:=S.tk.len
 have h2:=S.tk.few
 rw[AA6,AAJ]at h1
 unfold ADR
 have h3:t.fill=t.place.size:=by unfold AEM;rw[S.tk.nod];rfl
 rw[h3]
 simp only[AAO,beq_iff_eq,decide_eq_true_eq]
 lia
section
variable{X:Cx}{pins:List (Addr×Obj)}{σ:St}{H:Hp}{ρ:List Addr}{M:Mem}{A:Around}{E:Value->Shared->Prop}{s:Shared}{a:Addr}{n:Nat}{ds:List D}{o:Obj}{es:Array (Int×Value)}{ep:Nat}{t:SetTable}
theorem wd(sm:Sim X.K ρ M H)(I:Inv X pins σ H s)(hn:n<=8)(r:Rep X.K ρ H d v)(rv:aC v u)(kd:bY n d=true)(h:Q false s) :
  ∀(l:List Value),(∀y∈l,∃d' v',Rep X.K ρ H d' v'/\aC v' y/\bY n d'=true)->wpAny (model X.prog X.w) A (searchCouldBeSeen u l) Q E s:=by
 intro l hl
 unfold searchCouldBeSeen
 refine AA0 ?_
 refine ABD _ (λax r s'=>s'=s/\r.1=none/\∀y∈ax,∃d' v',Rep X.K ρ H d' v'/\aC v' y/\bY n d'=true) _ ?_ ?_ _ _ ⟨rfl,rfl,hl⟩
 ·rintro y ax r' s' ⟨rfl,hr,hy⟩
  have tl:∀z∈ax,∃d' v',Rep X.K ρ H d' v'/\aC v' z/\bY n d'=true:=λz hz=>hy z (AA9 _ hz)
  obtain⟨d',v',r1,r2,kd'⟩:=hy y AAG
  dsimp only
  refine ABX (λ_=>AA2 ⟨rfl,rfl,tl⟩) λ_=>?_
  refine AA0 (tV sm n 8 A _ d v u _ _ hn I r rv kd ?_)
  simp only[ABY,AAD,if_false]
  refine AA0 (tV sm n 8 A _ d' v' y _ _ hn I r1 r2 kd' ?_)
  simp only[ABY,AAD,if_false]
  refine AA0 (Ew sm n 8 A _ d v u _ _ hn I r rv kd ?_)
  simp only[AAD,if_false]
  refine AA0 (Ew sm n 8 A _ d' v' y _ _ hn I r1 r2 kd' ?_)
  simp only[AAD,if_false]
  exact AA2 ⟨rfl,rfl,tl⟩
 ·rintro⟨r1,r2⟩ s' ⟨rfl,hr,_⟩
  simp only at hr
  subst hr
  exact AA2 h
theorem wx(sm:Sim X.K ρ M H)(I:Inv X pins σ H s)(hn:n<=8)(hu:A.units+n<cLine)(S:KSet X ρ H s.heap a n ds o es ep t)(r:Rep X.K ρ H d v)(rv:aC v u)(kd:bY n d=true)
  (hthere:d∈ds->Q (.there none) s) (hN1:N<10*(t.mask+15)) (hN2:(Ht.sq t.mask (hkD X.w n d) N).j∉t.place.toList) (hN3:∀k,k<N->(Ht.sq t.mask (hkD X.w n d) k).j∈t.place.toList)
  (hfree:d∉ds->Q (.free (Ht.sq t.mask (hkD X.w n d) N).j false) s) :
  ∀(fuel m:Nat) (stand:Option ACL),m<=N->N<m+fuel->stand.getD (t.probeStart (hkD X.w n d))=Ht.sq t.mask (hkD X.w n d) m->(∀k i:Nat,k<m->t.place[i]?=some (Ht.sq t.mask (hkD X.w n d) k).j->ds[i]?≠some d) ->
   wpAny (model X.prog X.w) A (setSearchFrom a u (hkD X.w n d) true fuel stand) Q E s:=by
 intro fuel
 induction fuel with
 | zero=>intro m stand h1 h2;lia
 | succ fuel ih =>
  intro m stand h1 h2 hs hb
  unfold setSearchFrom
  refine AA0 (AB7 S.ob S.dt S.fits ?_)
  dsimp only
  have gw:t.gaveWay=false:=by
   unfold SetTable.gaveWay
   rcases S.tk.msk with e | e | e<;>rw[e]<;>rfl
  rw[gw]
  simp only[AAD,if_false]
  rw[hs]
  rcases Ht.go_spec S.tk.ris S.tk.nod (λi=>(es[i]?.map (·.1)).getD 0) (hkD X.w n d) (10*AD4 t.mask) m N h1 (by unfold AD4;lia) hN2 (λk _ hk=>hN3 k hk) (Ht.sq_dummy _ _)with⟨z1,z2⟩|⟨m',i,a1,a2,a3,a4,a5,a6⟩
  ·generalize hpr:SetTable.probe t _ (hkD X.w n d) (Ht.sq t.mask (hkD X.w n d) m)=pr
   obtain rfl:pr=_:=hpr.symm.trans z2
   dsimp only
   refine AA2 (hfree λhd=>?_)
   obtain⟨i,hi⟩:=ABH hd
   obtain⟨e,he,_,eh,_⟩:=fv S.en hi
   have he':es[i]?=some e:=by rw[<-AAN];exact he
   have hh:(es.toList.map (·.1))[i]?=some (hkD X.w n d):=by rw[AAV,he];exact congrArg some eh
   have hl:i<t.place.size:=by rw[S.tk.len];exact(AA7.mp hh).1
   obtain⟨ni,b1,b2⟩:=S.tk.path i _ t.place[i] hh (AAP hl)
   have hlt:ni<N:=by
    rcases ACs ni N with q | q | q
    ·exact q
    ·subst q
     exact absurd (show (Ht.sq t.mask (hkD X.w n d) ni).j∈t.place.toList by rw[b1];simp) hN2
    ·exact absurd (b2 N q) hN2
   have hp:t.place[i]?=some (Ht.sq t.mask (hkD X.w n d) ni).j:=by rw[b1];exact AAP hl
   rcases ABR ni m with q | q
   ·exact hb ni i q hp hi
   ·refine z1 ni i q hlt hp ?_
    rw[he']
    exact eh
  ·generalize hpr:SetTable.probe t _ (hkD X.w n d) (Ht.sq t.mask (hkD X.w n d) m)=pr
   obtain rfl:pr=_:=hpr.symm.trans a6
   dsimp only
   have hil:i<es.size:=by
    have:=(AAh.mp a3).1
    rw[S.tk.len,AA6,AAJ]at this
    exact this
   have hei:es[i]?=some es[i]:=AAP hil
   obtain⟨d0,hd0,⟨v0,r0,rv0⟩,eh0,kd0,it0⟩:=du S.en (i:=i) (y:=es[i]) (by rw[AAN];exact hei)
   have seen:∀(f:Bool->Sem SetFound),wpAny (model X.prog X.w) A (f false) Q E s->wpAny (model X.prog X.w) A (searchCouldBeSeen u ((es.filter (·.1==hkD X.w n d)).toList.map (·.2)) >>= f) Q E s:=λf hf=>by
    refine AA0 (wd sm I hn r rv kd hf _ λy hy=>?_)
    obtain⟨e,he,rfl⟩:=AAU.mp hy
    have he2:e∈es.toList:=by
     have:e∈es.filter (·.1==hkD X.w n d):=by simpa using he
     simpa using(Array.mem_filter.mp this).1
    obtain⟨j,hj⟩:=ABH he2
    obtain⟨d1,_,⟨v1,r1,rv1⟩,_,kd1,_⟩:=du S.en hj
    exact⟨d1,v1,r1,rv1,kd1⟩
   have hbv:∃b,es[i].2=ABS b:=by
    cases r0 with
    | tup _ _=>exact⟨_,rv0⟩
    | _=>cases it0
   obtain⟨b,hbv⟩:=hbv
   have heq:ABx A s es[i].2 u (eqD M n d0 d):=(gD I sm n A d0 d v0 v es[i].2 u hu r0 rv0 r rv (lp n d0 kd0) (lp n d kd)).1
   refine ABX (λ_=>seen _ ?_) λ_=>?_
   ·simp only[AAD,if_false]
    rw[hei]
    dsimp only
    refine AA0 (AAg (heq _ _ _ _ (AA0 (AB7 S.ob S.dt S.fits ?_))))
    dsimp only
    by_cases hq:eqD M n d0 d=true
    ·rw[hq]
     simp only[Bool.and_self,if_true]
     have:d0=d:=(eP n d0 d kd0 kd).mp hq
     subst this
     exact AA2 (hthere (AAe hd0))
    ·rw[ABP.mpr hq]
     simp only[AEB,AAD,if_false]
     have sm':t.sameMemory t.moves t.mask=some true:=by unfold SetTable.sameMemory;simp
     rw[sm']
     dsimp only
     simp only[if_true]
     rw[Ht.slot_live S.tk.ris a3]
     dsimp only
     rw[hei]
     have sam:wpAny (model X.prog X.w) A (isSame es[i].2 es[i].2) (λb s'=>b=true/\s'=s) E s:=by
      unfold isSame
      rw[hbv]
      simp only[beq_self_eq_true,if_true]
      exact AA2 (And.intro rfl rfl)
     refine AA0 (AAo sam (λb s' ⟨e1,e2⟩=>?_) λ_ _ z=>z)
     subst e1 e2
     refine AA0 (AA2 ?_)
     simp only[if_true]
     refine ih (m'+1) _ (by lia) (by lia) rfl λk i' hk hp hds=>?_
     rcases ABR k m with q | q
     ·exact hb k i' q hp hds
     ·rcases ABR k m' with q' | q'
      ·refine a5 k i' q q' hp ?_
       obtain⟨e,he,_,eh,_⟩:=fv S.en hds
       have he':es[i']?=some e:=by rw[<-AAN];exact he
       rw[he'];exact eh
      ·have:k=m':=by lia
       subst this
       have:i'=i:=by rw[<-Ht.below_at S.tk.ris hp,Ht.below_at S.tk.ris a3]
       subst this
       rw[hd0]at hds
       cases hds
       exact hq ((eP n d d kd kd).mpr rfl)
   ·rw[hei]
    dsimp only
    refine AA0 (AAg (heq _ _ _ _ (AA0 (AB7 S.ob S.dt S.fits ?_))))
    dsimp only
    by_cases hq:eqD M n d0 d=true
    ·rw[hq]
     simp only[Bool.and_self,if_true]
     have:d0=d:=(eP n d0 d kd0 kd).mp hq
     subst this
     exact AA2 (hthere (AAe hd0))
    ·rw[ABP.mpr hq]
     simp only[AEB,AAD,if_false]
     have sm':t.sameMemory t.moves t.mask=some true:=by unfold SetTable.sameMemory;simp
     rw[sm']
     dsimp only
     simp only[if_true]
     rw[Ht.slot_live S.tk.ris a3]
     dsimp only
     rw[hei]
     have sam:wpAny (model X.prog X.w) A (isSame es[i].2 es[i].2) (λb s'=>b=true/\s'=s) E s:=by
      unfold isSame
      rw[hbv]
      simp only[beq_self_eq_true,if_true]
      exact AA2 (And.intro rfl rfl)
     refine AA0 (AAo sam (λb s' ⟨e1,e2⟩=>?_) λ_ _ z=>z)
     subst e1 e2
     refine AA0 (AA2 ?_)
     simp only[if_true]
     refine ih (m'+1) _ (by lia) (by lia) rfl λk i' hk hp hds=>?_
     rcases ABR k m with q | q
     ·exact hb k i' q hp hds
     ·rcases ABR k m' with q' | q'
      ·refine a5 k i' q q' hp ?_
       obtain⟨e,he,_,eh,_⟩:=fv S.en hds
       have he':es[i']?=some e:=by rw[<-AAN];exact he
       rw[he'];exact eh
      ·have:k=m':=by lia
       subst this
       have:i'=i:=by rw[<-Ht.below_at S.tk.ris hp,Ht.below_at S.tk.ris a3]
       subst this
       rw[hd0]at hds
       cases hds
       exact hq ((eP n d d kd kd).mpr rfl)
end
theorem Paired.ins{α β:Type}{R:α->β->Prop}{x:α}{y:β}(r:R x y):∀{xs:List α}{ys:List β} (p:Nat),Paired R xs ys->Paired R (xs.take p++x::xs.drop p) (ys.take p++y::ys.drop p)
 | _,_,0,h=>by simpa using .cons r h
 | _,_,p+1,.nil=>.cons r .nil
 | _,_,p+1,.cons h t=>.cons h (Paired.ins r p t)
theorem Paired.pick{α β:Type}{R:α->β->Prop}:∀{xs:List α}{ys:List β} (is:List Nat),Paired R xs ys->(∀i∈is,i<xs.length)->Paired R (is.filterMap (xs[·]?)) (is.filterMap (ys[·]?))
 | _,_,[],_,_=>.nil
 | xs,ys,i::is,h,hi=>by
  have hl:=hi i AAG
  have e:xs[i]?=some xs[i]:=AA5 hl
  obtain⟨y,hy,r⟩:=fv h e
  rw[ABT,ABT,e,hy]
  exact .cons r (Paired.pick is h λj hj=>hi j (AA9 _ hj))
theorem kc{α:Type}{l:List α}{is:List Nat}(h:is.Perm (AAn l.length)):(is.filterMap (l[·]?)).Perm l:=by
 have:=h.filterMap (l[·]?)
 rwa [List.filterMap_getElem?_range_length]at this
section
variable{X:Cx}{pins:List (Addr×Obj)}{σ:St}{H:Hp}{ρ:List Addr}{M:Mem}{A:Around}{E:Value->Shared->Prop}{s:Shared}{a:Addr}{n:Nat}{ds:List D}{o:Obj}{es:Array (Int×Value)}{ep:Nat}{t:SetTable}
def KS(X:Cx)(ρ:List Addr)(H:Hp)(h:Heap)(a:Addr)(n:Nat)(ds:List D):Prop:=∃o es ep t,KSet X ρ H h a n ds o es ep t
set_option maxHeartbeats 1000000 in
theorem add_D(sm:Sim X.K ρ M H)(I:Inv X pins σ H s)(hn:n<=8)(hu:A.units+n+1<cLine)(S:KS X ρ H s.heap a n ds)(h60:ds.length+1<=64)(r:Rep X.K ρ H d v)(rv:aC v u)(kd:bY n d=true)(it:ko d=true)
  (h:∀b h' tk ds',(∀c u,c≠a->s.heap.get? c=some u->h'.get? c=some u)->KS X ρ H h' a n ds'->(∀x,x∈ds'↔x∈ds\/x=d)->ds'.length<=ds.length+1->Q b { s with heap:=h',toks:=tk }) :
  wpAny (model X.prog X.w) A (setAdd a u) Q E s:=by
 obtain⟨o,es,ep,t,S⟩:=S
 obtain⟨ra,rfl⟩:∃ra,u=ABS ra:=by
  cases r with
  | tup _ _=>exact⟨_,rv⟩
  | _=>cases it
 unfold setAdd
 refine AAg (AA0 (DH sm n A s d v _ _ _ (by lia) I r rv kd λtk=>?_))
 unfold setAddHashed setAddHashedIn
 refine AAg (AA0 (AB7 (s:={ s with toks:=tk }) S.ob S.dt S.fits ?_))
 dsimp only
 have bs:byScan (.ref ra) es=false:=rfl
 rw[bs]
 simp only[AAD,if_false]
 obtain⟨N,hN1,hN2,hN3⟩:=S.tk.empty (hkD X.w n d)
 have I1:Inv X pins σ H { s with toks:=tk }:=I.tok tk
 unfold setSearch
 refine AA0 (wx (s:={ s with toks:=tk }) sm I1 hn (by lia) S r rv kd (λhd=>?_) hN1 hN2 hN3 (λhd=>?_) 100000 0 none (AAT _) ?_ rfl λk i hk=>absurd hk (ABW _))
 ·exact AA2 (h _ s.heap tk ds (λ_ _ _ e=>e) ⟨o,es,ep,t,S⟩ (λx=>⟨.inl,λz=>z.elim id λe=>e ▸ hd⟩) (ADw _))
 ·dsimp only
  refine AA0 (AB7 (s:={ s with toks:=tk }) S.ob S.dt S.fits ?_)
  dsimp only
  have len:=S.tk.len
  rw[AA6,AAJ]at len
  have dl:ds.length=es.size:=by have:=Paired.length S.en;simpa using this
  have fin:∀pl:Bool,wpAny (model X.prog X.w) A (do
    storeSet a (ADe es (t.put (Ht.sq t.mask (hkD X.w n d) N).j).2 (hkD X.w n d,ABS ra)) { (t.put (Ht.sq t.mask (hkD X.w n d) N).j).1 with plain:=pl }
    if (!false&&({ (t.put (Ht.sq t.mask (hkD X.w n d) N).j).1 with plain:=pl }:SetTable).tooFull)=true then do
      setRelay a (ACf (es.size+1))
      pure true
     else pure true) Q E { s with toks:=tk }:=λpl=>by
   obtain⟨pb,T1⟩:=Ht.put_pre S.tk hN2 hN3 pl
   have ld1:({ (t.put (Ht.sq t.mask (hkD X.w n d) N).j).1 with plain:=pl }:SetTable).led=t.led:=rfl
   have mk1:({ (t.put (Ht.sq t.mask (hkD X.w n d) N).j).1 with plain:=pl }:SetTable).mask=t.mask:=rfl
   generalize ({ (t.put (Ht.sq t.mask (hkD X.w n d) N).j).1 with plain:=pl }:SetTable)=t1 at T1 ld1 mk1
   generalize (t.put (Ht.sq t.mask (hkD X.w n d) N).j).2=p at pb T1
   rw[AA6,AAJ]at pb
   have e1:(ADe es p (hkD X.w n d,ABS ra)).toList=es.toList.take p++(hkD X.w n d,ABS ra)::es.toList.drop p:=SetTable.toList_insertAt ..
   generalize ADe es p (hkD X.w n d,ABS ra)=es1 at e1
   have hs1:es1.toList.map (·.1)=(es.toList.map (·.1)).take p++hkD X.w n d::(es.toList.map (·.1)).drop p:=by rw[e1,AAq,AAf,List.map_take,List.map_drop]
   rw[<-hs1]at T1
   have sz1:es1.size=es.size+1:=by
    have:=congrArg AC1 e1
    rw[AAJ,AAA,AAI,AAz,ABb,AAJ]at this
    lia
   have en1:Paired (Ent X ρ H n) (ds.take p++d::ds.drop p) es1.toList:=by
    rw[e1]
    exact Paired.ins ⟨⟨v,r,rv⟩,rfl,kd,it⟩ p S.en
   have pm:(ds.take p++d::ds.drop p).Perm (d::ds):=by
    refine List.perm_middle.trans (AEC d ?_)
    rw[List.take_append_drop]
   have nd1:(ds.take p++d::ds.drop p).Nodup:=pm.nodup_iff.mpr (ABV.mpr ⟨hd,S.nd⟩)
   have fit1:t1.fits es1.size=true:=by
    have l1:=T1.len
    rw[AA6,AAJ]at l1
    have h3:t1.fill=t1.place.size:=by unfold AEM;rw[T1.nod];rfl
    have fw:=S.tk.few
    unfold ADR
    rw[h3]
    simp only[AAO,beq_iff_eq,decide_eq_true_eq]
    rw[len]at fw
    rcases S.tk.msk with e | e | e<;>rw[mk1,e]<;>rw[e]at fw<;>lia
   have zz:es1.size<=sizeLine:=by rw[ABt];lia
   refine AA0 (wpAny_storeSet_of (s:={ s with toks:=tk }) S.ob S.dt ?_ zz)
   have ob1:(s.heap.update a (AEJ es1 t1)).get? a=some { o with data:=.set es1 (ep+1) t1 }:=by
    have q:=AAi (AEJ es1 t1) S.ob (by rw[putSet_of es1 t1 S.dt];rfl)
    rwa [putSet_of es1 t1 S.dt]at q
   have oth:∀c u,c≠a->s.heap.get? c=some u->(s.heap.update a (AEJ es1 t1)).get? c=some u:=λc u hc e=>(ABf _ _ (ABO hc)).trans e
   by_cases tf:t1.tooFull=true
   ·rw[tf]
    simp only[Bool.not_false,Bool.and_self,if_true]
    have hbd:((es1.toList.map (·.1)).length-1)*5<t1.mask*3:=by
     have fw:=S.tk.few
     rw[len]at fw
     rw[AA6,AAJ,sz1,mk1]
     simpa using fw
    obtain⟨zl,t2,ord,g1,g2,T2,ld2⟩:=T1.anew tf hbd (by rw[AA6,AAJ];lia)
    rw[AA6,AAJ]at g2 zl
    have eg:ACf (es.size+1)=ACf (es1.toList.map (·.1)).length:=by rw[AA6,AAJ,sz1]
    unfold setRelay
    refine AA0 (AA0 (AB7 (s:={ s with heap:=_,toks:=tk }) ob1 rfl fit1 ?_))
    dsimp only
    rw[eg]
    have nz:¬AE8 (ACf (es1.toList.map (·.1)).length) > sizeLine:=by
     rw[AA6,AAJ];lia
    simp only[nz,if_false]
    have ea:es1.map (·.1)=(es1.toList.map (·.1)).toArray:=by apply Array.ext';simp
    rw[ea,g1]
    have es2:(ord.filterMap (es1[·]?)).toList=ord.toList.filterMap (es1.toList[·]?):=by
     rw[Array.toList_filterMap]
     congr 1
     funext i
     rw[AAN]
    have sz2:(ord.filterMap (es1[·]?)).size=es1.size:=by
     have:=(kc (l:=es1.toList) (is:=ord.toList) (by rw[AAJ];exact g2)).length_eq
     rw[<-es2,AAJ,AAJ]at this
     exact this
    refine AA0 (show wpAny (model X.prog X.w) A (if ((ord.filterMap (es1[·]?)).size != es1.size)=true then _ else pure (ord.filterMap (es1[·]?),t2)) _ _ _ from ?_)
    rw[if_neg (by rw[sz2];simp)]
    refine AA2 ?_
    generalize ord.filterMap (es1[·]?)=es2' at es2 sz2
    have pm2:(ord.toList.filterMap ((ds.take p++d::ds.drop p)[·]?)).Perm (ds.take p++d::ds.drop p):=kc (by
     have:(ds.take p++d::ds.drop p).length=es1.size:=by rw[pm.length_eq,AAI,dl,sz1]
     rw[this];exact g2)
    refine wpAny_storeSet_of (s:={ s with heap:=_,toks:=tk }) ob1 rfl ?_ (by rw[sz2];exact zz)
    have ob2:((s.heap.update a (AEJ es1 t1)).update a (AEJ es2' t2)).get? a=some { o with data:=.set es2' (ep+1+1) t2 }:=by
     have q:=AAi (AEJ es2' t2) ob1 (by rw[putSet_of es2' t2 (es:=es1) (ep:=ep+1) (t:=t1) rfl];rfl)
     rwa [putSet_of es2' t2 (es:=es1) (ep:=ep+1) (t:=t1) rfl]at q
    refine AA2 (h _ _ tk (ord.toList.filterMap ((ds.take p++d::ds.drop p)[·]?)) (λc u hc e=>(ABf _ _ (ABO hc)).trans (oth c u hc e)) ⟨_,es2',_,t2,ob2,S.ex,rfl,?_,pm2.nodup_iff.mpr nd1,?_,ld2.trans (ld1.trans S.ld)⟩ (λx=>?_) ?_)
    ·rw[es2]
     refine Paired.pick _ en1 λi hi=>?_
     have:=g2.mem_iff.mp hi
     rw[AAu]at this
     rw[pm.length_eq,AAI,dl,<-sz1]
     exact this
    ·have e2:es2'.toList.map (·.1)=ord.toList.map λi=>(es1.toList.map (·.1)).getD i 0:=by
      rw[es2]
      have:∀(is:List Nat),(∀i∈is,i<es1.toList.length)->(is.filterMap (es1.toList[·]?)).map (·.1)=is.map λi=>(es1.toList.map (·.1)).getD i 0:=by
       intro is
       induction is with
       | nil=>intro _;rfl
       | cons i is ih =>
        intro hi
        have hl:=hi i AAG
        rw[ABT,AA5 hl,AAf,AAf,ih λj hj=>hi j (AA9 _ hj)]
        congr 1
        rw[AAS,AAV,AA5 hl]
        rfl
      refine this _ λi hi=>?_
      have:=g2.mem_iff.mp hi
      rw[AAu]at this
      rw[AAJ];exact this
     rw[e2]
     exact T2
    ·rw[pm2.mem_iff,pm.mem_iff,AAK]
     exact⟨λz=>z.symm,λz=>z.symm⟩
    ·rw[pm2.length_eq,pm.length_eq];exact AA8 _
   ·rw[ABP.mpr tf]
    simp only[AEB,AAD,if_false]
    refine AA2 (h _ _ tk _ oth ⟨_,es1,_,t1,ob1,S.ex,rfl,en1,nd1,T1.ok (ABP.mpr tf),ld1.trans S.ld⟩ (λx=>?_) ?_)
    ·rw[pm.mem_iff,AAK]
     exact⟨λz=>z.symm,λz=>z.symm⟩
    ·rw[pm.length_eq];exact AA8 _
  refine ABX (λ_=>AA0 (hbv_D sm n 8 A _ d v _ _ _ hn I1 r rv kd λb=>?_)) λ_=>?_
  ·cases b with
   | true=>exact fin (t.put (Ht.sq t.mask (hkD X.w n d) N).j).1.plain
   | false=>exact fin false
  ·exact fin (t.put (Ht.sq t.mask (hkD X.w n d) N).j).1.plain
 ·have:=hN1
  rcases S.tk.msk with e | e | e<;>rw[e]at this<;>lia
end
section
variable{X:Cx}{pins:List (Addr×Obj)}{σ:St}{H:Hp}{ρ:List Addr}{M:Mem}{A:Around}{E:Value->Shared->Prop}{s:Shared}{n:Nat}
theorem KS.at(x:KS X ρ H h a n ds)(k:∀o,h.get? a=some o->h'.get? a=some o):KS X ρ H h' a n ds:=by
 obtain⟨o,es,ep,t,S⟩:=x
 exact⟨o,es,ep,t,k _ S.ob,S.ex,S.dt,S.en,S.nd,S.tk,S.ld⟩
theorem zV(sm:Sim X.K ρ M H)(I:Inv X pins σ H s)(hn:n<=8)(hu:A.units+n+2<cLine)(W:Walks X.prog X.w A.in1 J fp wr m P Sx)(S:Addr)(hSf:S∉fp)
  (hS0:s.heap.get? S=none) (hw0:∀b∈wr,s.heap.get? b=none) (val:Nat->D) (hval:∀i v,P i v->∃vv,Rep X.K ρ H (val i) vv/\aC vv v/\bY n (val i)=true/\ko (val i)=true) (hb:m<=63) :
  ∀(k i:Nat) (h:Heap) (tk:Nat) (ds:List D),m-i=k->i<=m->Sx i h->KS X ρ H h S n ds->(∀x,x∈ds↔∃j,j<i/\val j=x)->ds.length<=i->(∀b u,s.heap.get? b=some u->h.get? b=some u) ->
   (∀h' tk ds',(∀b u,s.heap.get? b=some u->h'.get? b=some u)->KS X ρ H h' S n ds'->(∀x,x∈ds'↔∃j,j<m/\val j=x)->ds'.length<=m->R (.ok (.ret .none)) { s with heap:=h',toks:=tk }) ->
   codeAny (model X.prog X.w) A (.builtin "set.update.loop" ⟨[.ref S,.ref J],[]⟩) R { s with heap:=h,toks:=tk }:=by
 have hSw:S∉wr:=λh=>hSf (W.sub _ h)
 intro k
 induction k with
 | zero =>
  intro i h tk ds hk hi hst hS hm hl hold hR
  obtain rfl:i=m:=by lia
  refine ABn F.entry_set_update_loop ?_
  rw[ACM F.plain_set_update_loop _]
  refine(show wpAny (model X.prog X.w) A.in1 (pyNext (.ref J) >>= _) _ _ _ from AA0 (W.done _ _ _ hst λh' tk hk'=>?_))
  refine AA2 (hR h' tk ds (λb u e=>hk' b u (λz=>by rw[hw0 b z]at e;cases e) (hold b u e)) (hS.at λo e=>hk' S o hSw e) hm hl)
 | succ k ih =>
  intro i h tk ds hk hi hst hS hm hl hold hR
  refine ABn F.entry_set_update_loop ?_
  rw[ACM F.plain_set_update_loop _]
  refine(show wpAny (model X.prog X.w) A.in1 (pyNext (.ref J) >>= _) _ _ _ from AA0 (W.item i _ _ _ (by lia) hst λv h' tk hP hst' hk'=>?_))
  obtain⟨vv,r,rv,kd,it⟩:=hval i v hP
  have old':∀b u,s.heap.get? b=some u->h'.get? b=some u:=λb u e=>hk' b u (λz=>by rw[hw0 b z]at e;cases e) (hold b u e)
  have I':Inv X pins σ H { s with heap:=h',toks:=tk }:=I.kept old'
  refine AA0 (AAg (add_D (s:={ s with heap:=h',toks:=tk }) sm I' hn (by show A.units+1+n+1<cLine;lia) (hS.at λo e=>hk' S o hSw e) (by lia) r rv kd it λb h2 tk2 ds2 k2 hS2 hm2 hl2=>?_))
  refine AA2 ⟨ADr F.plain_set_update_loop _,ih (i+1) h2 tk2 ds2 (by lia) (by lia) (W.frame _ h' h2 hst' λb' hb' o e=>k2 b' o (λz=>hSf (z ▸ hb')) e) hS2 (λx=>?_) (by lia) (λb u e=>k2 b u (λz=>by rw[z,hS0]at e;cases e) (old' b u e)) hR⟩
  rw[hm2,hm]
  constructor
  ·rintro(⟨j,hj,e⟩ | rfl)
   ·exact⟨j,by lia,e⟩
   ·exact⟨i,by lia,rfl⟩
  ·rintro⟨j,hj,rfl⟩
   by_cases q:j=i
   ·subst q;exact .inr rfl
   ·exact .inl ⟨j,by lia,rfl⟩
theorem xj(e:h.get? a=some (aL X.w)):KS X ρ H h a n [] :=
 ⟨_,#[],0,_,e,⟨rfl,rfl,rfl⟩,rfl,.nil,ADk,⟨.inl rfl,rfl,rfl,ACq,λj hj=>by simp[SetTable.fresh]at hj,(by show 0*5<7*3;decide),λi h j hh=>by simp at hh⟩,rfl⟩
end
section
variable{X:Cx}{pins:List (Addr×Obj)}{σ:St}{H:Hp}{ρ:List Addr}{M:Mem}{A:Around}{E:Value->Shared->Prop}{s:Shared}{m:Nat}
theorem Aj(sm:Sim X.K ρ M H)(I:Inv X pins σ H s)(hm8:m<=8)(hu:A.units+m+3<cLine){l:Addr}{T:String}{n:Nat}{P:Nat->Value->Prop}{G:Shared->Prop}(hh:A.handled=none)(K:TxSrc X.prog X.w s.heap l T n P)(val:Nat->D)(hval:∀i v,P i v->∃vv,Rep X.K ρ H (val i) vv/\aC vv v/\bY m (val i)=true/\ko (val i)=true)(hb:n<=63)
  (h:∀h' tk ds,(∀b o,s.heap.get? b=some o->h'.get? b=some o)->KS X ρ H h' s.heap.objs.size m ds->(∀x,x∈ds↔∃j,j<n/\val j=x)->ds.length<=n->G { s with heap:=h',toks:=tk }) :
  wpAny (model X.prog X.w) A (Builtin.«set.__init__» ⟨[.ref s.heap.objs.size,.ref l],[]⟩) (λfin s'=>fin=.done (.ret .none)/\G s') E { s with heap:=s.heap.push (aL X.w) }:=by
 have hS:(s.heap.push (aL X.w)).get? s.heap.objs.size=some (aL X.w):=AAE _ rfl
 have hT:Shared.TypeIs { s with heap:=s.heap.push (aL X.w) } (.ref s.heap.objs.size) "set":=⟨_,hS,rfl⟩
 obtain⟨ol,hol,hcl⟩:=K.obj
 have hol':(s.heap.push (aL X.w)).get? l=some ol:=AA4 _ hol
 have hTl:Shared.TypeIs { s with heap:=s.heap.push (aL X.w) } (.ref l) T:=⟨ol,hol',hcl⟩
 have ll:l<s.heap.objs.size:=AAH hol
 have sz:(s.heap.push (aL X.w)).objs.size=s.heap.objs.size+1:=ABN ..
 obtain⟨oI,St,hit,W,st⟩:=K.iter A.in1 { s with heap:=s.heap.push (aL X.w) } hh λo e=>AA4 _ e
 have ns:=K.ns
 have nf:=K.nf
 have nd:=K.nd
 unfold Builtin.«set.__init__» noKeywords Builtin.Frozenset.updateFrom
 generalize hPI:pyIter=PI
 wp_walk
 subst hPI
 refine wpAny_of_in1 (hit _ _ ?_)
 have hSf:s.heap.objs.size∉[(s.heap.push (aL X.w)).objs.size,l]:=by
  rw[sz]
  simp only[AAK,List.not_mem_nil,or_false,not_or]
  exact⟨AAL (AAt _),Nat.ne_of_gt ll⟩
 have hS0:s.heap.get? s.heap.objs.size=none:=by
  cases q:s.heap.get? s.heap.objs.size with
  | none=>rfl
  | some o=>exact absurd (AAH q) (AAk _)
 have hw0:∀b∈[(s.heap.push (aL X.w)).objs.size],s.heap.get? b=none:=λb hb'=>by
  rw[ACG.mp hb',sz]
  cases q:s.heap.get? (s.heap.objs.size+1) with
  | none=>rfl
  | some o=>exact absurd (AAH q) (ACr.mpr (ADw _))
 refine AA0 (wpAny_runValue (zV (s:=s) sm I hm8 (by first | exact(show A.units+m+2<cLine by lia) | exact(show A.units+1+m+2<cLine by lia)) W s.heap.objs.size hSf hS0 hw0 val hval hb n 0 _ _ [] rfl (AAT _) st (xj (AA4 _ hS)) (λx=>by simp) (AA8 _) (λb u e=>AA4 _ (AA4 _ e)) λh' tk ks hk hks hm hl=>?_))
 exact AA2 (AA2 ⟨rfl,h h' tk ks hk hks hm hl⟩)
set_option maxHeartbeats 1000000 in
theorem AL(sm:Sim X.K ρ M H)(I:Inv X pins σ H s)(hm8:m<=8)(hu:A.units+m+20<cLine){l:Addr}{T:String}{n:Nat}{P:Nat->Value->Prop}{Q:Value->Shared->Prop}(hh:A.handled=none)(K:TxSrc X.prog X.w s.heap l T n P)(val:Nat->D)(hval:∀i v,P i v->∃vv,Rep X.K ρ H (val i) vv/\aC vv v/\bY m (val i)=true/\ko (val i)=true)(hb:n<=63)
  (h:∀h' tk ds,(∀b o,s.heap.get? b=some o->h'.get? b=some o)->KS X ρ H h' s.heap.objs.size m ds->(∀x,x∈ds↔∃j,j<n/\val j=x)->ds.length<=n->Q (.ref s.heap.objs.size) { s with heap:=h',toks:=tk }) :
  wpAny (model X.prog X.w) A (call (.type "set") [.ref l]) Q E s:=by
 have fm:=F.called_set.made
 have fs:=F.called_set.sub
 have fn:=F.called_set.notType
 have fc:=F.called_set.canCreate
 have ft:=F.typeCall_set_1 (.ref l)
 obtain⟨c,tl,fo⟩:=F.called_set.mro
 refine wpAny_call (codeAny_of_tree (show wpAny _ _ (callAny (.type "set") _) _ _ _ from AA2 ⟨Code.quiet_builtin _ (by decide +kernel),ABn F.entry_type_call ?_⟩))
 rw[Around.under_plain (weight_type_call_type "set" [.ref l] []) rfl]
 repeat (any_goals (first | assumption | wp_step))
 refine ACU (oY (.ref l) (E:=E) (Q₁:=λobj s₁=>obj=.ref s.heap.objs.size/\s₁={ s with heap:=s.heap.push (aL X.w) }) ⟨rfl,rfl⟩) λr s₁ hr=>?_
 match r,hr with
 | .error e,hr=>exact hr
 | .ok (.ret obj),⟨e1,e2⟩ =>
  subst e1 e2
  have hS:(s.heap.push (aL X.w)).get? s.heap.objs.size=some (aL X.w):=AAE _ rfl
  have hT:Shared.TypeIs { s with heap:=s.heap.push (aL X.w) } (.ref s.heap.objs.size) "set":=⟨_,hS,rfl⟩
  have fl:=F.called_set.init.lookup
  have fb:=F.called_set.init.bind (.ref s.heap.objs.size)
  repeat (any_goals (first | assumption | wp_step))
  refine ACU (codeAny_call_builtin (R:=wants (λr s₂=>r=.none/\Q (.ref s.heap.objs.size) s₂) E) F.called_set.init.plain F.entry_set_init (check_set_init_1 hT ?_)) λr₂ s₂ hr₂=>?_
  ·refine AAo (Aj (G:=λs2=>Q (.ref s.heap.objs.size) s2) sm I hm8 (by first | (show A.units+1+1+1+m+3<cLine;lia) | (show A.units+1+1+m+3<cLine;lia) | (show A.units+1+m+3<cLine;lia)) (by simp[hh]) K val hval hb h) (λfin s' ⟨e,g⟩=>?_) λ_ _ z=>z
   subst e
   exact⟨rfl,g⟩
  ·match r₂,hr₂ with
   | .error e,hr₂=>exact hr₂
   | .ok (.ret r),⟨e,q⟩ =>
    subst e
    repeat (any_goals (first | assumption | wp_step))
end
def SqAt(M:Mem)(d:D)(xs:List D):Prop:=(∃n,d=.ref n/\am M n xs)\/d=.tup xs
theorem SrtOk.sub(h:SrtOk M xs)(s:∀y∈ys,y∈xs)(l:ys.length<64):SrtOk M ys:=by
 refine⟨l,λx hx=>h.ok x (s x hx),λx hx y hy=>h.cm x (s x hx) y (s y hy),?_⟩
 rcases h.kd with k | k | k | k | k
 ·exact .inl λx hx=>k x (s x hx)
 ·exact .inr (.inl λx hx=>k x (s x hx))
 ·exact .inr (.inr (.inl λx hx=>k x (s x hx)))
 ·exact .inr (.inr (.inr (.inl λx hx=>k x (s x hx))))
 ·exact .inr (.inr (.inr (.inr λx hx=>k x (s x hx))))
section
variable{X:Cx}{e:Expr}{te:DTE}{p p' pos pos':Pos}{k:Nat}
theorem By(I:Inv X pins σ H s)(sm:Sim X.K ρ M H)(r:Rep X.K ρ H d v)(rv:aC v u)(t:SqAt M d xs) :
  ∃(a:Addr) (T:String) (its:Array Value) (vs:List V),u=.ref a/\TxSrc X.prog X.w s.heap a T its.size (λi v=>its[i]?=some v)/\Reps X.K ρ H xs vs/\au vs its.toList:=by
 rcases t with⟨n,rfl,hL⟩ | rfl
 ·cases r with
  | @ref _ a ha =>
   cases rv
   obtain⟨vs,hs,rr⟩:=hL.seq sm ha
   obtain⟨its,r2,p,_⟩:=I.list hs
   exact⟨a,_,its.toArray,vs,rfl,TxSrc.list p.isList,rr,by simpa using r2⟩
 ·cases r with
  | @tup a vs _ hs rr =>
   cases rv
   obtain⟨its,r2,p,_⟩:=I.tuple hs
   exact⟨a,_,its.toArray,vs,rfl,TxSrc.tuple p,rr,by simpa using r2⟩
theorem sI:∀{ds:List D}{vs:List V}{its:List Value}{i:Nat}{u:Value}{ρ:List Addr}{H:Hp},Reps X.K ρ H ds vs->au vs its->its[i]?=some u->∃d v,ds[i]?=some d/\Rep X.K ρ H d v/\aC v u
 | _,_,_,i,u,_,_,.nil,h,e=>by cases h;simp at e
 | _,_,_,0,u,_,_,.cons r _,h,e=>by
  cases h with
  | cons a _=>simp at e;subst e;exact⟨_,_,rfl,r,a⟩
 | _,_,_,i+1,u,_,_,.cons _ t,h,e=>by
  cases h with
  | cons _ b =>
   obtain⟨d,v,e1,r,rv⟩:=sI (i:=i) t b (by simpa using e)
   exact⟨d,v,by simpa using e1,r,rv⟩
theorem ents:∀{ds:List D}{es:List (Int×Value)},Paired (Ent X ρ H n) ds es->∃vs,Reps X.K ρ H ds vs/\au vs (es.map (·.2))
 | _,_,.nil=>⟨[],.nil,.nil⟩
 | _,_,.cons ⟨⟨v,r,rv⟩,_⟩ t=>by
  obtain⟨vs,a,b⟩:=ents t
  exact⟨v::vs,.cons r a,.cons rv b⟩
theorem uc(p:us'.Perm us):∀{ds:List D}{vs:List V},Reps X.K ρ H ds vs->au vs us->∃ds' vs',ds'.Perm ds/\Reps X.K ρ H ds' vs'/\au vs' us':=by
 induction p with
 | nil=>intro ds vs r h;exact⟨ds,vs,.refl _,r,h⟩
 | cons x _ ih =>
  intro ds vs r h
  cases h with
  | cons a b =>
   cases r with
   | cons c d =>
    obtain⟨ds',vs',h1,h2,h3⟩:=ih d b
    exact⟨_,_,h1.cons _,.cons c h2,.cons a h3⟩
 | swap x y l =>
  intro ds vs r h
  cases h with
  | cons a b =>
   cases b with
   | cons a2 b2 =>
    cases r with
    | cons c d =>
     cases d with
     | cons c2 d2=>exact⟨_,_,.swap _ _ _,.cons c2 (.cons c d2),.cons a2 (.cons a b2)⟩
 | trans _ _ ih1 ih2 =>
  intro ds vs r h
  obtain⟨ds',vs',h1,h2,h3⟩:=ih2 r h
  obtain⟨ds2,vs2,g1,g2,g3⟩:=ih1 h2 h3
  exact⟨ds2,vs2,g1.trans h1,g2,g3⟩
end
def fH(te:DTE):DTE:=λS M Q=>te S M λd M1=>∃n xs,n<=8/\SqAt M1 d xs/\xs.length<64/\(∀x∈xs,bY n x=true/\ko x=true)/\SrtOk M1 xs/\∀ys:List D,ys.Nodup->(∀x,x∈ys↔x∈xs)->Be M1 ys->Q (.ref M1.length) (M1++[.lst ys])
section
variable{X:Cx}{e:Expr}{te:DTE}{p p' pos pos':Pos}{k:Nat}
set_option maxHeartbeats 1000000 in
theorem rZ(hr:Room k X.A)(hc:X.calm=true)(he:DE X e te)(hm1:X.mg "sorted" = none)(hm2:X.mg "set" = none)(hg1:X.env.kindOf "sorted" = some .globalImplicit)(hg2:X.env.kindOf "set" = some .globalImplicit)
  (h1:starEach [e] X.env=[(false,eval e X.env)]) (h2:starEach [AE3 (.Name "set" p') [e] [] pos'] X.env=[(false,eval (AE3 (.Name "set" p') [e] [] pos') X.env)]) :
  DE X (.Call (.Name "sorted" p) [.Call (.Name "set" p') [e] [] pos'] [] pos) (fH te):=by
 rintro pins s σ H R I ⟨S,M,ρ,Q,sm,sr,q,kk⟩
 refine ABU (eH I hg1 hm1 (by rfl) ?_)
 refine callWith_builtin1 ?_ (by rw[h2];rfl) rfl
 rw[h2]
 refine ADH ?_
 refine ABU (eH I hg2 hm2 (by rfl) ?_)
 refine callWith_type1 ?_ (by rw[h1];rfl) rfl
 rw[h1]
 refine ADH (thn (he pins s σ H _ I ⟨S,M,ρ,_,sm,sr,q,λv H' z=>z⟩) ?_)
 rintro u s1 ⟨v,H1,I1,rv,d,M1,ρ1,sm1,g1,r1,cases⟩
 refine ADb ?_
 obtain⟨n,xs,n8,sq,hl,hk,so,fin⟩:=cases
 obtain⟨a,T,its,ws,rfl,src,rps,vx⟩:=By I1 sm1 r1 rv sq
 have li:its.size=xs.length:=by have h1:=vx.length;have h2:=rps.length;simp at h1;lia
 have un:=hr.un
 refine AL sm1 I1 n8 (by lia) (I1.ok.hd hc) src (λi=>xs.getD i .non) (λi v e=>?_) (by lia) λh2 tk2 ds k2 kset hks hle=>?_
 ·obtain⟨d,vv,e1,r,rv⟩:=sI rps vx (by rw[AAN];exact e)
  have ed:xs.getD i .non=d:=by rw[AAS,e1];rfl
  have:=hk d (AAe e1)
  exact⟨vv,by rw[ed];exact r,rv,by rw[ed];exact this.1,by rw[ed];exact this.2⟩
 refine ADb ?_
 have I2:=I1.kept (t':=tk2) k2
 obtain⟨o,es,ep,t,KSt⟩:=kset
 have lds:ds.length=es.size:=by have:=KSt.en.length;simpa using this
 have hz:es.size<=sizeLine:=by rw[ABt];lia
 refine qV (s:={ s1 with heap:=h2,toks:=tk2 }) (I2.ok.hd hc) ⟨KSt.ob,KSt.dt,KSt.fits⟩ KSt.ex.1 (λz=>.inr KSt.tk.ris) KSt.ld hz λh3 tk3 dr D vs k3 hD hD3 pv=>?_
 have hmem:∀x,x∈ds↔x∈xs:=λx=>by
  rw[hks x,li]
  constructor
  ·rintro⟨j,hj,rfl⟩
   have e:xs.getD j .non=xs[j]:=by simp[AEH,hj]
   rw[e]
   exact AB4 hj
  ·intro hx
   obtain⟨j,hj,e⟩:=List.getElem_of_mem hx
   exact⟨j,hj,by rw[show xs.getD j .non=xs[j] by simp[AEH,hj]];exact e⟩
 obtain⟨ws0,rp0,va0⟩:=ents KSt.en
 obtain⟨ds',ws',pd,rp1,va1⟩:=uc pv rp0 va0
 obtain⟨m,hn,_⟩:=I2.loc
 have hDL:D≠X.env.locals:=λz=>by
  obtain⟨oL,_,_,hL,_⟩:=hn
  rw[z]at hD
  rw[hD]at hL;cases hL
 have hn3:h3.Ns X.env.locals m:=hn.at' λo e=>k3 _ _ e
 refine yS (X:=X) (pins:=pins) (σ:=σ) (s:={ s1 with heap:=h2,toks:=tk2,drawn:=dr }) (n:=0) hr (by show X.A.units+1<=X.A.units+4;lia) I2.drew sm1 (so.sub (ys:=ds') (λy hy=>(hmem y).mp (pd.mem_iff.mp hy)) (by rw[pd.length_eq];lia)).g rp1 va1 hn hn3 (λb u _ e=>k3 b u e) hD hDL hD3 λv H' x=>?_
 refine kk v H' ?_
 have:=x (λd M'=>Q d M') λys hp hri=>?_
 ·obtain⟨d,M',ρ',a1,a2,a3,a4⟩:=this
  exact⟨d,M',ρ',a1,g1.trans a2,a3,a4⟩
 ·exact fin ys ((hp.trans pd).nodup_iff.mpr KSt.nd) (λx=>((hp.trans pd).mem_iff).trans (hmem x)) hri
theorem rP(hr:Room k X.A)(he:HE X e te)(hm1:X.mg "sorted" = none)(hm2:X.mg "set" = none)(hc:X.calm=true:=by kernel_rfl)(hg1:X.env.kindOf "sorted" = some .globalImplicit:=by kernel_rfl)(hg2:X.env.kindOf "set" = some .globalImplicit:=by kernel_rfl)
  (h1:starEach [e] X.env=[(false,eval e X.env)]:=by kernel_rfl) (h2:starEach [AE3 (.Name "set" p') [e] [] pos'] X.env=[(false,eval (AE3 (.Name "set" p') [e] [] pos') X.env)]:=by kernel_rfl) :
  HE X (.Call (.Name "sorted" p) [.Call (.Name "set" p') [e] [] pos'] [] pos) (fH te):=⟨rZ hr hc he.ok hm1 hm2 hg1 hg2 h1 h2⟩
end
def dh(h:Heap):Nat->D->Value->Prop
 | _,.str x,v=>∃t,v=.str x t
 | _,.int i,v=>∃t,v=.int i t
 | n+1,.tup ds,v=>∃a its,v=.ref a/\h.IsTuple a its/\Paired (dh h n) ds its.toList
 | _,_,_=>False
noncomputable def drD:Nat->D->Nat
 | n+1,.tup ds=>(ds.map (drD n)).sum+1
 | _,_=>1
theorem fB:∀(n:Nat) (d:D) (v:Value),dh h n d v->bY n d=true:=by
 intro n
 induction n with
 | zero=>intro d v k;cases d<;>first | rfl | exact k.elim
 | succ n ih =>
  intro d v k
  cases d with
  | str x=>rfl
  | int x=>rfl
  | tup ds =>
   obtain⟨a,its,_,_,p⟩:=k
   show ds.all (bY n)=true
   generalize its.toList=l at p
   induction p with
   | nil=>rfl
   | cons r _ i2=>rw[ABI,ih _ _ r,i2];rfl
  | _=>exact k.elim
theorem oS{h:Heap}{a:Addr}{xs ys:Array Value}(h1:h.IsTuple a xs)(h2:h.IsTuple a ys):xs=ys:=by
 obtain⟨o,e1,_,n,d1⟩:=h1
 obtain⟨o',e2,_,n',d2⟩:=h2
 obtain rfl:o=o':=AAQ (e1.symm.trans e2)
 rw[d1]at d2
 injection d2
theorem jf{h:Heap}:∀(n:Nat) (x y:D) (v:Value),dh h n x v->dh h n y v->x=y:=by
 intro n
 induction n with
 | zero =>
  intro x y v k1 k2
  cases x with
  | str a =>
   obtain⟨t,rfl⟩:=k1
   cases y with
   | str b=>obtain⟨t',e⟩:=k2;injection e with e;rw[e]
   | int b=>obtain⟨t',e⟩:=k2;cases e
   | _=>exact k2.elim
  | int a =>
   obtain⟨t,rfl⟩:=k1
   cases y with
   | str b=>obtain⟨t',e⟩:=k2;cases e
   | int b=>obtain⟨t',e⟩:=k2;injection e with e;rw[e]
   | _=>exact k2.elim
  | _=>exact k1.elim
 | succ n ih =>
  intro x y v k1 k2
  cases x with
  | str a =>
   obtain⟨t,rfl⟩:=k1
   cases y with
   | str b=>obtain⟨t',e⟩:=k2;injection e with e;rw[e]
   | int b=>obtain⟨t',e⟩:=k2;cases e
   | tup b=>obtain⟨_,_,e,_⟩:=k2;cases e
   | _=>exact k2.elim
  | int a =>
   obtain⟨t,rfl⟩:=k1
   cases y with
   | str b=>obtain⟨t',e⟩:=k2;cases e
   | int b=>obtain⟨t',e⟩:=k2;injection e with e;rw[e]
   | tup b=>obtain⟨_,_,e,_⟩:=k2;cases e
   | _=>exact k2.elim
  | tup xs =>
   obtain⟨a,its,rfl,t1,p1⟩:=k1
   cases y with
   | str b=>obtain⟨t',e⟩:=k2;cases e
   | int b=>obtain⟨t',e⟩:=k2;cases e
   | tup ys =>
    obtain⟨_,its',e,t2,p2⟩:=k2
    cases e
    obtain rfl:=oS t1 t2
    congr 1
    generalize its.toList=l at p1 p2
    induction p1 generalizing ys with
    | nil=>cases p2;rfl
    | cons r _ i2=>cases p2 with
     | cons r' t'=>rw[ih _ _ _ r r',i2 _ t']
   | _=>exact k2.elim
  | _=>exact k1.elim
theorem rO(k:∀a its,h.IsTuple a its->h'.IsTuple a its):∀(n:Nat) (d:D) (v:Value),dh h n d v->dh h' n d v:=by
 intro n
 induction n with
 | zero=>intro d v q;cases d<;>first | exact q | exact q.elim
 | succ n ih =>
  intro d v q
  cases d with
  | str x=>exact q
  | int x=>exact q
  | tup ds =>
   obtain⟨a,its,e,t,p⟩:=q
   exact⟨a,its,e,k _ _ t,Paired.mapP p λx y r=>ih x y r⟩
  | _=>exact q.elim
theorem oQ{es ep}(q:dh h n k v)(ho:h.get? d=some o)(hd:o.data=.dict es ep)(hs:ACB d h h'):dh h' n k v:=by
 refine rO (λa its ⟨o',e,c,m,t⟩=>?_) n k v q
 have hne:a≠d:=by
  rintro rfl
  obtain rfl:o'=o:=AAQ (e.symm.trans ho)
  rw[hd]at t;cases t
 exact⟨o',(hs.2 a hne).trans e,c,m,t⟩
section
variable{prog:Program}{w:World}
theorem kn:∀(n:Nat) (A:Around) (s:Shared) (d:D) (u:Value) (E:Value->Shared->Prop) (Q:Int->Shared->Prop),A.units+n<cLine->dh s.heap n d u ->
  Q (hkD w n d) { s with toks:=s.toks+drD n d }->wpAny (model prog w) A (pyHash u) Q E s:=by
 intro n
 induction n with
 | zero =>
  intro A s d u E Q hu k h
  cases d with
  | str x=>obtain⟨t,rfl⟩:=k;exact AD6 h
  | int x=>obtain⟨t,rfl⟩:=k;exact AD5 h
  | _=>exact k.elim
 | succ n ih =>
  intro A s d u E Q hu k h
  cases d with
  | str x=>obtain⟨t,rfl⟩:=k;exact AD6 h
  | int x=>obtain⟨t,rfl⟩:=k;exact AD5 h
  | tup ds =>
   obtain⟨a,its,rfl,⟨o,ho,hc,nn,hd⟩,p⟩:=k
   have hT:s.TypeIs (.ref a) "tuple":=⟨o,ho,hc⟩
   unfold pyHash
   first | unfold pyHashByItsType | skip
   first | refine AA0 (wpAny_cRoomFor_or (.inr (by lia)) ?_) | skip
   refine AA0 (ABm hT F.slot_tuple_hash.lookup ?_)
   refine(show wpAny (model prog w) _ (if (some (ADT "tuple.__hash__")==some ABp)=true then _ else _) Q E s from ?_)
   rw[if_neg (by rw[beq_builtin_none];exact ABQ)]
   refine AA0 (ABm hT F.slot_tuple_hash.lookup ?_)
   refine(show wpAny (model prog w) _ (callSpecialIfBoundUnlessNone? (.ref a) "__hash__" _ >>= _) Q E s from AA0 (ACl hT F.slot_tuple_hash (AAv F.slot_tuple_hash hT F.entry_tuple_hash ?_ (F.args_tuple_hash_1 _))))
   refine(show wpAny (model prog w) _ (AC5 (.ref a) >>= _) _ _ s from AA0 (wpAny_tupleItemsOf ho hd (AA0 ?_)))
   rw[<-ABZ]
   refine ABD _ (λax (b:Array Int) s'=>∃done left,ds=done++left/\Paired (dh s.heap n) left ax/\b.toList=done.map (hkD w n)/\s'={ s with toks:=s.toks+(done.map (drD n)).sum }) _ ?_ ?_ _ _ ⟨[],ds,rfl,p,rfl,rfl⟩
   ·rintro x ax b s' ⟨done,left,e,h1,hb,rfl⟩
    cases h1 with
    | @cons d0 _ left' _ r0 t0 =>
     refine AA0 (ih _ _ d0 x _ _ (by show A.units+1+n<cLine;lia) r0 ?_)
     first
      | exact AA2 ⟨done++[d0],left',by rw[e];simp,t0,by simp[hb],by simp[Nat.add_assoc]⟩
      | exact AA0 (AA2 (AA2 ⟨done++[d0],left',by rw[e];simp,t0,by simp[hb],by simp[Nat.add_assoc]⟩))
   ·rintro b s' ⟨done,left,e,h1,hb,rfl⟩
    cases h1
    rw[ABC]at e
    subst e
    refine(show wpAny (model prog w) _ (retInt (ABE b.toList)) _ _ _ from ?_)
    rw[hb]
    refine wpAny_ret_mkInt ?_
    have key:hkD w (n+1) (.tup ds)=reduceHash (ABE (ds.map (hkD w n))):=rfl
    have h':Q (hkD w (n+1) (.tup ds)) { s with toks:=s.toks+(ds.map (drD n)).sum+1 }:=h
    generalize ABE (ds.map (hkD w n))=z at key
    refine(show wpAny (model prog w) _ (if (decide (-(2:Int) ^ 63<=z)&&decide (z<2 ^ 63))=true then _ else _) Q E _ from ?_)
    unfold reduceHash at key
    by_cases hr:(decide (-(2:Int) ^ 63<=z)&&decide (z<2 ^ 63))=true
    ·rw[if_pos hr]at key ⊢
     exact AA2 (by rw[<-key];exact h')
    ·rw[if_neg hr]at key ⊢
     exact AA0 (ABr (AA2 (by rw[<-key];exact h')))
  | _=>exact k.elim
theorem je:∀(n k:Nat) (A:Around) (s:Shared) (d:D) (u:Value) (E:Value->Shared->Prop) (Q:Bool->Shared->Prop),n<=k->dh s.heap n d u->Q true s->wpAny (model prog w) A (eqIsQuiet k u) Q E s:=by
 intro n
 induction n with
 | zero =>
  intro k A s d u E Q hk q h
  cases d with
  | str x=>obtain⟨t,rfl⟩:=q;rw[ABk k (v:=.str x t) rfl];exact AA2 h
  | int x=>obtain⟨t,rfl⟩:=q;rw[ABk k (v:=.int x t) rfl];exact AA2 h
  | _=>exact q.elim
 | succ n ih =>
  intro k A s d u E Q hk q h
  cases d with
  | str x=>obtain⟨t,rfl⟩:=q;rw[ABk k (v:=.str x t) rfl];exact AA2 h
  | int x=>obtain⟨t,rfl⟩:=q;rw[ABk k (v:=.int x t) rfl];exact AA2 h
  | tup ds =>
   obtain⟨a,its,rfl,⟨o,ho,hc,nn,hd⟩,p⟩:=q
   obtain⟨k,rfl⟩:∃k',k=k'+1:=⟨k-1,by lia⟩
   have hT:s.TypeIs (.ref a) "tuple":=⟨o,ho,hc⟩
   unfold eqIsQuiet
   refine AA0 (ABm hT F.slot_tuple_eq.lookup ?_)
   refine(show wpAny (model prog w) A (isInstance (.ref a) (.type "tuple") >>= _) _ _ s from AA0 (ACd hT isSubtype_tuple_tuple ?_))
   simp only[ABY,AAD,if_false]
   refine AA0 (AD2 ho hd ?_)
   simp only[Option.getD_some]
   refine AA0 ?_
   refine(show wpAny (model prog w) A (forIn its _ _) _ _ s from ?_)
   rw[<-ABZ]
   refine ABD _ (λax r s'=>r.1=none/\s'=s/\∃left,Paired (dh s.heap n) left ax) _ ?_ ?_ _ _ ⟨rfl,rfl,ds,p⟩
   ·rintro x ax r s' ⟨hr,rfl,left,h1⟩
    cases h1 with
    | cons r0 t0 =>
     refine AA0 (ih k _ _ _ x _ _ (by lia) r0 ?_)
     simp only[ABY,AAD,if_false]
     exact AA2 ⟨rfl,rfl,_,t0⟩
   ·rintro⟨r1,r2⟩ s' ⟨hr,rfl,_⟩
    simp only at hr
    subst hr
    exact AA2 h
  | _=>exact q.elim
theorem gB{h:Heap}{n:Nat}{ds:List D}{its:Array Value}(p:Paired (dh h n) ds its.toList):ds.length=its.size:=by
 rw[<-AAJ]
 generalize its.toList=l at p
 induction p with
 | nil=>rfl
 | cons _ _ ih=>rw[AAI,AAI,ih]
theorem xq:∀(n:Nat) (A:Around) (s:Shared) (x y:D) (u v:Value),A.units+n<cLine->dh s.heap n x u->dh s.heap n y v->ABx A s u v (eqD [] n x y):=by
 intro n
 induction n with
 | zero =>
  intro A s x y u v hu k1 k2
  cases x with
  | str a =>
   obtain⟨t,rfl⟩:=k1
   cases y with
   | str b=>obtain⟨t',rfl⟩:=k2;exact ADM _ _ _ _
   | int b=>obtain⟨t',rfl⟩:=k2;exact ACj _ _ _ _
   | _=>exact k2.elim
  | int a =>
   obtain⟨t,rfl⟩:=k1
   cases y with
   | str b=>obtain⟨t',rfl⟩:=k2;exact ACi _ _ _ _
   | int b=>obtain⟨t',rfl⟩:=k2;exact ADL _ _ _ _
   | _=>exact k2.elim
  | _=>exact k1.elim
 | succ n ih =>
  intro A s x y u v hu k1 k2
  have hu0:A.units<cLine:=by lia
  have hu1:A.in1.units+n<cLine:=by show A.units+1+n<cLine;lia
  cases x with
  | str a =>
   obtain⟨t,rfl⟩:=k1
   cases y with
   | str b=>obtain⟨t',rfl⟩:=k2;exact ADM _ _ _ _
   | int b=>obtain⟨t',rfl⟩:=k2;exact ACj _ _ _ _
   | tup b=>obtain⟨_,_,rfl,pl,_⟩:=k2;exact SeqAt.EqAt.str_tuple _ _ pl hu0
   | _=>exact k2.elim
  | int a =>
   obtain⟨t,rfl⟩:=k1
   cases y with
   | str b=>obtain⟨t',rfl⟩:=k2;exact ACi _ _ _ _
   | int b=>obtain⟨t',rfl⟩:=k2;exact ADL _ _ _ _
   | tup b=>obtain⟨_,_,rfl,pl,_⟩:=k2;exact SeqAt.EqAt.int_tuple _ _ pl hu0
   | _=>exact k2.elim
  | tup xs =>
   obtain⟨a,its,rfl,pl,p1⟩:=id k1
   cases y with
   | str b=>obtain⟨t',rfl⟩:=k2;exact SeqAt.EqAt.tuple_str _ _ pl hu0
   | int b=>obtain⟨t',rfl⟩:=k2;exact SeqAt.EqAt.tuple_int _ _ pl hu0
   | tup ys =>
    obtain⟨b,jts,rfl,pl',p2⟩:=id k2
    by_cases hab:a=b
    ·subst hab
     have e:=jf (n+1) _ _ _ k1 k2
     rw[e,(eP (M:=[]) (n+1) _ _ (fB _ _ _ k2) (fB _ _ _ k2)).mpr rfl]
     exact ADy _
    ·have ll:=gB p1
     have ll':=gB p2
     have items:∀(j:Nat) (h1:j<its.size) (h2:j<jts.size),ABx A.in1 s its[j] jts[j] (eqD [] n (xs.getD j .non) (ys.getD j .non)):=λj h1 h2=>by
      obtain⟨x0,e1,r1⟩:=du p1 (i:=j) (y:=its[j]) (by rw[AAN];exact AAP h1)
      obtain⟨y0,e2,r2⟩:=du p2 (i:=j) (y:=jts[j]) (by rw[AAN];exact AAP h2)
      have z1:xs.getD j .non=x0:=by rw[AAS,e1];rfl
      have z2:ys.getD j .non=y0:=by rw[AAS,e2];rfl
      rw[z1,z2]
      exact ih A.in1 s x0 y0 _ _ hu1 r1 r2
     have key:((AAn (min its.size jts.size)).all (λj=>eqD [] n (xs.getD j .non) (ys.getD j .non))&&its.size==jts.size)=eqL (eqD [] n) xs ys:=by
      by_cases hl:xs.length=ys.length
      ·have rng:(AAn xs.length).all (λj=>eqD [] n (xs.getD j .non) (ys.getD j .non))=eqL (eqD [] n) xs ys:=ji hl λj x y h1 h2=>by simp[AEH,h1,h2]
       rw[<-ll,<-ll',<-hl,Nat.min_self,rng]
       simp
      ·rw[vt hl,<-ll,<-ll']
       simp[hl]
     have h1:=SeqAt.RcAt.tuples pl pl' hu0 items
     rw[key]at h1
     exact SeqAt.EqAt.of_refs hab h1
   | _=>exact k2.elim
  | _=>exact k1.elim
end
noncomputable instance decD:DecidableEq D:=λa b=>ABB (a=b)
noncomputable def eD(prog:Program)(w:World):HeapKind prog w D where
 is:=λh d a=>dh h 8 d (.ref a)
 hash:=hkD w 8
 draws:=drD 8
 room:=λA=>A.units+8<cLine
 inj:=λx y=>jf 8 _ _ _ x y
 keeps:=λx ho hd hs=>oQ x ho hd hs
 pyHash:=λhu k h=>kn 8 _ _ _ _ _ _ hu k h
 eqBool:=λ{A E s x y a b Q} hu k1 k2 h=>by
  refine xq 8 A s x y _ _ hu k1 k2 _ _ _ _ ?_
  have e:eqD [] 8 x y=decide (x=y):=by
   rw[Bool.eq_iff_iff,eP 8 x y (fB _ _ _ k1) (fB _ _ _ k2),decide_eq_true_eq]
  rw[e]
  exact h
 quiet:=λk h=>je 8 8 _ _ _ _ _ _ (AA8 _) k h
noncomputable def aY(kvs:List (D×D))(k:D):Option D:=(kvs.find? λp=>decide (p.1=k)).map (·.2)
noncomputable def eK(kvs:List (D×D))(k d:D):List (D×D):=if (aY kvs k).isSome then kvs.map (λp=>if p.1=k then(p.1,d)else p)else kvs++[(k,d)]
section
variable{K:AA3}{ρ:List Addr}{H:Hp}{M:Mem}{kvs:List (D×D)}{xs:List (D×Addr×Value)}
theorem qi(r:Paired (sw K ρ H) kvs xs)(k:D):(aY kvs k=none/\atKey xs k=none)\/∃d p v,aY kvs k=some d/\atKey xs k=some p/\Rep K ρ H d v/\aC v p.2:=by
 unfold aY atKey
 induction r with
 | nil=>exact .inl ⟨rfl,rfl⟩
 | @cons p q ps qs h t ih =>
  obtain⟨h1,_,_,v,h4,h5⟩:=h
  rw[ADU,ADU]
  by_cases e:p.1=k
  ·rw[dT_ e,dT_ (h1.symm.trans e)]
   exact .inr ⟨_,_,v,rfl,rfl,h4,h5⟩
  ·rw[dF_ e,dF_ (λz=>e (h1.trans z))]
   exact ih
theorem CL(r:Paired (sw K ρ H) kvs xs)(kd:bY 8 k=true)(rk:Rep K ρ H k (.ref b))(rd:Rep K ρ H d v)(rv:aC v u):Paired (sw K ρ H) (eK kvs k d) (storedH xs k b u):=by
 unfold eK storedH
 have is:(aY kvs k).isSome=(atKey xs k).isSome:=by
  rcases qi r k with⟨e1,e2⟩|⟨_,_,_,e1,e2,_⟩<;>rw[e1,e2]<;>rfl
 rw[is]
 by_cases q:(atKey xs k).isSome=true
 ·rw[if_pos q,if_pos q]
  clear is q
  induction r with
  | nil=>exact .nil
  | @cons p q ps qs h t ih =>
   rw[AAf,AAf]
   refine .cons ?_ ih
   obtain⟨h1,h2,h3,w,h4,h5⟩:=h
   by_cases e:p.1=k
   ·rw[if_pos e,putAt,if_pos (h1.symm.trans e)]
    exact⟨h1,h2,h3,v,rd,rv⟩
   ·rw[if_neg e,putAt,if_neg (λz=>e (h1.trans z))]
    exact⟨h1,h2,h3,w,h4,h5⟩
 ·rw[if_neg q,if_neg q]
  clear is q
  induction r with
  | nil=>exact .cons ⟨rfl,kd,rk,v,rd,rv⟩ .nil
  | cons h t ih=>exact .cons h ih
theorem oP(r:Paired (sw K ρ H) kvs xs):xs.map (·.1)=kvs.map (·.1):=by
 induction r with
 | nil=>rfl
 | cons h t ih=>rw[AAf,AAf,ih,h.1]
theorem wB:(eK kvs k d).length<=kvs.length+1:=by
 unfold eK
 split
 ·rw[AA6];lia
 ·rw[AAA];exact AA8 _
theorem SqT.writtenX{a p:Addr}{xs:List V}{φ:Program->World->Heap->Prop}{o:HO}(hp:H p=some (.ext φ))(h:SqT K H a xs):SqT K (upd H p o) a xs:=by
 rcases h with h | h
 ·rcases h with h | ⟨ob,h⟩
  ·exact .inl (.inl (by rw[ag (wT h hp (by intro z;cases z))];exact h))
  ·exact .inl (.inr ⟨ob,by rw[ag (wT h hp (by intro z;cases z))];exact h⟩)
 ·exact .inr h
theorem Sim.writeT(S:Sim K ρ M H)(e1:ρ[n]?=some a)(hM:M[n]?=some (.dkt kvs))(hH:H a=some (.ext (dX a xs)))(hl:kvs'.length<=sizeLine)(hs:(a==sysModules)=false)(nd:(kvs'.map (·.1)).Nodup)(r:Paired (sw K ρ H) kvs' xs') :
  Sim K ρ (M.set n (.dkt kvs')) (upd H a (.ext (dX a xs')))/\Grow K ρ H ρ (upd H a (.ext (dX a xs'))):=by
 have g:Grow K ρ H ρ (upd H a (.ext (dX a xs'))):=⟨AC2,λ_ _ h=>SqT.writtenX hH h⟩
 have hk:∀m,m≠n->(M.set n (.dkt kvs'))[m]?=M[m]?:=λm hm=>AAZ (ABO hm)
 have notK:¬isK M[n]?:=λ⟨_,z⟩=>by rw[hM]at z;cases z
 refine⟨⟨λm m' b hne f1 f2=>?_,by rw[AAp];exact S.len,λm b mo f1 f2=>?_⟩,g⟩
 ·have q:=S.nd m m' b hne f1 f2
  by_cases h1:m=n
  ·subst h1
   rw[hk m' (ABO hne)]
   exact .inr (q.resolve_left notK)
  ·rw[hk m h1]
   by_cases h2:m'=n
   ·subst h2
    exact .inl (q.resolve_right notK)
   ·rw[hk m' h2]
    exact q
 by_cases hm:m=n
 ·subst hm
  have hb:b=a:=AAQ (f1.symm.trans e1)
  subst hb
  rw[AAa (by rw[<-S.len];exact(AA7.mp e1).1)]at f2
  cases f2
  refine⟨hl,hs,nd,xs',ay,Paired.mapP r ?_⟩
  rintro _ _ ⟨q1,q2,q3,v,q4,q5⟩
  exact⟨q1,q2,q3.grow g,v,q4.grow g,q5⟩
 ·rw[hk m hm]at f2
  by_cases hb:b=a
  ·subst hb
   have q':=(S.nd m n b hm f1 e1).resolve_right notK
   rw[f2]at q'
   exact(S.obj m b mo f1 f2).grow g (.inr q')
  ·exact(S.obj m b mo f1 f2).grow g (.inl (ag hb))
end
section
variable{X:Cx}{pins:List (Addr×Obj)}{σ:St}{H:Hp}{s:Shared}{ρ:List Addr}{M:Mem}
theorem fQ(I:Inv X pins σ H s):∀(n:Nat) (d:D) (v:V) (u:Value),Rep X.K ρ H d v->aC v u->bY n d=true->dh s.heap n d u:=by
 intro n
 induction n with
 | zero =>
  intro d v u r rv k
  cases r with
  | str x=>exact rv
  | int x=>exact rv
  | _=>cases k
 | succ n ih =>
  intro d v u r rv k
  cases r with
  | str x=>exact rv
  | int x=>exact rv
  | @tup a vs ds hq rr =>
   cases rv
   obtain⟨its,r2,p,hz⟩:=I.tuple hq
   have hk:∀x∈ds,bY n x=true:=AAW.mp (show ds.all (bY n)=true from k)
   refine⟨a,its.toArray,rfl,p,?_⟩
   rw[List.toList_toArray]
   clear p hq k hz
   induction r2 generalizing ds with
   | nil=>cases rr;exact .nil
   | cons q1 q2 i2 =>
    cases rr with
    | cons h1 t1=>exact .cons (ih _ _ _ h1 q1 (hk _ AAG)) (i2 t1 λx hx=>hk x (AA9 _ hx))
  | _=>cases k
theorem jm(I:Inv X pins σ H s)(sm:Sim X.K ρ M H){n:Nat}{a:Addr}{kvs:List (D×D)}(e:ρ[n]?=some a)(hM:M[n]?=some (.dkt kvs)) :
  ∃xs,H a=some (.ext (dX a xs))/\Paired (sw X.K ρ H) kvs xs/\s.heap.DictOfH (eD X.prog X.w) a xs/\(a==sysModules)=false/\kvs.length<=sizeLine/\xs.length=kvs.length/\(kvs.map (·.1)).Nodup:=by
 obtain⟨h1,h2,h3,xs,hH,r⟩:=sm.obj _ _ _ e hM
 obtain⟨⟨o,es,e1,e2,e3,e4⟩,_⟩:=(show bJ X.prog X.w H s.heap a (.ext (dX a xs))from I.hok a _ hH)
 have ek:=oP r
 refine⟨xs,hH,r,⟨o,es,_,e1,e2,e3,e4,λx hx=>?_,by rw[ek];exact h3⟩,h2,h1,?_,h3⟩
 ·obtain⟨i,hi⟩:=ABH hx
  obtain⟨p,_,q1,q2,q3,_⟩:=du r hi
  rw[<-q1]
  exact fQ I 8 _ _ _ q3 rfl q2
 ·have:=congrArg AC1 ek
  rwa [AA6,AA6]at this
theorem vq(d:dX a xs P w h'):bJ P w H' h' a (.ext (dX a xs)):=by
 obtain⟨o,es,e1,e2,e3,e4⟩:=d
 refine⟨⟨o,es,e1,e2,e3,e4⟩,⟨o,e1⟩,?_⟩
 rintro h1 h2 ⟨o,es,e1,e2,e3,e4⟩ k
 exact⟨o,es,k _ e1,e2,e3,e4⟩
theorem yz(I:Inv X pins σ H s)(hH:H a=some (.ext (dX a xs))):dX a xs X.prog X.w s.heap :=
 (show bJ X.prog X.w H s.heap a (.ext (dX a xs))from I.hok a _ hH).1
end
theorem setE(hu:(eD prog w).room A.in1)(kat:(eD prog w).is s.heap k b)
  (hm:s.heap.DictOfH (eD prog w) d xs) (hx:dX d xs prog w s.heap) (hz:xs.length<=sizeLine)
  (hQ:∀h',dX d (storedH xs k b v) prog w h'->ACB d s.heap h'->Q () { s with heap:=h',toks:=s.toks+(eD prog w).draws k }):wpAny (model prog w) A (setItem (.ref d) (.ref b) v) Q E s:=by
 have hT:=hm.typeIs
 obtain⟨_,_,_,_,_,_,_,his,hn⟩:=hm
 obtain⟨o,es,ho,hc,hd,he'⟩:=hx
 have he:es.toList=xs.map (entryOfKey (eD prog w)):=he'
 unfold setItem
 try with_reducible refine AAg ?_
 refine AA0 (wpAny_sequenceKey hT (by decide) (AA0 (AB0 (name:=AA1 "__setitem__") hT slot_dict_setitem (AAv slot_dict_setitem hT entry_dict_setitem ?_ (args_dict_setitem _ _ _)))))
 refine(show wpAny (model prog w) _ (Builtin.Dict.notOrdered "__setitem__" ⟨[.ref d,.ref b,v],[]⟩ >>= _) _ _ s from AA0 (ADo hT ?_))
 refine(show wpAny (model prog w) _ (dictSet d (.ref b) v >>= _) _ _ s from AA0 ?_)
 unfold dictSet
 try with_reducible refine AAg ?_
 refine AA0 ((eD prog w).pyHash hu kat ?_)
 unfold dictSetHashed
 try with_reducible refine AAg ?_
 have hl:es.size=xs.length:=size_of_entries he
 refine AA0 (wpAny_dictFind_heap (s:={ s with toks:=s.toks+(eD prog w).draws k }) hu kat ho hd he his hn (λhno=>?_) λj p hj=>?_)
 ·refine AA0 (ABr (wpAny_updateDictKeys (hz:=by lia) (s:={ s with toks:=s.toks+(eD prog w).draws k }) ho hd (AA2 ⟨.none,rfl,AA2 (hQ _ ⟨_,es.push ⟨(eD prog w).hash k,.ref b,v⟩,AAi _ ho (AE4 (ACy hd _)),hc.mapDictKeys _,?_,?_⟩ (AAy ..))⟩)))
  ·rw[ACy hd,storedH_new (atKey_none_of_get hno),AAA];rfl
  ·rw[storedH_new (atKey_none_of_get hno)]
   rw[Array.toList_push,he,AAq]
   rfl
 ·refine AA0 (ABr (AA0 (wpAny_updateDict (s:={ s with toks:=s.toks+(eD prog w).draws k }) ho hd (wpAny_point (AA2 ⟨.none,rfl,AA2 (hQ _ ⟨_,es.modify j λe=>{ e with val:=v },AAi _ ho (AE4 (Obj.data_mapDict hd _)),hc.mapDict _,?_,?_⟩ (AAy ..))⟩)))))
  ·rw[Obj.data_mapDict hd,storedH_old (atKey_of_get hn hj),AA6]
  ·rw[storedH_old (atKey_of_get hn hj)]
   have q:=modify_map_putAt (entryOfKey (eD prog w)) (λe:DictEntry=>{ e with val:=v }) k v (λ_ _=>rfl) hn hj
   rw[<-he]at q
   obtain⟨l⟩:=es
   have q2:(Array.modify ⟨l⟩ j λe:DictEntry=>{ e with val:=v }).toList=(xs.map (putAt k v)).map (entryOfKey (eD prog w)):=by simpa using q
   exact q2
section
variable{X:Cx}{o i value:Expr}{td ty tv:DTE}{pos pos':Pos}{k:Nat}
def si:DTE:=λ_ M Q=>Q (.ref M.length) (M++[.dkt []])
theorem Er:DE X (.Dict [] [] pos) si:=by
 rintro pins s σ H R I ⟨S,M,ρ,Q,sm,sr,q,kk⟩
 have hf:H s.heap.objs.size=none:=I.hok.fresh (AA8 _)
 have hb:(s.heap.objs.size==sysModules)=false:=beq_eq_false_iff_ne.mpr (ABO (AAL I.big))
 refine wpAny_Dict_empty ⟨.ref s.heap.objs.size,_,I.laid (a:=s.heap.objs.size) (o:=.ext (dX s.heap.objs.size [])) (t':=s.toks) (λ_ _ q=>AA4 _ q) (AA8 _) (vq ⟨_,#[],AAE _ rfl,⟨rfl,rfl,rfl⟩,rfl,rfl⟩),rfl,?_⟩
 exact kk _ _ ⟨.ref M.length,M++[.dkt []],ρ++[s.heap.objs.size],sm.laidM (mo:=.dkt []) hf ⟨AAT _,hb,ADk,[],ay,.nil⟩,Grow.laidR hf,.ref sm.last,(show Q (.ref M.length) (M++[.dkt []])from q)⟩
def vH(td ty:DTE):DTE:=λS M Q=>td S M λx M1=>ty S M1 λy M2=>match x,y with
 | .ref n,.tup ks=>∃kvs d,M2[n]?=some (.dkt kvs)/\bY 8 (.tup ks)=true/\aY kvs (.tup ks)=some d/\Q d M2
 | _,_=>False
theorem Es(hr:Room k X.A)(ho:DE X o td)(hi:DE X i ty)(hs:NoSl i):DE X (.Subscript o i pos) (vH td ty):=by
 rintro pins s σ H R I ⟨S,M,ρ,Q,sm,sr,q,kk⟩
 have un:=hr.un
 refine yO PySem.F.slot_dict_getitem.lookup hs (thn (ho pins s σ H _ I ⟨S,M,ρ,_,sm,sr,q,λv H' z=>z⟩) ?_)
 rintro u s1 ⟨v,H1,I1,rv,x,M1,ρ1,sm1,g1,r1,q1⟩
 refine thn (hi pins s1 σ H1 _ I1 ⟨S,M1,ρ1,_,sm1,sr.grow g1,q1,λv H' z=>z⟩) ?_
 rintro iv s2 ⟨w,H2,I2,rw',y,M2,ρ2,sm2,g2,r2,q2⟩
 cases x with
 | ref n =>
  cases y with
  | tup ks =>
   obtain⟨kvs,d,hM,kd,hg,q3⟩:=q2
   obtain⟨a,rfl,hn⟩:=Rep.inv_ref r1
   obtain rfl:u=ABS a:=rv
   obtain⟨xs,hH,r,dd,hsm,hl,hx,_⟩:=jm I2 sm2 (av g2.pre hn) hM
   have kat:=fQ I2 8 _ _ _ r2 rw' kd
   rcases qi r (.tup ks)with⟨z,_⟩|⟨d',p,v',e1,e2,e3,e4⟩
   ·rw[hg]at z;cases z
   ·rw[hg]at e1
    cases e1
    obtain⟨b,_,rfl,_⟩:=id kat
    refine⟨dd.typeIs,wpAny_getItem_heap (knd:=eD X.prog X.w) (k:=.tup ks) (by show X.A.units+1+8<cLine;lia) kat dd e2 ⟨v',H2,I2.tok _,e4,kk _ _ ⟨d,M2,ρ2,sm2,g1.trans g2,e3,q3⟩⟩⟩
  | _=>exact q2.elim
 | _=>exact q2.elim
def sf(td ty tv:DTE):DTS:=λE S M=>tv S M λv M1=>td S M1 λx M2=>ty S M2 λy M3=>match x,y with
 | .ref n,.tup ks=>∃kvs,M3[n]?=some (.dkt kvs)/\bY 8 (.tup ks)=true/\kvs.length<sizeLine/\E.nx S (M3.set n (.dkt (eK kvs (.tup ks) v)))
 | _,_=>False
theorem oi(h:(kvs.map (·.1)).Nodup):((eK kvs y v).map (·.1)).Nodup:=by
 unfold eK
 split
 ·rw[ABG]
  have:((λx:D×D=>x.1) ∘ λp:D×D=>if p.1=y then(p.1,v)else p)=λx=>x.1:=by
   funext p
   show (if p.1=y then(p.1,v)else p).1=p.1
   split<;>rfl
  rw[this];exact h
 ·rename_i q
  rw[AAq,List.map_singleton,ACR]
  refine⟨h,by simp,λa ha b hb=>?_⟩
  rw[ACG.mp hb]
  rintro rfl
  obtain⟨p,hp,e⟩:=AAU.mp ha
  refine q ?_
  unfold aY
  rw[Option.isSome_map,List.find?_isSome]
  exact⟨p,hp,by simpa using e⟩
theorem Az(hr:Room k X.A)(ho:DE X o td)(hi:DE X i ty)(hv:DE X value tv)(hs:swapsWith value (some (.Subscript o i pos')) pos.line X.env=pure false):DS X (.Assign [.Subscript o i pos'] value pos) (sf td ty tv):=by
 rintro pins s σ H E I ⟨S,M,ρ,F,sm,sr,q,kk⟩
 have un:=hr.un
 refine wpAny_Assign_Subscript (thn (hv pins s σ H _ I ⟨S,M,ρ,_,sm,sr,q,λv H' z=>z⟩) λr s1 ⟨v,H1,I1,rv,dv,M1,ρ1,sm1,g1,r1,q1⟩=>thn (ho pins s1 σ H1 _ I1 ⟨S,M1,ρ1,_,sm1,sr.grow g1,q1,λv H' z=>z⟩) λu s2 ⟨vx,H2,I2,rx,x,M2,ρ2,sm2,g2,r2,q2⟩=>thn (hi pins s2 σ H2 _ I2 ⟨S,M2,ρ2,_,sm2,(sr.grow g1).grow g2,q2,λv H' z=>z⟩) ?_) hs
 rintro iv s3 ⟨vy,H3,I3,ry,y,M3,ρ3,sm3,g3,r3,q3⟩
 cases x with
 | ref n =>
  cases y with
  | tup ks =>
   obtain⟨kvs,hM,kd,hl,q4⟩:=q3
   obtain⟨a,rfl,hn⟩:=Rep.inv_ref r2
   obtain rfl:u=ABS a:=rx
   have hn3:=av g3.pre hn
   obtain⟨xs,hH,r,dd,hsm,_,hx,nd⟩:=jm I3 sm3 hn3 hM
   have kat:=fQ I3 8 _ _ _ r3 ry kd
   obtain⟨b,_,rfl,_⟩:=id kat
   obtain⟨_,_,rfl,hq,rr⟩:=Rep.inv_tup r3
   cases ry
   have r':=CL r kd (.tup hq rr) ((r1.grow g2).grow g3) rv
   have pl:=wB (kvs:=kvs) (k:=.tup ks) (d:=dv)
   obtain⟨w1,w2⟩:=sm3.writeT hn3 hM hH (by have:=pl;lia) hsm (oi nd) r'
   refine setE (k:=.tup ks) (by show X.A.units+1+8<cLine;lia) kat dd (yz I3 hH) (by lia) λh' dd' hsb=>?_
   have he:∃q,h'.get? a=some q:=let ⟨q,_,hq,_⟩:=dd';⟨q,hq⟩
   exact⟨σ,_,vG I3 (by rw[hH];exact AEG) hsb he (vq dd'),kk.nx σ _ (SQ.trans ((g1.trans g2).trans g3) ⟨S,_,ρ3,w1,w2,(((sr.grow g1).grow g2).grow g3).grow w2,q4⟩)⟩
  | _=>exact q3.elim
 | _=>exact q3.elim
def dMt(r:Nat->DRA)(to:DTE)(t:DTA):DTE:=λS M Q=>to S M λx M1=>match x with
 | .ref n=>(∃kvs,M1[n]?=some (.dkt kvs))/\t S M1 λds M2=>r n ds M2 Q
 | _=>False
variable{name:Str}{id:String}{e:Expr}{es:List Expr}{to:DTE}{t:DTA}{apos cpos:Pos}
theorem d_mt{r:Nat->DRA}(slot:Slot "dict" name id)(hty:typeOf (.builtin id)=pure (.type "method_descriptor"))(hm:MtR X id (jx X.K r))(ho:DE X o to)(ha:DA X (e::es) t)
  (hbase:attributeBase o name X.env (eval o X.env)=eval o X.env:=by rfl)
  (hfew:((backTo cpos (starEach (e::es) X.env)).all (λx=>!x.1)&&(backToKw cpos (keywordEach [] X.env)).all (λx=>x.1.isSome)
   && decide ((e::es).length+([]:List Keyword).length+(if ([]:List Keyword).isEmpty then 0 else 1)<30))=true:=by rfl)
  (hline:(apos.endLine==cpos.line)=true:=by rfl) (hs:starEach (e::es) X.env=(false,eval e X.env)::starEach es X.env:=by rfl) (hplain:(backTo cpos (starEach es X.env)).any (·.1)=false:=by rfl) :
  DE X (.Call (.Attribute o name apos) (e::es) [] cpos) (dMt r to t):=by
 rintro pins s σ H R I ⟨S,M,ρ,Q,sm,sr,q,kk⟩
 refine ADZ hbase hfew hline rfl (thn (ho pins s σ H _ I ⟨S,M,ρ,_,sm,sr,q,λv H' z=>z⟩) ?_)
 rintro u s1 ⟨v,H1,I1,rv,x,M1,ρ1,sm1,g1,r1,q1⟩
 cases r1 with
 | @ref n a hn =>
  cases rv
  obtain⟨⟨kvs,hM⟩,q1⟩:=(show (∃kvs,M1[n]?=some (.dkt kvs))/\t S M1 _ from q1)
  obtain⟨xs,hH,r,dd,hsm,hl,hx,nd⟩:=jm I1 sm1 hn hM
  refine⟨"dict",id,ACZ,slot,hty,dd.typeIs,λb z=>?_,?_⟩
  ·cases z
   obtain⟨ob,_,_,h1,h2,_⟩:=dd
   exact⟨ob,h1,h2.2.1⟩
  ·have hA:=ha cpos pins s1 σ H1 _ I1 ⟨S,M1,ρ1,_,sm1,sr.grow g1,q1,λvs H' z=>z⟩
   rw[hs]at hA ⊢
   refine ABg (by show (false||(backTo cpos (starEach es X.env)).any (·.1))=false;rw[hplain]<;>rfl) (ACw ?_)
   refine thn hA ?_
   rintro us s2 ⟨vs,H2,I2,rvs,ds,M2,ρ2,sm2,g2,rr,q2⟩
   exact hm pins s2 σ H2 (.ref a) vs (.ref a) us R I2 rfl rvs ⟨n,a,ds,M2,ρ2,Q,rfl,av g2.pre hn,sm2,rr,q2,λv H' w=>kk v H' (VQ.trans (g1.trans g2) w)⟩
 | _=>exact q1.elim
def gy(n:Nat):DRA:=λds M Q=>match ds with
 | [.tup ks,d]=>∃kvs,M[n]?=some (.dkt kvs)/\bY 8 (.tup ks)=true/\Q ((aY kvs (.tup ks)).getD d) M
 | _=>False
theorem wU(hr:Room k X.A):MtR X "dict.get" (jx X.K gy):=by
 rintro pins s σ H x xs v us R I rx rs ⟨n,a,ds,M,ρ,Q,ez,hn,sm,rr,q,kk⟩
 have un:=hr.un
 unfold gy at q
 split at q
 ·rename_i ks d
  obtain⟨kvs,hM,kd,q⟩:=q
  first | have hzz:=Reps.inv_cons rr | have hzz:=au.inv_cons rr
  clear rr
  obtain⟨_,_,rfl,r1,rr⟩:=hzz
  first | have hzz:=Reps.inv_cons rr | have hzz:=au.inv_cons rr
  clear rr
  obtain⟨_,_,rfl,r2,rr⟩:=hzz
  cases rr
  obtain⟨u1,u2,rfl,e1,e2⟩:=au.two rs
  subst ez
  cases rx
  obtain⟨ys,hH,r,dd,hsm,hl,hx,nd⟩:=jm I sm hn hM
  have kat:=fQ I 8 _ _ _ r1 e1 kd
  obtain⟨b,_,rfl,_⟩:=id kat
  refine call_meetsIn ACn dd.typeIs PySem.F.entry_dict_get (PySem.F.args_dict_get_3 _ _ _) (meetsH_dict_get_default (eD X.prog X.w) a b hsm u2) ⟨by show X.A.units+1+8<cLine;lia,.tup ks,ys,kat,dd,?_⟩
  rcases qi r (.tup ks)with⟨z1,z2⟩|⟨d',p,v',z1,z2,z3,z4⟩
  ·rw[z2]
   rw[z1]at q
   exact⟨_,H,I.tok _,e2,kk _ _ ⟨d,M,ρ,sm,.refl,r2,q⟩⟩
  ·rw[z2]
   rw[z1]at q
   exact⟨_,H,I.tok _,z4,kk _ _ ⟨d',M,ρ,sm,.refl,z3,q⟩⟩
 ·exact q.elim
end
def dj(h:Heap)(d:Addr)(es:Array DictEntry)(ep:Nat):Prop:=∃o,h.get? d=some o/\o.ExactDict/\o.data=.dict es ep
theorem dj.ty{s:Shared}{d:Addr}{es:Array DictEntry}{ep:Nat}(x:dj s.heap d es ep):s.TypeIs (.ref d) "dict":=by
 obtain⟨o,h1,h2,_⟩:=x
 exact⟨o,h1,h2.1⟩
theorem dj.lt(x:dj h d es ep):d<h.objs.size:=by
 obtain⟨o,h1,_⟩:=x
 exact AAH h1
theorem dj.to(x:dj h d es ep)(k:∀o,h.get? d=some o->h'.get? d=some o):dj h' d es ep:=by
 obtain⟨o,h1,h2⟩:=x
 exact⟨o,k o h1,h2⟩
section
variable{X:Cx}{pins:List (Addr×Obj)}{σ:St}{H:Hp}{s:Shared}
theorem nq(I:Inv X pins σ H s)(hH:H a=some (.ext (dX a xs))):∃es,dj s.heap a es xs.length/\es.size=xs.length/\∀(i:Nat) x,xs[i]?=some x->∃e,es[i]?=some e/\e.key=.ref x.2.1/\e.val=x.2.2:=by
 obtain⟨o,es,h1,h2,h3,h4⟩:=yz I hH
 refine⟨es,⟨o,h1,h2,h3⟩,?_,λi x hx=>?_⟩
 ·have:=congrArg AC1 h4
  rwa [AAJ,AA6]at this
 ·refine⟨⟨hkD X.w 8 x.1,.ref x.2.1,x.2.2⟩,?_,rfl,rfl⟩
  rw[<-AAN,h4,AAV,hx]
  rfl
theorem xK(x:dj h a es ep)(y:dj h a es' ep'):es=es'/\ep=ep':=by
 obtain⟨o,h1,_,h3⟩:=x
 obtain⟨o',h1',_,h3'⟩:=y
 obtain rfl:o=o':=AAQ (h1.symm.trans h1')
 rw[h3]at h3'
 injection h3' with e1 e2
 exact⟨e1,e2⟩
end
section
variable{prog:Program}{w:World}{A:Around}{E:Value->Shared->Prop}{s:Shared}{d:Addr}{es:Array DictEntry}{ep:Nat}
theorem kr(hd:(d==sysModules)=false)(hm:dj s.heap d es ep)(hQ:Q (.ref s.heap.objs.size) { s with heap:=s.heap.push { cls:=.type "dict_values",data:=.fields #[.ref d] } }) :
  wpAny (model prog w) A (call (.builtin "dict.values") [.ref d]) Q E s:=by
 refine call_meetsIn ADF hm.ty PySem.F.entry_dict_values (PySem.F.args_dict_values_1 _) (S:=λ_ R s'=>s'=s/\R (.ok (.ret (.ref s.heap.objs.size))) { s with heap:=s.heap.push { cls:=.type "dict_values",data:=.fields #[.ref d] } }) (.of_wp ?_) ⟨rfl,hQ⟩
 rintro A R s' ⟨rfl,h⟩
 refine AA0 ?_
 unfold Builtin.Dict.noArgs
 refine AA0 (ADo hm.ty (AA2 ?_))
 refine(show wpAny (model prog w) _ (Builtin.Dict.showsAll d >>= _) _ _ s' from ?_)
 unfold Builtin.Dict.showsAll
 rw[hd]
 exact AA0 (AA2 (AA0 (AAr (AA2 ⟨_,rfl,h⟩))))
theorem nj(hv:s.heap.IsValuesView v d)(hm:dj s.heap d es ep)
  (hQ:Q (.ref s.heap.objs.size) { s with heap:=s.heap.push { cls:=.type "dict_valueiterator",data:=.fields #[.ref d,.int 0 0,.int es.size 0,.int ep 0] } }):wpAny (model prog w) A (pyIter (.ref v)) Q E s:=by
 obtain⟨ov,v1,v2,v3⟩:=id hv
 obtain⟨o,h1,h2,h3⟩:=hm
 refine wpAny_pyIter_slot hv.typeIs F.slot_dict_values_iter (AAv F.slot_dict_values_iter hv.typeIs F.entry_dict_values_iter ?_ (F.args_dict_values_iter_1 _))
 unfold Builtin.«dict_values.__iter__»
 refine AA0 (AA2 (AA0 ?_))
 unfold Builtin.Dict_items.dictOf
 refine AA0 (wpAny_field v1 v3 (x:=.ref d) rfl (AA2 (AA0 ?_)))
 unfold Builtin.Dict_items.newIterator
 refine AA0 (ACS h1 h3 (AA0 (ABo h1 h3 ?_)))
 simp only[show ACk "dict_valueiterator" = false by decide,AAD,if_false]
 exact AAr (AA2 ⟨_,rfl,"dict_valueiterator",_,⟨_,AAE _ rfl,rfl⟩,F.slot_dict_valueiterator_next.lookup,by simpa [rawInt]using hQ⟩)
theorem nh(hit:s.heap.IsValIter it d i es.size ep)(hm:dj s.heap d es ep)(hi:i<es.size)
  (hQ:∀h',h'.IsValIter it d (i+1) es.size ep->ACB it s.heap h'->Q (some es[i].val) { s with heap:=h' }):wpAny (model prog w) A (pyNext (.ref it)) Q E s:=by
 obtain⟨o,ho,hc,hd⟩:=id hit
 obtain⟨od,k1,k2,k3⟩:=id hm
 unfold pyNext
 refine AA0 (ACE (AB0 (name:=AA1 "__next__") hit.typeIs F.slot_dict_valueiterator_next (AAv F.slot_dict_valueiterator_next hit.typeIs F.entry_dict_valueiterator_next ?_ (F.args_dict_valueiterator_next_1 _))))
 refine AA0 (AA2 (AA0 (AA0 ?_)))
 first | refine AA0 (ABu hit.typeIs (AA2 (AA0 (ACJ ho hd ?_)))) | refine AA0 (ACT hit.typeIs (AA2 (AA0 (ACJ ho hd ?_))))
 simp only[show ACk "dict_valueiterator" = false by decide,AAD,if_false]
 refine(show wpAny (model prog w) _ (if (ABS d==ABp)=true then _ else _) _ _ s from ?_)
 rw[if_neg (by exact ABQ)]
 refine AA0 (AA2 (AA0 (ACS k1 k3 ?_)))
 rw[if_neg (by simp)]
 refine AA0 (AA2 (AA0 (ABo k1 k3 ?_)))
 rw[if_neg (by simp)]
 refine AA2 ?_
 simp only[show ¬((i:Int)<0)from by lia,if_false,ABy,AAP hi]
 refine AA0 ?_
 first | refine AA0 (ABu hit.typeIs (AA2 ?_)) | refine AA0 (ACT hit.typeIs (AA2 ?_))
 refine AA0 (ADp hit.typeIs ?_)
 refine(show wpAny (model prog w) _ (setField (.ref it) 1 (rawInt ((i:Int)+1)) >>= _) _ _ s from AA0 (ACK ho hd (by simp) ?_))
 have hit':(s.heap.update it (ADs (·.setIfInBounds 1 (rawInt ((i:Int)+1))))).IsValIter it d (i+1) es.size ep:=by
  refine⟨_,AAi _ ho (Obj.isFreed_of_fields (Obj.data_mapFields hd _)),(Obj.cls_mapFields ..).trans hc,?_⟩
  rw[Obj.data_mapFields hd];simp[rawInt]
 refine AA0 (AAg (AA0 (ADp (s:={ s with heap:=s.heap.update it (ADs (·.setIfInBounds 1 (rawInt ((i:Int)+1)))) }) hit'.typeIs (AA0 (ADp (s:={ s with heap:=s.heap.update it (ADs (·.setIfInBounds 1 (rawInt ((i:Int)+1)))) }) hit'.typeIs ?_)))))
 refine(show wpAny (model prog w) _ (pure es[i].val) _ _ _ from ?_)
 exact AA2 (AA2 ⟨_,rfl,AA2 (hQ _ hit' (AAy ..))⟩)
theorem qy(hh:A.handled=none)(hit:s.heap.IsValIter it d es.size es.size ep)(hm:dj s.heap d es ep)
  (hQ:∀h',Heap.ExtBut it s.heap h'->Q none { s with heap:=h' }):wpAny (model prog w) A (pyNext (.ref it)) Q E s:=by
 obtain⟨o,ho,hc,hd⟩:=id hit
 obtain⟨od,k1,k2,k3⟩:=id hm
 unfold pyNext
 refine AA0 (ACE (AB0 (name:=AA1 "__next__") hit.typeIs F.slot_dict_valueiterator_next (AAv F.slot_dict_valueiterator_next hit.typeIs F.entry_dict_valueiterator_next ?_ (F.args_dict_valueiterator_next_1 _))))
 refine AA0 (AA2 (AA0 (AA0 ?_)))
 first | refine AA0 (ABu hit.typeIs (AA2 (AA0 (ACJ ho hd ?_)))) | refine AA0 (ACT hit.typeIs (AA2 (AA0 (ACJ ho hd ?_))))
 simp only[show ACk "dict_valueiterator" = false by decide,AAD,if_false]
 refine(show wpAny (model prog w) _ (if (ABS d==ABp)=true then _ else _) _ _ s from ?_)
 rw[if_neg (by exact ABQ)]
 refine AA0 (AA2 (AA0 (ACS k1 k3 ?_)))
 rw[if_neg (by simp)]
 refine AA0 (AA2 (AA0 (ABo k1 k3 ?_)))
 rw[if_neg (by simp)]
 refine AA2 ?_
 simp only[show ¬((es.size:Int)<0)from by lia,if_false,ABy,AC4 (AA8 es.size)]
 refine AA0 ?_
 first | refine AA0 (ABu hit.typeIs (AA2 ?_)) | refine AA0 (ACT hit.typeIs (AA2 ?_))
 refine(show wpAny (model prog w) _ (setField (.ref it) 0 .none >>= _) _ _ s from AA0 (ACK ho hd (by simp) ?_))
 refine(show wpAny (model prog w) _ (newExc (.type "StopIteration") [] >>= _) _ _ _ from AA0 ?_)
 simp only[newExc,newTuple]
 refine AA0 (AAr ?_ (by size_fits))
 refine AA0 (m:=firstArgMember _ _) (wpAny_of_eq (a:=ABp) (by first | rfl | (simp only[firstArgMember];rfl)) ?_)
 refine AAr ?_ (by size_fits)
 simp only[raiseNew]
 refine AA0 (wpAny_handled ?_)
 rw[show A.in1.handled=none from hh]
 refine AA0 (AA2 (wpAny_throw ?_))
 refine AA0 (ACd (b:=true) (T:="StopIteration") ⟨_,AAE _ rfl,rfl⟩ isSubtype_stop ?_)
 exact AA2 (hQ _ (((AAy ..).extBut.push _).push _))
theorem rY(hh:A.handled=none)(I:Addr)(hne:d≠I):Walks prog w A I [I,d] [I] es.size (λi v=>∃e,es[i]?=some e/\v=e.val) (λi h=>h.IsValIter I d i es.size ep/\dj h d es ep) where
 sub:=λb hb=>by simp at hb;simp[hb]
 frame:=λ_ _ _ st hk=>⟨st.1.at λo e=>hk I (by simp) o e,st.2.to λo e=>hk d (by simp) o e⟩
 item:=λi s Q E hi st hQ=>nh st.1 st.2 hi λh' hit' hs'=>hQ _ h' s.toks ⟨es[i],by simp[hi],rfl⟩ ⟨hit',st.2.to λo e=>hs'.extBut d o hne e⟩ λb o hb e=>hs'.extBut b o (λh=>hb (by simp[h])) e
 done:=λs Q E st hQ=>qy hh st.1 st.2 λh' he'=>hQ h' s.toks λb o hb e=>he' b o (λh=>hb (by simp[h])) e
 self:=λ_ _ _ _ st hQ=>wpAny_pyIter_valiter st.1 hQ
end
noncomputable def Itv(a:Addr)(n:Nat):It :=
 ⟨λi H=>∃xs x v,H a=some (.ext (dX a xs))/\xs.length=n/\xs[i]?=some x/\aC v x.2.2,λi H v H'=>H'=H/\∀xs,H a=some (.ext (dX a xs))->∃x,xs[i]?=some x/\aC v x.2.2,λi H=>(∃xs,H a=some (.ext (dX a xs))/\xs.length=n)/\i=n⟩
theorem sL{P:Program}{w:World}{K:AA3}{tg:Expr}(a it:Addr)(n:Nat):Turn P w K tg (Itv a n) [it] it (λi h=>h.IsValIter it a i n n) where
 mem:=by simp
 obj:=λi h st b hb=>by
  obtain rfl:b=it:=by simpa using hb
  obtain⟨o,e,c,d⟩:=st
  exact⟨o,e,λv z=>by rw[d]at z;cases z⟩
 keep:=λi h h' st k=>st.at λo e=>k it (by simp) o e
 item:=by
  intro X hP hw hK hc i pins s σ H E I hf st hg
  subst hP hw hK
  obtain⟨xs,x,v,hH,rfl,hx,hv⟩:=hg
  obtain⟨es,em,el,eg⟩:=nq I hH
  obtain⟨e,e1,e2,e3⟩:=eg i x hx
  obtain⟨f0,f1,f2,f3,f4,f5⟩:=hf it (by simp)
  have hi':i<es.size:=(AAh.mp e1).1
  have ee:es[i]=e:=by
   rw[AAP hi']at e1
   exact AAQ e1
  rw[<-el]at em st
  refine nh st em hi' λh' st' sb=>?_
  rw[ee,e3]
  have I1:Inv X pins σ H { s with heap:=h' }:=I.turned (t':=s.toks) (λb o hb e=>(sb.2 b hb).trans e) f0 f1 f3 f4 f5
  obtain⟨o,q1,q2,q3⟩:=id st'
  refine⟨_,rfl,rT (s:={ s with heap:=h' }) q1 q2 q3 (by decide) ⟨v,H,I1,hv,⟨rfl,λys hy=>?_⟩,by rw[el]at st';exact st',λb hb=>(hf b hb).1⟩⟩
  obtain⟨es',em',el',eg'⟩:=nq I hy
  obtain⟨rfl,ep⟩:=xK em em'
  have hj:i<ys.length:=by lia
  obtain⟨e',z1,_,z2⟩:=eg' i ys[i] (AA5 hj)
  rw[AAP hi',ee]at z1
  obtain rfl:=AAQ z1
  rw[e3]at z2
  exact⟨ys[i],AA5 hj,by rw[<-z2];exact hv⟩
 done:=by
  intro X hP hw hK hc i pins s σ H E I hf st hg
  subst hP hw hK
  obtain⟨⟨xs,hH,rfl⟩,rfl⟩:=hg
  obtain⟨es,em,el,eg⟩:=nq I hH
  obtain⟨f0,f1,f2,f3,f4,f5⟩:=hf it (by simp)
  rw[<-el]at em st
  exact qy (I.ok.hd hc) st em λh' he=>⟨rfl,I.turned (t':=s.toks) (λb o hb e=>he b o hb e) f0 f1 f3 f4 f5⟩
 self:=λA i s Q E st hQ=>wpAny_pyIter_valiter st hQ
section
variable{X:Cx}{tg o:Expr}{to:DTE}{apos cpos:Pos}
def qA(to:DTE):DTI:=λS M R=>to S M λd M1=>match d with
 | .ref n=>∃kvs,M1[n]?=some (.dkt kvs)/\(kvs.length<=sizeLine->R ⟨kvs.map (·.2),λM=>M[n]?=some (.dkt kvs)⟩ M1)
 | _=>False
theorem xN(ho:DE X o to)(hbase:attributeBase o "values" X.env (eval o X.env)=eval o X.env:=by rfl)(hline:(apos.endLine==cpos.line)=true:=by rfl):DI X tg (.Call (.Attribute o "values" apos) [] [] cpos) (qA to):=by
 intro pins s σ H R I h
 obtain⟨S,M,ρ,Q,sm,sr,q,k⟩:=h
 refine ADK hbase hline (thn (ho pins s σ H _ I ⟨S,M,ρ,_,sm,sr,q,λv H' w=>w⟩) ?_)
 rintro u s1 ⟨v,H1,I1,rv,d,M1,ρ1,sm1,g1,r1,q1⟩
 cases r1 with
 | @ref n a hn =>
  cases rv
  obtain⟨kvs,hM,q2⟩:=(show ∃kvs,M1[n]?=some (.dkt kvs)/\(kvs.length<=sizeLine->Q ⟨kvs.map (·.2),λM=>M[n]?=some (.dkt kvs)⟩ M1)from q1)
  obtain⟨xs,hH,r,dd,hsm,hz,hx,nd⟩:=jm I1 sm1 hn hM
  obtain⟨es,em,el,_⟩:=nq I1 hH
  refine⟨"dict","dict.values",ACZ,ADF,PySem.F.type_dict_values,dd.typeIs,λb z=>?_,ABg rfl (ADu (kr hsm em ?_))⟩
  ·cases z
   obtain⟨ob,_,_,h1,h2,_⟩:=dd
   exact⟨ob,h1,h2.2.1⟩
  have I2:Inv X pins σ H1 { s1 with heap:=s1.heap.push { cls:=.type "dict_values",data:=.fields #[.ref a] } }:=I1.kept (t':=s1.toks) λb o e=>AA4 _ e
  have em2:dj ({ s1 with heap:=s1.heap.push { cls:=.type "dict_values",data:=.fields #[.ref a] } }:Shared).heap a es xs.length:=em.to λo e=>AA4 _ e
  refine nj (d:=a) ⟨_,AAE _ rfl,rfl,rfl⟩ em2 ?_
  rw[el]
  have fin:∀s2:Shared,Inv X pins σ H1 s2->PIE X pins σ tg R (.ref s2.heap.objs.size) { s2 with heap:=s2.heap.push { cls:=.type "dict_valueiterator",data:=.fields #[.ref a,.int 0 0,.int xs.length 0,.int xs.length 0] } }:=λs2 I2=>by
   refine⟨s2.heap.objs.size,[s2.heap.objs.size],_,_,H1,rfl,I2.kept (t':=s2.toks) λb o e=>AA4 _ e,sL a _ xs.length,⟨_,AAE _ rfl,rfl,rfl⟩,λb hb=>?_,k _ H1 ⟨⟨kvs.map (·.2),λM=>M[n]?=some (.dkt kvs)⟩,M1,ρ1,sm1,g1,?_,q2 hz⟩⟩
   ·obtain rfl:b=s2.heap.objs.size:=by simpa using hb
    exact I2.fpOk (AA8 _) (I2.hok.fresh (AA8 _))
   ·refine⟨λi ρ' M' H' s' g ok hi=>?_,λi ρ' M' H' x H2 s' g ok hi y=>?_,λρ' M' H' s' g ok=>?_⟩
    ·obtain⟨_,_,_,ys,hy,ry⟩:=s'.obj _ _ _ (av g.pre hn) ok
     have ly:ys.length=kvs.length:=by have:=congrArg AC1 (oP ry);rwa [AA6,AA6]at this
     rw[AA6]at hi
     have hj:i<ys.length:=by lia
     obtain⟨p,_,_,_,_,v,_,rv⟩:=du ry (AA5 hj)
     exact⟨ys,ys[i],v,hy,by lia,AA5 hj,rv⟩
    ·obtain⟨rfl,hall⟩:=y
     obtain⟨_,_,_,ys,hy,ry⟩:=s'.obj _ _ _ (av g.pre hn) ok
     obtain⟨z,hz1,rz⟩:=hall ys hy
     obtain⟨p,hp,_,_,_,v,rp,rv⟩:=du ry hz1
     obtain rfl:x=v:=rz.inj rv
     exact⟨p.2,ρ',by rw[AAV,hp];rfl,s',.refl,rp⟩
    ·obtain⟨_,_,_,ys,hy,ry⟩:=s'.obj _ _ _ (av g.pre hn) ok
     have ly:ys.length=kvs.length:=by have:=congrArg AC1 (oP ry);rwa [AA6,AA6]at this
     exact⟨⟨ys,hy,by lia⟩,by rw[AA6];lia⟩
  exact fin _ I2
 | _=>exact q1.elim
end
section
variable{prog:Program}{w:World}{d r:Addr}{es:Array DictEntry}{ep:Nat}
theorem xJ:KdlSrc prog w "dict_values" r d es.size (λi v=>∃e,es[i]?=some e/\v=e.val) (λh=>h.IsValuesView r d/\dj h d es ep) where
 type:=λ_ hm=>hm.1.typeIs
 there:=λ_ hm=>⟨let ⟨_,ho,_⟩:=hm.1;AAH ho,hm.2.lt⟩
 keep:=λ_ _ hm hk=>⟨let ⟨o,ho,x⟩:=hm.1;⟨o,hk r (.inl rfl) o ho,x⟩,hm.2.to λo e=>hk d (.inr rfl) o e⟩
 notList:=by decide
 notTuple:=by decide
 hint:=λ_ _ _ _ hm hq=>kdl_hint_values hm.1.typeIs hq
 iter:=λ_ _ hh hm=>⟨_,_,(λ_ _ hq=>nj hm.1 hm.2 hq),rY hh _ (AAL hm.2.lt),⟨⟨_,AAE _ rfl,rfl,rfl⟩,hm.2.to λo e=>AA4 _ e⟩⟩
end
theorem sH{K:AA3}{ρ:List Addr}{H:Hp}{kvs:List (D×D)}{xs:List (D×Addr×Value)}(r:Paired (sw K ρ H) kvs xs):∃ws,Reps K ρ H (kvs.map (·.2)) ws/\au ws (xs.map λx=>x.2.2):=by
 induction r with
 | nil=>exact⟨[],.nil,.nil⟩
 | cons h t ih =>
  obtain⟨_,_,_,v,q1,q2⟩:=h
  obtain⟨ws,h1,h2⟩:=ih
  exact⟨v::ws,.cons q1 h1,.cons q2 h2⟩
section
variable{X:Cx}{o:Expr}{to:DTE}{apos cpos p pos:Pos}{k:Nat}
def fJ(to:DTE):DTE:=λS M Q=>to S M λd M1=>match d with
 | .ref n=>∃kvs,M1[n]?=some (.dkt kvs)/\Q (.ref M1.length) (M1++[.lst (kvs.map (·.2))])
 | _=>False
theorem sd(hc:X.calm=true)(ho:DE X o to)(hm:X.mg "list" = none)(hg:X.env.kindOf "list" = some .globalImplicit)
  (hs:starEach [AE3 (.Attribute o "values" apos) [] [] cpos] X.env=[(false,eval (AE3 (.Attribute o "values" apos) [] [] cpos) X.env)])
  (hbase:attributeBase o "values" X.env (eval o X.env)=eval o X.env) (hline:(apos.endLine==cpos.line)=true) :
  DE X (.Call (.Name "list" p) [.Call (.Attribute o "values" apos) [] [] cpos] [] pos) (fJ to):=by
 rintro pins s σ H R I ⟨S,M,ρ,Q,sm,sr,q,kk⟩
 refine ABU (eH I hg hm (by rfl) ?_)
 refine callWith_type1 ?_ (by rw[hs];rfl) rfl
 rw[hs]
 refine ADH (ADK hbase hline (thn (ho pins s σ H _ I ⟨S,M,ρ,_,sm,sr,q,λv H' w=>w⟩) ?_))
 rintro u s1 ⟨v,H1,I1,rv,x,M1,ρ1,sm1,g1,r1,q1⟩
 cases r1 with
 | @ref n a hn =>
  cases rv
  obtain⟨kvs,hM,q2⟩:=(show ∃kvs,M1[n]?=some (.dkt kvs)/\Q (.ref M1.length) (M1++[.lst (kvs.map (·.2))])from q1)
  obtain⟨xs,hH,r,dd,hsm,hz,hx,nd⟩:=jm I1 sm1 hn hM
  obtain⟨es,em,el,eg⟩:=nq I1 hH
  refine⟨"dict","dict.values",ACZ,ADF,PySem.F.type_dict_values,dd.typeIs,λb z=>?_,ABg rfl (ADu (kr hsm em ?_))⟩
  ·cases z
   obtain⟨ob,_,_,h1,h2,_⟩:=dd
   exact⟨ob,h1,h2.2.1⟩
  refine ADb ?_
  have I2:Inv X pins σ H1 { s1 with heap:=s1.heap.push { cls:=.type "dict_values",data:=.fields #[.ref a] } }:=I1.kept (t':=s1.toks) λb o e=>AA4 _ e
  have em2:dj ({ s1 with heap:=s1.heap.push { cls:=.type "dict_values",data:=.fields #[.ref a] } }:Shared).heap a es xs.length:=em.to λo e=>AA4 _ e
  have vw:({ s1 with heap:=s1.heap.push { cls:=.type "dict_values",data:=.fields #[.ref a] } }:Shared).heap.IsValuesView s1.heap.objs.size a:=⟨_,AAE _ rfl,rfl,rfl⟩
  generalize ({ s1 with heap:=s1.heap.push { cls:=.type "dict_values",data:=.fields #[.ref a] } }:Shared)=s2 at I2 em2 vw ⊢
  refine kdl_call (xJ (es:=es) (ep:=xs.length)) (I2.ok.hd hc) ⟨vw,em2⟩ (by lia) λh' tk acc' c' hk hD hacc=>?_
  obtain⟨ws,w1,w2⟩:=sH r
  have ea:acc'.toList=xs.map λx=>x.2.2:=by
   refine ADd λj=>?_
   rw[AAN,AAV]
   cases hj:xs[j]? with
   | none =>
    have:xs.length<=j:=by rw[List.getElem?_eq_none_iff]at hj;exact hj
    rw[AC4 (by have:=hacc.1;lia)];rfl
   | some x =>
    have hlt:=(AA7.mp hj).1
    have hlt':j<acc'.size:=by have:=hacc.1;lia
    obtain⟨e,g1,g2⟩:=hacc.2 j acc'[j] (AAP hlt')
    obtain⟨e',z1,_,z2⟩:=eg j x hj
    rw[g1]at z1
    obtain rfl:=AAQ z1
    rw[AAP hlt',g2,z2];rfl
  have hf:H1 s2.heap.objs.size=none:=I2.hok.fresh (AA8 _)
  refine⟨.ref s2.heap.objs.size,_,I2.laid (a:=s2.heap.objs.size) (o:=.lst ws) (t':=tk) hk (AA8 _) ⟨by rw[<-w1.length,AA6];exact hz,acc'.toList,c',by rw[ea];exact w2,by simpa using hD⟩,rfl,kk _ _ (VQ.laidL sm1 g1 w1 hf q2)⟩
 | _=>exact q1.elim
def BL:DR2:=λx y M Q=>match x,y with
 | .tup ks,.ref n=>∃kvs,M[n]?=some (.dkt kvs)/\bY 8 (.tup ks)=true/\Q (.bl (aY kvs (.tup ks)).isSome) M
 | _,_=>False
theorem Cv(hr:Room k X.A):OpD X (compareOp .In) BL:=by
 rintro pins s σ H vx vy v u R I rx ry ⟨x,y,M,ρ,Q,sm,r1,r2,q,kk⟩
 have un:=hr.un
 cases x with
 | tup ks =>
  cases y with
  | ref n =>
   obtain⟨kvs,hM,kd,q⟩:=q
   obtain⟨a,rfl,hn⟩:=Rep.inv_ref r2
   cases ry
   obtain⟨xs,hH,r,dd,hsm,hl,hx,_⟩:=jm I sm hn hM
   have kat:=fQ I 8 _ _ _ r1 rx kd
   obtain⟨b,_,rfl,_⟩:=id kat
   refine wpAny_in_heap (knd:=eD X.prog X.w) (k:=.tup ks) (by show X.A.units+1+8<cLine;lia) kat hsm dd ?_
   have e:(atKey xs (.tup ks)).isSome=(aY kvs (.tup ks)).isSome:=by
    rcases qi r (.tup ks)with⟨z1,z2⟩|⟨_,_,_,z1,z2,_⟩<;>rw[z1,z2]<;>rfl
   rw[e]
   exact fG (I.tok _) sm kk q
  | _=>exact q.elim
 | _=>exact q.elim
def qB:DTS:=λ_ _ _=>False
theorem xL{st:Stmt}:DS X st qB:=λpins s σ H E I ⟨S,M,ρ,F,sm,sr,q,kk⟩=>q.elim
end
section
variable{X:Cx}{o i e:Expr}{to ti te:DTE}{pos pos' p apos cpos:Pos}{k:Nat}{tg:Expr}{es:List Expr}{t:DTA}{st:Stmt}
theorem Dg:HE X (.Dict [] [] pos) si:=⟨Er⟩
theorem Dh(hr:Room k X.A)(ho:HE X o to)(hi:HE X i ti)(hs:NoSl i:=by intro _ _;kernel_rfl):HE X (.Subscript o i pos) (vH to ti):=⟨Es hr ho.ok hi.ok hs⟩
theorem uN(hr:Room k X.A)(ho:HE X o to)(hi:HE X i ti)(hv:HE X e te)(hs:swapsWith e (some (.Subscript o i pos')) pos.line X.env=pure false:=by kernel_rfl):HS X (.Assign [.Subscript o i pos'] e pos) (sf to ti te):=⟨Az hr ho.ok hi.ok hv.ok hs⟩
theorem Ad(hr:Room k X.A)(ho:HE X o to)(ha:HA X (e::es) t)(hbase:attributeBase o "get" X.env (eval o X.env)=eval o X.env:=by kernel_rfl)
  (hfew:((backTo cpos (starEach (e::es) X.env)).all (λx=>!x.1)&&(backToKw cpos (keywordEach [] X.env)).all (λx=>x.1.isSome)
   && decide ((e::es).length+([]:List Keyword).length+(if ([]:List Keyword).isEmpty then 0 else 1)<30))=true:=by kernel_rfl)
  (hline:(apos.endLine==cpos.line)=true:=by kernel_rfl) (hs:starEach (e::es) X.env=(false,eval e X.env)::starEach es X.env:=by kernel_rfl) (hplain:(backTo cpos (starEach es X.env)).any (·.1)=false:=by kernel_rfl) :
  HE X (.Call (.Attribute o "get" apos) (e::es) [] cpos) (dMt gy to t):=⟨d_mt ACn PySem.F.type_dict_get (wU hr) ho.ok ha.ok hbase hfew hline hs hplain⟩
theorem xn(ho:HE X o to)(hbase:attributeBase o "values" X.env (eval o X.env)=eval o X.env:=by kernel_rfl)(hline:(apos.endLine==cpos.line)=true:=by kernel_rfl):HI X tg (.Call (.Attribute o "values" apos) [] [] cpos) (qA to):=⟨xN ho.ok hbase hline⟩
theorem rQ(ho:HE X o to)(hm:X.mg "list" = none)(hc:X.calm=true:=by kernel_rfl)(hg:X.env.kindOf "list" = some .globalImplicit:=by kernel_rfl)
  (hs:starEach [AE3 (.Attribute o "values" apos) [] [] cpos] X.env=[(false,eval (AE3 (.Attribute o "values" apos) [] [] cpos) X.env)]:=by kernel_rfl)
  (hbase:attributeBase o "values" X.env (eval o X.env)=eval o X.env:=by kernel_rfl) (hline:(apos.endLine==cpos.line)=true:=by kernel_rfl) :
  HE X (.Call (.Name "list" p) [.Call (.Attribute o "values" apos) [] [] cpos] [] pos) (fJ to):=⟨sd hc ho.ok hm hg hs hbase hline⟩
theorem Dy(hr:Room k X.A):HOp X (compareOp .In) BL:=⟨Cv hr⟩
theorem qm:HS X st qB:=⟨xL⟩
end
theorem qp{K:AA3}{ρ:List Addr}{H:Hp}:∀{ns:List Int}{ws:List V}{its:List Value},Reps K ρ H (ns.map D.int) ws->au ws its->IntsAre its ns
 | [],_,_,r,v=>by cases r;cases v;exact .nil
 | n::ns,_,_,r,v=>by
  rw[AAf]at r
  first | have hzz:=Reps.inv_cons r | have hzz:=au.inv_cons r
  clear r
  obtain⟨_,_,rfl,h,t⟩:=hzz
  cases h
  cases v with
  | cons q q' =>
   obtain⟨tk,rfl⟩:=q
   exact .cons _ _ (qp t q')
section
variable{X:Cx}{k:Nat}
def tX:DRA:=λds M Q=>match ds with
 | [.ref n]=>∃ns:List Int,am M n (ns.map D.int)/\ns≠[]/\∀m,m∈ns->(∀a∈ns,a<=m)->Q (.int m) M
 | _=>False
theorem AK(hc:X.calm=true):nM X (.builtin "max") tX:=by
 rintro pins s σ H vs us R I rv ⟨ds,M,ρ,Q,sm,rs,q,kk⟩
 unfold tX at q
 split at q
 ·obtain⟨ns,hL,hne0,q⟩:=q
  first | have hzz:=Reps.inv_cons rs | have hzz:=au.inv_cons rs
  clear rs
  obtain⟨_,_,rfl,r1,rs⟩:=hzz
  cases rs
  obtain⟨u,rfl,e1⟩:=au.one rv
  obtain⟨a,rfl,e⟩:=Rep.inv_ref r1
  cases e1
  obtain⟨ws,hq,r⟩:=am.seq sm hL e
  obtain⟨its,rr,pl,hz⟩:=I.list hq
  obtain⟨m,hn,hm⟩:=I.loc
  obtain⟨oa,nn,hoa,hca,hdict,hdata⟩:=id pl
  have hne:a≠X.env.locals:=λz=>by
   subst z
   obtain⟨o,es,ep,e,hd,_⟩:=hn
   rw[hoa]at e
   cases e
   rw[hd]at hdata
   cases hdata
  have mem:∀b o,b≠X.env.locals->s.heap.get? b=some o->(b,o)∈[]++(a,oa)::Att.ledger s.heap X.env.locals a:=λb o h1 h2=>by
   rw[AB6,AAK,Att.mem_ledger]
   by_cases hal:b=a
   ·subst hal
    rw[hoa]at h2;cases h2
    exact .inl rfl
   ·exact .inr ⟨h1,hal,h2⟩
  refine max_list_N (I.ok.hd hc) (Att.fr_all hn) (Att.news_ledger hne hoa) pl.isList (qp r rr) (List.length_pos_iff.mpr hne0) λh' mm t tk F' N' h1 h2=>?_
  have kp:∀b u,b≠X.env.locals->s.heap.get? b=some u->h'.get? b=some u:=λb u hb e=>(N' (b,u) (mem b u hb e)).1
  exact⟨.int mm,H,I.keptF (t':=tk) kp hn F'.ns,⟨t,rfl⟩,kk _ _ ⟨.int mm,M,ρ,sm,.refl,.int mm,q mm h1 h2⟩⟩
 ·exact q.elim
theorem EA:bootBuiltins "max" = some (.builtin "max"):=by decide +kernel
theorem Ao(hc:X.calm=true:=by kernel_rfl):HC X (.builtin "max") tX:=⟨AK hc⟩
end
end L2
namespace L2
open PySem PySem.Spec PyProof.Rows DL PySem.W PySem.Calls PyProof.V
structure PairsAt(es:Array DictEntry)(lo:Addr)(h:Heap)(as:List Addr):Prop where
 nd:as.Nodup
 above:∀a∈as,lo<a
 tup:∀(j:Nat) (a:Addr),as[j]?=some a->∃e,es[j]?=some e/\h.get? a=some { cls:=.type "tuple",data:=.seq #[e.key,e.val] }
end L2
namespace L2
open PySem PySem.Spec PyProof.Rows DL PySem.W
section
variable{X:Cx}
def AW:DR2:=λx y M Q=>match x,y with
 | .int i,.int j=>CPow i j/\Q (.int (i*2 ^ j.toNat)) M
 | _,_=>False
theorem Cs:OpD X (binaryOp .LShift) AW:=by
 refine OpR.imp Ci ?_
 rintro vx vy H R ⟨x,y,M,ρ,Q,sm,r1,r2,q,k⟩
 unfold AW at q
 split at q
 ·cases r1
  cases r2
  exact⟨_,_,rfl,rfl,q.1,k _ H (VQ.now sm (.int _) q.2)⟩
 ·exact q.elim
theorem Du:HOp X (binaryOp .LShift) AW:=⟨Cs⟩
theorem rR(hr:Room k X.A):HC X (.builtin "sorted") iG:=⟨vN hr⟩
end
noncomputable def dictOf(ps:List (D×D)):List (D×D):=ps.foldl (λkvs p=>eK kvs p.1 p.2) []
theorem oV:dictOf (ps++[p])=eK (dictOf ps) p.1 p.2:=by
 unfold dictOf
 rw[List.foldl_append];rfl
section
variable{X:Cx}{pins:List (Addr×Obj)}{σ:St}{H:Hp}{ρ:List Addr}{M:Mem}{A:Around}{E:Value->Shared->Prop}{s:Shared}
structure DD(X:Cx)(ρ:List Addr)(H:Hp)(h:Heap)(a:Addr)(kvs:List (D×D))(xs:List (D×Addr×Value)):Prop where
 dx:dX a xs X.prog X.w h
 kv:Paired (sw X.K ρ H) kvs xs
 nd:(kvs.map (·.1)).Nodup
end
noncomputable abbrev EE(M:Mem)(R:DK):DEnds:=⟨λ_ M'=>bu M R .non M',bu M R,λ_ _=>False,λ_ _=>False⟩
noncomputable def dst(n:Nat)(ds:List D):SD:=ds.map some++ADi (n-ds.length) none
abbrev WpT(Pr:DSp)(n:Nat)(t:DTS):Prop:=∀ds M R,Pr ds M R->t (EE M R) (dst n ds) M
abbrev dY(Pr:DSp)(p:List Str):Prop:=∀ds M R,Pr ds M R->ds.length=p.length
abbrev DerT(P:Program)(w:World)(K:AA3)(mg:Str->Option Value)(base:Heap)(k:Nat)(x:Str)(N:List Str)(st:Stmt)(t:DTS):Prop :=
 ∀(f:Addr) (cdv:Value) (A:Around) (outer:List Env) (s:Shared) (H:Hp) (E:XK),Room k (A.deeper (AE5 x (ak st) s.heap.objs.size f cdv))->HB (jq CX0 P w K mg base N x (ak st) f cdv A outer s H E).nox (bc st) t
def qz(c:DTT)(tb:DTS):DTS:=λE S M=>∃W:Nat->SD->Mem->Prop,(∃m,W m S M)/\∀m S M,W m S M ->
 c S M λb M1=>if b=true then tb ⟨λS' M'=>∃m',m' < m/\W m' S' M',E.rt,E.nx,λS' M'=>∃m',m' < m/\W m' S' M'⟩ S M1 else E.nx S M1
theorem rF{K:AA3}{c:DTT}{tb:DTS}(E:Ends)(σ:St)(H:Hp)(h:lowS K (qz c tb) E σ H):yf (lowT K c) (lowS K tb) E σ H:=by
 obtain⟨S,M,ρ,F,s,sr,⟨W,⟨m0,w0⟩,turn⟩,k⟩:=h
 refine⟨λm τ H2=>∃S2 M2 ρ2,Sim K ρ2 M2 H2/\Grow K ρ H ρ2 H2/\SRep K ρ2 H2 S2 τ/\W m S2 M2,⟨m0,S,M,ρ,s,.refl,sr,w0⟩,?_⟩
 rintro m τ H2 ⟨S2,M2,ρ2,s2,g2,sr2,w2⟩
 refine⟨S2,M2,ρ2,_,s2,sr2,turn m S2 M2 w2,?_⟩
 rintro b H3 ⟨M3,ρ3,s3,g3,q3⟩
 have g13:=g2.trans g3
 cases b with
 | true =>
  have again:∀τ5 H5,SQ K ρ3 H3 (λS' M'=>∃m',m' < m/\W m' S' M') τ5 H5->∃m',m' < m/\∃S2 M2 ρ2,Sim K ρ2 M2 H5/\Grow K ρ H ρ2 H5/\SRep K ρ2 H5 S2 τ5/\W m' S2 M2:=λτ5 H5 ⟨S5,M5,ρ5,s5,g5,sr5,m',lt,w5⟩=>⟨m',lt,S5,M5,ρ5,s5,g13.trans g5,sr5,w5⟩
  refine cx ⟨_,λτ' H' z=>z,S2,M3,ρ3,_,s3,sr2.grow g3,(show tb _ S2 M3 from q3),?_⟩
  exact⟨again,λv H5 z=>k.rt v H5 (VQ.trans g13 z),λτ5 H5 z=>k.nx τ5 H5 (SQ.trans g13 z),again⟩
 | false=>exact bK (k.nx τ H3 ⟨S2,M3,ρ3,s3,g13,sr2.grow g3,(show F.nx S2 M3 from q3)⟩)
section
variable{X:Cx}{c:Expr}{body:List Stmt}{tc:DTT}{tb:DTS}{pos:Pos}
theorem qj(hc:HT X c tc)(hb:HB X body tb)(hp:PassesOwn (model X.prog X.w) X.A X.env X.xe:=by exact PassesOwn.never):HS X (.While c body [] pos) (qz tc tb):=⟨PS.imp (wD hp hc.ok hb.ok) rF⟩
end
inductive TopB(mg:Str->Option Value):List Str->List (Str×Int)->Prop
 | nil:TopB mg [] []
 | b {x:Str}{B:List Str}{C:List (Str×Int)} (h:mg x=none) (t:TopB mg B C):TopB mg (x::B) C
 | c {x:Str}{i:Int}{C:List (Str×Int)} (h:∃t,mg x=some (.int i t)) (t:TopB mg [] C):TopB mg [] ((x,i)::C)
theorem TopB.no(h:TopB mg B C)(c:B.contains x=true):mg x=none:=by
 induction h with
 | nil=>simp at c
 | b h _ ih =>
  simp only[List.contains_cons,ADx,beq_iff_eq]at c
  rcases c with rfl | c
  ·exact h
  ·exact ih c
 | c _ _ _=>simp at c
noncomputable def nodB:List Str->Bool
 | []=>true
 | x::xs=>!xs.contains x&&nodB xs
theorem Cy:∀{l:List Str},nodB l=true->l.Nodup
 | [],_=>ADk
 | x::xs,h=>by
  simp only[nodB,AAO,Bool.not_eq_true',List.contains_eq_mem,decide_eq_false_iff_not]at h
  exact ABV.mpr ⟨h.1,Cy h.2⟩
noncomputable def tgN:Expr->List Str
 | .Name x _=>[x]
 | .Tuple es _ _=>es.filterMap fun | .Name x _=>some x | _=>none
 | _=>[]
noncomputable abbrev lcN(N:List Str)(js:List Nat)(tg:Expr):List Str:=tgN tg++js.map λj=>N.getD j ""
section
variable{X:Cx}{tg iter elt:Expr}{ifs:List Expr}{scope:Scope}{nt i:Nat}{js:List Nat}{di:DTI}{g:DTG}{tt:DTT}{te:DTE}{pos pos' pos2:Pos}{x:Str}
theorem k_lcN(hi:HI X tg iter di)(hg:∀cl s0 H0 ex,HG (blk X (lcN X.N js tg) scope cl s0 H0 ex) tg g)(ht:∀cl s0 H0 ex,HTs (blk X (lcN X.N js tg) scope cl s0 H0 ex) ifs tt)(he:∀cl s0 H0 ex,HE (blk X (lcN X.N js tg) scope cl s0 H0 ex) elt te)
  (B:kz X.env.scope.names X.N (lcN X.N js tg) nt js scope=true:=by kernel_rfl) (hc:X.calm=true:=by kernel_rfl) (hs:∀x,foldedSetIterable iter X.env x=pure x:=by intro _;kernel_rfl):HE X (.ListComp elt [⟨tg,iter,ifs,0⟩] scope pos) (dLC nt js di g tt te):=k_lc hi hg ht he B hc hs
theorem mY(hN:X.N.Nodup)(hi:HI X tg iter di)(hg:∀cl s0 H0 ex,HG (blk X (lcN X.N js tg) scope cl s0 H0 ex) tg g)(ht:∀cl s0 H0 ex,HTs (blk X (lcN X.N js tg) scope cl s0 H0 ex) ifs tt)(he:∀cl s0 H0 ex,HE (blk X (lcN X.N js tg) scope cl s0 H0 ex) elt te)
  (B:kz X.env.scope.names X.N (lcN X.N js tg) nt js scope=true:=by kernel_rfl) (hc:X.calm=true:=by kernel_rfl) (hs:∀x,foldedSetIterable iter X.env x=pure x:=by intro _;kernel_rfl) (hsw:swapsWith (.ListComp elt [⟨tg,iter,ifs,0⟩] scope pos) (some (.Name x pos')) pos2.line X.env=pure true:=by kernel_rfl)
  (hix:X.N[i]?=some x:=by kernel_rfl) (hx:AY X.env.scope x=true:=by kernel_rfl) (hf:X.fn x=true:=by kernel_rfl):HS X (.Assign [.Name x pos'] (.ListComp elt [⟨tg,iter,ifs,0⟩] scope pos) pos2) (jn nt js di g tt te i):=xi hN hi hg ht he B hc hs hsw hix hx hf
theorem gA(h:HA X es t):HA X es t:=h
theorem gE(h:HE X e te):HE X e te:=h
theorem gCall(h:HE X (.Call a b c pos) te):HE X (.Call a b c pos) te:=h
theorem gIx(h:HE X (.Subscript a b pos) te):HE X (.Subscript a b pos) te:=h
theorem DM(h:HE X (.Constant a b pos) te):HE X (.Constant a b pos) te:=h
theorem gT(h:HT X e tt):HT X e tt:=h
theorem gS{st:Stmt}{t:DTS}(h:HS X st t):HS X st t:=h
theorem gOp(h:HOp X f r):HOp X f r:=h
theorem gC(h:HC X f r):HC X f r:=h
theorem vh{b:List Stmt}{st:Stmt}{sts:List Stmt}{t:DTS}(h:b=st::sts)(q:HB X (st::sts) t):HB X b t:=h ▸ q
end
section
variable{P:Program}{w:World}{K:AA3}{mg:Str->Option Value}{base:Heap}{x:Str}{st:Stmt}{N ps:List Str}{k:Nat}{Pr:DSp}{B:List Str}{C:List (Str×Int)}{t:DTS}
theorem Cal.byD(T:TopB mg B C)(F:cU K mg x st ps)(Sc:FnScope N ps (ak st))(len:dY Pr ps)(der:TopB mg B C->N.Nodup->DerT P w K mg base k x N st t)(wp:∀ds M R,Pr ds M R->t (EE M R) (bj N ds) M):Cal P w K mg base (k+1) x ps Pr :=
 Cal.byH F Sc len (der T Sc.nd) wp
theorem xE(T:TopB mg B C)(F:Fun K x x st f fd)(Sc:FnScope N ps (ak st))(len:dY Pr ps)(der:TopB mg B C->N.Nodup->DerT P w K mg base k x N st t)(wp:∀ds M R,Pr ds M R->t (EE M R) (bj N ds) M):FnOk P w K mg base CX0 (k+1) f fd ps (spL K Pr) :=
 xD F Sc len (der T Sc.nd) wp
end
section
variable{prog:Program}{w:World}{A:Around}{E:Value->Shared->Prop}{s:Shared}
theorem oX(ho:s.heap.get? l=some o)(hc:o.cls=.type "list"\/o.cls=.type "tuple")(hd:o.data=.seq vs.toArray n)
  (h:Q vs { s with heap:=(s.heap.push (seqObj "list" #[] 0)).update s.heap.objs.size (AB2 (· ++ vs.toArray)) }) (hsz:vs.length<=sizeLine):wpAny (model prog w) A (collect (.ref l)) Q E s:=by
 rcases hc with hc | hc
 ·exact collect_list ⟨o,ho,hc,n,hd⟩ h hsz
 unfold collect
 refine AA0 (wpAny_runValue (ABn entry_proto_collect' ?_))
 show wpAny _ _ (do again (.builtin "list.__iadd__" ⟨[<-newList [],.ref l],[]⟩)) _ _ s
 refine AA0 (ACt (AA2 ⟨Code.quiet_builtin _ (by decide +kernel),ABn entry_list_iadd' ?_⟩) (AAT _))
 show wpAny _ _ (AC3 (.ref s.heap.objs.size) (.ref l) (.ref s.heap.objs.size)) _ _ { s with heap:=s.heap.push (seqObj "list" #[] 0) }
 unfold AC3
 have ho':(s.heap.push (seqObj "list" #[] 0)).get? l=some o:=AA4 _ ho
 refine AA0 (ADC (T:="tuple") ⟨o,ho',hc⟩ ?_)
 have ht:(ADA "tuple" == ADA "tuple")=true:=by rfl
 rw[if_pos (by rw[ht];simp)]
 refine AA0 (ADm ho' hd ?_)
 refine AA0 (ADm (xs:=#[]) (n:=0) (AAE _ rfl) rfl ?_)
 rw[if_neg (by simp)]
 refine AA0 (ACu (xs:=#[]) (n:=0) (AAE _ rfl) rfl ?_ (AAT _) (by show (#[]++vs.toArray).size<=sizeLine+1;simp only[Array.size_append,AAC,AAj];lia))
 refine AA2 ?_
 show wpAny (model prog w) A (do
   let o <-load s.heap.objs.size
   match o.data with
   | .seq xs _=>pure xs.toList
   | _=>unsupported "internal:collect") Q E { s with heap:=(s.heap.push (seqObj "list" #[] 0)).update s.heap.objs.size (AB2 (· ++ vs.toArray)) }
 refine AA0 (wpAny_load (ACQ (AAE _ rfl) _) ?_)
 show wpAny _ _ (pure ((#[]:Array Value)++vs.toArray).toList) Q E _
 rw[show ((#[]:Array Value)++vs.toArray).toList=vs by simp]
 exact AA2 h
variable{h₀:Heap}{L kS a:Addr}{m:Str->Option Value}{vs:List Value}
theorem yW(hl:ks.length=vs.length)(h2:vs.length<2)(h:KatFin h₀ L m kS a ks e e1 vs (λs3=>P (.done (.ret .none)) s3) s) :
  wpAny (model prog w) A (ksk_end a false vs.toArray e1 (.ref kS) (ABd ks)) P E s:=by
 have hn2:vs.toArray.size<2:=by rw[AAC];exact h2
 unfold ksk_end
 dsimp only
 simp only[AAD,if_false]
 rw[if_pos hn2,if_pos hn2]
 refine AA0 (AA2 ?_)
 rw[StateT.run_pure]
 refine AA0 (AA2 ?_)
 dsimp only
 refine kat_tail (out:=vs) ?_ (by lia) (by lia) rfl h
 show ((ABd ks).zip vs.toArray).map (·.2)=vs.toArray
 match ks,vs,hl,h2 with
 | [],[],_,_=>simp
 | [k],[v],_,_=>simp
 | [],_::_,hl,_=>simp at hl
 | _::_,[],hl,_=>simp at hl
 | _::_::_,[_],hl,_=>simp at hl
 | _,_::_::_,_,h2=>simp at h2;lia
theorem yU{f:Value}{e1:Nat}{P:PySem.Fin->Shared->Prop}{Fin:List Value->Nat->Shared->Prop}(hk:s.heap.get? kS=some (seqObj "list" #[] 0))(h64:vs.length<64)
  (hend:∀ks e s',ks.length=vs.length->Fin ks e s'->wpAny (model prog w) A (ksk_end a false vs.toArray e1 (.ref kS) (ABd ks)) P E s') (h:KatKeys prog w A h₀ L m kS f Fin vs [] 0 s) :
  wpAny (model prog w) A (ksk_rest a f false vs.toArray e1 (.ref kS)) P E s:=by
 unfold ksk_rest
 refine AA0 (ABr ?_)
 first
  | rw[List.forIn_toArray]
  | (rw[<-ABZ];simp only[List.toList_toArray])
  | rw[<-ABZ]
 refine AA0 (AAo (kat_fold h64 (λx ks e s' C hz hx=>?_) vs [] 0 s (by simp) hk h) (λ_ s' hd=>?_) λ_ _ x=>x)
 ·refine AA0 (ACE (AAo hx (λk s'' hk=>?_) λ_ _ hF=>hF.elim))
  obtain⟨news',g,F',N',U,c⟩:=hk
  obtain⟨pre,post,e0,hg,x1,x2⟩:=U.split
  rw[e0]at N'
  have nk:=N' (kS,seqObj "list" (ABd ks) e) (AAF _ (.head _))
  have s1:=AAy s''.heap kS (AB2 (·.push k))
  have ea:(ABd ks).push k=ABd (ks++[k]):=by simp
  obtain⟨c2,hc2⟩:∃c2,(s''.heap.update kS (AB2 (·.push k))).get? kS=some (seqObj "list" (ABd (ks++[k])) c2):=⟨_,by rw[<-ea];exact ACQ nk.1 (·.push k)⟩
  try dsimp only
  refine AA0 (ACu nk.1 rfl ?_ (by rw[AAC,ABt];lia) (AB3 (Nat.le_of_eq (Array.size_push ..)) (by rw[AAC,ABt];lia)))
  exact AA2 ⟨rfl,k,c2,hc2,c _ c2 (kas_fr F' s1 nk.2.1 nk.2.2) (by rw[hg];exact news_set N' x1 x2 s1 hc2)⟩
 ·obtain⟨ks,e,hk',hl,fin⟩:=hd
  try dsimp only
  exact AA0 (ADm hk' rfl (hend ks e s' hl fin))
end
section
variable{X:Cx}{pins:List (Addr×Obj)}{σ:St}{H:Hp}{s:Shared}{a:Addr}
structure Own(X:Cx)(pins:List (Addr×Obj))(H:Hp)(a:Addr):Prop where
 un:H a=none
 ne:a≠X.env.locals
 fs:a∉X.fs
 s0:X.s₀.heap.objs.size<=a
 cl:∀x c,X.env.cells.lookup x=some c->c≠a
 pn:∀p∈X.pn++pins,p.1≠a
theorem Inv.own(I:Inv X pins σ H s)(h:s.heap.objs.size<=a):Own X pins H a :=
 ⟨I.hok.fresh h,λe=>by rw[e]at h;exact absurd (AAR I.lt h) (AAk _),I.nofs h,AB3 I.sz h,λx c e z=>by
  obtain⟨v,o,ho,_⟩:=I.cell x c e
  rw[z]at ho
  exact absurd (AAR (AAH ho) h) (AAk _),λp hp e=>by
  have:=AAH (I.pin p hp).1
  rw[e]at this
  exact absurd (AAR this h) (AAk _)⟩
theorem Inv.turnF(I:Inv X pins σ H s)(w:Own X pins H a)(k:∀b u,b≠X.env.locals->b≠a->s.heap.get? b=some u->h'.get? b=some u)(hn:s.heap.Ns X.env.locals m)(hn':h'.Ns X.env.locals m):Inv X pins σ H { s with heap:=h' }:=by
 have na:∀b u,H b=some u->b≠a:=λb u e=>ae e w.un
 refine I.step (g':=s.gens) (d':=s.drawn) (t':=s.toks) (ch:=[a]) (λb hb=>?_) (λb u hL _ hc e _=>k b u hL (by simpa using hc) e) (λb u hL _ hc e _=>⟨u.slots,k b u hL (by simpa using hc) e⟩) (λb u _ e n=>n) (λb u hc e=>?_)
  (λb xs q=>q) (λb u xs q=>q) (λb ps q=>⟨#[],by rw[q];simp⟩) (λm' hm=>?_) (λb u q=>?_) I.bare
 ·obtain rfl:b=a:=by simpa using hb
  exact⟨.inr w.s0,w.ne,w.cl,w.pn⟩
 ·by_cases hb:b=X.env.locals
  ·subst hb
   obtain⟨o',_,_,ho,_⟩:=hn'
   exact⟨o',ho⟩
  ·exact⟨u,k b u hb (by simpa using hc) e⟩
 ·have:m=m':=funext λx=>hn.agree hm x
  subst this
  exact hn'
 ·refine(I.hok b u q).stay (λc v hc r=>k c v ?_ ?_ r) (λc z=>z) λc xs z=>z
  ·rcases hc with rfl | hc
   ·exact ae q I.free
   ·exact ae hc I.free
  ·rcases hc with rfl | hc
   ·exact na _ _ q
   ·exact na _ _ hc
theorem Inv.adoptF(I:Inv X pins σ H s)(w:Own X pins H a)(k:∀b u,b≠X.env.locals->b≠a->s.heap.get? b=some u->h'.get? b=some u)(hn:s.heap.Ns X.env.locals m)(hn':h'.Ns X.env.locals m)
  (new:bJ X.prog X.w (upd H a o) h' a o):Inv X pins σ (upd H a o) { s with heap:=h' }:=by
 have fa:=w.un
 refine I.step (g':=s.gens) (d':=s.drawn) (t':=s.toks) (ch:=[a]) (λb hb=>?_) (λb u hL _ hc e _=>k b u hL (by simpa using hc) e) (λb u hL _ hc e _=>⟨u.slots,k b u hL (by simpa using hc) e⟩) (λb u hc e n=>by rw[ag (by simpa using hc)];exact n) (λb u hc e=>?_)
  (λb xs q=>by rw[ag (ae q fa)];exact q) (λb u xs q=>by rw[ag (ae q fa)];exact q) (λb ps q=>⟨#[],by rw[ag (ae q fa),q];simp⟩) (λm' hm=>?_) (λb u q=>?_) I.bare
 ·obtain rfl:b=a:=by simpa using hb
  exact⟨.inr w.s0,w.ne,w.cl,w.pn⟩
 ·by_cases hb:b=X.env.locals
  ·subst hb
   obtain⟨o',_,_,ho,_⟩:=hn'
   exact⟨o',ho⟩
  ·exact⟨u,k b u hb (by simpa using hc) e⟩
 ·have:m=m':=funext λx=>hn.agree hm x
  subst this
  exact hn'
 ·by_cases hb:b=a
  ·subst hb
   rw[ay]at q
   cases q
   exact new
  ·rw[ag hb]at q
   refine(I.hok b u q).stay (λc v hc r=>k c v ?_ ?_ r) (λc z=>by rw[ag (ae z fa)];exact z) λc xs z=>by rw[ag (ae z fa)];exact z
   ·rcases hc with rfl | hc
    ·exact ae q I.free
    ·exact ae hc I.free
   ·rcases hc with rfl | hc
    ·exact ae q fa
    ·exact ae hc fa
end
section
variable{X:Cx}{pins:List (Addr×Obj)}{σ:St}{ρ:List Addr}{M:Mem}
structure KySt(X:Cx)(pins:List (Addr×Obj))(σ:St)(ρ:List Addr)(M:Mem)(m:Str->Option Value)(kS aD:Addr)(e1:Nat)(H0 H:Hp)(s:Shared)(ks:List Value)(e:Nat):Prop where
 inv:Inv X pins σ H s
 ns:s.heap.Ns X.env.locals m
 sm:Sim X.K ρ M H
 gr:Grow X.K ρ H0 ρ H
 hk:s.heap.get? kS=some (seqObj "list" (ABd ks) e)
 hd:s.heap.get? aD=some (seqObj "list" #[] e1)
 ok:Own X pins H kS
 od:Own X pins H aD
 ne:aD≠kS
theorem Aq(n:h.Ns L m):Fr (Att.noObjs h0) L h m :=
 ⟨n,λb o e=>(by rw[Att.noObjs_get]at e;cases e),AAT _⟩
theorem oy(hne:d≠L)(ho:h.get? d=some od):News (Att.noObjs h0) L h ((d,od)::Att.ledger h L d):=by
 rintro⟨a,o⟩ hp
 rcases AAK.mp hp with e | hp
 ·cases e
  exact⟨ho,hne,Att.noObjs_get _ _⟩
 ·obtain⟨n1,n2,e⟩:=Att.mem_ledger.mp hp
  exact⟨e,n1,Att.noObjs_get _ _⟩
theorem iY(N:News (Att.noObjs h0) L h' ((d,o)::Att.ledger h L d)):∀b u,b≠L->b≠d->h.get? b=some u->h'.get? b=some u :=
 λb u h1 h2 e=>(N (b,u) (AA9 _ (Att.mem_ledger.mpr ⟨h1,h2,e⟩))).1
abbrev KeyG(X:Cx)(pins:List (Addr×Obj))(σ:St)(ρ:List Addr)(M:Mem)(f:Addr)(key:D->D)(xs:List D):Prop:=∀(s:Shared) (H:Hp) (d:D) (v:V) (u:Value),d∈xs->Inv X pins σ H s->Sim X.K ρ M H->Rep X.K ρ H d v->aC v u ->
 codeAny (model X.prog X.w) X.A.in1.in1 (.call (.ref f) ⟨[u],[]⟩) (CR CX0 X.stack X.prog X.w H s (λv' H'=>VQ X.K ρ H (λx M'=>x=key d/\M'=M) v' H') E0) s
theorem yV{f:Addr}{key:D->D}{xs:List D}(G:KeyG X pins σ ρ M f key xs){h0:Heap}{m:Str->Option Value}{aD kS:Addr}{e1:Nat}{H0:Hp}
  {Fin:List Value->Nat->Shared->Prop}{keys:List D} (fin:∀H s kvs ks e,KySt X pins σ ρ M m kS aD e1 H0 H s ks e->Reps X.K ρ H keys kvs->au kvs ks->Fin ks e s) :
  ∀(r:List D) (ws:List V) (its:List Value) (done:List D) (kvs:List V) (ks:List Value) (e:Nat) (H:Hp) (s:Shared),KySt X pins σ ρ M m kS aD e1 H0 H s ks e->Reps X.K ρ H r ws->au ws its->Reps X.K ρ H done kvs->au kvs ks ->
   done++r.map key=keys->(∀d∈r,d∈xs)->KatKeys X.prog X.w X.A.in1.in1 (Att.noObjs h0) X.env.locals m kS (.ref f) Fin its ks e s:=by
 intro r
 induction r with
 | nil =>
  intro ws its done kvs ks e H s g r v rd vd hk _
  obtain rfl:=Reps.inv_nil r
  obtain rfl:=au.inv_nil v
  refine KatKeys.nil (fin H s kvs ks e g ?_ vd)
  rw[<-hk,List.map_nil,ABC]
  exact rd
 | cons d r ih =>
  intro ws its done kvs ks e H s g rr v rd vd hk hP
  obtain⟨vd1,ws,rfl,r1,rr⟩:=Reps.inv_cons rr
  obtain⟨u,its,rfl,ru,v⟩:=au.inv_cons v
  have I:=g.inv
  refine KatKeys.cons (wpAny_call (ACU (G s H d vd1 u (hP d AAG) I g.sm r1 ru) λres s' hq=>?_))
  cases res with
  | error e=>exact hq.elim
  | ok fl =>
   cases fl with
   | next=>exact hq.elim
   | brk=>exact hq.elim
   | cont=>exact hq.elim
   | ret u' =>
    obtain⟨v',H',os,bare,un,hok,rv,q⟩:=hq
    obtain⟨hh,gg,dr,tk,os'⟩:=s'
    obtain rfl:os'=s.os:=os
    obtain⟨_,_,ρ',s1,g1,r1',rfl,rfl⟩:=q
    have eρ:ρ'=ρ:=by
     obtain⟨t,rfl⟩:=g1.pre
     have h1:=s1.len
     have h2:=g.sm.len
     rw[AAA]at h1
     rw[List.eq_nil_of_length_eq_zero (show t.length=0 by lia),ABC]
    subst eρ
    have J:Inv X ((kS,seqObj "list" (ABd ks) e)::(aD,seqObj "list" #[] e1)::pins) σ H s:=I.pins_of λp hp=>by
     rcases AAK.mp hp with rfl | hp
     ·exact⟨g.hk,g.ok.un,g.ok.ne,g.ok.fs,λ_ z=>nomatch z⟩
     ·rcases AAK.mp hp with rfl | hp
      ·exact⟨g.hd,g.od.un,g.od.ne,g.od.fs,λ_ z=>nomatch z⟩
      ·exact I.pin p (AAF _ hp)
    have J':=J.call (h':=hh) (g':=gg) (d':=dr) (t':=tk) (ch:=[]) un hok bare (λb z=>absurd z (by simp))
    have pk:=J'.pin (kS,_) (AAF _ AAG)
    have pd:=J'.pin (aD,_) (AAF _ (AA9 _ AAG))
    have I':Inv X pins σ H' ⟨hh,gg,dr,tk,s.os⟩:=J'.pins_of λp hp=>J'.pin p (AAF _ (AA9 _ (AA9 _ hp)))
    have ns':hh.Ns X.env.locals m:=by
     obtain⟨o,es,ep,ho,ax⟩:=g.ns
     obtain⟨sl,hL⟩:=un.any ho I.free (by simp)
     exact⟨_,es,ep,hL,ax⟩
    have ok':Own X pins H' kS:=⟨pk.2.1,g.ok.ne,g.ok.fs,g.ok.s0,g.ok.cl,g.ok.pn⟩
    have od':Own X pins H' aD:=⟨pd.2.1,g.od.ne,g.od.fs,g.od.s0,g.od.cl,g.od.pn⟩
    refine KatBack.intro (s:=⟨hh,gg,dr,tk,s.os⟩) (Aq ns') (oy ok'.ne pk.1) (UpdF.head λp hp=>(Att.mem_ledger.mp hp).2.1) λh2 c F2 N2=>?_
    have kp:=iY N2
    refine ih ws its (done++[key d]) (kvs++[v']) (ks++[u']) c H' _ ⟨I'.turnF ok' kp ns' F2.ns,F2.ns,s1,⟨g.gr.pre,λx xs h=>g1.tup x xs (g.gr.tup x xs h)⟩,(N2 _ AAG).1,kp aD _ od'.ne g.ne pd.1,ok',od',g.ne⟩ (rr.grow g1) v
     ((rd.grow g1).append (.cons r1' .nil)) (vd.append (.cons rv .nil)) (by rw[<-hk,AAf,AAs];rfl) λx hx=>hP x (AA9 _ hx)
theorem qa{k n:Nat}{f l:Addr}{o:Obj}{s:Shared}{H:Hp}{xs:List D}{ws:List V}{its:List Value}{key:D->D}{R:VK}(G:KeyG X pins σ ρ M f key xs)(hr:Room (k+2) X.A)
  (I:Inv X pins σ H s) (sm:Sim X.K ρ M H) (r:Reps X.K ρ H xs ws) (rr:au ws its) (ho:s.heap.get? l=some o) (hc:o.cls=.type "list"\/o.cls=.type "tuple") (hd:o.data=.seq its.toArray n) (h64:its.length<64) (so:SrtG M (xs.map key)) (kk:∀v H',(∀Q:DK,(∀ys,ys.Perm xs->ys.Pairwise (λa b=>ltD M eqN (key b) (key a)=false)->Q (.ref M.length) (M++[.lst ys]))->VQ X.K ρ H Q v H')->R v H') :
  wpAny (model X.prog X.w) X.A (call (.builtin "sorted") [.ref l] [(AA1 "key",.ref f)]) (EP X pins σ R) X.xe s:=by
 have lw:=r.length
 have li:=rr.length
 have few:its.length<=sizeLine:=by rw[ABt];lia
 refine call_function_entry_kw kind_sorted plain_sorted entry_sorted (ksk_s1 _ _) ?_
 unfold Builtin.«sorted»
 refine AA0 (m:=checkCount "sorted" 1 1 _) (AA2 (AA0 (oX ho hc hd (AA0 (ACt ?_ few)) few)))
 generalize hg:((s.heap.push (seqObj "list" #[] 0)).update s.heap.objs.size (AB2 (· ++ its.toArray)))=g1
 have hsz:g1.objs.size=s.heap.objs.size+1:=by rw[<-hg,Heap.size_update,size_push']
 have k1:∀b o,s.heap.get? b=some o->g1.get? b=some o:=λb o q=>by
  have hlt:=AAH q
  rw[<-hg,ABj _ _ _ _ (AAL hlt),Heap.get?_push_ne _ _ _ (AAL hlt)]
  exact q
 show wpAny _ _ _ _ _ { s with heap:=g1.push (seqObj "list" its.toArray 0) }
 have hoL:(g1.push (seqObj "list" its.toArray 0)).get? g1.objs.size=some (seqObj "list" its.toArray 0):=AAE _ rfl
 refine AA0 (AAg (wpAny_call_entry_kw slot_list_sort (⟨_,hoL,rfl⟩) entry_list_sort ?body (ksk_l1 _ _)))
 case body =>
  show wpAny (model X.prog X.w) X.A.in1.in1 (Builtin.«list.sort» ⟨[.ref g1.objs.size],[(AA1 "key",.ref f)]⟩) _ _ _
  rw[ksk_t1]
  unfold ksk_tree
  refine AA0 (ADm hoL rfl (AA0 (ACu hoL rfl ?_ (by rw[AAC];exact few) (AAT _))))
  obtain⟨e1,ho1⟩:∃e1,((g1.push (seqObj "list" its.toArray 0)).update g1.objs.size (AB2 λ_=>(#[]:Array Value))).get? g1.objs.size=some (seqObj "list" #[] e1):=⟨_,ACQ hoL λ_=>#[]⟩
  refine AA0 (seqEpoch_at ho1 rfl (AA0 (wpAny_newTuple (AA0 (ACt (AAg ?_) (AAT _))) few)))
  have k2:∀b o,s.heap.get? b=some o->((g1.push (seqObj "list" its.toArray 0)).update g1.objs.size (AB2 λ_=>(#[]:Array Value))).get? b=some o:=λb o q=>by
   rw[ABj _ _ _ _ (AAL (by rw[hsz];exact ABi (AAH q)))]
   exact AA4 _ (k1 b o q)
  have hsz2:((g1.push (seqObj "list" its.toArray 0)).update g1.objs.size (AB2 λ_=>(#[]:Array Value))).objs.size=g1.objs.size+1:=by rw[Heap.size_update,size_push']
  generalize ((g1.push (seqObj "list" its.toArray 0)).update g1.objs.size (AB2 λ_=>(#[]:Array Value)))=g2 at ho1 k2 hsz2 ⊢
  dsimp only
  have k3:∀b o,g2.get? b=some o->((g2.push (seqObj "tuple" its.toArray 0)).push (seqObj "list" #[] 0)).get? b=some o:=λb o q=>AA4 _ (AA4 _ q)
  have hk3:((g2.push (seqObj "tuple" its.toArray 0)).push (seqObj "list" #[] 0)).get? (g2.push (seqObj "tuple" its.toArray 0)).objs.size=some (seqObj "list" #[] 0):=AAE _ rfl
  have hsz3:(g2.push (seqObj "tuple" its.toArray 0)).objs.size=g2.objs.size+1:=size_push' _ _
  generalize (g2.push (seqObj "tuple" its.toArray 0)).objs.size=kS at hk3 hsz3 ⊢
  generalize ((g2.push (seqObj "tuple" its.toArray 0)).push (seqObj "list" #[] 0))=g3 at hk3 k3 ⊢
  generalize g1.objs.size=aD at ho1 hsz hsz2 ⊢
  obtain⟨m,hn,_⟩:=I.loc
  have st:KySt X pins σ ρ M m kS aD e1 H H { s with heap:=g3 } [] 0 :=
   ⟨I.kept (t':=s.toks) λb o q=>k3 b o (k2 b o q),(by obtain⟨o',es,ep,ho',ax⟩:=hn;exact⟨o',es,ep,k3 _ _ (k2 _ _ ho'),ax⟩),sm,.refl,hk3,k3 _ _ ho1,I.own (by rw[hsz3,hsz2,hsz];exact AD7 _ 3),I.own (by rw[hsz];exact AD7 _ 1),by rw[hsz3,hsz2];exact AAL (Nat.lt_add_of_pos_right (by decide:0<2))⟩
  have hr2:Room k X.A.in1.in1:=(Room.in1 (k:=k+1) hr).in1
  refine yU (h₀:=Att.noObjs s.heap) (L:=X.env.locals) (m:=m) (Fin:=λks e s'=>∃H' kvs,KySt X pins σ ρ M m kS aD e1 H H' s' ks e/\Reps X.K ρ H' (xs.map key) kvs/\au kvs ks) hk3 h64 (λks e s' hl ⟨H',kvs,g,rk,vk⟩=>?_)
   (yV G (λH' s' kvs ks e g r v=>⟨H',kvs,g,r,v⟩) xs ws its [] [] [] 0 H _ st r rr .nil .nil rfl λ_ q=>q)
  have fin:∀ys zs out,Reps X.K ρ H' ys zs->au zs out->ys.Perm xs->ys.Pairwise (λa b=>ltD M eqN (key b) (key a)=false)->KatFin (Att.noObjs s.heap) X.env.locals m kS aD ks e e1 out (λs4=>EP X pins σ R (.ref aD) s4) s':=λys zs out ry vy hp hw=>by
   refine KatFin.intro (Aq g.ns) (oy g.ok.ne g.hk) (UpdF.head λp hp=>(Att.mem_ledger.mp hp).2.1) λh2 c F2 N2=>?_
   have kp:=iY N2
   refine KasFin.intro (s:={ s' with heap:=h2 }) (Aq F2.ns) (oy g.od.ne (kp aD _ g.od.ne g.ne g.hd)) (UpdF.head λp hp=>(Att.mem_ledger.mp hp).2.1) λh3 c3 F3 N3=>?_
   refine⟨.ref aD,_,(g.inv.turnF g.ok kp g.ns F2.ns).adoptF (o:=.lst zs) g.od (iY N3) F2.ns F3.ns ⟨?_,out,c3,vy,(N3 _ AAG).1⟩,rfl,kk _ _ λQ hQ=>VQ.laidL g.sm g.gr ry g.od.un (hQ ys hp hw)⟩
   rw[<-ry.length,hp.length_eq,lw,li]
   exact few
  by_cases h2:its.length<2
  ·refine yW (hl) h2 ((fin xs ws its (r.grow g.gr) rr (ACe _) ?_).mono λs4 hq=>⟨_,rfl,AA2 ⟨_,rfl,hq⟩⟩)
   match xs,(show xs.length<2 by lia) with
   | [],_=>exact ACq
   | [x],_=>exact ADP _ _
   | _::_::_,hx=>simp at hx;lia
  ·have h2':2<=its.length:=by lia
   refine kat_end (b:=false) (h₀:=Att.noObjs s.heap) (L:=X.env.locals) (m:=m) (e:=e) hl h2' h64 ?_
   have hu:X.A.in1.in1.units+eqN<cLine:=by
    have:=hr.un
    have:eqN=30:=rfl
    show X.A.units+1+1+eqN<cLine
    lia
   have kl:ks.length=xs.length:=by lia
   refine AAo (iC g.inv g.sm so rk vk (by lia) hu) (λκ s'' hk=>?_) λ_ _ x=>x
   obtain⟨rfl,hask⟩:=hk
   show (ADj its.length).kasWp (kas_ask X.prog X.w X.A.in1.in1 κ ks) (λp s3=>KatFin (Att.noObjs s.heap) X.env.locals m kS aD ks e e1 (p.toList.map λi=>its.getD i ABp) _ s3) _
   have kget:∀i,i<xs.length->(xs.map key).getD i default=key (xs.getD i default):=λi hi=>by
    rw[AAS,AAS,AAV,AA5 hi]
    rfl
   refine Srt.wp_run (n:=its.length) (c:=λi j=>if i<xs.length then(if j<xs.length then ltD M eqN (key (xs.getD i default)) (key (xs.getD j default))else true)else false) (λi j C hi hj hc=>?_) _ (Srt.sort_bd (by lia)).1 ?_
   ·refine hask i j C (by lia) (by lia) ?_
    rw[if_pos (by lia),if_pos (by lia)]at hc
    unfold ltc
    rw[kget i (by lia),kget j (by lia)]
    exact hc
   ·have hent:=Srt.All.run (c:=λi j=>if i<xs.length then(if j<xs.length then ltD M eqN (key (xs.getD i default)) (key (xs.getD j default))else true)else false) _ (Srt.sort_bd (n:=its.length) (by lia)).2
    obtain⟨o1,o2,o3⟩:=zx so
    have hm:∀x∈xs,key x∈xs.map key:=λx hx=>ABM hx
    have hsl:=Srt.sort_list (lt:=λa b=>ltD M eqN (key a) (key b)) xs (by lia) (λa ha=>o1 _ (hm a ha)) (λa ha b hb d hd=>o2 _ (hm a ha) _ (hm b hb) _ (hm d hd)) (λa ha b hb d hd=>o3 _ (hm a ha) _ (hm b hb) _ (hm d hd))
    try dsimp only at hsl
    rw[show xs.length=its.length by lia]at hsl hent ⊢
    generalize Srt.run _ (ADj its.length)=p at hent hsl ⊢
    have hi:∀i∈p.toList,i<xs.length:=λi h=>by
     have:=hent.mem_iff.mp h
     rw[AAu]at this
     lia
    exact(fin _ _ _ ((r.grow g.gr).perm p.toList hi) (rr.perm p.toList λi h=>by have:=hi i h;lia) hsl.1 hsl.2).mono λs4 hq=>⟨_,rfl,AA2 ⟨_,rfl,hq⟩⟩
end
structure BlkScC(X:Cx)(N':List Str)(nt:Nat)(js:List Nat)(scope:Scope):Prop where
 kind:scope.kind=.function
 kinds:∀y∈scope.names,scope.names.lookup y.1=some y.2
 free:∀y∈scope.names,y.2=.free->(X.env.kindOf y.1=some .cell\/X.env.kindOf y.1=some .free)
 len:N'.length=nt+js.length
 fr:∀(k j:Nat),js[k]?=some j->∃x,N'[nt+k]?=some x/\X.N[j]?=some x/\scope.names.lookup x=some .free/\(X.env.kindOf x=some .cell\/X.env.kindOf x=some .free)
structure CfOk(h:Heap)(k:Nat)(names:List (Str×NameKind))(acc cs:List (Str×Addr)):Prop where
 look:∀z c,cs.lookup z=some c->(acc.lookup z=some c/\(z,ACX)∉names)\/((z,ACX)∈names/\k<=c/\h.IsCell c none)
 inj:∀y z c,cs.lookup y=some c->cs.lookup z=some c->y=z
 old:∀z c,acc.lookup z=some c->∃c',cs.lookup z=some c'
 new:∀z,(z,ACX)∈names->∃c,cs.lookup z=some c
def AF(i:Nat):DTG:=aw i
def BMain(mg:Str->Option Value)(base:Heap):Prop:=∃bm o,mg "__builtins__" = some (.ref bm)/\bm≠builtinsNs/\bm≠mainGlobals/\base.get? bm=some o/\o.cls=.type "module"/\o.dict=some builtinsNs/\o.data=.plain
def Self(X:Cx)(x:Str):Prop:=∃(f:Addr) (oc:Value) (od:Option Addr) (fd:FuncData) (sl:Array (Option Value)),X.mg x=some (.ref f)/\X.K.lookup f=some ⟨oc,od,.func fd,sl⟩/\X.env.code=fd.code
theorem Self.code(S:Self X x)(I:Inv X pins σ H s)(h:tabIn X.K x=some (c,P)):X.env.code=.ref c:=by
 obtain⟨f,oc,od,fd,sl,h1,h2,h3⟩:=S
 unfold tabIn at h
 split at h
 ·rename_i f' hf
  have e1:=mg_of I.mod.kin I.mod.glob hf
  rw[h1]at e1
  cases e1
  split at h
  ·rename_i e2
   rw[h2]at e2
   cases e2
   split at h
   ·rename_i c' hc
    split at h
    ·split at h
     ·cases h
      rw[h3,hc]
     ·cases h
    ·cases h
   ·cases h
  ·cases h
 ·cases h
section
variable{K:AA3}{ρ:List Addr}{M:Mem}{H:Hp}
theorem SqT.writtenB(hp:H p=some (.tbl ps))(h:SqT K H a xs):SqT K (upd H p o) a xs:=by
 have ne:∀u,H a=some u->(∀q,u≠.tbl q)->a≠p:=λu e q z=>by
  rw[z,hp]at e
  exact q ps (AAQ e).symm
 rcases h with h | h
 ·rcases h with h | ⟨ob,h⟩
  ·exact .inl (.inl (by rw[ag (ne _ h λ_ z=>by cases z)];exact h))
  ·exact .inl (.inr ⟨ob,by rw[ag (ne _ h λ_ z=>by cases z)];exact h⟩)
 ·exact .inr h
theorem Sim.writeB(S:Sim K ρ M H)(e1:ρ[n]?=some a)(hM:M[n]?=some (.tb x b))(hH:H a=some (.tbl ps)) :
  Sim K ρ (M.set n (.tb x true)) (upd H a (.tbl ps'))/\Grow K ρ H ρ (upd H a (.tbl ps')):=by
 have g:Grow K ρ H ρ (upd H a (.tbl ps')):=⟨AC2,λ_ _ h=>SqT.writtenB hH h⟩
 have hk:∀m,m≠n->(M.set n (.tb x true))[m]?=M[m]?:=λm hm=>AAZ (ABO hm)
 have notK:¬isK M[n]?:=λ⟨_,z⟩=>by rw[hM]at z;cases z
 refine⟨⟨λm m' b hne f1 f2=>?_,by rw[AAp];exact S.len,λm b' mo f1 f2=>?_⟩,g⟩
 ·have q:=S.nd m m' b hne f1 f2
  by_cases h1:m=n
  ·subst h1
   rw[hk m' (ABO hne)]
   exact .inr (q.resolve_left notK)
  ·rw[hk m h1]
   by_cases h2:m'=n
   ·subst h2
    exact .inl (q.resolve_right notK)
   ·rw[hk m' h2]
    exact q
 by_cases hm:m=n
 ·subst hm
  have hb:b'=a:=AAQ (f1.symm.trans e1)
  subst hb
  rw[AAa (by rw[<-S.len];exact(AA7.mp e1).1)]at f2
  cases f2
  exact⟨(S.obj m b' _ e1 hM).1,ps',ay,λz=>by cases z⟩
 ·rw[hk m hm]at f2
  by_cases hb:b'=a
  ·subst hb
   have q':=(S.nd m n b' hm f1 e1).resolve_right notK
   rw[f2]at q'
   exact(S.obj m b' mo f1 f2).grow g (.inr q')
  ·exact(S.obj m b' mo f1 f2).grow g (.inl (ag hb))
end
theorem zO{P:Program}{w:World}{K:AA3}{mg:Str->Option Value}{base:Heap}{A:Around}{outer:List Env}{s:Shared}{H:Hp}{k:Nat}{f c':Addr}{nm qual:Str}{params:Arguments}{body:Expr}{scope:Scope}{pm ctv:Value}{N ps:List Str}{te:DTE}
  {ρ:List Addr}{M:Mem}{d:D}{v:V}{u:Value}{R:DK} (e0:Env0 P w K mg base A outer s H) (ho:s.heap.get? f=some (kla_obj nm qual params body scope [] pm c' ctv)) (hcd:s.heap.CodeRec (.ref c') qual) (S:FnScope N ps scope) (hr:Room (k+1) A)
  (hb:BindsTo s (kla_fn nm qual params body scope [] pm (.ref c') ctv) ⟨[u],[]⟩ (ps.zip [u])) (hl:1=ps.length) (der:∀E,Room k (A.deeper (envOfC qual scope s.heap.objs.size f (.ref c')))->DE (jq CX0 P w K mg base N qual scope f (.ref c') A outer s H E).nox body te)
  (sm:Sim K ρ M H) (r:Rep K ρ H d v) (ru:aC v u) (hq:te (bj N [d]) M (bu M R)) :
  codeAny (model P w) A (.call (.ref f) ⟨[u],[]⟩) (CR CX0 outer P w H s (λv' H'=>VQ K ρ H R v' H') E0) s:=by
 have lim:s.heap.NoLimit:=e0.mod.nolimit.keeps λb o e=>(e0.bs b o e).1
 have hkind:∀y∈ps.zip [u],scope.names.lookup y.1=some .local\/(scope.names.lookup y.1=some .cell/\((cellsFrom (s.heap.objs.size+1) scope.names []).lookup y.1).isSome=true):=λ⟨n,v⟩ hy=>by
  rcases S.par n (ADt hy).1 with q | q
  ·exact .inl q
  ·exact .inr ⟨q,ADX _ _ _ (.inl q)⟩
 refine kla_callFunE hr.depth ho rfl S.co S.gen rfl hcd (hb _ _ _ _ ?_)
 refine wpAny_newFunctionEnv_cells S.kind hkind λenv he s1 x=>?_
 subst he
 refine⟨lim.keeps x.toInCall.keep,kla_codeExpr ?_⟩
 have I:Inv (jq CX0 P w K mg base N qual scope f (.ref c') A outer s H E0) [] (start N [v]) H s1:=mZ S hr.hd e0 hl (.cons ru .nil) x
 have dd:=PE.nox (der E0 (hr.deeper _))
 refine AAo (dd [] s1 (start N [v]) H (λv' H'=>VQ K ρ H (bu M R) v' H') I ⟨bj N [d],M,ρ,_,sm,SRep.start (.cons r .nil) N,hq,λ_ _ z=>z⟩) (λu' s' hs=>?_) λe s' hs=>hs
 obtain⟨v',H',J,rv,q⟩:=hs
 exact⟨v',H',J.os,J.bare,J.base,J.hok,rv,VQ.endq sm q⟩
section
variable{X:Cx}{pins:List (Addr×Obj)}{σ:St}{H:Hp}{s:Shared}
theorem Inv.writeB(I:Inv X pins σ H s)(hH:H P=some (.tbl ps))(k:∀b u,b≠P->s.heap.get? b=some u->h'.get? b=some u)(hP:h'.get? P=some (tabObj (ps++more))):Inv X pins σ (upd H P (.tbl (ps++more))) { s with heap:=h',toks:=t' }:=by
 have nn:∀b,H b=none->b≠P:=λb n z=>by rw[z,hH]at n;cases n
 have ne:∀b u,H b=some u->(∀q,u≠.tbl q)->b≠P:=λb u e q z=>by
  rw[z,hH]at e
  exact q ps (AAQ e).symm
 refine I.un ⟨λb u q n _ _=>k b u (nn b n) q,λb u q n _ _=>⟨u.slots,k b u (nn b n) q⟩,λb u q n _=>by rw[ag (nn b n)];exact n,λb u q _=>?_,λb xs q=>by rw[ag (ne b _ q λ_ z=>by cases z)];exact q,λb u xs q=>by rw[ag (ne b _ q λ_ z=>by cases z)];exact q,λb qs q=>?_⟩ λb u q=>?_
 ·by_cases hb:b=P
  ·subst hb;exact⟨_,hP⟩
  ·exact⟨u,k b u hb q⟩
 ·by_cases hb:b=P
  ·subst hb
   rw[hH]at q
   cases q
   exact⟨more,ay⟩
  ·exact⟨#[],by rw[ag hb,q];simp⟩
 ·by_cases hb:b=P
  ·subst hb
   rw[ay]at q
   cases q
   exact hP
  ·rw[ag hb]at q
   refine(I.hok b u q).stay (λc v hc r=>k c v ?_ r) (λc r=>by rw[ag (ne c _ r λ_ z=>by cases z)];exact r) λc xs r=>by rw[ag (ne c _ r λ_ z=>by cases z)];exact r
   rcases hc with rfl | hc
   ·exact hb
   ·exact ne c _ hc λ_ z=>by cases z
theorem xg(I:Inv X pins σ H s)(hH:H P=some (.tbl #[]))(C:∀h:Heap,X.K.In h->CodeHd h c P)(hcode:X.env.code=.ref c)(B:BMain X.mg X.base)
  (hcl:closureFor scope X.env=pure []) (hdef:defaultsOf params X.env=([],[]))
  (h:∀f c' oc vs t ctv ps' s',Inv X ((f,kla_obj "<lambda>" (X.env.qual ++ "<lambda>") params body scope [] ((X.mg "__name__").getD .none) c' ctv)::(c',oc)::pins) σ (upd H P (.tbl ps')) s'->oc.data=.fields vs->vs[1]?=some (.str (X.env.qual ++ "<lambda>") t)->Q (.ref f) s') :
  wpAny (model X.prog X.w) A (eval (.Lambda params body scope pos) X.env) Q E s:=by
 have hP:s.heap.get? P=some (tabObj #[]):=I.hok P _ hH
 have hg:s.heap.Ns mainGlobals X.mg:=I.mod.glob.keeps I.bk
 have nP:∀b o,X.base.get? b=some o->b≠P:=λb o e z=>by
  have:=(I.bs b o e).2
  rw[z,hH]at this
  cases this
 obtain⟨bm,ob,b1,b2,b3,b4,b5⟩:=B
 have hgP:mainGlobals≠P:=by
  obtain⟨o,es,ep,e,_⟩:=I.mod.glob
  exact nP _ _ e
 refine kla_eval hdef (kla_makeFunction hcl I.ok.glob hg hcode (C _ I.kIn) hP trivial rfl hgP ⟨bm,ob,b1,b2,b3,nP _ _ b4,I.bk _ _ b4,b5⟩ λc' ctv h' tk hx hge hlt hrec htb=>?_)
 obtain⟨c2,oc,vs,t,e2,hoc,hd,hv⟩:=hrec
 cases e2
 have Pn:P≠h'.objs.size:=λz=>by rw[z]at htb;exact absurd (AAH htb) (AAk _)
 have hs:s.heap.objs.size<=h'.objs.size:=AB3 hge (ACA hlt)
 have J:Inv X pins σ (upd H P (.tbl (#[] ++ #[rawInt pos.line,rawInt pos.col,.ref c']))) { s with heap:=h'.push (kla_obj "<lambda>" (X.env.qual ++ "<lambda>") params body scope [] ((X.mg "__name__").getD .none) c' ctv),toks:=tk }:=by
  exact I.writeB hH (λb u hb e=>AA4 _ (hx b u hb e)) (AA4 _ htb)
 have fresh:∀b,s.heap.objs.size<=b->b≠P->upd H P (.tbl (#[] ++ #[rawInt pos.line,rawInt pos.col,.ref c'])) b=none/\b≠X.env.locals/\b∉X.fs:=λb hb hn=>by
  refine⟨by rw[ag hn];exact I.hok.fresh hb,λz=>?_,I.nofs hb⟩
  rw[z]at hb
  exact absurd (AAR I.lt hb) (AAk _)
 have cP:c'≠P:=λz=>by
  rw[z]at hge
  exact absurd (AAR (AAH hP) hge) (AAk _)
 refine h h'.objs.size c' oc vs t ctv _ _ (J.pins_of λp hp=>?_) hd hv
 rcases AAK.mp hp with rfl | hp
 ·obtain⟨a1,a2,a3⟩:=fresh h'.objs.size hs (ABO Pn)
  exact⟨AAE _ rfl,a1,a2,a3,λv z=>by cases z⟩
 rcases AAK.mp hp with rfl | hp
 ·obtain⟨a1,a2,a3⟩:=fresh c' hge cP
  exact⟨AA4 _ hoc,a1,a2,a3,λv z=>by rw[hd]at z;cases z⟩
 ·exact J.pin p (AAF _ hp)
end
noncomputable def lamB(sc:Scope)(y:Str):Bool:=decide (sc.kind=.function) && !sc.isCoroutine && !sc.isGenerator&&decide (sc.names.lookup y=some .local)&&sc.names.all λp=>decide (p.2≠.free)
theorem uI(h:lamB sc y=true):FnScope [y] [y] sc:=by
 simp only[lamB,AAO,decide_eq_true_eq,Bool.not_eq_true',AAW]at h
 obtain⟨⟨⟨⟨h1,h2⟩,h3⟩,h4⟩,h5⟩:=h
 refine⟨h1,h2,h3,ABV.mpr ⟨List.not_mem_nil,ADk⟩,rfl,λx hx=>?_,λp hp=>h5 p hp⟩
 obtain rfl:x=y:=by simpa using hx
 exact .inl h4
def gY(x:Str)(N:List Str)(te:DTE)(t:DTA):DTE:=λS M Q=>t S M λds M1=>match ds with
 | [y]=>∃q xs key,M1[q]?=some (.tb x false)/\(y=.tup xs\/∃n,y=.ref n/\am (M1.set q (.tb x true)) n xs)/\(∀d∈xs,te (bj N [d]) (M1.set q (.tb x true)) (bu (M1.set q (.tb x true)) λz M'=>z=key d/\M'=M1.set q (.tb x true)))/\SrtG (M1.set q (.tb x true)) (xs.map key) /\
   ∀ys,ys.Perm xs->ys.Pairwise (λa b=>ltD (M1.set q (.tb x true)) eqN (key b) (key a)=false)->Q (.ref M1.length) (M1.set q (.tb x true)++[.lst ys])
 | _=>False
theorem uW(Sf:Self X x)(B:BMain X.mg X.base)(hr:Room (k+3) X.A)(he:HA X [e] t)(hm:X.mg "sorted" = none)
  (der:∀(s:Shared) (H:Hp) (f:Addr) (cdv:Value) (A:Around) (outer:List Env) (E:XK),Room k (A.deeper (envOfC (X.env.qual ++ "<lambda>") scope s.heap.objs.size f cdv))->HE (jq CX0 X.prog X.w X.K X.mg X.base [y] (X.env.qual ++ "<lambda>") scope f cdv A outer s H E).nox body te)
  (Sc:FnScope [y] [y] scope) (hcl:closureFor scope X.env=pure []) (hdef:defaultsOf params X.env=([],[]))
  (hb:∀(pm ctv:Value) (c':Addr) (u:Value),bindArgs (kla_fn "<lambda>" (X.env.qual ++ "<lambda>") params body scope [] pm (.ref c') ctv) ⟨[u],[]⟩=pure [(y,u)])
  (hg1:X.env.kindOf "sorted" = some .globalImplicit:=by kernel_rfl) (hs:starEach [e] X.env=[(false,eval e X.env)]:=by kernel_rfl) :
  HE X (.Call (.Name "sorted" p) [e] [⟨some "key",.Lambda params body scope lpos,kpos⟩] pos) (gY x [y] te t):=by
 refine⟨λpins s σ H R I h=>?_⟩
 obtain⟨S,M,ρ,Q,sm,sr,q,kk⟩:=h
 refine ABU (eH I hg1 hm nK ?_ (by decide) (by decide))
 unfold gY at q
 refine callWith_kw (thn (he.ok pos pins s σ H (λvs H1=>AQ X.K ρ H _ vs H1) I ⟨S,M,ρ,_,sm,sr,q,λ_ _ z=>z⟩) ?_) (by rw[hs];rfl) (by rw[hs];rfl)
 rintro us s1 ⟨vs,H1,I1,r1,q1⟩
 obtain⟨ds,M1,ρ1,sm1,g1,rs,q1⟩:=q1
 split at q1
 ·rename_i y0
  obtain⟨qn,xs,key,hq,hx,hP,so,fin⟩:=q1
  obtain⟨v1,_,rfl,rx,rs⟩:=Reps.inv_cons rs
  obtain rfl:=Reps.inv_nil rs
  obtain⟨u,rfl,ru⟩:=au.one r1
  obtain⟨Pa,ep,mo⟩:=sm1.get hq
  obtain⟨⟨c,tc,C⟩,ps,hH,h0⟩:=mo
  obtain rfl:=h0 rfl
  refine kws_cons (xg I1 hH C (Sf.code I1 tc) B hcl hdef λf c' oc vs t' ctv ps' s2 I2 hd hv=>kws_nil ?_)
  obtain⟨sm2,g2⟩:=sm1.writeB (ps':=ps') ep hq hH
  show wpAny _ _ (call (.builtin "sorted") [u] [(AA1 "key",.ref f)]) _ _ _
  have l64:=so.len
  rw[AA6]at l64
  have hr2:Room (k+1+2) X.A:=hr
  generalize upd H1 Pa (.tbl ps')=H2 at sm2 g2 I2
  have ml:(M1.set qn (.tb x true)).length=M1.length:=AAp ..
  generalize M1.set qn (.tb x true)=M2 at sm2 hP so fin hx ml
  have G:KeyG X ((f,kla_obj "<lambda>" (X.env.qual ++ "<lambda>") params body scope [] ((X.mg "__name__").getD .none) c' ctv)::(c',oc)::pins) σ ρ1 M2 f key xs:=λs H d v u hm I sm r ru=>by
   have p1:=(I.pin _ (AAF _ AAG)).1
   have p2:=(I.pin (c',oc) (AAF _ (AA9 _ AAG))).1
   exact zO (k:=k) I.env0.in1.in1 p1 ⟨c',oc,vs,t',rfl,p2,hd,hv⟩ Sc (Room.in1 (k:=k+2) hr2).in1 (.of_eq (hb _ _ _ _)) rfl (λE hr=>(der s H f _ _ _ E hr).ok) sm r ru (hP d hm)
  have back:∀{v:Value}{s':Shared},EP X ((f,kla_obj "<lambda>" (X.env.qual ++ "<lambda>") params body scope [] ((X.mg "__name__").getD .none) c' ctv)::(c',oc)::pins) σ R v s'->EP X pins σ R v s':=λ{v s'} ⟨v',H',J,rv,q⟩=>⟨v',H',J.pins_of λp hp=>J.pin p (AAF _ (AA9 _ (AA9 _ hp))),rv,q⟩
  have fin':∀ys,ys.Perm xs->ys.Pairwise (λa b=>ltD M2 eqN (key b) (key a)=false)->Q (.ref M2.length) (M2++[.lst ys]):=λys h1 h2=>by rw[ml];exact fin ys h1 h2
  rcases hx with rfl | ⟨n,rfl,hL⟩
  ·obtain⟨a,vs,rfl,hq',r⟩:=Rep.inv_tup (rx.grow g2)
   cases ru
   obtain⟨its,rr,⟨o,ho,hc,n,hd'⟩,_⟩:=I2.tuple hq'
   have h1:=r.length
   have h2:=rr.length
   exact AAo (qa G hr2 I2 sm2 r rr ho (.inr hc) hd' (by lia) so λv H' z=>kk v H' (VQ.trans g1 (VQ.trans g2 (z Q fin')))) (λ_ _ z=>back z) λ_ _ z=>z
  ·obtain⟨a,rfl,en⟩:=Rep.inv_ref rx
   cases ru
   obtain⟨vs,hq',r⟩:=am.seq sm2 hL en
   obtain⟨its,rr,⟨o,n,ho,hc,_,hd'⟩,_⟩:=I2.list hq'
   have h1:=r.length
   have h2:=rr.length
   exact AAo (qa G hr2 I2 sm2 r rr ho (.inl hc) hd' (by lia) so λv H' z=>kk v H' (VQ.trans g1 (VQ.trans g2 (z Q fin')))) (λ_ _ z=>back z) λ_ _ z=>z
 ·exact q1.elim
section
variable{P:Program}{w:World}{K:AA3}{mg:Str->Option Value}{base:Heap}{x:Str}{st:Stmt}{N ps:List Str}{k:Nat}{Pr:DSp}{B:List Str}{C:List (Str×Int)}{t:DTS}
abbrev DerL(P:Program)(w:World)(K:AA3)(mg:Str->Option Value)(base:Heap)(k:Nat)(x:Str)(N:List Str)(st:Stmt)(t:DTS):Prop :=
 ∀(f:Addr) (cdv:Value) (A:Around) (outer:List Env) (s:Shared) (H:Hp) (E:XK),Room k (A.deeper (AE5 x (ak st) s.heap.objs.size f cdv))->Self (jq CX0 P w K mg base N x (ak st) f cdv A outer s H E).nox x->HB (jq CX0 P w K mg base N x (ak st) f cdv A outer s H E).nox (bc st) t
theorem Cal.byL(T:TopB mg B C)(F:cU K mg x st ps)(Sc:FnScope N ps (ak st))(len:dY Pr ps)(der:TopB mg B C->N.Nodup->DerL P w K mg base k x N st t)(wp:∀ds M R,Pr ds M R->t (EE M R) (bj N ds) M):Cal P w K mg base (k+1) x ps Pr:=by
 obtain⟨f,fd,F1,hm,hb⟩:=F
 refine⟨f,fd,?_,hm,F1.kp,hb⟩
 obtain⟨oc,od,kV,doc,pm,an,cdv,ct,osl,rfl,lk,hcd⟩:=F1.ex
 refine As lk hcd Sc (λvs H Q E ⟨ds,M,ρ,R,s,r,q,_⟩=>by rw[<-r.length];exact len ds M R q) λA outer s H vs Q E hr h=>?_
 obtain⟨ds,M,ρ,R,sm,r,q,kk⟩:=h
 have ht:=der T Sc.nd f cdv A outer s H E hr ⟨f,oc,od,_,osl,hm,lk,rfl⟩
 refine⟨lowS K t,PSs.nox ht.ok,bj N ds,M,ρ,_,sm,SRep.start r N,wp ds M R q,⟨λσ' H' ⟨S',M',ρ',s',g',sr',q'⟩=>?_,λv H' z=>kk v H' (VQ.endq sm z),λσ' H' ⟨S',M',ρ',s',g',sr',q'⟩=>q'.elim,λσ' H' ⟨S',M',ρ',s',g',sr',q'⟩=>q'.elim⟩⟩
 exact kk .non H' (VQ.endq sm ⟨.non,M',ρ',s',g',.non,q'⟩)
end
def rK(z:Str):DSp:=λds M R=>∃(ns:List Int) (mo:MO),ns.length<=63/\(mo.items=ns.map D.int/\mo.isL=true)/\ds=[.ref 0]/\M=[mo,.tb z false]/\∀M',R (.bl true) M'
theorem oO{K:AA3}{H:Hp}{a Pt c:Addr}{z:Str}{ns:List Int}(hl:ns.length<=63)(hS:SqL K H a (ns.map V.int))(hP:H Pt=some (.tbl #[]))(tc:tabIn K z=some (c,Pt))(C:∀h:Heap,K.In h->CodeHd h c Pt)(ne:a≠Pt):spL K (rK z) [.ref a] H (λv _=>v=.bl true) λ_ _ _=>False:=by
 have one:∀{mo:MO},mo.items=ns.map D.int/\mo.isL=true->sC K [a,Pt] H a mo->spL K (rK z) [.ref a] H (λv _=>v=.bl true) λ_ _ _=>False:=λ{mo} e ok=>by
  refine⟨[.ref 0],[mo,.tb z false],[a,Pt],λd _=>d=.bl true,⟨λn m b hne e1 e2=>?_,rfl,λn b mo' e1 e2=>?_⟩,.cons (.ref rfl) .nil,⟨ns,mo,hl,e,rfl,rfl,λ_=>rfl⟩,λv H' ⟨d,M',ρ',_,_,r,q⟩=>?_⟩
  ·match n,m,e1,e2 with
   | 0,0,_,_=>exact absurd rfl hne
   | 1,1,_,_=>exact absurd rfl hne
   | 0,1,e1,e2=>simp at e1 e2;exact absurd (e1.trans e2.symm) ne
   | 1,0,e1,e2=>simp at e1 e2;exact absurd (e2.trans e1.symm) ne
   | n+2,_,e1,_=>simp at e1
   | _,m+2,_,e2=>simp at e2
  ·match n,e1,e2 with
   | 0,e1,e2 =>
    simp at e1 e2
    subst e1 e2
    exact ok
   | 1,e1,e2 =>
    simp at e1 e2
    subst e1 e2
    exact⟨⟨c,tc,C⟩,#[],hP,λ_=>rfl⟩
   | n+2,e1,_=>simp at e1
  ·have q':d=.bl true:=q
   subst q'
   obtain rfl:=Rep.inv_bl r
   rfl
 rcases hS with(h | ⟨o,h⟩) | h
 ·exact one (mo:=.lst _) ⟨rfl,rfl⟩ ⟨_,h,fj ns⟩
 ·exact one (mo:=.fz _) ⟨rfl,rfl⟩ ⟨o,_,h,fj ns⟩
 ·exact one (mo:=.kl _) ⟨rfl,rfl⟩ ⟨_,h,fj ns⟩
theorem uH{P:Program}{w:World}{K:AA3}{mg mb:Str->Option Value}{k:Nat}{fa a Pt:Addr}{fd:FuncData}{x:Str}{sp:Sp}{s₁:Shared}{vs:List Value}{ns:List Int}
  (KX:K.In s₁.heap) (hns:s₁.heap.Ns mainGlobals mg) (hb:s₁.heap.Ns builtinsNs mb) (hbb:∀x:Str,x≠"__name__"->mb x=bootBuiltins x) (hlim:s₁.heap.NoLimit) (hg:s₁.gens = #[])
  (ha:s₁.heap.get? a=some { cls:=.type "list",data:=.seq vs.toArray }) (hi:IntsAre vs ns) (hl:ns.length<=sizeLine) (hr:Room k callerA) (nt:noTabs K=true) (hP:s₁.heap.get? Pt=some (tabObj #[])) (isT:isCodeTable s₁.heap Pt) (BM:BMain mg s₁.heap)
  (F:∀base:Heap,K.In base->base.Ns mainGlobals mg->BMain mg base->FnOk P w K mg base CX0 k fa fd [x] sp) (hbind:∀(s:Shared) (u:Value),BindsTo s fd ⟨[u],[]⟩ [(x,u)])
  (hsp:∀H:Hp,SqL K H a (ns.map V.int)->H Pt=some (.tbl #[])->sp [.ref a] H (λv _=>v=.bl true) λ_ _ _=>False) :
  codeAny (model P w) callerA (.call (.ref fa) ⟨[.ref a],[]⟩) (λr s'=>r=.ok (.ret (.bool true))/\OldK s₁.heap s'.heap/\s'.os=s₁.os/\AllBare s'.gens) s₁:=by
 have rv:=lT hi
 have lenV:=hi.length
 have aP:a≠Pt:=λe=>by rw[e,hP]at ha;cases ha
 have core:∀H:Hp,(∀b,b≠Pt->H b=none\/∃o xs,H b=some (.frz o (.lst xs)))->SqL K H a (ns.map V.int)->H Pt=some (.tbl #[])->HOk P w H s₁.heap->(∀b,H b≠none->b=a\/b=Pt)->(H a≠none->K.lookup a=none) ->
   codeAny (model P w) callerA (.call (.ref fa) ⟨[.ref a],[]⟩) (λr s'=>r=.ok (.ret (.bool true))/\OldK s₁.heap s'.heap/\s'.os=s₁.os/\AllBare s'.gens) s₁:=by
  intro H hO hS hT hok hA hK
  have base_of:∀{b:Addr}{o:Obj},s₁.heap.get? b=some o->H b=none->(vY s₁.heap H).get? b=some o:=λe n=>xA e n
  have noA:∀{b:Addr}{o:Obj},s₁.heap.get? b=some o->o.cls≠.type "list"\/(∀v n,o.data≠.seq v n)->o≠tabObj #[]->H b=none:=λ{b o} e d1 d2=>by
   cases q:H b with
   | none=>rfl
   | some u =>
    rcases hA b (by rw[q];simp)with e' | e'
    ·subst e'
     rw[ha]at e;cases e
     rcases d1 with d1 | d1
     ·exact absurd rfl d1
     ·exact absurd rfl (d1 _ _)
    ·subst e'
     rw[hP]at e;cases e
     exact absurd rfl d2
  have nsK:∀{b:Addr}{m:Str->Option Value},s₁.heap.Ns b m->(vY s₁.heap H).Ns b m:=λ{b m} ⟨o,es,ep,e,d,r⟩=>⟨o,es,ep,base_of e (noA e (.inr λv n z=>by rw[d]at z;cases z) λz=>by rw[z]at d;cases d),d,r⟩
  have hKb:K.In (vY s₁.heap H):=λb o e=>base_of (KX b o e) (by
   cases q:H b with
   | none=>rfl
   | some u =>
    rcases hA b (by rw[q];simp)with e' | e'
    ·subst e'
     rw[hK (by rw[q];simp)]at e;cases e
    ·subst e'
     have h2:=AAW.mp nt (b,o) (mem_of_lookupK e)
     have h3:=KX b o e
     rw[hP]at h3
     cases h3
     exact absurd (show false=true from h2) ABQ)
  have hM:Mod K mg (vY s₁.heap H):=⟨hKb,nsK hns,⟨mb,nsK hb,hbb⟩,let ⟨mc,h1,h2⟩:=hlim;⟨mc,nsK h1,h2⟩⟩
  have e0:Env0 P w K mg (vY s₁.heap H) callerA [] s₁ H:=⟨rfl,hM,λb o e=>zC e,Nat.le_of_eq (vc _ _),trivial,λb hb=>absurd (show b∈([]:List Addr)from hb) (by simp),hok,.of_eq hg⟩
  have bm:BMain mg (vY s₁.heap H):=by
   obtain⟨bm,ob,b1,b2,b3,b4,b5,b6⟩:=BM
   exact⟨bm,ob,b1,b2,b3,base_of b4 (noA b4 (.inl λz=>by rw[z]at b5;injection b5 with h;exact absurd h (by decide)) λz=>by rw[z]at b5;cases b5),b5,b6⟩
  refine ACU ((F _ hKb (nsK hns) bm).run callerA [] s₁ H ⟨[.ref a],[]⟩ [.ref a] [.ref a] _ _ hr e0 (hbind s₁ (.ref a)) (.cons rfl .nil) (hsp H hS hT)) λr s' h=>?_
  cases r with
  | error e=>exact h.elim
  | ok fl =>
   cases fl with
   | next=>exact ABa h
   | brk=>exact ABa h
   | cont=>exact ABa h
   | ret u =>
    obtain⟨v,H',os,bare,un,hok',r',q⟩:=h
    have q':v=.bl true:=q
    subst q'
    obtain rfl:u=Value.bool true:=r'
    obtain⟨more,hT'⟩:=un.tbls Pt _ hT
    have hP':s'.heap.get? Pt=some (tabObj (#[]++more)):=hok' Pt _ hT'
    have old:∀b o,b≠Pt->s₁.heap.get? b=some o->s'.heap.get? b=some o:=λb o hb e=>by
     cases q:H b with
     | none=>exact un.keep b o e q (by intro z;exact absurd (show b∈([]:List Addr)from z) (by simp)) (by simp)
     | some u =>
      rcases hO b hb with z | ⟨ob,xs,z⟩
      ·rw[q]at z;cases z
      ·have z2:=un.frzs b ob _ z
       obtain⟨e1,_⟩:=hok b _ z
       obtain⟨e2,_⟩:=hok' b _ z2
       rw[e]at e1;cases e1
       exact e2
    refine⟨rfl,⟨λb o e=>?_,λb o e=>?_⟩,os,bare⟩
    ·by_cases hb:b=Pt
     ·subst hb
      rw[hP]at e;cases e
      exact .inr (.inl ⟨isT,rfl,#[],more,rfl,hP'⟩)
     ·exact .inl (old b o hb e)
    ·by_cases hb:b=Pt
     ·subst hb;exact⟨_,hP'⟩
     ·exact⟨o,old b o hb e⟩
 cases hk:K.lookup a with
 | some o =>
  have e:=KX a o hk
  rw[ha]at e
  cases e
  refine core (upd (λ_=>none) Pt (.tbl #[])) (λb hb=>.inl (ag hb)) (.inr ⟨_,vs.toArray,_,hk,rfl,rfl,rfl,by rw[AAC,lenV];exact hl,by simpa using rv⟩) ay (λb u z=>?_) (λb z=>?_) λz=>absurd (ag aP) z
  ·by_cases hb:b=Pt
   ·subst hb
    rw[ay]at z
    cases z
    exact hP
   ·rw[ag hb]at z
    cases z
  ·by_cases hb:b=Pt
   ·exact .inr hb
   ·exact absurd (ag hb) z
 | none =>
  refine core (upd (λb=>if b=a then some (.frz { cls:=.type "list",data:=.seq vs.toArray } (.lst (ns.map V.int)))else none) Pt (.tbl #[])) (λb hp=>?_) (.inl (.inr ⟨{ cls:=.type "list",data:=.seq vs.toArray },(ag aP).trans (if_pos rfl)⟩)) ay (λb u z=>?_) (λb z=>?_) λ_=>hk
  ·rw[ag hp]
   by_cases hb:b=a
   ·exact .inr ⟨_,_,if_pos hb⟩
   ·exact .inl (if_neg hb)
  ·by_cases hp:b=Pt
   ·subst hp
    rw[ay]at z
    cases z
    exact hP
   rw[ag hp]at z
   by_cases hb:b=a
   ·have z':=(if_pos hb).symm.trans z
    cases z'
    subst hb
    exact⟨ha,by rw[AA6];exact hl,vs,_,rv,ha⟩
   ·have z':=(if_neg hb).symm.trans z
    cases z'
  ·by_cases hp:b=Pt
   ·exact .inr hp
   rw[ag hp]at z
   by_cases hb:b=a
   ·exact .inl hb
   ·exact absurd (if_neg hb) z
theorem wg{K:AA3}{x:Str}{c P:Addr}(h:tabIn K x=some (c,P)):∃o,K.lookup c=some o:=by
 unfold tabIn at h
 split at h
 ·split at h
  ·split at h
   ·rename_i c' _
    split at h
    ·rename_i e
     split at h
     ·cases h;exact⟨_,e⟩
     ·cases h
    ·cases h
   ·cases h
  ·cases h
 ·cases h
theorem law_walkL{l:PySem.W.OpenLaw}{q:Program}{loose:List Str}{XP:(Str->Option Value)->Heap->Prop}{YP:World->Heap->Prop}{d dz:DefRec}{K:Params->AA3}{k:Nat}{st:Stmt}{x z:Str}{cz Pz:Params->Addr}(hn:l.most=some 63)(hdf:d.params.defaults=[])(hd:d.name = "law")(hr:Room k callerA)
  (hY:∀(w:World) (h:Heap),YP w h->(K w.params).In h) (nt:∀p,noTabs (K p)=true) (hz:(recsOf q).find? (λe=>e.name==z)=some dz) (tz:∀p,tabIn (K p) z=some (cz p,Pz p))
  (F:∀(w:World) (mg:Str->Option Value) (h:Heap),(K w.params).In h->h.Ns mainGlobals mg->cU (K w.params) mg "law" st [x] /\
   ∀(base:Heap) (f:Addr) (fd:FuncData),BMain mg base->Fun (K w.params) "law" "law" st f fd->FnOk l.prog w (K w.params) mg base CX0 k f fd [x] (spL (K w.params) (rK z)))
  (hb:∀(kV doc pm:Value) (an:Option Addr) (cdv ct:Value) (u:Value),bindArgs (ACV "law" "law" (eT st) (bc st) (ak st) .none kV doc pm an cdv ct) ⟨[u],[]⟩=pure [(x,u)]) :
  PySem.W.WalkO q loose XP YP l.row.toRowW d [] (λf vs=>PySem.call f vs):=by
 refine Att.attach_call hn hdf λw s₀ s₁ mg mb fa o pm cd doc a vs ns G Y ho hdd hcd hmg hobj hints hlen hg=>?_
 have KX:=hY w _ Y
 rw[hd]at hmg
 obtain⟨⟨f,fd,F1,hm,_⟩,C⟩:=F w mg _ KX G.T.g
 have e:=hmg.symm.trans hm
 cases e
 obtain⟨CH,hP⟩:=tab_of G.T KX hz (tz w.params)
 obtain⟨oc',hlc⟩:=wg (tz w.params)
 have CK:∀h:Heap,(K w.params).In h->CodeHd h (cz w.params) (Pz w.params):=λh X=>by
  obtain⟨o2,vs2,file,tf,flags,tg,inF,text,tt,e1,r⟩:=CH
  have e2:=KX _ _ hlc
  rw[e1]at e2
  cases e2
  exact⟨_,vs2,file,tf,flags,tg,inF,text,tt,X _ _ hlc,r⟩
 have bmn:BMain mg s₁.heap:=by
  obtain⟨bm,ob,b1,b2,b3,b4,b5,b6⟩:=G.T.bmain
  refine⟨bm,ob,b1,b2,λz=>?_,b3,b4,b5,b6⟩
  obtain⟨og,es,ep,eg,dg,_⟩:=G.T.g
  rw[z,eg]at b3
  cases b3
  rw[dg]at b6
  cases b6
 have aP:a≠Pz w.params:=λe=>by rw[e,hP]at hobj;cases hobj
 obtain⟨oc,od,kV,doc',pm',an,cdv,ct,osl,rfl,lk,hcd'⟩:=id F1.ex
 exact uH KX G.T.g G.T.b G.T.builtins G.T.nolimit hg hobj hints (AB3 hlen (by decide)) hr (nt _) hP (CH.tab hP).isCodeTable bmn (λbase _ _ B=>C base _ _ B F1) (λs v=>.of_eq (hb kV doc' pm' an cdv ct v)) λH hS hT=>oO hlen hS hT (tz w.params) CK aP
end L2
namespace L2
open PySem PySem.Spec PyProof.Rows DL
def GtAt(A:Around)(s:Shared)(x y:Value)(k:Bool):Prop:=∀(prog:Program) (w:World) (E:Value->Shared->Prop) (Q:Value->Shared->Prop),Q (.bool k) s->wpAny (model prog w) A (richCompare .Gt x y) Q E s
inductive GexAt(A:Around)(s:Shared):List Value->List Value->Bool->Prop
 | nn:GexAt A s [] [] false
 | nc {y:Value}{ys:List Value}:GexAt A s [] (y::ys) false
 | cn {x:Value}{xs:List Value}:GexAt A s (x::xs) [] true
 | eq {x y:Value}{xs ys:List Value}{k:Bool} (h:ABx A s x y true) (t:GexAt A s xs ys k):GexAt A s (x::xs) (y::ys) k
 | ne {x y:Value}{xs ys:List Value}{k:Bool} (h:ABx A s x y false) (t:GtAt A s x y k):GexAt A s (x::xs) (y::ys) k
section
variable{prog:Program}{w:World}{A:Around}{E:Value->Shared->Prop}{s:Shared}{d:Addr}{o:Obj}{es:Array DictEntry}{ep:Nat}{xs:List (D×Value×Value)}{k:D}{key:Value}{hs:D->Int}{Q:Option Nat->Shared->Prop}
theorem lE(he:es.toList=xs.map (vA hs))(j:Nat):es[j]?=(xs[j]?).map (vA hs):=by
 rw[<-AAN,he,AAV]
def vW(xs:List (D×Value×Value))(k:D)(i:Nat)(hit:Option Nat):Prop:=(hit=none/\∀j p,j<i->xs[j]?≠some (k,p))\/∃j p,hit=some j/\j<i/\xs[j]?=some (k,p)
noncomputable def pM(es:Array DictEntry)(h:Int)(i:Nat):Bool:=(es[i]?.map (·.hash))==some h
theorem eY(he:es.toList=xs.map (vA hs))(hskip:∀j,i<=j->j<x->pM es (hs k) j=false)(h:vW xs k i hit)(hix:i<=x):vW xs k x hit:=by
 rcases h with⟨h0,hno⟩|⟨j,p,h1,hji,hj⟩
 ·refine .inl ⟨h0,λj p hjx hj=>?_⟩
  rcases ABR j i with h | h
  ·exact hno j p h hj
  ·have:=hskip j h hjx
   unfold pM at this
   rw[lE he j,hj]at this
   simp[vA]at this
 ·exact .inr ⟨j,p,h1,by lia,hj⟩
theorem bf(h:vW xs k x hit)(hx:xs[x]?=some (k',p'))(hne:¬k'=k):vW xs k (x+1) hit:=by
 rcases h with⟨h0,hno⟩|⟨j,p,h1,hjx,hj⟩
 ·refine .inl ⟨h0,λj p hjx hj=>?_⟩
  rcases ABR j x with h | h
  ·exact hno j p h hj
  ·obtain rfl:j=x:=by lia
   rw[hx]at hj
   exact hne (by injection hj with hj;injection hj)
 ·exact .inr ⟨j,p,h1,by lia,hj⟩
theorem dO(hn:(xs.map (·.1)).Nodup){i j:Nat}{p q:Value×Value}(hi:xs[i]?=some (k,p))(hj:xs[j]?=some (k,q)):i=j:=by
 have hi':(xs.map (·.1))[i]?=some k:=by rw[AAV,hi];rfl
 have hj':(xs.map (·.1))[j]?=some k:=by rw[AAV,hj];rfl
 exact(List.getElem?_inj (AA7.mp hi').1 hn).mp (hi'.trans hj'.symm)
theorem kC(he:es.toList=xs.map (vA hs))(hr:(ADg i (es.size-i)).filter (pM es (hs k))=[])(h:vW xs k i hit):vW xs k xs.length hit:=by
 have hsz:es.size=xs.length:=by rw[<-AAJ,he,AA6]
 rcases ABR i xs.length with hi | hi
 ·refine eY he (λj h1 h2=>?_) h (ACA hi)
  have:=List.filter_eq_nil_iff.mp hr j (List.mem_range'_1.mpr ⟨h1,by lia⟩)
  simpa using this
 ·rcases h with⟨h0,hno⟩|⟨j,p,h1,hji,hj⟩
  ·exact .inl ⟨h0,λj p hj=>hno j p (by lia)⟩
  ·exact .inr ⟨j,p,h1,(AA7.mp hj).1,hj⟩
theorem jD{stored:List Value}{Q:Bool->Shared->Prop}(qk:∀(Q:Bool->Shared->Prop) (E:Value->Shared->Prop),Q true s->wpAny (model prog w) A (eqIsQuiet 8 key) Q E s)
  (qs:∀v∈stored,∀(Q:Bool->Shared->Prop) (E:Value->Shared->Prop),Q true s->wpAny (model prog w) A (eqIsQuiet 8 v) Q E s) (h:Q false s):wpAny (model prog w) A (tableMayTell key stored) Q E s:=by
 unfold tableMayTell
 split
 ·exact AA2 h
 ·refine AA0 (qk _ _ ?_)
  simp only[ABY,AAD,if_false]
  refine AA0 ?_
  refine ABD _ (λax r s'=>s'=s/\r=(none,())/\∀v∈ax,v∈stored) _ ?_ ?_ _ _ ⟨rfl,rfl,λ_ hv=>hv⟩
  ·rintro x ax r s' ⟨rfl,rfl,hr⟩
   refine AA0 (qs x (hr x AAG) _ _ ?_)
   simp only[ABY,AAD,if_false]
   exact AA2 ⟨rfl,rfl,λv hv=>hr v (AA9 _ hv)⟩
  ·rintro r s' ⟨rfl,rfl,_⟩
   exact AA2 h
theorem xG(ho:s.heap.get? d=some o)(hd:o.data=.dict es ep)(he:es.toList=xs.map (vA hs))(hn:(xs.map (·.1)).Nodup)(kk:key=.none\/∃a,key=.ref a)
  (qk:∀(Q:Bool->Shared->Prop) (E:Value->Shared->Prop),Q true s->wpAny (model prog w) A (eqIsQuiet 8 key) Q E s)
  (qx:∀x∈xs,∀(Q:Bool->Shared->Prop) (E:Value->Shared->Prop),Q true s->wpAny (model prog w) A (eqIsQuiet 8 x.2.1) Q E s)
  (inj:∀x∈xs,x.2.1=key->x.1=k)
  (eq:∀x∈xs,∀(Q:Bool->Shared->Prop) (E:Value->Shared->Prop),Q (decide (x.1=k)) s->wpAny (model prog w) A (eqBool x.2.1 key) Q E s)
  (hnone:(∀(j:Nat) (p:Value×Value),xs[j]?≠some (k,p))->Q none s) (hsome:∀(j:Nat) (p:Value×Value),xs[j]?=some (k,p)->Q (some j) s) :
  wpAny (model prog w) A (dictFind d key (hs k)) Q E s:=by
 have hsz:es.size=xs.length:=by rw[<-AAJ,he,AA6]
 have hmem:∀e∈es,∃x∈xs,e=vA hs x:=by
  intro e hin
  have:e∈xs.map (vA hs):=he ▸ Array.mem_toList_iff.mpr hin
  obtain⟨x,hx,rfl⟩:=AAU.mp this
  exact⟨x,hx,rfl⟩
 have hany:¬(es.any λe=>e.key==key&&e.hash != hs k)=true:=by
  rw[<-Array.any_toList,List.any_eq_true]
  rintro⟨e,hin,hc⟩
  obtain⟨x,hx,rfl⟩:=hmem e (Array.mem_toList_iff.mp hin)
  simp only[vA,AAO,beq_iff_eq,bne_iff_ne,ne_eq]at hc
  exact hc.2 (by rw[inj x hx hc.1])
 have hst:∀v∈(placesWithHash es.size (λi=>es[i]?.map (·.hash)) (hs k)).filterMap (λi=>es[i]?.map (·.key)),∃x∈xs,v=x.2.1:=by
  intro v hv
  obtain⟨i,_,hi⟩:=ACC.mp hv
  cases hei:es[i]? with
  | none=>rw[hei]at hi;cases hi
  | some e =>
   rw[hei]at hi
   obtain rfl:e.key=v:=by simpa using hi
   obtain⟨x,hx,rfl⟩:=hmem e (Array.mem_of_getElem? hei)
   exact⟨x,hx,rfl⟩
 have fin:∀hit,vW xs k xs.length hit->Q hit s:=by
  rintro hit (⟨rfl,hno⟩|⟨j,p,rfl,_,hj⟩)
  ·exact hnone λj p hj=>hno j p (AA7.mp hj).1 hj
  ·exact hsome j p hj
 have start:placesWithHash es.size (λi=>es[i]?.map (·.hash)) (hs k)=(ADg 0 (es.size-0)).filter (pM es (hs k)):=by
  rw[placesWithHash,List.range_eq_range',Nat.sub_zero];rfl
 have up0:vW xs k 0 none:=.inl ⟨rfl,λ_ _ h=>absurd h (ABW _)⟩
 have turn:∀{x i:Nat}{ax:List Nat},x::ax=(ADg i (es.size-i)).filter (pM es (hs k))->i<=es.size->∃k' u v,xs[x]?=some (k',u,v)/\es[x]?=some ⟨hs k',u,v⟩/\i<=x/\x+1<=es.size/\ax=(ADg (x+1) (es.size-(x+1))).filter (pM es (hs k))/\∀j,i<=j->j<x->pM es (hs k) j=false:=by
  intro x i ax hr hi
  obtain⟨hix,hxn,hpx,hskip,hrest⟩:=filter_range'_cons _ _ _ _ _ hr.symm
  have hlt:x<es.size:=by lia
  obtain⟨⟨k',u,v⟩,hkv⟩:∃y,xs[x]?=some y:=⟨xs[x]'(by rw[<-hsz];exact hlt),AA5 _⟩
  exact⟨k',u,v,hkv,by rw[lE he x,hkv];rfl,hix,hlt,by rw[hrest];congr 2;lia,hskip⟩
 unfold dictFind
 try with_reducible refine AAg ?_
 refine AA0 (ACS ho hd ?_)
 have qst:∀v∈(placesWithHash es.size (λi=>es[i]?.map (·.hash)) (hs k)).filterMap (λi=>es[i]?.map (·.key)),∀(Q:Bool->Shared->Prop) (E:Value->Shared->Prop),Q true s->wpAny (model prog w) A (eqIsQuiet 8 v) Q E s:=λv hv=>by
  obtain⟨x,hx,rfl⟩:=hst v hv
  exact qx x hx
 rcases kk with rfl | ⟨a,rfl⟩
 ·dsimp only
  by_cases hall:((ABp::(placesWithHash es.size (λi=>es[i]?.map (·.hash)) (hs k)).filterMap (λi=>es[i]?.map (·.key))).all carriedByValue)=true
  ·rw[if_pos hall]
   unfold dictWalkPlain
   refine AA0 ?_
   rw[start]
   refine ABD _ (λax b s'=>s'=s/\b=(none,())/\∃i,ax=(ADg i (es.size-i)).filter (pM es (hs k))/\i<=es.size/\vW xs k i none) _ ?_ ?_ _ _ ⟨rfl,rfl,0,rfl,AAT _,up0⟩
   ·rintro x ax b s' ⟨rfl,rfl,i,hr,hi,hH⟩
    obtain⟨k',u,v,hkv,hex,hix,hlt,hrest,hskip⟩:=turn hr hi
    have hH:=eY he hskip hH hix
    rw[hex]
    dsimp only
    by_cases hh:(hs k'==hs k)=true
    ·rw[if_pos hh]
     refine AA0 (ABo ho hd (AA0 (eq _ (AAe hkv) _ _ (AA0 (ABo ho hd ?_)))))
     show wpAny _ _ (if (ep != ep)=true then _ else _) _ E _
     rw[if_neg (by simp)]
     by_cases hkk:k'=k
     ·rw[dT_ hkk]
      subst hkk
      rw[if_pos rfl]
      exact AA0 (ABr (AA2 (AA2 (hsome x _ hkv))))
     ·rw[dF_ hkk,if_neg (by decide)]
      exact AA0 (ABr (AA2 ⟨rfl,rfl,x+1,hrest,hlt,bf hH hkv hkk⟩))
    ·rw[if_neg hh]
     exact AA2 ⟨rfl,rfl,x+1,hrest,hlt,bf hH hkv λe=>hh (by rw[e];simp)⟩
   ·rintro b s' ⟨rfl,rfl,i,hr,hi,hH⟩
    exact AA2 (fin none (kC he hr.symm hH))
  ·rw[if_neg hall]
   by_cases hone:(((placesWithHash es.size (λi=>es[i]?.map (·.hash)) (hs k)).filterMap (λi=>es[i]?.map (·.key)))==[ABp])=true <;>
   (first | rw[if_pos hone] | rw[if_neg hone])<;>(first | refine AA0 (AA2 ?_) | refine AA0 (jD qk qst ?_))<;>(
    rw[if_neg (by simp)]
    refine AA0 ?_
    rw[start]
    refine ABD _ (λax b s'=>s'=s/\∃i hit,b=(none,hit)/\ax=(ADg i (es.size-i)).filter (pM es (hs k))/\i<=es.size/\vW xs k i hit) _ ?_ ?_ _ _ ⟨rfl,0,none,rfl,rfl,AAT _,up0⟩
    ·rintro x ax b s' ⟨rfl,i,hit,rfl,hr,hi,hH⟩
     obtain⟨k',u,v,hkv,hex,hix,hlt,hrest,hskip⟩:=turn hr hi
     have hH:=eY he hskip hH hix
     rw[hex]
     dsimp only
     by_cases hh:(hs k'==hs k)=true
     ·rw[if_pos hh]
      refine AA0 (ABo ho hd (AA0 (eq _ (AAe hkv) _ _ (AA0 (ABo ho hd ?_)))))
      show wpAny _ _ (if (ep != ep)=true then _ else _) _ E _
      rw[if_neg (by simp)]
      by_cases hkk:k'=k
      ·rw[dT_ hkk]
       subst hkk
       rcases hH with⟨rfl,_⟩|⟨j,p,_,hjx,hj⟩
       ·first | rw[if_pos rfl] | skip
        simp only[Option.isSome_none,AAD,if_false]
        first | refine AA0 (AA2 ?_) | skip
        refine AA0 (ABr ?_)
        split
        ·exact AA2 (AA2 (hsome x _ hkv))
        ·exact AA2 ⟨rfl,x+1,some x,rfl,hrest,hlt,.inr ⟨x,_,rfl,AAt x,hkv⟩⟩
       ·exact absurd (dO hn hj hkv) (by lia)
      ·rw[dF_ hkk]
       simp only[AAD,if_false]
       refine AA0 (ABr ?_)
       first | rw[if_neg (by simp)] | skip
       first
        | exact AA2 ⟨rfl,x+1,hit,rfl,hrest,hlt,bf hH hkv hkk⟩
        | exact AA0 (AA2 (AA2 ⟨rfl,x+1,hit,rfl,hrest,hlt,bf hH hkv hkk⟩))
     ·rw[if_neg hh]
      exact AA2 ⟨rfl,x+1,hit,rfl,hrest,hlt,bf hH hkv λe=>hh (by rw[e];simp)⟩
    ·rintro b s' ⟨rfl,i,hit,rfl,hr,hi,hH⟩
     have z:=fin hit (kC he hr.symm hH)
     exact AA2 z)
 ·dsimp only
  rw[if_neg (show ¬((ABS a::(placesWithHash es.size (λi=>es[i]?.map (·.hash)) (hs k)).filterMap (λi=>es[i]?.map (·.key))).all carriedByValue)=true by simp[carriedByValue]),if_neg hany]
  by_cases hone:(((placesWithHash es.size (λi=>es[i]?.map (·.hash)) (hs k)).filterMap (λi=>es[i]?.map (·.key)))==[ABS a])=true <;>
  (first | rw[if_pos hone] | rw[if_neg hone])<;>(first | refine AA0 (AA2 ?_) | refine AA0 (jD qk qst ?_))<;>(
   rw[if_neg (by simp)]
   refine AA0 ?_
   rw[start]
   refine ABD _ (λax b s'=>s'=s/\∃i hit,b=(none,hit)/\ax=(ADg i (es.size-i)).filter (pM es (hs k))/\i<=es.size/\vW xs k i hit) _ ?_ ?_ _ _ ⟨rfl,0,none,rfl,rfl,AAT _,up0⟩
   ·rintro x ax b s' ⟨rfl,i,hit,rfl,hr,hi,hH⟩
    obtain⟨k',u,v,hkv,hex,hix,hlt,hrest,hskip⟩:=turn hr hi
    have hH:=eY he hskip hH hix
    rw[hex]
    dsimp only
    by_cases hh:(hs k'==hs k)=true
    ·rw[if_pos hh]
     refine AA0 (ABo ho hd (AA0 (eq _ (AAe hkv) _ _ (AA0 (ABo ho hd ?_)))))
     show wpAny _ _ (if (ep != ep)=true then _ else _) _ E _
     rw[if_neg (by simp)]
     by_cases hkk:k'=k
     ·rw[dT_ hkk]
      subst hkk
      rcases hH with⟨rfl,_⟩|⟨j,p,_,hjx,hj⟩
      ·first | rw[if_pos rfl] | skip
       simp only[Option.isSome_none,AAD,if_false]
       first | refine AA0 (AA2 ?_) | skip
       refine AA0 (ABr ?_)
       split
       ·exact AA2 (AA2 (hsome x _ hkv))
       ·exact AA2 ⟨rfl,x+1,some x,rfl,hrest,hlt,.inr ⟨x,_,rfl,AAt x,hkv⟩⟩
      ·exact absurd (dO hn hj hkv) (by lia)
     ·rw[dF_ hkk]
      simp only[AAD,if_false]
      refine AA0 (ABr ?_)
      first | rw[if_neg (by simp)] | skip
      first
       | exact AA2 ⟨rfl,x+1,hit,rfl,hrest,hlt,bf hH hkv hkk⟩
       | exact AA0 (AA2 (AA2 ⟨rfl,x+1,hit,rfl,hrest,hlt,bf hH hkv hkk⟩))
    ·rw[if_neg hh]
     exact AA2 ⟨rfl,x+1,hit,rfl,hrest,hlt,bf hH hkv λe=>hh (by rw[e];simp)⟩
   ·rintro b s' ⟨rfl,i,hit,rfl,hr,hi,hH⟩
    have z:=fin hit (kC he hr.symm hH)
    exact AA2 z)
end
section
variable{X:Cx}{pins:List (Addr×Obj)}{σ:St}{H:Hp}{s:Shared}{ρ:List Addr}{M:Mem}{kvs:List (D×D)}{xs:List (D×Value×Value)}
theorem uU(h:rN d=true):okD M 8 d=true:=by
 cases d with
 | non=>rfl
 | tup ks=>exact lp 8 _ h
 | _=>cases h
theorem jd(I:Inv X pins σ H s)(r:Rep X.K ρ H k u)(e:aC u key)(hk:rN k=true):(k=.non/\key=.none)\/∃ks a,k=.tup ks/\key=.ref a/\dh s.heap 8 (.tup ks) (.ref a):=by
 cases k with
 | non=>obtain rfl:=Rep.inv_non r;exact .inl ⟨rfl,e⟩
 | tup ks =>
  have kat:=fQ I 8 _ _ _ r e hk
  obtain⟨a,its,rfl,h⟩:=id kat
  exact .inr ⟨ks,a,rfl,rfl,kat⟩
 | _=>cases hk
theorem qq(I:Inv X pins σ H s)(hu:A.units+8<cLine)(r:Rep X.K ρ H k u)(e:aC u key)(hk:rN k=true)(h:∀tk,Q (hkM X.w k) { s with toks:=tk }):wpAny (model X.prog X.w) A (pyHash key) Q E s:=by
 rcases jd I r e hk with⟨rfl,rfl⟩|⟨ks,a,rfl,rfl,kat⟩
 ·exact PySem.W.pyHash_slot (T:="NoneType") rfl PySem.F.slot_NoneType_hash PySem.F.entry_NoneType_hash (PySem.F.args_NoneType_hash_1 _) (beq_builtin_none _) (.inr (by lia)) (AA0 (AA2 (AA0 (wpAny_mkInt (AA2 ⟨_,_,rfl,h _⟩)))))
 ·exact kn 8 _ _ _ _ _ _ hu kat (h _)
theorem DQ(I:Inv X pins σ H s)(sm:Sim X.K ρ M H)(hu:A.units+8<cLine)(r:Rep X.K ρ H k u)(e:aC u key)(hk:rN k=true)(r':Rep X.K ρ H k' u')(e':aC u' key')(hk':rN k'=true) :
  ABx A s key key' (decide (k=k')):=by
 have h:=(gD I sm 8 A k k' _ _ _ _ hu r e r' e' (uU hk) (uU hk')).1
 have q:eqD M 8 k k'=decide (k=k'):=by
  cases k with
  | non=>cases k' with
   | non=>rw[dT_ rfl];rfl
   | tup _=>rw[dF_ λz=>by cases z];rfl
   | _=>cases hk'
  | tup ks=>cases k' with
   | non=>rw[dF_ λz=>by cases z];rfl
   | tup ks'=>rw[Bool.eq_iff_iff,eP 8 _ _ hk hk',decide_eq_true_eq]
   | _=>cases hk'
  | _=>cases hk
 rw[q]at h
 exact h
theorem mE(I:Inv X pins σ H s)(r:Rep X.K ρ H k u)(e:aC u key)(hk:rN k=true)(h:Q true s):wpAny (model X.prog X.w) A (eqIsQuiet 8 key) Q E s:=by
 rcases jd I r e hk with⟨rfl,rfl⟩|⟨ks,a,rfl,rfl,kat⟩
 ·exact AA2 h
 ·exact je 8 8 _ _ _ _ _ _ (AA8 _) kat h
theorem wJ:∀{kvs:List (D×D)}{xs:List (D×Value×Value)}{x:D×Value×Value},Paired (KvM X.K ρ H) kvs xs->x∈xs->∃p∈kvs,KvM X.K ρ H p x
 | _,_,x,.cons q t,h=>by
  rcases AAK.mp h with rfl | h
  ·exact⟨_,AAG,q⟩
  ·obtain⟨p,hp,z⟩:=wJ t h
   exact⟨p,AA9 _ hp,z⟩
theorem gR(r:Paired (KvM X.K ρ H) kvs xs):xs.map (·.1)=kvs.map (·.1):=by
 induction r with
 | nil=>rfl
 | cons h t ih=>rw[AAf,AAf,ih,h.1]
theorem lh(r:Paired (KvM X.K ρ H) kvs xs)(k:D):(aY kvs k=none/\∀(j:Nat) (p:Value×Value),xs[j]?≠some (k,p))\/∃(d:D) (v:V) (j:Nat) (u u':Value),aY kvs k=some d/\xs[j]?=some (k,u,u')/\Rep X.K ρ H d v/\aC v u':=by
 unfold aY
 induction r with
 | nil=>exact .inl ⟨rfl,λj p z=>by simp at z⟩
 | @cons p q ps qs h t ih =>
  obtain⟨h1,_,_,v,h4,h5⟩:=h
  rw[ADU]
  by_cases e:p.1=k
  ·rw[dT_ e]
   exact .inr ⟨_,v,0,q.2.1,q.2.2,rfl,by rw[ADV,<-e,h1],h4,h5⟩
  ·rw[dF_ e]
   rcases ih with⟨g,no⟩|⟨d,v,j,u,u',g,ej,rd,rv⟩
   ·refine .inl ⟨g,λj p' z=>?_⟩
    cases j with
    | zero=>rw[ADV]at z;injection z with z;exact e (by rw[h1,z])
    | succ j=>rw[ABv]at z;exact no j p' z
   ·exact .inr ⟨d,v,j+1,u,u',g,by rw[ABv];exact ej,rd,rv⟩
theorem vB(I:Inv X pins σ H s)(sm:Sim X.K ρ M H){n:Nat}{a:Addr}(e:ρ[n]?=some a)(hM:M[n]?=some (.dkm kvs)) :
  ∃xs,H a=some (.ext (dM a xs))/\Paired (KvM X.K ρ H) kvs xs/\dM a xs X.prog X.w s.heap/\(a==sysModules)=false/\kvs.length<=sizeLine/\xs.length=kvs.length/\(kvs.map (·.1)).Nodup:=by
 obtain⟨h1,h2,h3,xs,hH,r⟩:=sm.obj _ _ _ e hM
 refine⟨xs,hH,r,(show bJ X.prog X.w H s.heap a (.ext (dM a xs))from I.hok a _ hH).1,h2,h1,?_,h3⟩
 have:=congrArg AC1 (gR r)
 rwa [AA6,AA6]at this
theorem vp(I:Inv X pins σ H s)(sm:Sim X.K ρ M H)(hu:A.units+8<cLine)(r:Paired (KvM X.K ρ H) kvs xs)(nd:(kvs.map (·.1)).Nodup)
  (ho:s.heap.get? a=some o) (hd:o.data=.dict es ep) (he:es.toList=xs.map (vA (hkM X.w))) (rk:Rep X.K ρ H k u) (ek:aC u key) (hk:rN k=true)
  (hnone:(∀(j:Nat) (p:Value×Value),xs[j]?≠some (k,p))->Q none s) (hsome:∀(j:Nat) (p:Value×Value),xs[j]?=some (k,p)->Q (some j) s):wpAny (model X.prog X.w) A (dictFind a key (hkM X.w k)) Q E s:=by
 refine xG ho hd he (by rw[gR r];exact nd) ?_ (λQ E h=>mE I rk ek hk h) (λx hx Q E h=>?_) (λx hx e=>?_) (λx hx Q E h=>?_) hnone hsome
 ·rcases jd I rk ek hk with⟨rfl,rfl⟩|⟨ks,b,rfl,rfl,_⟩
  ·exact .inl rfl
  ·exact .inr ⟨b,rfl⟩
 ·obtain⟨p,_,q1,q2,⟨u',q3,q4⟩,_⟩:=wJ r hx
  exact mE I q3 q4 q2 h
 ·obtain⟨p,_,q1,q2,⟨u',q3,q4⟩,_⟩:=wJ r hx
  rw[e]at q4
  rw[<-q1]
  rcases jd I q3 q4 q2 with⟨e1,e2⟩|⟨ks,b,e1,e2,kat⟩<;>rcases jd I rk ek hk with⟨f1,f2⟩|⟨ks',b',f1,f2,kat'⟩
  ·rw[e1,f1]
  ·rw[e2]at f2;cases f2
  ·rw[e2]at f2;cases f2
  ·rw[e2]at f2;cases f2
   rw[e1,f1]
   exact jf 8 _ _ _ kat kat'
 ·obtain⟨p,_,q1,q2,⟨u',q3,q4⟩,_⟩:=wJ r hx
  rw[<-q1]at h
  exact DQ I sm hu q3 q4 q2 rk ek hk _ _ _ _ h
theorem Sim.writeM(S:Sim X.K ρ M H)(e1:ρ[n]?=some a)(hM:M[n]?=some (.dkm kvs))(hH:H a=some (.ext (dM a xs)))(hl:kvs'.length<=sizeLine)(hs:(a==sysModules)=false)(nd:(kvs'.map (·.1)).Nodup)(r:Paired (KvM X.K ρ H) kvs' xs') :
  Sim X.K ρ (M.set n (.dkm kvs')) (upd H a (.ext (dM a xs')))/\Grow X.K ρ H ρ (upd H a (.ext (dM a xs'))):=by
 have g:Grow X.K ρ H ρ (upd H a (.ext (dM a xs'))):=⟨AC2,λ_ _ h=>SqT.writtenX hH h⟩
 have hk:∀m,m≠n->(M.set n (.dkm kvs'))[m]?=M[m]?:=λm hm=>AAZ (ABO hm)
 have notK:¬isK M[n]?:=λ⟨_,z⟩=>by rw[hM]at z;cases z
 refine⟨⟨λm m' b hne f1 f2=>?_,by rw[AAp];exact S.len,λm b mo f1 f2=>?_⟩,g⟩
 ·have q:=S.nd m m' b hne f1 f2
  by_cases h1:m=n
  ·subst h1
   rw[hk m' (ABO hne)]
   exact .inr (q.resolve_left notK)
  ·rw[hk m h1]
   by_cases h2:m'=n
   ·subst h2
    exact .inl (q.resolve_right notK)
   ·rw[hk m' h2]
    exact q
 by_cases hm:m=n
 ·subst hm
  obtain rfl:b=a:=AAQ (f1.symm.trans e1)
  rw[AAa (by rw[<-S.len];exact(AA7.mp e1).1)]at f2
  cases f2
  refine⟨hl,hs,nd,xs',ay,Paired.mapP r ?_⟩
  rintro _ _ ⟨q1,q2,⟨u,q3,q3'⟩,v,q4,q5⟩
  exact⟨q1,q2,⟨u,q3.grow g,q3'⟩,v,q4.grow g,q5⟩
 ·rw[hk m hm]at f2
  by_cases hb:b=a
  ·subst hb
   have q':=(S.nd m n b hm f1 e1).resolve_right notK
   rw[f2]at q'
   exact(S.obj m b mo f1 f2).grow g (.inr q')
  ·exact(S.obj m b mo f1 f2).grow g (.inl (ag hb))
theorem qv(d:dM a xs P w h'):bJ P w H' h' a (.ext (dM a xs)):=by
 obtain⟨o,es,e1,e2,e3,e4⟩:=d
 refine⟨⟨o,es,e1,e2,e3,e4⟩,⟨o,e1⟩,?_⟩
 rintro h1 h2 ⟨o,es,e1,e2,e3,e4⟩ k
 exact⟨o,es,k _ e1,e2,e3,e4⟩
theorem mG(h:aY kvs k=none):eK kvs k d=kvs++[(k,d)]:=by
 unfold eK
 rw[h];rfl
theorem uf(r:Paired (KvM X.K ρ H) kvs xs)(h:KvM X.K ρ H p q):Paired (KvM X.K ρ H) (kvs++[p]) (xs++[q]):=by
 induction r with
 | nil=>exact .cons h .nil
 | cons z _ ih=>exact .cons z ih
end
section
variable{X:Cx}{o i value:Expr}{td ty tv:DTE}{pos pos':Pos}{k:Nat}
def xT:DTE:=λ_ M Q=>Q (.ref M.length) (M++[.dkm []])
theorem Et:DE X (.Dict [] [] pos) xT:=by
 rintro pins s σ H R I ⟨S,M,ρ,Q,sm,sr,q,kk⟩
 have hf:H s.heap.objs.size=none:=I.hok.fresh (AA8 _)
 have hb:(s.heap.objs.size==sysModules)=false:=beq_eq_false_iff_ne.mpr (ABO (AAL I.big))
 refine wpAny_Dict_empty ⟨.ref s.heap.objs.size,_,I.laid (a:=s.heap.objs.size) (o:=.ext (dM s.heap.objs.size [])) (t':=s.toks) (λ_ _ q=>AA4 _ q) (AA8 _) (qv ⟨_,#[],AAE _ rfl,⟨rfl,rfl,rfl⟩,rfl,rfl⟩),rfl,?_⟩
 exact kk _ _ ⟨.ref M.length,M++[.dkm []],ρ++[s.heap.objs.size],sm.laidM (mo:=.dkm []) hf ⟨AAT _,hb,ADk,[],ay,.nil⟩,Grow.laidR hf,.ref sm.last,(show Q (.ref M.length) (M++[.dkm []])from q)⟩
def dMm(r:Nat->DRA)(to:DTE)(t:DTA):DTE:=λS M Q=>to S M λx M1=>match x with
 | .ref n=>(∃kvs,M1[n]?=some (.dkm kvs))/\t S M1 λds M2=>r n ds M2 Q
 | _=>False
variable{name:Str}{id:String}{e:Expr}{es:List Expr}{to:DTE}{t:DTA}{apos cpos:Pos}
theorem d_mm{r:Nat->DRA}(slot:Slot "dict" name id)(hty:typeOf (.builtin id)=pure (.type "method_descriptor"))(hm:MtR X id (jx X.K r))(ho:DE X o to)(ha:DA X (e::es) t)
  (hbase:attributeBase o name X.env (eval o X.env)=eval o X.env:=by rfl)
  (hfew:((backTo cpos (starEach (e::es) X.env)).all (λx=>!x.1)&&(backToKw cpos (keywordEach [] X.env)).all (λx=>x.1.isSome)
   && decide ((e::es).length+([]:List Keyword).length+(if ([]:List Keyword).isEmpty then 0 else 1)<30))=true:=by rfl)
  (hline:(apos.endLine==cpos.line)=true:=by rfl) (hs:starEach (e::es) X.env=(false,eval e X.env)::starEach es X.env:=by rfl) (hplain:(backTo cpos (starEach es X.env)).any (·.1)=false:=by rfl) :
  DE X (.Call (.Attribute o name apos) (e::es) [] cpos) (dMm r to t):=by
 rintro pins s σ H R I ⟨S,M,ρ,Q,sm,sr,q,kk⟩
 refine ADZ hbase hfew hline rfl (thn (ho pins s σ H _ I ⟨S,M,ρ,_,sm,sr,q,λv H' z=>z⟩) ?_)
 rintro u s1 ⟨v,H1,I1,rv,x,M1,ρ1,sm1,g1,r1,q1⟩
 cases r1 with
 | @ref n a hn =>
  obtain rfl:u=ABS a:=rv
  obtain⟨⟨kvs,hM⟩,q1⟩:=(show (∃kvs,M1[n]?=some (.dkm kvs))/\t S M1 _ from q1)
  obtain⟨xs,hH,r,⟨ob,eb,h1,h2,h3,h4⟩,hsm,hl,hx,nd⟩:=vB I1 sm1 hn hM
  refine⟨"dict",id,ACZ,slot,hty,⟨ob,h1,h2.1⟩,λb z=>?_,?_⟩
  ·cases z
   exact⟨ob,h1,h2.2.1⟩
  ·have hA:=ha cpos pins s1 σ H1 _ I1 ⟨S,M1,ρ1,_,sm1,sr.grow g1,q1,λvs H' z=>z⟩
   rw[hs]at hA ⊢
   refine ABg (by show (false||(backTo cpos (starEach es X.env)).any (·.1))=false;rw[hplain]<;>rfl) (ACw ?_)
   refine thn hA ?_
   rintro us s2 ⟨vs,H2,I2,rvs,ds,M2,ρ2,sm2,g2,rr,q2⟩
   exact hm pins s2 σ H2 (.ref a) vs (.ref a) us R I2 rfl rvs ⟨n,a,ds,M2,ρ2,Q,rfl,av g2.pre hn,sm2,rr,q2,λv H' w=>kk v H' (VQ.trans (g1.trans g2) w)⟩
 | _=>exact q1.elim
def kb(n:Nat):DRA:=λds M Q=>match ds with
 | [k,d]=>∃kvs,M[n]?=some (.dkm kvs)/\rN k=true/\Q ((aY kvs k).getD d) M
 | _=>False
theorem wW(hr:Room k X.A):MtR X "dict.get" (jx X.K kb):=by
 rintro pins s σ H x xs v us R I rx rs ⟨n,a,ds,M,ρ,Q,ez,hn,sm,rr,q,kk⟩
 have un:=hr.un
 unfold kb at q
 split at q
 ·rename_i k d
  obtain⟨kvs,hM,kd,q⟩:=q
  have hzz:=Reps.inv_cons rr
  clear rr
  obtain⟨_,_,rfl,r1,rr⟩:=hzz
  have hzz:=Reps.inv_cons rr
  clear rr
  obtain⟨_,_,rfl,r2,rr⟩:=hzz
  obtain rfl:=Reps.inv_nil rr
  obtain⟨u1,u2,rfl,e1,e2⟩:=au.two rs
  subst ez
  obtain rfl:v=ABS a:=rx
  obtain⟨ys,hH,r,⟨ob,eb,h1,h2,h3,h4⟩,hsm,hl,hx,nd⟩:=vB I sm hn hM
  refine call_meetsIn ACn ⟨ob,h1,h2.1⟩ PySem.F.entry_dict_get (PySem.F.args_dict_get_3 _ _ _) (.of_wp λA R s (h:wpAny (model X.prog X.w) A.in1 (Builtin.«dict.get» ⟨[.ref a,u1,u2],[]⟩) (λfin s'=>∃v,fin=.done (.ret v)/\R (.ok (.ret v)) s') (λe s'=>R (.error e) s') s)=>h) ?_
  show wpAny _ _ (dictGet a u1 >>= _) _ _ s
  unfold dictGet
  refine AA0 ?_
  try with_reducible refine AAg ?_
  refine AA0 (qq I (by show X.A.units+1+8<cLine;lia) r1 e1 kd λtk=>?_)
  refine AA0 (vp (I.tok tk) sm (by show X.A.units+1+8<cLine;lia) r nd h1 h3 h4 r1 e1 kd (λno=>?_) λj p hj=>?_)
  ·rcases lh r k with⟨z1,_⟩|⟨d',v',j,u,u',z1,z2,z3,z4⟩
   ·rw[z1]at q
    refine AA2 ?_
    show wpAny _ _ (Builtin.Dict.missed a u1 >>= _) _ _ _
    exact AA0 (wpAny_missed_other hsm (AA2 ⟨u2,rfl,_,H,I.tok _,e2,kk _ _ ⟨d,M,ρ,sm,.refl,r2,q⟩⟩))
   ·exact absurd z2 (no j _)
  ·refine AA0 (ACS (s:={ s with toks:=tk }) h1 h3 ?_)
   rcases lh r k with⟨_,no⟩|⟨d',v',j',u,u',z1,z2,z3,z4⟩
   ·exact absurd hj (no j p)
   ·have:j=j':=dO (by rw[gR r];exact nd) hj z2
    subst this
    rw[hj]at z2
    rw[lE h4 j,hj]
    rw[z1]at q
    obtain rfl:p=(u,u'):=by injection z2 with z2;injection z2
    exact AA2 (AA2 ⟨u',rfl,v',H,I.tok _,z4,kk _ _ ⟨d',M,ρ,sm,.refl,z3,q⟩⟩)
 ·exact q.elim
def mF(n:Nat):DRA:=λds M Q=>match ds with
 | [k,d]=>∃kvs,M[n]?=some (.dkm kvs)/\rN k=true/\kvs.length<sizeLine/\(∀y,aY kvs k=some y->Q y M)/\(aY kvs k=none->Q d (M.set n (.dkm (kvs++[(k,d)]))))
 | _=>False
theorem wV(hr:Room k X.A):MtR X "dict.setdefault" (jx X.K mF):=by
 rintro pins s σ H x xs v us R I rx rs ⟨n,a,ds,M,ρ,Q,ez,hn,sm,rr,q,kk⟩
 have un:=hr.un
 unfold mF at q
 split at q
 ·rename_i k d
  obtain⟨kvs,hM,kd,kl,q1,q2⟩:=q
  have hzz:=Reps.inv_cons rr
  clear rr
  obtain⟨_,_,rfl,r1,rr⟩:=hzz
  have hzz:=Reps.inv_cons rr
  clear rr
  obtain⟨_,_,rfl,r2,rr⟩:=hzz
  obtain rfl:=Reps.inv_nil rr
  obtain⟨u1,u2,rfl,e1,e2⟩:=au.two rs
  subst ez
  obtain rfl:v=ABS a:=rx
  obtain⟨ys,hH,r,⟨ob,eb,h1,h2,h3,h4⟩,hsm,hl,hx,nd⟩:=vB I sm hn hM
  have esz:eb.size=ys.length:=by rw[<-AAJ,h4,AA6]
  refine call_meetsIn PySem.F.slot_dict_setdefault ⟨ob,h1,h2.1⟩ PySem.F.entry_dict_setdefault (PySem.F.args_dict_setdefault_3 _ _ _) (.of_wp λA R s (h:wpAny (model X.prog X.w) A.in1 (Builtin.«dict.setdefault» ⟨[.ref a,u1,u2],[]⟩) (λfin s'=>∃v,fin=.done (.ret v)/\R (.ok (.ret v)) s') (λe s'=>R (.error e) s') s)=>h) ?_
  unfold Builtin.«dict.setdefault»
  refine AA0 ?_
  unfold Builtin.Dict.keyAndDefault
  refine AA0 (ADo (show s.TypeIs (.ref a) "dict" from⟨ob,h1,h2.1⟩) ?_)
  show wpAny _ _ (pure (a,u1,some u2)) _ _ s
  refine AA2 ?_
  show wpAny _ _ (if (a==sysModules)=true then _ else(dictSetDefault a u1 u2 >>= _)) _ _ s
  rw[if_neg (by rw[hsm];exact ABQ)]
  unfold dictSetDefault
  refine AA0 ?_
  try with_reducible refine AAg ?_
  refine AA0 (qq I (by show X.A.units+1+8<cLine;lia) r1 e1 kd λtk=>?_)
  refine AA0 (vp (I.tok tk) sm (by show X.A.units+1+8<cLine;lia) r nd h1 h3 h4 r1 e1 kd (λno=>?_) λj p hj=>?_)
  ·have gn:aY kvs k=none:=by
    rcases lh r k with⟨z1,_⟩|⟨_,_,j,_,_,_,z2,_⟩
    ·exact z1
    ·exact absurd z2 (no j _)
   have nd':((kvs++[(k,d)]).map (·.1)).Nodup:=by
    rw[<-mG gn];exact oi nd
   obtain⟨w1,w2⟩:=sm.writeM (xs':=ys++[(k,u1,u2)]) hn hM hH (by rw[AAA,AAX];lia) hsm nd' (uf r ⟨rfl,kd,⟨_,r1,e1⟩,_,r2,e2⟩)
   have sb:ACB a s.heap (s.heap.update a (Obj.mapDictKeys λe=>e.push ⟨hkM X.w k,u1,u2⟩)):=AAy ..
   have dd':dM a (ys++[(k,u1,u2)]) X.prog X.w (s.heap.update a (Obj.mapDictKeys λe=>e.push ⟨hkM X.w k,u1,u2⟩)):=by
    refine⟨_,eb.push ⟨hkM X.w k,u1,u2⟩,AAi _ h1 (AE4 (ACy h3 _)),h2.mapDictKeys _,?_,?_⟩
    ·rw[ACy h3,AAA];rfl
    ·rw[Array.toList_push,h4,AAq];rfl
   have he:∃q,(s.heap.update a (Obj.mapDictKeys λe=>e.push ⟨hkM X.w k,u1,u2⟩)).get? a=some q:=let ⟨q,_,hq,_⟩:=dd';⟨q,hq⟩
   refine AA0 (ABr (AA0 (wpAny_updateDictKeys (hz:=by lia) (s:={ s with toks:=tk }) h1 h3 (AA2 (AA2 ⟨u2,rfl,?_⟩)))))
   exact⟨_,_,vG (I.tok tk) (by rw[hH];exact AEG) sb he (qv dd'),e2,kk _ _ ⟨d,_,ρ,w1,w2,r2.grow w2,q2 gn⟩⟩
  ·refine AA0 (ACS (s:={ s with toks:=tk }) h1 h3 ?_)
   rcases lh r k with⟨_,no⟩|⟨d',v',j',u,u',z1,z2,z3,z4⟩
   ·exact absurd hj (no j p)
   ·have:j=j':=dO (by rw[gR r];exact nd) hj z2
    subst this
    rw[hj]at z2
    rw[lE h4 j,hj]
    obtain rfl:p=(u,u'):=by injection z2 with z2;injection z2
    exact AA0 (ABr (AA2 (AA2 ⟨u',rfl,v',H,I.tok _,z4,kk _ _ ⟨d',M,ρ,sm,.refl,z3,q1 _ z1⟩⟩)))
 ·exact q.elim
end
section
variable{X:Cx}{tg o:Expr}{to:DTE}{e:Expr}{es:List Expr}{t:DTA}{pos apos cpos:Pos}{k:Nat}
theorem Dj:HE X (.Dict [] [] pos) xT:=⟨Et⟩
theorem Dk(hr:Room k X.A)(ho:HE X o to)(ha:HA X (e::es) t)(hbase:attributeBase o "get" X.env (eval o X.env)=eval o X.env:=by kernel_rfl)
  (hfew:((backTo cpos (starEach (e::es) X.env)).all (λx=>!x.1)&&(backToKw cpos (keywordEach [] X.env)).all (λx=>x.1.isSome)
   && decide ((e::es).length+([]:List Keyword).length+(if ([]:List Keyword).isEmpty then 0 else 1)<30))=true:=by kernel_rfl)
  (hline:(apos.endLine==cpos.line)=true:=by kernel_rfl) (hs:starEach (e::es) X.env=(false,eval e X.env)::starEach es X.env:=by kernel_rfl) (hplain:(backTo cpos (starEach es X.env)).any (·.1)=false:=by kernel_rfl) :
  HE X (.Call (.Attribute o "get" apos) (e::es) [] cpos) (dMm kb to t):=⟨d_mm ACn PySem.F.type_dict_get (wW hr) ho.ok ha.ok hbase hfew hline hs hplain⟩
theorem Di(hr:Room k X.A)(ho:HE X o to)(ha:HA X (e::es) t)(hbase:attributeBase o "setdefault" X.env (eval o X.env)=eval o X.env:=by kernel_rfl)
  (hfew:((backTo cpos (starEach (e::es) X.env)).all (λx=>!x.1)&&(backToKw cpos (keywordEach [] X.env)).all (λx=>x.1.isSome)
   && decide ((e::es).length+([]:List Keyword).length+(if ([]:List Keyword).isEmpty then 0 else 1)<30))=true:=by kernel_rfl)
  (hline:(apos.endLine==cpos.line)=true:=by kernel_rfl) (hs:starEach (e::es) X.env=(false,eval e X.env)::starEach es X.env:=by kernel_rfl) (hplain:(backTo cpos (starEach es X.env)).any (·.1)=false:=by kernel_rfl) :
  HE X (.Call (.Attribute o "setdefault" apos) (e::es) [] cpos) (dMm mF to t):=⟨d_mm PySem.F.slot_dict_setdefault PySem.F.type_dict_setdefault (wV hr) ho.ok ha.ok hbase hfew hline hs hplain⟩
def BI(n:Nat):DRA:=λds M Q=>match ds with
 | []=>∃xs d,M[n]?=some (.lst (xs++[d]))/\Q d (M.set n (.lst xs))
 | _=>False
theorem zH:MtR X "list.pop" (jx X.K BI):=by
 rintro pins s σ H x xs v us R I rx rs ⟨n,a,ds,M,ρ,Q,ez,hn,sm,rr,q,k⟩
 unfold BI at q
 split at q
 ·obtain⟨ys,d,e,q⟩:=q
  obtain rfl:=Reps.inv_nil rr
  obtain⟨vs,hH,r⟩:=sm.obj n a _ hn e
  have lr:=r.length
  rw[AAA,AAX]at lr
  obtain⟨y,hy,ry⟩:=r.get (i:=ys.length) (d:=d) (by simp)
  have rd:Reps X.K ρ H ys vs.dropLast:=by
   have:=r.take ys.length
   rw[List.take_left]at this
   rw[List.dropLast_eq_take,<-lr,ADS]
   exact this
  obtain⟨w1,w2⟩:=sm.write hn e hH rd
  exact Cz pins s σ H x _ v us R I rx rs ⟨a,vs,y,ez,rfl,hH,by rw[<-lr,ADS];exact hy,k _ _ ⟨d,_,ρ,w1,w2,ry.grow w2,q⟩⟩
 ·exact q.elim
theorem Dz:HMl X "pop" BI:=⟨_,PySem.F.slot_list_pop,PySem.F.type_list_pop,zH⟩
noncomputable def Itb(K:AA3)(a:Addr)(n:Nat):It :=
 ⟨λi H=>i<n/\∃xs x,SqL K H a xs/\xs[n-1-i]?=some x,λi H x H'=>H'=H/\∀xs,SqL K H a xs->xs[n-1-i]?=some x,λi H=>i=n⟩
theorem we{P:Program}{w:World}{K:AA3}{tg:Expr}(a it:Addr)(n:Nat):Turn P w K tg (Itb K a n) [it] it (λi h=>i<=n/\h.IsRevIter it a ((n:Int)-1-(i:Int))) where
 mem:=by simp
 obj:=λi h st b hb=>by
  obtain rfl:b=it:=by simpa using hb
  obtain⟨_,o,e,c,d⟩:=st
  exact⟨o,e,λv z=>by rw[d]at z;cases z⟩
 keep:=λi h h' st k=>⟨st.1,st.2.at λo e=>k it (by simp) o e⟩
 item:=by
  intro X hP hw hK hc i pins s σ H E I hf st hg
  subst hP hw hK
  obtain⟨hi,xs,x,hq,hx⟩:=hg
  obtain⟨its,rv,p,hz⟩:=I.list hq
  obtain⟨u,hu,ru⟩:=rv.get hx
  obtain⟨f0,f1,f2,f3,f4,f5⟩:=hf it (by simp)
  have st2:=st.2
  rw[show (n:Int)-1-(i:Int)=((n-1-i:Nat):Int) by lia]at st2
  refine wpAny_pyNext_rev_item st2 p.isList (x:=u) (by simpa using hu) λh' st' sb=>?_
  rw[show ((n-1-i:Nat):Int)-1=(n:Int)-1-((i+1:Nat):Int) by lia]at st'
  have I1:Inv X pins σ H { s with heap:=h' }:=I.turned (t':=s.toks) (λb o hb e=>(sb.2 b hb).trans e) f0 f1 f3 f4 f5
  obtain⟨o,e,c,d⟩:=id st'
  exact⟨u,rfl,rT (s:={ s with heap:=h' }) e c d (by decide) ⟨x,H,I1,ru,⟨rfl,λys hy=>by rw[I.list_inj hy hq];exact hx⟩,⟨hi,st'⟩,λb hb=>(hf b hb).1⟩⟩
 done:=by
  intro X hP hw hK hc i pins s σ H E I hf st hg
  subst hP hw hK
  obtain rfl:i=n:=hg
  obtain⟨f0,f1,f2,f3,f4,f5⟩:=hf it (by simp)
  have st2:=st.2
  rw[show (i:Int)-1-(i:Int) = -1 by lia]at st2
  exact wpAny_pyNext_rev_end (I.ok.hd hc) st2 λh' eb=>⟨rfl,I.turned (t':=s.toks) (λb o hb e=>eb b o hb e) f0 f1 f3 f4 f5⟩
 self:=λ_ _ _ _ _ st h=>wpAny_pyIter_revIter st.2 h
theorem lJ:bootBuiltins "reversed" = some (.type "reversed"):=by decide +kernel
def xS(ta:DTA):DTI:=λS M R=>ta S M λds M1=>match ds with
 | [.ref n]=>∃xs,am M1 n xs/\(xs.length<=sizeLine->R ⟨xs.reverse,λM=>am M n xs⟩ M1)
 | _=>False
theorem Ej{a:Expr}{ta:DTA}{p pos:Pos}(hm:X.mg "reversed" = none)(ha:DA X [a] ta)(hg:Gl X "reversed":=by rfl)(hs:starEach [a] X.env=[(false,eval a X.env)]:=by rfl):DI X tg (.Call (.Name "reversed" p) [a] [] pos) (xS ta):=by
 intro pins s σ H R I h
 obtain⟨S,M,ρ,Q,sm,sr,hq,k⟩:=h
 refine Call_ (eH I hg hm lJ (AC0 (thn (ha pos pins s σ H _ I ⟨S,M,ρ,_,sm,sr,hq,λv H' w=>w⟩) ?_) hs rfl))
 rintro us s1 ⟨vs,H1,I1,r1,ds,M1,ρ1,sm1,g1,rr,q1⟩
 try dsimp only at q1
 split at q1
 ·rename_i n
  obtain⟨xs,hL,q2⟩:=q1
  have hzz:=Reps.inv_cons rr
  clear rr
  obtain⟨_,_,rfl,d1,rr⟩:=hzz
  obtain rfl:=Reps.inv_nil rr
  obtain⟨u,rfl,e1⟩:=au.one r1
  obtain⟨a,rfl,hn⟩:=Rep.inv_ref d1
  obtain rfl:u=ABS a:=e1
  obtain⟨ws,hw,r⟩:=am.seq sm1 hL hn
  obtain⟨its,rv,p,hz⟩:=I1.list hw
  have lr:=r.length
  have lv:=rv.length
  refine call_reversed_list p.isList ?_
  refine wpAny_pyIter_revIter (l:=a) (i:=((its.toArray.size:Int)-1)) ⟨_,AAE _ rfl,rfl,rfl⟩ ?_
  refine⟨s1.heap.objs.size,[s1.heap.objs.size],_,_,H1,rfl,I1.kept (t':=s1.toks) λb o e=>AA4 _ e,we a _ xs.length,⟨AAT _,_,AAE _ rfl,rfl,?_⟩,λb hb=>?_,k _ H1 ⟨⟨xs.reverse,λM=>am M n xs⟩,M1,ρ1,sm1,g1,?_,q2 (by lia)⟩⟩
  ·show Data.fields #[.ref a,rawInt ((its.toArray.size:Int)-1)]=Data.fields #[.ref a,rawInt ((xs.length:Int)-1-((0:Nat):Int))]
   rw[AAC,<-lv,<-lr,show ((xs.length:Int)-1-((0:Nat):Int))=(xs.length:Int)-1 by lia]
  ·obtain rfl:b=s1.heap.objs.size:=by simpa using hb
   exact I1.fpOk (AA8 _) (I1.hok.fresh (AA8 _))
  ·refine⟨λi ρ' M' H' s' g ok hi=>?_,λi ρ' M' H' x H2 s' g ok hi y=>?_,λρ' M' H' s' g ok=>?_⟩
   ·rw[ACa]at hi
    obtain⟨vs,h,r⟩:=am.seq s' ok (av g.pre hn)
    have hl:xs.length-1-i<vs.length:=by rw[<-r.length];lia
    exact⟨hi,vs,vs[xs.length-1-i],h,AA5 hl⟩
   ·rw[ACa]at hi
    obtain⟨rfl,y⟩:=y
    obtain⟨vs,h,r⟩:=am.seq s' ok (av g.pre hn)
    obtain⟨d,hd,rd⟩:=r.getV (y vs h)
    exact⟨d,ρ',by rw[List.getElem?_reverse hi];exact hd,s',.refl,rd⟩
   ·exact(ACa:xs.reverse.length=xs.length)
 ·exact q1.elim
theorem CU(hm:X.mg "reversed" = none)(ha:HA X [a] ta)(hg:X.env.kindOf "reversed" = some .globalImplicit:=by kernel_rfl)(hs:starEach [a] X.env=[(false,eval a X.env)]:=by kernel_rfl):HI X tg (.Call (.Name "reversed" p) [a] [] pos) (xS ta):=⟨Ej hm ha.ok hg hs⟩
end
section
open PySem.W
variable{prog:Program}{w:World}{A:Around}{E:Value->Shared->Prop}{s:Shared}{K:Frag}{x D:Addr}{ox:Obj}
structure ExcK(K:Frag)(D:Addr):Prop where
 ga:findIn K (.ref D) "__getattribute__" = some (some (.builtin "BaseException.__getattribute__"))
 gt:findIn K (.ref D) "__getattr__" = some none
 mb:mroIn K D (.type "BaseException")=some true
 mo:mroIn K D (.type "object")=some true
 cl:findIn K (.ref D) "__class__" = some (some (.builtin "object.__class__"))
def EC(h:Heap)(x D:Addr):Prop:=∃o,h.get? x=some o/\o.cls=.ref D
theorem EC.type(I:EC h x D):Looks M h (typeOf (.ref x)) (.ref D):=by
 obtain⟨o,e,c⟩:=I
 exact c ▸ (Looks.ld e).andThen .now
theorem oF(X:K.In h)(c:ExcK K D):Looks M h (Builtin.ObjectAttr.find (.ref x) (.ref D) "__class__") (.bind (.builtin "getset_descriptor.__get__") (.builtin "object.__class__")):=by
 have ht:typeIn K (.builtin "object.__class__")=some (.type "getset_descriptor"):=by kernel_rfl
 have h1:specialIn K (.builtin "object.__class__") "__get__" = some (some (.builtin "getset_descriptor.__get__")):=by
  unfold specialIn;rw[ht];kernel_rfl
 have h2:takesIn K (.builtin "object.__class__")=some true:=by
  unfold takesIn specialIn;rw[ht];kernel_rfl
 have L1:=looks_findIn (M:=M) X c.cl
 have L2:Looks M h (Builtin.ObjectAttr.getOf (some (.builtin "object.__class__"))) (some (.builtin "getset_descriptor.__get__")):=looks_specialIn X h1
 have L3:=looks_takesIn (M:=M) X h2
 refine L1.andThen (L2.andThen ?_)
 exact(show Looks M h (Builtin.ObjectAttr.dataDescriptor? (some (.builtin "object.__class__")) (some (.builtin "getset_descriptor.__get__"))) (some (.builtin "getset_descriptor.__get__",.builtin "object.__class__"))from L3.andThen .now).andThen (Looks.tag .now)
theorem DP(X:K.In s.heap)(I:EC s.heap x D)(hm:mroIn K D (.type "object")=some true)
  (h:R (.ok (.ret (.ref D))) s):codeAny (model prog w) A (.call (.builtin "getset_descriptor.__get__") ⟨[.builtin "object.__class__",.ref x,tp],[]⟩) R s:=by
 obtain⟨hh,g,dr,t,os⟩:=s
 have L0:=I.type (M:=model prog w)
 have L1:=looks_mroIn (M:=model prog w) X hm
 refine codeAny_call_builtin KF.slot_gs.plain KF.entry_gs (KF.slot_gs.check _ _ _ _ _ _ _ _ KF.type_class (KF.args_gs _ _ _) ?_)
 unfold Builtin.«getset_descriptor.__get__» Builtin.Getset_descriptor.descrGet
 rw[dga_obj]
 refine AA0 (AA2 ?_)
 unfold Builtin.Getset_descriptor.descrGetter Builtin.Getset_descriptor.descrCheckInstance Builtin.Getset_descriptor.descrNameAndClass isInstance
 simp only[KF.owner_class]
 repeat lk
 refine⟨Code.quiet_builtin _ (by decide +kernel),ABn KF.entry_class ?_⟩
 unfold Builtin.«object.__class__» shownTypeOf
 repeat lk
 exact h
theorem xH(X:K.In s.heap)(c:ExcK K D)(I:EC s.heap x D)(h:Q (some (.ref D)) { s with toks:=s.toks+1 }):wpAny (model prog w) A (getAttr? (.ref x) "__class__") Q E s:=by
 obtain⟨hh,g,d,t,os⟩:=s
 have L0:=I.type (M:=model prog w)
 have L1:=looks_findIn (M:=model prog w) X c.ga
 have L2:=looks_findIn (M:=model prog w) X c.gt
 have L4:=looks_mroIn (M:=model prog w) X c.mb
 have L3:=oF (M:=model prog w) (x:=x) X c
 have ga:=F.excAttr_ValueError.ga
 have f3:=ga.bind (.ref x)
 have hx2:(ADT "BaseException.__getattribute__" == ADT "object.__getattribute__")=false:=by decide +kernel
 have hx1:(onTheHeap (ABS D)&&ADT "BaseException.__getattribute__" == ADT "object.__getattribute__")=false:=by rw[hx2];rfl
 unfold getAttr? getAttrBy? getAttrBy
 refine AA0 (wpAny_mkText (AA0 (ACE (AAg (AA0 (L0.at (AA0 (L1.at ?_))))))))
 dsimp only
 rw[hx1]
 simp only[AAD,if_false]
 unfold getAttrByItsOwn hookBefore
 rw[if_pos (show onTheHeap (ABS D)=true from rfl)]
 refine AA0 (L2.at ?_)
 unfold callGetattribute
 simp only[AE9,AAD,if_false]
 unfold boundAndCalled
 refine AA0 (ACE (AAg (AA0 (wpAny_of_eq f3 ?_))))
 refine wpAny_call (codeAny_call_builtin ga.plain F.entry_bexc_ga ?_)
 have hk:builtinKind "BaseException.__getattribute__" = some .slot:=by decide +kernel
 have hsplit:splitId "BaseException.__getattribute__" = some ("BaseException","__getattribute__"):=by decide +kernel
 have hargs:=F.args_bexc_ga (.ref x) (.str "__class__" t)
 simp only[checkBuiltinCall,hk,hsplit]
 have LI:Looks (model prog w) hh (isInstance (.ref x) (.type "BaseException")) true:=L0.andThen L4
 refine AA0 (LI.at ?_)
 repeat (first | with_reducible refine L0.at ?_ | with_reducible refine L3.at ?_ | wp_step)
 refine DP (s:=⟨hh,g,d,t+1,os⟩) X I c.mo ?_
 exact AA2 (handed_on rfl (AA2 h))
theorem xk(c:ExcK K D):KitX K (.ref x) (.ref D) (λh=>EC h x D) where
 ty:=λ_ _ _ I=>I.type
 it:=λ_ h X _=>by
  have:=c.mo
  unfold mroIn clsIn at this
  split at this
  ·rename_i ho
   intro A' Q' E' s' k q
   unfold isType loadHead
   exact AA0 (wpAny_loadPart (k _ _ (X _ _ ho)) (AA2 q))
  ·cases this
 ne:=λh tp dd its n sl X htp=>by
  refine ABP.mpr λq=>?_
  have e:D=tp:=Value.ref.inj (beq_iff_eq.mp q)
  subst e
  have:=c.mo
  unfold mroIn clsIn at this
  split at this
  ·rename_i ho
   have z:=(X _ _ ho).symm.trans htp
   cases z
  ·cases this
 ca:=λX I k=>xH X c I k
end
theorem bJ.there(x:bJ P w H h a o):∃u,h.get? a=some u:=by
 cases o with
 | lst xs=>obtain⟨_,_,_,_,e⟩:=x;exact⟨_,e⟩
 | tup xs=>obtain⟨_,_,_,ob,e,_⟩:=x;exact⟨_,e⟩
 | dK kvs=>obtain⟨_,_,_,_,ob,_,_,e,_⟩:=x;exact⟨_,e⟩
 | dT kvs=>obtain⟨_,_,_,_,ob,_,_,e,_⟩:=x;exact⟨_,e⟩
 | set S n=>obtain⟨ob,_,_,_,e,_⟩:=x;exact⟨_,e⟩
 | ins C dx fs=>obtain⟨_,_,_,e,_⟩:=x;exact⟨_,e⟩
 | own y=>exact x
 | xd fs=>obtain⟨_,⟨od,_,_,e,_⟩,_⟩:=x;exact⟨_,e⟩
 | rng lo hi=>obtain⟨_,_,_,e⟩:=x;exact⟨_,e⟩
 | frz ob u=>exact⟨_,x.1⟩
 | tbl ps=>exact⟨_,x⟩
 | met f y=>exact⟨_,x⟩
 | ext φ=>exact x.2.1
inductive Fly(P:Program)(w:World)(stk:List Env)(H:Hp)(h0:Heap)(a:Addr)(C:Value)(H1:Hp)(h:Heap):Prop
 | mk (B:Heap) (a0:Value) (fly:Heap.FlyingW B stk a C a0 h) (un:Un (frs stk) [] H H1 h0 h) (hok:HOk P w H1 h)
  (old:∀b o,h0.get? b=some o->b∉frs stk->∃o',B.get? b=some o'/\(H b=none->o'=o)) (trk:∀b u,H1 b=some u->∃o,B.get? b=some o)
section
variable{P:Program}{w:World}{stk:List Env}{H H1:Hp}{h0 h h' B:Heap}{a:Addr}{C a0:Value}
theorem gW(hok:HOk P w H1 h)(trk:∀b u,H1 b=some u->∃o,B.get? b=some o)(s:B.StaysIn h)(s':B.StaysIn h'):HOk P w H1 h':=λb u q=>by
 refine(hok b u q).stay (λc v hc r=>?_) (λ_ z=>z) λ_ _ z=>z
 have hc':∃u',H1 c=some u':=by
  rcases hc with rfl | hc
  ·exact⟨u,q⟩
  ·exact⟨_,hc⟩
 obtain⟨u',hc'⟩:=hc'
 obtain⟨o,ho⟩:=trk c u' hc'
 have:=s c o ho
 rw[r]at this
 cases this
 exact s' c _ ho
theorem sK(un:Un (frs stk) [] H H1 h0 h)(old:∀b o,h0.get? b=some o->b∉frs stk->∃o',B.get? b=some o'/\(H b=none->o'=o))(ff:h.FunFrames B stk)(s':B.StaysIn h')(up:h.UpToSlots h'):Un (frs stk) [] H H1 h0 h':=by
 have fr:∀b,b∈frs stk->∀o,h.get? b=some o->∃sl,h'.get? b=some { o with slots:=sl }:=λb hb o e=>by
  obtain⟨_,o',e',nf⟩:=ff.mem hb
  rw[e]at e'
  cases e'
  exact up b o e nf
 refine⟨λb o e n hb hx=>?_,λb o e n hb hx=>?_,un.free,λb o e hx=>?_,un.tups,un.frzs,un.tbls⟩
 ·obtain⟨o',e',q⟩:=old b o e hb
  rw[<-q n]
  exact s' b o' e'
 ·obtain⟨sl,e1⟩:=un.slot b o e n hb hx
  obtain⟨sl',e2⟩:=fr b hb _ e1
  exact⟨sl',e2⟩
 ·by_cases hb:b∈frs stk
  ·obtain⟨o',e1⟩:=un.there b o e hx
   obtain⟨sl,e2⟩:=fr b hb _ e1
   exact⟨_,e2⟩
  ·obtain⟨o',e',_⟩:=old b o e hb
   exact⟨o',s' b o' e'⟩
theorem mM{α:Type}{x:α}:x∉([]:List α):=λh=>nomatch h
theorem Fly.track(un:Un (frs stk) [] H H1 h0 h)(hok:HOk P w H1 h)(old:∀b o,h0.get? b=some o->b∉frs stk->∃o',B.get? b=some o'/\(H b=none->o'=o))(trk:∀b u,H1 b=some u->∃o,B.get? b=some o)(fly:Heap.FlyingW B stk a C a0 h) :
  Un (frs stk) [] H (upd H1 a (.ext (AZ a C))) h0 h/\HOk P w (upd H1 a (.ext (AZ a C))) h:=by
 obtain⟨oe,vs,he,hc,hd,_⟩:=fly.first
 have na:H1 a=none:=by
  cases q:H1 a with
  | none=>rfl
  | some u =>
   obtain⟨o,ho⟩:=trk a u q
   rw[fly.2.1]at ho
   cases ho
 refine⟨⟨un.keep,un.slot,λb o e n hx=>?_,un.there,λb xs e=>?_,λb o u e=>?_,λb ps e=>?_⟩,λb u q=>?_⟩
 ·rw[ag]
  ·exact un.free b o e n hx
  ·rintro rfl
   by_cases hb:b∈frs stk
   ·obtain⟨_,o',e',nf⟩:=fly.2.2.1.mem hb
    rw[he]at e'
    cases e'
    exact nf vs hd
   ·obtain⟨o',e',_⟩:=old b o e hb
    rw[fly.2.1]at e'
    cases e'
 ·rw[ag (ae (un.tups b xs e) na)]
  exact un.tups b xs e
 ·rw[ag (ae (un.frzs b o u e) na)]
  exact un.frzs b o u e
 ·obtain⟨more,q⟩:=un.tbls b ps e
  exact⟨more,by rw[ag (ae q na)];exact q⟩
 ·by_cases hb:b=a
  ·subst hb
   rw[ay]at q
   cases q
   refine⟨⟨oe,vs,he,hc,hd⟩,⟨oe,he⟩,?_⟩
   rintro h1 h2 ⟨o,ws,e,c,d⟩ k
   exact⟨o,ws,k o e,c,d⟩
  ·rw[ag hb]at q
   exact(hok b u q).stay (λ_ _ _ z=>z) (λc z=>by rw[ag (ae z na)];exact z) λc xs z=>by rw[ag (ae z na)];exact z
end
structure DefX(X:Cx):Prop where
 stk:X.stack=X.env::X.outer
 fr:X.env.frame=some X.env.locals
 ex:X.ex=[]
section
variable{X:Cx}{pins:List (Addr×Obj)}{σ:St}{H H1:Hp}{s s':Shared}{h':Heap}{e:Addr}{C:Value}{vs:List Value}{M:Model}{Q:Unit->Shared->Prop}{E':Value->Shared->Prop}
theorem DefX.frs(d:DefX X):b∈frs X.stack↔b=X.env.locals\/b∈X.fs:=by
 rw[d.stk]
 unfold L2.frs
 rw[ABT,d.fr]
 exact AAK
theorem Inv.nloc(I:Inv X pins σ H s)(e:X.s₀.heap.get? b=some o):b≠X.env.locals:=λz=>by
 subst z
 exact AAk _ (AAR (AAH e) I.ok.above)
theorem rV(I:Inv X pins σ H1 s)(d:DefX X)(m:AED s.heap h' e C vs)(h:∀h'',Fly X.prog X.w X.outer X.H₀ X.s₀.heap e C H1 h''->Q () { s with heap:=h'' }) :
  wpAny M X.A (leaving X.env (.ref e)) Q E' { s with heap:=h' }:=by
 have hfr:X.A.frames=some (X.env::X.outer):=d.stk ▸ I.ok.frames
 have ff:s.heap.FunFrames X.base (X.env::X.outer):=d.stk ▸ I.stack
 have get:∀{b o},s.heap.get? b=some o->b∉frs X.stack->(ADG s.heap (frs X.stack)).get? b=some o:=λq hb=>PySem.W.hideAll_get _ q hb
 refine wpAny_leaves_madeW (base:=ADG s.heap (frs X.stack)) (h:=s.heap) hfr d.fr (λb o q=>AE7 _ q)
  (PySem.W.funFrames_hide ff λenv he b hb=>by rw[d.stk];exact ACC.mpr ⟨env,he,hb⟩) m λh'' t fly _ _ up=>h h'' ?_
 have hex:∀b:Addr,b∉X.ex:=λb z=>by rw[d.ex]at z;cases z
 have old:∀b o,X.s₀.heap.get? b=some o->b∉X.fs->∃o',(ADG s.heap (frs X.stack)).get? b=some o'/\(X.H₀ b=none->o'=o):=λb o q hb=>by
  have hb':b∉frs X.stack:=λz=>(d.frs.mp z).elim (λz=>I.nloc q z) hb
  obtain⟨o',q'⟩:=I.base.there b o q (hex b)
  refine⟨o',get q' hb',λn=>?_⟩
  have:=I.base.keep b o q n hb (hex b)
  rw[q']at this
  exact AAQ this
 have trk:∀b u,H1 b=some u->∃o,(ADG s.heap (frs X.stack)).get? b=some o:=λb u q=>by
  obtain⟨o,ho⟩:=(I.hok b u q).there
  refine⟨o,get ho λz=>?_⟩
  rw[I.stkFree b z]at q
  cases q
 have base':Un X.fs [] X.H₀ H1 X.s₀.heap s.heap:=d.ex ▸ I.base
 refine⟨_,_,fly,?_,gW I.hok trk (λb o q=>AE7 _ q) fly.1,old,trk⟩
 have fr:∀b,b∈X.fs->∀o,s.heap.get? b=some o->∃sl,h''.get? b=some { o with slots:=sl }:=λb hb o q=>by
  obtain⟨_,o',e',nf⟩:=ff.mem (show b∈(X.env::X.outer).filterMap (·.frame)from d.stk ▸ d.frs.mpr (.inr hb))
  rw[q]at e'
  cases e'
  exact up b o (m.keeps b o q) nf
 refine⟨λb o q n hb hx=>?_,λb o q n hb hx=>?_,base'.free,λb o q hx=>?_,base'.tups,base'.frzs,base'.tbls⟩
 ·obtain⟨o',e',z⟩:=old b o q hb
  rw[<-z n]
  exact fly.1 b o' e'
 ·obtain⟨sl,e1⟩:=base'.slot b o q n hb hx
  obtain⟨sl',e2⟩:=fr b hb _ e1
  exact⟨sl',e2⟩
 ·by_cases hb:b∈X.fs
  ·obtain⟨o',e1⟩:=base'.there b o q hx
   obtain⟨sl,e2⟩:=fr b hb _ e1
   exact⟨_,e2⟩
  ·obtain⟨o',e',_⟩:=old b o q hb
   exact⟨o',fly.1 b o' e'⟩
theorem xF(I:Inv X pins σ H s)(d:DefX X)(F:Fly X.prog X.w X.stack H s.heap e C H1 s'.heap)(h:∀h'',Fly X.prog X.w X.outer X.H₀ X.s₀.heap e C H1 h''->Q () { s' with heap:=h'' }) :
  wpAny M X.A (leaving X.env (.ref e)) Q E' s':=by
 obtain⟨B,a0,fly,un,hok,old,trk⟩:=F
 have hfr:X.A.frames=some (X.env::X.outer):=d.stk ▸ I.ok.frames
 have hex:∀b:Addr,b∉X.ex:=λb z=>by rw[d.ex]at z;cases z
 have fly0:Heap.FlyingW B (X.env::X.outer) e C a0 s'.heap:=d.stk ▸ fly
 refine wpAny_leaves_onW hfr d.fr fly0 λh'' fly' up=>h h'' ?_
 have base':Un X.fs [] X.H₀ H X.s₀.heap s.heap:=d.ex ▸ I.base
 have ff:=fly.2.2.1
 have fr:∀b,b∈X.fs->∀o,s'.heap.get? b=some o->∃sl,h''.get? b=some { o with slots:=sl }:=λb hb o q=>by
  obtain⟨_,o',e',nf⟩:=ff.mem (show b∈X.stack.filterMap (·.frame)from d.frs.mpr (.inr hb))
  rw[q]at e'
  cases e'
  exact up b o q nf
 have old':∀b o,X.s₀.heap.get? b=some o->b∉X.fs->∃o',B.get? b=some o'/\(X.H₀ b=none->o'=o):=λb o q hb=>by
  have hb':b∉frs X.stack:=λz=>(d.frs.mp z).elim (λz=>I.nloc q z) hb
  obtain⟨o',q'⟩:=base'.there b o q mM
  obtain⟨o2,q2,z⟩:=old b o' q' hb'
  refine⟨o2,q2,λn=>?_⟩
  rw[z (base'.free b o q n mM)]
  have:=base'.keep b o q n hb mM
  rw[q']at this
  exact AAQ this
 refine⟨B,a0,fly',?_,gW hok trk fly.1 fly'.1,old',trk⟩
 have unT:∀b o,X.s₀.heap.get? b=some o->X.H₀ b=none->H1 b=none:=λb o q n=>by
  obtain⟨o',q'⟩:=base'.there b o q mM
  exact un.free b o' q' (base'.free b o q n mM) mM
 refine⟨λb o q n hb hx=>?_,λb o q n hb hx=>?_,λb o q n hx=>unT b o q n,λb o q hx=>?_,λb xs q=>un.tups b xs (base'.tups b xs q),λb o u q=>un.frzs b o u (base'.frzs b o u q),λb ps q=>?_⟩
 ·obtain⟨o',e',z⟩:=old' b o q hb
  rw[<-z n]
  exact fly'.1 b o' e'
 ·obtain⟨sl,e1⟩:=base'.slot b o q n hb hx
  obtain⟨sl1,e2⟩:=un.slot b _ e1 (base'.free b o q n hx) (d.frs.mpr (.inr hb)) hx
  obtain⟨sl',e3⟩:=fr b hb _ e2
  exact⟨sl',e3⟩
 ·by_cases hb:b∈X.fs
  ·obtain⟨o',e1⟩:=base'.there b o q hx
   obtain⟨o2,e2⟩:=un.there b o' e1 hx
   obtain⟨sl,e3⟩:=fr b hb _ e2
   exact⟨_,e3⟩
  ·obtain⟨o',e',_⟩:=old' b o q hb
   exact⟨o',fly'.1 b o' e'⟩
 ·obtain⟨m1,e1⟩:=base'.tbls b ps q
  obtain⟨m2,e2⟩:=un.tbls b _ e1
  exact⟨m1++m2,by rw[e2,Array.append_assoc]⟩
end
def CXe(P:Program)(w:World):CXT:=λstk H s E e s'=>∃a C H1,e=.ref a/\s'.os=s.os/\AllBare s'.gens/\Fly P w stk H s.heap a C H1 s'.heap/\E C none H1
section
variable{P:Program}{w:World}{K:AA3}{mg:Str->Option Value}{base:Heap}{N:List Str}{qual:Str}{scope:Scope}{f:Addr}{cd:Value}{A:Around}{outer:List Env}{s:Shared}{H:Hp}{E:XK}
theorem vF:DefX (jq CX P w K mg base N qual scope f cd A outer s H E):=⟨rfl,rfl,rfl⟩
theorem zr:qI (CXe P w) (jq (CXe P w) P w K mg base N qual scope f cd A outer s H E) E:=by
 rintro pins σ H1 s1 e s' I ⟨a,C,H2,rfl,ho,hb,F,q⟩
 exact xF I vF F λh'' F'=>⟨a,C,H2,rfl,ho.trans I.os,hb,F',q⟩
theorem zI(I:Inv (jq (CXe P w) P w K mg base N qual scope f cd A outer s H E) pins σ H1 s1)(m:AED s1.heap h' e C vs)(q:E C none H1) :
  (jq (CXe P w) P w K mg base N qual scope f cd A outer s H E).xe (.ref e) { s1 with heap:=h' }:=by
 exact rV I vF m λh'' F'=>⟨e,C,H1,rfl,I.os,I.bare,F',q⟩
end
noncomputable abbrev vE:List Value:=[.type "ValueError",.type "Exception",.type "BaseException",.type "object"]
theorem zw{K:AA3}{h:Heap}{C:Addr}{bmB:List Value}{newId:String}(X:K.In h)(q:ADW K C bmB newId=true) :
  ∃bm N nm qn bs hdct sn sub ab col dd k0 k1 k2 k3 k5 mN,h.get? C=some (excClassObj nm qn C N bs bm hdct sn sub ab col dd k0 k1 k2 k3 k5 newId)/\h.Ns N mN/\mN "__init__" = none/\OwnTail h bmB bm:=by
 unfold ADW at q
 split at q
 ·rename_i dd cd sl ho
  split at q
  ·rename_i C' bm k0 k1 k2 k3 n k5 hm hs
   simp only[AAO,beq_iff_eq,Bool.not_eq_true']at q
   obtain⟨⟨⟨⟨⟨rfl,rfl⟩,hdel⟩,ht⟩,hok⟩,hni⟩:=q
   obtain⟨nm,bs,mro,ns,qn,hd,sn,sub,ab,col,del⟩:=cd
   dsimp only at hm hdel hok hni
   subst hm hdel
   have hsl:sl = #[k0,k1,k2,k3,some (.builtin n),k5]:=by
    obtain⟨l⟩:=sl
    simp only at hs
    rw[hs]
   subst hsl
   exact⟨bm,ns,nm,qn,bs,hd,sn,sub,ab,col,dd,k0,k1,k2,k3,k5,_,X _ _ ho,.of_isNs (PySem.W.isNs_of_in X hok),PySem.W.nsMap_none_of_in X hok hni,PySem.W.tail_of_in X ht⟩
  ·cases q
 ·cases q
section
variable{X:Cx}{x:Str}{C:Addr}{np cpos pos:Pos}{e₀:Expr}{ax:List Expr}{pins:List (Addr×Obj)}{σ:St}{H:Hp}{s:Shared}{Ex:Value->Shared->Prop}{Q:Flow->Shared->Prop}
theorem wz(I:Inv X pins σ H s)(hm:X.mg x=some (.ref C))(q:ADW X.K C vE "ValueError.__new__" = true)(hc:X.calm=true)
  (w:wpAny (model X.prog X.w) X.A (spliced (backTo cpos (starEach (e₀::ax) X.env))) (λus s₂=>us.length<=sizeLine/\(∀b o,X.base.get? b=some o->s₂.heap.get? b=some o)/\∀h' e,AED s₂.heap h' e (.ref C) us->Ex (.ref e) { s₂ with heap:=h' }) Ex s) (hg:Gl X x:=by rfl)
  (he:starEach (e₀::ax) X.env=(false,eval e₀ X.env)::starEach ax X.env:=by rfl) (hpl:(backTo cpos (starEach ax X.env)).any (·.1)=false:=by rfl) (hdb:(x==("__debug__":Str))=false:=by decide) :
  wpAny (model X.prog X.w) X.A (exec (.Raise (some (.Call (.Name x np) (e₀::ax) [] cpos)) none pos) X.env) Q Ex s:=by
 obtain⟨tl,N,nm,qn,bs,hdct,sn,sub,ab,col,dd,k0,k1,k2,k3,k5,mN,hC,hN,hni,T⟩:=zw I.mod.kin q
 have FB:=F.excBase_ValueError
 refine wpAny_Raise_call_subU (C:=C) (nm:=nm) (q:=qn) (N:=N) (bs:=bs) (bm:=tl) (hdct:=hdct) (sn:=sn) (sub:=sub) (ab:=ab) (col:=col) (dd:=dd) (k0:=k0) (k1:=k1) (k2:=k2) (k3:=k3) (k5:=k5)
  FB FB.hasB FB (mN:=mN) (T.hasType FB.hasBase) (I.ok.hd hc) (by rw[he];show (false||(backTo cpos (starEach ax X.env)).any (·.1))=false;rw[hpl];rfl) hni (jc I hg hm ⟨rfl,?_⟩ hdb)
 rw[he]at w ⊢
 exact ACw (AAo w (λus s₂ ⟨z,bk,k⟩=>⟨rfl,z,bk _ _ hC,hN.keeps bk,T.keeps bk,k⟩) λ_ _ y=>y)
end
section
variable{X:Cx}{pins:List (Addr×Obj)}{σ:St}{H:Hp}{s:Shared}
theorem sJ(I:Inv X pins σ H s)(hN:X.N.Nodup)(hi:X.N[i]?=some x)(hk:X.env.scope.names.lookup x=some .local)(hv:σ[i]?=some (some v))
  (h:∀s',Inv X pins (σ.set i none) H s'->Q () s'):wpAny M A (unbindName X.env x) Q E s:=by
 obtain⟨m,hn,hl⟩:=id I.loc
 have hcls:(X.env.scope.kind==.class||(X.env.scope.kind==.module&&X.env.locals != X.env.globals))=false:=by rw[I.ok.kind];rfl
 have hiσ:i<σ.length:=by rw[I.len];exact(AA7.mp hi).1
 have cne:=I.cne
 obtain⟨u,r,lk⟩:=hl i x v hi hv (.inl hk)
 have hm:m x=some u:=by
  rcases lk with⟨_,e⟩|⟨k,_⟩
  ·exact e
  ·rcases k with k | k<;>(have k':X.env.scope.names.lookup x=_:=k;rw[hk]at k';cases k')
 refine wpAny_unbindName_local hk hn hm hcls λh' u' hn' hs=>?_
 obtain⟨oL,_,_,hoL,_⟩:=id hn
 have tracked:HOk X.prog X.w H h':=λb ob e=>by
  refine(I.hok b ob e).stay (λc w' hc q=>(hs.2 c ?_).trans q) (λ_ q=>q) λ_ _ q=>q
  rintro rfl
  rcases hc with rfl | hc
  ·rw[I.free]at e;cases e
  ·rw[I.free]at hc;cases hc
 refine h _ ⟨I.ok,I.os,I.bare,⟨λb o e n hb hx=>?_,λb o e n hb hx=>?_,I.base.free,λb o e hx=>?_,I.base.tups,I.base.frzs,I.base.tbls⟩,⟨_,hn',λj y v' e1 e2 e3=>?_⟩,λy c e=>?_,I.free,I.freeC,λp hp=>?_,tracked,by simpa using I.len⟩
 ·exact(hs.2 b (AAL (AAR (AAH e) I.ok.above))).trans (I.base.keep b o e n hb hx)
 ·obtain⟨sl,e1⟩:=I.base.slot b o e n hb hx
  exact⟨sl,(hs.2 b (AAL (AAR (AAH e) I.ok.above))).trans e1⟩
 ·obtain⟨o',e1⟩:=I.base.there b o e hx
  exact⟨o',(hs.2 b (AAL (AAR (AAH e) I.ok.above))).trans e1⟩
 ·by_cases hj:j=i
  ·subst hj
   rw[AAa hiσ]at e2
   cases e2
  ·rw[AAZ (ABO hj)]at e2
   obtain⟨u',r',q⟩:=hl j y v' e1 e2 e3
   refine⟨u',r',?_⟩
   rcases q with⟨k,e⟩|⟨k,c,e,z⟩
   ·refine .inl ⟨k,?_⟩
    have:y≠x:=λe=>hj (kW hN e1 (e ▸ hi))
    simp[this,e]
   ·exact .inr ⟨k,c,e,z.sameBut hs (cne y c e)⟩
 ·obtain⟨w',z⟩:=I.cell y c e
  exact⟨w',z.sameBut hs (cne y c e)⟩
 ·obtain⟨e,n,ne,nf,d⟩:=I.pin p hp
  exact⟨(hs.2 p.1 ne).trans e,n,ne,nf,d⟩
noncomputable abbrev Cx.held(X:Cx)(a:Addr):Cx:={ X with A:=X.A.mark (some (.ref a)),calm:=false,xe:=λ_ _=>False }
theorem Inv.held(I:Inv X pins σ H s)(a:Addr):Inv (X.held a) pins σ H s :=
 ⟨⟨I.ok.mod,I.ok.kind,I.ok.glob,I.ok.blt,I.ok.above,I.ok.inj,I.ok.has,I.ok.cab,(λz=>Bool.noConfusion z),I.ok.frames,I.ok.stk,I.ok.exf,I.ok.bs,I.ok.bsz,I.ok.noex,I.ok.exfs,I.ok.funs,I.ok.frf⟩,I.os,I.bare,I.base,I.loc,I.cell,I.free,I.freeC,I.pin,I.hok,I.len⟩
theorem Inv.unheld(ok:X.Ok)(I:Inv (X.held a) pins σ H s):Inv X pins σ H s:=⟨ok,I.os,I.bare,I.base,I.loc,I.cell,I.free,I.freeC,I.pin,I.hok,I.len⟩
theorem vO{H1:Hp}{s':Shared}{a C C':Addr}{i:Nat}{n y:Str}{np pos:Pos}{b₀:Stmt}{suite:List Stmt}{ax:List ExceptHandler}{D:Ends}{tS:TS}{E:Value->Shared->Prop}(I:Inv X pins σ H s)(d:DefX X)(ho:s'.os=s.os)(hb:AllBare s'.gens)
  (F:Fly X.prog X.w X.stack H s.heap a (.ref C) H1 s'.heap) (hN:X.N.Nodup) (hi:X.N[i]?=some n) (hk:X.env.scope.names.lookup n=some .local) (hy:X.mg y=some (.ref C')) (hm:AEE X.K (.ref C) (.ref C')=some true)
  (hs:PSs (X.held a) (b₀::suite) tS) (q:tS ⟨λσ' H'=>D.nx (σ'.set i none) H',λ_ _=>False,λ_ _=>False,λ_ _=>False⟩ (σ.set i (some (.ref a))) (upd H1 a (.ext (AZ a (.ref C)))))
  (hg:Gl X y:=by rfl) (hdb:(y==("__debug__":Str))=false:=by decide) :
  wpAny (model X.prog X.w) X.A (noteFrame (.ref a) X.env) (λ_ s₂=>wpAny (model X.prog X.w) X.A (setFlight (.ref a) none) (λ_ s₃ =>
   wpAny (model X.prog X.w) X.A (handleBy (.ref a) X.env (.ExceptHandler (some (.Name y np)) (some n) (b₀::suite) pos::ax)) (SP X pins D) E s₃) E s₂) E s':=by
 obtain⟨B,a0,fly,un,hok,old,trk⟩:=F
 have hfr:X.A.frames=some (X.env::X.outer):=d.stk ▸ I.ok.frames
 have fly0:Heap.FlyingW B (X.env::X.outer) a (.ref C) a0 s'.heap:=d.stk ▸ fly
 refine wpAny_looks_onW hfr d.fr fly0 λh₄ held₄ up₄=>?_
 refine wpAny_landsW held₄ λh₅ fly₅ up₅=>?_
 have un5:=sK un old fly.2.2.1 fly₅.1 λb o e nf=>by
  obtain⟨sl,e1⟩:=up₄ b o e nf
  obtain⟨sl',e2⟩:=up₅ b _ e1 nf
  exact⟨sl',e2⟩
 have hok5:=gW hok trk fly.1 fly₅.1
 have I5:Inv X pins σ H1 { s' with heap:=h₅ }:=I.call' (ch:=[]) ho un5 hok5 hb λb z=>absurd z mM
 obtain⟨ob,hob,hobc⟩:=fly₅.there
 refine wpAny_handleBy_cons (codeAny_handlers_test (jc (X:=X.held a) (I5.held a) hg hy ?_ hdb)) (by intro q;cases q)
 have LT:PySem.W.Looks (model X.prog X.w) h₅ (typeOf (.ref a)) (.ref C):=hobc ▸ (PySem.W.Looks.ld hob).andThen .now
 refine(PySem.W.exm_one I5.kIn LT hm).at ?_
 refine codeAny_handlers_suite_as (lands_againW fly₅ λh₆ fly₆ up₆=>?_)
 have un6:=sK un5 old (d.stk ▸ fly₅.2.2.1) fly₆.1 up₆
 have hok6:=gW hok5 trk fly₅.1 fly₆.1
 obtain⟨un7,hok7⟩:=Fly.track un6 hok6 old trk (d.stk ▸ fly₆)
 have I7:Inv X pins σ (upd H1 a (.ext (AZ a (.ref C)))) { s' with heap:=h₆ }:=I.call' (ch:=[]) ho un7 hok7 hb λb z=>absurd z mM
 refine gP (v:=.ref a) I7 hN hi (.inl hk) rfl (λs8 I8=>?_) (.inr hk)
 refine AAo (hs pins s8 _ _ _ (I8.held a) q) (λf s9 h9=>?_) λ_ _ z=>z.elim
 cases f with
 | next =>
  obtain⟨σ',H',J,k⟩:=h9
  have J':=J.unheld I.ok
  refine AA0 (wpAny_bindName (gP (v:=.non) (u:=.none) J' hN hi (.inl hk) rfl (λs10 I10=>?_) (.inr hk)))
  have hl:i<σ'.length:=by rw[J'.len];exact(AA7.mp hi).1
  refine wpAny_onRaise (sJ (v:=.non) I10 hN hi hk (AAa hl) λs11 I11=>?_)
  rw[List.set_set]at I11
  exact⟨_,_,I11,k⟩
 | ret u=>obtain⟨_,_,_,_,_,z⟩:=h9;exact z.elim
 | brk=>obtain⟨_,_,_,z⟩:=h9;exact z.elim
 | cont=>obtain⟨_,_,_,z⟩:=h9;exact z.elim
end
abbrev DX:=Str->Mem->Prop
abbrev DTX:=DX->DTS
abbrev ED:=DX->DTE
abbrev xZ:=List D->Mem->DK->DX->Prop
inductive XQ(K:AA3)(ρ:List Addr)(H:Hp)(R:DX)(C:Value)(dx:Option Addr)(H':Hp):Prop
 | mk (x:Str) (c:Addr) (M':Mem) (ρ':List Addr) (e:C=.ref c) (hx:ACD K mainGlobals x=some (some (.ref c))) (s:Sim K ρ' M' H') (g:Grow K ρ H ρ' H') (q:R x M')
section
variable{K:AA3}{ρ ρ1:List Addr}{H H1 H':Hp}{R:DX}{C:Value}{dx:Option Addr}{M:Mem}
theorem XQ.trans(g:Grow K ρ H ρ1 H1)(h:XQ K ρ1 H1 R C dx H'):XQ K ρ H R C dx H':=by
 obtain⟨x,c,M',ρ',e,hx,s,g',q⟩:=h
 exact⟨x,c,M',ρ',e,hx,s,g.trans g',q⟩
def XEnd(M:Mem)(R:DX):DX:=λx M'=>R x M'\/∃M1,Chg M M1/\M1 <+: M'/\R x M1
theorem XQ.endq(s:Sim K ρ M H)(h:XQ K ρ H (XEnd M R) C dx H'):XQ K ρ H R C dx H':=by
 obtain⟨x,c,M',ρ',e,hx,s',g',q'⟩:=h
 rcases q' with q | ⟨M1,cg,pre,q⟩
 ·exact⟨x,c,M',ρ',e,hx,s',g',q⟩
 ·have hρ:ρ'.take M.length=ρ:=by rw[<-s.len];exact bd g'.pre
  have sc:=s'.cut M.length λn mo hn e=>by
   have e':M1[n]?=some mo:=by
    obtain⟨t,rfl⟩:=pre
    rw[AAM (by rw[cg.1];exact hn)]at e
    exact e
   exact(cg.2 n mo e').elim (λz=>s.bels z) id
  have tk:M'.take M.length=M1:=by rw[<-cg.1];exact bd pre
  rw[hρ,tk]at sc
  exact⟨x,c,M1,ρ,e,hx,sc,⟨AC2,g'.tup⟩,q⟩
end
inductive lowX(K:AA3)(E:XK)(t:DTX)(D:Ends)(σ:St)(H:Hp):Prop
 | mk (S:SD) (M:Mem) (ρ:List Addr) (F:DEnds) (R:DX) (s:Sim K ρ M H) (sr:SRep K ρ H S σ) (q:t R F S M) (k:Ups K ρ H F D) (x:∀C dx H',XQ K ρ H R C dx H'->E C dx H')
inductive lowXE(K:AA3)(E:XK)(t:ED)(σ:St)(H:Hp)(Q:VK):Prop
 | mk (S:SD) (M:Mem) (ρ:List Addr) (F:DK) (R:DX) (s:Sim K ρ M H) (sr:SRep K ρ H S σ) (q:t R S M F) (k:∀v H',VQ K ρ H F v H'->Q v H') (x:∀C dx H',XQ K ρ H R C dx H'->E C dx H')
structure XA(b:Bool)(X:Cx)(pins:List (Addr×Obj))(E:XK)(P:St->Prop)(Ex:Value->Shared->Prop):Prop where
 on:∀σ H1 s1 e s',P σ->Inv X pins σ H1 s1->CXe X.prog X.w X.stack H1 s1 E e s'->Ex e s'
 all:b=true->∀σ,P σ
 made:b=true->∀σ H1 s1 h' e C vs,Inv X pins σ H1 s1->AED s1.heap h' e C vs->E C none H1->Ex (.ref e) { s1 with heap:=h' }
structure HX(b:Bool)(X:Cx)(st:Stmt)(t:DTX):Prop where
 ok:∀(pins:List (Addr×Obj)) (s:Shared) (σ:St) (H:Hp) (D:Ends) (E:XK) (P:St->Prop) (Ex:Value->Shared->Prop),XA b X pins E P Ex->P σ->Inv X pins σ H s->lowX X.K E t D σ H->wpAny (model X.prog X.w) X.A (exec st X.env) (SP X pins D) Ex s
structure HXs(b:Bool)(X:Cx)(st:List Stmt)(t:DTX):Prop where
 ok:∀(pins:List (Addr×Obj)) (s:Shared) (σ:St) (H:Hp) (D:Ends) (E:XK) (P:St->Prop) (Ex:Value->Shared->Prop),XA b X pins E P Ex->P σ->Inv X pins σ H s->lowX X.K E t D σ H->wpAny (model X.prog X.w) X.A (execs st X.env) (SP X pins D) Ex s
structure HXE(b:Bool)(X:Cx)(e:Expr)(t:ED):Prop where
 ok:∀(pins:List (Addr×Obj)) (s:Shared) (σ:St) (H:Hp) (Q:VK) (E:XK) (P:St->Prop) (Ex:Value->Shared->Prop),XA b X pins E P Ex->P σ->Inv X pins σ H s->lowXE X.K E t σ H Q->wpAny (model X.prog X.w) X.A (eval e X.env) (EP X pins σ Q) Ex s
def xOf(t:DTS):DTX:=λ_=>t
def Bg(t u:DTX):DTX:=λR=>aA (t R) (u R)
def xIf(c:DTT)(t u:DTX):DTX:=λR=>dIf c (t R) (u R)
def yG(t:ED):DTX:=λR=>gc (t R)
def xCB(P:xZ)(t:DTA):ED:=λR S M Q=>t S M λds M1=>P ds M1 Q R
def ph(x:Str)(t:DTA):DTX:=λR _ S M=>t S M λds M1=>ds.length<=sizeLine/\R x M1
theorem PA.nox(h:PA X.nox es t)(I:Inv X pins σ H s)(q:t σ H Q) :
  wpAny (model X.prog X.w) X.A (spliced (backTo pos (starEach es X.env))) (AP X pins σ Q) Ex s :=
 AAo (h pos pins s σ H Q (I.wish _) q) (λ_ _ ⟨v,H',I',r,z⟩=>⟨v,H',I'.unwish,r,z⟩) λ_ _ z=>ABa z
section
variable{b:Bool}{X:Cx}{st:Stmt}{ax:List Stmt}{t u:DTX}{te:ED}{e:Expr}{es:List Expr}{pos:Pos}
theorem CF{t:DTS}(h:HS X.nox st t):HX b X st (xOf t):=by
 refine⟨ ?_⟩
 rintro pins s σ H D E P Ex A p I ⟨S,M,ρ,F,R,sm,sr,q,k,x⟩
 exact AAo (h.ok pins s σ H D (I.wish _) ⟨S,M,ρ,F,sm,sr,q,k⟩) (λ_ _ z=>z.unwish) λ_ _ z=>ABa z
theorem zP:HXs b X [] (xOf aZ):=by
 refine⟨ ?_⟩
 rintro pins s σ H D E P Ex A p I ⟨S,M,ρ,F,R,sm,sr,q,k,x⟩
 exact ACN ⟨σ,H,I,k.nx σ H ⟨S,M,ρ,sm,.refl,sr,q⟩⟩
theorem uJ(h:HX b X st t):HXs b X [st] t:=⟨λpins s σ H D E P Ex A p I q=>by
 refine ADq (thn (h.ok pins s σ H D E P Ex A p I q) λf s1 q=>?_)
 cases f with
 | next=>exact ACN q
 | ret v=>exact q
 | brk=>exact q
 | cont=>exact q⟩
theorem qh(h1:HX true X st t)(h2:HXs true X ax u):HXs true X (st::ax) (Bg t u):=⟨λpins s σ H D E P Ex A p I ⟨S,M,ρ,F,R,sm,sr,q,k,x⟩=>by
 refine ADq (thn (h1.ok pins s σ H { D with nx:=λσ' H'=>SQ X.K ρ H (λS' M'=>u R F S' M') σ' H' } E P Ex A p I ⟨S,M,ρ,_,R,sm,sr,q,⟨λ_ _ z=>z,k.rt,k.bk,k.ct⟩,x⟩) λf s1 z=>?_)
 cases f with
 | next =>
  obtain⟨σ',H',I',S',M',ρ',s',g',sr',q'⟩:=z
  exact h2.ok pins s1 σ' H' D E P Ex A (A.all rfl σ') I' ⟨S',M',ρ',F,R,s',sr',q',k.trans g',λC dx H2 w=>x C dx H2 (w.trans g')⟩
 | ret v=>exact z
 | brk=>exact z
 | cont=>exact z⟩
theorem CG(hc:HT X.nox c tc)(ha:HXs b X a t)(hd:HXs b X d u):HX b X (.If c a d pos) (xIf tc t u):=⟨λpins s σ H D E P Ex A p I ⟨S,M,ρ,F,R,sm,sr,q,k,x⟩=>by
 refine wpAny_If (AAo (hc.ok pins s σ H _ (I.wish _) ⟨S,M,ρ,_,sm,sr,q,λ_ _ z=>z⟩) (λc s1 ⟨H1,I1,M1,ρ1,s1',g1,q1⟩=>?_) λ_ _ z=>ABa z)
 cases c with
 | true=>exact ha.ok pins s1 σ H1 D E P Ex A p I1.unwish ⟨S,M1,ρ1,F,R,s1',sr.grow g1,q1,k.trans g1,λC dx H2 w=>x C dx H2 (w.trans g1)⟩
 | false=>exact hd.ok pins s1 σ H1 D E P Ex A p I1.unwish ⟨S,M1,ρ1,F,R,s1',sr.grow g1,q1,k.trans g1,λC dx H2 w=>x C dx H2 (w.trans g1)⟩⟩
theorem uK(he:HXE b X e te)(hs:swapsWith e none pos.line X.env=pure false:=by kernel_rfl):HX b X (.Expr e pos) (yG te):=by
 refine⟨ ?_⟩
 rintro pins s σ H D E P Ex A p I ⟨S,M,ρ,F,R,sm,sr,q,k,x⟩
 exact wpAny_Expr_any (thn (he.ok pins s σ H _ E P Ex A p I ⟨S,M,ρ,_,R,sm,sr,q,λ_ _ z=>z,x⟩) λv s1 ⟨y,H1,I1,r1,d,M1,ρ1,s1',g1,r',q1⟩=>⟨σ,H1,I1,k.nx σ H1 ⟨S,M1,ρ1,s1',g1,sr.grow g1,q1⟩⟩) I.quiet hs
theorem xh(hm:X.mg x=some (.ref C))(hn:ACD X.K mainGlobals x=some (some (.ref C)))(q:ADW X.K C vE "ValueError.__new__" = true)(ha:HA X.nox (e::es) ta)(hc:X.calm=true:=by kernel_rfl)
  (hg:X.env.kindOf x=some .globalImplicit:=by kernel_rfl) (he:starEach (e::es) X.env=(false,eval e X.env)::starEach es X.env:=by kernel_rfl) (hpl:(backTo cpos (starEach es X.env)).any (·.1)=false:=by kernel_rfl) (hdb:(x==("__debug__":Str))=false:=by kernel_rfl) :
  HX true X (.Raise (some (.Call (.Name x np) (e::es) [] cpos)) none pos) (ph x ta):=⟨λpins s σ H D E P Ex A p I ⟨S,M,ρ,F,R,sm,sr,w,k,xx⟩=>by
 refine wz I hm q hc (AAo (ha.ok.nox (Ex:=Ex) I ⟨S,M,ρ,_,sm,sr,w,λ_ _ z=>z⟩) (λus s2 ⟨vs,H1,I1,r,ds,M1,ρ1,s1',g1,r1,z,y⟩=>?_) λ_ _ z=>z) hg he hpl hdb
 refine⟨by rw[<-r.length,<-r1.length];exact z,I1.bk,λh' e m=>A.made rfl σ H1 s2 h' e _ _ I1 m (xx _ _ _ ⟨x,C,M1,ρ1,rfl,hn,s1',g1,y⟩)⟩⟩
end
def spX(K:AA3)(P:xZ):Sp:=λvs H Q E=>∃ds M ρ R RX,Sim K ρ M H/\Reps K ρ H ds vs/\P ds M R RX/\(∀v H',VQ K ρ H R v H'->Q v H')/\∀C dx H',XQ K ρ H RX C dx H'->E C dx H'
def AT(P:Program)(w:World)(K:AA3)(mg:Str->Option Value)(base:Heap)(k:Nat)(x:Str)(ps:List Str)(Pr:xZ):Prop :=
 ∃f fd,FnOk P w K mg base (CXe P w) k f fd ps (spX K Pr)/\mg x=some (.ref f)/\ABw K (.ref f)=true/\lO K fd ps []
section
variable{b:Bool}{X:Cx}{e:Expr}{es:List Expr}{x:Str}{p pos:Pos}{t:DTA}
theorem yo(C:AT X.prog X.w X.K X.mg X.base j x ps P)(hr:Room k X.A)(ha:HA X.nox (e::es) t)(hj:Nat.ble j k=true:=by kernel_rfl)(hg:X.env.kindOf x=some .globalImplicit:=by kernel_rfl)
  (hdb:(x==("__debug__":Str))=false:=by kernel_rfl) (he:starEach (e::es) X.env=(false,eval e X.env)::starEach es X.env:=by kernel_rfl) (hpl:(backTo pos (starEach es X.env)).any (·.1)=false:=by kernel_rfl):HXE b X (.Call (.Name x p) (e::es) [] pos) (xCB P t):=⟨by
 rintro pins s σ H Q E Pσ Ex A pσ I ⟨S,M,ρ,F,R,sm,sr,q,k,xx⟩
 obtain⟨f,fd,Fk,hm,hk,hb⟩:=C
 refine ABU (jc I hg hm ?_ hdb)
 refine PySem.W.callWith_K (h₀:=X.base) I.ok.mod.kin hk (AAo (ha.ok.nox (Ex:=Ex) (pos:=pos) I ⟨S,M,ρ,_,sm,sr,q,λ_ _ z=>z⟩) (λus s1 z=>?_) λ_ _ z=>z) he hpl
 obtain⟨vs,H1,I1,r,ds,M1,ρ1,s1',g1,r1,q1⟩:=z
 refine⟨I1.kIn,?_⟩
 have hsp:spX X.K P (vs++[]) H1 Q E:=⟨ds,M1,ρ1,F,R,s1',by rw[ABC];exact r1,q1,λv H' w=>k v H' (VQ.trans g1 w),λC dx H' w=>xx C dx H' (w.trans g1)⟩
 have r2:au (vs++[]) (us++[]):=by rw[ABC,ABC];exact r
 have hl:(us++[]).length=ps.length:=by rw[<-r2.length];exact Fk.len _ _ _ _ hsp
 refine wpAny_call (ACU ((Fk.more (Nat.le_of_ble_eq_true hj)).run X.A X.stack s1 H1 ⟨us,[]⟩ (us++[]) (vs++[]) Q E hr I1.env0 (hb s1 us I1.kIn hl) r2 hsp) λr s' hq=>?_)
 cases r with
 | error e=>exact A.on σ H1 s1 e s' pσ I1 hq
 | ok fl =>
  cases fl with
  | ret u=>exact I1.after hq
  | next=>exact ABa hq
  | brk=>exact ABa hq
  | cont=>exact ABa hq⟩
end
abbrev LenX(Pr:xZ)(ps:List Str):Prop:=∀ds M R RX,Pr ds M R RX->ds.length=ps.length
abbrev DerX(P:Program)(w:World)(K:AA3)(mg:Str->Option Value)(base:Heap)(k:Nat)(x:Str)(N:List Str)(st:Stmt)(t:DTX):Prop :=
 ∀(f:Addr) (cdv:Value) (A:Around) (outer:List Env) (s:Shared) (H:Hp) (E:XK),Room k (A.deeper (AE5 x (ak st) s.heap.objs.size f cdv))->HXs true (jq (CXe P w) P w K mg base N x (ak st) f cdv A outer s H E) (bc st) t
section
variable{P:Program}{w:World}{K:AA3}{mg:Str->Option Value}{base:Heap}{x:Str}{st:Stmt}{N ps:List Str}{k:Nat}{Pr:xZ}{B:List Str}{C:List (Str×Int)}{t:DTX}
theorem AT.by(T:TopB mg B C)(F:cU K mg x st ps)(Sc:FnScope N ps (ak st))(len:LenX Pr ps)(der:TopB mg B C->N.Nodup->DerX P w K mg base k x N st t)(wp:∀ds M R RX,Pr ds M R RX->t (XEnd M RX) (EE M R) (bj N ds) M):AT P w K mg base (k+1) x ps Pr:=by
 obtain⟨f,fd,F1,hm,hb⟩:=F
 refine⟨f,fd,?_,hm,F1.kp,hb⟩
 obtain⟨oc,od,kV,doc,pm,an,cdv,ct,osl,rfl,lk,hcd⟩:=F1.ex
 refine As lk hcd Sc (λvs H Q E ⟨ds,M,ρ,R,RX,s,r,q,_⟩=>by rw[<-r.length];exact len ds M R RX q) λA outer s H vs Q E hr h=>?_
 obtain⟨ds,M,ρ,R,RX,sm,r,q,kk,kx⟩:=h
 refine⟨lowX K E t,λpins s1 σ H1 D I z=>(der T Sc.nd f cdv A outer s H E hr).ok pins s1 σ H1 D E (λ_=>True) _ ⟨λσ' H2 s2 e s' _ I2 c=>zr pins σ' H2 s2 e s' I2 c,λ_ _=>trivial,λ_ σ' H2 s2 h' e C vs I2 m q=>zI I2 m q⟩ trivial I z,
  bj N ds,M,ρ,_,_,sm,SRep.start r N,wp ds M R RX q,⟨λσ' H' ⟨S',M',ρ',s',g',sr',q'⟩=>?_,λv H' z=>kk v H' (VQ.endq sm z),λσ' H' ⟨S',M',ρ',s',g',sr',q'⟩=>q'.elim,λσ' H' ⟨S',M',ρ',s',g',sr',q'⟩=>q'.elim⟩,λC dx H' z=>kx C dx H' (XQ.endq sm z)⟩
 exact kk .non H' (VQ.endq sm ⟨.non,M',ρ',s',g',.non,q'⟩)
end
abbrev WpX(Pr:xZ)(n:Nat)(t:DTX):Prop:=∀ds M R RX,Pr ds M R RX->t (XEnd M RX) (EE M R) (dst n ds) M
abbrev prN(Pr:xZ):DSp:=λds M R=>Pr ds M R λ_ _=>False
theorem AT.nev{P:Program}{w:World}{K:AA3}{mg:Str->Option Value}{base:Heap}{x:Str}{ps:List Str}{k:Nat}{Pr:xZ}(h:AT P w K mg base k x ps Pr):Cal P w K mg base k x ps (prN Pr):=by
 obtain⟨f,fd,Fk,hm,hk,hb⟩:=h
 have no:∀{ρ:List Addr}{H:Hp} (C:Value) (dx:Option Addr) (H':Hp),XQ K ρ H (λ_ _=>False) C dx H'->E0 C dx H':=λC dx H' ⟨_,_,_,_,_,_,_,_,q⟩=>q
 refine⟨f,fd,⟨λvs H Q E ⟨ds,M,ρ,R,s,r,q,kk⟩=>Fk.len vs H Q E0 ⟨ds,M,ρ,R,_,s,r,q,kk,no⟩,λA outer s H args us vs Q E hr e0 hb' rv ⟨ds,M,ρ,R,sm,r,q,kk⟩=>?_⟩,hm,hk,hb⟩
 refine ACU (Fk.run A outer s H args us vs Q E0 hr e0 hb' rv ⟨ds,M,ρ,R,_,sm,r,q,kk,no⟩) λr s' z=>?_
 cases r with
 | error e=>obtain⟨_,_,_,_,_,_,_,z⟩:=z;exact z.elim
 | ok fl=>cases fl<;>exact z
theorem Ak{X:Cx}{c:Bool}{b:List Stmt}{st:Stmt}{sts:List Stmt}{t:DTX}(h:b=st::sts)(q:HXs c X (st::sts) t):HXs c X b t:=h ▸ q
noncomputable abbrev sy:=List (Str×List (Str×Bool))
noncomputable def sk(K:AA3)(t:Str×List (Str×Bool)):Bool:=match ACD K mainGlobals t.1 with
 | some (some (.ref C))=>ADW K C vE "ValueError.__new__" && ACH K (.ref C) "__getattribute__" == some (some (.builtin "BaseException.__getattribute__"))&&ACH K (.ref C) "__getattr__" == some none &&
   PySem.W.mroIn K C (.type "BaseException")==some true&&PySem.W.mroIn K C (.type "object")==some true&&ACH K (.ref C) "__class__" == some (some (.builtin "object.__class__"))&&AB8 K (.ref C) (.type "ValueError")==some true &&
   t.2.all λr=>match ACD K mainGlobals r.1 with
    | some (some (.ref C'))=>AEE K (.ref C) (.ref C')==some r.2&&AB8 K (.ref C) (.ref C')==some r.2&&AB8 K (.type "NoneType") (.ref C')==some false
    | _=>false
 | _=>false
noncomputable def cc(K:AA3)(T:sy):Bool:=T.all (sk K)
noncomputable def ju(T:sy)(x y:Str):Option Bool:=(T.lookup x).bind (·.lookup y)
structure ClsX(K:AA3)(x:Str)(C:Addr):Prop where
 at_:ACD K mainGlobals x=some (some (.ref C))
 exc:ADW K C vE "ValueError.__new__" = true
 own:ExcK K C
 val:AB8 K (.ref C) (.type "ValueError")=some true
theorem sk.cls{K:AA3}{x:Str}{row:List (Str×Bool)}(h:sk K (x,row)=true):∃C,ClsX K x C/\∀y v,(y,v)∈row->∃C',ACD K mainGlobals y=some (some (.ref C'))/\AEE K (.ref C) (.ref C')=some v/\AB8 K (.ref C) (.ref C')=some v/\AB8 K (.type "NoneType") (.ref C')=some false:=by
 unfold sk at h
 split at h
 ·rename_i C e
  simp only[AAO,beq_iff_eq]at h
  obtain⟨⟨⟨⟨⟨⟨⟨h1,h2⟩,h3⟩,h4⟩,h5⟩,h6⟩,h7⟩,h8⟩:=h
  refine⟨C,⟨e,h1,⟨h2,h3,h4,h5,h6⟩,h7⟩,λy v hy=>?_⟩
  have:=AAW.mp h8 (y,v) hy
  dsimp only at this
  split at this
  ·rename_i C' e'
   simp only[AAO,beq_iff_eq]at this
   exact⟨C',e',this.1.1,this.1.2,this.2⟩
  ·cases this
 ·cases h
theorem dR{α β:Type}[BEq α][LawfulBEq α]{a:α}{v:β}:∀{l:List (α×β)},l.lookup a=some v->(a,v)∈l
 | [],h=>by cases h
 | (c,w)::l,h=>by
  rw[ABc]at h
  split at h
  ·rename_i e;cases h;rw[beq_iff_eq.mp e];exact AAG
  ·exact AA9 _ (dR h)
theorem cc.cls{K:AA3}{T:sy}{x:Str}(h:cc K T=true)(hx:(T.lookup x).isSome=true):∃C,ClsX K x C/\∀y v,ju T x y=some v->∃C',ACD K mainGlobals y=some (some (.ref C'))/\AEE K (.ref C) (.ref C')=some v/\AB8 K (.ref C) (.ref C')=some v/\AB8 K (.type "NoneType") (.ref C')=some false:=by
 obtain⟨row,e⟩:=ABq.mp hx
 obtain⟨C,c,r⟩:=sk.cls (AAW.mp h _ (dR e))
 refine⟨C,c,λy v hv=>?_⟩
 unfold ju at hv
 rw[e]at hv
 exact r y v (dR hv)
theorem ju.has(h:ju T x y=some v):(T.lookup x).isSome=true:=by
 unfold ju at h
 cases q:T.lookup x with
 | none=>rw[q]at h;cases h
 | some _=>rfl
section
variable{b:Bool}{X:Cx}{e:Expr}{es:List Expr}{x:Str}{pos:Pos}
theorem mX{np cpos:Pos}{ta:DTA}{T:sy}(hT:cc X.K T=true)(ha:HA X.nox (e::es) ta)(hx:(T.lookup x).isSome=true:=by kernel_rfl)(hc:X.calm=true:=by kernel_rfl)
  (hg:X.env.kindOf x=some .globalImplicit:=by kernel_rfl) (he:starEach (e::es) X.env=(false,eval e X.env)::starEach es X.env:=by kernel_rfl) (hpl:(backTo cpos (starEach es X.env)).any (·.1)=false:=by kernel_rfl) (hdb:(x==("__debug__":Str))=false:=by kernel_rfl) :
  HX true X (.Raise (some (.Call (.Name x np) (e::es) [] cpos)) none pos) (ph x ta):=⟨λpins s σ H D E P Ex A p I z=>by
 obtain⟨C,c,_⟩:=cc.cls hT hx
 exact(xh (AEK I.mod.kin I.mod.glob c.at_) c.at_ c.exc ha hc hg he hpl hdb).ok pins s σ H D E P Ex A p I z⟩
def dTry(T:sy)(y:Str)(i:Nat)(tb:DTX)(ts:DTS):DTS:=λF S M =>
 tb (λx M'=>ju T x y=some true/\ts ⟨λS' M''=>F.nx (S'.set i none) M'',λ_ _=>False,λ_ _=>False,λ_ _=>False⟩ (S.set i (some (.ref M'.length))) (M'++[.exc x])) F S M
theorem SRep.drop{K:AA3}{ρ:List Addr}{H:Hp}{S:SD}{σ:St}(r:SRep K ρ H S σ)(i:Nat):SRep K ρ H (S.set i none) (σ.set i none):=by
 refine⟨by simpa using r.len,λj d e=>?_⟩
 by_cases h:i=j
 ·subst h
  by_cases hl:i<S.length
  ·rw[AAa hl]at e;cases e
  ·rw[AB9 (by simpa using hl)]at e;cases e
 ·rw[AAZ h]at e
  obtain⟨v,hv,rv⟩:=r.get j d e
  exact⟨v,by rw[AAZ h];exact hv,rv⟩
theorem yq{T:sy}{y n:Str}{i:Nat}{body:List Stmt}{b₀:Stmt}{suite:List Stmt}{np hpos:Pos}{tb:DTX}{ts:DTS}(hT:cc X.K T=true)(hN:X.N.Nodup)(hb:HXs false X body tb)(hs:∀a,HB (X.held a) (b₀::suite) ts)
  (d1:X.stack=X.env::X.outer:=by kernel_rfl) (d2:X.env.frame=some X.env.locals:=by kernel_rfl) (d3:X.ex=[]:=by kernel_rfl) (hi:X.N[i]?=some n:=by kernel_rfl) (hk:X.env.scope.names.lookup n=some .local:=by kernel_rfl)
  (hg:X.env.kindOf y=some .globalImplicit:=by kernel_rfl) (hdb:(y==("__debug__":Str))=false:=by kernel_rfl) :
  HS X (.Try body [.ExceptHandler (some (.Name y np)) (some n) (b₀::suite) hpos] [] [] pos) (dTry T y i tb ts):=⟨by
 rintro pins s σ H D I ⟨S,M,ρ,F,sm,sr,q,k⟩
 refine wpAny_Try_except (thn (hb.ok pins s σ H D (XQ X.K ρ H _) (λσ'=>σ'=σ) _ ⟨?_,λz=>(nomatch z),λz=>(nomatch z)⟩ rfl I ⟨S,M,ρ,F,_,sm,sr,q,k,λ_ _ _ z=>z⟩) λf s1 z=>?_)
 ·rintro σ' H1 s1 e s' rfl I1 ⟨a,C,H2,rfl,ho,hbr,Fl,x,c,M',ρ',rfl,hx,s2,g2,hsub,q2⟩
  obtain⟨C0,c0,r0⟩:=cc.cls hT (ju.has hsub)
  obtain⟨C',hy,hm,_⟩:=r0 y true hsub
  have ec:C0=c:=by have:=c0.at_.symm.trans hx;cases this;rfl
  subst ec
  have na:H2 a=none:=by
   obtain⟨B,a0,fly,_,_,_,trk⟩:=Fl
   cases q:H2 a with
   | none=>rfl
   | some u =>
    obtain⟨o,ho⟩:=trk a u q
    rw[fly.2.1]at ho
    cases ho
  refine vO (C:=C0) (C':=C') (i:=i) I1 ⟨d1,d2,d3⟩ ho hbr Fl hN hi hk (AEK I.mod.kin I.mod.glob hy) hm (hs a).ok ⟨S.set i (some (.ref M'.length)),M'++[.exc x],ρ'++[a],_,s2.laidM (mo:=.exc x) na ⟨C0,hx,ay⟩,(sr.grow (g2.trans (Grow.laidR na))).set i (.ref s2.last),q2,⟨λσ3 H3 w=>?_,λ_ _ w=>?_,λ_ _ w=>?_,λ_ _ w=>?_⟩⟩ hg hdb
  ·obtain⟨S3,M3,ρ3,s3,g3,sr3,q3⟩:=w
   exact k.nx _ H3 ⟨_,M3,ρ3,s3,(g2.trans (Grow.laidR na)).trans g3,sr3.drop i,q3⟩
  ·obtain⟨_,_,_,_,_,_,q3⟩:=w;exact q3
  ·obtain⟨_,_,_,_,_,_,q3⟩:=w;exact q3
  ·obtain⟨_,_,_,_,_,_,q3⟩:=w;exact q3
 ·cases f with
  | next=>exact ACN z
  | ret v=>exact z
  | brk=>exact z
  | cont=>exact z⟩
noncomputable def subY(T:sy)(y:Str):Bool:=T.any λr=>(r.2.lookup y).isSome
theorem cc.any{K:AA3}{T:sy}{y:Str}(h:cc K T=true)(hy:subY T y=true):∃C',ACD K mainGlobals y=some (some (.ref C'))/\AB8 K (.type "NoneType") (.ref C')=some false:=by
 obtain⟨⟨x,row⟩,hr,hl⟩:=AD8.mp hy
 obtain⟨v,hv⟩:=ABq.mp hl
 obtain⟨C,_,r⟩:=sk.cls (AAW.mp h _ hr)
 obtain⟨C',h1,_,_,h4⟩:=r y v (dR hv)
 exact⟨C',h1,h4⟩
def qC(T:sy)(y:Str)(te:DTE):DTE:=λS M Q=>te S M λd M1=>match d with
 | .ref n=>(match M1[n]? with
  | some (.exc x)=>(match ju T x y with
   | some v=>Q (.bl v) M1
   | none=>False)
  | _=>False)
 | .non=>Q (.bl false) M1
 | _=>False
def dIsV(T:sy)(te:DTE):DTE:=λS M Q=>te S M λd M1=>match d with
 | .ref n=>(match M1[n]? with
  | some (.exc x)=>(T.lookup x).isSome=true/\Q (.bl true) M1
  | _=>False)
 | .non=>Q (.bl false) M1
 | _=>False
def rIsC(K:AA3)(c:V)(u:Value):List V->Hp->VK->Prop:=λvs H Q=>∃v1,vs=[v1,c]/\((v1=.non/\AB8 K (.type "NoneType") u=some false/\Q (.bl false) H)\/∃a C v,v1=.ref a/\H a=some (.ext (AZ a (.ref C)))/\ExcK K C/\AB8 K (.ref C) u=some v/\Q (.bl v) H)
theorem qE(hr:∀u',aC c u'->u'=u):eE X (.builtin "isinstance") (rIsC X.K c u):=by
 rintro pins s σ H vs us Q I rv ⟨v1,rfl,h⟩
 obtain⟨u1,u2,rfl,r1,r2⟩:=au.two rv
 obtain rfl:=hr u2 r2
 rcases h with⟨rfl,hk,q⟩|⟨a,C,v,rfl,ha,hE,hk,q⟩
 ·obtain rfl:u1=ABp:=r1
  exact PySem.W.kia_one PySem.W.kitx_none I.kIn trivial hk (by intro z;cases z) λtk=>⟨.bl false,H,I.tok tk,rfl,q⟩
 ·obtain rfl:u1=ABS a:=r1
  obtain⟨⟨o,ws,e1,e2,_⟩,_⟩:=I.hok a _ ha
  exact PySem.W.kia_one (xk hE) I.kIn ⟨o,e1,e2⟩ hk (by intro z;cases z) λtk=>⟨.bl v,H,I.tok tk,rfl,q⟩
theorem Dl{T:sy}{y:Str}{p py:Pos}{te:DTE}(hT:cc X.K T=true)(hm:X.mg "isinstance" = none)(he:HE X e te)(hY:subY T y=true:=by kernel_rfl)(hg:X.env.kindOf "isinstance" = some .globalImplicit:=by kernel_rfl)(hy:X.env.kindOf y=some .globalImplicit:=by kernel_rfl)(hdb:(y==("__debug__":Str))=false:=by kernel_rfl)
  (hs1:starEach [e,.Name y py] X.env=(false,eval e X.env)::starEach [.Name y py] X.env:=by kernel_rfl) (hs2:starEach [.Name y py] X.env=(false,eval (.Name y py) X.env)::starEach [] X.env:=by kernel_rfl) (hpl:(backTo pos (starEach [.Name y py] X.env)).any (·.1)=false:=by kernel_rfl) :
  HE X (.Call (.Name "isinstance" p) [e,.Name y py] [] pos) (qC T y te):=⟨by
 rintro pins s σ H Q I ⟨S,M,ρ,R,sm,sr,q,k⟩
 obtain⟨C',hn,hnone⟩:=cc.any hT hY
 refine kM (qE (X:=X) (c:=.ref C') (u:=.ref C') λu' r=>r) hg hm cS (iK he.ok (iK (zo (v:=.ref C') hy (AEK I.mod.kin I.mod.glob hn) rfl hdb) ug hs2) hs1) (by decide) (by decide) hs1 hpl pins s σ H Q I ?_
 refine⟨S,M,ρ,_,sm,sr,q,?_⟩
 rintro v H1 ⟨d,M1,ρ1,s1,g1,r1,q1⟩
 show rIsC X.K (.ref C') (.ref C') [v,.ref C'] H1 Q
 refine⟨v,rfl,?_⟩
 cases d with
 | non =>
  obtain rfl:=Rep.inv_non r1
  exact .inl ⟨rfl,hnone,k _ _ ⟨_,M1,ρ1,s1,g1,.bl false,q1⟩⟩
 | ref n =>
  obtain⟨a,rfl,hn1⟩:=Rep.inv_ref r1
  dsimp only at q1
  split at q1
  ·rename_i x hx
   split at q1
   ·rename_i v hv
    obtain⟨C,c,r⟩:=cc.cls hT (ju.has hv)
    obtain⟨C2,hn2,_,hk,_⟩:=r y v hv
    have ec:C2=C':=by have:=hn2.symm.trans hn;cases this;rfl
    subst ec
    obtain⟨C3,h3,ha⟩:=s1.obj n a _ hn1 hx
    have ec:C3=C:=by have:=h3.symm.trans c.at_;cases this;rfl
    subst ec
    exact .inr ⟨a,C3,v,rfl,ha,c.own,hk,k _ _ ⟨_,M1,ρ1,s1,g1,.bl v,q1⟩⟩
   ·exact q1.elim
  ·exact q1.elim
 | _=>exact q1.elim⟩
theorem lK:bootBuiltins "ValueError" = some (.type "ValueError"):=by decide +kernel
theorem uP{K:AA3}:AB8 K (.type "NoneType") (.type "ValueError")=some false:=by kernel_rfl
theorem Dm{T:sy}{p py:Pos}{te:DTE}(hT:cc X.K T=true)(hm:X.mg "isinstance" = none)(hv:X.mg "ValueError" = none)(he:HE X e te)(hg:X.env.kindOf "isinstance" = some .globalImplicit:=by kernel_rfl)(hy:X.env.kindOf "ValueError" = some .globalImplicit:=by kernel_rfl)
  (hs1:starEach [e,.Name "ValueError" py] X.env=(false,eval e X.env)::starEach [.Name "ValueError" py] X.env:=by kernel_rfl) (hs2:starEach [.Name "ValueError" py] X.env=(false,eval (.Name "ValueError" py) X.env)::starEach [] X.env:=by kernel_rfl) (hpl:(backTo pos (starEach [.Name "ValueError" py] X.env)).any (·.1)=false:=by kernel_rfl) :
  HE X (.Call (.Name "isinstance" p) [e,.Name "ValueError" py] [] pos) (dIsV T te):=⟨by
 rintro pins s σ H Q I ⟨S,M,ρ,R,sm,sr,q,k⟩
 refine kM (qE (X:=X) (c:=.ty "ValueError") (u:=.type "ValueError") λu' r=>r) hg hm cS (iK he.ok (iK (ue (v:=.ty "ValueError") hy hv lK rfl) ug hs2) hs1) (by decide) (by decide) hs1 hpl pins s σ H Q I ?_
 refine⟨S,M,ρ,_,sm,sr,q,?_⟩
 rintro v H1 ⟨d,M1,ρ1,s1,g1,r1,q1⟩
 show rIsC X.K (.ty "ValueError") (.type "ValueError") [v,.ty "ValueError"] H1 Q
 refine⟨v,rfl,?_⟩
 cases d with
 | non =>
  obtain rfl:=Rep.inv_non r1
  exact .inl ⟨rfl,uP,k _ _ ⟨_,M1,ρ1,s1,g1,.bl false,q1⟩⟩
 | ref n =>
  obtain⟨a,rfl,hn1⟩:=Rep.inv_ref r1
  dsimp only at q1
  split at q1
  ·rename_i x hx
   obtain⟨C,c,_⟩:=cc.cls hT q1.1
   obtain⟨C3,h3,ha⟩:=s1.obj n a _ hn1 hx
   have ec:C3=C:=by have:=h3.symm.trans c.at_;cases this;rfl
   subst ec
   exact .inr ⟨a,C3,true,rfl,ha,c.own,c.val,k _ _ ⟨_,M1,ρ1,s1,g1,.bl true,q1.2⟩⟩
  ·exact q1.elim
 | _=>exact q1.elim⟩
end
end L2
namespace LW
open PySem L2
local macro_rules | `(tactic| walk_at "sc")=>`(tactic| exact⟨rfl,rfl,rfl,by decide +kernel,rfl,by decide +kernel,by decide +kernel⟩)
local macro_rules | `(tactic| walk_at "dl")=>`(tactic| simp only[EE,xOf,Bg,xIf,yG,xCB,ph,dTry,qC,dIsV,aA,dIf,Bb,Bc,dOr,aE,dCB,aa,ah,aZ,vI,dOrV,dLC,se,cw,aw,bA,aW,gc,kt,dOp,dUn,dC,ac,gG,fI,dSl,fZ,bT,dMl,cu,lG,yi,qAdd,aO,BH,kI,oh,tW,BJ,qLt,qGt,qIs,qEq,qNe,BK,lP,qIx,qSl,bQ,dAsg,xP,ny,cD,nA,dMl0,fR,fq,fH,si,vH,sf,dMt,gy,qA,fJ,BL,qB,tX,xT,dMm,kb,mF,BI,xS,AW,iG,gY,qz,AF,SqAt,zb,jn,at0,at1,at2,tyD,dst,bj,En,AAf,List.map_nil,AD9,AB6,ADV,ABv,AAI,AAj,List.replicate_zero,List.replicate_succ,List.set_cons_zero,List.set_cons_succ,ADE,Nat.reduceAdd,Nat.reduceSub,Option.join_some,if_true,if_false,AAD])
noncomputable def top(i:Nat):Stmt:=PySem.Challenge.pw_talkmarks_k24_no_such_room.main.body.getD i (.Pass ⟨0,0,0,0⟩)
noncomputable abbrev T_:sy:=[(AA1 "NoRoom",[(AA1 "TalkError",true),(AA1 "NoSaying",false),(AA1 "NotYours",false),(AA1 "NoHouse",false),(AA1 "NoDeed",false),(AA1 "NoWhat",false),(AA1 "NoName",false),(AA1 "Clash",false),(AA1 "NoRow",false),(AA1 "Strange",false),(AA1 "Gap",false),(AA1 "NoMessage",false),(AA1 "NoRoom",true)])]
noncomputable abbrev B_:List Str:=["sorted","set","reversed","len","range","tuple","list","max","isinstance","ValueError"]
noncomputable abbrev C_:List (Str×Int):=[]
noncomputable abbrev eM:List Str:=["pairs"]
noncomputable abbrev iO:List Str:=["house","thing"]
noncomputable abbrev dw:List Str:=["house","room"]
noncomputable abbrev fU:List Str:=["deed"]
noncomputable abbrev eL:List Str:=["deed"]
noncomputable abbrev bR:List Str:=["log","kind"]
noncomputable abbrev iM:List Str:=["say"]
noncomputable abbrev fT:List Str:=["say"]
noncomputable abbrev eN:List Str:=["house","say","elders"]
noncomputable abbrev bw:List Str:=["house","log"]
noncomputable abbrev cr:List Str:=["deed","says"]
noncomputable abbrev cI:List Str:=["log","kind","says"]
noncomputable abbrev be:List Str:=["log","says"]
noncomputable abbrev bF:List Str:=["says","room"]
noncomputable abbrev dA:List Str:=["depth","stamps"]
noncomputable abbrev cq:List Str:=["beneath"]
noncomputable abbrev iL:List Str:=["house","log","room"]
noncomputable abbrev iP:List Str:=["_law_script","_law_k"]
noncomputable abbrev kP:List Str:=["_law_cell"]
noncomputable abbrev ui:List Str:=["_law_held","_law_many"]
noncomputable abbrev uk:List Str:=["_law_held"]
noncomputable abbrev oj:List Str:=["_law_held","_law_many"]
noncomputable abbrev om:List Str:=["_law_cell"]
noncomputable abbrev kO:List Str:=["_law_held","_law_names_here"]
noncomputable abbrev uj:List Str:=["_law_held","_law_hands_here","_law_says"]
noncomputable abbrev kN:List Str:=["_law_held","_law_hands_here","_law_done"]
noncomputable abbrev uh:List Str:=["_law_held","_law_house_here","_law_hands_here","_law_says"]
noncomputable abbrev zv:List Str:=["_law_held","_law_house_here","_law_hands_here","_law_says","_law_done"]
noncomputable abbrev oo:List Str:=["_law_house_here"]
noncomputable abbrev zt:List Str:=["_law_cells","_law_house_here"]
noncomputable abbrev iN:List Str:=["_law_house_here","_law_log_here","_law_thing"]
noncomputable abbrev zu:List Str:=["_law_script"]
structure Tops(P:Program)(w:World)(K:AA3)(mg:Str->Option Value)(base:Heap):Prop where
 f_firsts_of:cU K mg "firsts_of" (top 15) eM
 f_is_room:cU K mg "is_room" (top 16) iO
 f_members_of:cU K mg "members_of" (top 17) dw
 f_stamp_of:cU K mg "stamp_of" (top 19) fU
 f_person_of:cU K mg "person_of" (top 20) eL
 f_deeds_of_kind:cU K mg "deeds_of_kind" (top 22) bR
 f_room_of:cU K mg "room_of" (top 24) iM
 f_under_of:cU K mg "under_of" (top 25) fT
 f_can_stand:cU K mg "can_stand" (top 26) eN
 f_says_that_count:cU K mg "says_that_count" (top 27) bw
 f_is_by_writer:cU K mg "is_by_writer" (top 28) cr
 f_writers_own:cU K mg "writers_own" (top 29) cI
 f_stamps_taken_back:cU K mg "stamps_taken_back" (top 30) be
 f_stamps_beneath:cU K mg "stamps_beneath" (top 32) bF
 f_last_first:cU K mg "last_first" (top 33) dA
 f_rows_of_tree:cU K mg "rows_of_tree" (top 34) cq
 f_rows_of:cU K mg "rows_of" (top 35) iL
 f_cell_at:cU K mg "_law_cell_at" (top 37) iP
 f_digits:cU K mg "_law_digits" (top 38) kP
 f_take:cU K mg "_law_take" (top 39) ui
 f_name:cU K mg "_law_name" (top 40) uk
 f_names:cU K mg "_law_names" (top 41) oj
 f_house:cU K mg "_law_house" (top 42) om
 f_saying:cU K mg "_law_saying" (top 43) kO
 f_pick:cU K mg "_law_pick" (top 44) uj
 f_vector:cU K mg "_law_vector" (top 45) kN
 f_what:cU K mg "_law_what" (top 46) uh
 f_act:cU K mg "_law_act" (top 47) zv
 f_hands:cU K mg "_law_hands" (top 48) oo
 f_log:cU K mg "_law_log" (top 49) zt
 f_refused:cU K mg "_law_refused" (top 50) iN
 f_law:cU K mg "law" (top 51) zu
 b:TopB mg B_ C_
 cl:cc K T_=true
 bm:BMain mg base
local macro_rules | `(tactic| walk_at "bb")=>`(tactic| first | exact cS | exact EB | exact AO | exact EA | exact nK | exact xX)
local macro_rules | `(tactic| walk_at "tb")=>`(tactic| exact TopB.no (by k_dflt assumption) (by kernel_rfl))
local macro_rules | `(tactic| walk_at "dvr")=>`(tactic| (repeat' (first | (with_reducible first | (refine gA ?_;first | exact De | refine Ac ?_ ?_) | exact k_var | (refine DM ?_;first | exact k_int | exact k_bl | exact k_non | exact k_str) | (refine gCall ?_;first | refine rP (by k_dflt assumption) ?_ (by walk_at "tb") (by walk_at "tb") | refine rQ ?_ (by walk_at "tb") | refine uW (by k_dflt assumption) (by k_dflt assumption) (by k_dflt assumption) ?_ (by walk_at "tb") (λ_ _ _ _ _ _ _ _=>?_) (by k_dflt (exact uI (by kernel_rfl))) (by k_dflt kernel_rfl) (by k_dflt kernel_rfl) (by k_dflt (intro _ _ _ _;kernel_rfl)) | refine Af ?_ (by walk_at "tb") (by walk_at "bb") ?_ | refine xt ?_ (by walk_at "tb") (by walk_at "bb") ?_ | refine k_cal (by k_dflt assumption) (by k_dflt assumption) ?_ | refine Ad (by k_dflt assumption) ?_ ?_ | refine Dk (by k_dflt assumption) ?_ ?_ | refine Di (by k_dflt assumption) ?_ ?_ | refine k_ml ?_ ?_ ?_ | refine k_ml0 ?_ ?_) | (refine gIx ?_;first | refine Ae ?_ ?_ ?_ | refine Dh (by k_dflt assumption) ?_ ?_ (hs:=by k_dflt (intro _ _;kernel_rfl)) | refine k_ix ?_ ?_ (hs:=by k_dflt (intro _ _;kernel_rfl))) | (refine gT ?_;first | refine CO ?_ ?_ ?_ | refine CN ?_ | refine kw_t (yp ?_ ?_) | refine kw_t (CJ ?_ ?_) | refine CM ?_) | (refine gE ?_;first | exact Dg | exact Dj | exact Df (by walk_at "tb") (by walk_at "bb") | refine k_op ?_ ?_ ?_ | refine k_un Ds ?_ | refine k_cmp ?_ ?_ ?_ | refine k_one ?_ | refine k_and ?_ ?_ | refine k_or ?_ ?_ | refine k_tup ?_ | refine k_lst ?_ | refine k_lcN ?_ (λ_ _ _ _=>?_) (λ_ _ _ _=>?_) (λ_ _ _ _=>?_) | refine Dl (by k_dflt assumption) (by walk_at "tb") ?_ | refine Dm (by k_dflt assumption) (by walk_at "tb") (by walk_at "tb") ?_) | (refine gS ?_;first | exact qm | refine uO ?_ | refine yt ?_ | refine CS ?_ ?_ ?_ | refine mY (by k_dflt assumption) ?_ (λ_ _ _ _=>?_) (λ_ _ _ _=>?_) (λ_ _ _ _=>?_) | refine yr (by k_dflt assumption) ?_ | refine yw ?_ ?_ | refine yq (by k_dflt assumption) (by k_dflt assumption) ?_ (λ_=>?_) | refine uN (by k_dflt assumption) ?_ ?_ ?_ | refine yu ?_ ?_ ?_ | refine qj ?_ ?_) | (refine gOp ?_;first | exact An | exact ho_eq (by k_dflt assumption) | exact Am | exact ho_gt | exact ho_in (by k_dflt assumption) | exact Dy (by k_dflt assumption) | exact ho_is | exact ho_lt | exact Dx | exact Dw | exact ho_ne (by k_dflt assumption) | exact xy (by k_dflt assumption) | exact Dv | exact Du | exact Dt) | (refine gC ?_;first | exact DF | exact DC | exact Ao | exact rR (by k_dflt assumption) | exact xC) | exact CQ | exact zU | exact zY | exact Aa | refine CP ?_ | refine yp ?_ ?_ | refine CJ ?_ ?_ | refine zQ ?_ | refine CI ?_ | refine zT ?_ | refine zX ?_ | refine uT (by walk_at "tb") ?_ | refine uS (by walk_at "tb") ?_ | refine CU (by walk_at "tb") ?_ | refine xn ?_ | refine CT ?_ | exact Ab (by k_dflt assumption) | exact CY (Cy (by kernel_rfl)) | refine xo ?_ ?_ | refine CV ?_ | refine CW ?_ ?_ | refine yo (by k_dflt assumption) (by k_dflt assumption) ?_ | refine CG ?_ ?_ ?_ | refine uK ?_ | refine mX (by k_dflt assumption) ?_ | refine CF ?_ | exact zP | refine uJ ?_ | refine qh ?_ ?_ | exact vb | exact va | exact Dz) | refine zW ?_ ?_ | refine uO ?_ | refine yt ?_ | refine CS ?_ ?_ ?_ | refine mY (by k_dflt assumption) ?_ (λ_ _ _ _=>?_) (λ_ _ _ _=>?_) (λ_ _ _ _=>?_) | refine yr (by k_dflt assumption) ?_ | refine yw ?_ ?_ | refine yq (by k_dflt assumption) (by k_dflt assumption) ?_ (λ_=>?_) | refine Dl (by k_dflt assumption) (by walk_at "tb") ?_ | refine Dm (by k_dflt assumption) (by walk_at "tb") (by walk_at "tb") ?_ | refine yo (by k_dflt assumption) (by k_dflt assumption) ?_ | refine CG ?_ ?_ ?_ | refine uK ?_ | refine mX (by k_dflt assumption) ?_ | refine CF ?_ | refine uJ ?_ | refine qh ?_ ?_ | refine uN (by k_dflt assumption) ?_ ?_ ?_ | refine yu ?_ ?_ ?_ | refine qj ?_ ?_ | exact qm)))
local macro_rules | `(tactic| walk_at "dv")=>`(tactic| (intro _ _ _ _ _ _ _ _ _ _;refine vh rfl ?_;walk_at "dvr"))
local macro_rules | `(tactic| walk_at "dvx")=>`(tactic| (intro _ _ _ _ _ _ _ _ _ _;refine Ak rfl ?_;walk_at "dvr"))
local macro_rules | `(tactic| walk_at "dvl")=>`(tactic| (intro _ _ _ _ _ _ _ _ _ _ _;refine vh rfl ?_;walk_at "dvr"))
section
variable{P:Program}{w:World}{K:AA3}{mg:Str->Option Value}{base:Heap}
noncomputable def cA(p:Str×Int):D:=.tup [.str p.1,.int p.2]
def Hd(d:D):Prop:=∃(x:Str) (k:Int),d=.tup [.str x,.int k]
theorem hd_eq(ha:Hd a)(hb:Hd b):eqD M (n+1) a b=true↔a=b:=by
 obtain⟨x,k,rfl⟩:=ha
 obtain⟨y,l,rfl⟩:=hb
 show (eqD M n (.str x) (.str y)&&(eqD M n (.int k) (.int l)&&true))=true↔_
 rw[bG,jk]
 simp
theorem hd_ok(ha:Hd a):okD M eqN a=true:=by
 obtain⟨x,k,rfl⟩:=ha
 rfl
theorem hd_key(ha:Hd a):bY 8 a=true:=by
 obtain⟨x,k,rfl⟩:=ha
 rfl
noncomputable def vecD(hs:List (D×Int)):List D:=hs.map λp=>.tup [p.1,.int p.2]
noncomputable def Bk(hs:List (D×Int))(hd:D)(num:Int):Bool:=match hs.find? λp=>decide (p.1=hd) with
 | some p=>decide (num<p.2)
 | none=>false
noncomputable def plD:Nat->D->Bool
 | n+1,.tup xs=>xs.all (plD n)
 | 0,.tup _=>false
 | _,.ref _=>false
 | _,.ty _=>false
 | _,_=>true
def Pln(n:Nat)(d:D):Prop:=plD n d=true
def jB(n:Nat)(ds:List D):Prop:=ds.all (plD n)=true
theorem Pln.non:Pln n .non:=by cases n<;>rfl
theorem Pln.bl(b:Bool):Pln n (.bl b):=by cases n<;>rfl
theorem Pln.int(i:Int):Pln n (.int i):=by cases n<;>rfl
theorem Pln.str(x:Str):Pln n (.str x):=by cases n<;>rfl
theorem jB.nil:jB n []:=rfl
theorem jB.cons(h:Pln n d)(t:jB n ds):jB n (d::ds):=by
 unfold jB Pln at *
 rw[ABI,h,t];rfl
theorem Pln.tup(h:jB n ds):Pln (n+1) (.tup ds):=h
theorem jB.of(h:∀d∈ds,Pln n d):jB n ds:=AAW.mpr h
theorem ck:∀(n:Nat) (d:D),Pln n d->Bel k d:=by
 intro n
 induction n with
 | zero =>
  intro d h
  cases d with
  | tup xs=>cases h
  | ref i=>cases h
  | ty t=>cases h
  | non=>exact .non
  | bl b=>exact .bl b
  | int i=>exact .int i
  | str x=>exact .str x
 | succ n ih =>
  intro d h
  cases d with
  | tup xs=>exact .tup (Bels.of λx hx=>ih x (AAW.mp h x hx))
  | ref i=>cases h
  | ty t=>cases h
  | non=>exact .non
  | bl b=>exact .bl b
  | int i=>exact .int i
  | str x=>exact .str x
theorem lC:∀{xs:List D},(∀x∈xs,f x x=true)->eqL f xs xs=true
 | [],_=>rfl
 | x::xs,h=>by
  show (f x x&&eqL f xs xs)=true
  rw[h x (by simp),lC λy hy=>h y (AA9 _ hy)];rfl
theorem pln_ok:∀(n m:Nat) (d:D),n<=m->Pln n d->okD M m d=true/\eqD M m d d=true:=by
 intro n
 induction n with
 | zero =>
  intro m d _ h
  cases d with
  | tup xs=>cases h
  | ref i=>cases h
  | ty t=>cases h
  | non=>exact⟨ur,by cases m<;>rfl⟩
  | bl b=>exact⟨yj,by cases m<;>cases b<;>rfl⟩
  | int i=>exact⟨kU,by rw[jk];exact beq_self_eq_true i⟩
  | str x=>exact⟨aI,by rw[bG];exact beq_self_eq_true x⟩
 | succ n ih =>
  intro m d hm h
  cases m with
  | zero=>lia
  | succ m =>
   cases d with
   | tup xs=>exact⟨zB λx hx=>(ih m x (by lia) (AAW.mp h x hx)).1,lC λx hx=>(ih m x (by lia) (AAW.mp h x hx)).2⟩
   | ref i=>cases h
   | ty t=>cases h
   | non=>exact⟨ur,rfl⟩
   | bl b=>exact⟨yj,by cases b<;>rfl⟩
   | int i=>exact⟨kU,by rw[jk];exact beq_self_eq_true i⟩
   | str x=>exact⟨aI,by rw[bG];exact beq_self_eq_true x⟩
theorem xB(h:Hd d):Pln (n+1) d:=by
 obtain⟨x,i,rfl⟩:=h
 exact .tup (.cons (.str _) (.cons (.int _) .nil))
theorem DB(h:Hd d):Bel k d:=ck 1 d (xB h)
def Deed(d:D):Prop:=∃(t:Int) (hd:D) (num:Int) (act:D),d=.tup [.int t,hd,.int num,act]/\Hd hd/\Pln 5 act
theorem AG(h:Deed d):Pln 6 d:=by
 obtain⟨t,hd,num,act,rfl,hh,ha⟩:=h
 exact .tup (.cons (.int _) (.cons (xB hh) (.cons (.int _) (.cons ha .nil))))
theorem xQ(h:Deed d):Bel k d:=ck 6 d (AG h)
theorem Em(h:∀d∈ds,Deed d):Bels k ds:=Bels.of λd hd=>xQ (h d hd)
noncomputable def handD:D->D
 | .tup (_::h::_)=>h
 | _=>.non
noncomputable def numD:D->Int
 | .tup (_::_::.int n::_)=>n
 | _=>0
noncomputable def many(log:List D)(hd:D):Nat:=(log.filter λd=>decide (handD d=hd)).length
theorem fE:aY (eK kvs k d) k=some d:=by
 unfold eK
 split
 ·rename_i hs
  unfold aY at hs ⊢
  rw[Option.isSome_map]at hs
  obtain⟨q,hq⟩:=ABq.mp hs
  rw[List.find?_map]
  have e:((λp:D×D=>decide (p.1=k)) ∘ λp:D×D=>if p.1=k then(p.1,d)else p)=λp=>decide (p.1=k):=by
   funext p
   show decide ((if p.1=k then(p.1,d)else p).1=k)=decide (p.1=k)
   split<;>rfl
  rw[e,hq]
  have hk:q.1=k:=by
   have:=AE2 hq
   exact oT_ this
  show some (if q.1=k then(q.1,d)else q).2=_
  rw[if_pos hk]
 ·rename_i hs
  unfold aY at hs ⊢
  rw[Option.isSome_map,Option.not_isSome_iff_eq_none]at hs
  rw[List.find?_append,hs]
  simp
theorem fF(h:j≠k):aY (eK kvs k d) j=aY kvs j:=by
 unfold eK
 split
 ·unfold aY
  rw[List.find?_map]
  have e:((λp:D×D=>decide (p.1=j)) ∘ λp:D×D=>if p.1=k then(p.1,d)else p)=λp=>decide (p.1=j):=by
   funext p
   show decide ((if p.1=k then(p.1,d)else p).1=j)=decide (p.1=j)
   split<;>rfl
  rw[e]
  cases hf:kvs.find? λp=>decide (p.1=j) with
  | none=>rfl
  | some q =>
   have hq:q.1=j:=by
    have:=AE2 hf
    exact oT_ this
   show some (if q.1=k then(q.1,d)else q).2=some q.2
   rw[if_neg (by rw[hq];exact h)]
 ·unfold aY
  rw[List.find?_append]
  cases hf:kvs.find? λp=>decide (p.1=j) with
  | none=>simp[ABO h]
  | some q=>rfl
theorem ux:∀{kvs:List (D×D)}{p:D×D},(kvs.map (·.1)).Nodup->p∈kvs->aY kvs p.1=some p.2
 | q::kvs,p,nd,h=>by
  rw[AAf,List.nodup_cons]at nd
  unfold aY
  rw[ADU]
  rcases AAK.mp h with rfl | h
  ·rw[dT_ rfl];rfl
  ·have:q.1≠p.1:=λz=>nd.1 (by rw[z];exact ABM h)
   rw[dF_ this]
   exact ux nd.2 h
theorem cO(h:aY kvs k=some d):(k,d)∈kvs:=by
 unfold aY at h
 obtain⟨q,hq,rfl⟩:=ABh.mp h
 have e:q.1=k:=by
  have:=AE2 hq
  exact oT_ this
 rw[<-e]
 exact List.mem_of_find?_eq_some hq
theorem dH{α:Type}{P:List α->Prop}(h0:P [])(h1:∀l x,P l->P (l++[x]))(l:List α):P l:=by
 rw[<-List.reverse_reverse l]
 induction l.reverse with
 | nil=>exact h0
 | cons x xs ih=>rw[List.reverse_cons];exact h1 _ _ ih
theorem kX(hL:am M n xs)(ok:∀x∈xs,okD (M++[MO.lst []]) 29 x=true):(okD (M++[MO.lst []]) eqN (.ref n)=true/\okD (M++[MO.lst []]) eqN (.ref M.length)=true)/\eqD (M++[MO.lst []]) eqN (.ref n) (.ref M.length)=xs.isEmpty:=by
 have h1:am (M++[MO.lst []]) n xs:=hL.more _
 have h2:am (M++[MO.lst []]) M.length []:=aX
 refine⟨⟨kT (n:=29) h1 ok,kT (n:=29) h2 λ_ z=>nomatch z⟩,?_⟩
 exact(qw (n:=29) h1 h2).trans Au
theorem lst_ne(h:m≠n)(l:am M m xs):am (M.set n x) m xs:=by
 rcases l with l | l | l
 ·exact .inl (by rw[AAZ (ABO h)];exact l)
 ·exact .inr (.inl (by rw[AAZ (ABO h)];exact l))
 ·exact .inr (.inr (by rw[AAZ (ABO h)];exact l))
theorem ar{M:Mem}{m n:Nat}{x y:MO}(h:m≠n)(l:M[m]?=some y):(M.set n x)[m]?=some y:=by rw[AAZ (ABO h)];exact l
theorem aG{M:Mem}{m:Nat}{y:MO}(l:M[m]?=some y):m<M.length:=(AA7.mp l).1
theorem CC(l:am M m xs):m<M.length:=by
 rcases l with l | l | l<;>exact aG l
theorem ad{B:Mem}{q:Nat}{x a:MO}(h:B[q]?=some x):(B++[a])[q]?=some x:=by
 rw[AAM (AA7.mp h).1];exact h
theorem bx{B:Mem}{q:Nat}{x a:MO}(h:B[q]?=some x):(B.set q a)[q]?=some a:=AAa (AA7.mp h).1
theorem oB(p:M <+: B)(l:am M q xs):am B q xs:=by
 obtain⟨L,rfl⟩:=p
 exact l.more L
theorem bz{M B:Mem}{q:Nat}{x:MO}(p:M <+: B)(l:M[q]?=some x):B[q]?=some x:=by
 obtain⟨L,rfl⟩:=p
 rw[AAM (aG l)];exact l
theorem ints_bel(xs:List Int):Bels k (xs.map D.int):=Bels.of λd hd=>by
 obtain⟨x,_,rfl⟩:=AAU.mp hd
 exact .int x
theorem pZ(xs:List Str):Bels k (xs.map D.str):=Bels.of λd hd=>by
 obtain⟨x,_,rfl⟩:=AAU.mp hd
 exact .str x
theorem qf{a b:Int}(h:0<b):0<=a % b:=Int.emod_nonneg _ (by lia)
theorem qg{a b:Int}(h:0<b):a % b<b:=Int.emod_lt_of_pos _ h
theorem at_mod{α:Type}{xs:List α}{i:Int}(h:1<=xs.length):∃x∈xs,atI xs (i % (xs.length:Int))=some x:=by
 obtain⟨j,hj,ej,_⟩:=eJ (xs:=xs) (qf (a:=i) (b:=xs.length) (by lia)) (qg (by lia))
 exact⟨xs[j],AB4 hj,ej⟩
theorem bv(p:M <+: B)(h:M.length<=q):M <+: B.set q x:=by
 obtain⟨L,rfl⟩:=p
 rw[ADn _ _ h]
 exact AAb _ _
noncomputable def cN(p:Str×Int):List D:=(nN 0 p.2.toNat).map λk=>.tup [.str p.1,k]
noncomputable def aB(ps:List (Str×Int)):List D:=ps.flatMap cN
def Few(ps:List (Str×Int)):Prop:=ps.length<=4/\∀p∈ps,0<=p.2/\p.2<=3
theorem eQ:(cN p).length=p.2.toNat:=by simp[cN,nN]
theorem kq(h:∀p∈ps,0<=p.2/\p.2<=3):(aB ps).length<=3*ps.length:=by
 induction ps with
 | nil=>simp[aB]
 | cons p ps ih =>
  have:=ih λq hq=>h q (AA9 _ hq)
  have h1:=h p AAG
  have e:(aB (p::ps)).length=p.2.toNat+(aB ps).length:=by
   rw[aB,List.flatMap_cons,AAA,eQ];rfl
  rw[e,AAI]
  lia
theorem qr:∀d∈aB ps,Hd d:=λd hd=>by
 unfold aB at hd
 obtain⟨p,_,hp⟩:=List.mem_flatMap.mp hd
 unfold cN nN at hp
 simp only[ABG,AAU]at hp
 obtain⟨i,_,rfl⟩:=hp
 exact⟨_,_,rfl⟩
theorem rS:Bels k (aB ps):=Bels.of λd hd=>DB (qr d hd)
noncomputable def er(p:Str×List Str):D:=.tup [.str p.1,.tup (p.2.map .str)]
noncomputable def aJ(ps:List (Str×Int))(rs:List (Str×List Str)):D:=.tup [.tup (ps.map cA),.tup (rs.map er)]
structure HouseF(ps:List (Str×Int))(rs:List (Str×List Str)):Prop where
 len:1<=ps.length/\ps.length<=4
 many:∀p∈ps,1<=p.2/\p.2<=3
 nm:∀p∈ps,p.1.length<=8
 rl:1<=rs.length/\rs.length<=4
 pnd:(ps.map (·.1)).Nodup
 rnd:(rs.map (·.1)).Nodup
 rm:∀r∈rs,r.2.length<=4
def St(d:D):Prop:=∃(t:Int) (z:Str) (k:Int),d=.tup [.int t,.tup [.str z,.int k]]
theorem St.key(h:St d):bY 8 d=true:=by obtain⟨t,z,k,rfl⟩:=h;rfl
theorem St.ok(h:St d):okD M eqN d=true:=by obtain⟨t,z,k,rfl⟩:=h;rfl
theorem St.pl(h:St d):Pln (n+2) d:=by
 obtain⟨t,z,k,rfl⟩:=h
 exact .tup (.cons (.int _) (.cons (.tup (.cons (.str _) (.cons (.int _) .nil))) .nil))
theorem St.eq(ha:St a)(hb:St b):eqD M (n+2) a b=decide (a=b):=by
 obtain⟨t,z,k,rfl⟩:=ha
 obtain⟨t',z',k',rfl⟩:=hb
 have e:eqD M (n+2) (.tup [.int t,.tup [.str z,.int k]]) (.tup [.int t',.tup [.str z',.int k']])=((t==t')&&(((z==z')&&((k==k')&&true))&&true)):=by
  show (eqD M (n+1) (.int t) (.int t')&&((eqD M n (.str z) (.str z')&&(eqD M n (.int k) (.int k')&&true))&&true))=_
  rw[jk,bG,jk]
 rw[e]
 by_cases h:D.tup [.int t,.tup [.str z,.int k]]=.tup [.int t',.tup [.str z',.int k']]
 ·rw[dT_ h]
  simp only[D.tup.injEq,ADO,D.int.injEq,D.str.injEq,and_true]at h
  obtain⟨rfl,rfl,rfl⟩:=h
  simp
 ·rw[dF_ h]
  simp only[D.tup.injEq,ADO,D.int.injEq,D.str.injEq,and_true]at h
  refine ABP.mpr λq=>h ?_
  simpa using q
theorem St.tup(h:St d):∃ks,d=.tup ks:=by obtain⟨t,z,k,rfl⟩:=h;exact⟨_,rfl⟩
structure ActK(rs:List (Str×List Str))(x:Str)(ds:List D):Prop where
 say:x=AA1 "say"->∃(r:Str) (u:D) (s:Str),ds=[.str r,u,.str s]/\r∈rs.map (·.1)/\(u=.non\/St u)
 change:x=AA1 "change"->∃(m:D) (s:Str),ds=[m,.str s]/\St m
 back:x=AA1 "back"->∃m:D,ds=[m]/\St m
 like:x=AA1 "like"->∃(m:D) (s:Str) (b:Bool),ds=[m,.str s,.bl b]/\St m
section
variable{rs:List (Str×List Str)}
theorem sA:AA1 "say"≠AA1 "change"/\AA1 "say"≠AA1 "back"/\AA1 "say"≠AA1 "like"/\AA1 "change"≠AA1 "back"/\AA1 "change"≠AA1 "like"/\AA1 "back"≠AA1 "like":=by decide +kernel
theorem ActK.mkSay(hr:r∈rs.map (·.1))(hu:u=.non\/St u):ActK rs (AA1 "say") [.str r,u,.str s] :=
 ⟨λ_=>⟨r,u,s,rfl,hr,hu⟩,λe=>absurd e sA.1,λe=>absurd e sA.2.1,λe=>absurd e sA.2.2.1⟩
theorem ActK.mkChange(h:St m):ActK rs (AA1 "change") [m,.str s] :=
 ⟨λe=>absurd e.symm sA.1,λ_=>⟨m,s,rfl,h⟩,λe=>absurd e sA.2.2.2.1,λe=>absurd e sA.2.2.2.2.1⟩
theorem ActK.mkBack(h:St m):ActK rs (AA1 "back") [m] :=
 ⟨λe=>absurd e.symm sA.2.1,λe=>absurd e.symm sA.2.2.2.1,λ_=>⟨m,rfl,h⟩,λe=>absurd e sA.2.2.2.2.2⟩
theorem ActK.mkLike(h:St m):ActK rs (AA1 "like") [m,.str s,.bl b] :=
 ⟨λe=>absurd e.symm sA.2.2.1,λe=>absurd e.symm sA.2.2.2.2.1,λe=>absurd e.symm sA.2.2.2.2.2,λ_=>⟨m,s,b,rfl,h⟩⟩
theorem ActK.mkNone(h:x≠AA1 "say"/\x≠AA1 "change"/\x≠AA1 "back"/\x≠AA1 "like"):ActK rs x ds :=
 ⟨λe=>absurd e h.1,λe=>absurd e h.2.1,λe=>absurd e h.2.2.1,λe=>absurd e h.2.2.2⟩
end
def bh(ps:List (Str×Int))(rs:List (Str×List Str))(d:D):Prop:=∃(t:Int) (z:Str) (k num:Int) (x:Str) (ds:List D),d=.tup [.int t,.tup [.str z,.int k],.int num,.tup (.str x::ds)]/\1<=t/\D.tup [.str z,.int k]∈aB ps/\jB 4 ds/\ActK rs x ds
section
variable{ps:List (Str×Int)}{rs:List (Str×List Str)}
theorem bh.pl(h:bh ps rs d):Pln 6 d:=by
 obtain⟨t,z,k,num,x,ds,rfl,_,_,hp,_⟩:=h
 exact .tup (.cons (.int _) (.cons (xB ⟨_,_,rfl⟩) (.cons (.int _) (.cons (.tup (.cons (.str _) hp)) .nil))))
theorem bh.bels(h:∀d∈ds,bh ps rs d):Bels k ds:=Bels.of λd hd=>ck 6 d (h d hd).pl
end
noncomputable def dD:D->Str
 | .tup [_,_,_,.tup (.str x::_)]=>x
 | _=>AA1 ""
noncomputable def mO:D->Str
 | .tup (_::.tup (.str z::_)::_)=>z
 | _=>AA1 ""
noncomputable def stD:D->D
 | .tup (t::h::_)=>.tup [t,h]
 | _=>.non
noncomputable def ef:D->Str
 | .tup [_,_,_,.tup (_::.str r::_)]=>r
 | _=>AA1 ""
noncomputable def ib:D->D
 | .tup [_,_,_,.tup (_::_::u::_)]=>u
 | _=>.non
noncomputable def AX:D->D
 | .tup [_,_,_,.tup (_::m::_)]=>m
 | _=>.non
noncomputable def sayO:D->D
 | .tup [_,_,_,.tup (_::_::_::s::_)]=>s
 | _=>.non
noncomputable def numO:D->D
 | .tup [_,_,n,_]=>n
 | _=>.non
noncomputable def sortO:D->Str
 | .tup [_,_,_,.tup (_::_::.str s::_)]=>s
 | _=>AA1 ""
noncomputable def onO:D->Bool
 | .tup [_,_,_,.tup (_::_::_::.bl b::_)]=>b
 | _=>false
noncomputable def sB(rs:List (Str×List Str))(r:Str):List Str:=((rs.find? λp=>decide (p.1=r)).map (·.2)).getD []
noncomputable def kinds(log:List D)(k:Str):List D:=log.filter λd=>decide (dD d=k)
section
variable{ps:List (Str×Int)}{rs:List (Str×List Str)}
theorem qc(h:bh ps rs d)(e:dD d=AA1 "say"):∃(t:Int) (z:Str) (k num:Int) (r:Str) (u:D) (s:Str),d=.tup [.int t,.tup [.str z,.int k],.int num,.tup [.str (AA1 "say"),.str r,u,.str s]]/\1<=t/\D.tup [.str z,.int k]∈aB ps/\r∈rs.map (·.1)/\(u=.non\/St u):=by
 obtain⟨t,z,k,num,x,ds,rfl,h1,h2,_,ha⟩:=h
 obtain rfl:x=AA1 "say":=e
 obtain⟨r,u,s,rfl,hr,hu⟩:=ha.say rfl
 exact⟨t,z,k,num,r,u,s,rfl,h1,h2,hr,hu⟩
theorem vM(h:bh ps rs d)(e:dD d=AA1 "change"):∃(t:Int) (z:Str) (k num:Int) (m:D) (s:Str),d=.tup [.int t,.tup [.str z,.int k],.int num,.tup [.str (AA1 "change"),m,.str s]]/\St m:=by
 obtain⟨t,z,k,num,x,ds,rfl,h1,h2,_,ha⟩:=h
 obtain rfl:x=AA1 "change":=e
 obtain⟨m,s,rfl,hm⟩:=ha.change rfl
 exact⟨t,z,k,num,m,s,rfl,hm⟩
theorem vT(h:bh ps rs d)(e:dD d=AA1 "back"):∃(t:Int) (z:Str) (k num:Int) (m:D),d=.tup [.int t,.tup [.str z,.int k],.int num,.tup [.str (AA1 "back"),m]]/\St m:=by
 obtain⟨t,z,k,num,x,ds,rfl,h1,h2,_,ha⟩:=h
 obtain rfl:x=AA1 "back":=e
 obtain⟨m,rfl,hm⟩:=ha.back rfl
 exact⟨t,z,k,num,m,rfl,hm⟩
theorem like_of(h:bh ps rs d)(e:dD d=AA1 "like"):∃(t:Int) (z:Str) (k num:Int) (m:D) (s:Str) (b:Bool),d=.tup [.int t,.tup [.str z,.int k],.int num,.tup [.str (AA1 "like"),m,.str s,.bl b]]/\St m:=by
 obtain⟨t,z,k,num,x,ds,rfl,h1,h2,_,ha⟩:=h
 obtain rfl:x=AA1 "like":=e
 obtain⟨m,s,b,rfl,hm⟩:=ha.like rfl
 exact⟨t,z,k,num,m,s,b,rfl,hm⟩
end
local macro_rules | `(tactic| walk_at "ifs")=>`(tactic| simp only[yi,AAD,↓reduceIte,ABY,Bool.not_false])
noncomputable def gj(rs:List (Str×List Str))(kvs:List (D×D))(d:D):Bool:=decide (mO d∈sB rs (ef d))&&(decide (ib d=.non)||match aY kvs (ib d) with
 | some e=>decide (ef e=ef d)
 | none=>false)
noncomputable def tM(rs:List (Str×List Str))(kvs:List (D×D))(d:D):List (D×D):=if gj rs kvs d=true then eK kvs (stD d) d else kvs
noncomputable def aR(rs:List (Str×List Str))(l:List D):List (D×D):=l.foldl (tM rs) []
theorem eU:aR rs (l++[d])=tM rs (aR rs l) d:=by
 unfold aR
 rw[List.foldl_append];rfl
noncomputable def bn(rs:List (Str×List Str))(log:List D):List (D×D):=aR rs (kinds log (AA1 "say"))
theorem rL:kinds (log++[d]) k=kinds log k++if dD d=k then[d]else[]:=by
 unfold kinds
 rw[List.filter_append]
 congr 1
 by_cases h:dD d=k
 ·rw[AC9,dT_ h,if_pos rfl,if_pos h];rfl
 ·rw[AC9,dF_ h,if_neg (by decide),if_neg h];rfl
theorem cC(h:d∈kinds log k):d∈log/\dD d=k:=⟨(ABK.mp h).1,oT_ (ABK.mp h).2⟩
theorem fA:(kinds log k).length<=log.length:=ACo _ _
structure TabK(l:List D)(kvs:List (D×D)):Prop where
 nd:(kvs.map (·.1)).Nodup
 en:∀p∈kvs,p.1=stD p.2/\p.2∈l
 len:kvs.length<=l.length
theorem gQ(h:p∈eK kvs k d):p=(k,d)\/p∈kvs:=by
 unfold eK at h
 split at h
 ·obtain⟨q,hq,rfl⟩:=AAU.mp h
  split
  ·rename_i e;rw[e];exact .inl rfl
  ·exact .inr hq
 ·rcases AAl.mp h with h | h
  ·exact .inr h
  ·exact .inl (by simpa using h)
theorem kJ:(eK kvs k d).length<=kvs.length+1:=by
 unfold eK
 split
 ·rw[AA6];lia
 ·simp
theorem gf(l:List D):TabK l (aR rs l):=by
 refine dH (P:=λl=>TabK l (aR rs l)) ⟨.nil,(λ_ z=>nomatch z),AA8 _⟩ (λl d ih=>?_) l
 rw[eU]
 unfold tM
 have hs:∀p∈aR rs l,p.1=stD p.2/\p.2∈l++[d]:=λp hp=>⟨(ih.en p hp).1,AAd _ (ih.en p hp).2⟩
 have hl:=ih.len
 split
 ·refine⟨oi ih.nd,λp hp=>?_,?_⟩
  ·rcases gQ hp with rfl | hp
   ·exact⟨rfl,by simp⟩
   ·exact hs p hp
  ·have:=kJ (kvs:=aR rs l) (k:=stD d) (d:=d)
   rw[AAA,AAX];lia
 ·exact⟨ih.nd,hs,by rw[AAA,AAX];lia⟩
theorem kw:TabK (kinds log (AA1 "say")) (bn rs log):=gf _
theorem yy(t:TabK l kvs)(h:aY kvs k=some e):k=stD e/\e∈l:=t.en _ (cO h)
noncomputable def byW(kvs:List (D×D))(d:D):Bool:=match aY kvs (AX d) with
 | some e=>decide (mO d=mO e)
 | none=>false
def NmK(d:D):Prop:=∃(a:D) (z:Str) (r1 r2:List D),d=.tup (a::.tup (.str z::r1)::r2)
section
variable{ps:List (Str×Int)}{rs:List (Str×List Str)}
theorem bh.nm(h:bh ps rs d):NmK d:=by
 obtain⟨t,z,k,num,x,ds,rfl,_⟩:=h
 exact⟨_,_,_,_,rfl⟩
theorem bh.st(h:bh ps rs d):St (stD d):=by
 obtain⟨t,z,k,num,x,ds,rfl,_⟩:=h
 exact⟨_,_,_,rfl⟩
theorem St.cm(ha:St a)(hb:St b):gH M eqN a b=true:=by
 obtain⟨t,z,k,rfl⟩:=ha
 obtain⟨t',z',k',rfl⟩:=hb
 show (if eqD M 29 (.int t) (.int t')=true then(if eqD M 29 (.tup [.str z,.int k]) (.tup [.str z',.int k'])=true then true else(if eqD M 28 (.str z) (.str z')=true then(if eqD M 28 (.int k) (.int k')=true then true else true)else true))else true)=true
 repeat' split
 all_goals rfl
theorem tK(h:∀x∈xs,St x)(l:xs.length<64):SrtOk M xs:=by
 refine⟨l,λx hx=>?_,λx hx y hy=>(h x hx).cm (h y hy),.inr (.inr (.inr (.inl λx hx=>?_)))⟩
 ·obtain⟨t,z,k,rfl⟩:=h x hx;rfl
 ·obtain⟨t,z,k,rfl⟩:=h x hx;exact⟨_,_,rfl⟩
end
def fM(kvs:List (D×D))(log:List D)(k:D):Prop:=∃d∈kinds log (AA1 "back"),byW kvs d=true/\AX d=k
theorem wA(h:k∉kvs.map (·.1)):eK kvs k d=kvs++[(k,d)]:=by
 unfold eK
 rw[if_neg]
 intro z
 obtain⟨e,he⟩:=ABq.mp z
 exact h (ABM (f:=(·.1)) (cO he))
theorem Eh(ps:List (D×D))(h:(ps.map (·.1)).Nodup):dictOf ps=ps:=by
 revert h
 refine dH (P:=λps=>(ps.map (·.1)).Nodup->dictOf ps=ps) (λ_=>rfl) (λps p ih h=>?_) ps
 rw[AAq]at h
 have h':=ACR.mp h
 rw[oV,ih h'.1,wA]
 intro z
 exact h'.2.2 _ z _ (by simp) rfl
theorem lu{M:Mem}{x:Str}{l:List Str}:inD M (.str x) (l.map .str)=decide (x∈l):=by
 unfold inD
 rw[List.any_map]
 by_cases h:x∈l
 ·rw[dT_ h]
  exact AD8.mpr ⟨x,h,by show eqD M eqN (.str x) (.str x)=true;rw[bG];exact beq_self_eq_true x⟩
 ·rw[dF_ h]
  refine ABP.mpr λz=>?_
  obtain⟨y,hy,e⟩:=AD8.mp z
  have e':eqD M eqN (.str y) (.str x)=true:=e
  rw[bG]at e'
  exact h (eq_of_beq e' ▸ hy)
theorem kG{M:Mem}{l:List Str}:(l.map D.str).all (okD M eqN)=true:=AAW.mpr λx hx=>by
 obtain⟨y,_,rfl⟩:=AAU.mp hx
 exact aI
noncomputable def jZ(rs:List (Str×List Str))(log:List D):List (D×D):=(bn rs log).filter λp=>@decide (¬fM (bn rs log) log p.1) (ABB _)
theorem tR:p∈jZ rs log↔p∈bn rs log/\¬fM (bn rs log) log p.1:=by
 unfold jZ
 rw[List.mem_filter]
 exact and_congr Iff.rfl (@decide_eq_true_iff _ (ABB _))
theorem wu:((jZ rs log).map (·.1)).Nodup:=(List.filter_sublist.map _).nodup kw.nd
theorem BC(h:aY (bn rs log) k=some e)(hb:¬fM (bn rs log) log k):aY (jZ rs log) k=some e:=ux (p:=(k,e)) wu (tR.mpr ⟨cO h,hb⟩)
noncomputable def xV(kvs:List (D×D))(log:List D):List (D×D):=dictOf (((kinds log (AA1 "change")).filter (byW kvs)).map λd=>(AX d,ib d))
noncomputable def msgD(ch:List (D×D))(d:D):D:=.tup [stD d,.str (ef d),ib d,.str (mO d),(aY ch (stD d)).getD (sayO d),.bl (aY ch (stD d)).isSome]
noncomputable def CB(rs:List (Str×List Str))(log:List D):List D:=(jZ rs log).map λp=>msgD (xV (jZ rs log) log) p.2
structure BackL(rs:List (Str×List Str))(log:List D)(ys:List D):Prop where
 st:∀x∈ys,St x
 mem:∀x,x∈ys↔fM (bn rs log) log x
 nd:ys.Nodup
 up:ys.Pairwise λa b=>¬enc eqN b<enc eqN a
noncomputable def yD:D->D
 | .tup [_,_,_,a]=>a
 | _=>.non
noncomputable def iE(l:List D):List (D×D):=l.foldl (λkvs d=>eK kvs (stD d) (yD d)) []
noncomputable def wy(log:List D):List (D×D):=iE (kinds log (AA1 "say"))
theorem dJ:iE (l++[d])=eK (iE l) (stD d) (yD d):=by
 unfold iE
 rw[List.foldl_append];rfl
theorem AV:wy (log++[d])=if dD d=AA1 "say" then eK (wy log) (stD d) (yD d)else wy log:=by
 unfold wy
 rw[rL]
 split
 ·rw[dJ]
 ·rw[ABC]
theorem said_en(l:List D):∀p∈iE l,∃d∈l,p=(stD d,yD d):=by
 refine dH (P:=λl=>∀p∈iE l,∃d∈l,p=(stD d,yD d)) (λ_ z=>nomatch z) (λl d ih p hp=>?_) l
 rw[dJ]at hp
 rcases gQ hp with rfl | hp
 ·exact⟨d,by simp,rfl⟩
 ·obtain⟨e,he,r⟩:=ih p hp
  exact⟨e,AAd _ he,r⟩
theorem said_len(l:List D):(iE l).length<=l.length:=by
 refine dH (P:=λl=>(iE l).length<=l.length) (AA8 _) (λl d ih=>?_) l
 rw[dJ,AAA,AAX]
 have:=kJ (kvs:=iE l) (k:=stD d) (d:=yD d)
 lia
def Ris(l:List D):Prop:=l.Pairwise λa b=>enc eqN (stD a)<enc eqN (stD b)
theorem Ris.one(h:Ris l):∀a∈l,∀b∈l,stD a=stD b->a=b:=by
 induction l with
 | nil=>intro a ha;cases ha
 | cons x l ih =>
  obtain⟨h1,h2⟩:=List.pairwise_cons.mp h
  intro a ha b hb e
  rcases AAK.mp ha with ea | ha'<;>rcases AAK.mp hb with eb | hb'
  ·rw[ea,eb]
  ·have:=h1 b hb';rw[<-ea,e]at this;exact absurd this (ABF _)
  ·have:=h1 a ha';rw[<-eb,e]at this;exact absurd this (ABF _)
  ·exact ih h2 a ha' b hb' e
theorem said_has(h:Ris l):∀d∈l,aY (iE l) (stD d)=some (yD d):=by
 revert h
 refine dH (P:=λl=>Ris l->∀d∈l,aY (iE l) (stD d)=some (yD d)) (λ_ _ z=>nomatch z) (λl x ih h d hd=>?_) l
 obtain⟨h1,_,h3⟩:=List.pairwise_append.mp h
 rw[dJ]
 rcases AAl.mp hd with hd | hd
 ·have:=h3 d hd x (by simp)
  rw[fF (λe=>by rw[e]at this;exact ABF _ this)]
  exact ih h1 d hd
 ·rw[show d=x by simpa using hd,fE]
inductive Stn(rs:List (Str×List Str))(l:List D):D->Prop
 | top {d:D} (h:d∈l) (m:mO d∈sB rs (ef d)) (u:ib d=.non):Stn rs l d
 | sub {d e:D} (h:d∈l) (m:mO d∈sB rs (ef d)) (s:Stn rs l e) (u:ib d=stD e) (o:enc eqN (stD e)<enc eqN (stD d)) (r:ef e=ef d):Stn rs l d
theorem Stn.mem(h:Stn rs l d):d∈l:=by cases h<;>assumption
theorem Stn.nm(h:Stn rs l d):mO d∈sB rs (ef d):=by cases h<;>assumption
theorem Stn.more(h:Stn rs l d):Stn rs (l++l') d:=by
 induction h with
 | top h m u=>exact .top (AAd _ h) m u
 | sub h m _ u o r ih=>exact .sub (AAd _ h) m ih u o r
theorem Stn.less(hl:∀y∈l,enc eqN (stD y)<enc eqN (stD x))(h:Stn rs (l++[x]) d):d∈l->Stn rs l d:=by
 induction h with
 | top h m u=>exact λhd=>.top hd m u
 | sub h m s u o r ih =>
  intro hd
  rename_i d e
  rcases AAl.mp s.mem with he | he
  ·exact .sub hd m (ih he) u o r
  ·rw[show e=x by simpa using he]at o
   exact absurd (List.lt_trans o (hl d hd)) (ABF _)
theorem Ev(hu:∀d∈l,ib d=.non\/St (ib d))(hS:∀d∈l,St (stD d))(h:Ris l):∀d∈l,aY (aR rs l) (stD d)=some d↔Stn rs l d:=by
 revert h hu hS
 refine dH (P:=λl=>(∀d∈l,ib d=.non\/St (ib d))->(∀d∈l,St (stD d))->Ris l->∀d∈l,aY (aR rs l) (stD d)=some d↔Stn rs l d) (λ_ _ _ _ z=>nomatch z) (λl x ih hu hS h d hd=>?_) l
 obtain⟨h1,_,h3⟩:=List.pairwise_append.mp h
 have lx:∀y∈l,enc eqN (stD y)<enc eqN (stD x):=λy hy=>h3 y hy x (by simp)
 have ih':=ih (λd hd=>hu d (AAd _ hd)) (λd hd=>hS d (AAd _ hd)) h1
 have tb:=gf (rs:=rs) l
 have nx:aY (aR rs l) (stD x)=none:=by
  cases e:aY (aR rs l) (stD x) with
  | none=>rfl
  | some e' =>
   obtain⟨e1,e2⟩:=yy tb e
   have:=lx e' e2
   rw[<-e1]at this
   exact absurd this (ABF _)
 rw[eU]
 unfold tM
 rcases AAl.mp hd with hd | hd
 ·have ne:stD d≠stD x:=λe=>by have:=lx d hd;rw[e]at this;exact ABF _ this
  have:aY (if gj rs (aR rs l) x=true then eK (aR rs l) (stD x) x else aR rs l) (stD d)=aY (aR rs l) (stD d):=by
   split
   ·exact fF ne
   ·rfl
  rw[this,ih' d hd]
  exact⟨Stn.more,λz=>z.less lx hd⟩
 ·obtain rfl:d=x:=by simpa using hd
  have sb:aY (if gj rs (aR rs l) d=true then eK (aR rs l) (stD d) d else aR rs l) (stD d)=some d↔gj rs (aR rs l) d=true:=by
   split
   ·rename_i e;rw[fE];exact⟨λ_=>e,λ_=>rfl⟩
   ·rename_i e;rw[nx];exact⟨λz=>(by cases z),λz=>absurd z e⟩
  rw[sb]
  unfold gj
  rw[AAO,ADx,decide_eq_true_eq,decide_eq_true_eq]
  constructor
  ·rintro⟨m,u | u⟩
   ·exact .top (by simp) m u
   ·cases e:aY (aR rs l) (ib d) with
    | none=>rw[e]at u;cases u
    | some e' =>
     rw[e]at u
     obtain⟨e1,e2⟩:=yy tb e
     rw[e1]at e
     exact .sub (by simp) m ((ih' e' e2).mp e).more e1 (lx e' e2) (oT_ u)
  ·intro s
   cases s with
   | top _ m u=>exact⟨m,.inl u⟩
   | @sub _ e _ m s u o r =>
    have he:e∈l:=by
     rcases AAl.mp s.mem with he | he
     ·exact he
     ·rw[show e=d by simpa using he]at o
      exact absurd o (ABF _)
    refine⟨m,.inr ?_⟩
    rw[u,(ih' e he).mpr (s.less lx he)]
    exact dT_ r
theorem At{α:Type}{p q:α->Bool}{x:α}(hpq:∀y,p y=true->q y=true)(hq:q x=true)(hp:p x=false):∀{l:List α},x∈l->(l.filter p).length<(l.filter q).length
 | y::l,h=>by
  have mono:∀l:List α,(l.filter p).length<=(l.filter q).length:=λl=>by
   induction l with
   | nil=>exact AA8 _
   | cons z l ih =>
    rw[AC9,AC9]
    cases e:p z with
    | true=>rw[hpq z e,if_pos rfl,if_pos rfl,AAI,AAI];lia
    | false =>
     rw[if_neg (by decide)]
     split
     ·rw[AAI];lia
     ·exact ih
  rw[AC9,AC9]
  rcases AAK.mp h with rfl | h
  ·rw[hp,hq,if_neg (by decide),if_pos rfl,AAI]
   have:=mono l
   lia
  ·have ih:=At hpq hq hp h
   cases e:p y with
   | true=>rw[hpq y e,if_pos rfl,if_pos rfl,AAI,AAI];lia
   | false =>
    rw[if_neg (by decide)]
    split
    ·rw[AAI];lia
    ·exact ih
def HdP(M:Mem)(q:Nat):Prop:=∃n:Int,M[q]?=some (.lst [.int n])
def Hl(M B:Mem)(q:Nat):Prop:=∃(n:Int) (L:Mem),B=M.set q (.lst [.int n])++L
section
variable{M B:Mem}{q m i:Nat}{n:Int}{x:MO}
theorem wv(h:M[q]?=some x):M.set q x=M:=by
 refine ADd λj=>?_
 by_cases e:q=j
 ·subst e;rw[AAa (aG h),h]
 ·rw[AAZ e]
theorem HdP.lt(h:HdP M q):q<M.length:=by obtain⟨n,h⟩:=h;exact aG h
theorem HdP.start(h:HdP M q):Hl M M q:=by
 obtain⟨n,h⟩:=h
 exact⟨n,[],by rw[ABC,wv h]⟩
theorem Hl.len(h:Hl M B q):M.length<=B.length:=by
 obtain⟨n,L,rfl⟩:=h
 rw[AAA,AAp];lia
theorem Hl.hd(hq:q<M.length)(h:Hl M B q):HdP B q:=by
 obtain⟨n,L,rfl⟩:=h
 exact⟨n,by rw[AAM (by rw[AAp];exact hq),AAa hq]⟩
theorem Hl.set(hq:q<M.length)(h:Hl M B q):Hl M (B.set q (.lst [.int n])) q:=by
 obtain⟨n',L,rfl⟩:=h
 exact⟨n,L,by rw[List.set_append_left _ _ (by rw[AAp];exact hq),List.set_set]⟩
theorem Hl.more(h:Hl M B q):Hl M (B++L) q:=by
 obtain⟨n',L',rfl⟩:=h
 exact⟨n',L'++L,by rw[AAs]⟩
theorem Hl.setO(h:Hl M B q)(hm:M.length<=m):Hl M (B.set m x) q:=by
 obtain⟨n',L,rfl⟩:=h
 exact⟨n',L.set (m-M.length) x,by rw[ADn _ _ (by rw[AAp];exact hm),AAp]⟩
theorem Hl.old(h:Hl M B q)(hi:i≠q)(e:M[i]?=some x):B[i]?=some x:=by
 obtain⟨n',L,rfl⟩:=h
 rw[AAM (by rw[AAp];exact aG e),AAZ (ABO hi)]
 exact e
theorem Hl.oldL(h:Hl M B q)(hi:i≠q)(e:am M i xs):am B i xs:=by
 rcases e with e | e | e
 ·exact .inl (h.old hi e)
 ·exact .inr (.inl (h.old hi e))
 ·exact .inr (.inr (h.old hi e))
theorem Hl.fin(h:Hl M B q)(b:Bel M.length d)(k:∀n:Int,R d (M.set q (.lst [.int n]))):bu M R d B:=by
 obtain⟨n',L,rfl⟩:=h
 exact bu.chg (Chg.set .refl (.cons (.int _) .nil)) (k n') b (AAb _ _)
theorem Hl.finL(h:Hl M B q)(hm:M.length<=m)(e:B[m]?=some (.lst xs))(b:Bels M.length xs)(k:∀n:Int,R (.ref M.length) (M.set q (.lst [.int n])++[.lst xs])):bu M R (.ref m) B:=by
 obtain⟨n',L,rfl⟩:=h
 exact bu.chgL (Chg.set .refl (.cons (.int _) .nil)) (k n') hm e (AAb _ _) b
end
theorem xw(u:Option Int)(n:Nat):ACp none u 1 n=ACp (some ((0:Nat):Int)) u 1 n:=by
 unfold ACp
 simp only[show (1:Int) > 0 by decide,if_true]
 congr 1
theorem wt(x:Str)(b:Nat):(AD0 x none (some (b:Int))).cps.toList=x.cps.toList.take b:=by
 have e:=tP x (a:=0) (b:=b) (AAT _)
 rw[fh]at e ⊢
 rw[xw]
 rw[e];simp
theorem wm(x:Str)(b:Nat):(AD0 x none (some (b:Int))).length<=b:=by
 rw[jb,wt,AAz];lia
theorem wj{M:Mem}{l:List Str}(h:l.length<64):SrtOk M (l.map .str) :=
 ⟨by rw[AA6];exact h,λx hx=>by obtain⟨y,_,rfl⟩:=AAU.mp hx;rfl,λx hx y hy=>by
  obtain⟨a,_,rfl⟩:=AAU.mp hx
  obtain⟨b,_,rfl⟩:=AAU.mp hy
  rfl,.inl λx hx=>by obtain⟨y,_,rfl⟩:=AAU.mp hx;exact⟨y,rfl⟩⟩
theorem mI{ys:List D}{xs:List Str}(h:ys.Perm (xs.map .str)):∃zs:List Str,ys=zs.map .str/\zs.Perm xs:=wH D.str unS (λ_=>rfl) h
noncomputable def aK(r:Str)(es:List D)(k:D):List D:=(es.filter λe=>decide (ef e=r)&&decide (ib e=k)).map stD
theorem uQ:aK r (es++[e]) k=if ef e=r/\ib e=k then aK r es k++[stD e]else aK r es k:=by
 unfold aK
 rw[List.filter_append,AAq,AC9,List.filter_nil]
 by_cases h:ef e=r/\ib e=k
 ·rw[if_pos h,dT_ h.1,dT_ h.2];rfl
 ·rw[if_neg h,if_neg]
  ·simp
  ·intro z
   have:=(AAO _ _).mp z
   exact h ⟨oT_ this.1,oT_ this.2⟩
structure TreeAt(B:Mem)(n:Nat)(tab:List (D×D))(f:D->List D):Prop where
 at_:B[n]?=some (.dkm tab)
 got:∀k d,aY tab k=some d->∃m,d=.ref m/\n<m/\B[m]?=some (.lst (f k))
 no:∀k,aY tab k=none->f k=[]
 one:∀k k' m,aY tab k=some (.ref m)->aY tab k'=some (.ref m)->k=k'
noncomputable def cj(n:Int)(xs:List D):List D:=xs.reverse.map λx=>.tup [.int n,x]
inductive RunW(f:D->List D):List D->List D->List D->Prop
 | done {rows:List D}:RunW f rows [] rows
 | step {rows todo out:List D}{n:Int}{x:D} (h:RunW f (rows++[.tup [.int n,x]]) (todo++cj (n+1) (f x)) out):RunW f rows (todo++[.tup [.int n,x]]) out
theorem RunW.uni(h:RunW f rows todo out)(h':RunW f rows todo out'):out=out':=by
 induction h generalizing out' with
 | done =>
  generalize e:([]:List D)=t at h'
  cases h' with
  | done=>rfl
  | step h=>simp at e
 | @step rows todo out n x h ih =>
  generalize e:todo++[.tup [.int n,x]]=t at h'
  cases h' with
  | done=>simp at e
  | @step _ todo2 _ n2 x2 h2 =>
   obtain⟨rfl,e2⟩:=List.append_inj' e rfl
   injection e2 with e2
   injection e2 with e2
   injection e2 with e3 e4
   injection e3 with e3
   injection e4 with e4
   subst e3 e4
   exact ih h2
noncomputable def qW:D->D
 | .tup [_,s]=>s
 | _=>.non
structure TreeW(r:Str)(es rows todo:List D):Prop where
 nd:((rows++todo).map qW).Nodup
 ok:∀x∈rows++todo,∃(k:Int) (e:D),x=.tup [.int k,stD e]/\e∈es/\ef e=r/\(ib e=.non\/ib e∈rows.map qW)
theorem gU:x∈aK r es k↔∃e∈es,stD e=x/\ef e=r/\ib e=k:=by
 unfold aK
 rw[AAU]
 constructor
 ·rintro⟨e,he,rfl⟩
  have h1:=ABK.mp he
  have h2:=(AAO _ _).mp h1.2
  exact⟨e,h1.1,rfl,oT_ h2.1,oT_ h2.2⟩
 ·rintro⟨e,he,rfl,h1,h2⟩
  exact⟨e,ABK.mpr ⟨he,by rw[dT_ h1,dT_ h2];rfl⟩,rfl⟩
theorem mD:x∈cj n xs↔∃s∈xs,x=.tup [.int n,s]:=by
 unfold cj
 rw[AAU]
 refine⟨λ⟨s,h,e⟩=>⟨s,List.mem_reverse.mp h,e.symm⟩,?_⟩
 rintro⟨s,h,e⟩
 exact⟨s,List.mem_reverse.mpr h,e.symm⟩
theorem iF:(cj n xs).map qW=xs.reverse:=by
 unfold cj
 rw[ABG]
 exact AE0 _
section
variable{r:Str}{es rows todo:List D}
theorem uR(h:(es.map stD).Nodup)(k:D):(aK r es k).Nodup:=(List.filter_sublist.map _).nodup h
theorem yP(h:(es.map stD).Nodup)(ha:a∈es)(hb:b∈es)(e:stD a=stD b):a=b:=by
 induction es with
 | nil=>cases ha
 | cons x es ih =>
  rw[AAf,List.nodup_cons]at h
  rcases AAK.mp ha with ha | ha<;>rcases AAK.mp hb with hb | hb
  ·rw[ha,hb]
  ·rw[ha]at e;exact absurd (e ▸ ABM hb) h.1
  ·rw[hb]at e;exact absurd (e ▸ ABM ha) h.1
  ·exact ih h.2 ha hb
theorem TreeW.start(h:(es.map stD).Nodup):TreeW r es [] (cj 0 (aK r es .non)):=by
 refine⟨?_,λx hx=>?_⟩
 ·rw[AB6,iF]
  exact(List.reverse_perm _).nodup_iff.mpr (uR h _)
 ·obtain⟨s,hs,rfl⟩:=mD.mp hx
  obtain⟨e,he,rfl,h1,h2⟩:=gU.mp hs
  exact⟨0,e,rfl,he,h1,.inl h2⟩
theorem TreeW.step(h:(es.map stD).Nodup)(hS:∀e∈es,stD e≠.non)(w:TreeW r es rows (todo++[.tup [.int k,s]])):TreeW r es (rows++[.tup [.int k,s]]) (todo++cj (k+1) (aK r es s)):=by
 obtain⟨k0,e0,q0,he0,_⟩:=w.ok (.tup [.int k,s]) (by simp)
 have es0:s=stD e0:=by injection q0 with q;injection q with _ q;injection q
 have sn:s≠.non:=by rw[es0];exact hS e0 he0
 have w1:=w.nd
 have sr:s∉rows.map qW:=λz=>by
  rw[AAq]at w1
  have:=(ACR.mp w1).2.2 s z s (by rw[AAq];exact AAF _ (by simp[qW]))
  exact this rfl
 refine⟨?_,λx hx=>?_⟩
 ·have p:(rows++[D.tup [.int k,s]]++(todo++cj (k+1) (aK r es s))).Perm (rows++(todo++[D.tup [.int k,s]])++cj (k+1) (aK r es s)):=by
   rw[AAs,AAs]
   refine List.Perm.append_left _ ?_
   rw[<-AAs]
   exact List.Perm.append_right _ List.perm_append_comm
  rw[(p.map qW).nodup_iff,AAq,ACR]
  refine⟨w1,by rw[iF];exact(List.reverse_perm _).nodup_iff.mpr (uR h _),λa ha b hb e=>?_⟩
  subst e
  rw[iF,List.mem_reverse]at hb
  obtain⟨e,he,f1,_,f2⟩:=gU.mp hb
  obtain⟨x,hx,f3⟩:=AAU.mp ha
  obtain⟨k',e',rfl,he',_,f4⟩:=w.ok x hx
  have:e'=e:=yP h he' he (f3.trans f1.symm)
  subst this
  rcases f4 with f4 | f4
  ·exact sn (f2.symm.trans f4)
  ·exact sr (f2 ▸ f4)
 ·have up:∀y,y∈rows.map qW->y∈(rows++[D.tup [.int k,s]]).map qW:=λy hy=>by rw[AAq];exact AAd _ hy
  have old:∀x,x∈rows++(todo++[D.tup [.int k,s]])->∃(k':Int) (e:D),x=.tup [.int k',stD e]/\e∈es/\ef e=r/\(ib e=.non\/ib e∈(rows++[D.tup [.int k,s]]).map qW):=λx hx=>by
   obtain⟨k',e,q1,q2,q3,q4⟩:=w.ok x hx
   exact⟨k',e,q1,q2,q3,q4.imp_right (up _)⟩
  rcases AAl.mp hx with hx | hx
  ·rcases AAl.mp hx with hx | hx
   ·exact old x (AAd _ hx)
   ·exact old x (AAF _ (AAF _ hx))
  ·rcases AAl.mp hx with hx | hx
   ·exact old x (AAF _ (AAd _ hx))
   ·obtain⟨y,hy,rfl⟩:=mD.mp hx
    obtain⟨e,he,rfl,h1,h2⟩:=gU.mp hy
    exact⟨k+1,e,rfl,he,h1,.inr (by rw[h2,AAq];exact AAF _ (by simp[qW]))⟩
theorem ut{l l':List D}(nd:l.Nodup)(h:∀x∈l,x∈l'):l.length<=l'.length:=by
 induction l generalizing l' with
 | nil=>exact AAT _
 | cons x l ih =>
  obtain⟨n1,n2⟩:=ABV.mp nd
  obtain⟨s,t,rfl⟩:=List.append_of_mem (h x (by simp))
  have:=ih (l':=s++t) n2 λy hy=>by
   have:=h y (AA9 _ hy)
   rcases AAl.mp this with q | q
   ·exact AAd _ q
   ·rcases AAK.mp q with rfl | q
    ·exact absurd hy n1
    ·exact AAF _ q
  rw[AAA]at this
  rw[AAA,AAI,AAI]
  lia
theorem TreeW.len(w:TreeW r es rows todo):rows.length+todo.length<=es.length:=by
 have:=ut w.nd (l':=es.map stD) λx hx=>by
  obtain⟨y,hy,rfl⟩:=AAU.mp hx
  obtain⟨k,e,rfl,he,_⟩:=w.ok y hy
  exact ABM he
 rw[AA6,AA6,AAA]at this
 exact this
theorem xm:(aK r es k).length<=es.length:=by
 unfold aK
 rw[AA6]
 exact ACo _ _
end
theorem TreeAt.pre(h:TreeAt B n tab f)(p:B <+: B'):TreeAt B' n tab f :=
 ⟨bz p h.at_,λk d hd=>let ⟨m,e,l,g⟩:=h.got k d hd;⟨m,e,l,bz p g⟩,h.no,h.one⟩
theorem TreeAt.kids(h:TreeAt B n tab f)(g0:B[q0]?=some (.lst [])):∃q,(aY tab k).getD (.ref q0)=.ref q/\B[q]?=some (.lst (f k)):=by
 cases e:aY tab k with
 | none=>exact⟨q0,rfl,by rw[h.no k e];exact g0⟩
 | some d =>
  obtain⟨m,rfl,_,g⟩:=h.got k d e
  exact⟨m,rfl,g⟩
noncomputable def jh:D->D
 | .tup (a::_)=>a
 | _=>.non
def cf:DSp:=λds M R=>∃xs:List D,ds=[.tup xs]/\(∀x∈xs,∃a r,x=.tup (a::r))/\R (.ref M.length) (M++[.lst (xs.map jh)])
theorem lc:dY cf eM:=by rintro ds M R ⟨xs,rfl,_⟩;rfl
def iy:DTS:=bA (dLC 1 [] (cw (ac 0)) (aw 0) se (dOp qIx (ac 0) (dC (.int 0))))
theorem lR:WpT cf 1 iy:=by
 rintro ds M R ⟨xs,rfl,hx,h⟩
 simp only[iy]
 walk_at "dl"
 intro hl
 refine bU jh (λS=>∃a,S=[a]) trivial _ _ _ ?_ ⟨_,rfl⟩ ?_ ?_
 ·rintro y hy S ⟨a,rfl⟩
  obtain⟨b,r,rfl⟩:=hx y hy
  refine⟨[some (.tup (b::r))],⟨_,rfl⟩,λY hY=>?_⟩
  walk_at "dl"
  exact hY
 ·simpa using hl
 ·exact .inl h
theorem mJ(T:Tops P w K mg base):Cal P w K mg base 1 "firsts_of" eM cf :=
 Cal.byD (N:=["pairs"]) T.b T.f_firsts_of (by walk_at "sc") lc (by walk_at "dv") lR
def dW:DSp:=λds M R=>∃(ps:List (Str×Int)) (rs:List (Str×List Str)) (r:Str),ds=[aJ ps rs,.str r]/\R (.bl (decide (r∈rs.map (·.1)))) M
theorem oM:dY dW iO:=by rintro ds M R ⟨ps,rs,r,rfl,_⟩;rfl
def mf:DTS:=bA (dOp qIn (ac 1) (dCB cf (aa (dOp qIx (ac 0) (dC (.int 1))) ah)))
theorem qN:WpT dW 2 mf:=by
 rintro ds M R ⟨ps,rs,r,rfl,h⟩
 simp only[mf,aJ]
 walk_at "dl"
 refine⟨_,rfl,λx hx=>?_,?_⟩
 ·obtain⟨p,_,rfl⟩:=AAU.mp hx
  exact⟨_,_,rfl⟩
 have e:(rs.map er).map jh=(rs.map (·.1)).map .str:=by rw[ABG,ABG];rfl
 rw[e]
 refine⟨_,aX,⟨aI,kG⟩,?_⟩
 rw[lu,Bool.bne_false]
 exact bu.bl h fS
theorem rj(T:Tops P w K mg base):Cal P w K mg base 2 "is_room" iO dW :=
 Cal.byD (N:=["house","thing"]) T.b T.f_is_room (by walk_at "sc") oM (by have:=mJ T;walk_at "dv") qN
def bI:DSp:=λds M R=>∃(ps:List (Str×Int)) (rs:List (Str×List Str)) (r:Str),ds=[aJ ps rs,.str r]/\r∈rs.map (·.1)/\R (.tup ((sB rs r).map .str)) M
theorem jy:dY bI dw:=by rintro ds M R ⟨ps,rs,r,rfl,_⟩;rfl
theorem uy:sB (p::rs) r=if p.1=r then p.2 else sB rs r:=by
 unfold sB
 rw[ADU]
 by_cases h:p.1=r
 ·rw[dT_ h,if_pos h];rfl
 ·rw[dF_ h,if_neg h]
def jt:DTS:=qB
def gh:DTS:=aA (kt (cw (dOp qIx (ac 0) (dC (.int 1)))) (ny 2 (cD (aw 2) (cD (aw 3) nA))) (dIf (aE (dOp qEq (ac 2) (ac 1))) (bA (ac 3)) aZ)) (jt)
theorem kA:WpT bI 4 gh:=by
 rintro ds M R ⟨ps,rs,r,rfl,hr,h⟩
 simp only[gh,aJ]
 walk_at "dl"
 intro _
 refine gZ (λys S M'=>∃qs a b,ys=qs.map er/\M'=M/\S=[some (aJ ps rs),some (.str r),a,b]/\sB rs r=sB qs r/\r∈qs.map (·.1)) ?_ ?_ _ _ _ ⟨rs,_,_,rfl,rfl,rfl,rfl,hr⟩
 ·rintro S M' ⟨qs,a,b,hq,rfl,rfl,e,hm⟩
  have:qs=[]:=by cases qs<;>simp_all
  subst this
  cases hm
 ·rintro x xs S M' ⟨qs,a,b,hq,rfl,rfl,e,hm⟩ L hL
  cases qs with
  | nil=>cases hq
  | cons p qs =>
   rw[AAf]at hq
   injection hq with h1 h2
   subst h1
   refine⟨trivial,?_⟩
   unfold er
   walk_at "dl"
   refine⟨trivial,⟨aI,aI⟩,?_⟩
   rw[bG]
   rw[uy]at e
   by_cases hq:p.1=r
   ·rw[beq_iff_eq.mpr hq]
    rw[if_pos hq]at e
    refine cx (bu.now ?_)
    rw[<-e];exact h
   ·rw[beq_eq_false_iff_ne.mpr hq]
    rw[if_neg hq]at e
    rw[AAf,AAK]at hm
    exact bK (Fgt.now (hL _ _ ⟨qs,_,_,h2,rfl,rfl,e,hm.resolve_left (ABO hq)⟩))
theorem kQ(T:Tops P w K mg base):Cal P w K mg base 1 "members_of" dw bI :=
 Cal.byD (N:=["house","room","told","members"]) T.b T.f_members_of (by walk_at "sc") jy (by walk_at "dv") kA
def bW:DSp:=λds M R=>∃(a b:D) (r:List D),ds=[.tup (a::b::r)]/\R (.tup [a,b]) M
theorem mW:dY bW fU:=by rintro ds M R ⟨a,b,r,rfl,_⟩;rfl
def jI:DTS:=bA (gG (aa (dOp qIx (ac 0) (dC (.int 0))) (aa (dOp qIx (ac 0) (dC (.int 1))) ah)))
theorem nQ:WpT bW 1 jI:=by
 rintro ds M R ⟨a,b,r,rfl,h⟩
 simp only[jI]
 walk_at "dl"
 exact⟨ao (by lia),bu.now h⟩
theorem iT(T:Tops P w K mg base):Cal P w K mg base 1 "stamp_of" fU bW :=
 Cal.byD (N:=["deed"]) T.b T.f_stamp_of (by walk_at "sc") mW (by walk_at "dv") nQ
def bg:DSp:=λds M R=>∃(t x:D) (r1 r2:List D),ds=[.tup (t::.tup (x::r1)::r2)]/\R x M
theorem kZ:dY bg eL:=by rintro ds M R ⟨t,x,r1,r2,rfl,_⟩;rfl
def ir:DTS:=bA (dOp qIx (dOp qIx (ac 0) (dC (.int 1))) (dC (.int 0)))
theorem lQ:WpT bg 1 ir:=by
 rintro ds M R ⟨t,x,r1,r2,rfl,h⟩
 simp only[ir]
 walk_at "dl"
 exact bu.now h
theorem gz(T:Tops P w K mg base):Cal P w K mg base 1 "person_of" eL bg :=
 Cal.byD (N:=["deed"]) T.b T.f_person_of (by walk_at "sc") kZ (by walk_at "dv") lQ
def aT:DSp:=λds M R=>∃(ps:List (Str×Int)) (rs:List (Str×List Str)) (log:List D) (k:Str),ds=[.tup log,.str k]/\(∀d∈log,bh ps rs d)/\log.length<=1000/\R (.ref M.length) (M++[.lst (kinds log k)])
theorem fW:dY aT bR:=by rintro ds M R ⟨ps,rs,log,k,rfl,_⟩;rfl
def dm:DTS:=bA (dLC 1 [1] (cw (ac 0)) (aw 0) (aE (dOp qEq (dOp qIx (dOp qIx (ac 0) (dC (.int 3))) (dC (.int 0))) (ac 1))) (ac 0))
theorem gJ:WpT aT 2 dm:=by
 rintro ds M R ⟨ps,rs,log,k,rfl,hd,hl,h⟩
 simp only[dm]
 walk_at "dl"
 intro _
 refine bL (λd=>decide (dD d=k)) id (λS=>∃a,S=[a,some (.str k)]) trivial _ _ _ ?_ ⟨_,rfl⟩ (by rw[AAj];exact ao (by lia)) (by rw[AB6,AE0];exact .inl h)
 rintro d hm S ⟨a,rfl⟩
 obtain⟨t,z,k',num,x,ds,rfl,_⟩:=hd d hm
 refine⟨[some (.tup [.int t,.tup [.str z,.int k'],.int num,.tup (.str x::ds)]),some (.str k)],⟨_,rfl⟩,λY Z hYZ=>?_⟩
 walk_at "dl"
 have e3:atI [D.int t,.tup [.str z,.int k'],.int num,.tup (.str x::ds)] 3=some (.tup (.str x::ds)):=az (j:=3) rfl
 rw[e3]
 dsimp only
 rw[at0]
 refine⟨⟨aI,aI⟩,?_⟩
 rw[bG]
 have e1:dD (.tup [.int t,.tup [.str z,.int k'],.int num,.tup (.str x::ds)])=x:=rfl
 rw[e1]at hYZ
 by_cases e:x=k
 ·rw[beq_iff_eq.mpr e]
  rw[dT_ e]at hYZ
  exact cx hYZ
 ·rw[beq_eq_false_iff_ne.mpr e]
  rw[dF_ e]at hYZ
  exact bK hYZ
theorem df(T:Tops P w K mg base):Cal P w K mg base 1 "deeds_of_kind" bR aT :=
 Cal.byD (N:=["log","kind"]) T.b T.f_deeds_of_kind (by walk_at "sc") fW (by walk_at "dv") gJ
def bB:DSp:=λds M R=>∃(a b c x r:D) (l:List D),ds=[.tup [a,b,c,.tup (x::r::l)]]/\R r M
theorem oJ:dY bB iM:=by rintro ds M R ⟨a,b,c,x,r,l,rfl,_⟩;rfl
def lX:DTS:=bA (dOp qIx (dOp qIx (ac 0) (dC (.int 3))) (dC (.int 1)))
theorem qK:WpT bB 1 lX:=by
 rintro ds M R ⟨a,b,c,x,r,l,rfl,h⟩
 simp only[lX]
 walk_at "dl"
 have e3:atI [a,b,c,.tup (x::r::l)] 3=some (.tup (x::r::l)):=az (j:=3) rfl
 rw[e3]
 dsimp only
 rw[at1]
 exact bu.now h
theorem ki(T:Tops P w K mg base):Cal P w K mg base 1 "room_of" iM bB :=
 Cal.byD (N:=["say"]) T.b T.f_room_of (by walk_at "sc") oJ (by walk_at "dv") qK
def bV:DSp:=λds M R=>∃(a b c x r u:D) (l:List D),ds=[.tup [a,b,c,.tup (x::r::u::l)]]/\R u M
theorem mV:dY bV fT:=by rintro ds M R ⟨a,b,c,x,r,u,l,rfl,_⟩;rfl
def jH:DTS:=bA (dOp qIx (dOp qIx (ac 0) (dC (.int 3))) (dC (.int 2)))
theorem nO:WpT bV 1 jH:=by
 rintro ds M R ⟨a,b,c,x,r,u,l,rfl,h⟩
 simp only[jH]
 walk_at "dl"
 have e3:atI [a,b,c,.tup (x::r::u::l)] 3=some (.tup (x::r::u::l)):=az (j:=3) rfl
 have e2:atI (x::r::u::l) 2=some u:=az (j:=2) rfl
 rw[e3]
 dsimp only
 rw[e2]
 exact bu.now h
theorem iS(T:Tops P w K mg base):Cal P w K mg base 1 "under_of" fT bV :=
 Cal.byD (N:=["say"]) T.b T.f_under_of (by walk_at "sc") mV (by walk_at "dv") nO
def ci:DSp:=λds M R=>∃(ps:List (Str×Int)) (rs:List (Str×List Str)) (d:D) (q:Nat) (kvs:List (D×D)),ds=[aJ ps rs,d,.ref q]/\bh ps rs d/\dD d=AA1 "say"/\M[q]?=some (.dkt kvs)/\(∀p∈kvs,bh ps rs p.2/\dD p.2=AA1 "say")/\R (.bl (gj rs kvs d)) M
theorem lg:dY ci eN:=by rintro ds M R ⟨ps,rs,d,q,kvs,rfl,_⟩;rfl
def fe:DTS:=bA (dOrV (dOp qIs (ac 3) (dC .non)) (vI (dOp BL (ac 3) (ac 2)) (dOp qEq (dCB bB (aa (vH (ac 2) (ac 3)) ah)) (dCB bB (aa (ac 1) ah)))))
def fg:DTS:=aA (aW (dCB bV (aa (ac 1) ah)) 3) (fe)
def iA:DTS:=aA (dIf (aE (dOp ka (dCB bg (aa (ac 1) ah)) (dCB bI (aa (ac 0) (aa (dCB bB (aa (ac 1) ah)) ah))))) (bA (dC (.bl false))) aZ) (fg)
theorem lS:WpT ci 4 iA:=by
 rintro ds M R ⟨ps,rs,d,q,kvs,rfl,hd,hk,hq,hv,h⟩
 obtain⟨t,z,k,num,r,u,s,rfl,_,_,hr,hu⟩:=qc hd hk
 simp only[iA]
 walk_at "dl"
 refine⟨_,_,_,_,rfl,_,_,_,_,_,_,rfl,ps,rs,r,rfl,hr,⟨aI,kG⟩,?_⟩
 rw[lu]
 have e0:gj rs kvs (.tup [.int t,.tup [.str z,.int k],.int num,.tup [.str (AA1 "say"),.str r,u,.str s]])=(decide (z∈sB rs r)&&(decide (u=.non)||match aY kvs u with
  | some e=>decide (ef e=r)
  | none=>false)):=rfl
 rw[e0]at h
 by_cases hm:z∈sB rs r
 ·rw[dT_ hm]at h ⊢
  refine bK ?_
  simp only[fg,fe]
  walk_at "dl"
  refine⟨_,_,_,_,_,u,_,rfl,?_⟩
  rcases hu with rfl | hu
  ·walk_at "dl"
   refine bu.now ?_
   simpa using h
  ·obtain⟨t',z',k',rfl⟩:=hu
   rw[dF_ (by intro e;cases e)]at h
   walk_at "dl"
   refine⟨kvs,hq,rfl,?_⟩
   cases hg:aY kvs (.tup [.int t',.tup [.str z',.int k']]) with
   | none =>
    rw[hg]at h
    exact bK (bu.now h)
   | some e =>
    rw[hg]at h
    obtain⟨he,hke⟩:=hv _ (cO hg)
    obtain⟨t2,z2,k2,n2,r2,u2,s2,e2,_⟩:=qc he hke
    dsimp only at e2
    subst e2
    refine cx ⟨kvs,_,hq,rfl,hg,_,_,_,_,_,_,rfl,_,_,_,_,_,_,rfl,⟨aI,aI⟩,?_⟩
    rw[bG]
    refine bu.now ?_
    have e5:(r2==r)=decide (r2=r):=by
     by_cases e:r2=r
     ·rw[dT_ e];exact beq_iff_eq.mpr e
     ·rw[dF_ e];exact beq_eq_false_iff_ne.mpr e
    rw[e5]
    exact h
 ·rw[dF_ hm]at h ⊢
  exact cx (bu.now h)
theorem mK(T:Tops P w K mg base):Cal P w K mg base 2 "can_stand" eN ci :=
 Cal.byD (N:=["house","say","elders","under"]) T.b T.f_can_stand (by walk_at "sc") lg (by have:=kQ T;have:=gz T;have:=ki T;have:=iS T;walk_at "dv") lS
def aV:DSp:=λds M R=>∃(ps:List (Str×Int)) (rs:List (Str×List Str)) (log:List D),ds=[aJ ps rs,.tup log]/\(∀d∈log,bh ps rs d)/\log.length<=1000/\∀n B,M <+: B->B[n]?=some (.dkt (bn rs log))->R (.ref n) B
theorem eO:dY aV bw:=by rintro ds M R ⟨ps,rs,log,rfl,_⟩;rfl
theorem pz(hd:∀d∈log,bh ps rs d)(hl:∀d∈l,d∈kinds log (AA1 "say"))(t:TabK l kvs):∀p∈kvs,bh ps rs p.2/\dD p.2=AA1 "say":=λp hp=>by
 obtain⟨h1,h2⟩:=cC (hl _ (t.en p hp).2)
 exact⟨hd _ h1,h2⟩
def bO:DTS:=bA (ac 2)
def bP:DTS:=aA (kt (cw (dCB aT (aa (ac 1) (aa (dC (.str "say")) ah)))) (aw 3) (dIf (aE (dCB ci (aa (ac 0) (aa (ac 3) (aa (ac 2) ah))))) (sf (ac 2) (dCB bW (aa (ac 3) ah)) (ac 3)) aZ)) (bO)
def cy:DTS:=aA (aW (si) 2) (bP)
theorem eW:WpT aV 4 cy:=by
 rintro ds M R ⟨ps,rs,log,rfl,hd,hl,h⟩
 simp only[cy,bP]
 walk_at "dl"
 refine⟨ps,rs,log,_,rfl,hd,hl,?_⟩
 have kl:=fA (log:=log) (k:=AA1 "say")
 have km:∀d∈kinds log (AA1 "say"),bh ps rs d/\dD d=AA1 "say":=λd q=>⟨hd d (cC q).1,(cC q).2⟩
 have hk:aR rs (kinds log (AA1 "say"))=bn rs log:=rfl
 generalize hK:kinds log (AA1 "say")=K at kl km hk
 refine⟨K,aX,λ_=>?_⟩
 refine aU (λi S M'=>∃a,M'=M++[.dkt (aR rs (K.take i)),.lst K]/\S=[some (aJ ps rs),some (.tup log),some (.ref M.length),a]) ?_ ?_ ⟨_,by simp[aR],rfl⟩
 ·rintro S M' ⟨a,rfl,rfl⟩
  rw[ACc,hk]
  refine⟨.inl ?_,?_⟩
  ·have:(M++[MO.dkt []]).length=M.length+1:=by simp
   rw[this];exact qu
  ·simp only[bO]
   walk_at "dl"
   exact .inl (h _ _ (AAb _ _) fX)
 ·rintro i y S M' hy ⟨a,rfl,rfl⟩ G hG
  have hm:=AAe hy
  have et:K.take (i+1)=K.take i++[y]:=by rw[ADh,hy];rfl
  rw[et,eU]at hG
  have tb:=gf (rs:=rs) (K.take i)
  have hv:=pz hd (λd q=>hK ▸ List.mem_of_mem_take q) tb
  have tl:=tb.len
  rw[AAz]at tl
  generalize aR rs (K.take i)=kvs at hG hv tl
  obtain⟨dy,ky⟩:=km y hm
  refine⟨.inl ?_,?_⟩
  ·have:(M++[MO.dkt []]).length=M.length+1:=by simp
   rw[this];exact qu
  walk_at "dl"
  refine⟨ps,rs,y,_,kvs,rfl,dy,ky,fX,hv,?_⟩
  unfold tM at hG
  cases hs:gj rs kvs y with
  | true =>
   rw[hs,if_pos rfl]at hG
   refine cx ?_
   obtain⟨t,z,k,num,x,ds,rfl,_⟩:=dy
   refine⟨_,_,_,rfl,kvs,fX,rfl,aF (by lia),?_⟩
   rw[fP]
   exact Fgt.now (hG _ _ ⟨_,rfl,rfl⟩)
  | false =>
   rw[hs,if_neg (by decide)]at hG
   exact bK (Fgt.now (hG _ _ ⟨_,rfl,rfl⟩))
theorem fx(T:Tops P w K mg base):Cal P w K mg base 3 "says_that_count" bw aV :=
 Cal.byD (N:=["house","log","says","deed"]) T.b T.f_says_that_count (by walk_at "sc") eO (by have:=iT T;have:=df T;have:=mK T;walk_at "dv") eW
def br:DSp:=λds M R=>∃(t:Int) (z:Str) (k num:Int) (x m:D) (l:List D) (q:Nat) (kvs:List (D×D)),ds=[.tup [.int t,.tup [.str z,.int k],.int num,.tup (x::m::l)],.ref q]/\St m/\M[q]?=some (.dkt kvs)/\(∀p∈kvs,NmK p.2)/\R (.bl (byW kvs (.tup [.int t,.tup [.str z,.int k],.int num,.tup (x::m::l)]))) M
theorem gL:dY br cr:=by rintro ds M R ⟨t,z,k,num,x,m,l,q,kvs,rfl,_⟩;rfl
def dc:DTS:=bA (vI (dOp BL (ac 2) (ac 1)) (dOp qEq (dCB bg (aa (ac 0) ah)) (dCB bg (aa (vH (ac 1) (ac 2)) ah))))
def eG:DTS:=aA (aW (dOp qIx (dOp qIx (ac 0) (dC (.int 3))) (dC (.int 1))) 2) (dc)
theorem ia:WpT br 3 eG:=by
 rintro ds M R ⟨t,z,k,num,x,m,l,q,kvs,rfl,hm,hq,hv,h⟩
 simp only[eG,dc]
 obtain⟨t',z',k',rfl⟩:=hm
 walk_at "dl"
 have e3:atI [D.int t,.tup [.str z,.int k],.int num,.tup (x::.tup [.int t',.tup [.str z',.int k']]::l)] 3=some (.tup (x::.tup [.int t',.tup [.str z',.int k']]::l)):=az (j:=3) rfl
 rw[e3]
 dsimp only
 rw[at1]
 refine⟨kvs,hq,rfl,?_⟩
 have e0:byW kvs (.tup [.int t,.tup [.str z,.int k],.int num,.tup (x::.tup [.int t',.tup [.str z',.int k']]::l)])=match aY kvs (.tup [.int t',.tup [.str z',.int k']]) with
  | some e=>decide (z=mO e)
  | none=>false:=rfl
 rw[e0]at h
 cases hg:aY kvs (.tup [.int t',.tup [.str z',.int k']]) with
 | none =>
  rw[hg]at h
  exact bK (bu.now h)
 | some e =>
  rw[hg]at h
  obtain⟨a,y,r1,r2,rfl⟩:=hv _ (cO hg)
  refine cx ⟨_,_,_,_,rfl,kvs,_,hq,rfl,hg,_,_,_,_,rfl,⟨aI,aI⟩,?_⟩
  rw[bG]
  refine bu.now ?_
  have e5:(z==y)=decide (z=y):=by
   by_cases e:z=y
   ·rw[dT_ e];exact beq_iff_eq.mpr e
   ·rw[dF_ e];exact beq_eq_false_iff_ne.mpr e
  rw[e5]
  exact h
theorem iV(T:Tops P w K mg base):Cal P w K mg base 2 "is_by_writer" cr br :=
 Cal.byD (N:=["deed","says","message"]) T.b T.f_is_by_writer (by walk_at "sc") gL (by have:=gz T;walk_at "dv") ia
def bD:DSp:=λds M R=>∃(ps:List (Str×Int)) (rs:List (Str×List Str)) (log:List D) (k:Str) (q:Nat) (kvs:List (D×D)),ds=[.tup log,.str k,.ref q]/\(∀d∈log,bh ps rs d)/\log.length<=1000/\(k=AA1 "change"\/k=AA1 "back")/\M[q]?=some (.dkt kvs)/\(∀p∈kvs,NmK p.2)/\R (.ref M.length) (M++[.lst ((kinds log k).filter (byW kvs))])
theorem ja:dY bD cI:=by rintro ds M R ⟨ps,rs,log,k,q,kvs,rfl,_⟩;rfl
theorem CA(h:bh ps rs d)(e:dD d=k)(hk:k=AA1 "change"\/k=AA1 "back"):∃(t:Int) (z:Str) (k num:Int) (x m:D) (l:List D),d=.tup [.int t,.tup [.str z,.int k],.int num,.tup (x::m::l)]/\St m:=by
 rcases hk with rfl | rfl
 ·obtain⟨t,z,k,num,m,s,rfl,hm⟩:=vM h e
  exact⟨t,z,k,num,_,m,_,rfl,hm⟩
 ·obtain⟨t,z,k,num,m,rfl,hm⟩:=vT h e
  exact⟨t,z,k,num,_,m,_,rfl,hm⟩
def eZ:DTS:=bA (dLC 1 [2] (cw (dCB aT (aa (ac 0) (aa (ac 1) ah)))) (aw 0) (aE (dCB br (aa (ac 0) (aa (ac 1) ah)))) (ac 0))
theorem jr:WpT bD 3 eZ:=by
 rintro ds M R ⟨ps,rs,log,k,q,kvs,rfl,hd,hl,hk,hq,hv,h⟩
 simp only[eZ]
 walk_at "dl"
 refine⟨ps,rs,log,k,rfl,hd,hl,_,aX,λ_=>?_⟩
 have kl:=fA (log:=log) (k:=k)
 refine bL (byW kvs) id (λS=>∃a,S=[a,some (.ref q)]) aX _ _ _ ?_ ⟨_,rfl⟩ (by rw[AAj];exact ao (by lia)) ?_
 ·rintro d hm S ⟨a,rfl⟩
  obtain⟨h1,h2⟩:=cC hm
  obtain⟨t,z,k',num,x,m,l,rfl,hs⟩:=CA (hd d h1) h2 hk
  refine⟨[some (.tup [.int t,.tup [.str z,.int k'],.int num,.tup (x::m::l)]),some (.ref q)],⟨_,rfl⟩,λY Z hYZ=>?_⟩
  walk_at "dl"
  refine⟨t,z,k',num,x,m,l,q,kvs,rfl,hs,ad hq,hv,?_⟩
  cases hb:byW kvs (.tup [.int t,.tup [.str z,.int k'],.int num,.tup (x::m::l)]) with
  | true=>rw[hb]at hYZ;exact cx hYZ
  | false=>rw[hb]at hYZ;exact bK hYZ
 ·rw[AB6,AE0,AAs]
  exact bu.lst h (by simp) (by simp) (bh.bels (ps:=ps) (rs:=rs) λd m=>hd d (cC (ABK.mp m).1).1)
theorem jv(T:Tops P w K mg base):Cal P w K mg base 3 "writers_own" cI bD :=
 Cal.byD (N:=["log","kind","says"]) T.b T.f_writers_own (by walk_at "sc") ja (by have:=df T;have:=iV T;walk_at "dv") jr
def aM:DSp:=λds M R=>∃(ps:List (Str×Int)) (rs:List (Str×List Str)) (log:List D) (q:Nat) (kvs:List (D×D)),ds=[.tup log,.ref q]/\(∀d∈log,bh ps rs d)/\log.length<64/\M[q]?=some (.dkt kvs)/\(∀p∈kvs,NmK p.2)/\∀ys,(∀x∈ys,St x)->(∀x,x∈ys↔fM kvs log x)->ys.Nodup->(ys.Pairwise λa b=>¬enc eqN b<enc eqN a)->R (.ref M.length) (M++[.lst ys])
theorem dB:dY aM be:=by rintro ds M R ⟨ps,rs,log,q,kvs,rfl,_⟩;rfl
def bN:DTS:=bA (fH (dLC 1 [] (cw (dCB bD (aa (ac 0) (aa (dC (.str "back")) (aa (ac 1) ah))))) (aw 0) se (dOp qIx (dOp qIx (ac 0) (dC (.int 3))) (dC (.int 1)))))
theorem dZ:WpT aM 2 bN:=by
 rintro ds M R ⟨ps,rs,log,q,kvs,rfl,hd,hl,hq,hv,h⟩
 simp only[bN]
 walk_at "dl"
 refine⟨ps,rs,log,_,q,kvs,rfl,hd,by lia,.inr rfl,hq,hv,_,aX,λ_=>?_⟩
 have kl:=fA (log:=log) (k:=AA1 "back")
 have fl:=ACo (byW kvs) (kinds log (AA1 "back"))
 have km:∀d∈(kinds log (AA1 "back")).filter (byW kvs),∃(t:Int) (z:Str) (k num:Int) (m:D),d=.tup [.int t,.tup [.str z,.int k],.int num,.tup [.str (AA1 "back"),m]]/\St m:=λd m=>by
  obtain⟨h1,h2⟩:=cC (ABK.mp m).1
  exact vT (hd d h1) h2
 have hb:∀x,x∈((kinds log (AA1 "back")).filter (byW kvs)).map AX↔fM kvs log x:=λx=>by
  constructor
  ·intro hx
   obtain⟨d,m,rfl⟩:=AAU.mp hx
   exact⟨d,(ABK.mp m).1,(ABK.mp m).2,rfl⟩
  ·rintro⟨d,h1,h2,rfl⟩
   exact ABM (ABK.mpr ⟨h1,h2⟩)
 generalize (kinds log (AA1 "back")).filter (byW kvs)=F at fl km hb
 refine bU AX (λS=>∃a,S=[a]) aX _ _ _ (λd hm S hS=>?_) ⟨_,rfl⟩ (by rw[AAj];exact ao (by lia)) ?_
 ·obtain⟨a,rfl⟩:=hS
  obtain⟨t,z,k,num,m,rfl,_⟩:=km d hm
  refine⟨[some (.tup [.int t,.tup [.str z,.int k],.int num,.tup [.str (AA1 "back"),m]])],⟨_,rfl⟩,λY hY=>?_⟩
  walk_at "dl"
  have e3:atI [D.int t,.tup [.str z,.int k],.int num,.tup [.str (AA1 "back"),m]] 3=some (.tup [.str (AA1 "back"),m]):=az (j:=3) rfl
  rw[e3]
  dsimp only
  rw[at1]
  exact hY
 ·rw[AB6]
  have hs:∀x∈F.map AX,St x:=λx hx=>by
   obtain⟨d,hm,rfl⟩:=AAU.mp hx
   obtain⟨t,z,k,num,m,rfl,hs⟩:=km d hm
   exact hs
  refine⟨8,_,AA8 _,.inl ⟨_,rfl,aX⟩,by rw[AA6];lia,λx hx=>?_,tK hs (by rw[AA6];lia),λys nd hy hr=>?_⟩
  ·obtain⟨ks,e⟩:=(hs x hx).tup
   exact⟨(hs x hx).key,by rw[e];rfl⟩
  ·have hys:∀x∈ys,St x:=λx hx=>hs x ((hy x).mp hx)
   rw[AAs,AAs]
   have up:ys.Pairwise λa b=>¬enc eqN b<enc eqN a:=(List.Pairwise.and_mem.mp hr).imp λ{a b} ⟨ha,hb,q⟩=>by
    have sa:=hys a ha
    have sb:=hys b hb
    have oa:okP eqN a=true:=by obtain⟨t,z,k,e⟩:=sa;rw[e];rfl
    have ob:okP eqN b=true:=by obtain⟨t,z,k,e⟩:=sb;rw[e];rfl
    rw[oA ob oa (sb.cm sa)]at q
    exact of_decide_eq_false q
   exact bu.lst (h ys hys (λx=>(hy x).trans (hb x)) nd up) (by simp) (by simp) (Bels.of λd m=>ck 2 d (hys d m).pl)
theorem eA(T:Tops P w K mg base):Cal P w K mg base 4 "stamps_taken_back" be aM :=
 Cal.byD (N:=["log","says"]) T.b T.f_stamps_taken_back (by walk_at "sc") dB (by have:=jv T;walk_at "dv") dZ
def ba:DSp:=λds M R=>∃(ps:List (Str×Int)) (rs:List (Str×List Str)) (q:Nat) (r:Str) (kvs:List (D×D)),ds=[.ref q,.str r]/\M[q]?=some (.dkt kvs)/\(∀p∈kvs,bh ps rs p.2/\dD p.2=AA1 "say")/\kvs.length<=1000/\∀n B tab,M <+: B->TreeAt B n tab (aK r (kvs.map (·.2)))->R (.ref n) B
theorem fy:dY ba bF:=by rintro ds M R ⟨ps,rs,q,r,kvs,rfl,_⟩;rfl
def bZ:DTS:=bA (ac 2)
def cb:DTS:=aA (kt (qA (ac 0)) (aw 3) (dIf (aE (dOp qEq (dCB bB (aa (ac 3) ah)) (ac 1))) (gc (dMl bQ (dMm mF (ac 2) (aa (dCB bV (aa (ac 3) ah)) (aa (fI ah) ah))) (aa (dCB bW (aa (ac 3) ah)) ah))) aZ)) (bZ)
def cW:DTS:=aA (aW (xT) 2) (cb)
theorem fN:WpT ba 4 cW:=by
 rintro ds M R ⟨ps,rs,q,r,kvs,rfl,hq,hk,kl,h⟩
 simp only[cW,cb]
 walk_at "dl"
 refine⟨kvs,ad hq,λ_=>?_⟩
 have hqM:=aG hq
 refine aU (λi S M'=>∃(tab:List (D×D)) (a:Option D),M <+: M'/\TreeAt M' M.length tab (aK r ((kvs.map (·.2)).take i))/\tab.length<=i/\S=[some (.ref q),some (.str r),some (.ref M.length),a]) ?_ ?_ ⟨[],_,fS,⟨af,λk d z=>(by cases z),λk _=>rfl,λ_ _ _ z=>(by cases z)⟩,AA8 _,rfl⟩
 ·rintro S M' ⟨tab,a,pM,tr,_,rfl⟩
  rw[ACc]at tr
  refine⟨bz pM hq,?_⟩
  simp only[bZ]
  walk_at "dl"
  exact .inl (h _ _ _ pM tr)
 ·rintro i e S M' he ⟨tab,a,pM,tr,tl,rfl⟩ G hG
  have et:(kvs.map (·.2)).take (i+1)=(kvs.map (·.2)).take i++[e]:=by rw[ADh,he];rfl
  rw[et]at hG
  have hi:=(AA7.mp he).1
  rw[AA6]at hi
  have hm:=AAe he
  obtain⟨p,hp,rfl⟩:=AAU.mp hm
  obtain⟨dk,ks⟩:=hk p hp
  generalize p.2=e at he et hG dk ks
  refine⟨bz pM hq,?_⟩
  walk_at "dl"
  have kl':∀k,(aK r ((kvs.map (·.2)).take i) k).length<=i:=λk=>by
   unfold aK
   rw[AA6]
   refine AB3 (ACo _ _) ?_
   rw[AAz];lia
  generalize (kvs.map (·.2)).take i=es at tr hG kl'
  obtain⟨t,z,k,num,r',u,s,rfl,_,_,_,hu⟩:=qc dk ks
  have sn:∀k',aK r (es++[.tup [.int t,.tup [.str z,.int k],.int num,.tup [.str (AA1 "say"),.str r',u,.str s]]]) k'=if r'=r/\u=k' then aK r es k'++[.tup [.int t,.tup [.str z,.int k]]]else aK r es k':=λk'=>uQ
  generalize es++[.tup [.int t,.tup [.str z,.int k],.int num,.tup [.str (AA1 "say"),.str r',u,.str s]]]=es' at sn hG
  have ku:rN u=true:=by
   rcases hu with rfl | ⟨t',z',k',rfl⟩
   ·rfl
   ·rfl
  refine⟨_,_,_,_,_,_,rfl,⟨aI,aI⟩,?_⟩
  rw[bG]
  by_cases hr:r'=r
  ·rw[beq_iff_eq.mpr hr]
   have s1:aK r es' u=aK r es u++[.tup [.int t,.tup [.str z,.int k]]]:=by rw[sn,if_pos ⟨hr,rfl⟩]
   have s2:∀k',k'≠u->aK r es' k'=aK r es k':=λk' ne=>by rw[sn,if_neg λw=>ne w.2.symm]
   refine cx ⟨⟨_,tr.at_⟩,_,_,_,_,_,_,_,rfl,AAT _,tab,ad tr.at_,ku,aF (by lia),λy hy=>?_,λhn=>?_⟩
   ·obtain⟨m,rfl,nm,gm⟩:=tr.got u y hy
    refine⟨⟨_,.inl (ad gm)⟩,_,_,_,rfl,_,ad gm,aF (by have:=kl' u;lia),Fgt.now (hG _ _ ⟨tab,_,bv (pM.trans fS) (ACA nm),⟨ar (by lia) (ad tr.at_),λk' d hd=>?_,λk' hd=>?_,tr.one⟩,by lia,rfl⟩)⟩
    ·obtain⟨m',rfl,nm',gm'⟩:=tr.got k' d hd
     refine⟨m',rfl,nm',?_⟩
     by_cases e:k'=u
     ·subst e
      rw[hy]at hd
      obtain rfl:m=m':=by injection hd with hd;injection hd
      rw[bx (ad gm),s1]
     ·rw[s2 k' e]
      exact ar (λz=>e (tr.one _ _ _ (z ▸ hd) hy)) (ad gm')
    ·have e:k'≠u:=λz=>by rw[z,hy]at hd;cases hd
     rw[s2 k' e]
     exact tr.no k' hd
   ·have lM:M.length<M'.length:=aG tr.at_
    have g0:((M'++[MO.lst []]).set M.length (.dkm (tab++[(u,.ref M'.length)])))[M'.length]?=some (.lst []):=ar (by lia) af
    have gt:∀k',aY (tab++[(u,.ref M'.length)]) k'=if k'=u then some (.ref M'.length)else aY tab k':=λk'=>by
     rw[<-mG hn]
     by_cases e:k'=u
     ·rw[if_pos e,e,fE]
     ·rw[if_neg e,fF e]
    refine⟨⟨_,.inl g0⟩,_,_,_,rfl,_,g0,aF (by rw[AAj];lia),Fgt.now (hG _ _ ⟨tab++[(u,.ref M'.length)],_,bv (bv (pM.trans fS) (AA8 _)) (by lia),⟨ar (by lia) (bx (ad tr.at_)),λk' d hd=>?_,λk' hd=>?_,λk1 k2 m h1 h2=>?_⟩,by rw[AAA,AAX];lia,rfl⟩)⟩
    ·rw[gt]at hd
     by_cases e:k'=u
     ·rw[if_pos e]at hd
      subst e
      exact⟨M'.length,by injection hd with hd;exact hd.symm,lM,by rw[bx g0,s1,tr.no _ hn]⟩
     ·rw[if_neg e]at hd
      obtain⟨m',rfl,nm',gm'⟩:=tr.got k' d hd
      have:=aG gm'
      exact⟨m',rfl,nm',by rw[s2 k' e];exact ar (by lia) (ar (by lia) (ad gm'))⟩
    ·rw[gt]at hd
     by_cases e:k'=u
     ·rw[if_pos e]at hd;cases hd
     ·rw[if_neg e]at hd
      rw[s2 k' e]
      exact tr.no k' hd
    ·rw[gt]at h1 h2
     have old:∀k' m,aY tab k'=some (.ref m)->m<M'.length:=λk' m h'=>by
      obtain⟨m',e,_,gm'⟩:=tr.got k' _ h'
      injection e with e
      rw[e];exact aG gm'
     by_cases e1:k1=u<;>by_cases e2:k2=u
     ·rw[e1,e2]
     ·rw[if_pos e1]at h1;rw[if_neg e2]at h2
      have:=old _ _ h2
      injection h1 with h1;injection h1 with h1;lia
     ·rw[if_neg e1]at h1;rw[if_pos e2]at h2
      have:=old _ _ h1
      injection h2 with h2;injection h2 with h2;lia
     ·rw[if_neg e1]at h1;rw[if_neg e2]at h2
      exact tr.one _ _ _ h1 h2
  ·rw[beq_eq_false_iff_ne.mpr hr]
   have s0:∀k',aK r es' k'=aK r es k':=λk'=>by rw[sn,if_neg λw=>hr w.1]
   exact bK (Fgt.now (hG _ _ ⟨tab,_,pM,⟨tr.at_,λk' d hd=>by rw[s0];exact tr.got k' d hd,λk' hd=>by rw[s0];exact tr.no k' hd,tr.one⟩,by lia,rfl⟩))
theorem fV(T:Tops P w K mg base):Cal P w K mg base 2 "stamps_beneath" bF ba :=
 Cal.byD (N:=["says","room","beneath","say"]) T.b T.f_stamps_beneath (by walk_at "sc") fy (by have:=iT T;have:=ki T;have:=iS T;walk_at "dv") fN
def bq:DSp:=λds M R=>∃(n:Int) (q:Nat) (xs:List D),ds=[.int n,.ref q]/\am M q xs/\(∀x∈xs,St x)/\R (.ref M.length) (M++[.lst (cj n xs)])
theorem jz:dY bq dA:=by rintro ds M R ⟨n,q,xs,rfl,_⟩;rfl
theorem BG(h:∀x∈xs,St x):Bels k (cj n xs):=Bels.of λd hd=>by
 obtain⟨x,hx,rfl⟩:=AAU.mp hd
 exact .tup (.cons (.int _) (.cons (ck 2 _ (h x (List.mem_reverse.mp hx)).pl) .nil))
def gi:DTS:=bA (dLC 1 [0] (xS (aa (ac 1) ah)) (aw 0) se (gG (aa (ac 1) (aa (ac 0) ah))))
theorem kB:WpT bq 2 gi:=by
 rintro ds M R ⟨n,q,xs,rfl,hL,hs,h⟩
 simp only[gi]
 walk_at "dl"
 refine⟨xs,hL,λhl=>?_⟩
 refine bU (λx=>.tup [.int n,x]) (λS=>∃a,S=[a,some (.int n)]) hL _ _ _ (λx hx S hS=>?_) ⟨_,rfl⟩ (by rw[AAj,ACa];lia) (.inl h)
 obtain⟨a,rfl⟩:=hS
 refine⟨[some x,some (.int n)],⟨_,rfl⟩,λY hY=>?_⟩
 walk_at "dl"
 exact⟨ao (by lia),hY⟩
theorem kR(T:Tops P w K mg base):Cal P w K mg base 1 "last_first" dA bq :=
 Cal.byD (N:=["depth","stamps"]) T.b T.f_last_first (by walk_at "sc") jz (by walk_at "dv") kB
def bp:DSp:=λds M R=>∃(n:Nat) (tab:List (D×D)) (es:List D) (r:Str),ds=[.ref n]/\TreeAt M n tab (aK r es)/\(∀e∈es,St (stD e)/\(ib e=.non\/St (ib e)))/\(es.map stD).Nodup/\es.length<=100/\∀out,RunW (aK r es) [] (cj 0 (aK r es .non)) out->(∀x∈out,∃k s,x=.tup [.int k,s]/\St s)->out.length<=es.length->R (.ref M.length) (M++[.lst out])
theorem gK:dY bp cq:=by rintro ds M R ⟨n,tab,es,r,rfl,_⟩;rfl
theorem qX(h:a<=1000):a<=sizeLine:=ao (by lia)
theorem iteT'{b:Bool}{A B:Prop}(e:b=true)(h:A):if b=true then A else B:=by rw[if_pos e];exact h
def cX:DTS:=bA (ac 1)
def cY:DTS:=gc (dMl fR (ac 2) (aa (dCB bq (aa (dOp aO (dOp qIx (ac 3) (dC (.int 0))) (dC (.int 1))) (aa (dMm kb (ac 0) (aa (dOp qIx (ac 3) (dC (.int 1))) (aa (fI ah) ah))) ah))) ah))
def cZ:DTS:=aA (gc (dMl bQ (ac 1) (aa (ac 3) ah))) (cY)
def da:DTS:=aA (qz (aE (dOp qGt (dCB lP (aa (ac 2) ah)) (dC (.int 0)))) (aA (aW (dMl0 BI (ac 2)) 3) (cZ))) (cX)
def db:DTS:=aA (aW (dCB bq (aa (dC (.int 0)) (aa (dMm kb (ac 0) (aa (dC .non) (aa (fI ah) ah))) ah))) 2) (da)
def eF:DTS:=aA (aW (fI ah) 1) (db)
theorem hZ:WpT bp 4 eF:=by
 rintro ds M R ⟨n,tab,es,r,rfl,tr,hs,nd,el,h⟩
 have p1:M <+: M++[MO.lst []]++[MO.lst []]:=fS.trans fS
 have g0:(M++[MO.lst []]++[MO.lst []])[(M++[MO.lst []]).length]?=some (.lst []):=af
 have gr:(M++[MO.lst []]++[MO.lst []])[M.length]?=some (.lst []):=ad af
 have kS:∀k,∀x∈aK r es k,St x:=λk x hx=>by
  obtain⟨e,he,rfl,_⟩:=gU.mp hx
  exact(hs e he).1
 simp only[eF,db]
 walk_at "dl"
 refine⟨AAT _,⟨_,ad tr.at_⟩,AAT _,_,ad (ad tr.at_),rfl,?_⟩
 obtain⟨q,eq,gq⟩:=(tr.pre p1).kids (k:=.non) g0
 rw[eq]
 refine⟨0,q,_,rfl,.inl gq,kS _,?_⟩
 have lM:M.length<(M++[MO.lst []]++[MO.lst []]).length:=by simp
 have gt:(M++[MO.lst []]++[MO.lst []]++[MO.lst (cj 0 (aK r es .non))])[(M++[MO.lst []]++[MO.lst []]).length]?=some (.lst (cj 0 (aK r es .non))):=af
 replace gr:=ad (a:=MO.lst (cj 0 (aK r es .non))) gr
 replace p1:=p1.trans (fS (mo:=MO.lst (cj 0 (aK r es .non))))
 generalize M++[MO.lst []]++[MO.lst []]++[MO.lst (cj 0 (aK r es .non))]=B at gt gr p1
 generalize (M++[MO.lst []]++[MO.lst []]).length=qt at gt lM
 have eS:∀e∈es,stD e≠.non:=λe he z=>by obtain⟨t,z',k,e'⟩:=(hs e he).1;rw[z]at e';cases e'
 simp only[da]
 walk_at "dl"
 refine⟨λm S M'=>∃(rows todo:List D) (a:Option D),M <+: M'/\M'[M.length]?=some (.lst rows)/\M'[qt]?=some (.lst todo)/\TreeW r es rows todo/\(∀out,RunW (aK r es) rows todo out->RunW (aK r es) [] (cj 0 (aK r es .non)) out)/\m+rows.length=es.length/\S=[some (.ref n),some (.ref M.length),some (.ref qt),a],⟨es.length,[],_,_,p1,gr,gt,.start nd,λ_ z=>z,rfl,rfl⟩,?_⟩
 rintro m S M' ⟨rows,todo,a,pM,hr,ht,w,go,hm,rfl⟩
 have wl:=w.len
 walk_at "dl"
 refine⟨_,.inl ht,?_⟩
 have fin:∀x∈rows,∃k s,x=D.tup [.int k,s]/\St s:=λx hx=>by
  obtain⟨k,e,q1,q2,_⟩:=w.ok x (AAd _ hx)
  exact⟨k,_,q1,(hs e q2).1⟩
 rcases List.eq_nil_or_concat todo with rfl | ⟨todo',x,rfl⟩
 ·refine bK ?_
  simp only[cX]
  walk_at "dl"
  refine bu.chgL .refl (h rows (go _ .done) fin (by lia)) (AA8 _) hr pM (Bels.of λd hd=>?_)
  obtain⟨k,s,rfl,q⟩:=fin d hd
  exact .tup (.cons (.int _) (.cons (ck 2 _ q.pl) .nil))
 ·rw[List.concat_eq_append]at *
  have wo:=w.ok x (by simp)
  obtain⟨k,e,rfl,he,_⟩:=wo
  have w':=w.step nd eS
  have wl':=w'.len
  have go':∀out,RunW (aK r es) (rows++[.tup [.int k,stD e]]) (todo'++cj (k+1) (aK r es (stD e))) out->RunW (aK r es) [] (cj 0 (aK r es .non)) out:=λout z=>go out (by have:=RunW.step z;simpa using this)
  have ks:=xm (r:=r) (es:=es) (k:=stD e)
  have ke:rN (stD e)=true:=by obtain⟨t,z,k,q⟩:=(hs e he).1;rw[q];rfl
  have kse:=kS (stD e)
  rw[AAA,AAA,AAX]at wl'
  generalize stD e=s at *
  rw[AAA,AAX]at wl
  refine iteT' (dT_ (by rw[AAA,AAX];lia)) ⟨⟨_,.inl ht⟩,todo',_,ht,?_⟩
  have pM1:=bv (x:=MO.lst todo') pM (ACA lM)
  have hr1:=ar (x:=MO.lst todo') (AAL lM) hr
  have ht1:=bx (a:=MO.lst todo') ht
  generalize M'.set qt (MO.lst todo')=M1 at pM1 hr1 ht1
  simp only[cZ]
  walk_at "dl"
  refine⟨⟨_,.inl hr1⟩,_,hr1,aF (by lia),?_⟩
  have pM2:=bv (x:=MO.lst (rows++[.tup [.int k,s]])) pM1 (AA8 _)
  have hr2:=bx (a:=MO.lst (rows++[.tup [.int k,s]])) hr1
  have ht2:=ar (x:=MO.lst (rows++[.tup [.int k,s]])) (ABO (AAL lM)) ht1
  generalize M1.set M.length (MO.lst (rows++[.tup [.int k,s]]))=M2 at pM2 hr2 ht2
  simp only[cY]
  walk_at "dl"
  have tr2:=tr.pre pM2
  refine⟨⟨_,.inl ht2⟩,⟨_,tr2.at_⟩,AAT _,tab,ad tr2.at_,ke,?_⟩
  obtain⟨q',eq',gq'⟩:=(tr2.pre (fS (mo:=MO.lst []))).kids (k:=s) (q0:=M2.length) af
  rw[eq']
  refine⟨k+1,q',_,rfl,.inl gq',kse,?_⟩
  have lq:=aG ht2
  refine⟨_,_,ad (ad ht2),af,by rw[AAA];lia,qX (by unfold cj;rw[AA6,ACa];lia),m-1,?_,rows++[.tup [.int k,s]],_,_,bv ((pM2.trans fS).trans fS) (ACA lM),ar (AAL lM) (ad (ad hr2)),bx (ad (ad ht2)),w',go',?_,rfl⟩
  ·lia
  ·rw[AAA,AAX];lia
theorem iU(T:Tops P w K mg base):Cal P w K mg base 2 "rows_of_tree" cq bp :=
 Cal.byD (N:=["beneath","rows","to_do","row"]) T.b T.f_rows_of_tree (by walk_at "sc") gK (by have:=kR T;walk_at "dv") hZ
def cE:xZ:=λds M R RX=>∃(ps:List (Str×Int)) (rs:List (Str×List Str)) (log:List D) (r:Str),ds=[aJ ps rs,.tup log,.str r]/\(∀d∈log,bh ps rs d)/\log.length<64/\(r∉rs.map (·.1)->RX (AA1 "NoRoom") M)/\(r∈rs.map (·.1)->∀xs,R (.ref M.length) (M++[.lst xs]))
theorem oH:LenX cE iL:=by rintro ds M R RX ⟨ps,rs,log,r,rfl,_⟩;rfl
def ic:DTX:=xOf (bA (dLC 1 [4] (cw (dCB bp (aa (dCB ba (aa (ac 3) (aa (ac 2) ah))) ah))) (aw 0) (aE (dOp ka (dOp qIx (ac 0) (dC (.int 1))) (ac 1))) (ac 0)))
def ie:DTX:=Bg (xOf (aW (dCB aM (aa (ac 1) (aa (ac 3) ah))) 4)) (ic)
def ig:DTX:=Bg (xOf (aW (dCB aV (aa (ac 0) (aa (ac 1) ah))) 3)) (ie)
def lW:DTX:=Bg (xIf (Bb (aE (dCB dW (aa (ac 0) (aa (ac 2) ah))))) (ph "NoRoom" (aa (dC (.str "there is no such room in the house")) ah)) (xOf aZ)) (ig)
theorem Bx{M:Mem}{l:List D}(h:∀x∈l,St x):l.all (okD M eqN)=true:=AAW.mpr λx hx=>(h x hx).ok
theorem Dr(hx:St x)(h:∀x∈l,St x):inD M x l=decide (x∈l):=by
 unfold inD
 by_cases hm:x∈l
 ·rw[dT_ hm]
  exact AD8.mpr ⟨x,hm,by rw[show eqN=28+2 from rfl,hx.eq hx];exact dT_ rfl⟩
 ·rw[dF_ hm]
  refine ABP.mpr λz=>?_
  obtain⟨y,hy,e⟩:=AD8.mp z
  rw[show eqN=28+2 from rfl,(h y hy).eq hx]at e
  exact hm (oT_ e ▸ hy)
theorem qJ:WpX cE 5 lW:=by
 rintro ds M R RX ⟨ps,rs,log,r,rfl,hd,hl,hX,h⟩
 simp only[lW]
 walk_at "dl"
 refine⟨ps,rs,r,rfl,?_⟩
 by_cases hr:r∈rs.map (·.1)
 ·rw[dT_ hr]
  refine bK ?_
  simp only[ig]
  walk_at "dl"
  refine⟨ps,rs,log,rfl,hd,by lia,λn B pB hB=>?_⟩
  have tb:=kw (rs:=rs) (log:=log)
  have hv:=pz hd (λ_ q=>q) tb
  have kl:=fA (log:=log) (k:=AA1 "say")
  have tl:=tb.len
  simp only[ie]
  walk_at "dl"
  refine⟨ps,rs,log,n,bn rs log,rfl,hd,hl,hB,λp hp=>(hv p hp).1.nm,λys hys hy ynd _=>?_⟩
  have gb:(B++[MO.lst ys])[B.length]?=some (.lst ys):=af
  replace hB:=ad (a:=MO.lst ys) hB
  replace pB:=pB.trans (fS (mo:=MO.lst ys))
  generalize B++[MO.lst ys]=B1 at gb hB pB
  generalize B.length=qb at gb
  simp only[ic]
  walk_at "dl"
  refine⟨ps,rs,n,r,bn rs log,rfl,hB,hv,by lia,λn2 B2 tab p2 tr=>?_⟩
  have eS:∀e∈(bn rs log).map (·.2),St (stD e)/\(ib e=.non\/St (ib e)):=λe he=>by
   obtain⟨p,hp,rfl⟩:=AAU.mp he
   obtain⟨h1,h2⟩:=hv p hp
   generalize p.2=e at h1 h2
   obtain⟨t,z,k,num,r',u,s,rfl,_,_,_,hu⟩:=qc h1 h2
   exact⟨⟨t,z,k,rfl⟩,hu⟩
  have nd:(((bn rs log).map (·.2)).map stD).Nodup:=by
   have:((bn rs log).map (·.2)).map stD=(bn rs log).map (·.1):=by
    rw[ABG]
    exact ADz λp hp=>(tb.en p hp).1.symm
   rw[this];exact tb.nd
  refine⟨n2,tab,_,r,rfl,tr,eS,nd,by rw[AA6];lia,λout hw ho ol=>?_⟩
  rw[AA6]at ol
  have gb2:=ad (a:=MO.lst out) (bz p2 gb)
  have pB2:=(pB.trans p2).trans (fS (mo:=MO.lst out))
  have go:(B2++[MO.lst out])[B2.length]?=some (.lst out):=af
  generalize B2++[MO.lst out]=B3 at gb2 pB2 go
  refine⟨_,.inl go,λ_=>?_⟩
  refine bL (λx=>@decide (¬fM (bn rs log) log (qW x)) (ABB _)) id (λS=>∃a,S=[a,some (.ref qb)]) (.inl go) _ _ _ ?_ ⟨_,rfl⟩ (by rw[AAj];exact ao (by lia)) ?_
  ·rintro x hx S ⟨a,rfl⟩
   refine⟨[some x,some (.ref qb)],⟨_,rfl⟩,λY Z hYZ=>?_⟩
   obtain⟨k,s,rfl,hs⟩:=ho x hx
   walk_at "dl"
   refine⟨_,.inl gb2,⟨hs.ok,Bx hys⟩,?_⟩
   rw[Dr hs hys]
   by_cases hm:s∈ys
   ·rw[dT_ hm]
    rw[show @decide (¬fM (bn rs log) log (qW (.tup [.int k,s]))) (ABB _)=false from @decide_eq_false _ (ABB _) λz=>z ((hy s).mp hm)]at hYZ
    exact hYZ
   ·rw[dF_ hm]
    rw[show @decide (¬fM (bn rs log) log (qW (.tup [.int k,s]))) (ABB _)=true from @decide_eq_true _ (ABB _) λz=>hm ((hy s).mpr z)]at hYZ
    exact hYZ
  ·rw[AB6,AE0]
   refine bu.chgL .refl (h hr _) (by obtain⟨L,rfl⟩:=pB2;simp) af (pB2.trans fS) (Bels.of λd hd'=>?_)
   obtain⟨k,s,rfl,q⟩:=ho d (ABK.mp hd').1
   exact .tup (.cons (.int _) (.cons (ck 2 _ q.pl) .nil))
 ·rw[dF_ hr]
  exact cx ⟨ao (by decide),.inl (hX hr)⟩
theorem kh(T:Tops P w K mg base):AT P w K mg base 5 "rows_of" iL cE :=
 AT.by (N:=["house","log","room","says","backs"]) T.b T.f_rows_of (by walk_at "sc") oH (by have:=rj T;have:=fx T;have:=eA T;have:=fV T;have:=iU T;have:=T.cl;walk_at "dvx") qJ
noncomputable def yC(ns:List Int)(k:Nat):Int:=ns.getD k 0
def bM:DSp:=λds M R=>∃(n:Nat) (ns:List Int) (k:Nat),ds=[.ref n,.int k]/\am M n (ns.map D.int)/\R (.int (yC ns k)) M
theorem oN:dY bM iP:=by rintro ds M R ⟨n,ns,k,rfl,_⟩;rfl
def iz:DTS:=bA (dC (.int 0))
def mw:DTS:=aA (dIf (aE (dOp qLt (ac 1) (dCB lP (aa (ac 0) ah)))) (bA (dOp qIx (ac 0) (ac 1))) aZ) (iz)
theorem qO:WpT bM 2 mw:=by
 rintro ds M R ⟨n,ns,k,rfl,hL,h⟩
 simp only[mw,iz]
 walk_at "dl"
 refine⟨_,hL,?_⟩
 unfold yC at h
 by_cases hk:k<ns.length
 ·rw[dT_ (by simpa using hk)]
  refine cx ⟨_,hL,?_⟩
  rw[az (v:=.int ns[k]) (by rw[AAV,AA5 hk];rfl)]
  rw[AAS,AA5 hk]at h
  exact bu.now h
 ·rw[dF_ (by simpa using hk)]
  rw[AAS,AB9 (by lia)]at h
  exact bK (bu.now h)
theorem rA(T:Tops P w K mg base):Cal P w K mg base 1 "_law_cell_at" iP bM :=
 Cal.byD (N:=["_law_script","_law_k"]) T.b T.f_cell_at (by walk_at "sc") oN (by walk_at "dv") qO
def bE:DSp:=λds M R=>∃(c:Int),ds=[.int c]/\∀n:Int,R (.ref M.length) (M++[.lst [.int n]])
theorem rJ:dY bE kP:=by rintro ds M R ⟨c,rfl,_⟩;rfl
def jQ:DTS:=bA (fI (aa (ac 3) ah))
def jR:DTS:=aW (dOp aO (dOp kI (ac 3) (dC (.int 2147483587))) (dOp tW (dOp kI (ac 5) (dC (.int 69621))) (dC (.int 2147483587)))) 3
def jS:DTS:=aA (aW (dOp tW (dOp kI (ac 2) (ac 2)) (dC (.int 2147483629))) 5) (jR)
def jT:DTS:=aA (kt (cu (aa (dC (.int 16)) ah)) (aw 4) (aA (aW (dOp tW (dOp aO (dOp aO (dOp kI (ac 2) (dC (.int 48271))) (dOp kI (dC (.int 7919)) (ac 4))) (dC (.int 11))) (dC (.int 2147483647))) 2) (jS))) (jQ)
def jU:DTS:=aA (aW (dC (.int 0)) 3) (jT)
def jV:DTS:=aA (aW (dOp tW (ac 1) (dC (.int 2147483647))) 2) (jU)
def jW:DTS:=aA (dIf (aE (dOp qEq (dOp tW (ac 0) (dC (.int 2))) (dC (.int 0)))) (bA (fI (aa (ac 1) ah))) aZ) (jV)
def pU:DTS:=aA (aW (dOp oh (ac 0) (dC (.int 2))) 1) (jW)
theorem sG:WpT bE 6 pU:=by
 rintro ds M R ⟨c,rfl,h⟩
 simp only[pU,jW]
 walk_at "dl"
 refine⟨⟨by decide,by decide⟩,by decide,⟨rfl,rfl⟩,?_⟩
 generalize hb:eqD M eqN (.int (c % 2)) (.int 0)=b
 cases b with
 | true=>exact cx ⟨ao (by lia),.inl (h _)⟩
 | false =>
  refine bK ?_
  simp only[jV,jU,jT]
  walk_at "dl"
  have r0:=qf (a:=c / 2) (b:=2147483647) (by decide)
  have r1:=qg (a:=c / 2) (b:=2147483647) (by decide)
  refine⟨by decide,⟨by decide,by decide⟩,?_⟩
  refine aU (λi S M'=>M'=M/\∃(nu to:Int) (a b:Option D),0<=nu/\nu<2147483647/\S=[some (.int c),some (.int (c / 2)),some (.int nu),some (.int to),a,b]) ?_ ?_ ⟨rfl,_,_,_,_,r0,r1,rfl⟩
  ·rintro S M' ⟨rfl,nu,to,a,b,_,_,rfl⟩
   refine⟨trivial,?_⟩
   simp only[jQ]
   walk_at "dl"
   exact⟨ao (by lia),.inl (h _)⟩
  ·rintro i y S M' hy ⟨rfl,nu,to,a,b,n0,n1,rfl⟩ G hG
   obtain⟨hi,rfl⟩:=dN.mp hy
   refine⟨trivial,?_⟩
   walk_at "dl"
   refine⟨.inr ⟨by decide,by decide⟩,.inl ⟨by decide,by decide⟩,by decide,?_⟩
   have a0:=qf (a:=nu*48271+7919*(0+(i:Int))+11) (b:=2147483647) (by decide)
   have a1:=qg (a:=nu*48271+7919*(0+(i:Int))+11) (b:=2147483647) (by decide)
   generalize (nu*48271+7919*(0+(i:Int))+11) % 2147483647=nv at a0 a1
   simp only[jS,jR]
   walk_at "dl"
   refine⟨.inl ⟨by lia,by lia⟩,by decide,.inr ⟨by decide,by decide⟩,.inr ⟨by decide,by decide⟩,by decide,?_⟩
   exact Fgt.now (hG _ _ ⟨rfl,_,_,_,_,a0,a1,rfl⟩)
theorem iW(T:Tops P w K mg base):Cal P w K mg base 1 "_law_digits" kP bE :=
 Cal.byD (N:=["_law_cell","_law_rest","_law_number","_law_total","_law_k","_law_other"]) T.b T.f_digits (by walk_at "sc") rJ (by walk_at "dv") sG
def aq:DSp:=λds M R=>∃(q:Nat) (m:Int),ds=[.ref q,.int m]/\HdP M q/\0<m/\m<100000000000/\∀i n:Int,0<=i->i<m->R (.int i) (M.set q (.lst [.int n]))
theorem xb:dY aq ui:=by rintro ds M R ⟨q,m,rfl,_⟩;rfl
def pF:DTS:=bA (ac 2)
def pG:DTS:=aA (dAsg (dOp oh (dOp qIx (ac 0) (dC (.int 0))) (ac 1)) (xP (ac 0) (dC (.int 0)))) (pF)
def yc:DTS:=aA (aW (dOp tW (dOp qIx (ac 0) (dC (.int 0))) (ac 1)) 2) (pG)
theorem yI:WpT aq 3 yc:=by
 rintro ds M R ⟨q,m,rfl,⟨n,hq⟩,m0,m1,h⟩
 simp only[yc,pG,pF]
 walk_at "dl"
 refine⟨_,.inl hq,?_⟩
 rw[at0]
 refine⟨m0,_,.inl hq,?_⟩
 rw[at0]
 exact⟨⟨m0,by lia⟩,_,0,hq,rfl,.inl (h _ _ (qf m0) (qg m0))⟩
theorem cJ(T:Tops P w K mg base):Cal P w K mg base 1 "_law_take" ui aq :=
 Cal.byD (N:=["_law_held","_law_many","_law_digit"]) T.b T.f_take (by walk_at "sc") xb (by walk_at "dv") yI
def dG:DSp:=λds M R=>∃(q:Nat),ds=[.ref q]/\HdP M q/\∀(z:Str) (n:Int),z.length<=8->R (.str z) (M.set q (.lst [.int n]))
theorem xf:dY dG uk:=by rintro ds M R ⟨q,rfl,_⟩;rfl
def pL:DTS:=bA (ac 2)
def pN:DTS:=aA (kt (cu (aa (dOp aO (dC (.int 1)) (dCB aq (aa (ac 0) (aa (dC (.int 8)) ah)))) ah)) (aw 3) (aW (dOp aO (ac 2) (dOp qIx (ac 1) (dCB aq (aa (ac 0) (aa (dC (.int 26)) ah))))) 2)) (pL)
def pO:DTS:=aA (aW (dC (.str "")) 2) (pN)
def ye:DTS:=aA (aW (dC (.str "abcdefghijklmnopqrstuvwxyz")) 1) (pO)
theorem yK:WpT dG 4 ye:=by
 rintro ds M R ⟨q,rfl,hq,h⟩
 have ql:=hq.lt
 simp only[ye,pO,pN]
 walk_at "dl"
 refine⟨q,8,rfl,hq,by decide,by decide,λi n i0 i1=>?_⟩
 have g0:=hq.start.set (n:=n) ql
 generalize M.set q (.lst [.int n])=B0 at g0
 walk_at "dl"
 refine⟨⟨by lia,by lia⟩,?_⟩
 refine aU (λj S M'=>Hl M M' q/\∃(z:Str) (a:Option D),z.length=j/\S=[some (.ref q),some (.str (AA1 "abcdefghijklmnopqrstuvwxyz")),some (.str z),a]) ?_ ?_ ⟨g0,AA1 "",_,by decide +kernel,rfl⟩
 ·rintro S M' ⟨g,z,a,zl,rfl⟩
  refine⟨trivial,?_⟩
  simp only[pL]
  walk_at "dl"
  rw[fi]at zl
  exact g.fin (.str _) λn=>h z n (by lia)
 ·rintro j y S M' hy ⟨g,z,a,zl,rfl⟩ G hG
  have hj:=(dN.mp hy).1
  refine⟨trivial,?_⟩
  walk_at "dl"
  refine⟨q,26,rfl,g.hd ql,by decide,by decide,λk n k0 k1=>?_⟩
  have g1:=g.set (n:=n) ql
  generalize M'.set q (.lst [.int n])=B1 at g1
  walk_at "dl"
  have hl:(AA1 "abcdefghijklmnopqrstuvwxyz").cps.toList.length=26:=by decide +kernel
  have hz:(AA1 "abcdefghijklmnopqrstuvwxyz").length=26:=by decide +kernel
  obtain⟨j',hj',ej,_⟩:=eJ (xs:=(AA1 "abcdefghijklmnopqrstuvwxyz").cps.toList) k0 (by rw[hl];exact k1)
  refine⟨by rw[hz];exact ao (by lia),?_⟩
  rw[ej]
  have o1:∀c:Nat,(⟨#[c]⟩:Str).length=1:=λ_=>rfl
  refine⟨by rw[o1];exact ao (by lia),Fgt.now (hG _ _ ⟨g1,_,_,?_,rfl⟩)⟩
  rw[bo,o1,zl]
theorem ou(T:Tops P w K mg base):Cal P w K mg base 2 "_law_name" uk dG :=
 Cal.byD (N:=["_law_held","_law_letters","_law_name_here","_law_k"]) T.b T.f_name (by walk_at "sc") xf (by have:=cJ T;walk_at "dv") yK
def fL:DSp:=λds M R=>∃(q:Nat) (m:Int),ds=[.ref q,.int m]/\HdP M q/\1<=m/\m<=4/\∀(xs:List Str) (n:Int),xs.Nodup->1<=xs.length->xs.length<=4->(∀x∈xs,x.length<=8)->R (.ref M.length) (M.set q (.lst [.int n])++[.lst (xs.map .str)])
theorem uD:dY fL oj:=by rintro ds M R ⟨q,m,rfl,_⟩;rfl
def iu:DTS:=bA (dCB iG (aa (ac 4) ah))
def iw:DTS:=dIf (aE (dOp ka (ac 6) (ac 4))) (gc (dMl bQ (ac 4) (aa (ac 6) ah))) aZ
def lZ:DTS:=aA (dIf (aE (ac 2)) (aW (dSl (dSl (dOp aO (dSl (ac 3) bT (fZ (dC (.int 7)))) (ac 6)) bT (fZ (dOp aO (dCB lP (aa (ac 3) ah)) (ac 5)))) bT (fZ (dC (.int 8)))) 6) aZ) (iw)
def ma:DTS:=aA (kt (lG (aa (dC (.int 1)) (aa (ac 1) ah))) (aw 5) (aA (aW (dCB dG (aa (ac 0) ah)) 6) (lZ))) (iu)
def md:DTS:=aA (aW (fI (aa (ac 3) ah)) 4) (ma)
def me:DTS:=aA (aW (dCB dG (aa (ac 0) ah)) 3) (md)
def sN:DTS:=aA (aW (dOp qEq (dCB aq (aa (ac 0) (aa (dC (.int 2)) ah))) (dC (.int 1))) 2) (me)
theorem wa:WpT fL 7 sN:=by
 rintro ds M R ⟨q,m,rfl,hq,m1,m4,h⟩
 have ql:=hq.lt
 simp only[sN]
 walk_at "dl"
 refine⟨q,2,rfl,hq,by decide,by decide,λi n _ _=>?_⟩
 have g0:=hq.start.set (n:=n) ql
 generalize M.set q (.lst [.int n])=B0 at g0
 refine⟨⟨rfl,rfl⟩,?_⟩
 generalize eqD B0 eqN (.int i) (.int 1)=al
 simp only[me]
 walk_at "dl"
 refine⟨q,rfl,g0.hd ql,λz n zl=>?_⟩
 have g1:=g0.set (n:=n) ql
 generalize B0.set q (.lst [.int n])=B1 at g1
 simp only[md]
 walk_at "dl"
 refine⟨ao (by lia),?_⟩
 have g2:Hl M (B1++[MO.lst [D.str z]]) q:=g1.more
 have gp:(B1++[MO.lst [D.str z]])[B1.length]?=some (.lst ([z].map D.str)):=af
 have pM:=g1.len
 generalize B1++[MO.lst [D.str z]]=B2 at g2 gp
 generalize B1.length=p at gp pM
 simp only[ma]
 walk_at "dl"
 refine⟨⟨by decide,by decide,by lia,by lia⟩,?_⟩
 refine aU (λj S M'=>Hl M M' q/\∃(xs:List Str) (a b:Option D),xs.Nodup/\1<=xs.length/\xs.length<=1+j/\(∀x∈xs,x.length<=8)/\M'[p]?=some (.lst (xs.map .str))/\S=[some (.ref q),some (.int m),some (.bl al),some (.str z),some (.ref p),a,b]) ?_ ?_ ⟨g2,[z],_,_,by simp,by simp,by simp,by simpa using zl,gp,rfl⟩
 ·rintro S M' ⟨g,xs,a,b,nd,x1,xl,x8,gp,rfl⟩
  rw[fi]at xl
  refine⟨trivial,?_⟩
  simp only[iu]
  walk_at "dl"
  refine⟨_,.inl gp,(wj (by lia)).g,λys hy _=>?_⟩
  obtain⟨zs,rfl,hp⟩:=mI hy
  have hl:=hp.length_eq
  exact(g.more (L:=[.lst (zs.map .str)])).finL g.len af (pZ _) λn=>h zs n (hp.nodup_iff.mpr nd) (by lia) (by lia) λx hx=>x8 x (hp.mem_iff.mp hx)
 ·rintro j y S M' hy ⟨g,xs,a,b,nd,x1,xl,x8,gp,rfl⟩ G hG
  obtain⟨hj,rfl⟩:=dN.mp hy
  refine⟨trivial,?_⟩
  walk_at "dl"
  refine⟨q,rfl,g.hd ql,λy n yl=>?_⟩
  have g3:=g.set (n:=n) ql
  have gp3:(M'.set q (.lst [.int n]))[p]?=some (.lst (xs.map .str)):=ar (by lia) gp
  generalize M'.set q (.lst [.int n])=B3 at g3 gp3
  have fin:∀y:Str,y.length<=8->iw ⟨Fgt B2 G,bu M R,λS' M'=>iu (EE M R) S' M',Fgt B2 G⟩ [some (.ref q),some (.int m),some (.bl al),some (.str z),some (.ref p),some (.int (1+(j:Int))),some (.str y)] B3:=λy yl=>by
   simp only[iw]
   walk_at "dl"
   refine⟨_,.inl gp3,⟨aI,kG⟩,?_⟩
   rw[lu]
   by_cases hm:y∈xs
   ·rw[dT_ hm]
    exact bK (Fgt.now (hG _ _ ⟨g3,xs,_,_,nd,x1,by lia,x8,gp3,rfl⟩))
   ·rw[dF_ hm]
    refine cx ⟨⟨_,.inl gp3⟩,_,gp3,aF (by rw[AA6];lia),?_⟩
    refine Fgt.now (hG _ _ ⟨g3.setO pM,xs++[y],_,_,?_,?_,?_,λx hx=>?_,?_,rfl⟩)
    ·exact ACR.mpr ⟨nd,by simp,λa ha b hb e=>hm (by rw[show b=y by simpa using hb]at e;exact e ▸ ha)⟩
    ·rw[AAA];lia
    ·rw[AAA,AAX];lia
    ·rcases AAl.mp hx with hx | hx
     ·exact x8 x hx
     ·rw[show x=y by simpa using hx];exact yl
    ·rw[AAq];exact bx gp3
  simp only[lZ]
  walk_at "dl"
  cases al with
  | false=>exact bK (fin y yl)
  | true =>
   have s1:=Txt.slice_le z none (some 7)
   have s2:=Txt.slice_le (AD0 z none (some 7)++y) none (some ((z.length:Int)+(1+(j:Int))))
   rw[bo]at s2
   refine cx ⟨ao (by lia),ao (by lia),ao (by lia),by rw[bo];exact ao (by lia),ao (by lia),?_⟩
   exact fin _ (wm _ 8)
theorem wN(T:Tops P w K mg base):Cal P w K mg base 3 "_law_names" oj fL :=
 Cal.byD (N:=["_law_held","_law_many","_law_alike","_law_base","_law_names_here","_law_k","_law_name_here"]) T.b T.f_names (by walk_at "sc") uD (by have:=cJ T;have:=ou T;walk_at "dv") wa
def hV:DSp:=λds M R=>∃(c:Int),ds=[.int c]/\∀ps rs,HouseF ps rs->(∀r∈rs,r.1.length<=8)->R (aJ ps rs) M
theorem uE:dY hV om:=by rintro ds M R ⟨c,rfl,_⟩;rfl
structure HsD(M B:Mem)(q p:Nat)(ns:List Str):Prop where
 pre:M <+: B
 qM:M.length<=q
 hd:HdP B q
 ne:p≠q
 nm:B[p]?=some (.lst (ns.map .str))
section
variable{M B:Mem}{q p m:Nat}{ns:List Str}{n:Int}{x:MO}
theorem HsD.set(g:HsD M B q p ns):HsD M (B.set q (.lst [.int n])) q p ns:=⟨bv g.pre g.qM,g.qM,⟨n,AAa g.hd.lt⟩,g.ne,ar g.ne g.nm⟩
theorem HsD.more(g:HsD M B q p ns):HsD M (B++L) q p ns:=⟨g.pre.trans (AAb _ _),g.qM,by obtain⟨n,h⟩:=g.hd;exact⟨n,bz (AAb _ _) h⟩,g.ne,bz (AAb _ _) g.nm⟩
theorem HsD.setO(g:HsD M B q p ns)(h1:M.length<=m)(h2:q≠m)(h3:p≠m):HsD M (B.set m x) q p ns:=⟨bv g.pre h1,g.qM,by obtain⟨n,h⟩:=g.hd;exact⟨n,ar h2 h⟩,g.ne,ar h3 g.nm⟩
end
def mh:DTS:=bA (gG (aa (ac 3) (aa (dCB fq (aa (ac 4) ah)) ah)))
def mi:DTS:=gc (dMl bQ (ac 4) (aa (gG (aa (ac 5) (aa (dCB fq (aa (ac 7) ah)) ah))) ah))
def mj:DTS:=aA (jn 1 [2,6] (cu (aa (dCB lP (aa (ac 2) ah)) ah)) (aw 0) (aE (dOp qEq (dOp tW (dOp oh (ac 2) (dOp AW (dC (.int 1)) (ac 0))) (dC (.int 2))) (dC (.int 1)))) (dOp qIx (ac 1) (ac 0)) 7) (mi)
def ix:DTS:=aA (kt (cw (dCB fL (aa (ac 1) (aa (dOp aO (dC (.int 1)) (dCB aq (aa (ac 1) (aa (dC (.int 4)) ah)))) ah)))) (aw 5) (aA (aW (dOp aO (dC (.int 1)) (dCB aq (aa (ac 1) (aa (dOp BH (dOp AW (dC (.int 1)) (dCB lP (aa (ac 2) ah))) (dC (.int 1))) ah)))) 6) (mj))) (mh)
def mn:DTS:=aA (aW (fI ah) 4) (ix)
def mq:DTS:=aA (aW (dCB fq (aa (dLC 1 [1] (cw (ac 2)) (aw 0) se (gG (aa (ac 0) (aa (dOp aO (dC (.int 1)) (dCB aq (aa (ac 1) (aa (dC (.int 3)) ah)))) ah)))) ah)) 3) (mn)
def mr:DTS:=aA (aW (dCB fL (aa (ac 1) (aa (dOp aO (dC (.int 1)) (dCB aq (aa (ac 1) (aa (dC (.int 4)) ah)))) ah))) 2) (mq)
def tx:DTS:=aA (aW (dCB bE (aa (ac 0) ah)) 1) (mr)
theorem Al(g:HsD M B q p ns)(n1:1<=ns.length)(n4:ns.length<=4)(rM:M.length<=r)(rq:r≠q)(rp:r≠p)(gr:B[r]?=some (.lst []))
  (h:∀rs:List (Str×List Str),1<=rs.length/\rs.length<=4->(rs.map (·.1)).Nodup->(∀r∈rs,r.2.length<=4)->(∀r∈rs,r.1.length<=8)->R (aJ ps rs) M) :
  ix (EE M R) [y0,some (.ref q),some (.ref p),some (.tup (ps.map cA)),some (.ref r),y5,y6,y7] B:=by
 simp only[ix]
 walk_at "dl"
 refine⟨q,4,rfl,g.hd,by decide,by decide,λi n i0 i1=>?_⟩
 have g0:=g.set (n:=n)
 have gr0:(B.set q (.lst [.int n]))[r]?=some (.lst []):=ar rq gr
 generalize B.set q (.lst [.int n])=B0 at g0 gr0
 refine⟨q,1+i,rfl,g0.hd,by lia,by lia,λws n wn w1 w4 w8=>?_⟩
 have g1:=g0.set (n:=n)
 have gr1:(B0.set q (.lst [.int n]))[r]?=some (.lst []):=ar rq gr0
 have bl:(B0.set q (.lst [.int n])).length=B0.length:=AAp ..
 have g2:=g1.more (L:=[.lst (ws.map .str)])
 have gr2:=ad (a:=.lst (ws.map .str)) gr1
 have gw:(B0.set q (.lst [.int n])++[.lst (ws.map .str)])[B0.length]?=some (.lst (ws.map .str)):=by rw[<-bl];exact af
 have wM:M.length<=B0.length:=g0.pre.length_le
 have wq:B0.length≠q:=by have:=g0.hd.lt;lia
 have wp:B0.length≠p:=by have:=aG g0.nm;lia
 have wr:B0.length≠r:=by have:=aG gr0;lia
 generalize B0.set q (.lst [.int n])++[.lst (ws.map .str)]=B2 at g2 gr2 gw
 generalize B0.length=w at gw wM wq wp wr
 refine⟨_,.inl gw,λ_=>?_⟩
 refine aU (λj S M'=>∃(rs:List (Str×List Str)) (a b c:Option D),HsD M M' q p ns/\M'[r]?=some (.lst (rs.map er))/\M'[w]?=some (.lst (ws.map .str))/\rs.map (·.1)=ws.take j/\rs.length=j/\(∀x∈rs,x.2.length<=4)/\S=[y0,some (.ref q),some (.ref p),some (.tup (ps.map cA)),some (.ref r),a,b,c]) ?_ ?_ ⟨[],_,_,_,g2,gr2,gw,rfl,rfl,(λ_ z=>nomatch z),rfl⟩
 ·rintro S M' ⟨rs,a,b,c,g,gr,gw,hn,hl,hm,rfl⟩
  rw[AA6]at hn hl
  rw[ACc]at hn
  refine⟨.inl gw,?_⟩
  simp only[mh]
  walk_at "dl"
  refine⟨_,.inl gr,ao (by lia),?_⟩
  refine bu.keep (h rs ⟨by lia,by lia⟩ (by rw[hn];exact wn) hm λr hr=>w8 _ (hn ▸ AAU.mpr ⟨r,hr,rfl⟩)) ?_ g.pre
  refine .tup (.cons (.tup (Bels.of λd hd=>?_)) (.cons (.tup (Bels.of λd hd=>?_)) .nil))
  ·obtain⟨x,_,rfl⟩:=AAU.mp hd
   exact .tup (.cons (.str _) (.cons (.int _) .nil))
  ·obtain⟨x,_,rfl⟩:=AAU.mp hd
   exact .tup (.cons (.str _) (.cons (.tup (pZ _)) .nil))
 ·rintro j y S M' hy ⟨rs,a,b,c,g,gr,gw,hn,hl,hm,rfl⟩ G hG
  rw[AAV]at hy
  obtain⟨s,hs,rfl⟩:=ABh.mp hy
  have hj:=(AA7.mp hs).1
  have et:ws.take (j+1)=ws.take j++[s]:=by rw[ADh,hs];rfl
  refine⟨.inl gw,?_⟩
  walk_at "dl"
  have pw:0<(1:Int)*2 ^ ns.length-1/\(1:Int)*2 ^ ns.length-1<100:=by
   have:ns.length=1\/ns.length=2\/ns.length=3\/ns.length=4:=by lia
   rcases this with e | e | e | e<;>rw[e]<;>decide
  refine⟨_,.inl g.nm,⟨by lia,by rw[AA6];lia,by decide⟩,?_⟩
  rw[AA6,ABy]
  refine⟨q,_,rfl,g.hd,pw.1,by lia,λi n i0 i1=>?_⟩
  have g3:=g.set (n:=n)
  have gr3:(M'.set q (.lst [.int n]))[r]?=some (.lst (rs.map er)):=ar rq gr
  have gw3:(M'.set q (.lst [.int n]))[w]?=some (.lst (ws.map .str)):=ar wq gw
  generalize M'.set q (.lst [.int n])=B3 at g3 gr3 gw3
  simp only[mj]
  walk_at "dl"
  refine⟨_,.inl g3.nm,⟨by lia,by rw[AA6];lia⟩,?_⟩
  rw[AA6,ABy]
  refine lH (λys acc S M2=>∃(xs:List Str) (a2:Option D),acc=xs.map D.str/\xs.length+ys.length<=4/\(∀y∈ys,∃j:Nat,y=.int (0+(j:Int))/\j<ns.length)/\M2=B3/\S=[a2,some (.ref p),some (.int (1+i))]) ?_ ?_ _ _ _ _ ⟨[],_,rfl,by rw[AAj,fi];lia,λy' hy'=>?_,rfl,rfl⟩
  ·rintro acc S M2 ⟨xs,a2,rfl,xl4,_,rfl,rfl⟩
   rw[AAj,Nat.add_zero]at xl4
   refine⟨trivial,?_⟩
   simp only[mi]
   walk_at "dl"
   have g4:=g3.more (L:=[.lst (xs.map .str)])
   have gr4:=ad (a:=.lst (xs.map .str)) gr3
   have gw4:=ad (a:=.lst (xs.map .str)) gw3
   refine⟨⟨_,.inl gr4⟩,_,aX,ao (by lia),_,gr4,aF (by rw[AA6];lia),?_⟩
   refine Fgt.now (hG _ _ ⟨rs++[(s,xs)],_,_,_,g4.setO rM (ABO rq) (ABO rp),?_,ar wr gw4,?_,?_,λx hx=>?_,rfl⟩)
   ·rw[AAq];exact bx gr4
   ·rw[AAq,hn,et];rfl
   ·rw[AAA,hl];rfl
   ·rcases AAl.mp hx with hx | hx
    ·exact hm x hx
    ·rw[show x=(s,xs) by simpa using hx];exact xl4
  ·rintro y' ys acc S M2 ⟨xs,a2,rfl,xl,hy',rfl,rfl⟩ K hK
   obtain⟨j,rfl,hj⟩:=hy' y' (by simp)
   rw[AAI]at xl
   refine⟨trivial,?_⟩
   walk_at "dl"
   have e3:atI (ns.map D.str) (0+(j:Int))=some (.str (ns[j]'(by lia))):=by
    rw[Int.zero_add]
    exact az (by rw[AAV,AA5 (by lia)];rfl)
   have pw:AU (1+i) (1*2 ^ (0+(j:Int)).toNat):=by
    rw[Int.zero_add,ABy]
    have:j=0\/j=1\/j=2\/j=3:=by lia
    rcases this with rfl | rfl | rfl | rfl<;>exact⟨by decide,by decide⟩
   refine⟨⟨by lia,by lia,by decide⟩,pw,by decide,⟨kU,kU⟩,?_⟩
   split
   ·refine⟨_,.inl g3.nm,?_⟩
    rw[e3]
    exact⟨by rw[AA6];exact aF (by lia),hK _ _ _ ⟨xs++[_],_,by simp;rfl,by rw[AAA,AAX];lia,λz hz'=>hy' z (AA9 _ hz'),rfl,rfl⟩⟩
   ·exact hK _ _ _ ⟨xs,_,rfl,by lia,λz hz'=>hy' z (AA9 _ hz'),rfl,rfl⟩
  ·obtain⟨j,hj⟩:=ABH hy'
   obtain⟨hlt,rfl⟩:=dN.mp hj
   exact⟨j,rfl,hlt⟩
theorem wb:WpT hV 8 tx:=by
 rintro ds M R ⟨c,rfl,h⟩
 simp only[tx]
 walk_at "dl"
 refine⟨c,rfl,λn=>?_⟩
 simp only[mr]
 walk_at "dl"
 refine⟨M.length,4,rfl,⟨n,af⟩,by decide,by decide,λi n' i0 i1=>?_⟩
 rw[fP]
 refine⟨M.length,1+i,rfl,⟨n',af⟩,by lia,by lia,λns n' nd n1 n4 n8=>?_⟩
 rw[fP]
 have e1:(M++[MO.lst [D.int n']]).length=M.length+1:=by simp
 have g:HsD M (M++[MO.lst [D.int n']]++[MO.lst (ns.map .str)]) M.length (M.length+1) ns:=⟨fS.trans fS,AA8 _,⟨n',ad af⟩,by lia,by rw[<-e1];exact af⟩
 have e2:∀n:Int,(M++[MO.lst [D.int n]]).length=M.length+1:=λn=>by simp
 rw[e2]
 generalize M++[MO.lst [D.int n']]++[MO.lst (ns.map .str)]=B at g
 generalize hq:M.length=q at g
 generalize q+1=p at g
 simp only[mq]
 walk_at "dl"
 refine⟨_,.inl g.nm,λ_=>?_⟩
 refine lH (λys acc S M1=>∃(ps:List (Str×Int)) (a:Option D) (i:Nat),HsD M M1 q p ns/\acc=ps.map cA/\ps.length=i/\ps.map (·.1)=ns.take i/\(∀x∈ps,(1<=x.2/\x.2<=3)/\x.1.length<=8)/\ys=(ns.map D.str).drop i/\i<=ns.length/\S=[a,some (.ref q)]) ?_ ?_ _ _ _ _ ⟨[],_,0,g,rfl,rfl,rfl,(λ_ z=>nomatch z),by simp,AAT _,rfl⟩
 ·rintro acc S M1 ⟨ps,a,i,g,rfl,pi,pn,hp,hd,im,rfl⟩
  have hi:i=ns.length:=by
   have:=congrArg AC1 hd
   rw[AAj,ABb,AA6]at this
   lia
  refine⟨.inl g.nm,_,aX,?_⟩
  simp only[mn]
  walk_at "dl"
  refine⟨AAT _,?_⟩
  have g2:=(g.more (L:=[.lst (ps.map cA)])).more (L:=[.lst []])
  have pl:=g.pre.length_le
  have ql:=g.hd.lt
  have pl2:=aG g.nm
  have el:(M1++[MO.lst (ps.map cA)]).length=M1.length+1:=by simp
  refine Al g2 n1 n4 (by rw[el];lia) (by rw[el];lia) (by rw[el];lia) af λrs r1 rn r4 r8=>h ps rs ⟨⟨by lia,by lia⟩,λx hx=>(hp x hx).1,λx hx=>(hp x hx).2,r1,by rw[pn];exact nd.sublist (List.take_sublist _ _),rn,r4⟩ r8
 ·rintro y ys acc S M1 ⟨ps,a,i,g,rfl,pi,pn,hp,hd,im,rfl⟩ K hK
  have hi:i<ns.length:=by
   have:=congrArg AC1 hd
   rw[AAI,ABb,AA6]at this
   lia
  have hlt:i<(ns.map D.str).length:=by rw[AA6];exact hi
  rw[List.drop_eq_getElem_cons hlt]at hd
  injection hd with h1 h2
  rw[AC7]at h1
  subst h1
  refine⟨.inl g.nm,?_⟩
  walk_at "dl"
  refine⟨q,3,rfl,g.hd,by decide,by decide,λk n' k0 k1=>?_⟩
  refine⟨ao (by lia),by rw[AA6];exact aF (by lia),hK _ _ _ ⟨ps++[(ns[i],1+k)],_,i+1,g.set,by rw[AAq];rfl,by rw[AAA,pi];rfl,?_,λx hx=>?_,h2,by lia,rfl⟩⟩
  ·rw[AAq,pn,ADh,AA5 hi];rfl
  ·rcases AAl.mp hx with hx | hx
   ·exact hp x hx
   ·rw[show x=(ns[i],1+k) by simpa using hx]
    exact⟨⟨by show 1<=1+k;lia,by show 1+k<=3;lia⟩,n8 _ (AB4 hi)⟩
theorem wO(T:Tops P w K mg base):Cal P w K mg base 4 "_law_house" om hV :=
 Cal.byD (N:=["_law_cell","_law_held","_law_names_here","_law_people","_law_rooms","_law_room","_law_bits","_law_members"]) T.b T.f_house (by walk_at "sc") uE (by have:=iW T;have:=cJ T;have:=wN T;walk_at "dv") wb
def dF:DSp:=λds M R=>∃(q p:Nat) (xs:List Str),ds=[.ref q,.ref p]/\HdP M q/\p≠q/\am M p (xs.map .str)/\1<=xs.length/\xs.length<=1000/\(∀x∈xs,x.length<=8)/\∀(x:Str) (n:Int),R (.str x) (M.set q (.lst [.int n]))
theorem rH:dY dF kO:=by rintro ds M R ⟨q,p,xs,rfl,_⟩;rfl
def jJ:DTS:=bA (dSl (ac 3) bT (fZ (dC (.int 60))))
def jK:DTS:=aW (dOp aO (ac 3) (dOp qIx (ac 6) (dCB aq (aa (ac 0) (aa (dC (.int 7)) ah))))) 3
def jL:DTS:=aA (aW (fI (aa (dOp aO (dC (.str "@")) (ac 5)) (aa (dOp aO (dOp aO (dC (.str "@")) (ac 5)) (dC (.str " "))) (aa (dOp aO (dOp aO (dC (.str "@")) (ac 5)) (dC (.str "x"))) (aa (ac 5) (aa (dC (.str "hi ")) (aa (dC (.str "@")) (aa (dOp aO (dC (.str "@")) (ac 5)) ah)))))))) 6) (jK)
def jM:DTS:=aA (kt (cu (aa (dOp aO (dC (.int 1)) (dCB aq (aa (ac 0) (aa (dC (.int 4)) ah)))) ah)) (aw 4) (aA (aW (dOp qIx (ac 1) (dCB aq (aa (ac 0) (aa (dCB lP (aa (ac 1) ah)) ah)))) 5) (jL))) (jJ)
def jN:DTS:=bA (ac 3)
def jO:DTS:=aA (dIf (aE (dOp qEq (dCB aq (aa (ac 0) (aa (dC (.int 3)) ah))) (dC (.int 0)))) (aA (kt (cu (aa (dOp aO (dC (.int 1)) (dCB aq (aa (ac 0) (aa (dC (.int 60)) ah)))) ah)) (aw 4) (aW (dOp aO (ac 3) (dOp qIx (ac 2) (dCB aq (aa (ac 0) (aa (dC (.int 94)) ah))))) 3)) (jN)) aZ) (jM)
def jP:DTS:=aA (aW (dC (.str "")) 3) (jO)
def pH:DTS:=aA (aW (dC (.str " !\"#$&'()*+,-./0123456789:;<=>?@ABCDEFGHIJKLMNOPQRSTUVWXYZ[\\]^_`abcdefghijklmnopqrstuvwxyz{|}~")) 2) (jP)
theorem sF:WpT dF 7 pH:=by
 rintro ds M R ⟨q,p,xs,rfl,hq,pq,hL,x1,xl,x8,h⟩
 have ql:=hq.lt
 have hl:(AA1 " !\"#$&'()*+,-./0123456789:;<=>?@ABCDEFGHIJKLMNOPQRSTUVWXYZ[\\]^_`abcdefghijklmnopqrstuvwxyz{|}~").cps.toList.length=94:=by decide +kernel
 have hz:(AA1 " !\"#$&'()*+,-./0123456789:;<=>?@ABCDEFGHIJKLMNOPQRSTUVWXYZ[\\]^_`abcdefghijklmnopqrstuvwxyz{|}~").length=94:=by decide +kernel
 simp only[pH,jP,jO]
 generalize AA1 " !\"#$&'()*+,-./0123456789:;<=>?@ABCDEFGHIJKLMNOPQRSTUVWXYZ[\\]^_`abcdefghijklmnopqrstuvwxyz{|}~" = sg at hl hz
 walk_at "dl"
 refine⟨q,3,rfl,hq,by decide,by decide,λi n _ _=>?_⟩
 have g0:=hq.start.set (n:=n) ql
 generalize M.set q (.lst [.int n])=B0 at g0
 refine⟨⟨rfl,rfl⟩,?_⟩
 generalize eqD B0 eqN (.int i) (.int 0)=b
 have o1:∀c:Nat,(⟨#[c]⟩:Str).length=1:=λ_=>rfl
 cases b with
 | true =>
  refine cx ⟨q,60,rfl,g0.hd ql,by decide,by decide,λi n i0 i1=>?_⟩
  have g1:=g0.set (n:=n) ql
  generalize B0.set q (.lst [.int n])=B1 at g1
  walk_at "dl"
  refine⟨⟨by lia,by lia⟩,?_⟩
  refine aU (λj S M'=>Hl M M' q/\∃(z:Str) (a:Option D),z.length=j/\S=[some (.ref q),some (.ref p),some (.str sg),some (.str z),a,none,none]) ?_ ?_ ⟨g1,AA1 "",_,by decide +kernel,rfl⟩
  ·rintro S M' ⟨g,z,a,zl,rfl⟩
   refine⟨trivial,?_⟩
   simp only[jN]
   walk_at "dl"
   exact g.fin (.str _) λn=>h z n
  ·rintro j y S M' hy ⟨g,z,a,zl,rfl⟩ G hG
   have hj:=(dN.mp hy).1
   refine⟨trivial,?_⟩
   walk_at "dl"
   refine⟨q,94,rfl,g.hd ql,by decide,by decide,λk n k0 k1=>?_⟩
   have g2:=g.set (n:=n) ql
   generalize M'.set q (.lst [.int n])=B2 at g2
   obtain⟨j',hj',ej,_⟩:=eJ (xs:=sg.cps.toList) k0 (by rw[hl];exact k1)
   refine⟨by rw[hz];exact ao (by lia),?_⟩
   rw[ej]
   refine⟨by rw[o1];exact ao (by lia),Fgt.now (hG _ _ ⟨g2,_,_,?_,rfl⟩)⟩
   rw[bo,o1,zl]
 | false =>
  refine bK ?_
  simp only[jM]
  walk_at "dl"
  refine⟨q,4,rfl,g0.hd ql,by decide,by decide,λi n i0 i1=>?_⟩
  have g1:=g0.set (n:=n) ql
  generalize B0.set q (.lst [.int n])=B1 at g1
  walk_at "dl"
  refine⟨⟨by lia,by lia⟩,?_⟩
  refine aU (λj S M'=>Hl M M' q/\∃(z:Str) (a b c:Option D),z.length<=20*j/\S=[some (.ref q),some (.ref p),some (.str sg),some (.str z),a,b,c]) ?_ ?_ ⟨g1,AA1 "",_,_,_,by decide +kernel,rfl⟩
  ·rintro S M' ⟨g,z,a,b,c,zl,rfl⟩
   rw[fi]at zl
   refine⟨trivial,?_⟩
   simp only[jJ]
   walk_at "dl"
   exact⟨ao (by lia),g.fin (.str _) λn=>h _ n⟩
  ·rintro j y S M' hy ⟨g,z,a,b,c,zl,rfl⟩ G hG
   have hj:=(dN.mp hy).1
   have hL':=g.oldL pq hL
   refine⟨trivial,?_⟩
   walk_at "dl"
   refine⟨_,hL',q,_,rfl,g.hd ql,by rw[AA6];lia,by rw[AA6];lia,λk n k0 k1=>?_⟩
   have g2:=g.set (n:=n) ql
   have hL2:=g2.oldL pq hL
   generalize M'.set q (.lst [.int n])=B2 at g2 hL2
   obtain⟨j',hj',ej,_⟩:=eJ (xs:=xs.map D.str) k0 k1
   rw[AC7]at ej
   have w8:=x8 _ (AB4 (by rw[AA6]at hj';exact hj'))
   refine⟨_,hL2,?_⟩
   rw[ej]
   generalize xs[j']'(by rw[AA6]at hj';exact hj')=w at w8
   have sa:(AA1 "@").length=1:=by decide +kernel
   have sb:(AA1 " ").length=1:=by decide +kernel
   have sx:(AA1 "x").length=1:=by decide +kernel
   have sh:(AA1 "hi ").length=3:=by decide +kernel
   simp only[jL]
   walk_at "dl"
   refine⟨by rw[sa];exact ao (by lia),by rw[sa];exact ao (by lia),by rw[bo,sa,sb];exact ao (by lia),by rw[sa];exact ao (by lia),by rw[bo,sa,sx];exact ao (by lia),by rw[sa];exact ao (by lia),ao (by lia),?_⟩
   simp only[jK]
   walk_at "dl"
   refine⟨q,7,rfl,(g2.more).hd ql,by decide,by decide,λk n k0 k1=>?_⟩
   have g3:=(g2.more (L:=[.lst [.str (AA1 "@" ++ w),.str (AA1 "@" ++ w++AA1 " "),.str (AA1 "@" ++ w++AA1 "x"),.str w,.str (AA1 "hi "),.str (AA1 "@"),.str (AA1 "@" ++ w)]])).set (n:=n) ql
   have gl:((B2++[MO.lst [.str (AA1 "@" ++ w),.str (AA1 "@" ++ w++AA1 " "),.str (AA1 "@" ++ w++AA1 "x"),.str w,.str (AA1 "hi "),.str (AA1 "@"),.str (AA1 "@" ++ w)]]).set q (.lst [.int n]))[B2.length]?=some (.lst [.str (AA1 "@" ++ w),.str (AA1 "@" ++ w++AA1 " "),.str (AA1 "@" ++ w++AA1 "x"),.str w,.str (AA1 "hi "),.str (AA1 "@"),.str (AA1 "@" ++ w)]):=ar (by have:=g2.len;lia) af
   have ex:∃s:Str,atI [D.str (AA1 "@" ++ w),.str (AA1 "@" ++ w++AA1 " "),.str (AA1 "@" ++ w++AA1 "x"),.str w,.str (AA1 "hi "),.str (AA1 "@"),.str (AA1 "@" ++ w)] k=some (.str s)/\s.length<=20:=by
    have:k=0\/k=1\/k=2\/k=3\/k=4\/k=5\/k=6:=by lia
    rcases this with rfl | rfl | rfl | rfl | rfl | rfl | rfl
    ·exact⟨_,az (j:=0) rfl,by rw[bo,sa];lia⟩
    ·exact⟨_,az (j:=1) rfl,by rw[bo,bo,sa,sb];lia⟩
    ·exact⟨_,az (j:=2) rfl,by rw[bo,bo,sa,sx];lia⟩
    ·exact⟨_,az (j:=3) rfl,by lia⟩
    ·exact⟨_,az (j:=4) rfl,by rw[sh];lia⟩
    ·exact⟨_,az (j:=5) rfl,by rw[sa];lia⟩
    ·exact⟨_,az (j:=6) rfl,by rw[bo,sa];lia⟩
   obtain⟨s,es,sl⟩:=ex
   refine⟨_,.inl gl,?_⟩
   rw[es]
   refine⟨ao (by lia),Fgt.now (hG _ _ ⟨g3,_,_,_,_,?_,rfl⟩)⟩
   rw[bo];lia
theorem um(T:Tops P w K mg base):Cal P w K mg base 2 "_law_saying" kO dF :=
 Cal.byD (N:=["_law_held","_law_names_here","_law_signs","_law_saying_here","_law_k","_law_name_here","_law_pieces"]) T.b T.f_saying (by walk_at "sc") rH (by have:=cJ T;walk_at "dv") sF
def bX:DSp:=λds M R=>∃(q p s:Nat) (hs sts:List D),ds=[.ref q,.ref p,.ref s]/\HdP M q/\p≠q/\s≠q/\am M p hs/\(∀x∈hs,Hd x)/\1<=hs.length/\hs.length<=12/\am M s sts/\(∀x∈sts,St x)/\sts.length<=1000/\∀(d:D) (n:Int),St d->R d (M.set q (.lst [.int n]))
theorem xc:dY bX uj:=by rintro ds M R ⟨q,p,s,hs,sts,rfl,_⟩;rfl
theorem St.bel(h:St d):Bel k d:=ck 2 d h.pl
def pI:DTS:=bA (dOp qIx (ac 2) (dCB aq (aa (ac 0) (aa (dCB lP (aa (ac 2) ah)) ah))))
def pJ:DTS:=aA (dIf (aE (dOp qEq (ac 3) (dC (.int 1)))) (bA (gG (aa (dOp aO (dC (.int 1)) (dCB aq (aa (ac 0) (aa (dOp zb (dC (.int 10)) (dC (.int 9))) ah)))) (aa (dOp qIx (ac 1) (dCB aq (aa (ac 0) (aa (dCB lP (aa (ac 1) ah)) ah)))) ah)))) aZ) (pI)
def pK:DTS:=aA (dIf (dOr (aE (dOp qEq (ac 3) (dC (.int 0)))) (aE (dOp qEq (ac 2) (fI ah)))) (bA (gG (aa (dOp aO (dC (.int 1)) (dCB aq (aa (ac 0) (aa (dC (.int 70)) ah)))) (aa (dOp qIx (ac 1) (dCB aq (aa (ac 0) (aa (dCB lP (aa (ac 1) ah)) ah)))) ah)))) aZ) (pJ)
def yd:DTS:=aA (aW (dCB aq (aa (ac 0) (aa (dC (.int 8)) ah))) 3) (pK)
theorem kL(ql:q<M.length)(pq:p≠q)(hp:am M p hs)(hh:∀x∈hs,Hd x)(h1:1<=hs.length)(h12:hs.length<=12)(h:∀(d:D) (n:Int),St d->R d (M.set q (.lst [.int n])))(g:Hl M B q)(ht:∀S B Q,Q (.int m) B->tm S B Q)(m0:0<m)(m1:m<100000000000) :
  (bA (gG (aa (dOp aO (dC (.int 1)) (dCB aq (aa (ac 0) (aa tm ah)))) (aa (dOp qIx (ac 1) (dCB aq (aa (ac 0) (aa (dCB lP (aa (ac 1) ah)) ah)))) ah)))) (EE M R) [some (.ref q),some (.ref p),y2,y3] B:=by
 walk_at "dl"
 refine ht _ _ _ ?_
 refine⟨q,m,rfl,g.hd ql,m0,m1,λi n i0 i1=>?_⟩
 have g1:=g.set (n:=n) ql
 generalize B.set q (.lst [.int n])=B1 at g1
 refine⟨hs,g1.oldL pq hp,q,_,rfl,g1.hd ql,by lia,by lia,λk n k0 k1=>?_⟩
 have g2:=g1.set (n:=n) ql
 generalize B1.set q (.lst [.int n])=B2 at g2
 obtain⟨j,hj,ej,_⟩:=eJ (xs:=hs) k0 k1
 obtain⟨z,k2,ez⟩:=hh _ (AB4 hj)
 refine⟨hs,g2.oldL pq hp,?_⟩
 rw[ej]
 have:St (.tup [.int (1+i),hs[j]]):=⟨1+i,z,k2,by rw[ez]⟩
 exact⟨ao (by lia),g2.fin this.bel λn=>h _ n this⟩
theorem yJ:WpT bX 4 yd:=by
 rintro ds M R ⟨q,p,s,hs,sts,rfl,hq,pq,sq,hp,hh,h1,h12,hs',hst,sl,h⟩
 have ql:=hq.lt
 have ok29:∀{B:Mem},∀x∈sts,okD B 29 x=true:=λ{B} x hx=>by obtain⟨t,z,k,rfl⟩:=hst x hx;rfl
 simp only[yd]
 walk_at "dl"
 refine⟨q,8,rfl,hq,by decide,by decide,λi n _ _=>?_⟩
 have g0:=hq.start.set (n:=n) ql
 generalize M.set q (.lst [.int n])=B0 at g0
 simp only[pK]
 walk_at "dl"
 refine⟨⟨rfl,rfl⟩,?_⟩
 generalize eqD B0 eqN (.int i) (.int 0)=b0
 cases b0 with
 | true=>exact cx (kL (m:=70) (tm:=dC (.int 70)) (y2:=some (.ref s)) (y3:=some (.int i)) ql pq hp hh h1 h12 h g0 (λ_ _ _ q=>q) (by decide) (by decide))
 | false =>
  refine bK ?_
  obtain⟨okk,ee⟩:=kX (g0.oldL sq hs') ok29
  refine⟨AAT _,okk,?_⟩
  rw[ee]
  have g1:=g0.more (L:=[.lst []])
  generalize B0++[MO.lst []]=B1 at g1
  cases he:sts.isEmpty with
  | true=>exact cx (kL (m:=70) (tm:=dC (.int 70)) (y2:=some (.ref s)) (y3:=some (.int i)) ql pq hp hh h1 h12 h g1 (λ_ _ _ q=>q) (by decide) (by decide))
  | false =>
   refine bK ?_
   simp only[pJ]
   walk_at "dl"
   refine⟨⟨rfl,rfl⟩,?_⟩
   generalize eqD B1 eqN (.int i) (.int 1)=b1
   cases b1 with
   | true=>exact cx (kL (m:=10 ^ Int.toNat 9) (tm:=dOp zb (dC (.int 10)) (dC (.int 9))) (y2:=some (.ref s)) (y3:=some (.int i)) ql pq hp hh h1 h12 h g1 (λ_ _ _ q=>⟨⟨by decide,by decide,by decide⟩,q⟩) (by decide) (by decide))
   | false =>
    refine bK ?_
    simp only[pI]
    walk_at "dl"
    have s1:1<=sts.length:=by
     cases sts with
     | nil=>cases he
     | cons x xs=>simp
    refine⟨sts,g1.oldL sq hs',q,_,rfl,g1.hd ql,by lia,by lia,λk n k0 k1=>?_⟩
    have g2:=g1.set (n:=n) ql
    generalize B1.set q (.lst [.int n])=B2 at g2
    obtain⟨j,hj,ej,_⟩:=eJ (xs:=sts) k0 k1
    refine⟨sts,g2.oldL sq hs',?_⟩
    rw[ej]
    have hx:=hst _ (AB4 hj)
    exact g2.fin hx.bel λn=>h _ n hx
theorem uo(T:Tops P w K mg base):Cal P w K mg base 2 "_law_pick" uj bX :=
 Cal.byD (N:=["_law_held","_law_hands_here","_law_says","_law_way"]) T.b T.f_pick (by walk_at "sc") xc (by have:=cJ T;walk_at "dv") yJ
def fK:DSp:=λds M R=>∃(q p t:Nat) (hs:List D) (kvs:List (D×D)),ds=[.ref q,.ref p,.ref t]/\HdP M q/\p≠q/\t≠q/\am M p hs/\(∀x∈hs,Hd x)/\hs.length<=12/\M[t]?=some (.dkt kvs)/\(∀x∈kvs,∃v:Int,x.2=.int v/\0<=v/\v<=1000)/\∀(vs:List D) (n:Int),jB 3 vs->R (.tup vs) (M.set q (.lst [.int n]))
theorem rG:dY fK kN:=by rintro ds M R ⟨q,p,t,hs,kvs,rfl,_⟩;rfl
theorem jB.snoc(h:jB n ds)(t:Pln n d):jB n (ds++[d]):=by
 unfold jB at h ⊢
 rw[List.all_append,h]
 simpa [Pln]using t
def jE:DTS:=bA (dCB fq (aa (ac 3) ah))
def jF:DTS:=dIf (aE (dOp qGt (ac 5) (dC (.int 0)))) (gc (dMl bQ (ac 3) (aa (gG (aa (ac 4) (aa (ac 5) ah))) ah))) aZ
def jG:DTS:=aA (kt (cw (ac 1)) (aw 4) (aA (aW (dCB aq (aa (ac 0) (aa (dOp aO (dMt gy (ac 2) (aa (ac 4) (aa (dC (.int 0)) ah))) (dC (.int 3))) ah))) 5) (jF))) (jE)
def pE:DTS:=aA (aW (fI ah) 3) (jG)
theorem sE:WpT fK 6 pE:=by
 rintro ds M R ⟨q,p,t,hs,kvs,rfl,hq,pq,tq,hp,hh,h12,ht,hv,h⟩
 have ql:=hq.lt
 simp only[pE,jG]
 walk_at "dl"
 refine⟨AAT _,_,hp.more _,λ_=>?_⟩
 have g0:Hl M (M++[MO.lst []]) q:=hq.start.more
 refine aU (λi S M'=>∃(vs:List D) (a b:Option D),Hl M M' q/\M'[M.length]?=some (.lst vs)/\jB 3 vs/\vs.length<=i/\S=[some (.ref q),some (.ref p),some (.ref t),some (.ref M.length),a,b]) ?_ ?_ ⟨[],_,_,g0,af,.nil,AA8 _,rfl⟩
 ·rintro S M' ⟨vs,a,b,g,gv,pv,vl,rfl⟩
  refine⟨g.oldL pq hp,?_⟩
  simp only[jE]
  walk_at "dl"
  exact⟨_,.inl gv,g.fin (ck 4 _ (.tup pv)) λn=>h vs n pv⟩
 ·rintro i y S M' hy ⟨vs,a,b,g,gv,pv,vl,rfl⟩ G hG
  have hi:=(AA7.mp hy).1
  obtain⟨z,k,rfl⟩:=hh y (AAe hy)
  refine⟨g.oldL pq hp,?_⟩
  walk_at "dl"
  have gt:=g.old tq ht
  refine⟨⟨_,gt⟩,_,gt,rfl,?_⟩
  have hg:∃v:Int,(aY kvs (.tup [.str z,.int k])).getD (.int 0)=.int v/\0<=v/\v<=1000:=by
   cases e:aY kvs (.tup [.str z,.int k]) with
   | none=>exact⟨0,rfl,by decide,by decide⟩
   | some d=>exact hv _ (cO e)
  obtain⟨v,ev,v0,v1⟩:=hg
  rw[ev]
  refine⟨q,v+3,rfl,g.hd ql,by lia,by lia,λc n c0 c1=>?_⟩
  have g1:=g.set (n:=n) ql
  have gv1:(M'.set q (.lst [.int n]))[M.length]?=some (.lst vs):=ar (by lia) gv
  generalize M'.set q (.lst [.int n])=B1 at g1 gv1
  simp only[jF]
  walk_at "dl"
  by_cases hc:c > 0
  ·rw[dT_ hc]
   refine cx ⟨⟨_,.inl gv1⟩,ao (by lia),_,gv1,aF (by lia),?_⟩
   exact Fgt.now (hG _ _ ⟨_,_,_,g1.setO (AA8 _),bx gv1,pv.snoc (.tup (.cons (xB ⟨_,_,rfl⟩) (.cons (.int _) .nil))),by rw[AAA,AAX];lia,rfl⟩)
  ·rw[dF_ hc]
   exact bK (Fgt.now (hG _ _ ⟨vs,_,_,g1,gv1,pv,by lia,rfl⟩))
theorem ul(T:Tops P w K mg base):Cal P w K mg base 2 "_law_vector" kN fK :=
 Cal.byD (N:=["_law_held","_law_hands_here","_law_done","_law_found","_law_hand","_law_count"]) T.b T.f_vector (by walk_at "sc") rG (by have:=cJ T;walk_at "dv") sE
def lL:DSp:=λds M R=>∃(q p s:Nat) (ps:List (Str×Int)) (rs:List (Str×List Str)) (hs sts:List D),ds=[.ref q,aJ ps rs,.ref p,.ref s]/\HdP M q/\HouseF ps rs/\p≠q/\s≠q/\am M p hs/\(∀x∈hs,Hd x)/\1<=hs.length/\hs.length<=12/\am M s sts/\(∀x∈sts,St x)/\sts.length<=1000/\∀(d:D) (n:Int),Pln 4 d->R d (M.set q (.lst [.int n]))
theorem xa:dY lL uh:=by rintro ds M R ⟨q,p,s,ps,rs,hs,sts,rfl,_⟩;rfl
def pA:DTS:=bA (gG (aa (dC (.str "under")) (aa (dCB bX (aa (ac 0) (aa (ac 2) (aa (ac 3) ah)))) ah)))
def pC:DTS:=aA (dIf (aE (dOp qEq (ac 4) (dC (.int 1)))) (bA (gG (aa (dC (.str "person")) (aa (dOp qIx (dOp qIx (dOp qIx (ac 1) (dC (.int 0))) (dCB aq (aa (ac 0) (aa (dCB lP (aa (dOp qIx (ac 1) (dC (.int 0))) ah)) ah)))) (dC (.int 0))) ah)))) aZ) (pA)
def pD:DTS:=aA (dIf (aE (dOp qEq (ac 4) (dC (.int 0)))) (bA (gG (aa (dC (.str "room")) (aa (dOp qIx (dOp qIx (dOp qIx (ac 1) (dC (.int 1))) (dCB aq (aa (ac 0) (aa (dCB lP (aa (dOp qIx (ac 1) (dC (.int 1))) ah)) ah)))) (dC (.int 0))) ah)))) aZ) (pC)
def yb:DTS:=aA (aW (dCB aq (aa (ac 0) (aa (dC (.int 3)) ah))) 4) (pD)
theorem yH:WpT lL 5 yb:=by
 rintro ds M R ⟨q,p,s,ps,rs,hs,sts,rfl,hq,hf,pq,sq,hp,hh,h1,h12,hs',hst,sl,h⟩
 have ql:=hq.lt
 have l1:=hf.len
 have l2:=hf.rl
 simp only[yb,aJ]
 walk_at "dl"
 refine⟨q,3,rfl,hq,by decide,by decide,λi n _ _=>?_⟩
 have g0:=hq.start.set (n:=n) ql
 generalize M.set q (.lst [.int n])=B0 at g0
 simp only[pD]
 walk_at "dl"
 refine⟨⟨rfl,rfl⟩,?_⟩
 generalize eqD B0 eqN (.int i) (.int 0)=b0
 cases b0 with
 | true =>
  refine cx ⟨q,_,rfl,g0.hd ql,by rw[AA6];lia,by rw[AA6];lia,λk n k0 k1=>?_⟩
  have g1:=g0.set (n:=n) ql
  generalize B0.set q (.lst [.int n])=B1 at g1
  obtain⟨j,hj,ej,_⟩:=eJ (xs:=rs.map er) k0 k1
  rw[AC7]at ej
  walk_at "dl"
  rw[ej]
  unfold er
  walk_at "dl"
  refine⟨ao (by lia),g1.fin (.tup (.cons (.str _) (.cons (.str _) .nil))) λn=>h _ n (.tup (.cons (.str _) (.cons (.str _) .nil)))⟩
 | false =>
  refine bK ?_
  simp only[pC]
  walk_at "dl"
  refine⟨⟨rfl,rfl⟩,?_⟩
  generalize eqD B0 eqN (.int i) (.int 1)=b1
  cases b1 with
  | true =>
   refine cx ⟨q,_,rfl,g0.hd ql,by rw[AA6];lia,by rw[AA6];lia,λk n k0 k1=>?_⟩
   have g1:=g0.set (n:=n) ql
   generalize B0.set q (.lst [.int n])=B1 at g1
   obtain⟨j,hj,ej,_⟩:=eJ (xs:=ps.map cA) k0 k1
   rw[AC7]at ej
   walk_at "dl"
   rw[ej]
   unfold cA
   walk_at "dl"
   refine⟨ao (by lia),g1.fin (.tup (.cons (.str _) (.cons (.str _) .nil))) λn=>h _ n (.tup (.cons (.str _) (.cons (.str _) .nil)))⟩
  | false =>
   refine bK ?_
   simp only[pA]
   walk_at "dl"
   refine⟨q,p,s,hs,sts,rfl,g0.hd ql,pq,sq,g0.oldL pq hp,hh,h1,h12,g0.oldL sq hs',hst,sl,λd n hd=>?_⟩
   have g1:=g0.set (n:=n) ql
   generalize B0.set q (.lst [.int n])=B1 at g1
   exact⟨ao (by lia),g1.fin (.tup (.cons (.str _) (.cons hd.bel .nil))) λn=>h _ n (.tup (.cons (.str _) (.cons hd.pl .nil)))⟩
theorem zA(T:Tops P w K mg base):Cal P w K mg base 3 "_law_what" uh lL :=
 Cal.byD (N:=["_law_held","_law_house_here","_law_hands_here","_law_says","_law_way"]) T.b T.f_what (by walk_at "sc") xa (by have:=cJ T;have:=uo T;walk_at "dv") yH
def qH:DSp:=λds M R=>∃(q p s t:Nat) (ps:List (Str×Int)) (rs:List (Str×List Str)) (hs sts:List D) (kvs:List (D×D)),ds=[.ref q,aJ ps rs,.ref p,.ref s,.ref t]/\HdP M q/\HouseF ps rs/\(p≠q/\s≠q/\t≠q)/\am M p hs/\(∀x∈hs,Hd x)/\1<=hs.length/\hs.length<=12/\am M s sts/\(∀x∈sts,St x)/\sts.length<=1000/\M[t]?=some (.dkt kvs)/\(∀x∈kvs,∃v:Int,x.2=.int v/\0<=v/\v<=1000)/\∀(x:Str) (dl:List D) (n:Int),jB 4 dl->ActK rs x dl->R (.tup (.str x::dl)) (M.set q (.lst [.int n]))
theorem zM:dY qH zv:=by rintro ds M R ⟨q,p,s,t,ps,rs,hs,sts,kvs,rfl,_⟩;rfl
theorem dE(g:Hl M B q)(h:∀(x:Str) (dl:List D) (n:Int),jB 4 dl->ActK rs x dl->R (.tup (.str x::dl)) (M.set q (.lst [.int n])))(hp:jB 4 dl)(ha:ActK rs x dl):bu M R (.tup (.str x::dl)) B :=
 g.fin (ck 5 _ (.tup (.cons (.str _) hp))) λn=>h x dl n hp ha
theorem k_ne:AA1 "read"≠AA1 "say"/\AA1 "read"≠AA1 "change"/\AA1 "read"≠AA1 "back"/\AA1 "read"≠AA1 "like":=by decide +kernel
theorem k_ne2:AA1 "seen"≠AA1 "say"/\AA1 "seen"≠AA1 "change"/\AA1 "seen"≠AA1 "back"/\AA1 "seen"≠AA1 "like":=by decide +kernel
theorem k_ne3:AA1 "hush"≠AA1 "say"/\AA1 "hush"≠AA1 "change"/\AA1 "hush"≠AA1 "back"/\AA1 "hush"≠AA1 "like":=by decide +kernel
theorem k_ne4:AA1 "rung"≠AA1 "say"/\AA1 "rung"≠AA1 "change"/\AA1 "rung"≠AA1 "back"/\AA1 "rung"≠AA1 "like":=by decide +kernel
def pV:DTS:=bA (gG (aa (dC (.str "rung")) (aa (dCB bX (aa (ac 0) (aa (ac 2) (aa (ac 3) ah)))) ah)))
def pW:DTS:=aA (dIf (aE (dOp qEq (ac 5) (dC (.int 9)))) (bA (gG (aa (dC (.str "hush")) (aa (dCB lL (aa (ac 0) (aa (ac 1) (aa (ac 2) (aa (ac 3) ah))))) (aa (dOp qGt (dCB aq (aa (ac 0) (aa (dC (.int 3)) ah))) (dC (.int 0))) ah))))) aZ) (pV)
def pX:DTS:=aA (dIf (aE (dOp qEq (ac 5) (dC (.int 8)))) (bA (gG (aa (dC (.str "seen")) (aa (dCB bX (aa (ac 0) (aa (ac 2) (aa (ac 3) ah)))) ah)))) aZ) (pW)
def pY:DTS:=aA (dIf (aE (dOp qEq (ac 5) (dC (.int 7)))) (bA (gG (aa (dC (.str "read")) (aa (ac 7) (aa (dCB fK (aa (ac 0) (aa (ac 2) (aa (ac 4) ah)))) ah))))) aZ) (pX)
def tE:DTS:=bA (gG (aa (dC (.str "like")) (aa (dCB bX (aa (ac 0) (aa (ac 2) (aa (ac 3) ah)))) (aa (ac 9) (aa (dOp qGt (dCB aq (aa (ac 0) (aa (dC (.int 3)) ah))) (dC (.int 0))) ah)))))
def tF:DTS:=aA (dIf (aE (dOp qEq (ac 5) (dC (.int 6)))) (aA (aW (dOp qIx (fI (aa (dC (.str "good")) (aa (dC (.str "no")) (aa (dCB dG (aa (ac 0) ah)) ah)))) (dCB aq (aa (ac 0) (aa (dC (.int 3)) ah)))) 9) (tE)) aZ) (pY)
def tG:DTS:=aA (dIf (aE (dOp qEq (ac 5) (dC (.int 5)))) (bA (gG (aa (dC (.str "back")) (aa (dCB bX (aa (ac 0) (aa (ac 2) (aa (ac 3) ah)))) ah)))) aZ) (tF)
def kF:DTS:=aA (dIf (aE (dOp qEq (ac 5) (dC (.int 4)))) (bA (gG (aa (dC (.str "change")) (aa (dCB bX (aa (ac 0) (aa (ac 2) (aa (ac 3) ah)))) (aa (dCB dF (aa (ac 0) (aa (ac 6) ah))) ah))))) aZ) (tG)
def nU:DTS:=bA (gG (aa (dC (.str "say")) (aa (ac 7) (aa (ac 8) (aa (dCB dF (aa (ac 0) (aa (ac 6) ah))) ah)))))
def nV:DTS:=aA (dIf (Bc (aE (dOp qGt (dCB aq (aa (ac 0) (aa (dC (.int 3)) ah))) (dC (.int 0)))) (aE (dOp qNe (ac 3) (fI ah)))) (aW (dCB bX (aa (ac 0) (aa (ac 2) (aa (ac 3) ah)))) 8) aZ) (nU)
def tH:DTS:=aA (dIf (dOr (aE (dOp qLt (ac 5) (dC (.int 4)))) (Bc (aE (dOp qEq (ac 3) (fI ah))) (aE (dOp qLt (ac 5) (dC (.int 7)))))) (aA (aW (dC .non) 8) (nV)) aZ) (kF)
def tI:DTS:=aA (aW (dOp qIx (dOp qIx (dOp qIx (ac 1) (dC (.int 1))) (dCB aq (aa (ac 0) (aa (dCB lP (aa (dOp qIx (ac 1) (dC (.int 1))) ah)) ah)))) (dC (.int 0))) 7) (tH)
def tJ:DTS:=aA (jn 2 [] (cw (dOp qIx (ac 1) (dC (.int 0)))) (ny 2 (cD (aw 0) (cD (aw 1) nA))) se (ac 0) 6) (tI)
def Bt:DTS:=aA (aW (dCB aq (aa (ac 0) (aa (dC (.int 11)) ah))) 5) (tJ)
section
variable{M B:Mem}{R:DK}{q p s t w:Nat}{ps:List (Str×Int)}{rs:List (Str×List Str)}{hs sts:List D}{kvs:List (D×D)}{kind:Int}{xs:List Str}{room:Str}{y8 y9:Option D}
theorem act_6(ql:q<M.length)(hf:HouseF ps rs)(ne:p≠q/\s≠q/\t≠q)(hp:am M p hs)(hh:∀x∈hs,Hd x)(h1:1<=hs.length)(h12:hs.length<=12)(hs':am M s sts)(hst:∀x∈sts,St x)(sl:sts.length<=1000)(ht:M[t]?=some (.dkt kvs))(hv:∀x∈kvs,∃v:Int,x.2=.int v/\0<=v/\v<=1000)
  (g:Hl M B q) (wM:M.length<=w) (gw:B[w]?=some (.lst (xs.map .str))) (x1:1<=xs.length) (x4:xs.length<=4) (x8:∀x∈xs,x.length<=8)
  (h:∀(x:Str) (dl:List D) (n:Int),jB 4 dl->ActK rs x dl->R (.tup (.str x::dl)) (M.set q (.lst [.int n]))) :
  kF (EE M R) [some (.ref q),some (aJ ps rs),some (.ref p),some (.ref s),some (.ref t),some (.int kind),some (.ref w),some (.str room),y8,y9] B:=by
 have pk:∀{B:Mem}{Q:DK},Hl M B q->(∀(d:D) (B':Mem),St d->Hl M B' q->(∀j x,M.length<=j->B[j]?=some x->B'[j]?=some x)->Q d B')->bX [.ref q,.ref p,.ref s] B Q:=λ{B Q} g k =>
  ⟨q,p,s,hs,sts,rfl,g.hd ql,ne.1,ne.2.1,g.oldL ne.1 hp,hh,h1,h12,g.oldL ne.2.1 hs',hst,sl,λd n hd=>k d _ hd (g.set ql) λj x hj e=>ar (by lia) e⟩
 simp only[kF]
 walk_at "dl"
 refine⟨⟨rfl,rfl⟩,?_⟩
 generalize eqD B eqN (.int kind) (.int 4)=b4
 cases b4 with
 | true =>
  refine cx (pk g λd B1 hd g1 kp=>?_)
  refine⟨q,w,xs,rfl,g1.hd ql,by lia,.inl (kp _ _ wM gw),x1,by lia,x8,λz n=>?_⟩
  exact⟨ao (by lia),dE (g1.set ql) h (.cons hd.pl (.cons (.str _) .nil)) (.mkChange hd)⟩
 | false =>
 refine bK ?_
 simp only[tG]
 walk_at "dl"
 refine⟨⟨rfl,rfl⟩,?_⟩
 generalize eqD B eqN (.int kind) (.int 5)=b5
 cases b5 with
 | true=>exact cx (pk g λd B1 hd g1 kp=>⟨ao (by lia),dE g1 h (.cons hd.pl .nil) (.mkBack hd)⟩)
 | false =>
 refine bK ?_
 simp only[tF]
 walk_at "dl"
 refine⟨⟨rfl,rfl⟩,?_⟩
 generalize eqD B eqN (.int kind) (.int 6)=b6
 cases b6 with
 | true =>
  refine cx ⟨q,rfl,g.hd ql,λz n zl=>?_⟩
  have g1:=g.set (n:=n) ql
  generalize B.set q (.lst [.int n])=B1 at g1
  refine⟨ao (by lia),q,3,rfl,(g1.more).hd ql,by decide,by decide,λk n k0 k1=>?_⟩
  have g2:=(g1.more (L:=[.lst [.str (AA1 "good"),.str (AA1 "no"),.str z]])).set (n:=n) ql
  have gl:((B1++[MO.lst [.str (AA1 "good"),.str (AA1 "no"),.str z]]).set q (.lst [.int n]))[B1.length]?=some (.lst [.str (AA1 "good"),.str (AA1 "no"),.str z]):=ar (by have:=g1.len;lia) af
  generalize (B1++[MO.lst [.str (AA1 "good"),.str (AA1 "no"),.str z]]).set q (.lst [.int n])=B2 at g2 gl
  have ex:∃s:Str,atI [D.str (AA1 "good"),.str (AA1 "no"),.str z] k=some (.str s):=by
   have:k=0\/k=1\/k=2:=by lia
   rcases this with rfl | rfl | rfl
   ·exact⟨_,az (j:=0) rfl⟩
   ·exact⟨_,az (j:=1) rfl⟩
   ·exact⟨_,az (j:=2) rfl⟩
  obtain⟨so,es⟩:=ex
  refine⟨_,.inl gl,?_⟩
  rw[es]
  simp only[tE]
  walk_at "dl"
  refine pk g2 λd B3 hd g3 kp=>?_
  refine⟨q,3,rfl,g3.hd ql,by decide,by decide,λk n k0 k1=>?_⟩
  exact⟨ao (by lia),dE (g3.set ql) h (.cons hd.pl (.cons (.str _) (.cons (.bl _) .nil))) (.mkLike hd)⟩
 | false =>
 refine bK ?_
 simp only[pY]
 walk_at "dl"
 refine⟨⟨rfl,rfl⟩,?_⟩
 generalize eqD B eqN (.int kind) (.int 7)=b7
 cases b7 with
 | true =>
  refine cx ⟨q,p,t,hs,kvs,rfl,g.hd ql,ne.1,ne.2.2,g.oldL ne.1 hp,hh,h12,g.old ne.2.2 ht,hv,λvs n hvs=>?_⟩
  exact⟨ao (by lia),dE (g.set ql) h (.cons (.str _) (.cons (.tup hvs) .nil)) (.mkNone k_ne)⟩
 | false =>
 refine bK ?_
 simp only[pX]
 walk_at "dl"
 refine⟨⟨rfl,rfl⟩,?_⟩
 generalize eqD B eqN (.int kind) (.int 8)=b8
 cases b8 with
 | true=>exact cx (pk g λd B1 hd g1 kp=>⟨ao (by lia),dE g1 h (.cons hd.pl .nil) (.mkNone k_ne2)⟩)
 | false =>
 refine bK ?_
 simp only[pW]
 walk_at "dl"
 refine⟨⟨rfl,rfl⟩,?_⟩
 generalize eqD B eqN (.int kind) (.int 9)=b9
 cases b9 with
 | true =>
  refine cx ⟨q,p,s,ps,rs,hs,sts,rfl,g.hd ql,hf,ne.1,ne.2.1,g.oldL ne.1 hp,hh,h1,h12,g.oldL ne.2.1 hs',hst,sl,λd n hd=>?_⟩
  have g1:=g.set (n:=n) ql
  generalize B.set q (.lst [.int n])=B1 at g1
  refine⟨q,3,rfl,g1.hd ql,by decide,by decide,λk n k0 k1=>?_⟩
  exact⟨ao (by lia),dE (g1.set ql) h (.cons hd (.cons (.bl _) .nil)) (.mkNone k_ne3)⟩
 | false =>
 refine bK ?_
 simp only[pV]
 walk_at "dl"
 exact pk g λd B1 hd g1 kp=>⟨ao (by lia),dE g1 h (.cons hd.pl .nil) (.mkNone k_ne4)⟩
end
theorem Bj:WpT qH 10 Bt:=by
 rintro ds M R ⟨q,p,s,t,ps,rs,hs,sts,kvs,rfl,hq,hf,ne,hp,hh,h1,h12,hs',hst,sl,ht,hv,h⟩
 have ql:=hq.lt
 have l1:=hf.len
 have l2:=hf.rl
 simp only[Bt]
 walk_at "dl"
 refine⟨q,11,rfl,hq,by decide,by decide,λkind n _ _=>?_⟩
 have g0:=hq.start.set (n:=n) ql
 generalize M.set q (.lst [.int n])=B0 at g0
 simp only[tJ,aJ]
 walk_at "dl"
 intro _
 refine bU (λd=>(match d with | .tup (x::_)=>x | _=>.non)) (λS=>∃a b,S=[a,b]) trivial _ _ _ (λx hx S hS=>?_) ⟨_,_,rfl⟩ (by rw[AAj,AA6];exact ao (by lia)) ?_
 ·obtain⟨a,b,rfl⟩:=hS
  obtain⟨y,_,rfl⟩:=AAU.mp hx
  refine⟨[some (.str y.1),some (.int y.2)],⟨_,_,rfl⟩,λY hY=>?_⟩
  unfold cA
  walk_at "dl"
  exact⟨trivial,hY⟩
 ·rw[AB6]
  have en:(ps.map cA).map (λd=>(match d with | .tup (x::_)=>x | _=>.non))=(ps.map (·.1)).map D.str:=by
   rw[ABG,ABG];rfl
  rw[en]
  have g1:=g0.more (L:=[.lst ((ps.map (·.1)).map D.str)])
  have gw:(B0++[MO.lst ((ps.map (·.1)).map D.str)])[B0.length]?=some (.lst ((ps.map (·.1)).map D.str)):=af
  have wM:=g0.len
  have x8:∀x∈ps.map (·.1),x.length<=8:=λx hx=>by
   obtain⟨y,hy,rfl⟩:=AAU.mp hx
   exact hf.nm y hy
  have xl:(ps.map (·.1)).length=ps.length:=AA6 _
  generalize B0++[MO.lst ((ps.map (·.1)).map D.str)]=B1 at g1 gw
  generalize B0.length=w at gw wM
  generalize ps.map (·.1)=xs at gw x8 xl
  simp only[tI]
  walk_at "dl"
  refine⟨q,_,rfl,g1.hd ql,by rw[AA6];lia,by rw[AA6];lia,λk n k0 k1=>?_⟩
  have g2:=g1.set (n:=n) ql
  have gw2:(B1.set q (.lst [.int n]))[w]?=some (.lst (xs.map .str)):=ar (by lia) gw
  generalize B1.set q (.lst [.int n])=B2 at g2 gw2
  obtain⟨j,hj,ej,_⟩:=eJ (xs:=rs.map er) k0 k1
  rw[AC7]at ej
  have hj':j<rs.length:=by rw[AA6]at hj;exact hj
  have hr:(rs[j]'hj').1∈rs.map (·.1):=ABM (AB4 hj')
  walk_at "dl"
  rw[ej]
  unfold er
  walk_at "dl"
  generalize (rs[j]'hj').1=room at hr
  have ok29:∀{B:Mem},∀x∈sts,okD B 29 x=true:=λ{B} x hx=>by obtain⟨t,z,k,rfl⟩:=hst x hx;rfl
  have six:∀{B:Mem}{y8 y9:Option D},Hl M B q->B[w]?=some (.lst (xs.map .str))->kF (EE M R) [some (.ref q),some (aJ ps rs),some (.ref p),some (.ref s),some (.ref t),some (.int kind),some (.ref w),some (.str room),y8,y9] B:=λg gw=>act_6 ql hf ne hp hh h1 h12 hs' hst sl ht hv g wM gw (by lia) (by lia) x8 h
  have four:∀{E:DEnds}{B:Mem}{y9:Option D},E.rt=bu M R->Hl M B q->B[w]?=some (.lst (xs.map .str))->nV E [some (.ref q),some (aJ ps rs),some (.ref p),some (.ref s),some (.ref t),some (.int kind),some (.ref w),some (.str room),some .non,y9] B:=λ{E B y9} eR g gw=>by
   have five:∀{B:Mem}{u:D},Hl M B q->B[w]?=some (.lst (xs.map .str))->(u=.non\/St u)->nU E [some (.ref q),some (aJ ps rs),some (.ref p),some (.ref s),some (.ref t),some (.int kind),some (.ref w),some (.str room),some u,y9] B:=λ{B u} g gw hu=>by
    simp only[nU]
    walk_at "dl"
    refine⟨q,w,xs,rfl,g.hd ql,by lia,.inl gw,by lia,by lia,x8,λz n=>?_⟩
    have up:Pln 4 u:=by
     rcases hu with rfl | hu
     ·exact .non
     ·exact hu.pl
    refine⟨ao (by lia),?_⟩
    rw[eR]
    exact dE (g.set ql) h (.cons (.str _) (.cons up (.cons (.str _) .nil))) (.mkSay hr hu)
   simp only[nV]
   walk_at "dl"
   refine⟨q,3,rfl,g.hd ql,by decide,by decide,λk n k0 k1=>?_⟩
   have g3:=g.set (n:=n) ql
   have gw3:(B.set q (.lst [.int n]))[w]?=some (.lst (xs.map .str)):=ar (by lia) gw
   generalize B.set q (.lst [.int n])=B3 at g3 gw3
   walk_at "dl"
   by_cases hk:k > 0
   ·rw[dT_ hk]
    obtain⟨okk,ee⟩:=kX (g3.oldL ne.2.1 hs') ok29
    refine cx ⟨AAT _,okk,?_⟩
    rw[ee]
    have g4:=g3.more (L:=[.lst []])
    have gw4:=ad (a:=.lst []) gw3
    generalize B3++[MO.lst []]=B4 at g4 gw4
    cases he:sts.isEmpty with
    | true=>exact bK (five g4 gw4 (.inl rfl))
    | false =>
     refine cx ⟨q,p,s,hs,sts,rfl,g4.hd ql,ne.1,ne.2.1,g4.oldL ne.1 hp,hh,h1,h12,g4.oldL ne.2.1 hs',hst,sl,λd n hd=>?_⟩
     exact five (g4.set ql) (ar (by lia) gw4) (.inr hd)
   ·rw[dF_ hk]
    exact bK (five g3 gw3 (.inl rfl))
  simp only[tH]
  walk_at "dl"
  by_cases h4:kind<4
  ·rw[dT_ h4]
   exact cx (four rfl g2 gw2)
  ·rw[dF_ h4]
   obtain⟨okk,ee⟩:=kX (g2.oldL ne.2.1 hs') ok29
   refine bK ⟨AAT _,okk,?_⟩
   rw[ee]
   have g4:=g2.more (L:=[.lst []])
   have gw4:=ad (a:=.lst []) gw2
   generalize B2++[MO.lst []]=B4 at g4 gw4
   cases he:sts.isEmpty with
   | true =>
    refine cx ?_
    by_cases h7:kind<7
    ·rw[dT_ h7]
     exact cx (four rfl g4 gw4)
    ·rw[dF_ h7]
     exact bK (six g4 gw4)
   | false=>exact bK (six g4 gw4)
theorem Cp(T:Tops P w K mg base):Cal P w K mg base 4 "_law_act" zv qH :=
 Cal.byD (N:=["_law_held","_law_house_here","_law_hands_here","_law_says","_law_done","_law_kind","_law_names_here","_law_room","_law_under","_law_sort"]) T.b T.f_act (by walk_at "sc") zM (by have:=cJ T;have:=ou T;have:=um T;have:=uo T;have:=ul T;have:=zA T;walk_at "dv") Bj
def hW:DSp:=λds M R=>∃(ps:List (Str×Int)) (r:List D),ds=[.tup (.tup (ps.map cA)::r)]/\Few ps/\R (.ref M.length) (M++[.lst (aB ps)])
theorem uF:dY hW oo:=by rintro ds M R ⟨ps,r,rfl,_⟩;rfl
def ms:DTS:=bA (ac 1)
def mv:DTS:=aA (kt (cw (dOp qIx (ac 0) (dC (.int 0)))) (ny 2 (cD (aw 2) (cD (aw 3) nA))) (gc (dMl fR (ac 1) (aa (dLC 1 [2] (cu (aa (ac 3) ah)) (aw 0) se (gG (aa (ac 1) (aa (ac 0) ah)))) ah)))) (ms)
def tD:DTS:=aA (aW (fI ah) 1) (mv)
theorem wc:WpT hW 4 tD:=by
 rintro ds M R ⟨ps,r,rfl,⟨h4,h3⟩,h⟩
 simp only[tD,mv]
 walk_at "dl"
 refine⟨AAT _,λ_=>?_⟩
 have hb:∀qs:List (Str×Int),(∀p∈qs,p∈ps)->qs.length<=4->(aB qs).length<=12:=λqs h1 h2=>by
  have:=kq (ps:=qs) λp hp=>h3 p (h1 p hp)
  lia
 refine gZ (λys S M'=>∃qs rs a b L,ps=qs++rs/\ys=rs.map cA/\M'=M++.lst (aB qs)::L/\S=[some (.tup (.tup (ps.map cA)::r)),some (.ref M.length),a,b]) ?_ ?_ _ _ _ ⟨[],ps,_,_,[],rfl,rfl,rfl,rfl⟩
 ·rintro S M' ⟨qs,rs,a,b,L,e,hq,rfl,rfl⟩
  have:rs=[]:=by cases rs<;>simp_all
  subst this
  rw[ABC]at e
  subst e
  refine⟨trivial,?_⟩
  simp only[ms]
  walk_at "dl"
  exact bu.lst h (AA8 _) fX rS
 ·rintro x xs S M' ⟨qs,rs,a,b,L,e,hq,rfl,rfl⟩ G hG
  cases rs with
  | nil=>cases hq
  | cons p rs =>
   rw[AAf]at hq
   injection hq with e1 e2
   subst e1
   have hp:=h3 p (by rw[e];simp)
   refine⟨trivial,?_⟩
   unfold cA
   walk_at "dl"
   refine⟨trivial,⟨_,.inl fX⟩,⟨by lia,by lia⟩,?_⟩
   refine bU (λk=>.tup [.str p.1,k]) (λS=>∃a,S=[a,some (.str p.1)]) trivial _ _ _ (λk hk S hS=>?_) ⟨_,rfl⟩ ?_ ?_
   ·obtain⟨a,rfl⟩:=hS
    refine⟨[some k,some (.str p.1)],⟨_,rfl⟩,λY hY=>?_⟩
    walk_at "dl"
    exact⟨ao (by lia),hY⟩
   ·simp only[AAj,fi]
    exact ao (by lia)
   ·rw[AB6]
    have eh:(nN 0 p.2.toNat).map (λk=>D.tup [.str p.1,k])=cN p:=rfl
    rw[eh]
    have l1:=hb qs (λz hz=>by rw[e];exact AAd _ hz) (by have:=congrArg AC1 e;rw[AAA]at this;lia)
    have l2:(cN p).length<=3:=by rw[eQ];lia
    rw[AAs,AD9]
    refine⟨_,cN p,fX,?_,?_,ao (by lia),?_⟩
    ·rw[<-AD9,<-AAs];exact af
    ·rw[AAA,AAI];lia
    ·rw[fP]
     refine Fgt.now (hG _ _ ⟨qs++[p],rs,_,_,L++[.lst (cN p)],by rw[AAs];exact e,e2,?_,rfl⟩)
     rw[show aB (qs++[p])=aB qs++cN p by simp[aB]]
theorem wP(T:Tops P w K mg base):Cal P w K mg base 1 "_law_hands" oo hW :=
 Cal.byD (N:=["_law_house_here","_law_found","_law_name_here","_law_many"]) T.b T.f_hands (by walk_at "sc") uF (by walk_at "dv") wc
structure LogS(ps:List (Str×Int))(rs:List (Str×List Str))(log:List D):Prop where
 dk:∀d∈log,bh ps rs d
 up:log.Pairwise λa b=>enc eqN (stD a)<enc eqN (stD b)
 len:log.length<=60
def qG:DSp:=λds M R=>∃(ps:List (Str×Int)) (rs:List (Str×List Str)) (p tq:Nat) (cs:List Int),ds=[.ref p,aJ ps rs]/\HouseF ps rs/\am M p (cs.map .int)/\p≠tq/\cs.length<=60/\M[tq]?=some (.tb (AA1 "_law_log") false)/\∀log,LogS ps rs log->R (.tup log) (M.set tq (.tb (AA1 "_law_log") true))
theorem zK:dY qG zt:=by rintro ds M R ⟨ps,rs,p,tq,cs,rfl,_⟩;rfl
noncomputable def Bq:D->Int
 | .tup (.int t::_)=>t
 | _=>0
noncomputable def hdO:D->D
 | .tup (_::h::_)=>h
 | _=>.non
theorem nb(hf:HouseF ps rs):Few ps/\1<=(aB ps).length/\(aB ps).length<=12:=by
 have few:Few ps:=⟨hf.len.2,λq hq=>⟨by have:=hf.many q hq;lia,(hf.many q hq).2⟩⟩
 have hln:=kq few.2
 refine⟨few,?_,by have:=few.1;lia⟩
 match ps,hf with
 | [],hf=>have:=hf.len.1;simp at this
 | p::ps,hf =>
  have:=(hf.many p (by simp)).1
  rw[aB,List.flatMap_cons,AAA,eQ]
  lia
structure GenD(ps:List (Str×Int))(rs:List (Str×List Str))(deeds sts:List D)(las cnt:List (D×D))(n:Nat):Prop where
 dk:∀d∈deeds,bh ps rs d
 nd:(deeds.map stD).Nodup
 la:∀d∈deeds,∃v:Int,aY las (hdO d)=some (.int v)/\Bq d<=v
 lv:∀x∈las,∃v:Int,x.2=.int v/\0<=v
 cv:∀x∈cnt,∃v:Int,x.2=.int v/\0<=v/\v<=n
 so:∀x∈sts,St x
 dl:deeds.length<=n
 sl:sts.length<=n
 ll:las.length<=n
 cl:cnt.length<=n
theorem GenD.next{ps:List (Str×Int)}{rs:List (Str×List Str)}{deeds sts sts':List D}{las cnt:List (D×D)}{n:Nat}{t num:Int}{z x:Str}{k c:Int}{dl:List D}(g:GenD ps rs deeds sts las cnt n)(hx:D.tup [.str z,.int k]∈aB ps)(t1:1<=t)(tv:∀v:Int,aY las (.tup [.str z,.int k])=some (.int v)->v<t)(c0:0<=c)(c1:c<=n)(hp:jB 4 dl)(ha:ActK rs x dl)
  (s1:∀x∈sts',St x) (s2:sts'.length<=n+1) :
  GenD ps rs (deeds++[.tup [.int t,.tup [.str z,.int k],.int num,.tup (.str x::dl)]]) sts' (eK las (.tup [.str z,.int k]) (.int t)) (eK cnt (.tup [.str z,.int k]) (.int (c+1))) (n+1):=by
 have h1:=g.dl
 have h2:=g.ll
 have h3:=g.cl
 refine⟨λd hd=>?_,?_,λd hd=>?_,λy hy=>?_,λy hy=>?_,s1,by rw[AAA,AAX];lia,s2,?_,?_⟩
 ·rcases AAl.mp hd with hd | hd
  ·exact g.dk d hd
  ·rw[show d=_ from by simpa using hd]
   exact⟨_,_,_,_,_,_,rfl,t1,hx,hp,ha⟩
 ·rw[AAq]
  refine ACR.mpr ⟨g.nd,by simp,λa ha b hb e=>?_⟩
  obtain⟨d,hd,rfl⟩:=AAU.mp ha
  rw[show b=_ from by simpa using hb]at e
  obtain⟨t',z',k',num',x',ds',rfl,_⟩:=g.dk d hd
  obtain⟨v,e1,e2⟩:=g.la _ hd
  simp only[stD,D.tup.injEq,ADO,D.int.injEq,D.str.injEq,and_true]at e
  obtain⟨rfl,rfl,rfl⟩:=e
  have:=tv v e1
  simp only[Bq]at e2
  lia
 ·rcases AAl.mp hd with hd | hd
  ·obtain⟨v,e1,e2⟩:=g.la d hd
   by_cases e:hdO d=.tup [.str z,.int k]
   ·rw[e]at e1 ⊢
    exact⟨t,fE,by have:=tv v e1;lia⟩
   ·exact⟨v,by rw[fF e];exact e1,e2⟩
  ·rw[show d=_ from by simpa using hd]
   exact⟨t,fE,Int.le_refl _⟩
 ·rcases gQ hy with rfl | hy
  ·exact⟨t,rfl,by lia⟩
  ·exact g.lv y hy
 ·rcases gQ hy with rfl | hy
  ·exact⟨c+1,rfl,by lia,by lia⟩
  ·obtain⟨v,e1,e2,e3⟩:=g.cv y hy
   exact⟨v,e1,e2,by lia⟩
 ·have:=kJ (kvs:=las) (k:=.tup [.str z,.int k]) (d:=.int t)
  lia
 ·have:=kJ (kvs:=cnt) (k:=.tup [.str z,.int k]) (d:=.int (c+1))
  lia
structure LgD(M B:Mem)(hs deeds sts:List D)(las cnt:List (D×D)):Prop where
 pre:M <+: B
 hs:B[M.length]?=some (.lst hs)
 las:B[M.length+1]?=some (.dkt las)
 cnt:B[M.length+2]?=some (.dkt cnt)
 sts:B[M.length+3]?=some (.lst sts)
 deeds:B[M.length+4]?=some (.lst deeds)
section
variable{M B:Mem}{hs deeds sts:List D}{las cnt:List (D×D)}{q:Nat}{x:MO}
theorem LgD.more(g:LgD M B hs deeds sts las cnt):LgD M (B++L) hs deeds sts las cnt :=
 ⟨g.pre.trans (AAb _ _),bz (AAb _ _) g.hs,bz (AAb _ _) g.las,bz (AAb _ _) g.cnt,bz (AAb _ _) g.sts,bz (AAb _ _) g.deeds⟩
theorem LgD.lt(g:LgD M B hs deeds sts las cnt):M.length+5<=B.length:=aG g.deeds
theorem LgD.set(g:LgD M B hs deeds sts las cnt)(h:M.length+5<=q):LgD M (B.set q x) hs deeds sts las cnt :=
 ⟨bv g.pre (by lia),ar (by lia) g.hs,ar (by lia) g.las,ar (by lia) g.cnt,ar (by lia) g.sts,ar (by lia) g.deeds⟩
theorem LgD.setD(g:LgD M B hs deeds sts las cnt):LgD M (B.set (M.length+4) (.lst ds')) hs ds' sts las cnt :=
 ⟨bv g.pre (by lia),ar (by lia) g.hs,ar (by lia) g.las,ar (by lia) g.cnt,ar (by lia) g.sts,bx g.deeds⟩
theorem LgD.setS(g:LgD M B hs deeds sts las cnt):LgD M (B.set (M.length+3) (.lst ds')) hs deeds ds' las cnt :=
 ⟨bv g.pre (by lia),ar (by lia) g.hs,ar (by lia) g.las,ar (by lia) g.cnt,bx g.sts,ar (by lia) g.deeds⟩
theorem LgD.setC(g:LgD M B hs deeds sts las cnt):LgD M (B.set (M.length+2) (.dkt kvs)) hs deeds sts las kvs :=
 ⟨bv g.pre (by lia),ar (by lia) g.hs,ar (by lia) g.las,bx g.cnt,ar (by lia) g.sts,ar (by lia) g.deeds⟩
theorem LgD.setL(g:LgD M B hs deeds sts las cnt):LgD M (B.set (M.length+1) (.dkt kvs)) hs deeds sts kvs cnt :=
 ⟨bv g.pre (by lia),ar (by lia) g.hs,bx g.las,ar (by lia) g.cnt,ar (by lia) g.sts,ar (by lia) g.deeds⟩
end
theorem Ai{kvs:List (D×D)}(h:∀x∈kvs,∃v:Int,x.2=.int v/\0<=v):∃vs:List Int,kvs.map (·.2)=vs.map D.int:=by
 induction kvs with
 | nil=>exact⟨[],rfl⟩
 | cons p kvs ih =>
  obtain⟨v,e,_⟩:=h p (by simp)
  obtain⟨vs,e2⟩:=ih λx hx=>h x (AA9 _ hx)
  exact⟨v::vs,by rw[AAf,AAf,e,e2]⟩
def pP:DTS:=bA (dCB fq (aa (gY "_law_log" ["_law_deed"] (dSl (ac 0) bT (fZ (dC (.int 2)))) (aa (ac 6) ah)) ah))
def pQ:DTS:=dIf (aE (dOp qEq (dOp qIx (ac 12) (dC (.int 0))) (dC (.str "say")))) (gc (dMl bQ (ac 5) (aa (gG (aa (ac 11) (aa (ac 9) ah))) ah))) aZ
def pR:DTS:=aA (sf (ac 4) (ac 9) (dOp aO (dMt gy (ac 4) (aa (ac 9) (aa (dC (.int 0)) ah))) (dC (.int 1)))) (pQ)
def pS:DTS:=aA (sf (ac 3) (ac 9) (ac 11)) (pR)
def pT:DTS:=aA (gc (dMl bQ (ac 6) (aa (gG (aa (ac 11) (aa (ac 9) (aa (dMt gy (ac 4) (aa (ac 9) (aa (dC (.int 0)) ah))) (aa (ac 12) ah))))) ah))) (pS)
def kE:DTS:=aA (aW (dCB qH (aa (ac 8) (aa (ac 1) (aa (ac 2) (aa (ac 5) (aa (ac 4) ah)))))) 12) (pT)
def sO:DTS:=aA (dIf (aE (dOp qEq (ac 10) (dC (.int 3)))) (aW (dOp aO (dC (.int 1)) (dCB tX (aa (dOp aO (fI (aa (dC (.int 0)) ah)) (fJ (ac 3))) ah))) 11) aZ) (kE)
def sP:DTS:=aA (aW (dOp aO (dOp aO (dMt gy (ac 3) (aa (ac 9) (aa (dC (.int 0)) ah))) (dC (.int 1))) (dCB aq (aa (ac 8) (aa (dOp qIx (fI (aa (dC (.int 3)) (aa (dC (.int 6)) (aa (dOp zb (dC (.int 10)) (dC (.int 7))) (aa (dC (.int 1)) ah))))) (ac 10)) ah)))) 11) (sO)
def sQ:DTS:=aA (aW (dCB aq (aa (ac 8) (aa (dC (.int 4)) ah))) 10) (sP)
def nS:DTS:=aA (aW (dOp qIx (ac 2) (dCB aq (aa (ac 8) (aa (dCB lP (aa (ac 2) ah)) ah)))) 9) (sQ)
def sR:DTS:=aA (kt (cw (ac 0)) (aw 7) (aA (aW (dCB bE (aa (ac 7) ah)) 8) (nS))) (pP)
def sS:DTS:=aA (aW (fI ah) 6) (sR)
def sT:DTS:=aA (aW (fI ah) 5) (sS)
def sU:DTS:=aA (aW (si) 4) (sT)
def sV:DTS:=aA (aW (si) 3) (sU)
def Br:DTS:=aA (aW (dCB hW (aa (ac 1) ah)) 2) (sV)
theorem yn{M B:Mem}{E:DEnds}{deeds sts hs:List D}{las cnt:List (D×D)}{n q:Nat}{t way:Int}{z:Str}{k:Int}{ps:List (Str×Int)}{rs:List (Str×List Str)}{y0 y7 y12:Option D}(g:LgD M B hs deeds sts las cnt)(G:GenD ps rs deeds sts las cnt n)(hf:HouseF ps rs)(hh:∀x∈hs,Hd x)(h1:1<=hs.length)(h12:hs.length<=12)(n60:n<60)(hd:HdP B q)(qM:M.length+5<=q)(hx:D.tup [.str z,.int k]∈aB ps)(t1:1<=t)(tv:∀v:Int,aY las (.tup [.str z,.int k])=some (.int v)->v<t)
  (hE:∀deeds' sts' las' cnt' B' y,LgD M B' hs deeds' sts' las' cnt'->GenD ps rs deeds' sts' las' cnt' (n+1)->E.nx [y0,some (aJ ps rs),some (.ref M.length),some (.ref (M.length+1)),some (.ref (M.length+2)),some (.ref (M.length+3)),some (.ref (M.length+4)),y7,some (.ref q),some (.tup [.str z,.int k]),some (.int way),some (.int t),y] B') :
  kE E [y0,some (aJ ps rs),some (.ref M.length),some (.ref (M.length+1)),some (.ref (M.length+2)),some (.ref (M.length+3)),some (.ref (M.length+4)),y7,some (.ref q),some (.tup [.str z,.int k]),some (.int way),some (.int t),y12] B:=by
 have dl:=G.dl
 have sl:=G.sl
 have ll:=G.ll
 have cl:=G.cl
 simp only[kE]
 walk_at "dl"
 refine⟨q,_,_,_,ps,rs,hs,sts,cnt,rfl,hd,hf,⟨by lia,by lia,by lia⟩,.inl g.hs,hh,h1,h12,.inl g.sts,G.so,by lia,g.cnt,λx hx=>by obtain⟨v,e1,e2,e3⟩:=G.cv x hx;exact⟨v,e1,e2,by lia⟩,λx dl' n' hp ha=>?_⟩
 have g1:=g.set (x:=.lst [.int n']) qM
 generalize B.set q (.lst [.int n'])=B1 at g1
 have hg:∃c:Int,(aY cnt (.tup [.str z,.int k])).getD (.int 0)=.int c/\0<=c/\c<=n:=by
  cases e:aY cnt (.tup [.str z,.int k]) with
  | none=>exact⟨0,rfl,by decide,by lia⟩
  | some d=>exact G.cv _ (cO e)
 obtain⟨c,ec,c0,c1⟩:=hg
 simp only[pT]
 walk_at "dl"
 refine⟨⟨_,.inl g1.deeds⟩,⟨_,g1.cnt⟩,_,g1.cnt,rfl,?_⟩
 rw[ec]
 refine⟨ao (by lia),_,g1.deeds,aF (by lia),?_⟩
 have g2:=g1.setD (ds':=deeds++[.tup [.int t,.tup [.str z,.int k],.int c,.tup (.str x::dl')]])
 generalize B1.set (M.length+4) _=B2 at g2
 simp only[pS]
 walk_at "dl"
 refine⟨_,g2.las,rfl,aF (by lia),?_⟩
 have g3:=g2.setL (kvs:=eK las (.tup [.str z,.int k]) (.int t))
 generalize B2.set (M.length+1) _=B3 at g3
 simp only[pR]
 walk_at "dl"
 refine⟨⟨_,g3.cnt⟩,_,g3.cnt,rfl,?_⟩
 rw[ec]
 refine⟨_,g3.cnt,rfl,aF (by lia),?_⟩
 have g4:=g3.setC (kvs:=eK cnt (.tup [.str z,.int k]) (.int (c+1)))
 generalize B3.set (M.length+2) _=B4 at g4
 simp only[pQ]
 walk_at "dl"
 refine⟨⟨aI,aI⟩,?_⟩
 generalize eqD B4 eqN (.str x) (.str (AA1 "say"))=bs
 cases bs with
 | true =>
  refine cx ⟨⟨_,.inl g4.sts⟩,ao (by lia),_,g4.sts,aF (by lia),?_⟩
  refine hE _ _ _ _ _ _ g4.setS (G.next hx t1 tv c0 c1 hp ha (λy hy=>?_) (by rw[AAA,AAX];lia))
  rcases AAl.mp hy with hy | hy
  ·exact G.so y hy
  ·rw[show y=_ from by simpa using hy];exact⟨_,_,_,rfl⟩
 | false=>exact bK (hE _ _ _ _ _ _ g4 (G.next hx t1 tv c0 c1 hp ha G.so (by lia)))
theorem wZ{M B:Mem}{E:DEnds}{deeds sts:List D}{las cnt:List (D×D)}{n:Nat}{cell:Int}{ps:List (Str×Int)}{rs:List (Str×List Str)}{y0 y8 y9 y10 y11 y12:Option D}(g:LgD M B (aB ps) deeds sts las cnt)(G:GenD ps rs deeds sts las cnt n)(hf:HouseF ps rs)(n60:n<60)
  (hE:∀deeds' sts' las' cnt' B' a b c d y,LgD M B' (aB ps) deeds' sts' las' cnt'->GenD ps rs deeds' sts' las' cnt' (n+1)->E.nx [y0,some (aJ ps rs),some (.ref M.length),some (.ref (M.length+1)),some (.ref (M.length+2)),some (.ref (M.length+3)),some (.ref (M.length+4)),some (.int cell),a,b,c,d,y] B') :
  (aA (aW (dCB bE (aa (ac 7) ah)) 8) (nS)) E [y0,some (aJ ps rs),some (.ref M.length),some (.ref (M.length+1)),some (.ref (M.length+2)),some (.ref (M.length+3)),some (.ref (M.length+4)),some (.int cell),y8,y9,y10,y11,y12] B:=by
 obtain⟨few,n1,n12⟩:=nb hf
 have hh:∀x∈aB ps,Hd x:=qr
 have ll:=G.ll
 walk_at "dl"
 refine⟨cell,rfl,λn'=>?_⟩
 have hd0:HdP (B++[MO.lst [.int n']]) B.length:=⟨n',af⟩
 have g0:=g.more (L:=[.lst [.int n']])
 have qM:=g.lt
 generalize B++[MO.lst [D.int n']]=B0 at g0 hd0
 generalize B.length=q at hd0 qM
 have ql:=hd0.lt
 have hl0:=hd0.start
 have keep:∀{C:Mem},Hl B0 C q->LgD M C (aB ps) deeds sts las cnt:=λ{C} h=>by
  obtain⟨n2,L,rfl⟩:=h
  exact(g0.set (x:=.lst [.int n2]) qM).more
 simp only[nS]
 walk_at "dl"
 refine⟨_,.inl g0.hs,q,_,rfl,hd0,by lia,by lia,λi m i0 i1=>?_⟩
 have h1:=hl0.set (n:=m) ql
 generalize B0.set q (.lst [.int m])=B1 at h1
 obtain⟨j,hj,ej,_⟩:=eJ (xs:=aB ps) i0 i1
 have hx:=AB4 hj
 refine⟨_,.inl (keep h1).hs,?_⟩
 rw[ej]
 obtain⟨z,k,ez⟩:=hh _ hx
 rw[ez]at hx ⊢
 simp only[sQ]
 walk_at "dl"
 refine⟨q,4,rfl,h1.hd ql,by decide,by decide,λway m w0 w1=>?_⟩
 have h2:=h1.set (n:=m) ql
 generalize B1.set q (.lst [.int m])=B2 at h2
 have hl:∃v:Int,(aY las (.tup [.str z,.int k])).getD (.int 0)=.int v/\0<=v/\∀u:Int,aY las (.tup [.str z,.int k])=some (.int u)->u=v:=by
  cases e:aY las (.tup [.str z,.int k]) with
  | none=>exact⟨0,rfl,by decide,λu w=>by cases w⟩
  | some d =>
   obtain⟨v,ev,v0⟩:=G.lv _ (cO e)
   exact⟨v,ev,v0,λu w=>by rw[show d=.int v from ev]at w;cases w;rfl⟩
 obtain⟨v,ev,v0,vu⟩:=hl
 simp only[sP]
 walk_at "dl"
 refine⟨⟨_,(keep h2).las⟩,_,(keep h2).las,rfl,?_⟩
 rw[ev]
 have ex:∃m:Int,atI [D.int 3,.int 6,.int (10 ^ Int.toNat 7),.int 1] way=some (.int m)/\0<m/\m<100000000000:=by
  have:way=0\/way=1\/way=2\/way=3:=by lia
  rcases this with rfl | rfl | rfl | rfl
  ·exact⟨_,az (j:=0) rfl,by decide,by decide⟩
  ·exact⟨_,az (j:=1) rfl,by decide,by decide⟩
  ·exact⟨_,az (j:=2) rfl,by decide,by decide⟩
  ·exact⟨_,az (j:=3) rfl,by decide,by decide⟩
 obtain⟨m0,em,mp,ml⟩:=ex
 refine⟨⟨by decide,by decide,by decide⟩,ao (by lia),_,aX,?_⟩
 rw[em]
 refine⟨q,m0,rfl,(h2.more).hd ql,mp,ml,λa m a0 a1=>?_⟩
 have h3:=(h2.more (L:=[.lst [D.int 3,.int 6,.int (10 ^ Int.toNat 7),.int 1]])).set (n:=m) ql
 generalize (B2++[MO.lst [D.int 3,.int 6,.int (10 ^ Int.toNat 7),.int 1]]).set q (.lst [.int m])=B3 at h3
 simp only[sO]
 walk_at "dl"
 refine⟨⟨rfl,rfl⟩,?_⟩
 generalize eqD B3 eqN (.int way) (.int 3)=b3
 cases b3 with
 | false =>
  refine bK ?_
  exact yn (keep h3) G hf hh n1 n12 n60 (h3.hd ql) qM hx (by lia) (λu w=>by rw[vu u w];lia) λd' s' l' c' B' y g' G'=>hE _ _ _ _ _ _ _ _ _ _ g' G'
 | true =>
  obtain⟨vs,evs⟩:=Ai G.lv
  have vl:vs.length=las.length:=by have:=congrArg AC1 evs;rw[AA6,AA6]at this;exact this.symm
  have h4:=h3.more (L:=[.lst [.int 0]])
  have g4:=keep h4
  have e0:(B3++[MO.lst [D.int 0]])[B3.length]?=some (.lst [.int 0]):=af
  generalize B3++[MO.lst [D.int 0]]=B4 at h4 g4 e0
  generalize B3.length=r4 at e0
  refine cx ⟨ao (by lia),_,g4.las,?_⟩
  rw[evs]
  have h5:=h4.more (L:=[.lst (vs.map .int)])
  have e5:=ad (a:=.lst (vs.map .int)) e0
  have e6:(B4++[MO.lst (vs.map .int)])[B4.length]?=some (.lst (vs.map .int)):=af
  generalize B4++[MO.lst (vs.map .int)]=B5 at h5 e5 e6
  generalize B4.length=r5 at e6
  refine⟨_,_,e5,e6,ao (by rw[AA6,AAX];lia),?_⟩
  have h6:=h5.more (L:=[.lst ([.int 0]++vs.map .int)])
  have e7:(B5++[MO.lst ([D.int 0]++vs.map .int)])[B5.length]?=some (.lst ((0::vs).map .int)):=af
  generalize B5++[MO.lst ([D.int 0]++vs.map .int)]=B6 at h6 e7
  refine⟨0::vs,.inl e7,by simp,λmx mm mall=>?_⟩
  have mx0:=mall 0 (by simp)
  refine yn (keep h6) G hf hh n1 n12 n60 (h6.hd ql) qM hx (by lia) (λu w=>?_) λd' s' l' c' B' y g' G'=>hE _ _ _ _ _ _ _ _ _ _ g' G'
  have hu:D.int u∈las.map (·.2):=ABM (f:=(·.2)) (cO w)
  rw[evs]at hu
  obtain⟨u',hu',eu⟩:=AAU.mp hu
  cases eu
  have:=mall u (AA9 _ hu')
  lia
theorem Bh:WpT qG 13 Br:=by
 rintro ds M R ⟨ps,rs,p,tq,cs,rfl,hf,hp,pt,cl,ht,h⟩
 obtain⟨few,n1,n12⟩:=nb hf
 simp only[Br,aJ]
 walk_at "dl"
 refine⟨ps,_,rfl,few,?_⟩
 simp only[sV,sU,sT,sS]
 walk_at "dl"
 refine⟨AAT _,AAT _,?_⟩
 have e1:(M++[MO.lst (aB ps)]).length=M.length+1:=by simp
 have e2:(M++[MO.lst (aB ps)]++[MO.dkt []]).length=M.length+2:=by simp
 have e3:(M++[MO.lst (aB ps)]++[MO.dkt []]++[MO.dkt []]).length=M.length+3:=by simp
 have e4:(M++[MO.lst (aB ps)]++[MO.dkt []]++[MO.dkt []]++[MO.lst []]).length=M.length+4:=by simp
 rw[e1,e2,e3,e4]
 have g0:LgD M (M++[MO.lst (aB ps)]++[MO.dkt []]++[MO.dkt []]++[MO.lst []]++[MO.lst []]) (aB ps) [] [] [] []:=by
  refine⟨(((fS.trans fS).trans fS).trans fS).trans fS,ad (ad (ad (ad af))),?_,?_,?_,?_⟩
  ·rw[<-e1];exact ad (ad (ad af))
  ·rw[<-e2];exact ad (ad af)
  ·rw[<-e3];exact ad af
  ·rw[<-e4];exact af
 generalize M++[MO.lst (aB ps)]++[MO.dkt []]++[MO.dkt []]++[MO.lst []]++[MO.lst []]=B0 at g0
 simp only[sR]
 walk_at "dl"
 refine⟨_,oB g0.pre hp,λ_=>?_⟩
 refine aU (λi S M'=>∃(deeds sts:List D) (las cnt:List (D×D)) (a b c d e f:Option D),LgD M M' (aB ps) deeds sts las cnt/\GenD ps rs deeds sts las cnt i/\S=[some (.ref p),some (aJ ps rs),some (.ref M.length),some (.ref (M.length+1)),some (.ref (M.length+2)),some (.ref (M.length+3)),some (.ref (M.length+4)),a,b,c,d,e,f]) ?_ ?_ ⟨[],[],[],[],_,_,_,_,_,_,g0,⟨(λ_ z=>nomatch z),.nil,(λ_ z=>nomatch z),(λ_ z=>nomatch z),(λ_ z=>nomatch z),(λ_ z=>nomatch z),AA8 _,AA8 _,AA8 _,AA8 _⟩,rfl⟩
 ·rintro S M' ⟨deeds,sts,las,cnt,a,b,c,d,e,f,g,G,rfl⟩
  rw[AA6]at G
  have dl:=G.dl
  refine⟨oB g.pre hp,?_⟩
  simp only[pP]
  walk_at "dl"
  have tl:=aG ht
  have gd:(M'.set tq (.tb (AA1 "_law_log") true))[M.length+4]?=some (.lst deeds):=ar (by lia) g.deeds
  have hS:∀x∈deeds.map stD,St x:=λx hx=>by
   obtain⟨d,hd,rfl⟩:=AAU.mp hx
   exact(G.dk d hd).st
  refine⟨tq,deeds,stD,bz g.pre ht,.inr ⟨_,rfl,.inl gd⟩,λd hd=>?_,(tK hS (by rw[AA6];lia)).g,λys hy hr=>?_⟩
  ·obtain⟨t,z,k,num,x,ds,rfl,_⟩:=G.dk d hd
   walk_at "dl"
   exact .inl ⟨rfl,rfl⟩
  ·have ml:M'.length=(M'.set tq (.tb (AA1 "_law_log") true)).length:=(AAp ..).symm
   refine⟨ys,by rw[ml];exact aX,?_⟩
   have hk:∀d∈ys,bh ps rs d:=λd hd=>G.dk d (hy.mem_iff.mp hd)
   have nd:(ys.map stD).Nodup:=(hy.map _).nodup_iff.mpr G.nd
   have ls:LogS ps rs ys:=by
    refine⟨hk,?_,by rw[hy.length_eq];lia⟩
    have n2:ys.Pairwise λa b=>stD a≠stD b:=List.pairwise_map.mp (ABe.mp nd)
    refine(List.Pairwise.and_mem.mp (hr.and n2)).imp λ{a b} ⟨ha,hb,q1,q2⟩=>?_
    have sa:=(hk a ha).st
    have sb:=(hk b hb).st
    have oa:okP eqN (stD a)=true:=by obtain⟨t,z,k,e⟩:=sa;rw[e];rfl
    have ob:okP eqN (stD b)=true:=by obtain⟨t,z,k,e⟩:=sb;rw[e];rfl
    rw[oA ob oa (sb.cm sa)]at q1
    have q3:=of_decide_eq_false q1
    refine AAw λq4=>q2 ?_
    exact Av (M:=[]) oa ob (sa.cm sb) (List.le_antisymm (List.not_lt.mp q3) (List.not_lt.mp q4))
   obtain⟨L,hL⟩:=g.pre
   have eB:M'.set tq (.tb (AA1 "_law_log") true)=M.set tq (.tb (AA1 "_law_log") true)++L:=by rw[<-hL,List.set_append_left _ _ tl]
   rw[eB]
   refine bu.chg (Chg.set .refl .nil) (h ys ls) (.tup (bh.bels hk)) ?_
   rw[AAs]
   exact AAb _ _
 ·rintro i y S M' hy ⟨deeds,sts,las,cnt,a,b,c,d,e,f,g,G,rfl⟩ K hK
  rw[AAV]at hy
  obtain⟨cell,hc,rfl⟩:=ABh.mp hy
  have hi:=(AA7.mp hc).1
  refine⟨oB g.pre hp,?_⟩
  simp only[aw,List.set_cons_zero,List.set_cons_succ]
  exact wZ g G hf (by lia) λd' s' l' c' B' a b c d y g' G'=>Fgt.now (hK _ _ ⟨d',s',l',c',_,_,_,_,_,_,g',G',rfl⟩)
theorem Co(T:Tops P w K mg base):Cal P w K mg base 8 "_law_log" zt qG :=
 Cal.byL (N:=["_law_cells","_law_house_here","_law_hands_here","_law_last","_law_done","_law_says","_law_deeds","_law_cell","_law_held","_law_hand","_law_way","_law_time","_law_act_here"]) T.b T.f_log (by walk_at "sc") zK (by have:=T.bm;have:=iW T;have:=cJ T;have:=Cp T;have:=wP T;walk_at "dvl") Bh
def dU:DSp:=λds M R=>∃(ps:List (Str×Int)) (rs:List (Str×List Str)) (log:List D) (r:Str),ds=[aJ ps rs,.tup log,.str r]/\(∀d∈log,bh ps rs d)/\log.length<64/\r∉rs.map (·.1)/\R (.ref M.length) (M++[.lst [.bl true,.bl false]])
theorem oK:dY dU iN:=by rintro ds M R ⟨ps,rs,log,r,rfl,_⟩;rfl
def ii:DTS:=bA (fI (aa (qC T_ "NoRoom" (ac 3)) (aa (qC T_ "NoMessage" (ac 3)) ah)))
def ij:DTS:=aA (dIf (dOr (aE (dOp qIn (dC (.bl true)) (ac 5))) (dOr (aE (qC T_ "Gap" (ac 3))) (Bb (aE (dIsV T_ (ac 3)))))) (bA (dC (.str "another"))) aZ) (ii)
def ik:DTS:=aA (aW (dOp aO (ac 5) (fI (aa (qC T_ "Strange" (ac 3)) (aa (qC T_ "NoRow" (ac 3)) (aa (qC T_ "Clash" (ac 3)) ah))))) 5) (ij)
def il:DTS:=aA (aW (dOp aO (ac 5) (fI (aa (qC T_ "NoName" (ac 3)) (aa (qC T_ "NoWhat" (ac 3)) (aa (qC T_ "NoDeed" (ac 3)) ah))))) 5) (ik)
def io:DTS:=aA (aW (fI (aa (qC T_ "NoHouse" (ac 3)) (aa (qC T_ "NotYours" (ac 3)) (aa (qC T_ "NoSaying" (ac 3)) ah)))) 5) (il)
def ip:DTS:=aA (dIf (aE (dOp qIs (ac 3) (dC .non))) (bA (dC (.str "none"))) aZ) (io)
def iq:DTS:=aA (dTry T_ "TalkError" 4 (yG (xCB cE (aa (ac 0) (aa (ac 1) (aa (ac 2) ah))))) (aW (ac 4) 3)) (ip)
def lY:DTS:=aA (aW (dC .non) 3) (iq)
theorem qL:WpT dU 6 lY:=by
 rintro ds M R ⟨ps,rs,log,r,rfl,hd,hl,hr,h⟩
 simp only[lY,iq]
 walk_at "dl"
 refine⟨ps,rs,log,r,rfl,hd,hl,λ_=>⟨by decide +kernel,?_⟩,λhc=>absurd hc hr⟩
 have g:(M++[MO.exc (AA1 "NoRoom")])[M.length]?=some (.exc (AA1 "NoRoom")):=af
 have p:M <+: M++[MO.exc (AA1 "NoRoom")]:=fS
 generalize M++[MO.exc (AA1 "NoRoom")]=B at g p
 simp only[ip]
 walk_at "dl"
 simp only[io]
 walk_at "dl"
 have e1:ju T_ (AA1 "NoRoom") (AA1 "NoHouse")=some false:=by decide +kernel
 have e2:ju T_ (AA1 "NoRoom") (AA1 "NotYours")=some false:=by decide +kernel
 have e3:ju T_ (AA1 "NoRoom") (AA1 "NoSaying")=some false:=by decide +kernel
 simp only[g,e1,e2,e3]
 refine⟨ao (by decide),?_⟩
 have g2:=ad (a:=MO.lst [.bl false,.bl false,.bl false]) g
 have l2:(B++[MO.lst [.bl false,.bl false,.bl false]])[B.length]?=some (.lst [.bl false,.bl false,.bl false]):=af
 have p2:=p.trans (fS (mo:=MO.lst [.bl false,.bl false,.bl false]))
 generalize B++[MO.lst [.bl false,.bl false,.bl false]]=B2 at g2 l2 p2
 generalize B.length=q2 at l2
 simp only[il]
 walk_at "dl"
 have e1:ju T_ (AA1 "NoRoom") (AA1 "NoName")=some false:=by decide +kernel
 have e2:ju T_ (AA1 "NoRoom") (AA1 "NoWhat")=some false:=by decide +kernel
 have e3:ju T_ (AA1 "NoRoom") (AA1 "NoDeed")=some false:=by decide +kernel
 simp only[g2,e1,e2,e3]
 refine⟨ao (by decide),_,_,ad l2,af,ao (by decide),?_⟩
 have g3:=ad (a:=MO.lst [.bl false,.bl false,.bl false,.bl false,.bl false,.bl false]) (ad (a:=MO.lst [.bl false,.bl false,.bl false]) g2)
 have l3:(B2++[MO.lst [.bl false,.bl false,.bl false]]++[MO.lst [.bl false,.bl false,.bl false,.bl false,.bl false,.bl false]])[(B2++[MO.lst [.bl false,.bl false,.bl false]]).length]?=some (.lst [.bl false,.bl false,.bl false,.bl false,.bl false,.bl false]):=af
 have p3:=(p2.trans (fS (mo:=MO.lst [.bl false,.bl false,.bl false]))).trans (fS (mo:=MO.lst [.bl false,.bl false,.bl false,.bl false,.bl false,.bl false]))
 simp only[AD9,AB6]
 generalize B2++[MO.lst [.bl false,.bl false,.bl false]]++[MO.lst [.bl false,.bl false,.bl false,.bl false,.bl false,.bl false]]=B3 at g3 l3 p3
 generalize (B2++[MO.lst [.bl false,.bl false,.bl false]]).length=q3 at l3
 simp only[ik]
 walk_at "dl"
 have e1:ju T_ (AA1 "NoRoom") (AA1 "Strange")=some false:=by decide +kernel
 have e2:ju T_ (AA1 "NoRoom") (AA1 "NoRow")=some false:=by decide +kernel
 have e3:ju T_ (AA1 "NoRoom") (AA1 "Clash")=some false:=by decide +kernel
 simp only[g3,e1,e2,e3]
 refine⟨ao (by decide),_,_,ad l3,af,ao (by decide),?_⟩
 simp only[AD9,AB6]
 have g4:=ad (a:=MO.lst [.bl false,.bl false,.bl false,.bl false,.bl false,.bl false,.bl false,.bl false,.bl false]) (ad (a:=MO.lst [.bl false,.bl false,.bl false]) g3)
 have l4:(B3++[MO.lst [.bl false,.bl false,.bl false]]++[MO.lst [.bl false,.bl false,.bl false,.bl false,.bl false,.bl false,.bl false,.bl false,.bl false]])[(B3++[MO.lst [.bl false,.bl false,.bl false]]).length]?=some (.lst [.bl false,.bl false,.bl false,.bl false,.bl false,.bl false,.bl false,.bl false,.bl false]):=af
 have p4:=(p3.trans (fS (mo:=MO.lst [.bl false,.bl false,.bl false]))).trans (fS (mo:=MO.lst [.bl false,.bl false,.bl false,.bl false,.bl false,.bl false,.bl false,.bl false,.bl false]))
 generalize B3++[MO.lst [.bl false,.bl false,.bl false]]++[MO.lst [.bl false,.bl false,.bl false,.bl false,.bl false,.bl false,.bl false,.bl false,.bl false]]=B4 at g4 l4 p4
 generalize (B3++[MO.lst [.bl false,.bl false,.bl false]]).length=q4 at l4
 simp only[ij]
 walk_at "dl"
 refine⟨_,.inl l4,⟨rfl,rfl⟩,?_⟩
 have e1:ju T_ (AA1 "NoRoom") (AA1 "Gap")=some false:=by decide +kernel
 have e2:(List.lookup (AA1 "NoRoom") T_).isSome=true:=by decide +kernel
 have e3:inD B4 (.bl true) [.bl false,.bl false,.bl false,.bl false,.bl false,.bl false,.bl false,.bl false,.bl false]=false:=rfl
 rw[e3]
 simp only[g4,e1,e2]
 refine bK (bK ⟨trivial,bK ?_⟩)
 simp only[ii]
 walk_at "dl"
 have e1:ju T_ (AA1 "NoRoom") (AA1 "NoRoom")=some true:=by decide +kernel
 have e2:ju T_ (AA1 "NoRoom") (AA1 "NoMessage")=some false:=by decide +kernel
 simp only[g4,e1,e2]
 exact⟨ao (by decide),bu.chgL .refl h p4.length_le af (p4.trans fS) (.cons (.bl _) (.cons (.bl _) .nil))⟩
theorem rh(T:Tops P w K mg base):Cal P w K mg base 6 "_law_refused" iN dU :=
 Cal.byD (N:=["_law_house_here","_law_log_here","_law_thing","_law_error","e","_law_some"]) T.b T.f_refused (by walk_at "sc") oK (by have:=kh T;have:=T.cl;walk_at "dv") qL
theorem zL:dY (rK (AA1 "_law_log")) zu:=by rintro ds M R ⟨ns,mo,_,_,rfl,_⟩;rfl
theorem tU(hi:am M i xs)(hj:am M j xs)(h:∀x∈xs,okD M 29 x=true/\eqD M 29 x x=true):(okD M eqN (.ref i)=true/\okD M eqN (.ref j)=true)/\eqD M eqN (.ref i) (.ref j)=true :=
 ⟨⟨kT (n:=29) hi λx hx=>(h x hx).1,kT (n:=29) hj λx hx=>(h x hx).1⟩,(qw (n:=29) hi hj).trans (lC λx hx=>(h x hx).2)⟩
def sW:DTS:=bA (dC (.bl true))
def sX:DTS:=aA (kt (cw (ac 3)) (aw 5) (dIf (Bb (aE (dCB BK (aa (dCB (prN cE) (aa (ac 1) (aa (ac 2) (aa (ac 5) ah)))) (aa (dC (.ty "list")) ah))))) (bA (dC (.bl false))) aZ)) (sW)
def sY:DTS:=aA (kt (cw (ac 4)) (aw 6) (dIf (Bc (aE (dOp ka (ac 6) (ac 3))) (aE (dOp qNe (ac 6) (dC (.str ""))))) (kt (cu (aa (dC (.int 2)) ah)) (aw 7) (dIf (aE (dOp qNe (dCB dU (aa (ac 1) (aa (ac 2) (aa (ac 6) ah)))) (fI (aa (dC (.bl true)) (aa (dC (.bl false)) ah))))) (bA (dC (.bl false))) aZ)) aZ)) (sX)
def sZ:DTS:=aA (kt (cw (ac 3)) (aw 5) (aW (dOp aO (ac 4) (fI (aa (dSl (ac 5) bT (fZ (dUn BJ (dC (.int 1))))) (aa (dSl (dOp aO (ac 5) (dC (.str "a"))) bT (fZ (dC (.int 8)))) (aa (dOp aO (dSl (ac 5) (fZ (dC (.int 1))) bT) (dC (.str "z"))) ah))))) 4)) (sY)
def tj:DTS:=aA (aW (dOp aO (ac 4) (dLC 2 [] (cw (dOp qIx (ac 1) (dC (.int 0)))) (ny 2 (cD (aw 0) (cD (aw 1) nA))) se (ac 0))) 4) (sZ)
def tu:DTS:=aA (aW (fI (aa (dCB dG (aa (dCB bE (aa (dCB bM (aa (ac 0) (aa (dC (.int 1)) ah))) ah)) ah)) (aa (dCB dG (aa (dCB bE (aa (dCB bM (aa (ac 0) (aa (dC (.int 2)) ah))) ah)) ah)) ah))) 4) (tj)
def nT:DTS:=aA (jn 2 [] (cw (dOp qIx (ac 1) (dC (.int 1)))) (ny 2 (cD (aw 0) (cD (aw 1) nA))) se (ac 0) 3) (tu)
def tw:DTS:=aA (aW (dCB qG (aa (dSl (ac 0) (fZ (dC (.int 3))) (fZ (dC (.int 63)))) (aa (ac 1) ah))) 2) (nT)
def Bs:DTS:=aA (aW (dCB hV (aa (dCB bM (aa (ac 0) (aa (dC (.int 0)) ah))) ah)) 1) (tw)
theorem Bi:WpT (rK (AA1 "_law_log")) 8 Bs:=by
 rintro ds M R ⟨ns,mo,h63,⟨hmo,hml⟩,rfl,rfl,h⟩
 have hL0:am [mo,.tb (AA1 "_law_log") false] 0 (ns.map D.int):=by
  have:=iZ (M:=[mo,.tb (AA1 "_law_log") false]) (n:=0) (mo:=mo) rfl hml
  rw[hmo]at this
  exact this
 simp only[Bs]
 walk_at "dl"
 refine⟨0,ns,0,rfl,hL0,_,rfl,λps rs hf r8=>?_⟩
 simp only[tw]
 walk_at "dl"
 refine⟨_,hL0,?_⟩
 have ec:∃cs:List Int,cutD (ns.map D.int) (some 3) (some 63)=cs.map D.int/\cs.length<=60:=by
  unfold cutD
  refine⟨(ns.drop (HT.sIx (ns.map D.int).length 0 (some 3))).take (HT.sIx (ns.map D.int).length (ns.map D.int).length (some 63)-HT.sIx (ns.map D.int).length 0 (some 3)),by rw[List.map_take,List.map_drop],?_⟩
  rw[AAz]
  unfold HT.sIx
  simp
  lia
 obtain⟨cs,ec,cl⟩:=ec
 rw[ec]
 refine⟨ps,rs,2,1,cs,rfl,hf,.inl rfl,by decide,cl,rfl,λlog hl=>?_⟩
 have l60:=hl.len
 have hL:am ([mo,.tb (AA1 "_law_log") true,.lst (cs.map D.int)]:Mem) 0 (ns.map D.int):=by
  have:=iZ (M:=[mo,.tb (AA1 "_law_log") true,.lst (cs.map D.int)]) (n:=0) (mo:=mo) rfl hml
  rw[hmo]at this
  exact this
 show nT _ _ ([mo,.tb (AA1 "_law_log") true,.lst (cs.map D.int)]:Mem)
 generalize ([mo,.tb (AA1 "_law_log") true,.lst (cs.map D.int)]:Mem)=B0 at hL
 simp only[nT,aJ]
 walk_at "dl"
 intro _
 refine bU jh (λS=>∃a b,S=[a,b]) trivial _ _ _ (λx hx S hS=>?_) ⟨_,_,rfl⟩ (by rw[AAj,AA6];exact ao (by have:=hf.rl;lia)) ?_
 ·obtain⟨a,b,rfl⟩:=hS
  obtain⟨y,_,rfl⟩:=AAU.mp hx
  refine⟨[some (.str y.1),some (.tup (y.2.map .str))],⟨_,_,rfl⟩,λY hY=>?_⟩
  unfold er
  walk_at "dl"
  exact⟨trivial,hY⟩
 have e:(rs.map er).map jh=(rs.map (·.1)).map .str:=by rw[ABG,ABG];rfl
 rw[AB6,e]
 have g3:(B0++[MO.lst ((rs.map (·.1)).map D.str)])[B0.length]?=some (.lst ((rs.map (·.1)).map D.str)):=af
 replace hL:=am.more hL [MO.lst ((rs.map (·.1)).map D.str)]
 generalize B0++[MO.lst ((rs.map (·.1)).map D.str)]=B1 at g3 hL
 generalize B0.length=q3 at g3
 simp only[tu]
 walk_at "dl"
 refine⟨0,ns,1,rfl,hL,_,rfl,λn0=>?_⟩
 refine⟨_,rfl,⟨n0,af⟩,λz1 n1 hz1=>?_⟩
 rw[fP]
 refine⟨0,ns,2,rfl,am.more hL _,_,rfl,λn2=>?_⟩
 refine⟨_,rfl,⟨n2,af⟩,λz2 n3 hz2=>⟨ao (by decide),?_⟩⟩
 rw[fP]
 replace g3:=ad (a:=MO.lst [.str z1,.str z2]) (ad (a:=MO.lst [.int n3]) (ad (a:=MO.lst [.int n1]) g3))
 have g4:(B1++[MO.lst [.int n1]]++[MO.lst [.int n3]]++[MO.lst [.str z1,.str z2]])[(B1++[MO.lst [.int n1]]++[MO.lst [.int n3]]).length]?=some (.lst ([z1,z2].map D.str)):=af
 have nl:[z1,z2].length<=2:=AA8 _
 generalize B1++[MO.lst [.int n1]]++[MO.lst [.int n3]]++[MO.lst [.str z1,.str z2]]=B2 at g3 g4
 generalize (B1++[MO.lst [.int n1]]++[MO.lst [.int n3]]).length=q4 at g4
 generalize [z1,z2]=xs at g4 nl
 simp only[tj]
 walk_at "dl"
 intro _
 refine bU jh (λS=>∃a b,S=[a,b]) trivial _ _ _ (λx hx S hS=>?_) ⟨_,_,rfl⟩ (by rw[AAj,AA6];exact ao (by have:=hf.len;lia)) ?_
 ·obtain⟨a,b,rfl⟩:=hS
  obtain⟨y,_,rfl⟩:=AAU.mp hx
  refine⟨[some (.str y.1),some (.int y.2)],⟨_,_,rfl⟩,λY hY=>?_⟩
  unfold cA
  walk_at "dl"
  exact⟨trivial,hY⟩
 have e:(ps.map cA).map jh=(ps.map (·.1)).map .str:=by rw[ABG,ABG];rfl
 rw[AB6,e]
 have pl:=hf.len
 refine⟨_,_,ad g4,af,ao (by rw[AA6,AA6,AA6];lia),?_⟩
 rw[<-AAq]
 replace g3:=ad (a:=MO.lst ((xs++ps.map (·.1)).map D.str)) (ad (a:=MO.lst ((ps.map (·.1)).map D.str)) g3)
 replace g4:(B2++[MO.lst ((ps.map (·.1)).map D.str)]++[MO.lst ((xs++ps.map (·.1)).map D.str)])[(B2++[MO.lst ((ps.map (·.1)).map D.str)]).length]?=some (.lst ((xs++ps.map (·.1)).map D.str)):=af
 have nl2:(xs++ps.map (·.1)).length<=6:=by rw[AAA,AA6];lia
 generalize B2++[MO.lst ((ps.map (·.1)).map D.str)]++[MO.lst ((xs++ps.map (·.1)).map D.str)]=B3 at g3 g4
 generalize (B2++[MO.lst ((ps.map (·.1)).map D.str)]).length=q4 at g4
 generalize xs++ps.map (·.1)=ys at g4 nl2
 simp only[sZ]
 walk_at "dl"
 have rl:=hf.rl
 refine⟨_,.inl g3,λ_=>?_⟩
 refine aU (λi S M=>∃q4 ys a,S=[some (.ref 0),some (.tup [.tup (ps.map cA),.tup (rs.map er)]),some (.tup log),some (.ref q3),some (.ref q4),a,none,none]/\M[q3]?=some (.lst ((rs.map (·.1)).map D.str))/\M[q4]?=some (.lst (ys.map D.str))/\ys.length<=6+3*i) ?_ ?_ ⟨q4,ys,_,rfl,g3,g4,by lia⟩
 case refine_2 =>
  rintro i x S M hx ⟨q4,ys,a,rfl,g3,g4,nl⟩ L hK
  have hi:i<4:=by have:=(AA7.mp hx).1;rw[AA6,AA6]at this;lia
  obtain⟨y,hy,rfl⟩:=AAU.mp (AAe hx)
  obtain⟨r,hr,rfl⟩:=AAU.mp hy
  refine⟨.inl g3,?_⟩
  walk_at "dl"
  have r8:=r8 r hr
  refine⟨ao (by lia),?_⟩
  have s1:=Txt.slice_le r.1 (some 1) none
  have la:(AA1 "a").length=1:=rfl
  have lz:(AA1 "z").length=1:=rfl
  have ap:=bo (a:=r.1) (b:=AA1 "a")
  refine⟨ao (by lia),ao (by lia),ao (by lia),ao (by lia),ao (by decide),_,_,ad g4,af,ao (by rw[AA6];simp only[AAI,AAj];lia),?_⟩
  refine Fgt.now (hK _ _ ⟨_,ys++[AD0 r.1 none (some (-1)),AD0 (r.1++AA1 "a") none (some 8),AD0 r.1 (some 1) none++AA1 "z"],_,rfl,ad (ad g3),?_,by rw[AAA];simp only[AAI,AAj];lia⟩)
  rw[AAq]
  exact af
 rintro S M ⟨q4,ys,a,rfl,g3,g4,nl⟩
 refine⟨.inl g3,?_⟩
 have nl:ys.length<=100:=by rw[AA6,AA6]at nl;lia
 simp only[sY]
 walk_at "dl"
 refine⟨_,.inl g4,λ_=>?_⟩
 refine aU (λ_ S M=>∃a b c,S=[some (.ref 0),some (.tup [.tup (ps.map cA),.tup (rs.map er)]),some (.tup log),some (.ref q3),some (.ref q4),a,b,c]/\M[q3]?=some (.lst ((rs.map (·.1)).map D.str))/\M[q4]?=some (.lst (ys.map D.str))) ?_ ?_ ⟨_,_,_,rfl,g3,g4⟩
 case refine_2 =>
  rintro i x S M hx ⟨a,b,c,rfl,g3,g4⟩ L hK
  obtain⟨y,hy,rfl⟩:=AAU.mp (AAe hx)
  refine⟨.inl g4,?_⟩
  walk_at "dl"
  refine⟨_,.inl g3,⟨aI,kG⟩,?_⟩
  rw[lu]
  by_cases hm:y∈rs.map (·.1)
  ·rw[dT_ hm]
   exact bK (Fgt.now (hK _ _ ⟨_,_,_,rfl,g3,g4⟩))
  rw[dF_ hm]
  refine cx ⟨⟨aI,aI⟩,?_⟩
  rw[bG]
  cases hy0:(y==AA1 "") with
  | true=>exact bK (Fgt.now (hK _ _ ⟨_,_,_,rfl,g3,g4⟩))
  | false =>
   refine cx ⟨⟨by decide,by decide⟩,?_⟩
   refine aU (λ_ S M=>∃c,S=[some (.ref 0),some (.tup [.tup (ps.map cA),.tup (rs.map er)]),some (.tup log),some (.ref q3),some (.ref q4),a,some (.str y),c]/\M[q3]?=some (.lst ((rs.map (·.1)).map D.str))/\M[q4]?=some (.lst (ys.map D.str))) ?_ ?_ ⟨_,rfl,g3,g4⟩
   ·rintro S M ⟨c,rfl,g3,g4⟩
    exact⟨trivial,Fgt.now (hK _ _ ⟨_,_,_,rfl,g3,g4⟩)⟩
   ·rintro i x S M hx ⟨c,rfl,g3,g4⟩ L' hK'
    refine⟨trivial,?_⟩
    walk_at "dl"
    refine⟨ps,rs,log,y,rfl,hl.dk,by lia,hm,ao (by decide),?_⟩
    have rf:=tU (M:=M++[MO.lst [.bl true,.bl false]]++[MO.lst [.bl true,.bl false]]) (i:=M.length) (j:=(M++[MO.lst [.bl true,.bl false]]).length) (xs:=[.bl true,.bl false]) (.inl (ad af)) aX λx hx=>by
     rcases AAK.mp hx with rfl | hx
     ·exact⟨rfl,rfl⟩
     ·rw[ACG.mp hx];exact⟨rfl,rfl⟩
    refine⟨rf.1,?_⟩
    rw[rf.2]
    exact bK (Fgt.now (hK' _ _ ⟨_,rfl,ad (ad g3),ad (ad g4)⟩))
 rintro S M ⟨a,b,c,rfl,g3,g4⟩
 refine⟨.inl g4,?_⟩
 simp only[sX]
 walk_at "dl"
 refine⟨_,.inl g3,λ_=>?_⟩
 refine aU (λ_ S M=>∃a b c,S=[some (.ref 0),some (.tup [.tup (ps.map cA),.tup (rs.map er)]),some (.tup log),some (.ref q3),some (.ref q4),a,b,c]/\M[q3]?=some (.lst ((rs.map (·.1)).map D.str))) ?_ ?_ ⟨_,_,_,rfl,g3⟩
 case refine_2 =>
  rintro i x S M hx ⟨a,b,c,rfl,g3⟩ L hK
  obtain⟨y,hy,rfl⟩:=AAU.mp (AAe hx)
  refine⟨.inl g3,?_⟩
  walk_at "dl"
  refine⟨ps,rs,log,y,rfl,hl.dk,by lia,λz=>absurd hy z,λ_ xs=>?_⟩
  have e:tyD (M++[MO.lst xs]) (.ref M.length) = "list":=by
   show (match (M++[MO.lst xs])[M.length]? with | some mo=>if mo.isL=true then "list" else "?" | none=>"?") = "list"
   rw[show (M++[MO.lst xs])[M.length]?=some (.lst xs)from af]
   rfl
  show (tyD (M++[MO.lst xs]) (.ref M.length)∈yM/\_)/\if (!xv (tyD (M++[MO.lst xs]) (.ref M.length)) "list")=true then _ else _
  rw[e]
  exact⟨⟨by decide,by decide⟩,bK (Fgt.now (hK _ _ ⟨_,_,_,rfl,ad g3⟩))⟩
 rintro S M ⟨a,b,c,rfl,g3⟩
 refine⟨.inl g3,?_⟩
 simp only[sW]
 walk_at "dl"
 exact .inl (h _)
theorem ok_law(T:Tops P w K mg base)(F:Fun K "law" "law" (top 51) f fd):FnOk P w K mg base CX0 9 f fd zu (spL K (rK "_law_log")) :=
 xE (N:=["_law_script","_law_house_here","_law_log_here","_law_rooms","_law_names_here","_law_room","_law_name_here","_law_turn"]) T.b F (by walk_at "sc") zL (by have:=(kh T).nev;have:=rA T;have:=iW T;have:=ou T;have:=wO T;have:=Co T;have:=rh T;walk_at "dv") Bi
end
end LW
namespace PySem.W.Fast
def tw1013973902779183521:=Nat
def tw10305186253518277656:=Nat
def tw10399425209278002860:=Nat
def tw1043328765899103954:=Nat
def tw10449617823185406870:=Nat
def tw10460195334245518948:=Nat
def tw1047047380103281302:=Nat
def tw10582162038642348268:=Nat
def tw10685339712556241507:=Nat
def tw10694891209215241894:=Nat
def tw10863811391685986027:=Nat
def tw10866015162352723179:=Nat
def tw10867227585155820076:=Nat
def tw1088107809557327913:=Nat
def tw10906934253286800852:=Nat
def tw11048784227413599739:=Nat
def tw11071941593671463406:=Nat
def tw11095607369467717753:=Nat
def tw11168549006937458257:=Nat
def tw11224107373853620475:=Nat
def tw11328776112473016029:=Nat
def tw11463181727222630208:=Nat
def tw11562966144013820379:=Nat
def tw11712584929524192272:=Nat
def tw11748565518432135914:=Nat
def tw11864203330837550170:=Nat
def tw11902827960976172743:=Nat
def tw11903842527101289458:=Nat
def tw12025694907337857628:=Nat
def tw12049685803391634232:=Nat
def tw12090631871738702847:=Nat
def tw12124113477674495921:=Nat
def tw12395275476154346719:=Nat
def tw12534745952897321688:=Nat
def tw12538786364607637147:=Nat
def tw12643628825184829016:=Nat
def tw12790779225596288372:=Nat
def tw12792082592414594571:=Nat
def tw1285327868385375932:=Nat
def tw12950783497870630661:=Nat
def tw1295266222319422163:=Nat
def tw12967386240649553945:=Nat
def tw13003799464066529905:=Nat
def tw13005092041051918955:=Nat
def tw1308023388680648007:=Nat
def tw1310294528387572180:=Nat
def tw13107795458743713623:=Nat
def tw13167304778887874135:=Nat
def tw13335334105554965099:=Nat
def tw13413931469570969768:=Nat
def tw13447630346660064937:=Nat
def tw13505386755114347066:=Nat
def tw13517002578758923794:=Nat
def tw13534250310700706328:=Nat
def tw13616417023800618677:=Nat
def tw13647403604553503635:=Nat
def tw13654784984645586578:=Nat
def tw13699543243088522916:=Nat
def tw13724568905885655010:=Nat
def tw13734737706771254928:=Nat
def tw13735308624112323047:=Nat
def tw13827175940234416467:=Nat
def tw13829762645433442025:=Nat
def tw13926249924712388905:=Nat
def tw14149673093682561293:=Nat
def tw14180707048465270889:=Nat
def tw14265102300682319005:=Nat
def tw14587330813359645903:=Nat
def tw14721502619206001478:=Nat
def tw14729077785815878389:=Nat
def tw14741388026764998262:=Nat
def tw14763826248878738702:=Nat
def tw14809479747424873651:=Nat
def tw14891187680910355744:=Nat
def tw14927769182581082377:=Nat
def tw14939392578900589106:=Nat
def tw14976394357653776957:=Nat
def tw15016175256617254624:=Nat
def tw15036726198803519574:=Nat
def tw15075142795134789796:=Nat
def tw15117778477045224115:=Nat
def tw15188792726115139516:=Nat
def tw15253245563913927245:=Nat
def tw15286047584951420291:=Nat
def tw15324148366266108873:=Nat
def tw15416644954082451253:=Nat
def tw15567579536342533342:=Nat
def tw15623696252850126237:=Nat
def tw15647267268944940686:=Nat
def tw15810778177585179210:=Nat
def tw15858166156595306839:=Nat
def tw15919203386658253641:=Nat
def tw15932453940425149594:=Nat
def tw16095966095649186327:=Nat
def tw16228188914396988381:=Nat
def tw16343582918534383959:=Nat
def tw16399865896041504234:=Nat
def tw16526063458649378294:=Nat
def tw16661829125609489260:=Nat
def tw16778615233075600001:=Nat
def tw16796718984037595365:=Nat
def tw16802370350559323485:=Nat
def tw16912006579901439481:=Nat
def tw16977490659591349724:=Nat
def tw16995724173366668308:=Nat
def tw17130804777395225557:=Nat
def tw17158341410564953565:=Nat
def tw17168123737551415409:=Nat
def tw17327843198249188848:=Nat
def tw17388988219208435816:=Nat
def tw17394682686547976705:=Nat
def tw17437396476186546806:=Nat
def tw17553750491320128331:=Nat
def tw17619010145681625784:=Nat
def tw17731941118230347913:=Nat
def tw17756344377544880838:=Nat
def tw17785026872902981363:=Nat
def tw17807336066751176543:=Nat
def tw17945577572408214325:=Nat
def tw17968149079742831248:=Nat
def tw1801190097534555986:=Nat
def tw18085785007083822317:=Nat
def tw18108429543215221719:=Nat
def tw18138133310072132256:=Nat
def tw18251755120434381649:=Nat
def tw18288528340930506937:=Nat
def tw18306519832678565325:=Nat
def tw18397821273336540446:=Nat
def tw1840331434014314013:=Nat
def tw1935640992237264102:=Nat
def tw1996584886738986582:=Nat
def tw2011697785070735319:=Nat
def tw204869535694384050:=Nat
def tw2056465590072829015:=Nat
def tw2069417239662374296:=Nat
def tw2192749923149261327:=Nat
def tw2281630121378146521:=Nat
def tw2283172377338404025:=Nat
def tw2344887259266496227:=Nat
def tw242476900549234955:=Nat
def tw2426479073278784376:=Nat
def tw2433001674347276781:=Nat
def tw2459314287043262390:=Nat
def tw2489090446690510288:=Nat
def tw2547613397589950373:=Nat
def tw2711392568153259114:=Nat
def tw2771315449050277382:=Nat
def tw2814619968401326444:=Nat
def tw2860719920731320248:=Nat
def tw2865954038107896299:=Nat
def tw2960116105869423811:=Nat
def tw3094578918874690798:=Nat
def tw3136233711850989606:=Nat
def tw3152373800011061362:=Nat
def tw3179139758001014813:=Nat
def tw3220765898539205487:=Nat
def tw3223794995041601498:=Nat
def tw3297255151884129638:=Nat
def tw3314090675817121899:=Nat
def tw3481841172301902498:=Nat
def tw3507723428799239993:=Nat
def tw365907444384028772:=Nat
def tw3727997020654295405:=Nat
def tw3758744366739494554:=Nat
def tw3763018603399703785:=Nat
def tw3833760437441060005:=Nat
def tw3836813909893044098:=Nat
def tw3840231195590734501:=Nat
def tw385861701755453931:=Nat
def tw3956385821772171107:=Nat
def tw4053096615732764987:=Nat
def tw4069046203268185205:=Nat
def tw4105616196898889933:=Nat
def tw4109722555395381909:=Nat
def tw4142973396247104932:=Nat
def tw4253552953380341162:=Nat
def tw4314419454151370768:=Nat
def tw4366813225761409016:=Nat
def tw4574551948615601:=Nat
def tw4618034969388738155:=Nat
def tw4722388329210225382:=Nat
def tw4973429950670924927:=Nat
def tw5038405000721362562:=Nat
def tw5043640434877908728:=Nat
def tw5216339494623125198:=Nat
def tw5347406147402378033:=Nat
def tw5366933562017603576:=Nat
def tw5370141730312591814:=Nat
def tw5457211193338362779:=Nat
def tw5478940827611589185:=Nat
def tw5512070358940523117:=Nat
def tw5563401403022005043:=Nat
def tw5636531955038744523:=Nat
def tw5685303513408031340:=Nat
def tw5686549741545801715:=Nat
def tw5741442934613827634:=Nat
def tw583661055500105163:=Nat
def tw6083587471330807689:=Nat
def tw6105845475769635864:=Nat
def tw6211934650245992670:=Nat
def tw6247694325993387447:=Nat
def tw6363836098013085523:=Nat
def tw6367122528387978739:=Nat
def tw6370405682171974529:=Nat
def tw6431776256973229906:=Nat
def tw6489962839334942342:=Nat
def tw6522841038451689788:=Nat
def tw6672445240666270156:=Nat
def tw6731226568125109316:=Nat
def tw6767485904581283279:=Nat
def tw684459195175654008:=Nat
def tw6883465475590072740:=Nat
def tw7019388934976168578:=Nat
def tw7027890656557241173:=Nat
def tw7084105215173401252:=Nat
def tw7091802559084303396:=Nat
def tw7334079192310012045:=Nat
def tw7499850129658113755:=Nat
def tw7584342314523505163:=Nat
def tw7661626106160918813:=Nat
def tw7713701461665137433:=Nat
def tw7729373899941187292:=Nat
def tw785006850197259844:=Nat
def tw7872122497788227229:=Nat
def tw7879473287277644678:=Nat
def tw8003914361624544895:=Nat
def tw8065626632648844466:=Nat
def tw8122645021208225070:=Nat
def tw831148231581943341:=Nat
def tw8520956401861750827:=Nat
def tw8541880388041727831:=Nat
def tw854920692962227993:=Nat
def tw8565694020595928819:=Nat
def tw8612848888300934395:=Nat
def tw8856375250683723326:=Nat
def tw8875130388542684639:=Nat
def tw8904057782753901034:=Nat
def tw8987375687782009658:=Nat
def tw902081015954791424:=Nat
def tw9045908437040754941:=Nat
def tw9098915014046691488:=Nat
def tw9225656113464027817:=Nat
def tw9454680693560955736:=Nat
def tw9492381443167044890:=Nat
def tw9579920565157552087:=Nat
def tw9685194945414817487:=Nat
def tw9820111639553267524:=Nat
def tw9834763729347937958:=Nat
def tw9917141382782292119:=Nat
def tw9987665519266034507:=Nat
end PySem.W.Fast
theorem L2.us1{P:List ACb->Prop}(h:∀a0,P [a0]):∀us:List ACb,us.length=1->P us
 | [a0],_=>h a0
theorem L2.us2{P:List ACb->Prop}(h:∀a0 a1,P [a0,a1]):∀us:List ACb,us.length=2->P us
 | [a0,a1],_=>h a0 a1
theorem L2.us3{P:List ACb->Prop}(h:∀a0 a1 a2,P [a0,a1,a2]):∀us:List ACb,us.length=3->P us
 | [a0,a1,a2],_=>h a0 a1 a2
theorem L2.us4{P:List ACb->Prop}(h:∀a0 a1 a2 a3,P [a0,a1,a2,a3]):∀us:List ACb,us.length=4->P us
 | [a0,a1,a2,a3],_=>h a0 a1 a2 a3
theorem L2.us5{P:List ACb->Prop}(h:∀a0 a1 a2 a3 a4,P [a0,a1,a2,a3,a4]):∀us:List ACb,us.length=5->P us
 | [a0,a1,a2,a3,a4],_=>h a0 a1 a2 a3 a4
local macro_rules | `(tactic| walk_at "fk")=>`(tactic| ((case a=>k_is);(case l=>k_is);(case c=>k_is);(case k=>k_is)))
local macro_rules | `(tactic| walk_at "f1")=>`(tactic| (refine' L2.fnat_mk (by assumption) (by assumption) ?a ?l ?c ?k (λ_ _ _ _ _ _=>L2.us1 (λ_=>rfl));walk_at "fk"))
local macro_rules | `(tactic| walk_at "f2")=>`(tactic| (refine' L2.fnat_mk (by assumption) (by assumption) ?a ?l ?c ?k (λ_ _ _ _ _ _=>L2.us2 (λ_ _=>rfl));walk_at "fk"))
local macro_rules | `(tactic| walk_at "f3")=>`(tactic| (refine' L2.fnat_mk (by assumption) (by assumption) ?a ?l ?c ?k (λ_ _ _ _ _ _=>L2.us3 (λ_ _ _=>rfl));walk_at "fk"))
local macro_rules | `(tactic| walk_at "f4")=>`(tactic| (refine' L2.fnat_mk (by assumption) (by assumption) ?a ?l ?c ?k (λ_ _ _ _ _ _=>L2.us4 (λ_ _ _ _=>rfl));walk_at "fk"))
local macro_rules | `(tactic| walk_at "f5")=>`(tactic| (refine' L2.fnat_mk (by assumption) (by assumption) ?a ?l ?c ?k (λ_ _ _ _ _ _=>L2.us5 (λ_ _ _ _ _=>rfl));walk_at "fk"))
open PySem PySem.W PyProof.Rows
set_option maxRecDepth 100000 in
set_option maxHeartbeats 0 in
theorem PySem.Challenge.cw_talkmarks_k24_no_such_room_holds : PySem.Challenge.rw_talkmarks_k24_no_such_room.Holds := by
 w_on; o_law; k_head; (case hw=>w_witness2)
 k_fill
 refine L2.law_walkL (z:="_law_log") (l:=PySem.Challenge.rw_talkmarks_k24_no_such_room) (k:=9) (st:=LW.top 51) (x:="_law_script") rfl rfl rfl ⟨rfl,by decide,by decide⟩ (fun w h Y=>PySem.W.km_in_of Y) (fun _=>by kernel_rfl) rfl (fun _=>rfl) ?F (fun _ _ _ _ _ _ _=>rfl)
 case F =>
  intro w mg h KX G
  have T:∀ P base,L2.BMain mg base→LW.Tops P w (L2.KOf KX) mg base:=by
   intro P base bm
   dsimp only [L2.KOf]
   constructor
   ·walk_at "f1"
   ·walk_at "f2"
   ·walk_at "f2"
   ·walk_at "f1"
   ·walk_at "f1"
   ·walk_at "f2"
   ·walk_at "f1"
   ·walk_at "f1"
   ·walk_at "f3"
   ·walk_at "f2"
   ·walk_at "f2"
   ·walk_at "f3"
   ·walk_at "f2"
   ·walk_at "f2"
   ·walk_at "f2"
   ·walk_at "f1"
   ·walk_at "f3"
   ·walk_at "f2"
   ·walk_at "f1"
   ·walk_at "f2"
   ·walk_at "f1"
   ·walk_at "f2"
   ·walk_at "f1"
   ·walk_at "f2"
   ·walk_at "f3"
   ·walk_at "f3"
   ·walk_at "f4"
   ·walk_at "f5"
   ·walk_at "f1"
   ·walk_at "f2"
   ·walk_at "f3"
   ·walk_at "f1"
   ·unfold LW.B_ LW.C_
    iterate 10 (refine' L2.TopB.b ?tq ?_; (case tq=>refine' PySem.W.mg_none_of KX G ?tr; (case tr=>k_is)))
    exact .nil
   ·kernel_rfl
   ·exact bm
  refine ⟨?_,fun base f fd bm F=>LW.ok_law (T _ base bm) F⟩
  try dsimp only [L2.KOf]
  walk_at "f1"
