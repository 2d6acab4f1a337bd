import PyProof.Rows.All
import Wide.All
import OpenK.AllK
import Wide.FinOn
import Lean
import PyProof.EqAt
import PyProof.EqKinds
import PyProof.TupleCall
import PyProof.CompFree
import PyProof.NeKinds
import KE.KSortTup
import KE.KRevSl
import KE.KDictSum
import KE.KEqDict
import PyProof.Conv_int_bool
import PyProof.AttrMissHeap
import KE.KLam
import KE.KRevIter
import KE.KTryMore
import PyProof.ExcArgsOwn
import PySem.Challenge.RW_talkmarks_k22_the_message_of_a_stamp
open PySem renaming wpAny_bind->AA0,wpAny_pure->AA2,Spec->AAC,wpAny_holding->AAd,wpAny_newObj_type->AAh,wpAny_call_entry->AAj,wpAny_mono->AAp,wpAny_callSpecial?_slot->AAt,wpAny_setState_of->AB7,mem_of_lookup->ABM,codeAny_builtin->ABQ,wpAny_fieldsOf->ABR,wpAny_Call_Name_kw->ABW,wpAny_ite_split->ABX,sizeLine_eq->ABj,eqIsQuiet_byValue->ABn,wpAny_attempt->ABp,wpAny_setField->ABq,wpAny_specialOf->ABu,wpAny_forIn_list->AC0,wpAny_typeNameOfWhole_keyiter->AC1,wpAny_typeNameOfWhole_valiter->AC2,wpAny_askSetting->ACF,wpAny_isInstance->ACG,wpAny_truthy_bool->ACM,wpAny_dictEntries->ACQ,wpAny_typeNameOf_keyiter->ACR,wpAny_typeNameOf_valiter->ACS,codeAny_mono->ACT,wpAny_typeOf->ACV,wpAny_setEntries_of->ACY,Value->ACa,wpAny_seqItems->ACd,wpAny_callSpecialIfBoundUnlessNone?_slot->ACk,wpAny_execs_nil->ACl,builtinLookup_eq_fast->ACp,wpAny_notOrdered_dict->ACr,wpAny_dictEpoch->ACt,wpAny_rule->ACx,wpAny_newList->ACz,plainId_quiet->AD1,codeAny_call_builtin->AD6,wpAny_pyHash_int->ADD,wpAny_pyHash_str->ADE,wpAny_passesOwn->ADP,wpAny_loadPart'->ADR,wpAny_pyIter_slot->ADk,atKey_none_of_get->ADm,wpAny_isOneOf_valiter->ADu,wpAny_execs_cons->ADv,typeLookup_type->AE6
open PySem.Str renaming ofString->AA1
open PySem.W renaming Frag->AA3,kitOne->AB9,kas_desc->ABz,findIn->AC5,keepIn->AC6,nsIn->ACI,fnOf->ACU,kas_rev->AD5,kas_place->AD9,hideAll->ADN,excIn->ADc,cellsFrom_some->ADd,kas_asc->ADh,kas_sort->ADp,kas_descPart->ADr,of_hideAll->AEC,codeIn->AEF,exmOne->AEJ,methodObj->AEK,mg_of->AEP
open PySem.Heap renaming get?_push_of_some->AA4,get?_push_size->AAB,lt_size->AAF,get?_update_self->AAc,size_push->ABN,get?_update_other->ABg,get?_update_ne->ABm,SameBut->AC4,MadeExcOf->AEI
open List renaming getElem?_eq_getElem->AA5,length_map->AA6,getElem?_eq_some_iff->AA7,mem_cons_of_mem->AA9,size_toArray->AAD,length_append->AAE,mem_cons_self->AAG,mem_append_right->AAI,getElem?_append_left->AAJ,length_cons->AAL,mem_cons->AAM,getD_eq_getElem?_getD->AAR,getElem?_map->AAT,all_eq_true->AAU,getElem?_set_self->AAV,prefix_append->AAY,mem_map->AAZ,getElem?_append_right->AAa,getElem?_set_ne->AAb,map_cons->AAe,length_singleton->AAg,mem_append->AAk,range->AAn,mem_of_getElem?->AAo,length_nil->AAq,mem_append_left->AAr,mem_range->AAs,length_set->AAu,append_assoc->AAw,length_take->AAx,cons_lt_cons_iff->AB1,getElem?_of_mem->AB3,getElem_mem->AB4,nil_append->AB6,map_append->AB8,mem_singleton->ABA,getElem?_eq_none->ABB,mem_filter->ABD,append_nil->ABE,lt_irrefl->ABH,all_cons->ABK,getElem?_take_of_lt->ABL,filterMap_cons->ABS,map_map->ABT,length_drop->ABb,lookup_cons->ABc,toArray->ABd,nodup_iff_pairwise_ne->ABe,length->ABk,mem_map_of_mem->ABo,nodup_cons->ABs,length_filter_le->ABx,take_length->ACB,getElem_map->ACE,filter_cons->ACH,prefix_rfl->ACO,getElem?_replicate->ACW,getElem?_cons_succ->ACZ,cons_append->ACb,take_of_length_le->ACg,length_replicate->ACn,find?_cons->ACq,length_range->AD3,take_add_one->AD4,pairwise_iff_getElem->ADA,nodup_nil->ADC,not_mem_nil->ADF,any_eq_true->ADH,mem_filterMap->ADO,zip_cons_cons->ADV,pairwise_singleton->ADW,getElem?_drop->ADX,take_sublist->ADg,ext_getElem?->ADi,pairwise_map->ADl,nodup_append->ADn,replicate->ADo,set_append_right->ADt,of_mem_zip->ADz,map_congr_left->AE5,find?_some->AE8,getD->AEM
open Nat renaming le_refl->AA8,ne_of_lt->AAK,lt_of_lt_of_le->AAP,zero_le->AAW,lt_irrefl->AAf,lt_succ_self->AAy,le_trans->AB0,lt_succ_of_lt->ABl,not_lt_zero->ABt,lt_or_ge->ABv,sub_self->ACo,not_lt->ACw,lt_trichotomy->ACy,le_add_right->ADG,le_of_lt->ADq,le_succ->AE1
open Bool renaming false_eq_true->AAA,and_eq_true->AAS,eq_false_iff->ABG,false_ne_true->ABJ,not_true->AC3,or_eq_true->AE3,false_and->AEE,and_false->AEG
open Array renaming getElem?_eq_getElem->AAH,length_toList->AAO,getElem?_toList->AAQ,getElem?_eq_some_iff->AAi,getD_eq_getD_getElem?->AAz,forIn_toList->ABY,getElem?_eq_none->ABh,getD->ACD
open Option.some renaming inj->AAN
open PySem.SetTable renaming below->AAX,runEnd->AAm,bits->ABr,leap->ACJ,Probe->ACL,grown->ACe,turns->ADB,fits->ADY,insertAt->ADj,sizeAbove->AED,fill->AER
open PySem.Heap.SameBut renaming update->AAl
open Classical renaming byContradiction->AAv,propDecidable->ABP
open PySem.Obj renaming mapSeq->AB2,mapFields->AD2,data_mapDictKeys->AD7,isFreed_of_dict->ADI,data_mapFields->ADb,data_mapDict->ADw,putSet->AEO
open PyProof.Rows renaming slot_tuple_getitem->AB5,get?_update_seq->ACP,callWith_type1->ACm,listUpdate_at->AD0,listItems_at->ADs,envOfC->AEA
open PySem.NameKind renaming free->ABC,cell->ACX
open PySem.Builtin.Tuple renaming tupleHashOf->ABF,tupleItemsOf->ACA,tupleExact->ACN
open Option renaming map_eq_some_iff->ABI,isSome_iff_exists->ABy
open Ne renaming symm->ABO
open Int renaming toNat_natCast->ABU
open PySem.Builtin.Dict_items renaming ownsTuple->ABV
open False renaming elim->ABZ
open PySem.Around renaming under_plainId->ABa
open PySem.Value renaming ref->ABf,none->ABi,type->ADJ,builtin->ADZ
open PySem.F renaming slot_list_getattribute->ABw,args_tuple_add_2->ADK,slot_dict_values->ADM,entry_tuple_add->ADS,plainAttrs_dict->ADa,slot_tuple_add->ADe
open PySem.SetTable.below renaming go->AC7
open List.cons renaming injEq->AC8,inj->AEQ
open PySem.Builtin.List renaming listExtendWith->AC9,listTooLong->ADL,listLengthHint->AE7
open PySem.SeqAt renaming EqAt->ACC
open PySem.Builtin.Slice renaming slicePlaces->ACK,sliceAdjust->AD8,sliceApplied->AEB
open List.Perm renaming refl->ACc,cons->AEH
open PySem.Calls renaming callWith_builtin->ACf,spliced_cons->ADQ,spliced_nil->ADf,evalArgs_plain->ADx
open PySem.SetTable.layClean renaming free->ACh
open PySem.SeqAt.EqAt renaming int_str->ACi,str_int->ACj,int_int->ADT,str_str->ADU,same->AE4
open PySem.Builtin.Dict renaming showsAll->ACs
open PySem.Builtin.Str renaming strSliceIndices->ACu
open List.Pairwise renaming nil->ACv
open PySem.Shared renaming TypeIs->ADy
open ForInStep renaming yield->AE0
open PySem.Txt renaming slice->AE2
open PySem.Expr renaming Call->AE9
open True renaming intro->AEL
open PySem.SetTable.probe renaming go->AEN
set_option autoImplicit true
set_option relaxedAutoImplicit true
set_option compiler.extract_closed false
set_option Elab.async false
set_option linter.all false
set_option maxRecDepth 100000
-- CHANGE: your row's module here,as the last of these rows
theorem dF_{p:Prop}[Decidable p](h:¬p):decide p=false:=decide_eq_false h
theorem dT_{p:Prop}[Decidable p](h:p):decide p=true:=decide_eq_true h
namespace L2
open PySem PySem.Spec PyProof.Rows
noncomputable abbrev Key:=Sum Int Str
noncomputable def DQ:Key->Value->Bool
 | .inl k,v=>Value.isInt k v
 | .inr x,v=>Value.isStrOf x v
noncomputable def keyH(w:World):Key->Int
 | .inl k=>hashInt k
 | .inr x=>hashStr w x
theorem aO:∀{k:Key}{v:Value},DQ k v=true->(∃i t,k=Sum.inl i/\v=Value.int i t)\/(∃x t,k=Sum.inr x/\v=Value.str x t)
 | .inl i,v,h=>by
  obtain⟨t,e⟩:=Value.isInt_shape (k:=i) (v:=v) h
  exact .inl ⟨i,t,rfl,e⟩
 | .inr x,v,h=>by
  obtain⟨t,e⟩:=Value.isStrOf_shape (x:=x) (v:=v) h
  exact .inr ⟨x,t,rfl,e⟩
theorem DP(a b:Int):decide ((Sum.inl a:Key)=Sum.inl b)=(a==b):=by
 by_cases e:a=b
 ·subst e;simp
 ·have h:¬(Sum.inl a:Key)=Sum.inl b:=λq=>e (Sum.inl.inj q)
  rw[dF_ h]
  exact(beq_eq_false_iff_ne.mpr e).symm
theorem DM(a b:Str):decide ((Sum.inr a:Key)=Sum.inr b)=decide (a=b):=by
 by_cases e:a=b
 ·subst e;simp
 ·have h:¬(Sum.inr a:Key)=Sum.inr b:=λq=>e (Sum.inr.inj q)
  rw[dF_ h,dF_ e]
theorem DO(a:Int)(b:Str):decide ((Sum.inl a:Key)=Sum.inr b)=false:=dF_ (λq=>nomatch q)
theorem DN(a:Str)(b:Int):decide ((Sum.inr a:Key)=Sum.inl b)=false:=dF_ (λq=>nomatch q)
noncomputable def vB(prog:Program)(w:World):PySem.KeyKind prog w Key where
 is:=DQ
 hash:=keyH w
 inj:=λv a b ha hb=>by
  rcases aO ha with⟨i,t,rfl,rfl⟩|⟨x,t,rfl,rfl⟩
  ·rcases aO hb with⟨j,u,rfl,e⟩|⟨y,u,rfl,e⟩
   ·injection e with e1 _;rw[e1]
   ·exact nomatch e
  ·rcases aO hb with⟨j,u,rfl,e⟩|⟨y,u,rfl,e⟩
   ·exact nomatch e
   ·injection e with e1 _;rw[e1]
 byValue:=λk v h=>by
  rcases aO h with⟨i,t,rfl,rfl⟩|⟨x,t,rfl,rfl⟩<;>rfl
 pyHash:=λhv h=>by
  rcases aO hv with⟨i,t,rfl,rfl⟩|⟨x,t,rfl,rfl⟩
  ·exact ADD h
  ·exact ADE h
 eqBool:=λhu hv h=>by
  rcases aO hu with⟨i,t,rfl,rfl⟩|⟨x,t,rfl,rfl⟩
  ·rcases aO hv with⟨j,u,rfl,rfl⟩|⟨y,u,rfl,rfl⟩
   ·rw[DP]at h;exact wpAny_eqBool_int h
   ·rw[DO]at h;exact ACi i t y u _ _ _ _ h
  ·rcases aO hv with⟨j,u,rfl,rfl⟩|⟨y,u,rfl,rfl⟩
   ·rw[DN]at h;exact ACj x t j u _ _ _ _ h
   ·rw[DM]at h;exact wpAny_eqBool_str h
 «strs»:=λk x t v h=>by
  rcases aO h with⟨i,u,rfl,e⟩|⟨y,u,rfl,e⟩
  ·exact nomatch e
  ·injection e with e1 _
   subst e1
   cases v<;>rfl
inductive V where
 | non | bl (b:Bool) | int (i:Int) | str (x:Str) | byt (b:Array UInt8) | flt (b:UInt64) | ref (a:Addr) | ty (n:String)
 deriving DecidableEq
def aI:V->Value->Prop
 | .non,u=>u=ABi
 | .bl b,u=>u=Value.bool b
 | .int i,u=>∃t,u=Value.int i t
 | .str x,u=>∃t,u=Value.str x t
 | .byt b,u=>∃t,u=Value.bytes b t
 | .flt b,u=>∃t,u=Value.float b t
 | .ref a,u=>u=ABf a
 | .ty n,u=>u=ADJ n
abbrev au:List V->List Value->Prop:=Paired aI
theorem au.length(r:au xs us):xs.length=us.length:=Paired.length r
theorem au.get:∀{xs:List V}{us:List Value}{i:Nat}{x:V},au xs us->xs[i]?=some x->∃u,us[i]?=some u/\aI x u
 | _,_,_,_,.nil,e=>by simp at e
 | _,_,0,_,.cons r _,e=>by simp at e;subst e;exact⟨_,rfl,r⟩
 | _,_,i+1,x,.cons _ t,e=>by
  obtain⟨u,h1,h2⟩:=au.get (i:=i) (x:=x) t (by simpa using e)
  exact⟨u,by simpa using h1,h2⟩
theorem au.set(r:aI x u):∀{xs:List V}{us:List Value} (i:Nat),au xs us->au (xs.set i x) (us.set i u)
 | _,_,_,.nil=>.nil
 | _,_,0,.cons _ t=>.cons r t
 | _,_,i+1,.cons q t=>.cons q (au.set r i t)
theorem au.append(h:au xs us)(s:au ys ws):au (xs++ys) (us++ws):=by
 induction h with
 | nil=>exact s
 | cons r t ih=>exact .cons r ih
theorem au.take:∀{xs:List V}{us:List Value} (n:Nat),au xs us->au (xs.take n) (us.take n)
 | _,_,0,_=>.nil
 | _,_,_+1,.nil=>.nil
 | _,_,n+1,.cons r t=>.cons r (au.take n t)
theorem au.drop:∀{xs:List V}{us:List Value} (n:Nat),au xs us->au (xs.drop n) (us.drop n)
 | _,_,0,r=>r
 | _,_,_+1,.nil=>.nil
 | _,_,n+1,.cons _ t=>au.drop n t
def RelO:Option V->Option Value->Prop
 | some v,some u=>aI v u
 | none,none=>True
 | _,_=>False
def KV{κ:Type}:List (κ×V)->List (κ×Value)->Prop:=Paired λ(p:κ×V) (q:κ×Value)=>p.1=q.1/\aI p.2 q.2
noncomputable def kV:Key->V
 | .inl i=>.int i
 | .inr x=>.str x
inductive HO where
 | lst (xs:List V)
 | tup (xs:List V)
 | dK (kvs:List (Key×V)) | dT (kvs:List (List Key×V))
 | set (S:Int->Bool) (n:Nat)
 | ins (C dx:Addr) (fs:List (Str×V))
 | own (x:Addr)
 | xd (fs:List (Str×V))
 | met (f x:Addr)
 | rng (lo hi:Int)
 | frz (o:Obj) (u:HO)
 | tbl (ps:Array Value)
 | ext (φ:Program->World->Heap->Prop)
abbrev Hp:=Addr->Option HO
noncomputable def upd(H:Hp)(a:Addr)(o:HO):Hp:=λb=>if b=a then some o else H b
theorem aA:upd H a o a=some o:=by unfold upd;rw[if_pos rfl]
theorem ae(h:b≠a):upd H a o b=H b:=by unfold upd;rw[if_neg h]
theorem xI{H:Hp}{a b:Addr}{o u:HO}(h:H a=some o)(h':H b=some u)(d:o≠u):a≠b:=by
 intro e;subst e;rw[h]at h';exact d (AAN h')
theorem ad{H:Hp}{a b:Addr}{o:HO}(h:H a=some o)(h':H b=none):a≠b:=by
 intro e;subst e;rw[h]at h';cases h'
section
variable(P:Program)(w:World)
def zm(h:Heap)(a:Addr)(items:Array Value):Prop:=∃o,h.get? a=some o/\o.cls=.type "tuple"/\(∃n,o.data=.seq items n)/\o.dict=none
theorem zm.tup:zm h a items->IsTup h a items:=λ⟨o,e,c,⟨n,d⟩,_⟩=>⟨o,e,c,n,d⟩
theorem zm.new(h:Heap)(items:Array Value):zm (h.push { cls:=.type "tuple",data:=.seq items }) h.objs.size items:=⟨_,AAB _ rfl,rfl,⟨_,rfl⟩,rfl⟩
def cu(H:Hp)(h:Heap)(a:Addr):HO->Prop
 | .lst xs=>xs.length<=sizeLine/\∃(its:List Value) (n:Nat),au xs its/\h.get? a=some { cls:=.type "list",data:=.seq its.toArray n }
 | .tup xs=>xs.length<=sizeLine/\∃its:List Value,au xs its/\zm h a its.toArray
 | .dK kvs=>kvs.length<=sizeLine/\(a==sysModules)=false/\∃vs,KV kvs vs/\h.DictOf (vB P w) a vs
 | .dT kvs=>kvs.length<=sizeLine/\(a==sysModules)=false/\∃xs:List (List Key×Addr×Value),
   Paired (λ(p:List Key×V) (q:List Key×Addr×Value)=>p.1=q.1/\H q.2.1=some (.tup (p.1.map kV))/\aI p.2 q.2.2) kvs xs /\
   ∃o es ep,h.get? a=some o/\o.ExactDict/\o.data=.dict es ep/\es.toList=xs.map (entryOfKey (tupleKind (vB P w)))/\(xs.map (·.1)).Nodup
 | .set S n=>h.SetOf (intKind P w) a S n
 | .ins C dx fs=>H dx=some (.own a)/\fs.length<=1000/\dx≠a/\h.get? a=some (PySem.W.instObj C dx) /\
   ∃mA,h.Ns1 dx mA/\(∀f,RelO (fs.lookup f) (mA f))/\PySem.Within mA (fs.map (·.1))
 | .own _=>∃o,h.get? a=some o
 | .xd fs=>∃mA,h.Ns1 a mA/\∀f,RelO (fs.lookup f) (mA f)
 | .rng lo hi=>∃t u v,h.get? a=some { cls:=.type "range",data:=.fields #[.int lo t,.int hi u,.int 1 v] }
 | .frz o u=>h.get? a=some o/\cu H h a u
 | .tbl ps=>h.get? a=some { cls:=.none,data:=.fields ps }
 | .met f x=>h.get? a=some (AEK (.ref f) (.ref x))
 | .ext φ=>φ P w h/\(∃o,h.get? a=some o)/\∀h1 h2:Heap,φ P w h1->(∀o,h1.get? a=some o->h2.get? a=some o)->φ P w h2
def HOk(H:Hp)(h:Heap):Prop:=∀a o,H a=some o->cu P w H h a o
end
section
variable{P:Program}{w:World}{H H':Hp}{h h':Heap}{a:Addr}{o:HO}
theorem cu.lt(x:cu P w H h a o):a<h.objs.size:=by
 cases o with
 | lst xs=>obtain⟨_,_,_,_,e⟩:=x;exact AAF e
 | tup xs=>obtain⟨_,_,_,p⟩:=x;exact p.tup.lt
 | dK kvs=>obtain⟨_,_,_,_,o,_,_,e,_⟩:=x;exact AAF e
 | dT kvs=>obtain⟨_,_,_,_,o,_,_,e,_⟩:=x;exact AAF e
 | set S n=>obtain⟨o,_,_,_,e,_⟩:=x;exact AAF e
 | ins C dx fs=>obtain⟨_,_,_,e,_⟩:=x;exact AAF e
 | own y=>obtain⟨_,e⟩:=x;exact AAF e
 | xd fs=>obtain⟨_,⟨_,_,_,e,_⟩,_⟩:=x;exact AAF e
 | rng lo hi=>obtain⟨_,_,_,e⟩:=x;exact AAF e
 | frz ob u=>obtain⟨e,_⟩:=x;exact AAF e
 | tbl ps=>exact AAF (show h.get? a=some _ from x)
 | met f y=>exact AAF (show h.get? a=some _ from x)
 | ext φ=>obtain⟨_,⟨_,e⟩,_⟩:=x;exact AAF e
theorem Paired.mapP{α β:Type}{F G:α->β->Prop}:∀{l₁:List α}{l₂:List β},Paired F l₁ l₂->(∀a b,F a b->G a b)->Paired G l₁ l₂
 | _,_,.nil,_=>.nil
 | _,_,.cons r t,f=>.cons (f _ _ r) (Paired.mapP t f)
theorem cu.stay(x:cu P w H h a o)(k:∀b u,(b=a\/H b=some (.own a))->h.get? b=some u->h'.get? b=some u)
  (ho:∀b,H b=some (.own a)->H' b=some (.own a)) (ht:∀b xs,H b=some (.tup xs)->H' b=some (.tup xs)):cu P w H' h' a o:=by
 induction o with
 | lst xs=>obtain⟨z,its,n,r,e⟩:=x;exact⟨z,its,n,r,k _ _ (.inl rfl) e⟩
 | tup xs=>obtain⟨z,its,r,ob,e,c⟩:=x;exact⟨z,its,r,ob,k _ _ (.inl rfl) e,c⟩
 | dK kvs=>obtain⟨z,y,vs,r,ob,es,ep,e,c⟩:=x;exact⟨z,y,vs,r,ob,es,ep,k _ _ (.inl rfl) e,c⟩
 | dT kvs =>
  obtain⟨z,y,xs,r,ob,es,ep,e,c⟩:=x
  exact⟨z,y,xs,Paired.mapP r λp q z=>⟨z.1,ht _ _ z.2.1,z.2.2⟩,ob,es,ep,k _ _ (.inl rfl) e,c⟩
 | set S n=>obtain⟨ob,es,ep,t,e,c⟩:=x;exact⟨ob,es,ep,t,k _ _ (.inl rfl) e,c⟩
 | ins C dx fs =>
  obtain⟨d,z,ne,e,mA,⟨od,es,ep,e2,c⟩,r⟩:=x
  exact⟨ho _ d,z,ne,k _ _ (.inl rfl) e,mA,⟨od,es,ep,k _ _ (.inr d) e2,c⟩,r⟩
 | own y=>obtain⟨ob,e⟩:=x;exact⟨ob,k _ _ (.inl rfl) e⟩
 | xd fs=>obtain⟨mA,⟨od,es,ep,e,c⟩,r⟩:=x;exact⟨mA,⟨od,es,ep,k _ _ (.inl rfl) e,c⟩,r⟩
 | rng lo hi=>obtain⟨t,u,v,e⟩:=x;exact⟨t,u,v,k _ _ (.inl rfl) e⟩
 | frz ob u ih=>obtain⟨e,q⟩:=x;exact⟨k _ _ (.inl rfl) e,ih q⟩
 | tbl ps =>
  have e:h.get? a=some { cls:=.none,data:=.fields ps }:=x
  show h'.get? a=some { cls:=.none,data:=.fields ps }
  exact k a _ (.inl rfl) e
 | met f y =>
  have e:h.get? a=some (AEK (.ref f) (.ref y)):=x
  show h'.get? a=some (AEK (.ref f) (.ref y))
  exact k a _ (.inl rfl) e
 | ext φ=>obtain⟨p,⟨o,e⟩,st⟩:=x;exact⟨st _ _ p λo q=>k _ _ (.inl rfl) q,⟨o,k _ _ (.inl rfl) e⟩,st⟩
theorem HOk.lt(x:HOk P w H h)(e:H a=some o):a<h.objs.size:=(x a o e).lt
theorem HOk.fresh(x:HOk P w H h)(e:h.objs.size<=a):H a=none:=by
 cases q:H a with
 | none=>rfl
 | some u=>exact absurd (AAP (x.lt q) e) (AAf _)
theorem HOk.kept(x:HOk P w H h)(k:∀b u,h.get? b=some u->h'.get? b=some u):HOk P w H h':=λa o e =>
 (x a o e).stay (λb u _ q=>k b u q) (λ_ q=>q) λ_ _ q=>q
theorem HOk.laid(x:HOk P w H h)(k:∀b u,h.get? b=some u->h'.get? b=some u)(hp:h.objs.size<=a)(new:cu P w (upd H a o) h' a o):HOk P w (upd H a o) h':=λb u e=>by
 have hn:=x.fresh hp
 by_cases hb:b=a
 ·subst hb;rw[aA]at e;cases e;exact new
 ·rw[ae hb]at e
  exact(x b u e).stay (λc v _ q=>k c v q) (λc q=>by rw[ae (ad q hn)];exact q) λc xs q=>by rw[ae (ad q hn)];exact q
end
def Rd(H:Hp)(a:Addr)(u:HO):Prop:=H a=some u\/∃o,H a=some (.frz o u)
theorem Rd.ok(r:Rd H a u)(x:HOk P w H h):cu P w H h a u:=by
 rcases r with r | ⟨o,r⟩
 ·exact x a u r
 ·obtain⟨_,q⟩:=x a _ r
  exact q
def Mut:Option HO->Prop
 | some (.lst _)=>True
 | some (.dK _)=>True
 | some (.dT _)=>True
 | some (.set _ _)=>True
 | some (.ins _ _ _)=>True
 | some (.ext _)=>True
 | _=>False
section
variable{P:Program}{w:World}{H:Hp}{h h':Heap}{x e:Addr}{o':HO}
theorem HOk.write(ok:HOk P w H h)(mu:Mut (H x))(he:e=x\/H e=some (.own x))(k:∀b u,b≠e->h.get? b=some u->h'.get? b=some u)(heo:∃u,h'.get? e=some u)
  (new:cu P w (upd H x o') h' x o'):HOk P w (upd H x o') h':=λb u q=>by
 have nown:∀c y,H c=some (.own y)->c≠x:=λc y r z=>by subst z;rw[r]at mu;exact mu
 have ntup:∀c xs,H c=some (.tup xs)->c≠x:=λc xs r z=>by subst z;rw[r]at mu;exact mu
 by_cases hb:b=x
 ·subst hb;rw[aA]at q;cases q;exact new
 ·rw[ae hb]at q
  by_cases hbe:b=e
  ·have q':H b=some (.own x):=by
    rcases he with z | z
    ·exact absurd (hbe.trans z) hb
    ·rw[hbe];exact z
   rw[q]at q';cases q'
   obtain⟨v,hv⟩:=heo
   exact⟨v,by rw[hbe];exact hv⟩
  ·refine(ok b u q).stay (λc v hc r=>k c v ?_ r) (λc r=>by rw[ae (nown c b r)];exact r) λc xs r=>by rw[ae (ntup c xs r)];exact r
   rcases hc with rfl | hc
   ·exact hbe
   ·rintro rfl
    rcases he with z | z
    ·exact nown c b hc z
    ·rw[hc]at z;cases z;exact hb rfl
end
structure Un(fs ex:List Addr)(H H':Hp)(h h':Heap):Prop where
 keep:∀b o,h.get? b=some o->H b=none->b∉fs->b∉ex->h'.get? b=some o
 slot:∀b o,h.get? b=some o->H b=none->b∈fs->b∉ex->∃sl,h'.get? b=some { o with slots:=sl }
 free:∀b o,h.get? b=some o->H b=none->b∉ex->H' b=none
 there:∀b o,h.get? b=some o->b∉ex->∃o',h'.get? b=some o'
 tups:∀b xs,H b=some (.tup xs)->H' b=some (.tup xs)
 frzs:∀b o u,H b=some (.frz o u)->H' b=some (.frz o u)
 tbls:∀b ps,H b=some (.tbl ps)->∃more,H' b=some (.tbl (ps++more))
section
variable{fs fs' ex ex':List Addr}{H H1 H2:Hp}{h h1 h2 h':Heap}{a x e:Addr}{o:HO}
theorem Un.any(u:Un fs ex H H1 h h1)(q:h.get? b=some ob)(n:H b=none)(hx:b∉ex):∃sl,h1.get? b=some { ob with slots:=sl }:=by
 by_cases hb:b∈fs
 ·exact u.slot b ob q n hb hx
 ·exact⟨ob.slots,u.keep b ob q n hb hx⟩
theorem Un.kept(k:∀b u,h.get? b=some u->h'.get? b=some u):Un fs ex H H h h' :=
 ⟨λb ob q _ _ _=>k b ob q,λb ob q _ _ _=>⟨ob.slots,k b ob q⟩,λ_ _ _ n _=>n,λb ob q _=>⟨ob,k b ob q⟩,λ_ _ q=>q,λ_ _ _ q=>q,λ_ ps q=>⟨#[],by rw[q];simp⟩⟩
theorem Un.refl:Un fs ex H H h h:=Un.kept λ_ _ q=>q
theorem Un.laid(k:∀b u,h.get? b=some u->h'.get? b=some u)(hp:h.objs.size<=a)(hn:H a=none):Un fs ex H (upd H a o) h h' where
 keep:=λb u q _ _ _=>k b u q
 slot:=λb u q _ _ _=>⟨u.slots,k b u q⟩
 free:=λb u q n _=>by rw[ae (AAK (AAP (AAF q) hp))];exact n
 there:=λb u q _=>⟨u,k b u q⟩
 tups:=λb xs q=>by rw[ae (ad q hn)];exact q
 frzs:=λb u xs q=>by rw[ae (ad q hn)];exact q
 tbls:=λb ps q=>⟨#[],by rw[ae (ad q hn),q];simp⟩
theorem Un.write(mu:Mut (H x))(he:e=x\/H e=some (.own x))(k:∀b u,b≠e->h.get? b=some u->h'.get? b=some u)(heo:∃u,h'.get? e=some u):Un fs ex H (upd H x o) h h':=by
 have hx:∀b,H b=none->b≠x:=λb n z=>by subst z;rw[n]at mu;exact mu
 have hb:∀b,H b=none->b≠e:=λb n z=>by
  subst z
  rcases he with r | r
  ·exact hx b n r
  ·rw[n]at r;cases r
 have hm:∀b u,H b=some u->¬Mut (some u)->b≠x:=λb u q nm z=>by subst z;rw[q]at mu;exact nm mu
 refine⟨λb u q n _ _=>k b u (hb b n) q,λb u q n _ _=>⟨u.slots,k b u (hb b n) q⟩,λb u q n _=>by rw[ae (hx b n)];exact n,λb u q _=>?_,
  λb xs q=>by rw[ae (hm b _ q λz=>z)];exact q,λb u xs q=>by rw[ae (hm b _ q λz=>z)];exact q,λb ps q=>⟨#[],by rw[ae (hm b _ q λz=>z),q];simp⟩⟩
 by_cases hbe:b=e
 ·subst hbe;exact heo
 ·exact⟨u,k b u hbe q⟩
end
noncomputable def trk(h:Heap)(H:Hp):List Addr:=(AAn h.objs.size).filter λa=>(H a).isSome
noncomputable def wV(h:Heap)(H:Hp):Heap:=ADN h (trk h H)
theorem wg(h:Heap)(H:Hp):(wV h H).objs.size=h.objs.size:=PySem.W.hideAll_size _ _
theorem yh(e:h.get? b=some o)(n:H b=none):(wV h H).get? b=some o :=
 PySem.W.hideAll_get _ e λhm=>by
  have q:(H b).isSome=true:=(ABD.mp hm).2
  rw[n]at q;simp at q
theorem Ai(e:(wV h H).get? b=some o):h.get? b=some o/\H b=none:=by
 have e':h.get? b=some o:=AEC (trk h H) e
 refine⟨e',?_⟩
 cases q:H b with
 | none=>rfl
 | some x =>
  have hm:b∈trk h H:=ABD.mpr ⟨AAs.mpr (AAF e'),by simp[q]⟩
  have z:(wV h H).get? b=none:=PySem.W.hideAll_none (trk h H) hm
  rw[z]at e;cases e
noncomputable def BH(g h:Heap)(L:Addr):List (Addr×Obj):=(AAn h.objs.size).filterMap λa=>if a=L\/(g.get? a).isSome=true then none else(h.get? a).map λo=>(a,o)
noncomputable def aE(g h:Heap)(L d:Addr):List (Addr×Obj):=(BH g h L).filter λp=>decide (p.1≠d)
structure Mod(K:AA3)(mg:Str->Option Value)(base:Heap):Prop where
 kin:K.In base
 glob:base.Ns mainGlobals mg
 blt:∃mb,base.Ns builtinsNs mb/\∀x:Str,x≠"__name__"->mb x=bootBuiltins x
 nolimit:base.NoLimit
/-- the context: a def's body (or a comprehension's block) running. base: fixed through the whole law;s₀,H₀: the entry;outer: the frames whose slots others may change (a def's callers);stack: all frames that run;
  ex: iterators that were made df of the entry and are walked here (a comprehension's);fn: the names whose cells were made at the entry (a def: all;a comprehension's block: its own);calm: not BY an except suite;pn: pins that every state bears;xe: what is wanted of an exception that leaves the code -/
structure Cx where
 prog:Program
 w:World
 K:AA3
 mg:Str->Option Value
 base:Heap
 A:Around
 N:List Str
 s₀:Shared
 H₀:Hp
 env:Env
 outer:List Env
 stack:List Env
 ex:List Addr
 fn:Str->Bool
 calm:Bool
 pn:List (Addr×Obj)
 xe:Value->Shared->Prop
noncomputable def frs(l:List Env):List Addr:=l.filterMap (·.frame)
noncomputable abbrev Cx.fs(X:Cx):List Addr:=frs X.outer
def Vis(sc:Scope)(x:Str):Prop:=sc.names.lookup x=some .local\/sc.names.lookup x=some .cell\/sc.names.lookup x=some .free
def Loc(sc:Scope)(x:Str):Prop:=sc.names.lookup x=some .local\/sc.names.lookup x=some .cell
def Look(env:Env)(h:Heap)(m:Str->Option Value)(x:Str)(u:Value):Prop :=
 (env.kindOf x=some .local/\m x=some u)\/((env.kindOf x=some .cell\/env.kindOf x=some .free)/\∃c,env.cells.lookup x=some c/\h.IsCell c (some u))
structure Cx.Ok(X:Cx):Prop where
 mod:Mod X.K X.mg X.base
 kind:X.env.scope.kind=.function
 glob:X.env.globals=mainGlobals
 blt:X.env.builtins=builtinsNs
 above:X.s₀.heap.objs.size<=X.env.locals
 inj:∀x y c,X.env.cells.lookup x=some c->X.env.cells.lookup y=some c->x=y
 has:∀x,(X.env.kindOf x=some .cell\/X.env.kindOf x=some .free)->∃c,X.env.cells.lookup x=some c
 cab:∀x c,X.fn x=true->X.env.cells.lookup x=some c->X.s₀.heap.objs.size<=c
 hd:X.calm=true->X.A.handled=none
 frames:X.A.frames=some X.stack
 stk:X.stack=X.outer\/(X.stack=X.env::X.outer/\X.env.frame=some X.env.locals)
 exf:∀b∈X.ex,b≠X.env.locals/\∀x c,X.env.cells.lookup x=some c->c≠b
 bs:∀b o,X.base.get? b=some o->X.s₀.heap.get? b=some o/\X.H₀ b=none
 bsz:X.base.objs.size<=X.s₀.heap.objs.size
 noex:∀b o,X.base.get? b=some o->b∉X.ex
 exfs:∀b∈X.ex,b∉X.fs
 funs:X.s₀.heap.FunFrames X.base X.outer
 frf:∀b∈X.fs,X.H₀ b=none
structure Inv(X:Cx)(pins:List (Addr×Obj))(σ:List (Option V))(H:Hp)(s:Shared):Prop where
 ok:X.Ok
 os:s.os=X.s₀.os
 bare:AllBare s.gens
 base:Un X.fs X.ex X.H₀ H X.s₀.heap s.heap
 loc:∃m,s.heap.Ns X.env.locals m/\∀(i:Nat) (x:Str) (v:V),X.N[i]?=some x->σ[i]?=some (some v)->Vis X.env.scope x->∃u,aI v u/\Look X.env s.heap m x u
 cell:∀x c,X.env.cells.lookup x=some c->∃v,s.heap.IsCell c v
 free:H X.env.locals=none
 freeC:∀x c,X.env.cells.lookup x=some c->H c=none
 pin:∀p∈X.pn++pins,s.heap.get? p.1=some p.2/\H p.1=none/\p.1≠X.env.locals/\p.1∉X.fs/\∀v,p.2.data≠.cell v
 hok:HOk X.prog X.w H s.heap
 len:σ.length=X.N.length
section
variable{X:Cx}{pins:List (Addr×Obj)}{σ:List (Option V)}{H H':Hp}{s:Shared}{h':Heap}
theorem Cx.Ok.nofr(ok:X.Ok)(e:X.base.get? b=some o):b∉X.fs:=λhb=>by
 have:=(ok.funs.mem hb).1
 rw[e]at this;cases this
theorem Inv.bs(I:Inv X pins σ H s):∀b o,X.base.get? b=some o->s.heap.get? b=some o/\H b=none:=λb o e =>
 ⟨I.base.keep b o (I.ok.bs b o e).1 (I.ok.bs b o e).2 (I.ok.nofr e) (I.ok.noex b o e),I.base.free b o (I.ok.bs b o e).1 (I.ok.bs b o e).2 (I.ok.noex b o e)⟩
theorem Inv.bk(I:Inv X pins σ H s):∀b o,X.base.get? b=some o->s.heap.get? b=some o:=λb o e=>(I.bs b o e).1
theorem Inv.mod(I:Inv X pins σ H s):Mod X.K X.mg X.base:=I.ok.mod
theorem Inv.kIn(I:Inv X pins σ H s):X.K.In s.heap:=I.ok.mod.kin.keeps I.bk
theorem Inv.lt(I:Inv X pins σ H s):X.env.locals<s.heap.objs.size:=let ⟨_,hn,_⟩:=I.loc;hn.lt
theorem Inv.sz(I:Inv X pins σ H s):X.s₀.heap.objs.size<=s.heap.objs.size:=AB0 I.ok.above (ADq I.lt)
theorem Inv.nofs(I:Inv X pins σ H s)(h:s.heap.objs.size<=a):a∉X.fs:=λhb=>by
 obtain⟨_,o,ho,_⟩:=I.ok.funs.mem hb
 exact absurd (AAP (AAF ho) (AB0 I.sz h)) (AAf _)
theorem Inv.cne(I:Inv X pins σ H s):∀x c,X.env.cells.lookup x=some c->c≠X.env.locals:=λx c e z=>by
 obtain⟨v,o,ho,hd⟩:=I.cell x c e
 obtain⟨m,⟨o',es,ep,ho',hd',_⟩,_⟩:=I.loc
 rw[z,ho']at ho;cases ho;rw[hd']at hd;cases hd
theorem Inv.funs(I:Inv X pins σ H s):s.heap.FunFrames X.base X.outer:=by
 have all:∀(l:List Env),(∀b∈frs l,b∈X.fs)->X.s₀.heap.FunFrames X.base l->s.heap.FunFrames X.base l:=by
  intro l
  induction l with
  | nil=>intro _ _;trivial
  | cons env r ih =>
   intro hs hl
   obtain⟨hk,⟨L,o,hf,hn,ho,hd⟩,hr⟩:=hl
   have hL:L∈X.fs:=hs L (by unfold frs;rw[ABS,hf];exact AAG)
   obtain⟨sl,e⟩:=I.base.slot L o ho (I.ok.frf L hL) hL λz=>I.ok.exfs L z hL
   exact⟨hk,⟨L,_,hf,hn,e,hd⟩,ih (λb hb=>hs b (by unfold frs;rw[ABS,hf];exact AA9 _ hb)) hr⟩
 exact all X.outer (λ_ hb=>hb) I.ok.funs
theorem Inv.stack(I:Inv X pins σ H s):s.heap.FunFrames X.base X.stack:=by
 rcases I.ok.stk with e | ⟨e,hf⟩
 ·rw[e];exact I.funs
 ·rw[e]
  obtain⟨m,hn,_⟩:=I.loc
  refine .cons (by rw[I.ok.kind];decide) hf hn ?_ I.funs
  exact Heap.get?_none_of_le (AB0 I.ok.bsz I.ok.above)
theorem Inv.stkSub(I:Inv X pins σ H s):∀b∈frs X.stack,b∈X.env.locals::X.fs:=λb hb=>by
 rcases I.ok.stk with e | ⟨e,hf⟩
 ·rw[e]at hb;exact AA9 _ hb
 ·rw[e]at hb
  unfold frs at hb
  rw[ABS,hf]at hb
  exact hb
theorem Inv.stkFree(I:Inv X pins σ H s):∀b∈frs X.stack,H b=none:=λb hb=>by
 rcases AAM.mp (I.stkSub b hb)with e | hb
 ·rw[e];exact I.free
 ·obtain⟨_,o,ho,_⟩:=I.ok.funs.mem hb
  exact I.base.free b o ho (I.ok.frf b hb) λz=>I.ok.exfs b z hb
theorem Inv.step{g':Array GenState}{t':Nat}{d':Drawn}{ch:List Addr}(I:Inv X pins σ H s)
  (hch:∀b∈ch,(b∈X.ex\/X.s₀.heap.objs.size<=b)/\b≠X.env.locals/\(∀x c,X.env.cells.lookup x=some c->c≠b)/\∀p∈X.pn++pins,p.1≠b)
  (keep:∀b o,b≠X.env.locals->b∉X.fs->b∉ch->s.heap.get? b=some o->H b=none->h'.get? b=some o)
  (slot:∀b o,b≠X.env.locals->b∈X.fs->b∉ch->s.heap.get? b=some o->H b=none->∃sl,h'.get? b=some { o with slots:=sl }) (free:∀b o,b∉ch->s.heap.get? b=some o->H b=none->H' b=none)
  (there:∀b o,b∉ch->s.heap.get? b=some o->∃o',h'.get? b=some o')
  (tups:∀b xs,H b=some (.tup xs)->H' b=some (.tup xs)) (frzs:∀b o u,H b=some (.frz o u)->H' b=some (.frz o u)) (tbls:∀b ps,H b=some (.tbl ps)->∃more,H' b=some (.tbl (ps++more)))
  (ns:∀m,s.heap.Ns X.env.locals m->h'.Ns X.env.locals m) (hok:HOk X.prog X.w H' h') (hg:AllBare g') :
  Inv X pins σ H' { s with heap:=h',gens:=g',drawn:=d',toks:=t' }:=by
 have neL:∀b o,X.s₀.heap.get? b=some o->b≠X.env.locals:=λb o e=>AAK (AAP (AAF e) I.ok.above)
 have neC:∀b o,X.s₀.heap.get? b=some o->b∉X.ex->b∉ch:=λb o e hx hb=>by
  rcases(hch b hb).1 with z | z
  ·exact hx z
  ·exact absurd (AAP (AAF e) z) (AAf _)
 have cellK:∀x c,X.env.cells.lookup x=some c->∀v,s.heap.IsCell c v->h'.IsCell c v:=λx c e v ⟨o,ho,hd⟩=>by
  have nch:c∉ch:=λz=>(hch c z).2.2.1 x c e rfl
  by_cases hc:c∈X.fs
  ·obtain⟨sl,q⟩:=slot c o (I.cne x c e) hc nch ho (I.freeC x c e)
   exact⟨_,q,hd⟩
  ·exact⟨o,keep c o (I.cne x c e) hc nch ho (I.freeC x c e),hd⟩
 refine⟨I.ok,I.os,hg,⟨λb o e n hb hx=>?_,λb o e n hb hx=>?_,λb o e n hx=>?_,λb o e hx=>?_,λb xs e=>tups b xs (I.base.tups b xs e),λb o xs e=>frzs b o xs (I.base.frzs b o xs e),λb ps e=>?_⟩,?_,λx c e=>?_,?_,λx c e=>?_,λp hp=>?_,hok,I.len⟩
 ·exact keep b o (neL b o e) hb (neC b o e hx) (I.base.keep b o e n hb hx) (I.base.free b o e n hx)
 ·obtain⟨sl,e1⟩:=I.base.slot b o e n hb hx
  obtain⟨sl',e2⟩:=slot b _ (neL b o e) hb (neC b o e hx) e1 (I.base.free b o e n hx)
  exact⟨sl',e2⟩
 ·obtain⟨o',e1⟩:=I.base.there b o e hx
  exact free b o' (neC b o e hx) e1 (I.base.free b o e n hx)
 ·obtain⟨o',e1⟩:=I.base.there b o e hx
  exact there b o' (neC b o e hx) e1
 ·obtain⟨m1,e1⟩:=I.base.tbls b ps e
  obtain⟨m2,e2⟩:=tbls b _ e1
  exact⟨m1++m2,by rw[e2,Array.append_assoc]⟩
 ·obtain⟨m,hn,hl⟩:=I.loc
  refine⟨m,ns m hn,λi x v e1 e2 e3=>?_⟩
  obtain⟨u,r,l⟩:=hl i x v e1 e2 e3
  refine⟨u,r,?_⟩
  rcases l with l | ⟨k,c,e,z⟩
  ·exact .inl l
  ·exact .inr ⟨k,c,e,cellK x c e _ z⟩
 ·obtain⟨v,z⟩:=I.cell x c e
  exact⟨v,cellK x c e v z⟩
 ·obtain⟨m,⟨o,_,_,ho,_⟩,_⟩:=I.loc
  exact free _ o (λz=>(hch _ z).2.1 rfl) ho I.free
 ·obtain⟨v,o,ho,hd⟩:=I.cell x c e
  exact free c o (λz=>(hch c z).2.2.1 x c e rfl) ho (I.freeC x c e)
 ·obtain⟨e,n,ne,nf,d⟩:=I.pin p hp
  have nch:p.1∉ch:=λz=>(hch p.1 z).2.2.2 p hp rfl
  exact⟨keep p.1 p.2 ne nf nch e n,free p.1 p.2 nch e n,ne,nf,d⟩
theorem Inv.un{t':Nat}(I:Inv X pins σ H s)(u:Un X.fs [] H H' s.heap h')(hok:HOk X.prog X.w H' h'):Inv X pins σ H' { s with heap:=h',toks:=t' }:=by
 obtain⟨m,⟨o,es,ep,ho,r⟩,_⟩:=id I.loc
 obtain⟨sl,hL⟩:=u.any ho I.free (by simp)
 exact I.step (g':=s.gens) (d':=s.drawn) (ch:=[]) (λ_ z=>nomatch z) (λb o _ hb _ e n=>u.keep b o e n hb (by simp)) (λb o _ hb _ e n=>u.slot b o e n hb (by simp)) (λb o _ e n=>u.free b o e n (by simp)) (λb o _ e=>u.there b o e (by simp)) u.tups u.frzs u.tbls (λm' hm=>by
  obtain⟨o',es',ep',ho',r'⟩:=hm
  rw[ho]at ho';cases ho'
  exact⟨_,es',ep',hL,r'⟩) hok I.bare
theorem Inv.call{g':Array GenState}{t':Nat}{d':Drawn}{ch:List Addr}(I:Inv X pins σ H s)(u:Un (frs X.stack) ch H H' s.heap h')(hok:HOk X.prog X.w H' h')(hg:AllBare g')
  (hch:∀b∈ch,(b∈X.ex\/X.s₀.heap.objs.size<=b)/\b≠X.env.locals/\(∀x c,X.env.cells.lookup x=some c->c≠b)/\∀p∈X.pn++pins,p.1≠b) :
  Inv X pins σ H' { s with heap:=h',gens:=g',drawn:=d',toks:=t' }:=by
 obtain⟨m,⟨o,es,ep,ho,r⟩,_⟩:=id I.loc
 obtain⟨sl,hL⟩:=u.any ho I.free λz=>(hch _ z).2.1 rfl
 exact I.step (ch:=ch) hch (λb o hL hb hc e n=>u.keep b o e n (λz=>(AAM.mp (I.stkSub b z)).elim hL hb) hc) (λb o _ _ hc e n=>u.any e n hc) (λb o hc e n=>u.free b o e n hc) (λb o hc e=>u.there b o e hc) u.tups u.frzs u.tbls (λm' hm=>by
  obtain⟨o',es',ep',ho',r'⟩:=hm
  rw[ho]at ho';cases ho'
  exact⟨_,es',ep',hL,r'⟩) hok hg
theorem Inv.turned{t':Nat}{it:Addr}(I:Inv X pins σ H s)(k:∀b o,b≠it->s.heap.get? b=some o->h'.get? b=some o)(hn:H it=none)(hL:it≠X.env.locals)
  (h1:it∈X.ex\/X.s₀.heap.objs.size<=it) (h2:∀x c,X.env.cells.lookup x=some c->c≠it) (h3:∀p∈X.pn++pins,p.1≠it):Inv X pins σ H { s with heap:=h',toks:=t' }:=by
 have nit:∀b u,H b=some u->b≠it:=λb u e z=>by rw[z,hn]at e;cases e
 refine I.step (g':=s.gens) (d':=s.drawn) (ch:=[it]) (λb hb=>?_) (λb o _ _ hc e _=>k b o (λz=>hc (by simp[z])) e) (λb o _ _ hc e _=>⟨o.slots,k b o (λz=>hc (by simp[z])) e⟩) (λ_ _ _ _ n=>n)
  (λb o hc e=>⟨o,k b o (λz=>hc (by simp[z])) e⟩) (λ_ _ e=>e) (λ_ _ _ e=>e) (λb ps e=>⟨#[],by rw[e];simp⟩) (λm hm=>?_) (λb u e=>?_) I.bare
 ·have e:b=it:=by simpa using hb
  subst e
  exact⟨h1,hL,h2,h3⟩
 ·obtain⟨o,es,ep,ho,r⟩:=hm
  exact⟨o,es,ep,k _ o (ABO hL) ho,r⟩
 ·refine(I.hok b u e).stay (λc v hc q=>k c v ?_ q) (λ_ q=>q) λ_ _ q=>q
  rcases hc with z | z
  ·rw[z];exact nit b u e
  ·exact nit c _ z
theorem Inv.tok(I:Inv X pins σ H s)(t:Nat):Inv X pins σ H { s with toks:=t }:=I.un (h':=s.heap) (t':=t) Un.refl I.hok
theorem Inv.kept(I:Inv X pins σ H s)(k:∀b u,s.heap.get? b=some u->h'.get? b=some u):Inv X pins σ H { s with heap:=h',toks:=t' }:=I.un (Un.kept k) (I.hok.kept k)
theorem Inv.laid(I:Inv X pins σ H s)(k:∀b u,s.heap.get? b=some u->h'.get? b=some u)(hp:s.heap.objs.size<=a)(new:cu X.prog X.w (upd H a o) h' a o) :
  Inv X pins σ (upd H a o) { s with heap:=h',toks:=t' }:=I.un (Un.laid k hp (I.hok.fresh hp)) (I.hok.laid k hp new)
theorem Inv.write(I:Inv X pins σ H s)(mu:Mut (H x))(he:e=x\/H e=some (.own x))(k:∀b u,b≠e->s.heap.get? b=some u->h'.get? b=some u)(heo:∃u,h'.get? e=some u)
  (new:cu X.prog X.w (upd H x o) h' x o):Inv X pins σ (upd H x o) { s with heap:=h',toks:=t' }:=I.un (Un.write mu he k heo) (I.hok.write mu he k heo new)
theorem Inv.pins_of(I:Inv X pins σ H s)(h:∀p∈pins',s.heap.get? p.1=some p.2/\H p.1=none/\p.1≠X.env.locals/\p.1∉X.fs/\∀v,p.2.data≠.cell v):Inv X pins' σ H s :=
 ⟨I.ok,I.os,I.bare,I.base,I.loc,I.cell,I.free,I.freeC,λp hp=>(AAk.mp hp).elim (λz=>I.pin p (AAr _ z)) (h p),I.hok,I.len⟩
theorem lT{N:List Str}(hN:N.Nodup){i j:Nat}{x:Str}(a:N[i]?=some x)(b:N[j]?=some x):i=j:=by
 obtain⟨h1,e1⟩:=AA7.mp a
 obtain⟨h2,e2⟩:=AA7.mp b
 exact(List.getElem_inj hN).mp (e1.trans e2.symm)
theorem uG{M:Model}{A:Around}{E:Value->Shared->Prop}{i:Nat}{x:Str}{v:V}{u:Value}{Q:Unit->Shared->Prop}(I:Inv X pins σ H s)(hN:X.N.Nodup)(hi:X.N[i]?=some x)(hx:Loc X.env.scope x)(r:aI v u)
  (h:∀s',Inv X pins (σ.set i (some v)) H s'->(∃a,AC4 a s.heap s'.heap/\(a=X.env.locals\/X.env.cells.lookup x=some a))->Q () s') (hf:X.fn x=true\/X.env.scope.names.lookup x=some .local:=by first | exact .inl rfl | exact .inr rfl | assumption):wpAny M A (storeName X.env x u) Q E s:=by
 obtain⟨m,hn,hl⟩:=id I.loc
 have hcls:(X.env.scope.kind==.class||(X.env.scope.kind==.module&&X.env.locals != X.env.globals))=false:=by rw[I.ok.kind];rfl
 have hiσ:i<σ.length:=by rw[I.len];exact(AA7.mp hi).1
 have cne:=I.cne
 have tracked:∀{a:Addr}{h':Heap},(∃o,s.heap.get? a=some o/\H a=none)->AC4 a s.heap h'->HOk X.prog X.w H h':=λ{a h'} ha hs b ob e=>by
  obtain⟨_,_,hfree⟩:=ha
  refine(I.hok b ob e).stay (λc w' hc q=>(hs.2 c ?_).trans q) (λ_ q=>q) λ_ _ q=>q
  rintro rfl
  rcases hc with rfl | hc
  ·rw[hfree]at e;cases e
  ·rw[hfree]at hc;cases hc
 rcases hx with hk | hk
 ·refine wpAny_storeName_local hk hn (λh' hn' hs=>?_) hcls
  obtain⟨oL,_,_,hoL,_⟩:=id hn
  refine h _ ⟨I.ok,I.os,I.bare,⟨λb o e n hb hx=>?_,λb o e n hb hx=>?_,I.base.free,λb o e hx=>?_,I.base.tups,I.base.frzs,I.base.tbls⟩,⟨_,hn',λj y v' e1 e2 e3=>?_⟩,λy c e=>?_,I.free,I.freeC,λp hp=>?_,tracked ⟨oL,hoL,I.free⟩ hs,by simpa using I.len⟩ ⟨_,hs,.inl rfl⟩
  ·exact(hs.2 b (AAK (AAP (AAF e) I.ok.above))).trans (I.base.keep b o e n hb hx)
  ·obtain⟨sl,e1⟩:=I.base.slot b o e n hb hx
   exact⟨sl,(hs.2 b (AAK (AAP (AAF e) I.ok.above))).trans e1⟩
  ·obtain⟨o',e1⟩:=I.base.there b o e hx
   exact⟨o',(hs.2 b (AAK (AAP (AAF e) I.ok.above))).trans e1⟩
  ·by_cases hj:j=i
   ·subst hj
    rw[hi]at e1;cases e1
    rw[AAV hiσ]at e2
    cases e2
    exact⟨u,r,.inl ⟨hk,by simp⟩⟩
   ·rw[AAb (ABO hj)]at e2
    obtain⟨u',r',q⟩:=hl j y v' e1 e2 e3
    refine⟨u',r',?_⟩
    rcases q with⟨k,e⟩|⟨k,c,e,z⟩
    ·refine .inl ⟨k,?_⟩
     have:y≠x:=λe=>hj (lT hN e1 (e ▸ hi))
     simp[this,e]
    ·exact .inr ⟨k,c,e,z.sameBut hs (cne y c e)⟩
  ·obtain⟨w',z⟩:=I.cell y c e
   exact⟨w',z.sameBut hs (cne y c e)⟩
  ·obtain⟨e,n,ne,nf,d⟩:=I.pin p hp
   exact⟨(hs.2 p.1 ne).trans e,n,ne,nf,d⟩
 ·have hfn:X.fn x=true:=by
   rcases hf with z | z
   ·exact z
   ·rw[z]at hk;cases hk
  obtain⟨c,hc⟩:=I.ok.has x (.inl hk)
  obtain⟨w',z⟩:=I.cell x c hc
  refine wpAny_storeName_cell I.ok.kind hk hc z (λh' hc' hs=>?_)
  obtain⟨oc,hoc,hocd⟩:=id z
  refine h { s with heap:=h' } ⟨I.ok,I.os,I.bare,⟨λb o e n hb hx=>?_,λb o e n hb hx=>?_,I.base.free,λb o e hx=>?_,I.base.tups,I.base.frzs,I.base.tbls⟩,⟨m,hn.sameBut hs (ABO (cne x c hc)),λj y v' e1 e2 e3=>?_⟩,λy c' e=>?_,I.free,I.freeC,λp hp=>?_,tracked ⟨oc,hoc,I.freeC x c hc⟩ hs,by simpa using I.len⟩ ⟨c,hs,.inr hc⟩
  ·exact(hs.2 b (AAK (AAP (AAF e) (I.ok.cab x c hfn hc)))).trans (I.base.keep b o e n hb hx)
  ·obtain⟨sl,e1⟩:=I.base.slot b o e n hb hx
   exact⟨sl,(hs.2 b (AAK (AAP (AAF e) (I.ok.cab x c hfn hc)))).trans e1⟩
  ·obtain⟨o',e1⟩:=I.base.there b o e hx
   exact⟨o',(hs.2 b (AAK (AAP (AAF e) (I.ok.cab x c hfn hc)))).trans e1⟩
  ·by_cases hj:j=i
   ·subst hj
    rw[hi]at e1;cases e1
    rw[AAV hiσ]at e2
    cases e2
    exact⟨u,r,.inr ⟨.inl hk,c,hc,hc'⟩⟩
   ·rw[AAb (ABO hj)]at e2
    obtain⟨u',r',q⟩:=hl j y v' e1 e2 e3
    refine⟨u',r',?_⟩
    rcases q with q | ⟨k,c',e,z'⟩
    ·exact .inl q
    ·refine .inr ⟨k,c',e,z'.sameBut hs ?_⟩
     rintro rfl
     exact hj (lT hN e1 (I.ok.inj _ _ _ e hc ▸ hi))
  ·by_cases hcc:c'=c
   ·subst hcc;exact⟨_,hc'⟩
   ·obtain⟨w2,z2⟩:=I.cell y c' e
    exact⟨w2,z2.sameBut hs hcc⟩
  ·obtain⟨e,n,ne,nf,d⟩:=I.pin p hp
   refine⟨(hs.2 p.1 ?_).trans e,n,ne,nf,d⟩
   intro q
   rw[q,hoc]at e
   have q':oc=p.2:=AAN e
   exact d w' (by rw[<-q'];exact hocd)
theorem fP(I:Inv X pins σ H s)(hN:X.N.Nodup)(hi:X.N[i]?=some x)(hx:Loc X.env.scope x)(r:aI v u)
  (h:∀s',Inv X pins (σ.set i (some v)) H s'->Q () s') (hf:X.fn x=true\/X.env.scope.names.lookup x=some .local:=by first | exact .inl rfl | exact .inr rfl | assumption):wpAny M A (storeName X.env x u) Q E s :=
 uG I hN hi hx r (λs' I' _=>h s' I') hf
theorem Inv.call'(I:Inv X pins σ H s)(ho:s'.os=s.os)(u:Un (frs X.stack) ch H H' s.heap s'.heap)(hok:HOk X.prog X.w H' s'.heap)(hg:AllBare s'.gens)
  (hch:∀b∈ch,(b∈X.ex\/X.s₀.heap.objs.size<=b)/\b≠X.env.locals/\(∀x c,X.env.cells.lookup x=some c->c≠b)/\∀p∈X.pn++pins,p.1≠b):Inv X pins σ H' s':=by
 obtain⟨h',g',d',t',o'⟩:=s'
 have e:o'=s.os:=ho
 subst e
 exact I.call (g':=g') (t':=t') (d':=d') u hok hg hch
end
abbrev XK:=Value->Option Addr->Hp->Prop
noncomputable abbrev St:=List (Option V)
abbrev VK:=V->Hp->Prop
abbrev TE:=St->Hp->VK->Prop
abbrev TT:=St->Hp->(Bool->Hp->Prop)->Prop
abbrev TA:=St->Hp->(List V->Hp->Prop)->Prop
structure Ends where
 nx:St->Hp->Prop
 rt:VK
 bk:St->Hp->Prop:=λ_ _=>False
 ct:St->Hp->Prop:=λ_ _=>False
abbrev TS:=Ends->St->Hp->Prop
inductive EP(X:Cx)(pins:List (Addr×Obj))(σ:St)(Q:VK)(u:Value)(s':Shared):Prop
 | mk (v:_) (H':_) (f0:Inv X pins σ H' s') (f1:aI v u) (f2:Q v H')
inductive TP(X:Cx)(pins:List (Addr×Obj))(σ:St)(Q:Bool->Hp->Prop)(b:Bool)(s':Shared):Prop
 | mk (H':_) (f0:Inv X pins σ H' s') (f1:Q b H')
inductive AP(X:Cx)(pins:List (Addr×Obj))(σ:St)(Q:List V->Hp->Prop)(us:List Value)(s':Shared):Prop
 | mk (vs:_) (H':_) (f0:Inv X pins σ H' s') (f1:au vs us) (f2:Q vs H')
def SP(X:Cx)(pins:List (Addr×Obj))(D:Ends)(f:Flow)(s':Shared):Prop :=
 match f with
 | .next=>∃σ' H',Inv X pins σ' H' s'/\D.nx σ' H'
 | .brk=>∃σ' H',Inv X pins σ' H' s'/\D.bk σ' H'
 | .cont=>∃σ' H',Inv X pins σ' H' s'/\D.ct σ' H'
 | .ret u=>∃v σ' H',Inv X pins σ' H' s'/\aI v u/\D.rt v H'
def PE(X:Cx)(e:Expr)(t:TE):Prop :=
 ∀(pins:List (Addr×Obj)) (s:Shared) (σ:St) (H:Hp) (Q:VK),Inv X pins σ H s->t σ H Q->wpAny (model X.prog X.w) X.A (eval e X.env) (EP X pins σ Q) X.xe s
def PT(X:Cx)(e:Expr)(t:TT):Prop :=
 ∀(pins:List (Addr×Obj)) (s:Shared) (σ:St) (H:Hp) (Q:Bool->Hp->Prop),Inv X pins σ H s->t σ H Q->wpAny (model X.prog X.w) X.A (isTrue e X.env (eval e X.env)) (TP X pins σ Q) X.xe s
def PW(X:Cx)(e:Expr)(t:TT):Prop :=
 ∀(whole:Sem Value) (pins:List (Addr×Obj)) (s:Shared) (σ:St) (H:Hp) (Q:Bool->Hp->Prop),Inv X pins σ H s->t σ H Q->wpAny (model X.prog X.w) X.A (isTrue e X.env whole) (TP X pins σ Q) X.xe s
theorem PW.pt(h:PW X e t):PT X e t:=h _
def PA(X:Cx)(es:List Expr)(t:TA):Prop :=
 ∀(pos:Pos) (pins:List (Addr×Obj)) (s:Shared) (σ:St) (H:Hp) (Q:List V->Hp->Prop),Inv X pins σ H s->t σ H Q->wpAny (model X.prog X.w) X.A (spliced (backTo pos (starEach es X.env))) (AP X pins σ Q) X.xe s
def PS(X:Cx)(st:Stmt)(t:TS):Prop :=
 ∀(pins:List (Addr×Obj)) (s:Shared) (σ:St) (H:Hp) (D:Ends),Inv X pins σ H s->t D σ H->wpAny (model X.prog X.w) X.A (exec st X.env) (SP X pins D) X.xe s
def PSs(X:Cx)(st:List Stmt)(t:TS):Prop :=
 ∀(pins:List (Addr×Obj)) (s:Shared) (σ:St) (H:Hp) (D:Ends),Inv X pins σ H s->t D σ H->wpAny (model X.prog X.w) X.A (execs st X.env) (SP X pins D) X.xe s
theorem thn{α:Type}{t:Sem α}{Q Q':α->Shared->Prop}{M:Model}{A:Around}{E:Value->Shared->Prop}{s:Shared}(h:wpAny M A t Q E s)(hQ:∀a s,Q a s->Q' a s):wpAny M A t Q' E s:=AAp h hQ λ_ _ x=>x
section
variable{X:Cx}
def tVar(i:Nat):TE:=λσ H Q=>∃v,σ[i]?=some (some v)/\Q v H
def tC(v:V):TE:=λ_ H Q=>Q v H
theorem yQ(hN:X.N[i]?=some x)(hv:Vis X.env.scope x)(hd:(x==("__debug__":Str))=false:=by decide)(hcd:(x==("__classdict__":Str))=false:=by decide):PE X (.Name x pos) (tVar i):=by
 intro pins s σ H Q I h
 obtain⟨v,e,h⟩:=h
 obtain⟨m,hn,hl⟩:=I.loc
 obtain⟨u,r,l⟩:=hl i x v hN e hv
 have fin:EP X pins σ Q u s:=⟨v,H,I,r,h⟩
 rcases l with⟨hk,hm⟩|⟨hk,c,hc,hcell⟩
 ·exact wpAny_Name (wpAny_loadName_local I.ok.kind hk hn hm fin) hd
 ·rcases hk with hk | hk
  ·exact wpAny_Name (wpAny_loadName_cell I.ok.kind hk hc hcell fin) hd
  ·exact wpAny_Name (wpAny_loadName_free I.ok.kind hk hc hcell fin hcd) hd
theorem CS{i j pos}:PE X (.Constant (.int i) j pos) (tC (.int i)):=λ_ _ _ H _ I h=>wpAny_Constant_int ⟨.int i,H,I.tok _,⟨_,rfl⟩,h⟩
theorem pe_bl{b j pos}:PE X (.Constant (.bool b) j pos) (tC (.bl b)):=λ_ _ _ H _ I h=>Constant_bool ⟨.bl b,H,I,rfl,h⟩
theorem CP{j pos}:PE X (.Constant .none j pos) (tC .non):=λ_ _ _ H _ I h=>Constant_none ⟨.non,H,I,rfl,h⟩
theorem CM{x j pos}:PE X (.Constant (.str x) j pos) (tC (.str x)):=λ_ _ _ H _ I h=>Calls.Constant_str ⟨.str x,H,I.tok _,⟨_,rfl⟩,h⟩
def Gl(X:Cx)(x:Str):Prop:=X.env.kindOf x=some .globalImplicit
theorem jB(I:Inv X pins σ H s)(hg:Gl X x)(hm:X.mg x=some u)(h:Q u s)
  (hd:(x==("__debug__":Str))=false:=by decide):wpAny (model X.prog X.w) X.A (eval (.Name x pos) X.env) Q E s :=
 Calls.Name_function_global I.ok.kind hg (Calls.loadGlobal_global (by rw[I.ok.glob];exact I.mod.glob.keeps I.bk) hm h) hd
theorem gi(I:Inv X pins σ H s)(hg:Gl X x)(hm:X.mg x=none)(hv:bootBuiltins x=some u)(h:Q u s)
  (hn:x≠"__name__":=by decide) (hd:(x==("__debug__":Str))=false:=by decide):wpAny (model X.prog X.w) X.A (eval (.Name x pos) X.env) Q E s:=by
 obtain⟨mb,h1,h2⟩:=I.mod.blt
 exact Calls.Name_function_global I.ok.kind hg (Calls.loadGlobal_builtin (by rw[I.ok.glob];exact I.mod.glob.keeps I.bk) hm (by rw[I.ok.blt];exact h1.keeps I.bk) ((h2 x hn).trans hv) h) hd
theorem zW(hg:Gl X x)(hm:X.mg x=some u)(r:aI v u)(hd:(x==("__debug__":Str))=false:=by decide):PE X (.Name x pos) (tC v) :=
 λ_ _ _ H _ I h=>jB I hg hm ⟨v,H,I,r,h⟩ hd
theorem uX(hg:Gl X x)(hm:X.mg x=none)(hv:bootBuiltins x=some u)(r:aI v u)(hn:x≠"__name__":=by decide)(hd:(x==("__debug__":Str))=false:=by decide):PE X (.Name x pos) (tC v) :=
 λ_ _ _ H _ I h=>gi I hg hm hv ⟨v,H,I,r,h⟩ hn hd
variable{a b:Expr}{ta tb:TE}{pos:Pos}
theorem aI.none_iff(r:aI x v):(v==ABi)=decide (x=.non):=by
 cases x with
 | non=>cases r;rfl
 | bl _=>cases r;rfl
 | int _=>obtain⟨t,rfl⟩:=r;rfl
 | str _=>obtain⟨t,rfl⟩:=r;rfl
 | byt _=>obtain⟨t,rfl⟩:=r;rfl
 | flt _=>obtain⟨t,rfl⟩:=r;rfl
 | ref _=>cases r;rfl
 | ty _=>cases r;rfl
def tB(t:TE):TT:=λσ H Q=>t σ H λx H1=>∃c,x=.bl c/\Q c H1
theorem Cz(h:PE X e t)(he:∀whole,isTrue e X.env whole=(do let v <-whole;standAt e.pos;holding [v] (truthy v)):=by intro _;rfl):PT X e (tB t):=by
 intro pins s σ H Q I hw
 refine isTrue_plain (thn (h pins s σ H _ I hw) ?_) (he _)
 rintro v s1 ⟨x,H1,I1,r1,q1⟩
 obtain⟨d,rfl,q⟩:=q1
 cases r1
 exact ACM ⟨H1,I1,q⟩
variable{tA tB':TT}{aE:List Expr}
def tAnd(t u:TT):TT:=λσ H Q=>t σ H λc H1=>if c=true then u σ H1 Q else Q false H1
def tOr(t u:TT):TT:=λσ H Q=>t σ H λc H1=>if c=true then Q true H1 else u σ H1 Q
def tNot(t:TT):TT:=λσ H Q=>t σ H λc H1=>Q (!c) H1
theorem zL(ha:PT X a tA):PW X (.BoolOp .And [a] pos) tA:=by
 intro wh pins s σ H Q I h
 refine isTrue_and (thn (ha pins s σ H Q I h) λc s1 e=>?_)
 cases c with
 | true=>exact isTrue_and_nil e
 | false=>exact e
theorem Cw(ha:PT X a tA):PW X (.BoolOp .Or [a] pos) tA:=by
 intro wh pins s σ H Q I h
 refine isTrue_or (thn (ha pins s σ H Q I h) λc s1 e=>?_)
 cases c with
 | false=>exact isTrue_or_nil e
 | true=>exact e
theorem Cy(ha:PT X a tA)(hb:PW X (.BoolOp .And (b::aE) pos) tB'):PW X (.BoolOp .And (a::b::aE) pos) (tAnd tA tB'):=by
 intro wh pins s σ H Q I h
 refine isTrue_and (thn (ha pins s σ H _ I h) ?_)
 rintro c s1 ⟨H1,I1,q1⟩
 cases c with
 | true=>exact hb wh pins s1 σ H1 Q I1 q1
 | false=>exact⟨H1,I1,q1⟩
theorem pw_or(ha:PT X a tA)(hb:PW X (.BoolOp .Or (b::aE) pos) tB'):PW X (.BoolOp .Or (a::b::aE) pos) (tOr tA tB'):=by
 intro wh pins s σ H Q I h
 refine isTrue_or (thn (ha pins s σ H _ I h) ?_)
 rintro c s1 ⟨H1,I1,q1⟩
 cases c with
 | true=>exact⟨H1,I1,q1⟩
 | false=>exact hb wh pins s1 σ H1 Q I1 q1
theorem CA(ha:PT X a tA):PT X (.UnaryOp .Not a pos) (tNot tA):=by
 intro pins s σ H Q I h
 refine isTrue_not (thn (ha pins s σ H (λc H1=>Q (!c) H1) I h) ?_)
 rintro c s1 ⟨H1,I1,q1⟩
 exact⟨H1,I1,q1⟩
def tAndV(ta tb:TE):TE:=λσ H Q=>ta σ H λx H1=>∃c,x=.bl c/\if c=true then tb σ H1 Q else Q (.bl false) H1
def tOrV(ta tb:TE):TE:=λσ H Q=>ta σ H λx H1=>∃c,x=.bl c/\if c=true then Q (.bl true) H1 else tb σ H1 Q
def tNotV(ta:TE):TE:=λσ H Q=>ta σ H λx H1=>∃c,x=.bl c/\Q (.bl (!c)) H1
theorem CN{op}(h:PE X a t):PE X (.BoolOp op [a] pos) t:=λpins s σ H Q I hw=>BoolOp_one (h pins s σ H Q I hw)
theorem CT(ha:PE X a ta)(hb:PE X (.BoolOp .And (b::aE) pos) tb):PE X (.BoolOp .And (a::b::aE) pos) (tAndV ta tb):=by
 intro pins s σ H Q I h
 refine BoolOp_and (thn (ha pins s σ H _ I h) ?_)
 rintro v s1 ⟨x,H1,I1,r1,q1⟩
 obtain⟨c,rfl,q1⟩:=q1
 cases r1
 refine ACM ?_
 cases c with
 | true=>exact hb pins s1 σ H1 Q I1 q1
 | false=>exact⟨.bl false,H1,I1,rfl,q1⟩
theorem pe_or(ha:PE X a ta)(hb:PE X (.BoolOp .Or (b::aE) pos) tb):PE X (.BoolOp .Or (a::b::aE) pos) (tOrV ta tb):=by
 intro pins s σ H Q I h
 refine BoolOp_or (thn (ha pins s σ H _ I h) ?_)
 rintro v s1 ⟨x,H1,I1,r1,q1⟩
 obtain⟨c,rfl,q1⟩:=q1
 cases r1
 refine ACM ?_
 cases c with
 | false=>exact hb pins s1 σ H1 Q I1 q1
 | true=>exact⟨.bl true,H1,I1,rfl,q1⟩
theorem CO(ha:PE X a ta):PE X (.UnaryOp .Not a pos) (tNotV ta):=by
 intro pins s σ H Q I h
 refine UnaryOp_ (thn (ha pins s σ H _ I h) ?_)
 rintro v s1 ⟨x,H1,I1,r1,q1⟩
 obtain⟨c,rfl,q1⟩:=q1
 cases r1
 exact not_of (ACM ⟨.bl (!c),H1,I1,rfl,q1⟩)
end
def SqL(K:AA3)(H:Hp)(a:Addr)(xs:List V):Prop :=
 Rd H a (.lst xs) \/
  ∃(o:Obj) (its:Array Value) (n:Nat),K.lookup a=some o/\o.cls=.type "list"/\o.dict=none/\o.data=.seq its n/\its.size<=sizeLine/\au xs its.toList
def SqT(K:AA3)(H:Hp)(a:Addr)(xs:List V):Prop :=
 Rd H a (.tup xs) \/
  ∃(o:Obj) (its:Array Value) (n:Nat),K.lookup a=some o/\o.cls=.type "tuple"/\o.dict=none/\o.data=.seq its n/\its.size<=sizeLine/\au xs its.toList
noncomputable def absV:Value->Option V
 | .none=>some .non
 | .bool b=>some (.bl b)
 | .int i _=>some (.int i)
 | .str x _=>some (.str x)
 | .bytes b _=>some (.byt b)
 | .float b _=>some (.flt b)
 | .ref a=>some (.ref a)
 | .type n=>some (.ty n)
 | _=>none
theorem aI.abs(r:aI x u):absV u=some x:=by
 cases x with
 | non=>cases r;rfl
 | bl _=>cases r;rfl
 | int _=>obtain⟨t,rfl⟩:=r;rfl
 | str _=>obtain⟨t,rfl⟩:=r;rfl
 | byt _=>obtain⟨t,rfl⟩:=r;rfl
 | flt _=>obtain⟨t,rfl⟩:=r;rfl
 | ref _=>cases r;rfl
 | ty _=>cases r;rfl
theorem aI.inj(r:aI x u)(q:aI y u):x=y:=AAN (r.abs.symm.trans q.abs)
theorem au.inj(h:au xs us)(h':au ys us):xs=ys:=by
 induction h generalizing ys with
 | nil=>cases h';rfl
 | cons r t ih=>cases h' with
  | cons r' t'=>rw[r.inj r',ih t']
section
variable{X:Cx}{pins:List (Addr×Obj)}{σ:St}{H:Hp}{s:Shared}{a:Addr}{xs ys:List V}
theorem SqT.of{K:AA3}(h:H a=some (.tup xs)):SqT K H a xs:=.inl (.inl h)
theorem Inv.list(I:Inv X pins σ H s)(h:SqL X.K H a xs):∃its:List Value,au xs its/\PlainL s.heap a its.toArray/\xs.length<=sizeLine:=by
 rcases h with h | ⟨o,its,n,hk,hc,hd,hs,hz,r⟩
 ·obtain⟨z,its,n,r,e⟩:=h.ok I.hok
  exact⟨its,r,⟨_,n,e,rfl,rfl,rfl⟩,z⟩
 ·refine⟨its.toList,r,⟨o,n,I.kIn a o hk,hc,hd,by simpa using hs⟩,?_⟩
  have e:=r.length
  simp only[AAO]at e
  lia
theorem Inv.tuple(I:Inv X pins σ H s)(h:SqT X.K H a xs):∃its:List Value,au xs its/\IsTup s.heap a its.toArray/\xs.length<=sizeLine:=by
 rcases h with h | ⟨o,its,n,hk,hc,_,hs,hz,r⟩
 ·obtain⟨z,its,r,p⟩:=h.ok I.hok
  exact⟨its,r,p.tup,z⟩
 ·refine⟨its.toList,r,⟨o,I.kIn a o hk,hc,n,by simpa using hs⟩,?_⟩
  have e:=r.length
  simp only[AAO]at e
  lia
theorem Inv.list_inj(I:Inv X pins σ H s)(h:SqL X.K H a xs)(h':SqL X.K H a ys):xs=ys:=by
 obtain⟨its,r,⟨o,n,e,_,_,d⟩,_⟩:=I.list h
 obtain⟨its',r',⟨o',n',e',_,_,d'⟩,_⟩:=I.list h'
 rw[e]at e';cases e'
 rw[d]at d'
 injection d' with d1 _
 have:its=its':=by simpa using congrArg Array.toList d1
 subst this
 exact r.inj r'
theorem Inv.tuple_inj(I:Inv X pins σ H s)(h:SqT X.K H a xs)(h':SqT X.K H a ys):xs=ys:=by
 obtain⟨its,r,⟨o,e,_,n,d⟩,_⟩:=I.tuple h
 obtain⟨its',r',⟨o',e',_,n',d'⟩,_⟩:=I.tuple h'
 rw[e]at e';cases e'
 rw[d]at d'
 injection d' with d1 _
 have:its=its':=by simpa using congrArg Array.toList d1
 subst this
 exact r.inj r'
end
noncomputable abbrev Cx.wish(X:Cx)(E:Value->Shared->Prop):Cx:={ X with xe:=E }
noncomputable abbrev Cx.nox(X:Cx):Cx:=X.wish λ_ _=>False
theorem Cx.Ok.wish{X:Cx}(ok:X.Ok)(E:Value->Shared->Prop):(X.wish E).Ok :=
 ⟨ok.mod,ok.kind,ok.glob,ok.blt,ok.above,ok.inj,ok.has,ok.cab,ok.hd,ok.frames,ok.stk,ok.exf,ok.bs,ok.bsz,ok.noex,ok.exfs,ok.funs,ok.frf⟩
theorem Cx.Ok.unwish{X:Cx}{E:Value->Shared->Prop}(ok:(X.wish E).Ok):X.Ok :=
 ⟨ok.mod,ok.kind,ok.glob,ok.blt,ok.above,ok.inj,ok.has,ok.cab,ok.hd,ok.frames,ok.stk,ok.exf,ok.bs,ok.bsz,ok.noex,ok.exfs,ok.funs,ok.frf⟩
section
variable{X:Cx}{pins:List (Addr×Obj)}{σ:St}{H:Hp}{s:Shared}{E:Value->Shared->Prop}
theorem Inv.wish(I:Inv X pins σ H s)(E:Value->Shared->Prop):Inv (X.wish E) pins σ H s:=⟨I.ok.wish E,I.os,I.bare,I.base,I.loc,I.cell,I.free,I.freeC,I.pin,I.hok,I.len⟩
theorem Inv.unwish(I:Inv (X.wish E) pins σ H s):Inv X pins σ H s:=⟨I.ok.unwish,I.os,I.bare,I.base,I.loc,I.cell,I.free,I.freeC,I.pin,I.hok,I.len⟩
theorem SP.unwish(h:SP (X.wish E) pins D f s'):SP X pins D f s':=by
 cases f with
 | next=>obtain⟨σ',H',I,q⟩:=h;exact⟨σ',H',I.unwish,q⟩
 | brk=>obtain⟨σ',H',I,q⟩:=h;exact⟨σ',H',I.unwish,q⟩
 | cont=>obtain⟨σ',H',I,q⟩:=h;exact⟨σ',H',I.unwish,q⟩
 | ret u=>obtain⟨v,σ',H',I,r,q⟩:=h;exact⟨v,σ',H',I.unwish,r,q⟩
theorem PE.nox(h:PE X.nox e t):PE X e t:=λpins s σ H Q I hw =>
 AAp (h pins s σ H Q (I.wish _) hw) (λ_ _ ⟨v,H',I',r,q⟩=>⟨v,H',I'.unwish,r,q⟩) λ_ _ z=>ABZ z
theorem PSs.nox{st:List Stmt}{t:TS}(h:PSs X.nox st t):PSs X st t:=λpins s σ H D I hw =>
 AAp (h pins s σ H D (I.wish _) hw) (λ_ _ q=>q.unwish) λ_ _ z=>ABZ z
end
section
variable{X:Cx}{st:Stmt}{aE:List Stmt}{t u:TS}{e:Expr}{te:TE}{pos:Pos}
def tNext:TS:=λD σ H=>D.nx σ H
def tSeq(t u:TS):TS:=λD σ H=>t { D with nx:=u D } σ H
theorem zQ:PSs X [] tNext:=λ_ _ σ H _ I h=>ACl ⟨σ,H,I,h⟩
theorem xt(h1:PS X st t)(h2:PSs X aE u):PSs X (st::aE) (tSeq t u):=by
 intro pins s σ H D I h
 refine ADv (thn (h1 pins s σ H { D with nx:=u D } I h) λf s1 q=>?_)
 cases f with
 | next =>
  obtain⟨σ',H',I',q⟩:=q
  exact h2 pins s1 σ' H' D I' q
 | ret v=>exact q
 | brk=>exact q
 | cont=>exact q
theorem zP(h1:PS X st t):PSs X [st] t:=by
 intro pins s σ H D I h
 refine ADv (thn (h1 pins s σ H D I h) λf s1 q=>?_)
 cases f with
 | next=>exact ACl q
 | ret v=>exact q
 | brk=>exact q
 | cont=>exact q
theorem Inv.quiet(I:Inv X pins σ H s):interactive X.env=false:=by simp[interactive,I.ok.kind]
def tDrop(te:TE):TS:=λD σ H=>te σ H λ_ H1=>D.nx σ H1
theorem zR(he:PE X e te)(hs:swapsWith e none pos.line X.env=pure false:=by rfl):PS X (.Expr e pos) (tDrop te):=by
 intro pins s σ H D I h
 exact wpAny_Expr_any (thn (he pins s σ H _ I h) λv s1 ⟨x,H1,I1,r1,q1⟩=>⟨σ,H1,I1,q1⟩) I.quiet hs
def tRet(te:TE):TS:=λD σ H=>te σ H D.rt
theorem CC(he:PE X e te):PS X (.Return (some e) pos) (tRet te):=by
 intro pins s σ H D I h
 refine wpAny_Return_some (thn (he pins s σ H _ I h) ?_)
 rintro v s1 ⟨x,H1,I1,r1,q1⟩
 exact⟨x,σ,H1,I1,r1,q1⟩
def tIfS(c:TT)(t u:TS):TS:=λD σ H=>c σ H λb H1=>if b=true then t D σ H1 else u D σ H1
theorem ps_if(hc:PT X c tc)(ha:PSs X a t)(hb:PSs X b u):PS X (.If c a b pos) (tIfS tc t u):=by
 intro pins s σ H D I h
 refine wpAny_If (thn (hc pins s σ H _ I h) ?_)
 rintro d s1 ⟨H1,I1,q1⟩
 cases d with
 | true=>exact ha pins s1 σ H1 D I1 q1
 | false=>exact hb pins s1 σ H1 D I1 q1
end
abbrev TG:=V->St->Hp->(St->Hp->Prop)->Prop
abbrev TGs:=List V->St->Hp->(St->Hp->Prop)->Prop
def PG(X:Cx)(target:Expr)(t:TG):Prop :=
 ∀(pins:List (Addr×Obj)) (s:Shared) (σ:St) (H:Hp) (v:V) (u:Value) (Q:St->Hp->Prop),Inv X pins σ H s->aI v u->t v σ H Q ->
  wpAny (model X.prog X.w) X.A (assign target X.env u) (λ_ s'=>∃σ' H',Inv X pins σ' H' s'/\Q σ' H') X.xe s
def PGs(X:Cx)(ts:List Expr)(t:TGs):Prop :=
 ∀(pins:List (Addr×Obj)) (s:Shared) (σ:St) (H:Hp) (vs:List V) (us:List Value) (Q:St->Hp->Prop),Inv X pins σ H s->au vs us->t vs σ H Q ->
  wpAny (model X.prog X.w) X.A (assignInOrder ((assignEach ts X.env).map (·.2)) us) (λ_ s'=>∃σ' H',Inv X pins σ' H' s'/\Q σ' H') X.xe s
abbrev TSet:=V->V->V->Hp->(Hp->Prop)->Prop
def PSet(X:Cx)(t:TSet):Prop :=
 ∀(pins:List (Addr×Obj)) (s:Shared) (σ:St) (H:Hp) (o i v:V) (ov iv u:Value) (Q:Hp->Prop),Inv X pins σ H s->aI o ov->aI i iv->aI v u->t o i v H Q ->
  wpAny (model X.prog X.w) X.A (setItem ov iv u) (λ_ s'=>∃H',Inv X pins σ H' s'/\Q H') X.xe s
section
variable{X:Cx}{pos:Pos}
def Ep(i:Nat):TG:=λv σ H Q=>Q (σ.set i (some v)) H
theorem zV(hN:X.N.Nodup)(hi:X.N[i]?=some x)(hx:Loc X.env.scope x)(hf:X.fn x=true\/X.env.scope.names.lookup x=some .local:=by first | exact .inl rfl | exact .inr rfl | assumption):PG X (.Name x pos) (Ep i):=by
 intro pins s σ H v u Q I r h
 exact wpAny_assign_Name (fP I hN hi hx r (λs' I'=>⟨_,H,I',h⟩) hf)
def gNil:TGs:=λvs σ H Q=>vs=[]/\Q σ H
def gCons(t:TG)(u:TGs):TGs:=λvs σ H Q=>∃v r,vs=v::r/\t v σ H λσ' H'=>u r σ' H' Q
theorem zU:PGs X [] gNil:=by
 intro pins s σ H vs us Q I r h
 obtain⟨e,h⟩:=h
 subst e
 cases r
 exact assignInOrder_nil ⟨σ,H,I,h⟩
theorem xw(h1:PG X e t)(h2:PGs X es u)
  (hs:(assignEach (e::es) X.env).map (·.2)=assign e X.env::(assignEach es X.env).map (·.2):=by rfl):PGs X (e::es) (gCons t u):=by
 intro pins s σ H vs us Q I r h
 obtain⟨v,vr,e1,h⟩:=h
 subst e1
 cases r with
 | cons r rr =>
  rw[hs]
  refine assignInOrder_cons (thn (h1 pins s σ H _ _ _ I r h) ?_)
  rintro _ s1 ⟨σ1,H1,I1,q1⟩
  exact h2 pins s1 σ1 H1 _ _ Q I1 rr q1
def gTup(K:AA3)(n:Nat)(t:TGs):TG:=λv σ H Q=>∃a xs,v=.ref a/\SqT K H a xs/\xs.length=n/\t xs σ H Q
theorem CI(hc:X.calm=true)(h:PGs X es t)
  (hn:(assignEach es X.env).length=n:=by rfl) (hst:(assignEach es X.env).findIdx? (·.1)=none:=by rfl):PG X (.Tuple es k pos) (gTup X.K n t):=by
 intro pins s σ H v u Q I r hw
 obtain⟨a,xs,e1,hq,hl,hw⟩:=hw
 subst e1
 cases r
 obtain⟨its,rv,ht,hz⟩:=I.tuple hq
 refine assign_Tuple_tuple (I.ok.hd hc) ht (by simp[hn,<-hl,rv.length]) hst λh' hx=>?_
 have I1:Inv X pins σ H { s with heap:=h' }:=I.kept (t':=s.toks) λb o e=>hx b o (AAK (AAF e)) e
 exact h pins _ σ H xs _ Q I1 (by simpa using rv) hw
def gSub(to ti:TE)(t:TSet):TG:=λv σ H Q=>to σ H λo H1=>ti σ H1 λi H2=>t o i v H2 λH3=>Q σ H3
theorem CJ(ho:PE X o to)(hi:PE X i ti)(hs:PSet X t)
  (ha:∀v,assign (.Subscript o i pos) X.env v=(do
   let ov <-holding [v] (eval o X.env)
   let iv <-holding [v,ov] (eval i X.env)
   standAt pos
   holding [v,ov,iv] (setItem ov iv v)
   release [v,ov,iv] []):=by intro _;rfl):PG X (.Subscript o i pos) (gSub to ti t):=by
 intro pins s σ H v u Q I r h
 rw[ha]
 refine AA0 (AAd (thn (ho pins s σ H _ I h) ?_))
 rintro ov s1 ⟨x,H1,I1,r1,q1⟩
 refine AA0 (AAd (thn (hi pins s1 σ H1 _ I1 q1) ?_))
 rintro iv s2 ⟨y,H2,I2,r2,q2⟩
 refine AA0 (wpAny_standAt (AA0 (AAd (thn (hs pins s2 σ H2 x y v ov iv u _ I2 r1 r2 r q2) ?_))))
 rintro _ s3 ⟨H3,I3,q3⟩
 exact wpAny_release ⟨σ,H3,I3,q3⟩
def tAsg(te:TE)(g:TG):TS:=λD σ H=>te σ H λx H1=>g x σ H1 D.nx
theorem CF(he:PE X e te)(hg:PG X tg g)(hs:swapsWithSole [tg] e pos.line X.env=pure false:=by rfl)(hw:swappedStores [tg] e X.env=pure none:=by rfl)
  (h1:(assignEach [tg] X.env).map (·.2)=[assign tg X.env]:=by rfl):PS X (.Assign [tg] e pos) (tAsg te g):=by
 intro pins s σ H D I h
 refine wpAny_Assign_stores (thn (he pins s σ H _ I h) ?_) hs hw
 rintro v s1 ⟨x,H1,I1,r1,q1⟩
 rw[h1]
 exact thn (hg pins s1 σ H1 x v _ I1 r1 q1) λ_ s2 q=>q
theorem CB(hN:X.N.Nodup)(hi:X.N[i]?=some x)(hx:Loc X.env.scope x)(he:PE X e te)(hs:swapsWith e (some (.Name x pos')) pos.line X.env=pure false:=by rfl)(hf:X.fn x=true\/X.env.scope.names.lookup x=some .local:=by first | exact .inl rfl | exact .inr rfl | assumption) :
  PS X (.Assign [.Name x pos'] e pos) (tAsg te (Ep i)):=by
 intro pins s σ H D I h
 refine wpAny_Assign_Name (thn (he pins s σ H _ I h) ?_) hs
 rintro v s1 ⟨y,H1,I1,r1,q1⟩
 exact fP I1 hN hi hx r1 (λs2 I2=>⟨_,H1,I2,q1⟩) hf
end
structure It where
 go:Nat->Hp->Prop
 yld:Nat->Hp->V->Hp->Prop
 stop:Nat->Hp->Prop
def tP(X:Cx)(pins:List (Addr×Obj))(H:Hp)(b:Addr):Prop :=
 H b=none/\b≠X.env.locals/\b∉X.fs/\(b∈X.ex\/X.s₀.heap.objs.size<=b)/\(∀x c,X.env.cells.lookup x=some c->c≠b)/\∀p∈X.pn++pins,p.1≠b
theorem Inv.fpOk(I:Inv X pins σ H s)(hb:s.heap.objs.size<=b)(hn:H' b=none):tP X pins H' b:=by
 refine⟨hn,Nat.ne_of_gt (AAP I.lt hb),I.nofs hb,.inr (AB0 I.sz hb),λx c e z=>?_,λp hp z=>?_⟩
 ·obtain⟨v,q⟩:=I.cell x c e
  exact absurd (AAP q.lt (by rw[z];exact hb)) (AAf _)
 ·exact absurd (AAP (AAF (I.pin p hp).1) (by rw[z];exact hb)) (AAf _)
structure Turn(P:Program)(w:World)(K:AA3)(tg:Expr)(J:It)(fp:List Addr)(it:Addr)(tn:Nat->Heap->Prop):Prop where
 mem:it∈fp
 obj:∀i h,tn i h->∀b∈fp,∃o,h.get? b=some o/\∀v,o.data≠.cell v
 keep:∀i h h',tn i h->(∀b∈fp,∀o,h.get? b=some o->h'.get? b=some o)->tn i h'
 item:∀(X:Cx),X.prog=P->X.w=w->X.K=K->X.calm=true->∀(i:Nat) (pins:List (Addr×Obj)) (s:Shared) (σ:St) (H:Hp) (E:Value->Shared->Prop),Inv X pins σ H s->(∀b∈fp,tP X pins H b)->tn i s.heap->J.go i H ->
  wpAny (model P w) X.A (pyNext (.ref it)) (λr s1=>∃u,r=some u /\
   wpAny (model P w) X.A (letOwnedTupleGo tg (.ref it) u) (λ_ s2=>∃x H',Inv X pins σ H' s2/\aI x u/\J.yld i H x H'/\tn (i+1) s2.heap/\∀b∈fp,H' b=none) E s1) E s
 done:∀(X:Cx),X.prog=P->X.w=w->X.K=K->X.calm=true->∀(i:Nat) (pins:List (Addr×Obj)) (s:Shared) (σ:St) (H:Hp) (E:Value->Shared->Prop),Inv X pins σ H s->(∀b∈fp,tP X pins H b)->tn i s.heap->J.stop i H ->
  wpAny (model P w) X.A (pyNext (.ref it)) (λr s1=>r=none/\Inv X pins σ H s1) E s
 self:∀(A:Around) (i:Nat) (s:Shared) (Q:Value->Shared->Prop) (E:Value->Shared->Prop),tn i s.heap->Q (.ref it) s->wpAny (model P w) A (pyIter (.ref it)) Q E s
abbrev TI:=St->Hp->(It->Hp->Prop)->Prop
inductive PIE(X:Cx)(pins:List (Addr×Obj))(σ:St)(tg:Expr)(R:It->Hp->Prop)(itv:Value)(s2:Shared):Prop
 | mk (it:Addr) (fp:List Addr) (tn:Nat->Heap->Prop) (J:It) (H':Hp) (f0:itv=.ref it) (f1:Inv X pins σ H' s2) (f2:Turn X.prog X.w X.K tg J fp it tn) (f3:tn 0 s2.heap) (f4:(∀b∈fp,tP X pins H' b)) (f5:R J H')
def PI(X:Cx)(tg iter:Expr)(wi:TI):Prop :=
 ∀(pins:List (Addr×Obj)) (s:Shared) (σ:St) (H:Hp) (R:It->Hp->Prop),Inv X pins σ H s->wi σ H R ->
  wpAny (model X.prog X.w) X.A (eval iter X.env) (λv s1=>wpAny (model X.prog X.w) X.A (pyIter v) (PIE X pins σ tg R) X.xe s1) X.xe s
theorem tj(ho:s.heap.get? it=some o)(hc:o.cls=.type n)(hd:o.data=.fields vs)
  (hn:["enumerate","zip","dict_itemiterator","dict_reverseitemiterator","odict_iterator","itertools.zip_longest","itertools.pairwise"].contains n=false) (hQ:Q () s):wpAny M A (letOwnedTupleGo tg (.ref it) u) Q E s:=by
 unfold letOwnedTupleGo
 cases tg<;>first
  | exact AA2 hQ
  | (cases u<;>first
    | exact AA2 hQ
    | (refine AA0 (wpAny_load ho ?_);rw[hc,hd];show wpAny M A (if (["enumerate","zip","dict_itemiterator","dict_reverseitemiterator","odict_iterator","itertools.zip_longest","itertools.pairwise"].contains n&&vs[0]?==some (rawInt _))=true then _ else _) Q E s;rw[if_neg (by intro h;rw[hn,AEE]at h;cases h)];exact AA2 hQ))
noncomputable def Itl(K:AA3)(a:Addr):It :=
 ⟨λi H=>∃xs x,SqL K H a xs/\xs[i]?=some x,λi H x H'=>H'=H/\∀xs,SqL K H a xs->xs[i]?=some x,λi H=>∃xs,SqL K H a xs/\xs.length<=i⟩
noncomputable def Itt(K:AA3)(a:Addr):It :=
 ⟨λi H=>∃xs x,SqT K H a xs/\xs[i]?=some x,λi H x H'=>H'=H/\∀xs,SqT K H a xs->xs[i]?=some x,λi H=>∃xs,SqT K H a xs/\xs.length<=i⟩
noncomputable def Itr(lo:Int)(n:Nat):It:=⟨λi _=>i<n,λi H x H'=>H'=H/\x=.int (lo+i),λi _=>n<=i⟩
theorem tZ{P:Program}{w:World}{K:AA3}{tg:Expr}(a it:Addr):Turn P w K tg (Itl K a) [it] it (λi h=>h.IsListIter it a i) where
 mem:=by simp
 obj:=λi h st b hb=>by
  have e:b=it:=by simpa using hb
  subst e
  obtain⟨o,e,c,d⟩:=st
  exact⟨o,e,λv z=>by rw[d]at z;cases z⟩
 keep:=λi h h' st k=>st.at λo e=>k it (by simp) o e
 item:=by
  intro X hP hw hK hc i pins s σ H E I hf st hg
  subst hP hw hK
  obtain⟨xs,x,hq,hx⟩:=hg
  obtain⟨its,rv,p,hz⟩:=I.list hq
  obtain⟨u,hu,ru⟩:=rv.get hx
  obtain⟨f0,f1,f2,f3,f4,f5⟩:=hf it (by simp)
  refine wpAny_pyNext_list_item st p.isList (x:=u) (by simpa using hu) λh' st' sb=>?_
  have I1:Inv X pins σ H { s with heap:=h' }:=I.turned (t':=s.toks) (λb o hb e=>(sb.2 b hb).trans e) f0 f1 f3 f4 f5
  obtain⟨o,e,c,d⟩:=id st'
  exact⟨u,rfl,tj (s:={ s with heap:=h' }) e c d (by decide) ⟨x,H,I1,ru,⟨rfl,λys hy=>by rw[I.list_inj hy hq];exact hx⟩,st',λb hb=>(hf b hb).1⟩⟩
 done:=by
  intro X hP hw hK hc i pins s σ H E I hf st hg
  subst hP hw hK
  obtain⟨xs,hq,hx⟩:=hg
  obtain⟨its,rv,p,hz⟩:=I.list hq
  obtain⟨f0,f1,f2,f3,f4,f5⟩:=hf it (by simp)
  have hl:=rv.length
  exact wpAny_pyNext_list_end (I.ok.hd hc) st p.isList (by simp;lia) λh' eb=>⟨rfl,I.turned (t':=s.toks) (λb o hb e=>eb b o hb e) f0 f1 f3 f4 f5⟩
 self:=λ_ _ _ _ _ st h=>wpAny_pyIter_listiter st h
theorem sw{P:Program}{w:World}{K:AA3}{tg:Expr}(a it:Addr):Turn P w K tg (Itt K a) [it] it (λi h=>h.IsTupleIter it a i) where
 mem:=by simp
 obj:=λi h st b hb=>by
  have e:b=it:=by simpa using hb
  subst e
  obtain⟨o,e,c,d⟩:=st
  exact⟨o,e,λv z=>by rw[d]at z;cases z⟩
 keep:=λi h h' st k=>st.at λo e=>k it (by simp) o e
 item:=by
  intro X hP hw hK hc i pins s σ H E I hf st hg
  subst hP hw hK
  obtain⟨xs,x,hq,hx⟩:=hg
  obtain⟨its,rv,p,hz⟩:=I.tuple hq
  obtain⟨u,hu,ru⟩:=rv.get hx
  obtain⟨f0,f1,f2,f3,f4,f5⟩:=hf it (by simp)
  refine wpAny_pyNext_tuple_item st (show s.heap.IsTuple a its.toArray from p) (x:=u) (by simpa using hu) λh' st' sb=>?_
  have I1:Inv X pins σ H { s with heap:=h' }:=I.turned (t':=s.toks) (λb o hb e=>(sb.2 b hb).trans e) f0 f1 f3 f4 f5
  obtain⟨o,e,c,d⟩:=id st'
  exact⟨u,rfl,tj (s:={ s with heap:=h' }) e c d (by decide) ⟨x,H,I1,ru,⟨rfl,λys hy=>by rw[I.tuple_inj hy hq];exact hx⟩,st',λb hb=>(hf b hb).1⟩⟩
 done:=by
  intro X hP hw hK hc i pins s σ H E I hf st hg
  subst hP hw hK
  obtain⟨xs,hq,hx⟩:=hg
  obtain⟨its,rv,p,hz⟩:=I.tuple hq
  obtain⟨f0,f1,f2,f3,f4,f5⟩:=hf it (by simp)
  have hl:=rv.length
  exact wpAny_pyNext_tuple_end (I.ok.hd hc) st (show s.heap.IsTuple a its.toArray from p) (by simp;lia) λh' eb=>⟨rfl,I.turned (t':=s.toks) (λb o hb e=>eb b o hb e) f0 f1 f3 f4 f5⟩
 self:=λ_ _ _ _ _ st h=>wpAny_pyIter_tupleiter st h
theorem sy{P:Program}{w:World}{K:AA3}{tg:Expr}(it:Addr)(lo:Int)(n:Nat):Turn P w K tg (Itr lo n) [it] it (λi h=>IsRangeIter h it (lo+(i:Nat)*1) ((n:Int)-(i:Nat)) 1) where
 mem:=by simp
 obj:=λi h st b hb=>by
  have e:b=it:=by simpa using hb
  subst e
  exact⟨_,st,λv z=>by
   have z':Data.fields _=Data.cell v:=z
   cases z'⟩
 keep:=λi h h' st k=>k it (by simp) _ st
 item:=by
  intro X hP hw hK hc i pins s σ H E I hf st hg
  subst hP hw hK
  obtain⟨f0,f1,f2,f3,f4,f5⟩:=hf it (by simp)
  have W:=Walks.range (prog:=X.prog) (w:=X.w) (I.ok.hd hc) it lo 1 n
  refine W.item i s _ _ hg st λv h' tk hv st' kk=>?_
  obtain⟨t,rfl⟩:=hv
  have I1:Inv X pins σ H { s with heap:=h',toks:=tk }:=I.turned (λb o hb e=>kk b o (by simpa using hb) e) f0 f1 f3 f4 f5
  refine⟨_,rfl,tj (s:={ s with heap:=h',toks:=tk }) (n:="range_iterator") st' rfl rfl (by decide) ⟨.int (lo+i),H,I1,⟨t,?_⟩,⟨rfl,rfl⟩,st',λb hb=>(hf b hb).1⟩⟩
  rw[Int.mul_one]
 done:=by
  intro X hP hw hK hc i pins s σ H E I hf st hg
  subst hP hw hK
  obtain⟨f0,f1,f2,f3,f4,f5⟩:=hf it (by simp)
  exact wpAny_pyNext_range_end (I.ok.hd hc) st (by have:n<=i:=hg;lia) λh' eb=>⟨rfl,I.turned (t':=s.toks) (λb o hb e=>eb b o hb e) f0 f1 f3 f4 f5⟩
 self:=λ_ _ _ _ _ st h=>wpAny_pyIter_rangeiter st h
section
variable{X:Cx}{tg:Expr}
theorem qX{pins:List (Addr×Obj)}{σ:St}{H:Hp}{s:Shared}{R:It->Hp->Prop}{E:Value->Shared->Prop}{lo hi:Int}{t u v:Tok}{tk:Nat}(I:Inv X pins σ H s)(h1:-(2 ^ 62)<=lo)(h2:lo<2 ^ 62)(h3:-(2 ^ 62)<=hi)(h4:hi<2 ^ 62)
  (q:R (Itr lo (hi-lo).toNat) H):wpAny (model X.prog X.w) X.A (pyIter (.ref s.heap.objs.size)) (PIE X pins σ tg R) E { s with heap:=s.heap.push { cls:=.type "range",data:=.fields #[.int lo t,.int hi u,.int 1 v] },toks:=tk }:=by
 refine wpAny_pyIter_range (IsRange.new ..) (small_one h1 h2 h3 h4) ?_
 have I1:Inv X pins σ H { s with heap:=s.heap.push { cls:=.type "range",data:=.fields #[.int lo t,.int hi u,.int 1 v] },toks:=tk }:=I.kept λb o e=>AA4 _ e
 refine⟨(s.heap.push { cls:=.type "range",data:=.fields #[.int lo t,.int hi u,.int 1 v] }).objs.size,[(s.heap.push { cls:=.type "range",data:=.fields #[.int lo t,.int hi u,.int 1 v] }).objs.size],_,_,H,rfl,
  I1.kept (t':=tk) λb o e=>AA4 _ e,sy _ lo (hi-lo).toNat,?_,λb hb=>?_,q⟩
 ·have e1:lo+((0:Nat):Int)*1=lo:=by simp
  have e2:(((hi-lo).toNat:Nat):Int)-((0:Nat):Int)=Builtin.Range.rangeSize lo hi 1:=by rw[rangeSize_one];split<;>lia
  show IsRangeIter _ _ (lo+((0:Nat):Int)*1) ((((hi-lo).toNat:Nat):Int)-((0:Nat):Int)) 1
  rw[e1,e2]
  exact AAB _ rfl
 ·have e:b=(s.heap.push { cls:=.type "range",data:=.fields #[.int lo t,.int hi u,.int 1 v] }).objs.size:=by simpa using hb
  subst e
  exact I1.fpOk (AA8 _) (I1.hok.fresh (AA8 _))
def iRng1(ta:TA):TI:=λσ H R=>ta σ H λvs H1=>∃j:Int,vs=[.int j]/\-(2 ^ 62)<=j/\j<2 ^ 62/\R (Itr 0 j.toNat) H1
def iRng2(ta:TA):TI:=λσ H R=>ta σ H λvs H1=>∃i j:Int,vs=[.int i,.int j]/\(-(2 ^ 62)<=i/\i<2 ^ 62/\-(2 ^ 62)<=j/\j<2 ^ 62)/\R (Itr i (j-i).toNat) H1
theorem uU{a:Expr}{ta:TA}{p pos:Pos}(hg:Gl X "range")(hm:X.mg "range" = none)(ha:PA X [a] ta)(hs:starEach [a] X.env=[(false,eval a X.env)]:=by rfl):PI X tg (.Call (.Name "range" p) [a] [] pos) (iRng1 ta):=by
 intro pins s σ H R I h
 refine Call_ (gi I hg hm boot_range (ACm (thn (ha pos pins s σ H _ I h) ?_) hs rfl))
 rintro us s1 ⟨vs,H1,I1,r1,q1⟩
 obtain⟨j,e,q1,q2,q⟩:=q1
 subst e
 cases r1 with
 | cons r rr =>
  cases rr
  obtain⟨t,rfl⟩:=r
  exact call_range_1 (qX I1 (by lia) (by lia) q1 q2 (by simpa using q))
theorem uT(hg:Gl X "range")(hm:X.mg "range" = none)(ha:PA X [a,b] ta)(hs:starEach [a,b] X.env=[(false,eval a X.env),(false,eval b X.env)]:=by rfl)(hs2:starEach [b] X.env=[(false,eval b X.env)]:=by rfl) :
  PI X tg (.Call (.Name "range" p) [a,b] [] pos) (iRng2 ta):=by
 intro pins s σ H R I h
 refine Call_ (gi I hg hm boot_range (ACm (thn (ha pos pins s σ H _ I h) ?_) (by rw[hs,hs2]) (by rw[hs2];rfl)))
 rintro us s1 ⟨vs,H1,I1,r1,q1⟩
 obtain⟨i,j,e,⟨q1,q2,q3,q4⟩,q⟩:=q1
 subst e
 cases r1 with
 | cons r rr =>
  cases rr with
  | cons r' rr =>
   cases rr
   obtain⟨t,rfl⟩:=r
   obtain⟨t',rfl⟩:=r'
   exact call_range_2 (qX I1 q1 q2 q3 q4 q)
def tFor(wi:TI)(g:TG)(tb:TS):TS:=λD σ H=>wi σ H λJ H1=>∃W:Nat->Nat->St->Hp->Prop,(∃m,W 0 m σ H1)/\∀i m σ H,W i m σ H ->
 (J.stop i H/\D.nx σ H)\/(J.go i H/\∃N:St->Hp->Prop,(∀σ' H',N σ' H'->∃m',m' < m/\W (i+1) m' σ' H')/\∀x H',J.yld i H x H'->g x σ H' λσ2 H2=>tb { D with nx:=N,ct:=N,bk:=D.nx } σ2 H2)
noncomputable def fX(fp:List Addr)(h:Heap):List (Addr×Obj):=fp.filterMap λb=>(h.get? b).map λo=>(b,o)
theorem eE(hb:b∈fp)(e:h.get? b=some o):(b,o)∈fX fp h:=ADO.mpr ⟨b,hb,by rw[e];rfl⟩
theorem nE(hp:p∈fX fp h):p.1∈fp/\h.get? p.1=some p.2:=by
 obtain⟨b,hb,e⟩:=List.mem_filterMap.mp hp
 cases q:h.get? b with
 | none=>rw[q]at e;cases e
 | some o =>
  rw[q]at e
  have e':(b,o)=p:=AAN e
  subst e'
  exact⟨hb,q⟩
theorem Inv.pinned(I:Inv X pins σ H s)(hf:∀b∈fp,tP X pins H b)(ho:∀b∈fp,∃o,s.heap.get? b=some o/\∀v,o.data≠.cell v):Inv X (pins++fX fp s.heap) σ H s :=
 I.pins_of λp hp=>(AAk.mp hp).elim (λz=>I.pin p (AAI _ z)) λz=>by
  obtain⟨hb,e⟩:=nE z
  obtain⟨f0,f1,f2,_⟩:=hf p.1 hb
  obtain⟨o,e',d⟩:=ho p.1 hb
  rw[e]at e';cases e'
  exact⟨e,f0,f1,f2,d⟩
theorem Inv.unpinned(I:Inv X (pins++pl) σ H s):Inv X pins σ H s:=I.pins_of λp hp=>I.pin p (AAI _ (AAr _ hp))
theorem CD(hp:PassesOwn (model X.prog X.w) X.A X.env X.xe)(hc:X.calm=true)(hi:PI X tg iter wi)(hg:PG X tg g)(hb:PSs X body tb)
  (hs:∀x,foldedSetIterable iter X.env x=pure x:=by intro _;rfl):PS X (.For tg iter body [] pos) (tFor wi g tb):=by
 intro pins s σ H D I h
 refine wpAny_For (thn (hi pins s σ H _ I h) λv s1 h1=>thn h1 λitv s2 h2=>?_) hs
 obtain⟨it,fp,tn,J,H2,e,I2,T,st2,f2,W,⟨m0,w0⟩,turn⟩:=h2
 subst e
 -- what stays true of the iterator's objects through the loop
 have stat:∀{H':Hp},(∀b∈fp,H' b=none)->∀b∈fp,tP X pins H' b:=λhn b hb=>⟨hn b hb,(f2 b hb).2⟩
 refine codeAny_forLoop_any (λn s'=>∃i σ' H',Inv X pins σ' H' s'/\tn i s'.heap/\(∀b∈fp,H' b=none)/\W i n σ' H') ?_ m0 ⟨0,σ,H2,I2,st2,λb hb=>(f2 b hb).1,w0⟩
 rintro n s3 ⟨i,σ3,H3,I3,st3,fr3,w3⟩
 rcases turn i n σ3 H3 w3 with⟨stop,qn⟩|⟨go,N,hN,step⟩
 ·refine ADP hp (thn (T.done X rfl rfl rfl hc i pins s3 σ3 H3 X.xe I3 (stat fr3) st3 stop) ?_)
  rintro r s4 ⟨hr,I4⟩
  subst hr
  exact ACl ⟨σ3,H3,I4,qn⟩
 ·refine ADP hp (thn (T.item X rfl rfl rfl hc i pins s3 σ3 H3 X.xe I3 (stat fr3) st3 go) ?_)
  rintro r s4 ⟨u,hr,h4⟩
  subst hr
  refine ADP hp (thn h4 ?_)
  rintro _ s5 ⟨x,H5,I5,r5,y5,st5,fr5⟩
  have I5':=I5.pinned (stat fr5) (T.obj _ _ st5)
  refine ADP hp (thn (hg _ s5 σ3 H5 x u _ I5' r5 (step x H5 y5)) ?_)
  rintro _ s6 ⟨σ6,H6,I6,q6⟩
  refine ADP hp (thn (hb _ s6 σ6 H6 _ I6 q6) λf s7 q7=>?_)
  have again:∀{σ7:St}{H7:Hp},Inv X (pins++fX fp s5.heap) σ7 H7 s7->N σ7 H7->∃m,m<n/\∃i σ' H',Inv X pins σ' H' s7/\tn i s7.heap/\(∀b∈fp,H' b=none)/\W i m σ' H':=λ{σ7 H7} I7 n7=>by
   obtain⟨m',hm,w7⟩:=hN σ7 H7 n7
   refine⟨m',hm,i+1,σ7,H7,I7.unpinned,T.keep _ _ _ st5 λb hb o e=>(I7.pin (b,o) (AAI _ (AAI _ (eE hb e)))).1,λb hb=>?_,w7⟩
   obtain⟨o,e,d⟩:=T.obj _ _ st5 b hb
   exact(I7.pin (b,o) (AAI _ (AAI _ (eE hb e)))).2.1
  cases f with
  | next=>obtain⟨σ7,H7,I7,n7⟩:=q7;exact again I7 n7
  | cont=>obtain⟨σ7,H7,I7,n7⟩:=q7;exact again I7 n7
  | brk=>obtain⟨σ7,H7,I7,q7⟩:=q7;exact⟨σ7,H7,I7.unpinned,q7⟩
  | ret v=>obtain⟨x7,σ7,H7,I7,r7,q7⟩:=q7;exact⟨x7,σ7,H7,I7.unpinned,r7,q7⟩
end
abbrev R2:=V->V->Hp->VK->Prop
def OpR(X:Cx)(f:Value->Value->Sem Value)(r:R2):Prop :=
 ∀(pins:List (Addr×Obj)) (s:Shared) (σ:St) (H:Hp) (x y:V) (v u:Value) (Q:VK),Inv X pins σ H s->aI x v->aI y u->r x y H Q ->
  wpAny (model X.prog X.w) X.A (f v u) (EP X pins σ Q) X.xe s
def UnR(X:Cx)(f:Value->Sem Value)(r:V->Hp->VK->Prop):Prop :=
 ∀(pins:List (Addr×Obj)) (s:Shared) (σ:St) (H:Hp) (x:V) (v:Value) (Q:VK),Inv X pins σ H s->aI x v->r x H Q ->
  wpAny (model X.prog X.w) X.A (f v) (EP X pins σ Q) X.xe s
def eM(X:Cx)(f:Value)(r:List V->Hp->VK->Prop):Prop :=
 ∀(pins:List (Addr×Obj)) (s:Shared) (σ:St) (H:Hp) (xs:List V) (us:List Value) (Q:VK),Inv X pins σ H s->au xs us->r xs H Q ->
  wpAny (model X.prog X.w) X.A (call f us) (EP X pins σ Q) X.xe s
def tOp(r:R2)(ta tb:TE):TE:=λσ H Q=>ta σ H λx H1=>tb σ H1 λy H2=>r x y H2 Q
def rI(C:Int->Int->Prop)(g:Int->Int->V):R2:=λx y H Q=>∃i j,x=.int i/\y=.int j/\C i j/\Q (g i j) H
def rI0(g:Int->Int->V):R2:=λx y H Q=>∃i j,x=.int i/\y=.int j/\Q (g i j) H
section
variable{X:Cx}{a b c:Expr}{ta tb tc:TE}{pos:Pos}
theorem binT(ha:PE X a ta)(hb:PE X b tb){pins:List (Addr×Obj)}{s:Shared}{σ:St}{H:Hp}{R:V->V->Hp->Prop}(I:Inv X pins σ H s)
  (h:ta σ H λx H1=>tb σ H1 λy H2=>R x y H2) {Q:Value->Shared->Prop}{f:Value->Value->Sem Value}
  (hf:∀v u s2 x y H2,Inv X pins σ H2 s2->aI x v->aI y u->R x y H2->wpAny (model X.prog X.w) X.A (f v u) Q X.xe s2) :
  wpAny (model X.prog X.w) X.A (eval a X.env) (λv s₁=>wpAny (model X.prog X.w) X.A (eval b X.env) (λu s₂=>wpAny (model X.prog X.w) X.A (f v u) Q X.xe s₂) X.xe s₁) X.xe s:=by
 refine thn (ha pins s σ H _ I h) ?_
 rintro v s1 ⟨x,H1,I1,r1,q1⟩
 refine thn (hb pins s1 σ H1 _ I1 q1) ?_
 rintro u s2 ⟨y,H2,I2,r2,q2⟩
 exact hf v u s2 x y H2 I2 r1 r2 q2
theorem pe_op{op:Operator}{r:R2}(ho:OpR X (binaryOp op) r)(ha:PE X a ta)(hb:PE X b tb):PE X (.BinOp a op b pos) (tOp r ta tb):=by
 intro pins s σ H Q I h
 exact wpAny_BinOp (binT ha hb I h λv u s2 x y H2 I2 rx ry q=>ho pins s2 σ H2 x y v u Q I2 rx ry q)
theorem opI{f:Value->Value->Sem Value}{C:Int->Int->Prop}{g:Int->Int->Int}
  (rule:∀(i j:Int) (t u:Tok) (s:Shared) (Q:Value->Shared->Prop) (E:Value->Shared->Prop),C i j->Q (.int (g i j) s.toks) { s with toks:=s.toks+1 }->wpAny (model X.prog X.w) X.A (f (.int i t) (.int j u)) Q E s) :
  OpR X f (rI C λi j=>.int (g i j)):=by
 intro pins s σ H x y v u Q I rx ry h
 obtain⟨i,j,rfl,rfl,hc,q⟩:=h
 obtain⟨t,rfl⟩:=rx
 obtain⟨t',rfl⟩:=ry
 exact rule i j t t' s _ _ hc ⟨.int (g i j),H,I.tok _,⟨_,rfl⟩,q⟩
theorem opI0{f:Value->Value->Sem Value}{g:Int->Int->Int}
  (rule:∀(i j:Int) (t u:Tok) (s:Shared) (Q:Value->Shared->Prop) (E:Value->Shared->Prop),Q (.int (g i j) s.toks) { s with toks:=s.toks+1 }->wpAny (model X.prog X.w) X.A (f (.int i t) (.int j u)) Q E s) :
  OpR X f (rI0 λi j=>.int (g i j)):=by
 intro pins s σ H x y v u Q I rx ry h
 obtain⟨i,j,rfl,rfl,q⟩:=h
 obtain⟨t,rfl⟩:=rx
 obtain⟨t',rfl⟩:=ry
 exact rule i j t t' s _ _ ⟨.int (g i j),H,I.tok _,⟨_,rfl⟩,q⟩
theorem opB0{f:Value->Value->Sem Value}{g:Int->Int->Bool}
  (rule:∀(i j:Int) (t u:Tok) (s:Shared) (Q:Value->Shared->Prop) (E:Value->Shared->Prop),Q (.bool (g i j)) s->wpAny (model X.prog X.w) X.A (f (.int i t) (.int j u)) Q E s) :
  OpR X f (rI0 λi j=>.bl (g i j)):=by
 intro pins s σ H x y v u Q I rx ry h
 obtain⟨i,j,rfl,rfl,q⟩:=h
 obtain⟨t,rfl⟩:=rx
 obtain⟨t',rfl⟩:=ry
 exact rule i j t t' s _ _ ⟨.bl (g i j),H,I,rfl,q⟩
def CPow(i j:Int):Prop:=0<=j/\j<=1000000/\i.natAbs<2 ^ 64
def CMul(i j:Int):Prop:=(-(2 ^ 64)<i/\i<2 ^ 64)\/(-(2 ^ 64)<j/\j<2 ^ 64)
theorem CMul.ok(h:CMul i j):IntMulOk i j:=by
 rcases h with⟨h1,h2⟩|⟨h1,h2⟩
 ·exact .of_left (intBits_le_64 h1 h2)
 ·exact .of_right (intBits_le_64 h1 h2)
theorem Db:OpR X (binaryOp .Add) (rI0 λi j=>.int (i+j)):=opI0 λ_ _ _ _ _ _ _ q=>add_int q
theorem CU:OpR X (binaryOp .Sub) (rI0 λi j=>.int (i-j)):=opI0 λ_ _ _ _ _ _ _ q=>sub_int q
theorem CY:OpR X (binaryOp .Mult) (rI CMul λi j=>.int (i*j)):=opI λ_ _ _ _ _ _ _ hc q=>mul_int q hc.ok
theorem CZ:OpR X (binaryOp .Mod) (rI (λ_ j=>0<j) λi j=>.int (i % j)):=opI λi j _ _ _ _ _ hc q=>by
 have h1:(0:Int)<j:=hc
 exact mod_int' (by lia) (by rw[Int.fmod_eq_emod_of_nonneg i (by lia)];exact q)
theorem CW:OpR X (binaryOp .Pow) (rI CPow λi j=>.int (i ^ j.toNat)):=opI λ_ _ _ _ _ _ _ hc q=>pow_int_small hc.1 hc.2.1 hc.2.2 q
theorem CV:OpR X (binaryOp .LShift) (rI CPow λi j=>.int (i*2 ^ j.toNat)):=opI λ_ _ _ _ _ _ _ hc q=>lshift_int_small hc.1 hc.2.1 hc.2.2 q
end
section
variable{X:Cx}{a b c:Expr}{ta tb tc:TE}{pos:Pos}
theorem op_lt:OpR X (compareOp .Lt) (rI0 λi j=>.bl (decide (i<j))):=opB0 λ_ _ _ _ _ _ _ q=>lt_int q
theorem op_le:OpR X (compareOp .LtE) (rI0 λi j=>.bl (decide (i<=j))):=opB0 λ_ _ _ _ _ _ _ q=>le_int q
theorem op_gt:OpR X (compareOp .Gt) (rI0 λi j=>.bl (decide (j<i))):=opB0 λ_ _ _ _ _ _ _ q=>gt_int q
theorem op_ge:OpR X (compareOp .GtE) (rI0 λi j=>.bl (decide (j<=i))):=opB0 λ_ _ _ _ _ _ _ q=>ge_int q
theorem OpR.or(h:OpR X f r)(h':OpR X f r'):OpR X f (λx y H Q=>r x y H Q\/r' x y H Q):=by
 intro pins s σ H x y v u Q I rx ry q
 rcases q with q | q
 ·exact h pins s σ H x y v u Q I rx ry q
 ·exact h' pins s σ H x y v u Q I rx ry q
theorem zX(ho:OpR X (compareOp op) r)(ha:PE X a ta)(hb:PE X b tb)(hm:behindInMarks op b=false):PE X (.Compare a [op] [b] pos) (tOp r ta tb):=by
 intro pins s σ H Q I h
 exact wpAny_Compare1 (binT ha hb I h λv u s2 x y H2 I2 rx ry q=>ho pins s2 σ H2 x y v u Q I2 rx ry q) hm
def Ci(t:TE):TT:=λσ H Q=>t σ H λx H'=>∃k,x=.bl k/\Q k H'
theorem zO(ho:OpR X (compareOp op) r)(ha:PE X a ta)(hb:PE X b tb)(hm:behindInMarks op b=false):PT X (.Compare a [op] [b] pos) (Ci (tOp r ta tb)):=by
 intro pins s σ H Q I h
 refine wpAny_isTrue_Compare1 (thn (ha pins s σ H _ I h) λv s1 ⟨x,H1,I1,r1,q1⟩=>thn (hb pins s1 σ H1 _ I1 q1) λu s2 ⟨y,H2,I2,r2,q2⟩ =>
  thn (ho pins s2 σ H2 x y v u _ I2 r1 r2 q2) λc s3 ⟨z,H3,I3,r3,k,e,q3⟩=>?_) hm
 subst e
 cases r3
 exact ACM ⟨H3,I3,q3⟩
def yN(r r':R2)(ta tb tc:TE):TE:=λσ H Q=>ta σ H λx H1=>tb σ H1 λy H2=>r x y H2 λz H3=>∃k,z=.bl k /\
 (if k=true then tc σ H3 λw' H4=>r' y w' H4 Q else Q (.bl false) H3)
theorem xA(ho:OpR X (compareOp op) r)(ho':OpR X (compareOp op') r')(ha:PE X a ta)(hb:PE X b tb)(hc:PE X c tc)
  (hm:lastMarks [op,op'] [b,c]=false:=by with_unfolding_all rfl):PE X (.Compare a [op,op'] [b,c] pos) (yN r r' ta tb tc):=by
 intro pins s σ H Q I h
 refine Compare_chain (thn (ha pins s σ H _ I h) λv s1 ⟨x,H1,I1,r1,q1⟩=>chain_link (thn (hb pins s1 σ H1 _ I1 q1) λu s2 ⟨y,H2,I2,r2,q2⟩ =>
  thn (ho pins s2 σ H2 x y v u _ I2 r1 r2 q2) λd s3 ⟨z,H3,I3,r3,k,e,q3⟩=>?_)) hm
 subst e
 cases r3
 refine ACM ?_
 cases k with
 | false=>exact ite_ff ⟨.bl false,H3,I3,rfl,q3⟩
 | true=>exact ite_tt (chain_last (thn (hc pins s3 σ H3 _ I3 q3) λw' s4 ⟨z',H4,I4,r4,q4⟩=>ho' pins s4 σ H4 y z' u w' Q I4 r2 r4 q4))
theorem kT:(sizeLine:Nat)<2 ^ 63:=by rw[ABj];decide
theorem sD:OpR X (binaryOp .Add) (λx y H Q=>∃i j,x=.str i/\y=.str j/\i.length+j.length<=sizeLine/\Q (.str (i++j)) H):=by
 intro pins s σ H x y v u Q I rx ry h
 obtain⟨i,j,rfl,rfl,hz,q⟩:=h
 obtain⟨t,rfl⟩:=rx
 obtain⟨t',rfl⟩:=ry
 exact add_str (λt' tk=>⟨.str (i++j),H,I.tok _,⟨_,rfl⟩,q⟩) hz
theorem zu(r:au [x] us):∃u,us=[u]/\aI x u:=by
 cases r with
 | cons r1 r2=>cases r2;exact⟨_,rfl,r1⟩
end
structure ObjM(h:Heap)(x dx C:Addr)(mA:Str->Option Value):Prop where
 obj:h.get? x=some (PySem.W.instObj C dx)
 ns:h.Ns1 dx mA
 ne:dx≠x
theorem vH{h:Heap}{dx:Addr}{mA:Str->Option Value}(n:h.Ns1 dx mA):∃od,h.get? dx=some od/\∀name,PySem.W.lookIn name od=some (mA name):=by
 obtain⟨o,es,ep,ho,hd,hk,_,hm⟩:=n
 refine⟨o,ho,λname=>?_⟩
 have e:=hm name
 unfold nsFind findBy at e
 rw[<-Array.find?_toList]at e
 unfold PySem.W.lookIn
 rw[hd]
 dsimp only
 split
 ·rename_i y q
  rw[q]at e
  exact congrArg some e
 ·rename_i q
  rw[q]at e
  have a:es.toList.any (·.refKey)=false:=by
   rw[List.any_eq_false]
   intro y hy
   obtain⟨z,t,hkey⟩:=hk y (Array.mem_toList_iff.mp hy)
   simp[DictEntry.refKey,hkey]
  have a':¬es.toList.any (·.refKey)=true:=by rw[a];exact ABJ
  rw[if_neg a']
  exact congrArg some e
theorem ObjM.look(I:ObjM h x dx C mA):∃od,PySem.W.InstAt h x (PySem.W.instObj C dx) C (some od)/\∀name,PySem.W.lookIn name od=some (mA name) :=
 let ⟨od,ho,hl⟩:=vH I.ns
 ⟨od,⟨I.obj,rfl,rfl,ho⟩,hl⟩
section
variable{prog:Program}{w:World}{A:Around}{E:Value->Shared->Prop}{s:Shared}{K:AA3}{x dx C f:Addr}{mA:Str->Option Value}{name:Str}{v:Value}
theorem qb(X:K.In s.heap)(I:ObjM s.heap x dx C mA)(hg:PySem.W.plainGet K C name=true)(hh:PySem.W.hasDictIn K C=true)
  (ha:AC5 K (.ref C) name=some none) (hv:mA name=some v) (hv':PySem.W.handedIn v=true) (h:Q v { s with toks:=s.toks+1 }) :
  wpAny (model prog w) A (getAttr (.ref x) name expr) Q E s:=by
 obtain⟨od,J,hl⟩:=I.look
 exact PySem.W.get_value X J (PySem.W.plainGet_of hg).1 (PySem.W.findObj_own hh ha rfl (by rw[hl,hv])) hv' h
end
structure Cls(K:AA3)(C:Addr):Prop where
 pg:PySem.W.plainGet K C Str.empty=true
 hd:PySem.W.hasDictIn K C=true
 po:PySem.W.plainOver K C=true
 sa:AC5 K (.ref C) "__setattr__" = some (some (.builtin "object.__setattr__"))
structure Con(K:AA3)(C:Addr)(f:Str)(v:V)(u:Value):Prop where
 at_:AC5 K (.ref C) f=some (some u)
 rel:aI v u
 get:PySem.W.specialIn K u "__get__" = some none
 cp:PySem.W.copiedNames.contains f=false
structure Meth(K:AA3)(C:Addr)(m:Str)(f:Addr):Prop where
 at_:AC5 K (.ref C) m=some (some (.ref f))
 fn:PySem.W.isFn K (.ref f)=true
 kp:AC6 K (.ref f)=true
section
variable{X:Cx}{pins:List (Addr×Obj)}{σ:St}{H:Hp}{s:Shared}{A:Around}{E:Value->Shared->Prop}{Q:Value->Shared->Prop}{c:Value}{b:Bool}
inductive TyOf(K:AA3)(H:Hp):V->Value->Prop where
 | non:TyOf K H .non (.type "NoneType")
 | bl (x:Bool):TyOf K H (.bl x) (.type "bool")
 | int (i:Int):TyOf K H (.int i) (.type "int")
 | str (x:Str):TyOf K H (.str x) (.type "str")
 | flt (x:UInt64):TyOf K H (.flt x) (.type "float")
 | lst {a:Addr}{xs:List V} (e:H a=some (.lst xs)):TyOf K H (.ref a) (.type "list")
 | frz {a:Addr}{o:Obj}{xs:List V} (e:H a=some (.frz o (.lst xs))):TyOf K H (.ref a) (.type "list")
 | tup {a:Addr}{xs:List V} (e:H a=some (.tup xs)):TyOf K H (.ref a) (.type "tuple")
 | dK {a:Addr}{kvs:List (Key×V)} (e:H a=some (.dK kvs)):TyOf K H (.ref a) (.type "dict")
 | dT {a:Addr}{kvs:List (List Key×V)} (e:H a=some (.dT kvs)):TyOf K H (.ref a) (.type "dict")
 | ins {a C dx:Addr}{fs:List (Str×V)} (e:H a=some (.ins C dx fs)) (cl:Cls K C) (ha:AC5 K (.ref C) "__class__" = some (some (.builtin "object.__class__")))
   (hn:PySem.W.specialIn K (.builtin "object.__class__") "__get__" = some (some (.builtin "getset_descriptor.__get__"))) (htk:PySem.W.takesIn K (.builtin "object.__class__")=some true)
   (hm:PySem.W.mroIn K C (.type "object")=some true):TyOf K H (.ref a) (.ref C)
end
structure Room(k:Nat)(A:Around):Prop where
 hd:A.handled=none
 dp:A.depth+3*k+5<recursionLimit
 un:A.units+16*k+200<cLine
theorem Room.mono(r:Room k A)(h:j<=k):Room j A:=⟨r.hd,by have:=r.dp;lia,by have:=r.un;lia⟩
theorem Room.deeper(r:Room (k+1) A)(env:Env):Room k (A.deeper env) :=
 ⟨r.hd,by have:=r.dp;show A.depth+1+3*k+5<_;lia,by have:=r.un;show A.units+3+16*k+200<_;lia⟩
theorem Room.in1(r:Room (k+1) A):Room k A.in1 :=
 ⟨r.hd,by have:=r.dp;show A.depth+3*k+5<_;lia,by have:=r.un;show A.units+1+16*k+200<_;lia⟩
theorem Room.depth(r:Room k A):A.depth<recursionLimit:=by have:=r.dp;lia
def tNil:TA:=λ_ H Q=>Q [] H
def tCons(ta:TE)(tr:TA):TA:=λσ H Q=>ta σ H λx H1=>tr σ H1 λxs H2=>Q (x::xs) H2
section
variable{X:Cx}{e:Expr}{es:List Expr}{te:TE}{t:TA}{pos:Pos}
theorem uY:PA X [] tNil:=λ_ _ _ _ H Q I h=>ADf ⟨[],H,I,.nil,h⟩
theorem je(ha:PE X e te)(hr:PA X es t)(hs:starEach (e::es) X.env=(false,eval e X.env)::starEach es X.env:=by rfl):PA X (e::es) (tCons te t):=by
 intro pos pins s σ H Q I h
 rw[hs]
 show wpAny _ _ (spliced ((false,eval e X.env)::backTo pos (starEach es X.env))) _ _ s
 refine ADQ (thn (ha pins s σ H _ I h) ?_)
 rintro u s1 ⟨x,H1,I1,r1,q1⟩
 refine thn (hr pos pins s1 σ H1 _ I1 q1) ?_
 rintro us s2 ⟨xs,H2,I2,r2,q2⟩
 exact⟨x::xs,H2,I2,.cons r1 r2,q2⟩
def tTup(t:TA):TE:=λσ H Q=>t σ H λxs H1=>xs.length<=sizeLine/\∀p,H1 p=none->Q (.ref p) (upd H1 p (.tup xs))
def tLst(t:TA):TE:=λσ H Q=>t σ H λxs H1=>xs.length<=sizeLine/\∀p,H1 p=none->Q (.ref p) (upd H1 p (.lst xs))
theorem CL{x1}(h:PA X es t):PE X (.Tuple es x1 pos) (tTup t):=by
 intro pins s σ H Q I hq
 refine wpAny_Tuple_spliced (thn (h pos pins s σ H _ I hq) λus s1 ⟨xs,H1,I1,r,z,q⟩=>⟨by rw[<-r.length];exact z,?_⟩)
 have hf:H1 s1.heap.objs.size=none:=I1.hok.fresh (AA8 _)
 refine⟨.ref s1.heap.objs.size,upd H1 s1.heap.objs.size (.tup xs),I1.laid (t':=s1.toks) (λb u e=>AA4 _ e) (AA8 _) ?_,rfl,q _ hf⟩
 exact⟨z,us,r,⟨_,AAB _ rfl,rfl,⟨_,rfl⟩,rfl⟩⟩
theorem CQ(h:PA X es t):PE X (.List es pos) (tLst t):=by
 intro pins s σ H Q I hq
 refine wpAny_List_spliced (thn (h pos pins s σ H _ I hq) λus s1 ⟨xs,H1,I1,r,z,q⟩=>⟨by rw[<-r.length];exact z,?_⟩)
 have hf:H1 s1.heap.objs.size=none:=I1.hok.fresh (AA8 _)
 refine⟨.ref s1.heap.objs.size,upd H1 s1.heap.objs.size (.lst xs),I1.laid (t':=s1.toks) (λb u e=>AA4 _ e) (AA8 _) ?_,rfl,q _ hf⟩
 exact⟨z,us,0,r,AAB _ rfl⟩
end
abbrev Sp:=List V->Hp->VK->XK->Prop
abbrev CXT:=List Env->Hp->Shared->XK->Value->Shared->Prop
structure Env0(P:Program)(w:World)(K:AA3)(mg:Str->Option Value)(base:Heap)(A:Around)(outer:List Env)(s:Shared)(H:Hp):Prop where
 frames:A.frames=some outer
 mod:Mod K mg base
 bs:∀b o,base.get? b=some o->s.heap.get? b=some o/\H b=none
 bsz:base.objs.size<=s.heap.objs.size
 funs:s.heap.FunFrames base outer
 frf:∀b∈frs outer,H b=none
 hok:HOk P w H s.heap
 bare:AllBare s.gens
inductive CE(outer:List Env)(P:Program)(w:World)(H:Hp)(s:Shared)(Q:VK)(u:Value)(s':Shared):Prop
 | mk (v:_) (H':_) (f0:s'.os=s.os) (f1:AllBare s'.gens) (f2:Un (frs outer) [] H H' s.heap s'.heap) (f3:HOk P w H' s'.heap) (f4:aI v u) (f5:Q v H')
def CR(CX:CXT)(outer:List Env)(P:Program)(w:World)(H:Hp)(s:Shared)(Q:VK)(E:XK)(r:Result)(s':Shared):Prop :=
 match r with
 | .ok (.ret u)=>CE outer P w H s Q u s'
 | .ok _=>False
 | .error e=>CX outer H s E e s'
structure FnOk(P:Program)(w:World)(K:AA3)(mg:Str->Option Value)(base:Heap)(CX:CXT)(k:Nat)(f:Addr)(fd:FuncData)(ps:List Str)(sp:Sp):Prop where
 len:∀vs H Q E,sp vs H Q E->vs.length=ps.length
 run:∀(A:Around) (outer:List Env) (s:Shared) (H:Hp) (args:Args) (us:List Value) (vs:List V) (Q:VK) (E:XK),Room k A->Env0 P w K mg base A outer s H->BindsTo s fd args (ps.zip us)->au vs us->sp vs H Q E ->
  codeAny (model P w) A (.call (.ref f) args) (CR CX outer P w H s Q E) s
theorem Env0.in1{P:Program}{w:World}{K:AA3}{mg:Str->Option Value}{base:Heap}{A:Around}{outer:List Env}{s:Shared}{H:Hp}(e:Env0 P w K mg base A outer s H) :
  Env0 P w K mg base A.in1 outer s H:=⟨e.frames,e.mod,e.bs,e.bsz,e.funs,e.frf,e.hok,e.bare⟩
section
variable{X:Cx}{pins:List (Addr×Obj)}{σ:St}{H:Hp}{s s':Shared}
theorem Inv.env0(I:Inv X pins σ H s):Env0 X.prog X.w X.K X.mg X.base X.A X.stack s H :=
 ⟨I.ok.frames,I.ok.mod,I.bs,AB0 I.ok.bsz I.sz,I.stack,I.stkFree,I.hok,I.bare⟩
theorem Inv.after(I:Inv X pins σ H s)(h:CE X.stack X.prog X.w H s Q u s'):EP X pins σ Q u s':=by
 obtain⟨v,H',os,bare,un,hok,r,q⟩:=h
 obtain⟨hh,g,d,t,os'⟩:=s'
 obtain rfl:os'=s.os:=os
 exact⟨v,H',I.call (h':=hh) (g':=g) (d':=d) (t':=t) (ch:=[]) un hok bare (λb z=>absurd z (by simp)),r,q⟩
end
def Ck(sp:Sp)(dvs:List V)(E:XK)(t:TA):TE:=λσ H Q=>t σ H λvs H1=>sp (vs++dvs) H1 Q E
def mz(K:AA3)(fd:FuncData)(ps:List Str)(ds:List Value):Prop :=
 ∀(s:Shared) (us:List Value),K.In s.heap->(us++ds).length=ps.length->BindsTo s fd ⟨us,[]⟩ (ps.zip (us++ds))
theorem mz.all{K:AA3}{fd:FuncData}{ps:List Str}(h:∀us:List Value,us.length=ps.length->bindArgs fd ⟨us,[]⟩=pure (ps.zip us)):mz K fd ps []:=λs us _ hl=>by
 rw[ABE]at hl ⊢
 exact .of_eq (h us hl)
def rW(CX:CXT)(X:Cx)(E:XK):Prop:=∀(pins:List (Addr×Obj)) (σ:St) (H:Hp) (s:Shared) (e:Value) (s':Shared),Inv X pins σ H s->CX X.stack H s E e s'->X.xe e s'
section
variable{X:Cx}{CX:CXT}{k:Nat}{f C:Addr}{fd:FuncData}{ps:List Str}{sp:Sp}{dvs:List V}{ds:List Value}{E:XK}{x m:Str}{p pos apos:Pos}{e o:Expr}{es:List Expr}{ta:TE}{t:TA}
theorem Ct(F:FnOk X.prog X.w X.K X.mg X.base CX k f fd ps sp)(hr:Room k X.A)(hb:mz X.K fd ps ds)(hd:au dvs ds)(hx:rW CX X E)
  (I:Inv X pins σ H s) (r:au vs us) (h:sp (vs++dvs) H Q E):wpAny (model X.prog X.w) X.A (call (.ref f) us) (EP X pins σ Q) X.xe s:=by
 have r2:au (vs++dvs) (us++ds):=r.append hd
 have hl:(us++ds).length=ps.length:=by rw[<-r2.length];exact F.len _ _ _ _ h
 refine wpAny_call (ACT (F.run X.A X.stack s H ⟨us,[]⟩ (us++ds) (vs++dvs) Q E hr I.env0 (hb s us I.kIn hl) r2 h) λr s' hq=>?_)
 cases r with
 | error e=>exact hx pins σ H s e s' I hq
 | ok fl =>
  cases fl with
  | ret u=>exact I.after hq
  | next=>exact ABZ hq
  | brk=>exact ABZ hq
  | cont=>exact ABZ hq
theorem zY(F:FnOk X.prog X.w X.K X.mg X.base CX k f fd ps sp)(hr:Room k X.A)(hg:Gl X x)(hm:X.mg x=some (.ref f))(hk:AC6 X.K (.ref f)=true)(hb:mz X.K fd ps ds)(hd:au dvs ds)(hx:rW CX X E)
  (ha:PA X (e::es) t) (hdb:(x==("__debug__":Str))=false:=by decide) (he:starEach (e::es) X.env=(false,eval e X.env)::starEach es X.env:=by rfl) (hpl:(backTo pos (starEach es X.env)).any (·.1)=false:=by rfl) :
  PE X (.Call (.Name x p) (e::es) [] pos) (Ck sp dvs E t):=by
 intro pins s σ H Q I h
 refine ABW (jB I hg hm ?_ hdb)
 refine PySem.W.callWith_K (h₀:=X.base) I.ok.mod.kin hk (thn (ha pos pins s σ H _ I h) λus s1 ⟨vs,H1,I1,r,q⟩=>⟨I1.kIn,?_⟩) he hpl
 exact Ct F hr hb hd hx I1 r q
structure Mk(K:AA3)(C f:Addr):Prop where
 makes:PySem.W.makesIn K C=true
 init:AC5 K (.ref C) "__init__" = some (some (.ref f))
 fn:PySem.W.isFn K (.ref f)=true
 kp:AC6 K (.ref C)=true
end
section
variable{X:Cx}{CX:CXT}{k:Nat}{f C:Addr}{fd:FuncData}{ps ks:List Str}{sp:Sp}{E:XK}{x m:Str}{p pos apos kpos:Pos}{e o:Expr}{es:List Expr}{kws:List Keyword}{te ta:TE}{t tk:TA}{nm:Option Str}
structure KBinds(K:AA3)(fd:FuncData)(ps ks:List Str)(g:List Value->List Value->List Value)(gV:List V->List V->List V):Prop where
 to:∀(s:Shared) (us ws:List Value),K.In s.heap->(g us ws).length=ps.length->BindsTo s fd ⟨us,ks.zip ws⟩ (ps.zip (g us ws))
 rel:∀{vs:List V}{us:List Value}{zs:List V}{ws:List Value},au vs us->au zs ws->au (gV vs zs) (g us ws)
variable{g:List Value->List Value->List Value}{gV:List V->List V->List V}
end
structure FnScope(N P:List Str)(sc:Scope):Prop where
 kind:sc.kind=.function
 co:sc.isCoroutine=false
 gen:sc.isGenerator=false
 nd:N.Nodup
 pre:N.take P.length=P
 par:∀x∈P,sc.names.lookup x=some .local\/sc.names.lookup x=some .cell
 nofree:∀y∈sc.names,y.2≠.free
theorem oG{kindOf:Str->Option NameKind}{x:Str}:∀{binds:List (Str×Value)}{m:Str->Option Value},(∀v,(x,v)∉binds)->bindL kindOf binds m x=m x
 | [],_,_=>rfl
 | (n,v)::r,m,h=>by
  unfold bindL
  rw[oG λw hw=>h w (AA9 _ hw)]
  split
  ·have:x≠n:=by rintro rfl;exact h v AAG
   simp[this]
  ·rfl
theorem oJ{kindOf:Str->Option NameKind}{x:Str}:∀{binds:List (Str×Value)}{m:Str->Option Value},(∀v,(x,v)∉binds)->bindC kindOf binds m x=m x
 | [],_,_=>rfl
 | (n,v)::r,m,h=>by
  unfold bindC
  rw[oJ λw hw=>h w (AA9 _ hw)]
  split
  ·rfl
  ·have:x≠n:=by rintro rfl;exact h v AAG
   simp[this]
theorem oH{kindOf:Str->Option NameKind}{x:Str}{v:Value}:∀{P:List Str}{vs:List Value}{i:Nat}{m:Str->Option Value},P.Nodup->P[i]?=some x->vs[i]?=some v->kindOf x=some .local ->
  bindL kindOf (P.zip vs) m x=some v
 | [],_,_,_,_,h,_,_=>by simp at h
 | _::_,[],_,_,_,_,h,_=>by simp at h
 | p::P,w::vs,0,m,nd,h1,h2,hk=>by
  simp at h1 h2;subst h1;subst h2
  show bindL kindOf ((p,w)::P.zip vs) m p=_
  unfold bindL
  rw[oG λv hv=>(ABs.mp nd).1 (ADz hv).1,if_pos hk]
  simp
 | p::P,w::vs,i+1,m,nd,h1,h2,hk=>by
  show bindL kindOf ((p,w)::P.zip vs) m x=_
  unfold bindL
  exact oH (i:=i) (ABs.mp nd).2 (by simpa using h1) (by simpa using h2) hk
theorem oK{kindOf:Str->Option NameKind}{x:Str}{v:Value}:∀{P:List Str}{vs:List Value}{i:Nat}{m:Str->Option Value},P.Nodup->P[i]?=some x->vs[i]?=some v->kindOf x≠some .local ->
  bindC kindOf (P.zip vs) m x=some v
 | [],_,_,_,_,h,_,_=>by simp at h
 | _::_,[],_,_,_,_,h,_=>by simp at h
 | p::P,w::vs,0,m,nd,h1,h2,hk=>by
  simp at h1 h2;subst h1;subst h2
  show bindC kindOf ((p,w)::P.zip vs) m p=_
  unfold bindC
  rw[oJ λv hv=>(ABs.mp nd).1 (ADz hv).1,if_neg hk]
  simp
 | p::P,w::vs,i+1,m,nd,h1,h2,hk=>by
  show bindC kindOf ((p,w)::P.zip vs) m x=_
  unfold bindC
  exact oK (i:=i) (ABs.mp nd).2 (by simpa using h1) (by simpa using h2) hk
noncomputable def start(N:List Str)(vs:List V):St:=vs.map some++ADo (N.length-vs.length) none
noncomputable def jL(CX:CXT)(P:Program)(w:World)(K:AA3)(mg:Str->Option Value)(base:Heap)(N:List Str)(qual:Str)(scope:Scope)(f:Addr)(cd:Value)(A:Around)(outer:List Env)(s:Shared)(H:Hp)(E:XK):Cx where
 prog:=P
 w:=w
 K:=K
 mg:=mg
 base:=base
 A:=A.deeper (envOfC qual scope s.heap.objs.size f cd)
 N:=N
 s₀:=s
 H₀:=H
 env:=envOfC qual scope s.heap.objs.size f cd
 outer:=outer
 stack:=envOfC qual scope s.heap.objs.size f cd::outer
 ex:=[]
 calm:=true
 fn:=λ_=>true
 pn:=[]
 xe:=λe s'=>wpAny (model P w) (A.deeper (envOfC qual scope s.heap.objs.size f cd)) (leaving (envOfC qual scope s.heap.objs.size f cd) e) (λ_ s''=>CX outer H s E e s'') (λe' s''=>CX outer H s E e' s'') s'
theorem rR{sc:Scope}{n:Nat}{x:Str}(h:sc.names.lookup x=some .cell):∃c,(cellsFrom n sc.names []).lookup x=some c:=by
 have q:=ADd sc.names n [] (.inl h)
 exact ABy.mp q
theorem nX{CX:CXT}{P:Program}{w:World}{K:AA3}{mg:Str->Option Value}{base:Heap}{N ps:List Str}{qual:Str}{scope:Scope}{f:Addr}{cd:Value}{A:Around}{outer:List Env}{s s1:Shared}{H:Hp}{E:XK}{us:List Value}{vs:List V}
  (S:FnScope N ps scope) (hd:A.handled=none) (e0:Env0 P w K mg base A outer s H) (hl:vs.length=ps.length) (r:au vs us)
  (x:InCallC s s.heap.objs.size (bindL (envOfC qual scope s.heap.objs.size f cd).kindOf (ps.zip us) λ_=>none) (cellsFrom (s.heap.objs.size+1) scope.names []) (bindC (envOfC qual scope s.heap.objs.size f cd).kindOf (ps.zip us) λ_=>none) s1) :
  Inv (jL CX P w K mg base N qual scope f cd A outer s H E) [] (start N vs) H s1:=by
 have hpl:ps.length<=N.length:=by have:=congrArg ABk S.pre;rw[AAx]at this;lia
 obtain⟨h1,tk,rfl,hk⟩:=x.done
 have noA:∀b:Addr,b∉(jL CX P w K mg base N qual scope f cd A outer s H E).ex:=λb z=>absurd (show b∈([]:List Addr)from z) (by simp)
 refine⟨⟨e0.mod,S.kind,rfl,rfl,AA8 _,λy z c h1 h2=>?_,λy hy=>?_,λy c _ h=>?_,λ_=>hd,Around.frames_deeper e0.frames,.inr ⟨rfl,rfl⟩,λb z=>absurd z (noA b),e0.bs,e0.bsz,λb _ _=>noA b,λb z=>absurd z (noA b),e0.funs,e0.frf⟩,
  rfl,e0.bare,Un.kept hk,⟨_,x.toInCall.ns,λi y v h1 h2 h3=>?_⟩,λy c h=>⟨_,x.cell y c h⟩,e0.hok.fresh (AA8 _),λy c h=>?_,λp hp=>absurd (show p∈([]:List (Addr×Obj))from hp) (by simp),e0.hok.kept hk,?_⟩
 ·exact name_of_addr x.apart (ABM h1) (ABM h2)
 ·have hy:scope.names.lookup y=some .cell\/scope.names.lookup y=some .free:=hy
  rcases hy with hy | hy
  ·exact rR hy
  ·exact absurd rfl (S.nofree _ (ABM hy))
 ·exact ADq (x.above y c (ABM h))
 ·have hi:i<vs.length:=by
   unfold start at h2
   by_cases hi:i<vs.length
   ·exact hi
   ·rw[AAa (by simpa using hi)]at h2
    rw[ACW]at h2
    split at h2<;>cases h2
  have ha:vs[i]?=some v:=by
   unfold start at h2
   rw[AAJ (by simpa using hi),AAT]at h2
   cases e:vs[i]? with
   | none=>rw[e]at h2;cases h2
   | some a=>rw[e]at h2;cases h2;rfl
  obtain⟨u,hu,rv⟩:=r.get ha
  have hp:ps[i]?=some y:=by
   rw[<-S.pre,ABL (by lia)];exact h1
  have ndP:ps.Nodup:=by rw[<-S.pre];exact S.nd.sublist (ADg _ _)
  refine⟨u,rv,?_⟩
  rcases S.par y (AAo hp)with k | k
  ·exact .inl ⟨k,oH ndP hp hu k⟩
  ·obtain⟨c,e⟩:=rR (n:=s.heap.objs.size+1) k
   refine .inr ⟨.inl k,c,e,?_⟩
   have q:=x.cell y c e
   rw[oK ndP hp hu (by show scope.names.lookup y≠_;rw[k];decide)]at q
   exact q
 ·exact e0.hok.fresh (ADq (x.above y c (ABM h)))
 ·unfold start
  show _=N.length
  rw[AAE,AA6,ACn]
  lia
theorem Bc{CX:CXT}{P:Program}{w:World}{K:AA3}{mg:Str->Option Value}{base:Heap}{k:Nat}{f:Addr}{name qual:Str}{params:Arguments}{body:List Stmt}{scope:Scope}{dV kV doc pm cdv ct oc:Value}{an od:Option Addr}
  {osl:Array (Option Value)}{N ps:List Str}{sp:Sp} (lk:K.lookup f=some ⟨oc,od,.func (ACU name qual params body scope dV kV doc pm an cdv ct),osl⟩) (hcd:AEF K cdv qual=true) (S:FnScope N ps scope)
  (len:∀vs H Q E,sp vs H Q E->vs.length=ps.length)
  (hbody:∀(A:Around) (outer:List Env) (s:Shared) (H:Hp) (vs:List V) (Q:VK) (E:XK),Room k (A.deeper (envOfC qual scope s.heap.objs.size f cdv))->sp vs H Q E ->
   ∃t,PSs (jL CX P w K mg base N qual scope f cdv A outer s H E) body t/\t { nx:=λ_ H'=>Q .non H',rt:=Q } (start N vs) H) :
  FnOk P w K mg base CX (k+1) f (ACU name qual params body scope dV kV doc pm an cdv ct) ps sp:=by
 refine⟨len,λA outer s H args us vs Q E hr e0 hb r hsp=>?_⟩
 have hl:=len _ _ _ _ hsp
 have KX:K.In s.heap:=e0.mod.kin.keeps λb o e=>(e0.bs b o e).1
 have lim:s.heap.NoLimit:=e0.mod.nolimit.keeps λb o e=>(e0.bs b o e).1
 have hkind:∀y∈ps.zip us,scope.names.lookup y.1=some .local\/(scope.names.lookup y.1=some .cell/\((cellsFrom (s.heap.objs.size+1) scope.names []).lookup y.1).isSome=true):=λ⟨n,v⟩ hy=>by
  rcases S.par n (ADz hy).1 with q | q
  ·exact .inl q
  ·exact .inr ⟨q,ADd _ _ _ (.inl q)⟩
 refine codeAny_call_function hr.depth (KX _ _ lk) rfl S.co S.gen rfl (PySem.W.codeRec_of KX hcd) (hb _ _ _ _ ?_)
 refine wpAny_newFunctionEnv_cells S.kind hkind λenv he s1 x=>?_
 subst he
 refine⟨lim.keeps x.toInCall.keep,codeAny_func ?_⟩
 obtain⟨t,ht,hq⟩:=hbody A outer s H vs Q E (hr.deeper _) hsp
 have I:Inv (jL CX P w K mg base N qual scope f cdv A outer s H E) [] (start N vs) H s1:=nX S hr.hd e0 hl r x
 refine AAp (ht [] s1 (start N vs) H _ I hq) (λfl s' hs=>?_) λe s' hs=>hs
 have fin:∀{σ':St}{H':Hp}{v:V}{u:Value},Inv (jL CX P w K mg base N qual scope f cdv A outer s H E) [] σ' H' s'->aI v u->Q v H'->CE outer P w H s Q u s' :=
  λ{σ' H' v u} J rv q=>⟨v,H',J.os,J.bare,J.base,J.hok,rv,q⟩
 cases fl with
 | ret u =>
  obtain⟨v,σ',H',J,rv,q⟩:=hs
  exact fin J rv q
 | next =>
  obtain⟨σ',H',J,q⟩:=hs
  exact fin (v:=V.non) (u:=ABi) J rfl q
 | brk =>
  obtain⟨_,_,_,q⟩:=hs
  exact ABZ q
 | cont =>
  obtain⟨_,_,_,q⟩:=hs
  exact ABZ q
section
variable{X:Cx}{x:Str}{p pos:Pos}{e:Expr}{es:List Expr}{t:TA}{id T:String}{r:List V->Hp->VK->Prop}
def tCB(r:List V->Hp->VK->Prop)(t:TA):TE:=λσ H Q=>t σ H λvs H1=>r vs H1 Q
theorem lK(hc:eM X (.builtin id) r)(hg:Gl X x)(hm:X.mg x=none)(hv:bootBuiltins x=some (.builtin id))(ha:PA X (e::es) t)(hn:x≠"__name__":=by decide)(hdb:(x==("__debug__":Str))=false:=by decide)
  (he:starEach (e::es) X.env=(false,eval e X.env)::starEach es X.env:=by rfl) (hpl:(backTo pos (starEach es X.env)).any (·.1)=false:=by rfl):PE X (.Call (.Name x p) (e::es) [] pos) (tCB r t):=by
 intro pins s σ H Q I h
 refine ABW (gi I hg hm hv ?_ hn hdb)
 exact PyProof.Rows.callWith_builtin1 (thn (ha pos pins s σ H _ I h) λus s1 ⟨vs,H1,I1,r1,q1⟩=>hc pins s1 σ H1 vs us Q I1 r1 q1) he hpl
theorem uW(hc:eM X (.type T) r)(hg:Gl X x)(hm:X.mg x=none)(hv:bootBuiltins x=some (.type T))(ha:PA X (e::es) t)(hn:x≠"__name__":=by decide)(hdb:(x==("__debug__":Str))=false:=by decide)
  (he:starEach (e::es) X.env=(false,eval e X.env)::starEach es X.env:=by rfl) (hpl:(backTo pos (starEach es X.env)).any (·.1)=false:=by rfl):PE X (.Call (.Name x p) (e::es) [] pos) (tCB r t):=by
 intro pins s σ H Q I h
 refine ABW (gi I hg hm hv ?_ hn hdb)
 exact ACm (thn (ha pos pins s σ H _ I h) λus s1 ⟨vs,H1,I1,r1,q1⟩=>hc pins s1 σ H1 vs us Q I1 r1 q1) he hpl
end
end L2
namespace HT
open PySem PyProof.Rows
theorem rcLt_int(A:Around)(s:Shared)(a:Int)(t:Tok)(c:Int)(u:Tok)(prog:Program)(w:World)(E:Value->Shared->Prop)(Q:Value->Shared->Prop)(h:Q (.bool (decide (a<c))) s) :
  wpAny (model prog w) A (richCompare .Lt (.int a t) (.int c u)) Q E s :=
 (PyProof.Rows.lt_int h:wpAny (model prog w) A (compareOp .Lt (.int a t) (.int c u)) Q E s)
section
variable{prog:Program}{w:World}{A:Around}{E:Value->Shared->Prop}{s:Shared}
theorem cat_tup(ht:IsTup s.heap t vs.toArray)(hb:IsTup s.heap b ws.toArray)(hv:vs≠[])
  (h1:ws=[]->Q (.ref t) s) (h2:ws≠[]->Q (.ref s.heap.objs.size) { s with heap:=s.heap.push { cls:=.type "tuple",data:=.seq (vs++ws).toArray } })
  (hsz:vs.length+ws.length<=sizeLine):wpAny (model prog w) A (binaryOp .Add (.ref t) (.ref b)) Q E s:=by
 obtain⟨⟨cls,dd,data,sl⟩,ho,hc,n,hd⟩:=id ht
 obtain⟨⟨cls2,dd2,data2,sl2⟩,ho2,hc2,n2,hd2⟩:=id hb
 simp only at hc hd hc2 hd2
 subst hc hd hc2 hd2
 have e:vs.toArray++ws.toArray=(vs++ws).toArray:=by simp
 by_cases hw:ws=[]
 ·exact concat_meets ⟨_,ho,rfl⟩ ⟨_,ho2,rfl⟩ noFill_tuple_add seq_tuple_add ADe ADS (ADK _ _)
   (tuple_addW1 t b vs.toArray ws.toArray n n2 dd dd2 sl sl2 (by simpa using hv) (by simp[hw])) ⟨ho,ho2,h1 hw⟩
 ·refine concat_meets ⟨_,ho,rfl⟩ ⟨_,ho2,rfl⟩ noFill_tuple_add seq_tuple_add ADe ADS (ADK _ _)
   (tuple_addW2 t b vs.toArray ws.toArray n n2 dd dd2 sl sl2 (by simpa using hv) (by simpa using hw) (by rw[AAD,AAD];exact hsz)) ⟨ho,ho2,?_⟩
  rw[e]
  exact h2 hw
noncomputable def sIx(n d:Nat):Option Int->Nat
 | none=>d
 | some v=>if v<0 then(v+(n:Int)).toNat else min v.toNat n
theorem Cr(n d:Nat)(hd:d<=n)(o:Option Int):sIx n d o<=n:=by
 cases o with
 | none=>exact hd
 | some v =>
  show (if v<0 then(v+(n:Int)).toNat else min v.toNat n)<=n
  by_cases hv:v<0
  ·rw[if_pos hv];lia
  ·rw[if_neg hv];exact Nat.min_le_right _ _
theorem wH(v:Int)(n d:Nat):(if v<0 then max (v+(n:Int)) 0 else min v (n:Int))=((sIx n d (some v):Nat):Int):=by
 show (if v<0 then max (v+(n:Int)) 0 else min v (n:Int))=(((if v<0 then(v+(n:Int)).toNat else min v.toNat n):Nat):Int)
 by_cases hv:v<0
 ·simp only[if_pos hv];lia
 ·simp only[if_neg hv];lia
theorem tK(lo hi:Option Int)(n:Nat):AD8 lo hi 1 (n:Int)=(((sIx n 0 lo:Nat):Int),((sIx n n hi:Nat):Int)):=by
 have h1:¬((1:Int)<0):=by lia
 unfold AD8
 simp only[h1,if_false]
 refine Prod.ext ?_ ?_
 ·cases lo with
  | none=>rfl
  | some v=>exact wH v n 0
 ·cases hi with
  | none=>rfl
  | some v=>exact wH v n n
theorem sC(i j:Nat):ACK (i:Int) (j:Int) 1=j-i:=by
 unfold ACK
 have h1:(1:Int) > 0:=by lia
 simp only[h1,if_true,Int.ediv_one]
 split<;>lia
theorem kM(p:IsPart v o)(h:Q o s):wpAny (model prog w) A (Builtin.Slice.slicePartIndex v) Q E s:=by
 cases p with
 | none=>exact slicePart_none h
 | int i t=>exact slicePart_int h
theorem dn{sl:Addr}{vl vu:Value}{lo hi:Option Int}{n:Nat}{Q:Int×Int×Nat->Shared->Prop}(hs:s.heap.IsSliceOf sl vl vu .none)(pl:IsPart vl lo)(pu:IsPart vu hi)
  (h:Q (((sIx n 0 lo:Nat):Int),1,sIx n n hi-sIx n 0 lo) s):wpAny (model prog w) A (AEB (.ref sl) (pure (n:Int))) Q E s:=by
 obtain⟨os,hos,hcs,hds⟩:=id hs
 unfold AEB Builtin.Slice.sliceFields
 refine AA0 (AA0 (wpAny_field hos hds (x:=vl) rfl (AA0 (wpAny_field hos hds (x:=vu) rfl (AA0 (wpAny_field hos hds (x:=.none) rfl (AA2 ?_)))))))
 refine AA0 (slicePart_none ?_)
 show wpAny _ _ (if ((1:Int)==0)=true then _ else _) _ _ s
 rw[if_neg (by decide)]
 refine AA0 (kM pl (AA0 (kM pu (AA0 (AA2 ?_)))))
 show wpAny _ _ (match AD8 lo hi 1 (n:Int)with | (lo,hi)=>pure (lo,(1:Int),ACK lo hi 1)) _ _ s
 rw[tK lo hi n]
 show wpAny _ _ (pure (((sIx n 0 lo:Nat):Int),(1:Int),ACK ((sIx n 0 lo:Nat):Int) ((sIx n n hi:Nat):Int) 1)) _ _ s
 rw[sC]
 exact AA2 h
theorem xv(xs:Array Value)(i k:Nat):((AAn k).filterMap λ(m:Nat)=>xs[((i:Int)+(m:Int)*1).toNat]?).toArray=((xs.toList.drop i).take k).toArray:=by
 have e:(λ(m:Nat)=>xs[((i:Int)+(m:Int)*1).toNat]?)=λm=>xs[i+m]?:=by
  funext m
  have:((i:Int)+(m:Int)*1).toNat=i+m:=by lia
  rw[this]
 rw[e]
 have:=pick_run xs i k
 rw[List.filterMap_map]at this
 have e2:((λx=>xs[x]?) ∘ λx=>i+x)=λm=>xs[i+m]?:=rfl
 rw[e2]at this
 rw[this]
theorem getItem_tuple_cut{t sl:Addr}{items:Array Value}{vl vu:Value}{lo hi:Option Int}{Q:Value->Shared->Prop}(ht:IsTup s.heap t items)(hs:s.heap.IsSliceOf sl vl vu .none)(pl:IsPart vl lo)(pu:IsPart vu hi)
  (hw:¬(sIx items.size 0 lo=0/\sIx items.size items.size hi=items.size))
  (h:Q (.ref s.heap.objs.size) { s with heap:=s.heap.push { cls:=.type "tuple",data:=.seq ((items.toList.drop (sIx items.size 0 lo)).take (sIx items.size items.size hi-sIx items.size 0 lo)).toArray } })
  (hsz:items.size<=sizeLine):wpAny (model prog w) A (getItem (.ref t) (.ref sl)) Q E s:=by
 have htake:sizeOk (.seq ((items.toList.drop (sIx items.size 0 lo)).take (sIx items.size items.size hi-sIx items.size 0 lo)).toArray):=by
  show ((items.toList.drop (sIx items.size 0 lo)).take (sIx items.size items.size hi-sIx items.size 0 lo)).toArray.size<=sizeLine
  rw[AAD,AAx,ABb,AAO]
  lia
 have hj:sIx items.size items.size hi<=items.size:=Cr _ _ (AA8 _) hi
 obtain⟨os,hos,hcs,hds⟩:=id hs
 have hTs:s.TypeIs (.ref sl) "slice":=⟨os,hos,hcs⟩
 unfold getItem
 try with_reducible refine AAd ?_
 first | refine AA0 (AA2 ?_) | skip
 refine AA0 (wpAny_sequenceKey ht.typeIs (by decide) ?_)
 refine AA0 (AAt (name:=AA1 "__getitem__") ht.typeIs AB5
  (AAj AB5 ht.typeIs entry_tuple_getitem ?_ (args_tuple_getitem _ _)))
 show wpAny _ _ (ACA (.ref t) >>= _) _ _ s
 refine AA0 (tupleItemsOf_ ht ?_)
 refine AA0 (ACV hTs ?_)
 rw[if_pos (by decide)]
 refine AA0 (dn hs pl pu ?_)
 have hno:¬((((sIx items.size 0 lo:Nat):Int)==0&&(1:Int)==1&&(sIx items.size items.size hi-sIx items.size 0 lo)==items.size)=true):=by
  intro q
  rw[AAS,AAS]at q
  have q1:((sIx items.size 0 lo:Nat):Int)=0:=eq_of_beq q.1.1
  have q2:sIx items.size items.size hi-sIx items.size 0 lo=items.size:=eq_of_beq q.2
  exact hw ⟨by lia,by lia⟩
 show wpAny _ _ (if (((sIx items.size 0 lo:Nat):Int)==0&&(1:Int)==1&&(sIx items.size items.size hi-sIx items.size 0 lo)==items.size)=true then _ else _) _ _ s
 rw[if_neg hno,xv]
 first
  | exact AA0 (m:=ACN _) (AAh (AA2 ⟨_,rfl,AA2 h⟩) htake)
  | exact AA0 (m:=ACN _) (AAh (AA0 (AA2 (AA2 ⟨_,rfl,AA2 h⟩))) htake)
  | exact AA0 (AA0 (m:=ACN _) (AAh (AA2 (AA2 ⟨_,rfl,AA2 h⟩)) htake))
  | exact AA0 (AA0 (m:=ACN _) (AAh (AA2 ⟨_,rfl,AA2 h⟩) htake))
end
end HT
namespace L2
open PySem PySem.Spec PyProof.Rows
abbrev TO:=St->Hp->(Option Int->Hp->Prop)->Prop
def PO(X:Cx)(e:Option Expr)(t:TO):Prop :=
 ∀(pins:List (Addr×Obj)) (s:Shared) (σ:St) (H:Hp) (Q:Option Int->Hp->Prop),Inv X pins σ H s->t σ H Q ->
  wpAny (model X.prog X.w) X.A (evalPart e X.env) (λu s'=>∃o H',Inv X pins σ H' s'/\IsPart u o/\Q o H') X.xe s
def zv:TO:=λ_ H Q=>Q none H
def tPart(t:TE):TO:=λσ H Q=>t σ H λx H1=>∃i,x=.int i/\Q (some i) H1
section
variable{X:Cx}{e:Expr}{te:TE}{lo hi:Option Expr}{tl th:TO}{pos p2:Pos}
theorem zT:PO X none zv:=by
 intro pins s σ H Q I h
 rw[evalPart_none]
 exact AA2 ⟨none,H,I,.none,h⟩
theorem zS(h:PE X e te):PO X (some e) (tPart te):=by
 intro pins s σ H Q I hw
 rw[evalPart_some]
 refine thn (h pins s σ H _ I hw) ?_
 rintro u s1 ⟨x,H1,I1,r1,q1⟩
 obtain⟨i,rfl,q⟩:=q1
 obtain⟨t,rfl⟩:=r1
 exact⟨some i,H1,I1,.int i t,q⟩
def SlR(X:Cx)(r:V->Option Int->Option Int->Hp->VK->Prop):Prop :=
 ∀(pins:List (Addr×Obj)) (s:Shared) (σ:St) (H:Hp) (x:V) (v vl vu:Value) (lo hi:Option Int) (sl:Addr) (Q:VK),Inv X pins σ H s->aI x v->s.heap.IsSliceOf sl vl vu .none->IsPart vl lo->IsPart vu hi->r x lo hi H Q ->
  ∃T id,typeLookup (.type T) "__getitem__" = pure (some (.builtin id))/\s.TypeIs v T/\wpAny (model X.prog X.w) X.A (getItem v (.ref sl)) (EP X pins σ Q) X.xe s
def tSl(r:V->Option Int->Option Int->Hp->VK->Prop)(te:TE)(tl th:TO):TE:=λσ H Q=>te σ H λx H1=>tl σ H1 λl H2=>th σ H2 λu H3=>r x l u H3 Q
theorem xz(hr:SlR X r)(he:PE X e te)(hl:PO X lo tl)(hu:PO X hi th):PE X (.Subscript e (.Slice lo hi none p2) pos) (tSl r te tl th):=by
 intro pins s σ H Q I h
 refine Subscript_ (thn (he pins s σ H _ I h) ?_)
 rintro v s1 ⟨x,H1,I1,r1,q1⟩
 refine wpAny_Slice (thn (hl pins s1 σ H1 _ I1 q1) ?_)
 rintro vl s2 ⟨l,H2,I2,pl,q2⟩
 refine thn (hu pins s2 σ H2 _ I2 q2) ?_
 rintro vu s3 ⟨u,H3,I3,pu,q3⟩
 rw[evalPart_none]
 refine AA2 ?_
 have I4:Inv X pins σ H3 { s3 with heap:=s3.heap.push { cls:=.type "slice",data:=.fields #[vl,vu,.none] } }:=I3.kept (t':=s3.toks) λb ob q=>AA4 _ q
 obtain⟨T,id,hT,ht,hg⟩:=hr pins { s3 with heap:=s3.heap.push { cls:=.type "slice",data:=.fields #[vl,vu,.none] } } σ H3 x v vl vu l u s3.heap.objs.size Q I4 r1 (Heap.IsSliceOf.new ..) pl pu q3
 show wpAny (model X.prog X.w) X.A (subscriptTail e (.Slice lo hi none p2) v (.ref s3.heap.objs.size)) (EP X pins σ Q) X.xe { s3 with heap:=s3.heap.push { cls:=.type "slice",data:=.fields #[vl,vu,.none] } }
 exact tail_any (ops:=[.ref s3.heap.objs.size,v]) ht hT hg (by with_unfolding_all rfl)
noncomputable def zh(xs:List V)(lo hi:Option Int):List V:=(xs.drop (HT.sIx xs.length 0 lo)).take (HT.sIx xs.length xs.length hi-HT.sIx xs.length 0 lo)
theorem jI(xs:List V)(lo hi:Option Int):(zh xs lo hi).length<=xs.length:=by
 unfold zh
 rw[AAx,ABb]
 lia
def rSlT(K:AA3):V->Option Int->Option Int->Hp->VK->Prop:=λx lo hi H Q=>∃a xs,x=.ref a/\SqT K H a xs /\
 ¬(HT.sIx xs.length 0 lo=0/\HT.sIx xs.length xs.length hi=xs.length)/\∀p,H p=none->Q (.ref p) (upd H p (.tup (zh xs lo hi)))
theorem Co:SlR X (rSlT X.K):=by
 intro pins s σ H x v vl vu lo hi sl Q I rx hs pl pu h
 obtain⟨a,xs,rfl,hx,hw,q⟩:=h
 cases rx
 obtain⟨its,r,ht,hz⟩:=I.tuple hx
 have hlen:its.toArray.size=xs.length:=by rw[AAD];exact r.length.symm
 refine⟨"tuple",_,AB5.lookup,ht.typeIs,?_⟩
 refine HT.getItem_tuple_cut ht hs pl pu (by rw[hlen];exact hw) ?_ (by rw[hlen];exact hz)
 rw[hlen]
 refine⟨.ref s.heap.objs.size,_,I.laid (t':=s.toks) (o:=.tup (zh xs lo hi)) (λb ob q=>AA4 _ q) (AA8 _) ?_,rfl,q _ (I.hok.fresh (AA8 _))⟩
 exact⟨AB0 (jI xs lo hi) hz,_,(r.drop (HT.sIx xs.length 0 lo)).take (HT.sIx xs.length xs.length hi-HT.sIx xs.length 0 lo),zm.new _ _⟩
def rCatT(K:AA3):R2:=λx y H Q=>∃a b xs ys,x=.ref a/\y=.ref b/\SqT K H a xs/\SqT K H b ys/\xs≠[]/\xs.length+ys.length<=sizeLine /\
 (ys=[]->Q (.ref a) H)/\(ys≠[]->∀p,H p=none->Q (.ref p) (upd H p (.tup (xs++ys))))
theorem au.nil_iff(r:au xs us):us=[]↔xs=[]:=by
 cases r with
 | nil=>simp
 | cons _ _=>simp
theorem Af:OpR X (binaryOp .Add) (rCatT X.K):=by
 intro pins s σ H x y v u Q I rx ry h
 obtain⟨a,b,xs,ys,rfl,rfl,ha,hb,hx,hz,q1,q2⟩:=h
 cases rx
 cases ry
 obtain⟨its,r1,p1,_⟩:=I.tuple ha
 obtain⟨its2,r2,p2,_⟩:=I.tuple hb
 refine HT.cat_tup p1 p2 (λz=>hx (r1.nil_iff.mp z)) (λz=>⟨.ref a,H,I,rfl,q1 (r2.nil_iff.mp z)⟩) (λz=>?_) (by rw[<-r1.length,<-r2.length];exact hz)
 refine⟨.ref s.heap.objs.size,_,I.laid (t':=s.toks) (o:=.tup (xs++ys)) (λb ob q=>AA4 _ q) (AA8 _) ?_,rfl,q2 (λw=>z (r2.nil_iff.mpr w)) _ (I.hok.fresh (AA8 _))⟩
 exact⟨by rw[AAE];exact hz,_,r1.append r2,zm.new _ _⟩
end
noncomputable def ixN(n:Nat)(i:Int):Option Nat:=if 0<=i then(if i<n then some i.toNat else none)else if -(n:Int)<=i then some (i+n).toNat else none
noncomputable def atI{α:Type}(xs:List α)(i:Int):Option α:=(ixN xs.length i).bind λj=>xs[j]?
theorem wa(h:ixN n i=some j):seqIndex? i n=some j/\j<n/\-(n:Int)<=i/\i<n:=by
 unfold ixN at h
 by_cases h0:0<=i
 ·rw[if_pos h0]at h
  by_cases h1:i<n
  ·rw[if_pos h1]at h
   have e:i.toNat=j:=AAN h
   exact⟨by rw[seqIndex_of h0 h1,e],by lia,by lia,h1⟩
  ·rw[if_neg h1]at h;cases h
 ·rw[if_neg h0]at h
  by_cases h1:-(n:Int)<=i
  ·rw[if_pos h1]at h
   have e:(i+n).toNat=j:=AAN h
   exact⟨by rw[seqIndex_neg (by lia) h1,e],by lia,h1,by lia⟩
  ·rw[if_neg h1]at h;cases h
theorem qk{α:Type}{xs:List α}{i:Int}{v:α}(h:atI xs i=some v):∃j,seqIndex? i xs.length=some j/\xs[j]?=some v/\j<xs.length/\-(xs.length:Int)<=i/\i<xs.length:=by
 unfold atI at h
 cases e:ixN xs.length i with
 | none=>rw[e]at h;cases h
 | some j =>
  rw[e]at h
  obtain⟨h1,h2,h3,h4⟩:=wa e
  exact⟨j,h1,h,h2,h3,h4⟩
theorem az{α:Type}{xs:List α}{j:Nat}{v:α}(h:xs[j]?=some v):atI xs (j:Int)=some v:=by
 have hj:j<xs.length:=(AA7.mp h).1
 have e:ixN xs.length (j:Int)=some j:=by
  unfold ixN
  rw[if_pos (by lia),if_pos (by lia)];simp
 unfold atI;rw[e];exact h
def qo(b:Expr):Prop:=∀o i,subscripted b false o i=operate [o,i] (getItem o i)
def IxR(X:Cx)(r:R2):Prop :=
 ∀(value slice:Expr) (pins:List (Addr×Obj)) (s:Shared) (σ:St) (H:Hp) (x y:V) (v u:Value) (Q:VK),Inv X pins σ H s->aI x v->aI y u->r x y H Q ->
  subscripted slice false v u=operate [v,u] (getItem v u)->wpAny (model X.prog X.w) X.A (subscriptTail value slice v u) (EP X pins σ Q) X.xe s
def MtR(X:Cx)(id:String)(r:V->List V->Hp->VK->Prop):Prop :=
 ∀(pins:List (Addr×Obj)) (s:Shared) (σ:St) (H:Hp) (x:V) (xs:List V) (v:Value) (us:List Value) (Q:VK),Inv X pins σ H s->aI x v->au xs us->r x xs H Q ->
  wpAny (model X.prog X.w) X.A (call (.builtin id) (v::us)) (EP X pins σ Q) X.xe s
section
variable{X:Cx}{a b:Expr}{ta tb:TE}{pos:Pos}
theorem IxR.or(h:IxR X r)(h':IxR X r'):IxR X (λx y H Q=>r x y H Q\/r' x y H Q):=by
 intro value slice pins s σ H x y v u Q I rx ry q hs
 rcases q with q | q
 ·exact h value slice pins s σ H x y v u Q I rx ry q hs
 ·exact h' value slice pins s σ H x y v u Q I rx ry q hs
theorem pe_ix(hr:IxR X r)(ha:PE X a ta)(hb:PE X b tb)(hs:qo b):PE X (.Subscript a b pos) (tOp r ta tb):=by
 intro pins s σ H Q I h
 exact Subscript_ (binT ha hb I h λv u s2 x y H2 I2 rx ry q=>hr a b pins s2 σ H2 x y v u Q I2 rx ry q (hs _ _))
def rIxL(K:AA3):R2:=λx y H Q=>∃p xs i v,x=.ref p/\y=.int i/\SqL K H p xs/\atI xs i=some v/\Q v H
def rIxT(K:AA3):R2:=λx y H Q=>∃p xs i v,x=.ref p/\y=.int i/\SqT K H p xs/\atI xs i=some v/\Q v H
def rIxS:R2:=λx y H Q=>∃z i c,x=.str z/\y=.int i/\z.length<=sizeLine/\atI z.cps.toList i=some c/\Q (.str ⟨#[c]⟩) H
theorem AR:IxR X (rIxL X.K):=by
 intro value slice pins s σ H x y v u Q I rx ry h hs
 obtain⟨p,xs,i,z,rfl,rfl,hq,he,q⟩:=h
 cases rx
 obtain⟨t,rfl⟩:=ry
 obtain⟨its,r,pl,hz⟩:=I.list hq
 obtain⟨j,h1,h2,h3,h4,h5⟩:=qk he
 obtain⟨w,ew,rw'⟩:=r.get h2
 have hl:=r.length
 have hn:=kT
 have fin:EP X pins σ Q w s:=⟨z,H,I,rw',q⟩
 by_cases h0:0<=i
 ·have hj:i.toNat=j:=by
   rw[seqIndex_of h0 h5]at h1
   exact AAN h1
  exact item_listR pl.isList h0 (by lia) (by rw[hj];simpa using ew) fin hs
 ·have hj:(i+(its.toArray.size:Int)).toNat=j:=by
   rw[seqIndex_neg (by lia) h4]at h1
   rw[AAD,<-hl]
   exact AAN h1
  exact subscriptTail_builtinR (x:=w) pl.isList.typeIs slot_list_getitem.lookup
   (wpAny_getItem_list_neg (Q:=λr s'=>r=w/\EP X pins σ Q r s') pl.isList (by lia) (by rw[AAD]<;>lia) (by lia) (by rw[hj];simpa using ew) ⟨rfl,fin⟩) hs
theorem Eb:IxR X (rIxT X.K):=by
 intro value slice pins s σ H x y v u Q I rx ry h hs
 obtain⟨p,xs,i,z,rfl,rfl,hq,he,q⟩:=h
 cases rx
 obtain⟨t,rfl⟩:=ry
 obtain⟨its,r,pl,hz⟩:=I.tuple hq
 obtain⟨j,h1,h2,h3,h4,h5⟩:=qk he
 obtain⟨w,ew,rw'⟩:=r.get h2
 have hl:=r.length
 have hn:=kT
 have fin:EP X pins σ Q w s:=⟨z,H,I,rw',q⟩
 exact subscriptTail_builtinR (x:=w) pl.typeIs slot_tuple_getitem.lookup
  (getItem_tuple (j:=j) (Q:=λr s'=>r=w/\EP X pins σ Q r s') pl (by lia) (by lia) (by rw[AAD,<-hl];exact h1) (by simpa using ew) ⟨rfl,fin⟩) hs
theorem Ec:IxR X rIxS:=by
 intro value slice pins s σ H x y v u Q I rx ry h hs
 obtain⟨z,i,c,rfl,rfl,hz,he,q⟩:=h
 obtain⟨t,rfl⟩:=rx
 obtain⟨t',rfl⟩:=ry
 obtain⟨j,h1,h2,h3,h4,h5⟩:=qk he
 have hl:z.cps.toList.length=z.length:=by simp[Str.length]
 rw[hl]at h1 h4 h5
 have hn:=kT
 exact tail_any (typeIs_str s z t) slot_str_getitem.lookup (getItem_str (c:=c) (by
  have e1:decide (i < -(2 ^ 63:Int))=false:=dF_ (by lia)
  have e2:decide (i ≥ 2 ^ 63)=false:=dF_ (by lia)
  rw[e1,e2,Bool.or_false]) (by rw[h1];simpa using h2) ⟨.str ⟨#[c]⟩,H,I.tok _,⟨_,rfl⟩,q⟩) hs
def rIx(K:AA3):R2:=λx y H Q=>rIxL K x y H Q\/rIxT K x y H Q\/rIxS x y H Q
theorem Ed:IxR X (rIx X.K):=AR.or (Eb.or Ec)
theorem sL(its:List Value)(n j:Nat)(u:Value):AB2 (·.setIfInBounds j u) { cls:=.type "list",data:=.seq its.toArray n }={ cls:=.type "list",data:=.seq (its.set j u).toArray n }:=by
 simp[AB2]
theorem Inv.lst(I:Inv X pins σ H s)(h:H p=some (.lst xs)) :
  ∃(its:List Value) (n:Nat),au xs its/\s.heap.get? p=some { cls:=.type "list",data:=.seq its.toArray n }/\xs.length<=sizeLine:=by
 obtain⟨z,its,n,r,e⟩:=I.hok p _ h
 exact⟨its,n,r,e,z⟩
theorem Inv.lstUpd{pins:List (Addr×Obj)}{σ:St}{H:Hp}{s:Shared}{p:Addr}{xs ys:List V}{its its':List Value}{n n':Nat}{f:Obj->Obj}(I:Inv X pins σ H s)(h:H p=some (.lst xs))
  (ho:s.heap.get? p=some { cls:=.type "list",data:=.seq its.toArray n }) (hf:f { cls:=.type "list",data:=.seq its.toArray n }={ cls:=.type "list",data:=.seq its'.toArray n' }) (r:au ys its') (hz:ys.length<=sizeLine) (t:Nat) :
  Inv X pins σ (upd H p (.lst ys)) { s with heap:=s.heap.update p f,toks:=t }:=by
 have e:(s.heap.update p f).get? p=some { cls:=.type "list",data:=.seq its'.toArray n' }:=by
  rw[AAc f ho (by rw[hf]<;>rfl),hf]
 refine I.write (x:=p) (e:=p) (by rw[h];trivial) (.inl rfl) (λb u hb q=>(ABg _ _ (ABO hb)).trans q) ⟨_,e⟩ ?_
 exact⟨hz,its',n',r,e⟩
def rSetL:V->V->V->Hp->(Hp->Prop)->Prop:=λo i v H Q=>∃p xs k j,o=.ref p/\i=.int k/\H p=some (.lst xs)/\ixN xs.length k=some j/\Q (upd H p (.lst (xs.set j v)))
theorem xn:PSet X rSetL:=by
 intro pins s σ H o i v ov iv u Q I ro ri rv h
 obtain⟨p,xs,k,j,rfl,rfl,hp,hj,q⟩:=h
 cases ro
 obtain⟨t,rfl⟩:=ri
 obtain⟨its,n,r,ho,hz⟩:=I.lst hp
 obtain⟨h1,h2,h3,h4⟩:=wa hj
 have hl:=r.length
 have hn:=kT
 have I':Inv X pins σ (upd H p (.lst (xs.set j v))) { s with heap:=s.heap.update p (AB2 (·.setIfInBounds j u)) } :=
  I.lstUpd hp ho (sL its n j u) (r.set rv j) (by rw[AAu];exact hz) s.toks
 by_cases h0:0<=k
 ·have hk:k.toNat=j:=by
   rw[seqIndex_of h0 h4]at h1
   exact AAN h1
  exact PySem.W.ki_setAt ho h0 (by lia) (by rw[AAD,<-hl];exact h4) (by rw[hk];exact⟨_,I',q⟩)
 ·have hk:(k+(its.toArray.size:Int)).toNat=j:=by
   rw[seqIndex_neg (by lia) h3]at h1
   rw[AAD,<-hl]
   exact AAN h1
  exact PySem.W.ki_setBack ho (by lia) (by rw[AAD,<-hl];exact h3) (by lia) (by rw[hk];exact⟨_,I',q⟩)
theorem nr(lo hi:Option Int)(n:Nat):(sliceBounds lo hi none n).1=((HT.sIx n 0 lo:Nat):Int)/\(sliceBounds lo hi none n).2.1=((HT.sIx n n hi:Nat):Int)/\(sliceBounds lo hi none n).2.2=1:=by
 refine⟨?_,?_,rfl⟩
 ·cases lo with
  | none=>simp[sliceBounds,HT.sIx]
  | some i =>
   simp only[sliceBounds,HT.sIx,Option.getD_none,show (1:Int) > 0 by decide,if_true]
   by_cases h:i<0
   ·simp only[h,if_true]<;>lia
   ·simp only[h,if_false]<;>lia
 ·cases hi with
  | none=>simp[sliceBounds,HT.sIx]
  | some i =>
   simp only[sliceBounds,HT.sIx,Option.getD_none,show (1:Int) > 0 by decide,if_true]
   by_cases h:i<0
   ·simp only[h,if_true]<;>lia
   ·simp only[h,if_false]<;>lia
theorem lD(its:List Value)(lo hi:Option Int):slicePick its.toArray lo hi none=((its.drop (HT.sIx its.length 0 lo)).take (HT.sIx its.length its.length hi-HT.sIx its.length 0 lo)).toArray:=by
 obtain⟨h1,h2,h3⟩:=nr lo hi its.toArray.size
 unfold slicePick
 rw[h1,h2,h3]
 simp only[sliceRange_one,pick_run,AAD]<;>rfl
def rSlL(K:AA3):V->Option Int->Option Int->Hp->VK->Prop:=λx lo hi H Q=>∃a xs,x=.ref a/\SqL K H a xs/\∀p,H p=none->Q (.ref p) (upd H p (.lst (zh xs lo hi)))
theorem zB:SlR X (rSlL X.K):=by
 intro pins s σ H x v vl vu lo hi sl Q I rx hs pl pu h
 obtain⟨a,xs,rfl,hx,q⟩:=h
 cases rx
 obtain⟨its,r,ht,hz⟩:=I.list hx
 have hlen:=r.length
 refine⟨"list",_,slot_list_getitem.lookup,ht.isList.typeIs,?_⟩
 refine wpAny_getItem_list_slice ht.isList hs pl pu .none (by simp) ?_ (by rw[AAD]<;>lia)
 rw[lD,<-hlen]
 refine⟨.ref s.heap.objs.size,_,I.laid (t':=s.toks) (o:=.lst (zh xs lo hi)) (λb ob q=>AA4 _ q) (AA8 _) ?_,rfl,q _ (I.hok.fresh (AA8 _))⟩
 exact⟨AB0 (jI xs lo hi) hz,_,0,(r.drop (HT.sIx xs.length 0 lo)).take (HT.sIx xs.length xs.length hi-HT.sIx xs.length 0 lo),AAB _ rfl⟩
theorem oF:eM X (.builtin "len") (λxs H Q=>∃p ys,xs=[.ref p]/\(SqL X.K H p ys\/SqT X.K H p ys)/\Q (.int ys.length) H):=by
 intro pins s σ H xs us Q I r h
 obtain⟨p,ys,rfl,hq,q⟩:=h
 obtain⟨u,rfl,rx⟩:=zu r
 cases rx
 have hn:=kT
 rcases hq with hq | hq
 ·obtain⟨its,r',pl,hz⟩:=I.list hq
  have hlen:=r'.length
  exact Calls.call_len_list pl.isList (by simp only[AAD]<;>lia) ⟨.int ys.length,H,I.tok _,⟨s.toks+1,by rw[AAD,hlen]⟩,q⟩
 ·obtain⟨its,r',pl,hz⟩:=I.tuple hq
  have hlen:=r'.length
  exact len_tuple pl (by simp only[AAD]<;>lia) ⟨.int ys.length,H,I.tok _,⟨s.toks+1,by rw[AAD,hlen]⟩,q⟩
theorem oE:eM X (.builtin "len") (λxs H Q=>∃z,xs=[.str z]/\z.length<=sizeLine/\Q (.int z.length) H):=by
 intro pins s σ H xs us Q I r h
 obtain⟨z,rfl,hz,q⟩:=h
 obtain⟨u,rfl,t,rfl⟩:=zu r
 have hn:=kT
 exact len_str (by lia) ⟨.int z.length,H,I.tok _,⟨_,rfl⟩,q⟩
theorem eM.or(h:eM X f r)(h':eM X f r'):eM X f (λxs H Q=>r xs H Q\/r' xs H Q):=by
 intro pins s σ H xs us Q I rs q
 rcases q with q | q
 ·exact h pins s σ H xs us Q I rs q
 ·exact h' pins s σ H xs us Q I rs q
theorem mr:eM X (.type "tuple") (λxs H Q=>∃p ys,xs=[.ref p]/\((SqL X.K H p ys/\∀l,H l=none->Q (.ref l) (upd H l (.tup ys)))\/(SqT X.K H p ys/\Q (.ref p) H))):=by
 intro pins s σ H xs us Q I r h
 obtain⟨p,ys,rfl,h⟩:=h
 obtain⟨u,rfl,rx⟩:=zu r
 cases rx
 rcases h with⟨hq,q⟩|⟨hq,q⟩
 ·obtain⟨its,r',pl,hz⟩:=I.list hq
  have hlen:=r'.length
  refine call_tuple_list pl.isList (λh' kp=>?_) (by simp only[AAD]<;>lia)
  have I1:Inv X pins σ H { s with heap:=h' }:=I.kept (t':=s.toks) kp
  have I2:Inv X pins σ (upd H h'.objs.size (.tup ys)) { s with heap:=h'.push { cls:=.type "tuple",data:=.seq its.toArray } } :=
   I1.laid (t':=s.toks) (λb o e=>AA4 _ e) (AA8 _) (show cu X.prog X.w _ _ _ (.tup ys)from⟨hz,its,r',zm.new _ _⟩)
  exact⟨.ref h'.objs.size,_,I2,rfl,q _ (I1.hok.fresh (AA8 _))⟩
 ·obtain⟨its,r',pl,hz⟩:=I.tuple hq
  exact call_tuple_same pl ⟨.ref p,H,I,rfl,q⟩
def tyV(K:AA3)(T:String)(x:V)(H:Hp):Prop:=match x with
 | .str _=>T = "str"
 | .int _=>T = "int"
 | .ref p=>(T = "list"/\∃xs,SqL K H p xs)\/(T = "tuple"/\∃o,K.lookup p=some o/\o.cls=.type "tuple"/\o.dict=none) \/
   (T = "dict"/\((∃kvs,H p=some (.dK kvs))\/∃kvs,H p=some (.dT kvs)))\/(T = "set"/\∃S n,H p=some (.set S n))
 | _=>False
theorem Cc(I:Inv X pins σ H s)(r:aI x v)(ty:tyV X.K T x H) :
  s.TypeIs v T/\∀a,v=.ref a->∃ob,s.heap.get? a=some ob/\ob.dict=none:=by
 cases x with
 | str z =>
  obtain⟨t,rfl⟩:=r
  cases (show T = "str" from ty)
  exact⟨typeIs_str s z t,λ_ e=>nomatch e⟩
 | int i =>
  obtain⟨t,rfl⟩:=r
  cases (show T = "int" from ty)
  exact⟨typeIs_int s i t,λ_ e=>nomatch e⟩
 | ref p =>
  cases r
  rcases ty with⟨rfl,xs,hq⟩|⟨rfl,o,hk,hc,hd⟩|⟨rfl,hk⟩|⟨rfl,S,n,hk⟩
  ·obtain⟨its,_,pl,_⟩:=I.list hq
   refine⟨pl.isList.typeIs,λa e=>?_⟩
   cases e
   obtain⟨o,n,e,c,hd,_⟩:=pl
   exact⟨o,e,hd⟩
  ·refine⟨⟨o,I.kIn p o hk,hc⟩,λa e=>?_⟩
   cases e
   exact⟨o,I.kIn _ o hk,hd⟩
  ·have z:∃o,s.heap.get? p=some o/\o.ExactDict:=by
    rcases hk with⟨kvs,hk⟩|⟨kvs,hk⟩
    ·obtain⟨_,_,_,_,o,_,_,e,ex,_⟩:=I.hok p _ hk
     exact⟨o,e,ex⟩
    ·obtain⟨_,_,_,_,o,_,_,e,ex,_⟩:=I.hok p _ hk
     exact⟨o,e,ex⟩
   obtain⟨o,e,ex⟩:=z
   refine⟨⟨o,e,ex.1⟩,λa e2=>?_⟩
   cases e2
   exact⟨o,e,ex.2.1⟩
  ·obtain⟨o,_,_,_,e,ex,_⟩:=I.hok p _ hk
   refine⟨⟨o,e,ex.1⟩,λa e2=>?_⟩
   cases e2
   exact⟨o,e,ex.2.1⟩
 | _=>exact ABZ ty
def tBM(K:AA3)(T:String)(r:V->List V->Hp->VK->Prop)(to:TE)(t:TA):TE:=λσ H Q=>to σ H λx H1=>tyV K T x H1/\t σ H1 λxs H2=>r x xs H2 Q
variable{o e:Expr}{es:List Expr}{to:TE}{t:TA}{name:Str}{apos cpos:Pos}{T id:String}{r:V->List V->Hp->VK->Prop}
theorem pe_bm(pa:PlainAttrs T)(slot:Slot T name id)(hty:typeOf (.builtin id)=pure (.type "method_descriptor"))(hm:MtR X id r)(ho:PE X o to)(ha:PA X (e::es) t)
  (hbase:attributeBase o name X.env (eval o X.env)=eval o X.env:=by rfl)
  (hfew:((backTo cpos (starEach (e::es) X.env)).all (λx=>!x.1)&&(backToKw cpos (keywordEach [] X.env)).all (λx=>x.1.isSome)
   && decide ((e::es).length+([]:List Keyword).length+(if ([]:List Keyword).isEmpty then 0 else 1)<30))=true:=by rfl)
  (hline:(apos.endLine==cpos.line)=true:=by rfl) (hs:starEach (e::es) X.env=(false,eval e X.env)::starEach es X.env:=by rfl) (hplain:(backTo cpos (starEach es X.env)).any (·.1)=false:=by rfl) :
  PE X (.Call (.Attribute o name apos) (e::es) [] cpos) (tBM X.K T r to t):=by
 intro pins s σ H Q I h
 refine wpAny_Call_method_late hbase hfew hline rfl (thn (ho pins s σ H _ I h) ?_)
 rintro v s1 ⟨x,H1,I1,r1,ty,q1⟩
 obtain⟨h1,h2⟩:=Cc I1 r1 ty
 refine⟨T,id,pa,slot,hty,h1,h2,?_⟩
 have hA:=ha cpos pins s1 σ H1 _ I1 q1
 rw[hs]at hA ⊢
 refine ACf (by show (false||(backTo cpos (starEach es X.env)).any (·.1))=false;rw[hplain]<;>rfl) (ADx ?_)
 refine thn hA ?_
 rintro us s2 ⟨vs,H2,I2,r2,q2⟩
 exact hm pins s2 σ H2 x vs v us Q I2 r1 r2 q2
/- xs.append(e),list.index on a module's tuple .. are MtR facts of 06m -/
end
def MtM(X:Cx)(id:String)(r:V->List V->Hp->VK->Prop):Prop :=
 ∀(pins:List (Addr×Obj)) (s:Shared) (σ:St) (H:Hp) (x:V) (xs:List V) (v:Value) (us:List Value) (Q:VK),Inv X pins σ H s->aI x v->au xs us->r x xs H Q ->
  wpAny (model X.prog X.w) X.A (call (.builtin id) (v::us)) (EP X pins σ Q) X.xe s
theorem au.one(h:au [x] us):∃u,us=[u]/\aI x u:=by
 cases h with
 | cons r t=>cases t;exact⟨_,rfl,r⟩
theorem au.two(h:au [x,y] us):∃u v,us=[u,v]/\aI x u/\aI y v:=by
 cases h with
 | cons r t =>
  obtain⟨v,e,q⟩:=au.one t
  subst e
  exact⟨_,v,rfl,r,q⟩
section
variable{X:Cx}{pins:List (Addr×Obj)}{σ:St}{H:Hp}{s:Shared}{l b:Addr}{xs ys zs:List V}
theorem Inv.lset{its its':List Value}{n:Nat}{f:Array Value->Array Value}{t':Nat}(I:Inv X pins σ H s)(hH:H l=some (.lst xs))
  (e:s.heap.get? l=some { cls:=.type "list",data:=.seq its.toArray n }) (hf:f its.toArray=its'.toArray) (hv:au ys its') (hz:ys.length<=sizeLine) :
  Inv X pins σ (upd H l (.lst ys)) { s with heap:=s.heap.update l (AB2 f),toks:=t' }:=by
 have q:=PySem.IsL.update e f
 rw[hf]at q
 refine I.write (x:=l) (e:=l) (by rw[hH];exact trivial) (.inl rfl) (λb' u hb hu=>(ABg s.heap (AB2 f) (ABO hb)).trans hu) ⟨_,q⟩ ?_
 exact⟨hz,its',_,hv,q⟩
theorem Inv.lnew(I:Inv X pins σ H s)(hv:au ys its)(hz:ys.length<=sizeLine) :
  Inv X pins σ (upd H s.heap.objs.size (.lst ys)) { s with heap:=s.heap.push { cls:=.type "list",data:=.seq its.toArray },toks:=t' } :=
 I.laid (λ_ _ q=>AA4 _ q) (AA8 _) ⟨hz,its,0,hv,AAB _ rfl⟩
theorem Inv.fresh(I:Inv X pins σ H s):H s.heap.objs.size=none:=I.hok.fresh (AA8 _)
theorem Inv.lstM(I:Inv X pins σ H s)(hH:H l=some (.lst xs)):xs.length<=sizeLine/\∃(its:List Value) (n:Nat),au xs its/\xs.length=its.length/\s.heap.get? l=some { cls:=.type "list",data:=.seq its.toArray n }:=by
 obtain⟨z,its,n,r,e⟩:=I.hok l _ hH
 exact⟨z,its,n,r,r.length,e⟩
theorem xG(h:n<=sizeLine):ADL n=false:=by
 unfold ADL
 exact dF_ (by lia)
end
section
variable{X:Cx}
def zI:V->List V->Hp->VK->Prop:=λx vs H Q=>∃l xs y,x=.ref l/\vs=[y]/\H l=some (.lst xs)/\xs.length<sizeLine/\Q .non (upd H l (.lst (xs++[y])))
theorem vA:MtM X "list.append" zI:=by
 intro pins s σ H x vs v us Q I rx rv h
 obtain⟨l,xs,y,rfl,rfl,hH,hz,q⟩:=h
 cases rx
 obtain⟨u,rfl,ru⟩:=rv.one
 obtain⟨z,its,n,r,hl,e⟩:=I.lstM hH
 refine call_meets F.slot_list_append ⟨_,e,rfl⟩ F.entry_list_append (F.args_list_append_2 _ _) (PySem.list_append l its.toArray n u (by rw[AAD];lia)) ⟨e,?_⟩
 refine⟨.non,_,I.lset (its':=its++[u]) hH e (by simp) (r.append (.cons ru .nil)) ?_,rfl,q⟩
 rw[AAE,AAg]
 lia
def zH:V->List V->Hp->VK->Prop:=λx vs H Q=>∃l b xs zs,x=.ref l/\vs=[.ref b]/\H l=some (.lst xs)/\H b=some (.lst zs)/\xs.length+zs.length<=sizeLine/\Q .non (upd H l (.lst (xs++zs)))
theorem vt:MtM X "list.extend" zH:=by
 intro pins s σ H x vs v us Q I rx rv h
 obtain⟨l,b,xs,zs,rfl,rfl,hH,hB,hz,q⟩:=h
 cases rx
 obtain⟨u,rfl,ru⟩:=rv.one
 cases ru
 obtain⟨z,its,n,r,hl,e⟩:=I.lstM hH
 obtain⟨z2,its2,n2,r2,hl2,e2⟩:=I.lstM hB
 have hsz:its.toArray.size+its2.toArray.size<=sizeLine:=by rw[AAD,AAD];lia
 have hlong:¬(!its.toArray.isEmpty&&ADL (its.toArray.size+its2.toArray.size))=true:=by
  rw[xG hsz,AEG]
  exact ABJ
 refine call_meets F.slot_list_extend ⟨_,e,rfl⟩ F.entry_list_extend (F.args_list_extend_2 _ _)
  (AutoSeq1.list_extend_list_list_0 l its.toArray n b its2.toArray n2 hlong (by rw[AAD];lia) (by lia)) ⟨e,e2,?_⟩
 refine⟨.non,_,I.lset (its':=its++its2) hH e (by simp) (r.append r2) ?_,rfl,q⟩
 rw[AAE]
 lia
def rCat:R2:=λx y H Q=>∃l b xs zs,x=.ref l/\y=.ref b/\H l=some (.lst xs)/\H b=some (.lst zs)/\xs.length+zs.length<=sizeLine/\∀p,H p=none->Q (.ref p) (upd H p (.lst (xs++zs)))
theorem Da:OpR X (binaryOp .Add) rCat:=by
 intro pins s σ H x y v u Q I rx ry h
 obtain⟨l,b,xs,zs,rfl,rfl,hH,hB,hz,q⟩:=h
 cases rx
 cases ry
 obtain⟨z,its,n,r,hl,e⟩:=I.lstM hH
 obtain⟨z2,its2,n2,r2,hl2,e2⟩:=I.lstM hB
 refine PySem.P.add_list e e2 ?_ (by rw[AAD,AAD];lia)
 have ea:its.toArray++its2.toArray=(its++its2).toArray:=by simp
 rw[ea]
 exact⟨.ref _,_,I.lnew (t':=s.toks) (r.append r2) (by rw[AAE];lia),rfl,q _ I.fresh⟩
end
end L2
namespace Att
open PySem PySem.W PySem.Calls PyProof.Rows
theorem jC:∀(ns:List Int) (vs:List Value),WellAll P h vs (ns.map WData.int)->IntsAre vs ns:=by
 intro ns
 induction ns with
 | nil =>
  intro vs w
  rw[List.map_nil]at w
  cases w
  exact .nil
 | cons n ns ih =>
  intro vs w
  rw[AAe]at w
  cases w with
  | cons a b =>
   cases a
   exact .cons _ _ (ih _ b)
theorem uM{l:OpenLaw}{n:Nat}(hn:l.most=some n){P:Params}{h:Heap}{args:List WData}{vals:List Value}
  (hpre:l.row.toRowW.claim.pre args=true) (hwl:WellAll P h vals args) :
  ∃a vs ns,vals=[ABf a]/\args=[WData.list (ns.map WData.int)]/\h.get? a=some { cls:=.type "list",data:=.seq vs.toArray }/\IntsAre vs ns/\ns.length<=n:=by
 have hsh:WShape.hasAll [] args [.list .int]=true:=(pre_splitW hpre).1
 have hc:l.pre.holds [] { args:=args }=true:=(pre_splitW hpre).2
 obtain⟨d,r,rfl,h1,h2⟩:=hasAllW_cons hsh
 obtain rfl:=hasAllW_nil h2
 obtain⟨xs,rfl,h3⟩:=hasW_list h1
 obtain⟨ns,rfl⟩:=items_int h3
 have hlen:ns.length<=n:=by
  unfold OpenLaw.pre at hc
  have h4:(WTm.not (.lt (.lit (.int (n:Int))) (.len (.arg 0)))).holds [] { args:=[.list (ns.map .int)] }=true:=by
   have h4:=(holds_andW hc).1
   rw[hn]at h4
   exact h4
  have h5:=condW_of h4 (w_not (w_lt w_lit (w_len_list (w_arg rfl))))
  rw[AA6]at h5
  refine Nat.le_of_not_lt λq=>?_
  have q':(n:Int)<((ns.length:Nat):Int):=by lia
  first
   | (rw[dT_ q']at h5;exact absurd h5 (by decide))
   | (simp at h5;lia)
 cases hwl with
 | cons w1 w2 =>
  cases w2
  cases w1 with
  | list ho hall=>exact⟨_,_,ns,rfl,rfl,ho,jC ns _ hall,hlen⟩
theorem uS(l:OpenLaw)(args:List WData):l.row.toRowW.claim.post args (.bool true) args=true :=
 postW_of (r:=l.row.toRowW) (X:=(true==true))
  (show WShape.has [] (.bool true) .bool=true by first | rfl | decide | simp[WShape.has,WShape.arms,WShape.armsAll])
  (show (WTm.eq .res (.lit (.bool true))).value [] { args:=args,res:=some (.bool true),after:=args }=some (.bool (true==true))from w_eq_bool (w_res rfl) w_lit) rfl
theorem attach_call{l:OpenLaw}{n:Nat}{q:Program}{loose:List Str}{XP:(Str->Option Value)->Heap->Prop}{YP:World->Heap->Prop}{d:DefRec}
  (hn:l.most=some n) (hdf:d.params.defaults=[])
  (call:∀(w:World) (s₀ s₁:Shared) (mg mb:Str->Option Value) (fa:Addr) (o:Obj) (pm cd doc:Value) (a:Addr) (vs:List Value) (ns:List Int),
   Ground q loose [] XP w s₀ mg mb s₁.heap->YP w s₁.heap ->
   s₁.heap.get? fa=some o->o.data=.func (docDef d.name d.params d.body d.scope pm cd doc)->s₁.heap.CodeRec cd d.name->mg d.name=some (.ref fa) ->
   s₁.heap.get? a=some { cls:=.type "list",data:=.seq vs.toArray }->IntsAre vs ns->ns.length<=n->s₁.gens = #[] ->
   codeAny (model l.prog w) callerA (.call (.ref fa) ⟨[.ref a],[]⟩) (λr s'=>r=.ok (.ret (.bool true))/\OldK s₁.heap s'.heap/\s'.os=s₁.os/\AllBare s'.gens) s₁) :
  WalkO q loose XP YP l.row.toRowW d [] (λf vs=>PySem.call f vs):=by
 intro w s₀ s₁ mg mb G Y fa o pm cd doc dV kV ho hd hcd hD hmg hg args vals as hpre hlay hrd hwl hlo
 obtain rfl:dV=.none:=Dflts.none hD hdf
 obtain rfl:kV=.none:=Dflts.noKw hD
 obtain⟨a,vs,ns,rfl,rfl,hobj,hints,hlen⟩:=uM hn hpre hwl
 refine enter_call (ACT (call w s₀ s₁ mg mb fa o pm cd doc a vs ns G Y ho (fd_plain hd) hcd hmg hobj hints hlen hg) λr s' hq=>?_)
 obtain⟨rfl,h2,h3,h4⟩:=hq
 exact⟨.inl ⟨.bool true,.bool true,[],rfl,λ_=>rfl,.bool true,uS l _,λ_=>⟨ACv,λ_ hm=>(nomatch hm)⟩⟩,h2,h3,h4⟩
section
variable{prog:Program}{w:World}{A:Around}{E:Value->Shared->Prop}{s:Shared}{K:Frag}
noncomputable def noObjs(h:Heap):Heap:={ h with objs:=#[] }
theorem noObjs_get(h:Heap)(b:Addr):(noObjs h).get? b=none:=by
 cases e:(noObjs h).get? b with
 | none=>rfl
 | some o=>exact absurd (AAF e) (ABt _)
noncomputable def ledger(h:Heap)(L d:Addr):List (Addr×Obj):=(AAn h.objs.size).filterMap λa=>if a=L\/a=d then none else(h.get? a).map λo=>(a,o)
theorem mem_ledger:(a,o)∈ledger h L d↔a≠L/\a≠d/\h.get? a=some o:=by
 unfold ledger
 rw[ADO]
 constructor
 ·rintro⟨b,_,e⟩
  split at e
  ·cases e
  ·rename_i hb
   obtain⟨o',ho,e'⟩:=ABI.mp e
   cases e'
   exact⟨λq=>hb (.inl q),λq=>hb (.inr q),ho⟩
 ·rintro⟨n1,n2,ho⟩
  refine⟨a,AAs.mpr (AAF ho),?_⟩
  rw[if_neg (show ¬(a=L\/a=d)from λq=>q.elim n1 n2),ho]<;>rfl
theorem news_ledger(hne:d≠L)(ho:h.get? d=some od):News (noObjs h) L h ([]++(d,od)::ledger h L d):=by
 rintro⟨a,o⟩ hp
 rcases AAM.mp hp with e | hp
 ·cases e
  exact⟨ho,hne,noObjs_get _ _⟩
 ·obtain⟨n1,n2,e⟩:=mem_ledger.mp hp
  exact⟨e,n1,noObjs_get _ _⟩
theorem fr_all(n:h.Ns L m):Fr (noObjs h) L h m :=
 ⟨n,λb o e=>(by rw[noObjs_get]at e;cases e),AAW _⟩
end
end Att
namespace L2
open PySem PySem.Spec PyProof.Rows
theorem mF:∀{vs:List Value}{ns:List Int},IntsAre vs ns->au (ns.map V.int) vs
 | _,_,.nil=>.nil
 | _,_,.cons n t h=>.cons ⟨t,rfl⟩ (mF h)
noncomputable abbrev KOf{K:AA3}{h:Heap}(_:K.In h):AA3:=K
noncomputable def fA(s:Stmt):Arguments:=match s with
 | .FunctionDef _ a _ _ _ _ _ _ _ _=>a
 | _=>{ posonlyargs:=[],args:=[],vararg:=none,kwonlyargs:=[],kw_defaults:=[],kwarg:=none,defaults:=[] }
noncomputable def bg(s:Stmt):List Stmt:=match s with
 | .FunctionDef _ _ b _ _ _ _ _ _ _=>b
 | _=>[]
noncomputable def ak(s:Stmt):Scope:=match s with
 | .FunctionDef _ _ _ _ _ _ sc _ _ _=>sc
 | _=>{ kind:=.function,names:=[],isGenerator:=false,isCoroutine:=false }
abbrev CX0:CXT:=λ_ _ _ _ _ _=>False
abbrev E0:XK:=λ_ _ _=>False
theorem pass0:rW CX0 X E0:=λ_ _ _ _ _ _ _ h=>h.elim
structure Fun(K:AA3)(x qual:Str)(st:Stmt)(f:Addr)(fd:FuncData):Prop where
 ex:∃(oc:Value) (od:Option Addr) (kV doc pm:Value) (an:Option Addr) (cdv ct:Value) (osl:Array (Option Value)),
  fd=ACU x qual (fA st) (bg st) (ak st) .none kV doc pm an cdv ct/\K.lookup f=some ⟨oc,od,.func fd,osl⟩/\AEF K cdv qual=true
 kp:AC6 K (.ref f)=true
section
variable{P:Program}{w:World}{K:AA3}{mg:Str->Option Value}{base:Heap}
theorem Fun.ok{x qual:Str}{st:Stmt}{f:Addr}{fd:FuncData}{N ps:List Str}{k:Nat}{sp:Sp}(F:Fun K x qual st f fd)(S:FnScope N ps (ak st))(len:∀vs H Q E,sp vs H Q E->vs.length=ps.length)
  (hbody:∀(cdv:Value) (A:Around) (outer:List Env) (s:Shared) (H:Hp) (vs:List V) (Q:VK) (E:XK),Room k (A.deeper (envOfC qual (ak st) s.heap.objs.size f cdv))->sp vs H Q E ->
   ∃t,PSs (jL CX0 P w K mg base N qual (ak st) f cdv A outer s H E).nox (bg st) t/\t { nx:=λ_ H'=>Q .non H',rt:=Q } (start N vs) H):FnOk P w K mg base CX0 (k+1) f fd ps sp:=by
 obtain⟨oc,od,kV,doc,pm,an,cdv,ct,osl,rfl,lk,hcd⟩:=F.ex
 refine Bc lk hcd S len λA outer s H vs Q E hr hsp=>?_
 obtain⟨t,h,q⟩:=hbody cdv A outer s H vs Q E hr hsp
 exact⟨t,h.nox,q⟩
theorem Fun.binds{x qual:Str}{st:Stmt}{f:Addr}{fd:FuncData}{ps:List Str}(F:Fun K x qual st f fd)
  (h:∀(kV doc pm:Value) (an:Option Addr) (cdv ct:Value) (us:List Value),us.length=ps.length->bindArgs (ACU x qual (fA st) (bg st) (ak st) .none kV doc pm an cdv ct) ⟨us,[]⟩=pure (ps.zip us)):mz K fd ps []:=by
 obtain⟨oc,od,kV,doc,pm,an,cdv,ct,osl,rfl,lk,hcd⟩:=F.ex
 exact .all (h kV doc pm an cdv ct)
theorem Es{x qual:Str}{st:Stmt}{f:Addr}{oc:Value}{od an:Option Addr}{osl:Array (Option Value)}{kV doc pm cdv ct:Value}(l:K.lookup f=some ⟨oc,od,.func (ACU x qual (fA st) (bg st) (ak st) .none kV doc pm an cdv ct),osl⟩)
  (c:AEF K cdv qual=true) (k:AC6 K (.ref f)=true):Fun K x qual st f (ACU x qual (fA st) (bg st) (ak st) .none kV doc pm an cdv ct):=⟨⟨oc,od,kV,doc,pm,an,cdv,ct,osl,rfl,l,c⟩,k⟩
end
theorem aY(h:n<=1000):n<sizeLine:=Nat.lt_of_le_of_lt h (by decide)
section
variable{X:Cx}
theorem pv(i:Nat)(hN:X.N[i]?=some x:=by rfl)(hv:Vis X.env.scope x:=by first | exact Or.inl rfl | exact Or.inr (Or.inl rfl) | exact Or.inr (Or.inr rfl))(hd:(x==("__debug__":Str))=false:=by decide)
  (hcd:(x==("__classdict__":Str))=false:=by decide):PE X (.Name x pos) (tVar i):=yQ hN hv hd hcd
end
theorem bF{A B:Prop}(h:B):if false=true then A else B:=by
 rw[if_neg ABJ]
 exact h
theorem bQ{A B:Prop}(h:A):if true=true then A else B:=by
 rw[if_pos rfl]
 exact h
section
variable{κ:Type}[DecidableEq κ]
noncomputable def putK(kvs:List (κ×V))(k:κ)(v:V):List (κ×V) :=
 if (kvs.any λkv=>decide (kv.1=k))=true then kvs.map (λkv=>if kv.1=k then(kv.1,v)else kv)else kvs++[(k,v)]
theorem KV.any(r:KV kvs vs)(k:κ):(kvs.any λkv=>decide (kv.1=k))=vs.any λkv=>decide (kv.1=k):=by
 unfold KV at r
 induction r with
 | nil=>rfl
 | cons h t ih=>rw[List.any_cons,List.any_cons,ih,h.1]
theorem KV.repl(r:KV kvs vs)(k:κ)(ry:aI y u) :
  KV (kvs.map λkv=>if kv.1=k then(kv.1,y)else kv) (vs.map λkv=>if kv.1=k then(kv.1,u)else kv):=by
 unfold KV at r ⊢
 induction r with
 | nil=>exact .nil
 | @cons p q ps qs h t ih =>
  rw[AAe,AAe]
  refine .cons ?_ ih
  obtain⟨h1,h2⟩:=h
  by_cases e:p.1=k
  ·rw[if_pos e,if_pos (h1.symm.trans e)];exact⟨h1,ry⟩
  ·rw[if_neg e,if_neg (λz=>e (h1.trans z))];exact⟨h1,h2⟩
theorem KV.put(r:KV kvs vs)(k:κ)(ry:aI y u):KV (putK kvs k y) (stored vs k u):=by
 unfold putK stored
 rw[r.any k]
 by_cases e:(vs.any λkv=>decide (kv.1=k))=true
 ·rw[if_pos e,if_pos e];exact r.repl k ry
 ·rw[if_neg e,if_neg e];exact Paired.snoc r ⟨rfl,ry⟩
end
section
variable{X:Cx}{pins:List (Addr×Obj)}{σ:St}{H:Hp}{s:Shared}{a:Addr}{y v:V}{u r:Value}{o:Option V}{A:Around}{E:Value->Shared->Prop}
theorem Inv.big(I:Inv X pins σ H s):sysModules<s.heap.objs.size:=by
 have h:mainGlobals<s.heap.objs.size:=(I.mod.glob.keeps I.bk).lt
 exact Nat.lt_trans (by decide) h
theorem wC(I:Inv X pins σ H s)(mu:Mut (H a))(hs:AC4 a s.heap h')(he:∃q,h'.get? a=some q)(new:cu X.prog X.w (upd H a ob) h' a ob) :
  Inv X pins σ (upd H a ob) { s with heap:=h',toks:=t' } :=
 I.write (x:=a) (e:=a) mu (.inl rfl) (λb q hb z=>(hs.2 b hb).trans z) he new
end
def NoSl(i:Expr):Prop:=∀ov iv,subscripted i false ov iv=operate [ov,iv] (getItem ov iv)
theorem zw{prog:Program}{w:World}{A:Around}{E:Value->Shared->Prop}{s:Shared}{env:Env}{value slice:Expr}{pos:Pos}{T id:String}{Q:Value->Shared->Prop}
  (hl:typeLookup (.type T) "__getitem__" = pure (some (.builtin id))) (hs:NoSl slice)
  (h:wpAny (model prog w) A (eval value env) (λo s₁=>wpAny (model prog w) A (eval slice env) (λi s₂=>s₂.TypeIs o T/\wpAny (model prog w) A (getItem o i) Q E s₂) E s₁) E s) :
  wpAny (model prog w) A (eval (.Subscript value slice pos) env) Q E s:=by
 refine Subscript_ (AAp h (λo s₁ h₁=>AAp h₁ (λi s₂ h₂=>?_) λ_ _ x=>x) λ_ _ x=>x)
 obtain⟨hT,h₂⟩:=h₂
 unfold subscriptTail
 refine AA0 ?_
 rw[getitemInPython_of_ne hT.not_modules]
 refine AA0 (ABu hT hl ?_)
 have fin:wpAny (model prog w) A (subscripted slice false o i) (λr s₃=>wpAny (model prog w) A (letTemporaryGo value o r >>= λ_=>pure r) Q E s₃) E s₂:=by
  rw[hs o i]
  exact wpAny_operating (AAp h₂ (λr s₃ h₃=>AA0 (wpAny_letTemporaryGo (AA2 h₃))) λ_ _ x=>x)
 first
  | exact AA2 (AA0 fin)
  | exact AA0 (AA2 (AA0 fin))
  | exact AA0 fin
end L2
namespace DL
open PySem
theorem fF(env:Env):∀(names:List (Str×NameKind)) (acc:List (Str×Addr)),
  (∀p∈names,p.2=ABC->∃c,env.cells.lookup p.1=some c) ->
  ∃cl,(forIn (m:=Sem) names acc λ(p:Str×NameKind) (r:List (Str×Addr)) =>
    if (p.2==ABC)=true then(do let a <-cellOf env p.1;pure (AE0 ((p.1,a)::r)))else pure (AE0 r))=pure cl /\
   (∀z c,cl.lookup z=some c->acc.lookup z=some c\/env.cells.lookup z=some c) /\
   (∀z c,acc.lookup z=some c->∃c',cl.lookup z=some c') /\
   (∀p∈names,p.2=ABC->∃c,cl.lookup p.1=some c)
 | [],acc,_=>⟨acc,rfl,λ_ _ h=>.inl h,λz c h=>⟨c,h⟩,λ_ h=>nomatch h⟩
 | (n,k)::aE,acc,hyp=>by
  by_cases hk:k=ABC
  ·subst hk
   obtain⟨c0,hc0⟩:=hyp (n,.free) AAG rfl
   obtain⟨cl,e,h1,h2,h3⟩:=fF env aE ((n,c0)::acc) λp hp=>hyp p (AA9 _ hp)
   have ce:cellOf env n=pure c0:=by unfold cellOf;rw[hc0]
   have own:∃c',cl.lookup n=some c':=h2 n c0 (by simp[ABc])
   refine⟨cl,?_,λz c hz=>?_,λz c hz=>?_,λp hp hf=>?_⟩
   ·rw[List.forIn_cons]
    simp only[beq_self_eq_true,if_true,ce,pure_bind]
    exact e
   ·rcases h1 z c hz with q | q
    ·rw[ABc]at q
     by_cases hz':(z==n)=true
     ·rw[hz']at q
      have:z=n:=by simpa using hz'
      subst this
      cases q
      exact .inr hc0
     ·have hz'':(z==n)=false:=by simpa using hz'
      rw[hz'']at q
      exact .inl q
    ·exact .inr q
   ·by_cases hz':z=n
    ·subst hz';exact own
    ·refine h2 z c ?_
     rw[ABc]
     have hz'':(z==n)=false:=by simpa using hz'
     rw[hz'']
     exact hz
   ·rcases AAM.mp hp with rfl | hp
    ·exact own
    ·exact h3 p hp hf
  ·have hb:(k==ABC)=false:=by simpa using hk
   obtain⟨cl,e,h1,h2,h3⟩:=fF env aE acc λp hp=>hyp p (AA9 _ hp)
   refine⟨cl,?_,h1,h2,λp hp hf=>?_⟩
   ·rw[List.forIn_cons]
    simp only[hb,AAA,if_false,pure_bind]
    exact e
   ·rcases AAM.mp hp with rfl | hp
    ·exact absurd hf hk
    ·exact h3 p hp hf
theorem ik(hyp:∀p∈scope.names,p.2=ABC->∃c,env.cells.lookup p.1=some c) :
  ∃cl,closureFor scope env=pure cl/\(∀z c,cl.lookup z=some c->env.cells.lookup z=some c)/\(∀p∈scope.names,p.2=ABC->∃c,cl.lookup p.1=some c):=by
 obtain⟨cl,e,h1,h2,h3⟩:=fF env scope.names [] hyp
 refine⟨cl,?_,λz c hz=>?_,h3⟩
 ·unfold closureFor
  simp only[bind_pure]
  exact e
 ·rcases h1 z c hz with q | q
  ·simp at q
  ·exact q
theorem dE{env:Env}:∀{names:List (Str×NameKind)}{x:Str}{k:NameKind},
  (names.map λ(p:Str×NameKind)=>if (p.2==ABC&&env.scope.kind==.function&&env.kindOf p.1==some .cell)=true then(p.1,ACX)else(p.1,p.2)).lookup x=some k ->
   (names.lookup x=some k\/(k=ACX/\names.lookup x=some .free))
 | [],_,_,h=>by simp at h
 | (n,j)::aE,x,k,h=>by
  have ih:=@dE env aE x k
  rw[AAe,ABc]at h
  by_cases hx:(x==n)=true
  ·have hl:List.lookup x ((n,j)::aE)=some j:=by rw[ABc,hx]
   rw[hl]
   by_cases hc:(j==ABC&&env.scope.kind==.function&&env.kindOf n==some .cell)=true
   ·simp only[hc,if_true,hx]at h
    cases h
    have:j=ABC:=by
     simp only[AAS]at hc
     simpa using hc.1.1
    exact .inr ⟨rfl,by rw[this]⟩
   ·simp only[hc,AAA,if_false,hx]at h
    exact .inl h
  ·have hx':(x==n)=false:=by simpa using hx
   have hl:List.lookup x ((n,j)::aE)=List.lookup x aE:=by rw[ABc,hx']
   rw[hl]
   refine ih ?_
   by_cases hc:(j==ABC&&env.scope.kind==.function&&env.kindOf n==some .cell)=true
   ·simp only[hc,if_true,hx']at h
    exact h
   ·simp only[hc,AAA,if_false,hx']at h
    exact h
section
variable{prog:Program}{w:World}{A:Around}{R:Result->Shared->Prop}{s:Shared}
theorem lu(ifs:List Expr)(env:Env):compTests ifs env =
  (forIn ifs true λc r=>if r=true then do let ok <-isTrue c env (eval c env);pure (AE0 ok)else pure (AE0 r)):=by
 unfold compTests
 simp only[bind_pure]
theorem tH(J:Nat->Shared->Prop)(ne:Value->Shared->Prop)
  (hne:∀e s',ne e s'->notedBy (model prog w) A env (λe s'=>R (.error e) s') e s')
  (turn:∀n s,J n s->wpAny (model prog w) A (pyNext it) (λr s1=>match r with
   | none=>R (.ok .next) s1
   | some v=>wpAny (model prog w) A (letOwnedTupleGo target it v) (λ_ s2=>wpAny (model prog w) A (assign target env v) (λ_ s3 =>
     wpAny (model prog w) A (compTests ifs env) (λok s4 =>
      if ok=true then wpAny (model prog w) A (eval elt env) (λy s5=>wpAny (model prog w) A (call (.builtin "list.append") [acc,y]) (λ_ s6=>∃m,m<n/\J m s6) ne s5) ne s4
      else ∃m,m<n/\J m s4) ne s3) ne s2) ne s1) ne s)
  (n:Nat) (h:J n s):codeAny (model prog w) A (.compLoop (.ListComp elt [⟨target,iter,ifs,0⟩] scope pos) 0 it acc env) R s:=by
 refine codeAny_loop rfl J (λn s hJ=>?_) n h
 show wpAny _ A ((compTurn (.ListComp elt [⟨target,iter,ifs,0⟩] scope pos) 0 it acc env).onRaise (λx=>do noteFrame x env;theTreesLotGoes x)) _ _ s
 refine wpAny_noted ?_
 rw[compTurn_list]
 refine AA0 (wpAny_standAt (AA0 (AAp (turn n s hJ) (λr s1 h1=>?_) hne)))
 cases r with
 | none=>exact AA2 h1
 | some v =>
  refine AA0 (AAp h1 (λ_ s2 h2=>?_) hne)
  refine AA0 (AAp h2 (λ_ s3 h3=>?_) hne)
  rw[lu]at h3
  refine AA0 (AAp h3 (λok s4 h4=>?_) hne)
  cases ok with
  | false=>exact AA2 ⟨rfl,h4⟩
  | true =>
   exact AA0 (AA0 (AAp h4 (λy s5 h5=>AA0 (AAp h5 (λ_ s6 h6=>AA2 (AA2 ⟨rfl,h6⟩)) hne)) hne))
end
end DL
namespace L2
open PySem PySem.Spec PyProof.Rows DL
theorem ig{env:Env}:∀{names:List (Str×NameKind)}{x:Str},names.lookup x=some .free ->
  ((names.map λ(p:Str×NameKind)=>if (p.2==ABC&&env.scope.kind==.function&&env.kindOf p.1==some .cell)=true then(p.1,ACX)else(p.1,p.2)).lookup x=some .cell \/
   (names.map λ(p:Str×NameKind)=>if (p.2==ABC&&env.scope.kind==.function&&env.kindOf p.1==some .cell)=true then(p.1,ACX)else(p.1,p.2)).lookup x=some .free)
 | [],_,h=>by simp at h
 | (n,j)::aE,x,h=>by
  have ih:=@ig env aE x
  rw[AAe,ABc]
  rw[ABc]at h
  by_cases hc:(j==ABC&&env.scope.kind==.function&&env.kindOf n==some .cell)=true
  ·by_cases hx:(x==n)=true
   ·simp[hc,hx]
   ·have hx':(x==n)=false:=by simpa using hx
    rw[hx']at h
    simp only[hc,if_true,hx']
    exact ih h
  ·by_cases hx:(x==n)=true
   ·rw[hx]at h
    cases h
    right
    simp only[hc,AAA,if_false,hx]
   ·have hx':(x==n)=false:=by simpa using hx
    rw[hx']at h
    simp only[hc,AAA,if_false,hx']
    exact ih h
noncomputable def blk(X:Cx)(N':List Str)(scope:Scope)(cl:List (Str×Addr))(s₀:Shared)(H₀:Hp)(ex:List Addr):Cx :=
 { X with N:=N',s₀:=s₀,H₀:=H₀,env:=compEnvC scope cl s₀.heap.objs.size X.env,outer:=X.stack,ex:=ex,fn:=λx=>scope.names.lookup x==some .cell,pn:=[],xe:=λ_ _=>False }
structure BlkSc(X:Cx)(N':List Str)(nt:Nat)(js:List Nat)(scope:Scope):Prop where
 kind:scope.kind=.function
 nocell:∀y∈scope.names,y.2≠.cell
 loc:∀y∈scope.names,y.2=.local->scope.names.lookup y.1=some .local
 free:∀y∈scope.names,y.2=.free->(X.env.kindOf y.1=some .cell\/X.env.kindOf y.1=some .free)
 len:N'.length=nt+js.length
 fr:∀(k j:Nat),js[k]?=some j->∃x,N'[nt+k]?=some x/\X.N[j]?=some x/\scope.names.lookup x=some .free/\(X.env.kindOf x=some .cell\/X.env.kindOf x=some .free)
noncomputable def bst(nt:Nat)(js:List Nat)(σ:St):St:=ADo nt none++js.map λj=>(σ[j]?).join
theorem wP(nt:Nat)(js:List Nat)(σ:St):(bst nt js σ).length=nt+js.length:=by simp[bst]
theorem BC(h:(bst nt js σ)[i]?=some (some v)):∃k j,i=nt+k/\js[k]?=some j/\σ[j]?=some (some v):=by
 unfold bst at h
 by_cases hi:i<nt
 ·rw[AAJ (by simpa using hi),ACW]at h
  simp[hi]at h
 ·rw[AAa (by simpa using ACw.mp hi),ACn,AAT]at h
  cases e:js[i-nt]? with
  | none=>rw[e]at h;cases h
  | some j =>
   rw[e]at h
   refine⟨i-nt,j,by lia,e,?_⟩
   have h':(σ[j]?).join=some v:=by simpa using h
   cases q:σ[j]? with
   | none=>rw[q]at h';cases h'
   | some o=>rw[q]at h';exact congrArg some h'
def PTs(X:Cx)(ifs:List Expr)(t:TT):Prop :=
 ∀(pins:List (Addr×Obj)) (s:Shared) (σ:St) (H:Hp) (Q:Bool->Hp->Prop),Inv X pins σ H s->t σ H Q->wpAny (model X.prog X.w) X.A (compTests ifs X.env) (TP X pins σ Q) X.xe s
def ttNil:TT:=λ_ H Q=>Q true H
theorem zN:PTs X [] ttNil:=λpins s σ H Q I h=>by
 rw[lu]
 exact wpAny_tests_nil ⟨H,I,h⟩
theorem zM(h:PT X c t):PTs X [c] t:=λpins s σ H Q I hq=>by
 rw[lu]
 exact wpAny_tests_one (h pins s σ H Q I hq)
def tLC(nt:Nat)(js:List Nat)(wi:TI)(g:TG)(tt:TT)(te:TE):TE:=λσ H Q=>wi σ H λJ H1=>∃W:Nat->Nat->List V->St->Hp->Prop,(∃m,W 0 m [] (bst nt js σ) H1) /\
 ∀i m vs τ H,W i m vs τ H->(J.stop i H/\∀p,H p=none->Q (.ref p) (upd H p (.lst vs))) \/
  (J.go i H/\∀x H',J.yld i H x H'->g x τ H' λτ2 H2=>tt τ2 H2 λb H3=>if b=true then te τ2 H3 λy H4=>vs.length<sizeLine/\∃m',m' < m/\W (i+1) m' (vs++[y]) τ2 H4 else ∃m',m' < m/\W (i+1) m' vs τ2 H3)
noncomputable abbrev bO(its:List Value)(k:Nat):Obj:={ cls:=.type "list",data:=.seq its.toArray k }
section
variable{X:Cx}{pins:List (Addr×Obj)}{σ:St}{H:Hp}{s:Shared}
theorem Inv.blkOk(B:BlkSc X N' nt js scope)(I:Inv X pins σ H s)
  (hcl1:∀z c,cl.lookup z=some c->X.env.cells.lookup z=some c) (hcl2:∀p∈scope.names,p.2=ABC->∃c,cl.lookup p.1=some c) (hf:∀b∈fp,tP X pins H b) (hfs:∀b∈fp,b<s.heap.objs.size) :
  (blk X N' scope cl { s with heap:=s.heap.push ob } H (s.heap.objs.size::fp)).Ok:=by
 have J:Inv X pins σ H { s with heap:=s.heap.push ob }:=I.kept (t':=s.toks) λb o e=>AA4 _ e
 have ltc:∀z c,cl.lookup z=some c->c<s.heap.objs.size:=λz c e=>by
  obtain⟨v,q⟩:=I.cell z c (hcl1 z c e)
  exact q.lt
 have hC:(s.heap.push ob).objs.size=s.heap.objs.size+1:=ABN ..
 refine⟨I.ok.mod,B.kind,I.ok.glob,I.ok.blt,AA8 _,λy z c h1 h2=>I.ok.inj y z c (hcl1 y c h1) (hcl1 z c h2),λy hy=>?_,λy c h=>?_,I.ok.hd,I.ok.frames,.inl rfl,λb hb=>?_,λb o e=>?_,?_,λb o e hb=>?_,λb hb=>?_,J.stack,I.stkFree⟩
 ·have key:scope.names.lookup y=some .free:=by
   rcases hy with hy | hy
   ·rcases dE (env:=X.env) (names:=scope.names) (x:=y) (k:=.cell) hy with q | ⟨_,q⟩
    ·exact absurd rfl (B.nocell _ (ABM q))
    ·exact q
   ·rcases dE (env:=X.env) (names:=scope.names) (x:=y) (k:=.free) hy with q | ⟨q,_⟩
    ·exact q
    ·cases q
  exact hcl2 (y,.free) (ABM key) rfl
 ·exact absurd rfl (B.nocell _ (ABM (beq_iff_eq.mp (show (scope.names.lookup y==some ACX)=true from h))))
 ·show b≠(s.heap.push ob).objs.size/\∀x c,cl.lookup x=some c->c≠b
  rw[hC]
  rcases AAM.mp hb with rfl | hb
  ·exact⟨AAK (AAy _),λx c e=>AAK (ltc x c e)⟩
  ·exact⟨AAK (ABl (hfs b hb)),λx c e=>(hf b hb).2.2.2.2.1 x c (hcl1 x c e)⟩
 ·exact⟨AA4 _ (I.bs b o e).1,(I.bs b o e).2⟩
 ·show X.base.objs.size<=(s.heap.push ob).objs.size
  rw[hC]
  exact Nat.le_succ_of_le (AB0 I.ok.bsz I.sz)
 ·rcases AAM.mp hb with rfl | hb
  ·exact absurd (AAF (I.bs _ o e).1) (AAf _)
  ·rcases(hf b hb).2.2.2.1 with z | z
   ·exact I.ok.noex b o e z
   ·exact absurd (AAP (AAF (I.ok.bs b o e).1) z) (AAf _)
 ·intro hz
  have hz':=I.stkSub b hz
  rcases AAM.mp hb with rfl | hb
  ·rcases AAM.mp hz' with q | q
   ·exact absurd I.lt (by rw[<-q];exact AAf _)
   ·exact I.nofs (AA8 _) q
  ·rcases AAM.mp hz' with q | q
   ·exact(hf b hb).2.1 q
   ·exact(hf b hb).2.2.1 q
theorem Inv.blkStart(B:BlkSc X N' nt js scope)(I:Inv X pins σ H s)
  (hcl1:∀z c,cl.lookup z=some c->X.env.cells.lookup z=some c) (hcl2:∀p∈scope.names,p.2=ABC->∃c,cl.lookup p.1=some c) (hf:∀b∈fp,tP X pins H b) (hfs:∀b∈fp,b<s.heap.objs.size)
  (old:∀b o,(s.heap.push (bO [] 0)).get? b=some o->h1.get? b=some o) (hn:h1.Ns (s.heap.push (bO [] 0)).objs.size mm) :
  Inv (blk X N' scope cl { s with heap:=s.heap.push (bO [] 0) } H (s.heap.objs.size::fp)) [(s.heap.objs.size,bO [] 0)] (bst nt js σ) H { s with heap:=h1,toks:=tk }:=by
 have old2:∀b o,s.heap.get? b=some o->h1.get? b=some o:=λb o e=>old b o (AA4 _ e)
 have hC:(s.heap.push (bO [] 0)).objs.size=s.heap.objs.size+1:=ABN ..
 refine⟨I.blkOk B hcl1 hcl2 hf hfs,rfl,I.bare,Un.kept old,⟨mm,hn,λi x v e1 e2 e3=>?_⟩,λx c e=>?_,?_,λx c e=>I.freeC x c (hcl1 x c e),λp hp=>?_,I.hok.kept old2,?_⟩
 ·obtain⟨k,j,rfl,hj,hσ⟩:=BC e2
  obtain⟨x',n1,n2,lf,kf⟩:=B.fr k j hj
  have ex:x=x':=AAN (e1.symm.trans n1)
  subst ex
  obtain⟨m2,hn2,hl2⟩:=I.loc
  have vis:Vis X.env.scope x:=kf.elim (λz=>.inr (.inl z)) λz=>.inr (.inr z)
  obtain⟨u,r,look⟩:=hl2 j x v n2 hσ vis
  refine⟨u,r,?_⟩
  rcases look with⟨q,_⟩|⟨q,c,hc,hcell⟩
  ·rcases kf with z | z<;>(rw[q]at z;cases z)
  ·obtain⟨c',hc'⟩:=hcl2 (x,.free) (ABM lf) rfl
   have:c'=c:=AAN ((hcl1 x c' hc').symm.trans hc)
   subst this
   exact .inr ⟨ig (env:=X.env) lf,c',hc',hcell.keeps old2⟩
 ·obtain⟨v,q⟩:=I.cell x c (hcl1 x c e)
  exact⟨v,q.keeps old2⟩
 ·exact I.hok.fresh (by show s.heap.objs.size<=(s.heap.push (bO [] 0)).objs.size;rw[hC];exact AE1 _)
 ·have e:p=(s.heap.objs.size,bO [] 0):=by simpa [blk]using hp
  subst e
  refine⟨old _ _ (AAB _ rfl),I.hok.fresh (AA8 _),?_,?_,λv z=>by cases z⟩
  ·show s.heap.objs.size≠(s.heap.push (bO [] 0)).objs.size
   rw[hC]
   exact AAK (AAy _)
  ·intro hz
   rcases AAM.mp (I.stkSub _ hz)with q | q
   ·exact absurd I.lt (by rw[<-q];exact AAf _)
   ·exact I.nofs (AA8 _) q
 ·rw[wP]
  exact B.len.symm
theorem Inv.blkEnd(I:Inv X pins σ H s)
  (hf:∀b∈fp,tP X pins H b)
  (I4:Inv (blk X N' scope cl { s with heap:=s.heap.push (bO [] 0) } H (s.heap.objs.size::fp)) [(s.heap.objs.size,bO its k)] τ H' s')
  (rv:au vs its) (hl:vs.length<=sizeLine) (sb:AC4 (s.heap.push (bO [] 0)).objs.size s'.heap h') :
  Inv X pins σ (upd H' s.heap.objs.size (.lst vs)) { s' with heap:=h' }:=by
 have hC:(s.heap.push (bO [] 0)).objs.size=s.heap.objs.size+1:=ABN ..
 have hDC:s.heap.objs.size≠(s.heap.push (bO [] 0)).objs.size:=by rw[hC];exact AAK (AAy _)
 obtain⟨oD,fD,_⟩:=I4.pin (s.heap.objs.size,bO its k) (by simp[blk])
 have oD':s'.heap.get? s.heap.objs.size=some (bO its k):=oD
 have fD':H' s.heap.objs.size=none:=fD
 have fC:H' (s.heap.push (bO [] 0)).objs.size=none:=I4.free
 have u:Un (frs X.stack) (s.heap.objs.size::fp) H H' (s.heap.push (bO [] 0)) s'.heap:=I4.base
 have ne:∀b o,s.heap.get? b=some o->b≠s.heap.objs.size/\b≠(s.heap.push (bO [] 0)).objs.size:=λb o e=>by
  have:=AAF e
  exact⟨AAK this,by rw[hC];exact AAK (ABl this)⟩
 have up:∀b o,s.heap.get? b=some o->(s.heap.push (bO [] 0)).get? b=some o:=λb o e=>AA4 _ e
 have nx:∀b o,s.heap.get? b=some o->b∉fp->b∉s.heap.objs.size::fp:=λb o e hx hz=>by
  rcases AAM.mp hz with q | q
  ·exact(ne b o e).1 q
  ·exact hx q
 refine I.call' (s':={ s' with heap:=h' }) (ch:=fp) I4.os ⟨λb o e n hb hx=>?_,λb o e n hb hx=>?_,λb o e n hx=>?_,λb o e hx=>?_,λb xs e=>?_,λb o w e=>?_,λb ps e=>?_⟩ (λb w q=>?_) I4.bare λb hb=>?_
 ·exact(sb.2 b (ne b o e).2).trans (u.keep b o (up b o e) n hb (nx b o e hx))
 ·obtain⟨sl,z⟩:=u.slot b o (up b o e) n hb (nx b o e hx)
  exact⟨sl,(sb.2 b (ne b o e).2).trans z⟩
 ·rw[ae (ne b o e).1]
  exact u.free b o (up b o e) n (nx b o e hx)
 ·obtain⟨o',z⟩:=u.there b o (up b o e) (nx b o e hx)
  exact⟨o',(sb.2 b (ne b o e).2).trans z⟩
 ·have z:=u.tups b xs e
  rw[ae (ad z fD')]
  exact z
 ·have z:=u.frzs b o w e
  rw[ae (ad z fD')]
  exact z
 ·obtain⟨more,z⟩:=u.tbls b ps e
  exact⟨more,by rw[ae (ad z fD')];exact z⟩
 ·by_cases hb:b=s.heap.objs.size
  ·subst hb
   rw[aA]at q
   cases q
   exact⟨hl,its,k,rv,(sb.2 _ hDC).trans oD'⟩
  ·rw[ae hb]at q
   refine(I4.hok b w q).stay (λc v hc r=>(sb.2 c ?_).trans r) (λc z=>by rw[ae (ad z fD')];exact z) λc xs z=>by rw[ae (ad z fD')];exact z
   rcases hc with rfl | hc
   ·exact ad q fC
   ·exact ad hc fC
 ·obtain⟨_,f1,_,f3,f4,f5⟩:=hf b hb
  exact⟨f3,f1,f4,f5⟩
theorem vM{elt tg iter:Expr}{ifs:List Expr}{scope:Scope}{pos:Pos}{N':List Str}{cl:List (Str×Addr)}{J:It}{fp:List Addr}{it:Addr}{tn:Nat->Heap->Prop}{g:TG}{tt:TT}{te:TE}{Q:VK}
  {W:Nat->Nat->List V->St->Hp->Prop}{R:Result->Shared->Prop}{s0:Shared}{H0:Hp}{D:Addr} (hc:X.calm=true)
  (hg:PG (blk X N' scope cl s0 H0 (D::fp)) tg g) (ht:PTs (blk X N' scope cl s0 H0 (D::fp)) ifs tt) (he:PE (blk X N' scope cl s0 H0 (D::fp)) elt te)
  (T:Turn X.prog X.w X.K tg J fp it tn) (hDf:D∉fp)
  (turn:∀i m vs τ H,W i m vs τ H->(J.stop i H/\∀p,H p=none->Q (.ref p) (upd H p (.lst vs))) \/
   (J.go i H/\∀x H',J.yld i H x H'->g x τ H' λτ2 H2=>tt τ2 H2 λb H3=>if b=true then te τ2 H3 λy H4=>vs.length<sizeLine/\∃m',m' < m/\W (i+1) m' (vs++[y]) τ2 H4 else ∃m',m' < m/\W (i+1) m' vs τ2 H3))
  (hstat:∀b∈fp,b≠s0.heap.objs.size/\b∉frs X.stack/\∀x c,cl.lookup x=some c->c≠b) (hDC:D≠s0.heap.objs.size) (hDs:D∉frs X.stack) (hDc:∀x c,cl.lookup x=some c->c≠D)
  (fin:∀τ H' s' vs its k,Inv (blk X N' scope cl s0 H0 (D::fp)) [(D,bO its k)] τ H' s'->au vs its->vs.length<=sizeLine->Q (.ref D) (upd H' D (.lst vs))->R (.ok .next) s')
  (m0:Nat) {τ0:St}{s3:Shared}{H3:Hp} (I3:Inv (blk X N' scope cl s0 H0 (D::fp)) [(D,bO [] 0)] τ0 H3 s3) (st3:tn 0 s3.heap) (fr3:∀b∈fp,H3 b=none) (w0:W 0 m0 [] τ0 H3) :
  codeAny (model X.prog X.w) X.A (.compLoop (.ListComp elt [⟨tg,iter,ifs,0⟩] scope pos) 0 (.ref it) (.ref D) (compEnvC scope cl s0.heap.objs.size X.env)) R s3:=by
 have fok:∀{ob:Obj}{H':Hp},(∀b∈fp,H' b=none)->∀b∈fp,tP (blk X N' scope cl s0 H0 (D::fp)) [(D,ob)] H' b:=λ{ob H'} hn b hb=>by
  obtain⟨a1,a2,a3⟩:=hstat b hb
  refine⟨hn b hb,a1,a2,.inl (AA9 _ hb),a3,λp hp z=>?_⟩
  have e:p=(D,ob):=by simpa [blk]using hp
  subst e
  exact hDf (by rw[show D=b from z];exact hb)
 refine tH (λn s'=>∃i τ H' vs its k,Inv (blk X N' scope cl s0 H0 (D::fp)) [(D,bO its k)] τ H' s'/\tn i s'.heap/\(∀b∈fp,H' b=none)/\au vs its/\vs.length<=sizeLine/\W i n vs τ H')
  (λ_ _=>False) (λ_ _ z=>z.elim) ?_ m0 ⟨0,τ0,H3,[],[],0,I3,st3,fr3,.nil,AAW _,w0⟩
 rintro n s' ⟨i,τ,H',vs,its,k,I',st',fr',rv,hl,w'⟩
 rcases turn i n vs τ H' w' with⟨stop,q⟩|⟨go,step⟩
 ·refine thn (T.done (blk X N' scope cl s0 H0 (D::fp)) rfl rfl rfl hc i _ s' τ H' (λ_ _=>False) I' (fok fr') st' stop) ?_
  rintro r s4 ⟨hr,I4⟩
  subst hr
  exact fin τ H' s4 vs its k I4 rv hl (q D (I'.pin (D,bO its k) (by simp[blk])).2.1)
 ·refine thn (T.item (blk X N' scope cl s0 H0 (D::fp)) rfl rfl rfl hc i _ s' τ H' (λ_ _=>False) I' (fok fr') st' go) ?_
  rintro r s4 ⟨u,hr,h4⟩
  subst hr
  refine thn h4 ?_
  rintro _ s5 ⟨x,H5,I5,r5,y5,st5,fr5⟩
  have I5':=I5.pinned (fok fr5) (T.obj _ _ st5)
  refine thn (hg _ s5 τ H5 x u _ I5' r5 (step x H5 y5)) ?_
  rintro _ s6 ⟨τ6,H6,I6,q6⟩
  refine thn (ht _ s6 τ6 H6 _ I6 q6) ?_
  rintro ok s7 ⟨H7,I7,q7⟩
  have memF:∀{b:Addr}{o:Obj},b∈fp->s5.heap.get? b=some o->(b,o)∈(blk X N' scope cl s0 H0 (D::fp)).pn++([(D,bO its k)]++fX fp s5.heap):=λhb e=>AAI _ (AAI _ (eE hb e))
  cases ok with
  | false =>
   obtain⟨m',hm,w7⟩:=(show ∃m',m' < n/\W (i+1) m' vs τ6 H7 from q7)
   refine⟨m',hm,i+1,τ6,H7,vs,its,k,I7.unpinned,T.keep _ _ _ st5 λb hb o e=>(I7.pin (b,o) (memF hb e)).1,λb hb=>?_,rv,hl,w7⟩
   obtain⟨o,e,_⟩:=T.obj _ _ st5 b hb
   exact(I7.pin (b,o) (memF hb e)).2.1
  | true =>
   refine thn (he _ s7 τ6 H7 _ I7 q7) ?_
   rintro yv s8 ⟨y,H8,I8,r8,q8⟩
   obtain⟨hsz,m',hm,w8⟩:=q8
   obtain⟨oD,fD,_⟩:=I8.pin (D,bO its k) (AAI _ (AAr _ (by simp)))
   have fD':H8 D=none:=fD
   refine append_at (its:=its.toArray) (n:=k) oD (λh9 sb9 o9=>?_) (by rw[AAD,<-rv.length];exact hl)
   have J8:Inv (blk X N' scope cl s0 H0 (D::fp)) (fX fp s5.heap) τ6 H8 s8:=I8.pins_of λp hp=>I8.pin p (AAI _ (AAI _ hp))
   have J9:Inv (blk X N' scope cl s0 H0 (D::fp)) (fX fp s5.heap) τ6 H8 { s8 with heap:=h9 }:=J8.turned (t':=s8.toks) (it:=D) (λb o hb e=>(sb9.2 b hb).trans e) fD' hDC (.inl AAG) hDc λp hp z=>by
    have hp':p∈fX fp s5.heap:=by simpa [blk]using hp
    exact hDf (by rw[<-z];exact(nE hp').1)
   have memG:∀{b:Addr}{o:Obj},b∈fp->s5.heap.get? b=some o->(b,o)∈(blk X N' scope cl s0 H0 (D::fp)).pn++fX fp s5.heap:=λhb e=>AAI _ (eE hb e)
   refine⟨m',hm,i+1,τ6,H8,vs++[y],its++[yv],k+1,J9.pins_of λp hp=>?_,T.keep _ _ _ st5 λb hb o e=>(J9.pin (b,o) (memG hb e)).1,λb hb=>?_,rv.append (.cons r8 .nil),?_,w8⟩
   ·have e:p=(D,bO (its++[yv]) (k+1)):=by simpa using hp
    subst e
    refine⟨?_,fD',hDC,hDs,λv z=>by cases z⟩
    rw[show bO (its++[yv]) (k+1)=({ cls:=.type "list",data:=.seq (its.toArray.push yv) (k+1) }:Obj) by rw[List.push_toArray]]
    exact o9
   ·obtain⟨o,e,_⟩:=T.obj _ _ st5 b hb
    exact(J9.pin (b,o) (memG hb e)).2.1
   ·rw[AAE]
    exact hsz
end
section
variable{X:Cx}
theorem pe_lc{elt tg iter:Expr}{ifs:List Expr}{scope:Scope}{pos:Pos}{N':List Str}{nt:Nat}{js:List Nat}{wi:TI}{g:TG}{tt:TT}{te:TE}(B:BlkSc X N' nt js scope)(hc:X.calm=true)(hi:PI X tg iter wi)
  (hg:∀cl s0 H0 ex,PG (blk X N' scope cl s0 H0 ex) tg g) (ht:∀cl s0 H0 ex,PTs (blk X N' scope cl s0 H0 ex) ifs tt) (he:∀cl s0 H0 ex,PE (blk X N' scope cl s0 H0 ex) elt te)
  (hs:∀x,foldedSetIterable iter X.env x=pure x:=by intro _;rfl):PE X (.ListComp elt [⟨tg,iter,ifs,0⟩] scope pos) (tLC nt js wi g tt te):=by
 intro pins s σ H Q I h
 rw[eval_ListComp]
 obtain⟨cl,ecl,hcl1,hcl2⟩:=ik (scope:=scope) (env:=X.env) λp hp hf=>I.ok.has p.1 (B.free p hp hf)
 refine wpAny_comprehension_free (use:=none) rfl hs ecl B.kind B.loc ?_
 refine thn (hi pins s σ H _ I h) λv s1 h1=>thn h1 λitv s2 h2=>?_
 obtain⟨it,fp,tn,J,H2,e,I2,T,st2,f2,W,⟨m0,w0⟩,turn⟩:=h2
 subst e
 refine AAh (wpAny_newFunctionEnv B.nocell (by intro y hy;simp at hy) (λh1 hns1 hsb1=>?_) B.kind)
 have hfs:∀b∈fp,b<s2.heap.objs.size:=λb hb=>by
  obtain⟨o,e,_⟩:=T.obj _ _ st2 b hb
  exact AAF e
 have hC:(s2.heap.push (bO [] 0)).objs.size=s2.heap.objs.size+1:=ABN ..
 have old:∀b o,(s2.heap.push (bO [] 0)).get? b=some o->h1.get? b=some o:=λb o e=>(hsb1.2 b (AAK (AAF e))).trans (AA4 _ e)
 have I3:=I2.blkStart (tk:=s2.toks+([]:List (Str×Value)).length) B hcl1 hcl2 f2 hfs old hns1
 have st3:tn 0 h1:=T.keep _ _ _ st2 λb _ o e=>old b o (AA4 _ e)
 have hDf:s2.heap.objs.size∉fp:=λz=>AAf _ (hfs _ z)
 have hDs:s2.heap.objs.size∉frs X.stack:=λz=>by
  rcases AAM.mp (I2.stkSub _ z)with q | q
  ·exact absurd I2.lt (by rw[<-q];exact AAf _)
  ·exact I2.nofs (AA8 _) q
 have hDC:s2.heap.objs.size≠(s2.heap.push (bO [] 0)).objs.size:=by rw[hC];exact AAK (AAy _)
 have ltc:∀z c,cl.lookup z=some c->c<s2.heap.objs.size:=λz c e=>by
  obtain⟨v,q⟩:=I2.cell z c (hcl1 z c e)
  exact q.lt
 have hstat:∀b∈fp,b≠(s2.heap.push (bO [] 0)).objs.size/\b∉frs X.stack/\∀x c,cl.lookup x=some c->c≠b:=λb hb=>by
  refine⟨by rw[hC];exact AAK (ABl (hfs b hb)),λz=>?_,λx c e=>(f2 b hb).2.2.2.2.1 x c (hcl1 x c e)⟩
  rcases AAM.mp (I2.stkSub b z)with q | q
  ·exact(f2 b hb).2.1 q
  ·exact(f2 b hb).2.2.1 q
 have loop:codeAny (model X.prog X.w) X.A (.compLoop (.ListComp elt [⟨tg,iter,ifs,0⟩] scope pos) 0 (.ref it) (.ref s2.heap.objs.size) (compEnvC scope cl (s2.heap.push (bO [] 0)).objs.size X.env))
   (compPost (model X.prog X.w) X.A X.xe none (EP X pins σ Q) (.ref s2.heap.objs.size) (s2.heap.push (bO [] 0)).objs.size) { s2 with heap:=h1,toks:=s2.toks+([]:List (Str×Value)).length }:=by
  refine vM (s0:={ s2 with heap:=s2.heap.push (bO [] 0) }) (H0:=H2) (N':=N') (Q:=Q) hc (hg _ _ _ _) (ht _ _ _ _) (he _ _ _ _) T hDf turn hstat hDC hDs (λx c e=>AAK (ltc x c e)) ?_ m0 I3 st3 (λb hb=>(f2 b hb).1) w0
  intro τ H' s' vs its k I4 rv hl q
  obtain⟨mm,hn,_⟩:=id I4.loc
  exact⟨mm,hn,λh' sb=>⟨.ref s2.heap.objs.size,_,I2.blkEnd f2 I4 rv hl sb,rfl,q⟩⟩
 exact codeAny_compStart_list loop (T.self _ 0 _ _ _ st3 loop)
end
section
inductive D where
 | non | bl (b:Bool) | int (i:Int) | str (x:Str) | ty (n:String) | tup (ds:List D) | ref (n:Nat)
inductive MO where
 | lst (xs:List D)
 | fz (xs:List D)
 | kl (xs:List D)
 | dct (kvs:List (Str×D))
 | dkt (kvs:List (D×D))
 | dkq (kvs:List (D×D))
 | dkm (kvs:List (D×D))
 | fdc (o:Obj) (kvs:List (Str×D))
 | tb (x:Str) (b:Bool)
 | exc (x:Str)
noncomputable abbrev Mem:=List MO
noncomputable def MO.isL:MO->Bool
 | .dct _=>false
 | .dkt _=>false
 | .dkq _=>false
 | .fdc _ _=>false
 | .dkm _=>false
 | .tb _ _=>false
 | .exc _=>false
 | _=>true
noncomputable def mkKV(ks:List Str)(vs:List V):List (Key×V):=(ks.zip vs).map λp=>(Sum.inr p.1,p.2)
mutual
inductive Rep(K:AA3)(ρ:List Addr)(H:Hp):D->V->Prop
 | non:Rep K ρ H .non .non
 | bl (b:Bool):Rep K ρ H (.bl b) (.bl b)
 | int (i:Int):Rep K ρ H (.int i) (.int i)
 | str (x:Str):Rep K ρ H (.str x) (.str x)
 | ty (n:String):Rep K ρ H (.ty n) (.ty n)
 | tup {a:Addr}{vs:List V}{ds:List D} (h:SqT K H a vs) (r:Reps K ρ H ds vs):Rep K ρ H (.tup ds) (.ref a)
 | ref {n:Nat}{a:Addr} (h:ρ[n]?=some a):Rep K ρ H (.ref n) (.ref a)
inductive Reps(K:AA3)(ρ:List Addr)(H:Hp):List D->List V->Prop
 | nil:Reps K ρ H [] []
 | cons {d:D}{v:V}{ds:List D}{vs:List V} (h:Rep K ρ H d v) (t:Reps K ρ H ds vs):Reps K ρ H (d::ds) (v::vs)
end
def KList(K:AA3)(a:Addr)(xs:List V):Prop :=
 ∃(o:Obj) (its:Array Value) (n:Nat),K.lookup a=some o/\o.cls=.type "list"/\o.dict=none/\o.data=.seq its n/\its.size<=sizeLine/\au xs its.toList
noncomputable def bL:Nat->D->Bool
 | _,.str _=>true
 | _,.int _=>true
 | n+1,.tup ds=>ds.all (bL n)
 | _,_=>false
noncomputable def hkD(w:World):Nat->D->Int
 | _,.str x=>hashStr w x
 | _,.int i=>hashInt i
 | n+1,.tup ds=>reduceHash (ABF (ds.map (hkD w n)))
 | _,_=>0
def dX(a:Addr)(xs:List (D×Addr×Value)):Program->World->Heap->Prop:=λ_ w h =>
 ∃(o:Obj) (es:Array DictEntry),h.get? a=some o/\o.ExactDict/\o.data=.dict es xs.length/\es.toList=xs.map λx=>⟨hkD w 8 x.1,.ref x.2.1,x.2.2⟩
def dQ(a:Addr)(e:Nat)(xs:List (D×Addr×Value)):Program->World->Heap->Prop:=λ_ w h =>
 ∃(o:Obj) (es:Array DictEntry),h.get? a=some o/\o.ExactDict/\o.data=.dict es e/\es.toList=xs.map λx=>⟨hkD w 8 x.1,.ref x.2.1,x.2.2⟩
noncomputable def keyM:D->Bool
 | .non=>true
 | .tup ks=>bL 8 (.tup ks)
 | _=>false
noncomputable def hkM(w:World):D->Int
 | .non=>reduceHash 0xFCA86420
 | d=>hkD w 8 d
noncomputable def entM(hs:D->Int)(x:D×Value×Value):DictEntry:=⟨hs x.1,x.2.1,x.2.2⟩
def dM(a:Addr)(xs:List (D×Value×Value)):Program->World->Heap->Prop:=λ_ w h =>
 ∃(o:Obj) (es:Array DictEntry),h.get? a=some o/\o.ExactDict/\o.data=.dict es xs.length/\es.toList=xs.map (entM (hkM w))
def KvM(K:AA3)(ρ:List Addr)(H:Hp)(p:D×D)(q:D×Value×Value):Prop:=p.1=q.1/\keyM p.1=true/\(∃u,Rep K ρ H p.1 u/\aI u q.2.1)/\∃v,Rep K ρ H p.2 v/\aI v q.2.2
def rX(K:AA3)(ρ:List Addr)(H:Hp)(p:D×D)(q:D×Addr×Value):Prop:=p.1=q.1/\bL 8 p.1=true/\Rep K ρ H p.1 (.ref q.2.1)/\∃v,Rep K ρ H p.2 v/\aI v q.2.2
def BL(a:Addr)(C:Value):Program->World->Heap->Prop:=λ_ _ h=>∃o vs,h.get? a=some o/\o.cls=C/\o.data=.fields vs
def tO(K:AA3)(ρ:List Addr)(H:Hp)(a:Addr):MO->Prop
 | .lst ds=>∃vs,H a=some (.lst vs)/\Reps K ρ H ds vs
 | .fz ds=>∃o vs,H a=some (.frz o (.lst vs))/\Reps K ρ H ds vs
 | .kl ds=>∃vs,KList K a vs/\Reps K ρ H ds vs
 | .dct kvs=>∃vs,H a=some (.dK (mkKV (kvs.map (·.1)) vs))/\Reps K ρ H (kvs.map (·.2)) vs
 | .dkt kvs=>kvs.length<=sizeLine/\(a==sysModules)=false/\(kvs.map (·.1)).Nodup/\∃xs,H a=some (.ext (dX a xs))/\Paired (rX K ρ H) kvs xs
 | .dkq kvs=>kvs.length<=sizeLine/\(a==sysModules)=false/\(kvs.map (·.1)).Nodup/\∃xs,(∃e,H a=some (.ext (dQ a e xs)))/\Paired (rX K ρ H) kvs xs
 | .dkm kvs=>kvs.length<=sizeLine/\(a==sysModules)=false/\(kvs.map (·.1)).Nodup/\∃xs,H a=some (.ext (dM a xs))/\Paired (KvM K ρ H) kvs xs
 | .fdc o kvs=>∃vs,H a=some (.frz o (.dK (mkKV (kvs.map (·.1)) vs)))/\Reps K ρ H (kvs.map (·.2)) vs
 | .tb x b=>(∃c,PySem.W.tabIn K x=some (c,a)/\∀h:Heap,K.In h->PySem.W.CodeHd h c a)/\∃ps,H a=some (.tbl ps)/\(b=false->ps = #[])
 | .exc x=>∃C,ACI K mainGlobals x=some (some (.ref C))/\H a=some (.ext (BL a (.ref C)))
def isK(mo:Option MO):Prop:=∃ds,mo=some (.kl ds)
def ao(M:Mem)(n:Nat)(xs:List D):Prop:=M[n]?=some (.lst xs)\/M[n]?=some (.fz xs)\/M[n]?=some (.kl xs)
structure Sim(K:AA3)(ρ:List Addr)(M:Mem)(H:Hp):Prop where
 nd:∀(n m:Nat) (a:Addr),n≠m->ρ[n]?=some a->ρ[m]?=some a->isK M[n]?\/isK M[m]?
 len:ρ.length=M.length
 obj:∀(n:Nat) (a:Addr) (mo:MO),ρ[n]?=some a->M[n]?=some mo->tO K ρ H a mo
structure Grow(K:AA3)(ρ:List Addr)(H:Hp)(ρ':List Addr)(H':Hp):Prop where
 pre:ρ <+: ρ'
 tup:∀a xs,SqT K H a xs->SqT K H' a xs
theorem Grow.refl{K:AA3}{ρ:List Addr}{H:Hp}:Grow K ρ H ρ H:=⟨ACO,λ_ _ h=>h⟩
theorem Grow.trans{K:AA3}{ρ ρ1 ρ2:List Addr}{H H1 H2:Hp}(a:Grow K ρ H ρ1 H1)(b:Grow K ρ1 H1 ρ2 H2):Grow K ρ H ρ2 H2:=⟨a.pre.trans b.pre,λx xs h=>b.tup x xs (a.tup x xs h)⟩
theorem ar{α:Type}{l l':List α}(h:l <+: l'){n:Nat}{a:α}(e:l[n]?=some a):l'[n]?=some a:=by
 obtain⟨t,rfl⟩:=h
 rw[AAJ (AA7.mp e).1]
 exact e
theorem Rep.grow{K:AA3}{ρ ρ':List Addr}{H H':Hp}(g:Grow K ρ H ρ' H'){d:D}{v:V}(h:Rep K ρ H d v):Rep K ρ' H' d v :=
 Rep.rec (motive_1:=λd v _=>Rep K ρ' H' d v) (motive_2:=λds vs _=>Reps K ρ' H' ds vs) .non .bl .int .str .ty (λh _ r=>.tup (g.tup _ _ h) r) (λh=>.ref (ar g.pre h)) .nil (λ_ _ h t=>.cons h t) h
theorem Reps.grow{K:AA3}{ρ ρ':List Addr}{H H':Hp}(g:Grow K ρ H ρ' H'){ds:List D}{vs:List V}(h:Reps K ρ H ds vs):Reps K ρ' H' ds vs :=
 Reps.rec (motive_1:=λd v _=>Rep K ρ' H' d v) (motive_2:=λds vs _=>Reps K ρ' H' ds vs) .non .bl .int .str .ty (λh _ r=>.tup (g.tup _ _ h) r) (λh=>.ref (ar g.pre h)) .nil (λ_ _ h t=>.cons h t) h
section
variable{K:AA3}{ρ ρ':List Addr}{H H':Hp}{M:Mem}
theorem Reps.length(h:Reps K ρ H ds vs):ds.length=vs.length :=
 Reps.rec (motive_1:=λ_ _ _=>True) (motive_2:=λds vs _=>ds.length=vs.length) trivial (λ_=>trivial) (λ_=>trivial) (λ_=>trivial) (λ_=>trivial) (λ_ _ _=>trivial) (λ_=>trivial) rfl (λ_ _ _ t=>congrArg Nat.succ t) h
theorem Reps.append(h:Reps K ρ H ds vs)(s:Reps K ρ H es ws):Reps K ρ H (ds++es) (vs++ws) :=
 Reps.rec (motive_1:=λ_ _ _=>True) (motive_2:=λds vs _=>Reps K ρ H (ds++es) (vs++ws)) trivial (λ_=>trivial) (λ_=>trivial) (λ_=>trivial) (λ_=>trivial) (λ_ _ _=>trivial) (λ_=>trivial) s (λh _ _ t=>.cons h t) h
theorem Reps.get:∀{ds:List D}{vs:List V}{i:Nat}{d:D},Reps K ρ H ds vs->ds[i]?=some d->∃v,vs[i]?=some v/\Rep K ρ H d v
 | _,_,_,_,.nil,e=>by simp at e
 | _,_,0,_,.cons r _,e=>by simp at e;subst e;exact⟨_,rfl,r⟩
 | _,_,i+1,d,.cons _ t,e=>by
  obtain⟨v,h1,h2⟩:=Reps.get (i:=i) (d:=d) t (by simpa using e)
  exact⟨v,by simpa using h1,h2⟩
theorem Reps.getV:∀{ds:List D}{vs:List V}{i:Nat}{v:V},Reps K ρ H ds vs->vs[i]?=some v->∃d,ds[i]?=some d/\Rep K ρ H d v
 | _,_,_,_,.nil,e=>by simp at e
 | _,_,0,_,.cons r _,e=>by simp at e;subst e;exact⟨_,rfl,r⟩
 | _,_,i+1,d,.cons _ t,e=>by
  obtain⟨v,h1,h2⟩:=Reps.getV (i:=i) (v:=d) t (by simpa using e)
  exact⟨v,by simpa using h1,h2⟩
theorem Reps.take:∀{ds:List D}{vs:List V} (n:Nat),Reps K ρ H ds vs->Reps K ρ H (ds.take n) (vs.take n)
 | _,_,0,_=>by simpa using .nil
 | _,_,_+1,.nil=>.nil
 | _,_,n+1,.cons r t=>.cons r (Reps.take n t)
theorem Reps.drop:∀{ds:List D}{vs:List V} (n:Nat),Reps K ρ H ds vs->Reps K ρ H (ds.drop n) (vs.drop n)
 | _,_,0,r=>r
 | _,_,_+1,.nil=>.nil
 | _,_,n+1,.cons _ t=>Reps.drop n t
theorem SqT.laid(hp:H p=none)(h:SqT K H a xs):SqT K (upd H p o) a xs:=by
 rcases h with h | h
 ·rcases h with h | ⟨ob,h⟩
  ·exact .inl (.inl (by rw[ae (ad h hp)];exact h))
  ·exact .inl (.inr ⟨ob,by rw[ae (ad h hp)];exact h⟩)
 ·exact .inr h
theorem SqT.written(hp:H p=some (.lst vs))(h:SqT K H a xs):SqT K (upd H p o) a xs:=by
 rcases h with h | h
 ·rcases h with h | ⟨ob,h⟩
  ·exact .inl (.inl (by rw[ae (xI h hp (by intro z;cases z))];exact h))
  ·exact .inl (.inr ⟨ob,by rw[ae (xI h hp (by intro z;cases z))];exact h⟩)
 ·exact .inr h
theorem Grow.laid(hp:H p=none):Grow K ρ H ρ (upd H p o):=⟨ACO,λ_ _ h=>SqT.laid hp h⟩
theorem Grow.laidR(hp:H p=none):Grow K ρ H (ρ++[p]) (upd H p o):=⟨AAY _ _,λ_ _ h=>SqT.laid hp h⟩
theorem Sim.tracked(S:Sim K ρ M H){n:Nat}{a:Addr}(e:ρ[n]?=some a):(∃o,H a=some o)\/isK M[n]?:=by
 have hn:n<M.length:=by rw[<-S.len];exact(AA7.mp e).1
 have hm:M[n]?=some M[n]:=AA5 hn
 have h:=S.obj n a _ e hm
 rw[hm]
 cases hmo:M[n] with
 | lst ds=>rw[hmo]at h;obtain⟨vs,h,_⟩:=h;exact .inl ⟨_,h⟩
 | fz ds=>rw[hmo]at h;obtain⟨o,vs,h,_⟩:=h;exact .inl ⟨_,h⟩
 | kl ds=>exact .inr ⟨ds,rfl⟩
 | dct kvs=>rw[hmo]at h;obtain⟨vs,h,_⟩:=h;exact .inl ⟨_,h⟩
 | dkt kvs=>rw[hmo]at h;obtain⟨_,_,_,xs,h,_⟩:=h;exact .inl ⟨_,h⟩
 | dkq kvs=>rw[hmo]at h;obtain⟨_,_,_,xs,⟨_,h⟩,_⟩:=h;exact .inl ⟨_,h⟩
 | fdc o kvs=>rw[hmo]at h;obtain⟨vs,h,_⟩:=h;exact .inl ⟨_,h⟩
 | dkm kvs=>rw[hmo]at h;obtain⟨_,_,_,xs,h,_⟩:=h;exact .inl ⟨_,h⟩
 | tb x b=>rw[hmo]at h;obtain⟨_,ps,h,_⟩:=h;exact .inl ⟨_,h⟩
 | exc x=>rw[hmo]at h;obtain⟨_,_,h⟩:=h;exact .inl ⟨_,h⟩
theorem tO.grow(g:Grow K ρ H ρ' H')(hs:H' a=H a\/isK (some mo))(h:tO K ρ H a mo):tO K ρ' H' a mo:=by
 cases mo with
 | lst ds =>
  obtain⟨vs,e,r⟩:=h
  rcases hs with hs | ⟨_,z⟩
  ·exact⟨vs,by rw[hs];exact e,r.grow g⟩
  ·cases z
 | fz ds =>
  obtain⟨o,vs,e,r⟩:=h
  rcases hs with hs | ⟨_,z⟩
  ·exact⟨o,vs,by rw[hs];exact e,r.grow g⟩
  ·cases z
 | fdc o kvs =>
  obtain⟨vs,e,r⟩:=h
  rcases hs with hs | ⟨_,z⟩
  ·exact⟨vs,by rw[hs];exact e,r.grow g⟩
  ·cases z
 | tb x b =>
  obtain⟨c,ps,e,q⟩:=h
  rcases hs with hs | ⟨_,z⟩
  ·exact⟨c,ps,by rw[hs];exact e,q⟩
  ·cases z
 | exc x =>
  obtain⟨C,e,q⟩:=h
  rcases hs with hs | ⟨_,z⟩
  ·exact⟨C,e,by rw[hs];exact q⟩
  ·cases z
 | kl ds=>obtain⟨vs,e,r⟩:=h;exact⟨vs,e,r.grow g⟩
 | dkm kvs =>
  obtain⟨h1,h2,h3,xs,e,r⟩:=h
  rcases hs with hs | ⟨_,z⟩
  ·exact⟨h1,h2,h3,xs,by rw[hs];exact e,Paired.mapP r λ_ _ ⟨q1,q2,⟨u,q3,q3'⟩,v,q4,q5⟩=>⟨q1,q2,⟨u,q3.grow g,q3'⟩,v,q4.grow g,q5⟩⟩
  ·cases z
 | dct kvs =>
  obtain⟨vs,e,r⟩:=h
  rcases hs with hs | ⟨_,z⟩
  ·exact⟨vs,by rw[hs];exact e,r.grow g⟩
  ·cases z
 | dkt kvs =>
  obtain⟨h1,h2,h3,xs,e,r⟩:=h
  rcases hs with hs | ⟨_,z⟩
  ·exact⟨h1,h2,h3,xs,by rw[hs];exact e,Paired.mapP r λ_ _ ⟨q1,q2,q3,v,q4,q5⟩=>⟨q1,q2,q3.grow g,v,q4.grow g,q5⟩⟩
  ·cases z
 | dkq kvs =>
  obtain⟨h1,h2,h3,xs,e,r⟩:=h
  rcases hs with hs | ⟨_,z⟩
  ·exact⟨h1,h2,h3,xs,by rw[hs];exact e,Paired.mapP r λ_ _ ⟨q1,q2,q3,v,q4,q5⟩=>⟨q1,q2,q3.grow g,v,q4.grow g,q5⟩⟩
  ·cases z
theorem Sim.keeps{p:Addr}{o:HO}(S:Sim K ρ M H)(hp:H p=none){n:Nat}{a:Addr}{mo:MO}(e1:ρ[n]?=some a)(e2:M[n]?=some mo):upd H p o a=H a\/isK (some mo):=by
 rcases S.tracked e1 with⟨ob,hob⟩ | q
 ·exact .inl (ae (ad hob hp))
 ·rw[e2]at q
  exact .inr q
theorem Sim.laid{p:Addr}{o:HO}(S:Sim K ρ M H)(hp:H p=none):Sim K ρ M (upd H p o) :=
 ⟨S.nd,S.len,λn a mo e1 e2=>(S.obj n a mo e1 e2).grow (Grow.laid hp) (S.keeps hp e1 e2)⟩
theorem aJ{α:Type}{l:List α}{x y:α}{n:Nat}(h:(l++[x])[n]?=some y):l[n]?=some y\/(n=l.length/\y=x):=by
 by_cases hn:n<l.length
 ·rw[AAJ hn]at h
  exact .inl h
 ·have hn':n=l.length:=by
   have:=(AA7.mp h).1
   rw[AAE,AAg]at this
   lia
  subst hn'
  rw[AAa (AA8 _),ACo]at h
  simp at h
  exact .inr ⟨rfl,h.symm⟩
theorem isK.more{mo:MO}{n:Nat}(h:isK M[n]?):isK (M++[mo])[n]?:=by
 obtain⟨ds,e⟩:=h
 exact⟨ds,by rw[AAJ (AA7.mp e).1];exact e⟩
theorem Sim.laidL{p:Addr}{ds:List D}{vs:List V}(S:Sim K ρ M H)(hp:H p=none)(r:Reps K ρ H ds vs):Sim K (ρ++[p]) (M++[.lst ds]) (upd H p (.lst vs)):=by
 have g:Grow K ρ H (ρ++[p]) (upd H p (.lst vs)):=Grow.laidR hp
 have old:∀(n:Nat),ρ[n]?=some p->isK M[n]?:=λn e=>by
  rcases S.tracked e with⟨o,q⟩ | q
  ·rw[hp]at q;cases q
  ·exact q
 refine⟨λn m a hnm e1 e2=>?_,by rw[AAE,AAE,S.len];rfl,λn a mo e1 e2=>?_⟩
 ·rcases aJ e1 with f1 | ⟨f1,g1⟩
  ·rcases aJ e2 with f2 | ⟨f2,g2⟩
   ·exact(S.nd n m a hnm f1 f2).elim (λz=>.inl z.more) λz=>.inr z.more
   ·subst g2
    exact .inl (old n f1).more
  ·rcases aJ e2 with f2 | ⟨f2,g2⟩
   ·subst g1
    exact .inr (old m f2).more
   ·exact absurd (f1.trans f2.symm) hnm
 ·rcases aJ e1 with f1 | ⟨f1,g1⟩
  ·have hn:n<M.length:=by rw[<-S.len];exact(AA7.mp f1).1
   rw[AAJ hn]at e2
   exact(S.obj n a mo f1 e2).grow g (S.keeps hp f1 e2)
  ·subst g1 f1
   rw[S.len,AAa (AA8 _),ACo]at e2
   simp at e2
   subst e2
   exact⟨vs,aA,r.grow g⟩
theorem Sim.last(S:Sim K ρ M H):(ρ++[p])[M.length]?=some p:=by
 rw[<-S.len,AAa (AA8 _),ACo]
 rfl
theorem Sim.write(S:Sim K ρ M H)(e1:ρ[n]?=some a)(hM:M[n]?=some (.lst ds))(hH:H a=some (.lst vs))(r:Reps K ρ H ds' vs') :
  Sim K ρ (M.set n (.lst ds')) (upd H a (.lst vs'))/\Grow K ρ H ρ (upd H a (.lst vs')):=by
 have g:Grow K ρ H ρ (upd H a (.lst vs')):=⟨ACO,λ_ _ h=>SqT.written hH h⟩
 have hk:∀m,m≠n->(M.set n (.lst ds'))[m]?=M[m]?:=λm hm=>AAb (ABO hm)
 have notK:¬isK M[n]?:=λ⟨_,z⟩=>by rw[hM]at z;cases z
 refine⟨⟨λm m' b hne f1 f2=>?_,by rw[AAu];exact S.len,λm b mo f1 f2=>?_⟩,g⟩
 ·have q:=S.nd m m' b hne f1 f2
  by_cases h1:m=n
  ·subst h1
   rw[hk m' (ABO hne)]
   exact .inr (q.resolve_left notK)
  ·rw[hk m h1]
   by_cases h2:m'=n
   ·subst h2
    exact .inl (q.resolve_right notK)
   ·rw[hk m' h2]
    exact q
 by_cases hm:m=n
 ·subst hm
  have hb:b=a:=AAN (f1.symm.trans e1)
  subst hb
  rw[AAV (by rw[<-S.len];exact(AA7.mp e1).1)]at f2
  cases f2
  exact⟨vs',aA,r.grow g⟩
 ·rw[hk m hm]at f2
  by_cases hb:b=a
  ·subst hb
   have q:=S.nd m n b hm f1 e1
   have q':=q.resolve_right notK
   rw[f2]at q'
   exact(S.obj m b mo f1 f2).grow g (.inr q')
  ·exact(S.obj m b mo f1 f2).grow g (.inl (ae hb))
theorem ao.seq(S:Sim K ρ M H)(h:ao M n xs)(e:ρ[n]?=some a):∃vs,SqL K H a vs/\Reps K ρ H xs vs:=by
 rcases h with h | h | h
 ·obtain⟨vs,q,r⟩:=S.obj n a _ e h
  exact⟨vs,.inl (.inl q),r⟩
 ·obtain⟨o,vs,q,r⟩:=S.obj n a _ e h
  exact⟨vs,.inl (.inr ⟨o,q⟩),r⟩
 ·obtain⟨vs,q,r⟩:=S.obj n a _ e h
  exact⟨vs,.inr q,r⟩
theorem Sim.get(S:Sim K ρ M H){n:Nat}{mo:MO}(e:M[n]?=some mo):∃a,ρ[n]?=some a/\tO K ρ H a mo:=by
 have hn:n<ρ.length:=by rw[S.len];exact(AA7.mp e).1
 exact⟨ρ[n],AA5 hn,S.obj n _ mo (AA5 hn) e⟩
end
noncomputable abbrev SD:=List (Option D)
structure SRep(K:AA3)(ρ:List Addr)(H:Hp)(S:SD)(σ:St):Prop where
 len:S.length=σ.length
 get:∀(i:Nat) (d:D),S[i]?=some (some d)->∃v,σ[i]?=some (some v)/\Rep K ρ H d v
theorem SRep.grow{K:AA3}{ρ ρ':List Addr}{H H':Hp}{S:SD}{σ:St}(r:SRep K ρ H S σ)(g:Grow K ρ H ρ' H'):SRep K ρ' H' S σ :=
 ⟨r.len,λi d e=>let ⟨v,h1,h2⟩:=r.get i d e;⟨v,h1,h2.grow g⟩⟩
theorem SRep.set{K:AA3}{ρ:List Addr}{H:Hp}{S:SD}{σ:St}(r:SRep K ρ H S σ)(i:Nat){d:D}{v:V}(h:Rep K ρ H d v):SRep K ρ H (S.set i (some d)) (σ.set i (some v)):=by
 refine⟨by rw[AAu,AAu];exact r.len,λj e hj=>?_⟩
 by_cases hij:i=j
 ·subst hij
  by_cases hl:i<S.length
  ·rw[AAV hl]at hj
   cases hj
   exact⟨v,by rw[AAV (by rw[<-r.len];exact hl)],h⟩
  ·rw[ABB (by rw[AAu];lia)]at hj
   cases hj
 ·rw[AAb hij]at hj
  rw[AAb hij]
  exact r.get j e hj
abbrev DK:=D->Mem->Prop
abbrev DTE:=SD->Mem->DK->Prop
abbrev DTT:=SD->Mem->(Bool->Mem->Prop)->Prop
abbrev DTA:=SD->Mem->(List D->Mem->Prop)->Prop
structure DEnds where
 nx:SD->Mem->Prop
 rt:DK
 bk:SD->Mem->Prop:=λ_ _=>False
 ct:SD->Mem->Prop:=λ_ _=>False
abbrev DTS:=DEnds->SD->Mem->Prop
abbrev DTG:=D->SD->Mem->(SD->Mem->Prop)->Prop
abbrev zn:=List D->SD->Mem->(SD->Mem->Prop)->Prop
abbrev DR2:=D->D->Mem->DK->Prop
abbrev DR1:=D->Mem->DK->Prop
abbrev DRA:=List D->Mem->DK->Prop
section
variable(K:AA3)
inductive VQ(ρ:List Addr)(H:Hp)(Q:DK)(v:V)(H':Hp):Prop
 | mk (d:D) (M':Mem) (ρ':List Addr) (s:Sim K ρ' M' H') (g:Grow K ρ H ρ' H') (r:Rep K ρ' H' d v) (q:Q d M')
inductive BQ(ρ:List Addr)(H:Hp)(Q:Bool->Mem->Prop)(b:Bool)(H':Hp):Prop
 | mk (M':Mem) (ρ':List Addr) (s:Sim K ρ' M' H') (g:Grow K ρ H ρ' H') (q:Q b M')
inductive AQ(ρ:List Addr)(H:Hp)(Q:List D->Mem->Prop)(vs:List V)(H':Hp):Prop
 | mk (ds:List D) (M':Mem) (ρ':List Addr) (s:Sim K ρ' M' H') (g:Grow K ρ H ρ' H') (r:Reps K ρ' H' ds vs) (q:Q ds M')
inductive SQ(ρ:List Addr)(H:Hp)(Q:SD->Mem->Prop)(σ':St)(H':Hp):Prop
 | mk (S':SD) (M':Mem) (ρ':List Addr) (s:Sim K ρ' M' H') (g:Grow K ρ H ρ' H') (r:SRep K ρ' H' S' σ') (q:Q S' M')
structure Ups(ρ:List Addr)(H:Hp)(F:DEnds)(E:Ends):Prop where
 nx:∀σ' H',SQ K ρ H F.nx σ' H'->E.nx σ' H'
 rt:∀v H',VQ K ρ H F.rt v H'->E.rt v H'
 bk:∀σ' H',SQ K ρ H F.bk σ' H'->E.bk σ' H'
 ct:∀σ' H',SQ K ρ H F.ct σ' H'->E.ct σ' H'
inductive lowE(t:DTE)(σ:St)(H:Hp)(R:VK):Prop
 | mk (S:SD) (M:Mem) (ρ:List Addr) (Q:DK) (s:Sim K ρ M H) (sr:SRep K ρ H S σ) (q:t S M Q) (k:∀v H',VQ K ρ H Q v H'->R v H')
inductive lowT(t:DTT)(σ:St)(H:Hp)(R:Bool->Hp->Prop):Prop
 | mk (S:SD) (M:Mem) (ρ:List Addr) (Q:Bool->Mem->Prop) (s:Sim K ρ M H) (sr:SRep K ρ H S σ) (q:t S M Q) (k:∀v H',BQ K ρ H Q v H'->R v H')
inductive lowA(t:DTA)(σ:St)(H:Hp)(R:List V->Hp->Prop):Prop
 | mk (S:SD) (M:Mem) (ρ:List Addr) (Q:List D->Mem->Prop) (s:Sim K ρ M H) (sr:SRep K ρ H S σ) (q:t S M Q) (k:∀v H',AQ K ρ H Q v H'->R v H')
inductive lowS(t:DTS)(E:Ends)(σ:St)(H:Hp):Prop
 | mk (S:SD) (M:Mem) (ρ:List Addr) (F:DEnds) (s:Sim K ρ M H) (sr:SRep K ρ H S σ) (q:t F S M) (k:Ups K ρ H F E)
inductive lowG(g:DTG)(v:V)(σ:St)(H:Hp)(R:St->Hp->Prop):Prop
 | mk (d:D) (S:SD) (M:Mem) (ρ:List Addr) (Q:SD->Mem->Prop) (s:Sim K ρ M H) (sr:SRep K ρ H S σ) (r:Rep K ρ H d v) (q:g d S M Q) (k:∀σ' H',SQ K ρ H Q σ' H'->R σ' H')
inductive lowGs(g:zn)(vs:List V)(σ:St)(H:Hp)(R:St->Hp->Prop):Prop
 | mk (ds:List D) (S:SD) (M:Mem) (ρ:List Addr) (Q:SD->Mem->Prop) (s:Sim K ρ M H) (sr:SRep K ρ H S σ) (r:Reps K ρ H ds vs) (q:g ds S M Q) (k:∀σ' H',SQ K ρ H Q σ' H'->R σ' H')
inductive lowR(r:DR2)(vx vy:V)(H:Hp)(R:VK):Prop
 | mk (x y:D) (M:Mem) (ρ:List Addr) (Q:DK) (s:Sim K ρ M H) (r1:Rep K ρ H x vx) (r2:Rep K ρ H y vy) (q:r x y M Q) (k:∀v H',VQ K ρ H Q v H'->R v H')
inductive lowU(r:DR1)(vx:V)(H:Hp)(R:VK):Prop
 | mk (x:D) (M:Mem) (ρ:List Addr) (Q:DK) (s:Sim K ρ M H) (r1:Rep K ρ H x vx) (q:r x M Q) (k:∀v H',VQ K ρ H Q v H'->R v H')
inductive lowC(r:DRA)(vs:List V)(H:Hp)(R:VK):Prop
 | mk (ds:List D) (M:Mem) (ρ:List Addr) (Q:DK) (s:Sim K ρ M H) (r1:Reps K ρ H ds vs) (q:r ds M Q) (k:∀v H',VQ K ρ H Q v H'->R v H')
end
def DE(X:Cx)(e:Expr)(t:DTE):Prop:=PE X e (lowE X.K t)
def DT(X:Cx)(e:Expr)(t:DTT):Prop:=PT X e (lowT X.K t)
def DW(X:Cx)(e:Expr)(t:DTT):Prop:=PW X e (lowT X.K t)
def DA(X:Cx)(es:List Expr)(t:DTA):Prop:=PA X es (lowA X.K t)
def DS(X:Cx)(st:Stmt)(t:DTS):Prop:=PS X st (lowS X.K t)
def DSs(X:Cx)(st:List Stmt)(t:DTS):Prop:=PSs X st (lowS X.K t)
def DG(X:Cx)(tg:Expr)(g:DTG):Prop:=PG X tg (lowG X.K g)
def DGs(X:Cx)(tg:List Expr)(g:zn):Prop:=PGs X tg (lowGs X.K g)
def OpD(X:Cx)(f:Value->Value->Sem Value)(r:DR2):Prop:=OpR X f (lowR X.K r)
def UnD(X:Cx)(f:Value->Sem Value)(r:DR1):Prop:=UnR X f (lowU X.K r)
def my(X:Cx)(f:Value)(r:DRA):Prop:=eM X f (lowC X.K r)
section
variable{K:AA3}{ρ ρ1:List Addr}{H H1:Hp}
theorem VQ.trans(g:Grow K ρ H ρ1 H1)(h:VQ K ρ1 H1 Q v H'):VQ K ρ H Q v H':=by
 obtain⟨d,M',ρ',s,g',r,q⟩:=h
 exact⟨d,M',ρ',s,g.trans g',r,q⟩
theorem BQ.trans(g:Grow K ρ H ρ1 H1)(h:BQ K ρ1 H1 Q v H'):BQ K ρ H Q v H':=by
 obtain⟨M',ρ',s,g',q⟩:=h
 exact⟨M',ρ',s,g.trans g',q⟩
theorem SQ.trans(g:Grow K ρ H ρ1 H1)(h:SQ K ρ1 H1 Q v H'):SQ K ρ H Q v H':=by
 obtain⟨d,M',ρ',s,g',r,q⟩:=h
 exact⟨d,M',ρ',s,g.trans g',r,q⟩
theorem Ups.trans(g:Grow K ρ H ρ1 H1)(h:Ups K ρ H F E):Ups K ρ1 H1 F E :=
 ⟨λσ' H' q=>h.nx σ' H' (SQ.trans g q),λv H' q=>h.rt v H' (VQ.trans g q),λσ' H' q=>h.bk σ' H' (SQ.trans g q),λσ' H' q=>h.ct σ' H' (SQ.trans g q)⟩
theorem VQ.now(s:Sim K ρ M H)(r:Rep K ρ H d v)(q:Q d M):VQ K ρ H Q v H:=⟨d,M,ρ,s,.refl,r,q⟩
end
section
variable{K:AA3}{ρ:List Addr}{H:Hp}{v:V}{vs:List V}
theorem Rep.inv_non(h:Rep K ρ H .non v):v=.non:=by cases h;rfl
theorem Rep.inv_bl(h:Rep K ρ H (.bl b) v):v=.bl b:=by cases h;rfl
theorem Rep.inv_int(h:Rep K ρ H (.int i) v):v=.int i:=by cases h;rfl
theorem Rep.inv_str(h:Rep K ρ H (.str x) v):v=.str x:=by cases h;rfl
theorem Rep.inv_ty(h:Rep K ρ H (.ty n) v):v=.ty n:=by cases h;rfl
theorem Rep.inv_tup(h:Rep K ρ H (.tup ds) v):∃a vs,v=.ref a/\SqT K H a vs/\Reps K ρ H ds vs:=by cases h with | tup h r=>exact⟨_,_,rfl,h,r⟩
theorem Rep.inv_ref(h:Rep K ρ H (.ref n) v):∃a,v=.ref a/\ρ[n]?=some a:=by cases h with | ref h=>exact⟨_,rfl,h⟩
theorem au.inv_cons(h:au (x::vs) us):∃u ws,us=u::ws/\aI x u/\au vs ws:=by cases h with | cons h t=>exact⟨_,_,rfl,h,t⟩
theorem au.inv_nil(h:au [] us):us=[]:=by cases h;rfl
theorem Reps.inv_nil(h:Reps K ρ H [] vs):vs=[]:=by cases h;rfl
theorem Reps.inv_cons(h:Reps K ρ H (d::ds) vs):∃v ws,vs=v::ws/\Rep K ρ H d v/\Reps K ρ H ds ws:=by cases h with | cons h t=>exact⟨_,_,rfl,h,t⟩
end
end
theorem PE.imp(h:PE X e t')(i:∀σ H R,t σ H R->t' σ H R):PE X e t:=λpins s σ H R I q=>h pins s σ H R I (i σ H R q)
theorem PT.imp(h:PT X e t')(i:∀σ H R,t σ H R->t' σ H R):PT X e t:=λpins s σ H R I q=>h pins s σ H R I (i σ H R q)
theorem PW.imp(h:PW X e t')(i:∀σ H R,t σ H R->t' σ H R):PW X e t:=λw pins s σ H R I q=>h w pins s σ H R I (i σ H R q)
theorem PA.imp(h:PA X e t')(i:∀σ H R,t σ H R->t' σ H R):PA X e t:=λpos pins s σ H R I q=>h pos pins s σ H R I (i σ H R q)
theorem PS.imp(h:PS X e t')(i:∀E σ H,t E σ H->t' E σ H):PS X e t:=λpins s σ H R I q=>h pins s σ H R I (i R σ H q)
theorem PSs.imp(h:PSs X e t')(i:∀E σ H,t E σ H->t' E σ H):PSs X e t:=λpins s σ H R I q=>h pins s σ H R I (i R σ H q)
theorem OpR.imp(h:OpR X f r')(i:∀x y H R,r x y H R->r' x y H R):OpR X f r:=λpins s σ H x y v u R I a b q=>h pins s σ H x y v u R I a b (i x y H R q)
theorem eM.imp(h:eM X f r')(i:∀xs H R,r xs H R->r' xs H R):eM X f r:=λpins s σ H xs us R I a q=>h pins s σ H xs us R I a (i xs H R q)
section
variable{X:Cx}{a b c:Expr}{ta tb tc:DTE}{pos:Pos}
def ac(i:Nat):DTE:=λS M Q=>match S[i]? with
 | some (some d)=>Q d M
 | _=>False
def dC(d:D):DTE:=λ_ M Q=>Q d M
theorem xL{K:AA3}{i:Nat}(σ:St)(H:Hp)(R:VK)(h:lowE K (ac i) σ H R):tVar i σ H R:=by
 obtain⟨S,M,ρ,Q,s,r,q,k⟩:=h
 unfold ac at q
 cases e:S[i]? with
 | none=>rw[e]at q;exact q.elim
 | some o =>
  cases o with
  | none=>rw[e]at q;exact q.elim
  | some d =>
   rw[e]at q
   obtain⟨v,hv,rv⟩:=r.get i d e
   exact⟨v,hv,k v H (VQ.now s rv q)⟩
theorem d_var(hN:X.N[i]?=some x:=by rfl)(hv:Vis X.env.scope x:=by first | exact Or.inl rfl | exact Or.inr (Or.inl rfl) | exact Or.inr (Or.inr rfl))(hd:(x==("__debug__":Str))=false:=by decide)
  (hcd:(x==("__classdict__":Str))=false:=by decide):DE X (.Name x pos) (ac i):=PE.imp (yQ hN hv hd hcd) xL
noncomputable def cV:D->Option V
 | .non=>some .non
 | .bl b=>some (.bl b)
 | .int i=>some (.int i)
 | .str x=>some (.str x)
 | .ty n=>some (.ty n)
 | _=>none
theorem wN{K:AA3}{ρ:List Addr}{H:Hp}{d:D}{v:V}(h:cV d=some v):Rep K ρ H d v:=by
 cases d with
 | non=>cases h;exact .non
 | bl b=>cases h;exact .bl b
 | int b=>cases h;exact .int b
 | str b=>cases h;exact .str b
 | ty b=>cases h;exact .ty b
 | tup b=>cases h
 | ref b=>cases h
theorem nJ{K:AA3}{d:D}{v:V}(hd:cV d=some v)(σ:St)(H:Hp)(R:VK)(h:lowE K (dC d) σ H R):tC v σ H R:=by
 obtain⟨S,M,ρ,Q,s,r,q,k⟩:=h
 exact k v H (VQ.now s (wN hd) q)
theorem d_int{i:Int}{j:Nat}:DE X (.Constant (.int i) j pos) (dC (.int i)):=PE.imp CS (nJ rfl)
theorem d_bl{i:Bool}{j:Nat}:DE X (.Constant (.bool i) j pos) (dC (.bl i)):=PE.imp pe_bl (nJ rfl)
theorem d_non{j:Nat}:DE X (.Constant .none j pos) (dC .non):=PE.imp CP (nJ rfl)
theorem d_str{i:Str}{j:Nat}:DE X (.Constant (.str i) j pos) (dC (.str i)):=PE.imp CM (nJ rfl)
theorem ER{x:Str}{T:String}(hm:X.mg x=none)(hv:bootBuiltins x=some (.type T))(hg:Gl X x:=by rfl)(hn:x≠"__name__":=by decide)(hb:(x==("__debug__":Str))=false:=by decide):DE X (.Name x pos) (dC (.ty T)) :=
 PE.imp (uX (v:=.ty T) hg hm hv rfl hn hb) (nJ rfl)
theorem low2{K:AA3}{S:SD}{M:Mem}{ρ:List Addr}{σ:St}{H:Hp}{P:D->D->Mem->Prop}{G:V->V->Hp->Prop}(s:Sim K ρ M H)(r:SRep K ρ H S σ)(h:ta S M λx M1=>tb S M1 λy M2=>P x y M2)
  (k:∀x y vx vy M2 ρ2 H2,Sim K ρ2 M2 H2->Grow K ρ H ρ2 H2->Rep K ρ2 H2 x vx->Rep K ρ2 H2 y vy->P x y M2->G vx vy H2):lowE K ta σ H λvx H1=>lowE K tb σ H1 λvy H2=>G vx vy H2:=by
 refine⟨S,M,ρ,_,s,r,h,?_⟩
 rintro vx H1 ⟨x,M1,ρ1,s1,g1,r1,q1⟩
 refine⟨S,M1,ρ1,_,s1,r.grow g1,q1,?_⟩
 rintro vy H2 ⟨y,M2,ρ2,s2,g2,r2,q2⟩
 exact k x y vx vy M2 ρ2 H2 s2 (g1.trans g2) (r1.grow g2) r2 q2
def dOp(r:DR2)(ta tb:DTE):DTE:=λS M Q=>ta S M λx M1=>tb S M1 λy M2=>r x y M2 Q
theorem lX{K:AA3}{r:DR2}(σ:St)(H:Hp)(R:VK)(h:lowE K (dOp r ta tb) σ H R):tOp (lowR K r) (lowE K ta) (lowE K tb) σ H R:=by
 obtain⟨S,M,ρ,Q,s,sr,q,k⟩:=h
 exact low2 s sr q λx y vx vy M2 ρ2 H2 s2 g2 r1 r2 q2=>⟨x,y,M2,ρ2,Q,s2,r1,r2,q2,λv H' w=>k v H' (VQ.trans g2 w)⟩
theorem d_op(ho:OpD X (binaryOp op) r)(ha:DE X a ta)(hb:DE X b tb):DE X (.BinOp a op b pos) (dOp r ta tb):=PE.imp (pe_op ho ha hb) lX
theorem d_cmp(ho:OpD X (compareOp op) r)(ha:DE X a ta)(hb:DE X b tb)(hm:behindInMarks op b=false:=by with_unfolding_all rfl):DE X (.Compare a [op] [b] pos) (dOp r ta tb):=PE.imp (zX ho ha hb hm) lX
def aG(t:DTE):DTT:=λS M Q=>t S M λx M'=>match x with
 | .bl b=>Q b M'
 | _=>False
theorem nI{K:AA3}{t:DTE}(σ:St)(H:Hp)(R:Bool->Hp->Prop)(h:lowT K (aG t) σ H R):Ci (lowE K t) σ H R:=by
 obtain⟨S,M,ρ,Q,s,sr,q,k⟩:=h
 refine⟨S,M,ρ,_,s,sr,q,?_⟩
 rintro v H' ⟨d,M',ρ',s',g',r',q'⟩
 cases r' with
 | bl b=>exact⟨b,rfl,k b H' ⟨M',ρ',s',g',q'⟩⟩
 | _=>exact q'.elim
theorem EB(ho:OpD X (compareOp op) r)(ha:DE X a ta)(hb:DE X b tb)(hm:behindInMarks op b=false:=by with_unfolding_all rfl):DT X (.Compare a [op] [b] pos) (aG (dOp r ta tb)):=by
 refine PT.imp (zO ho ha hb hm) λσ H R h=>?_
 obtain⟨S,M,ρ,Q,s,sr,q,k⟩:=nI σ H R h
 exact lX σ H _ ⟨S,M,ρ,Q,s,sr,q,k⟩
theorem Ez(h:DE X e t)(he:∀whole,isTrue e X.env whole=(do let v <-whole;standAt e.pos;holding [v] (truthy v)):=by intro _;rfl):DT X e (aG t):=PT.imp (Cz h he) nI
def onB(z:D)(k:Bool->Prop):Prop:=match z with
 | .bl b=>k b
 | _=>False
theorem nC{b:Bool}{k:Bool->Prop}:onB (.bl b) k=k b:=rfl
def oA(r r':DR2)(ta tb tc:DTE):DTE:=λS M Q=>ta S M λx M1=>tb S M1 λy M2=>r x y M2 λz M3=>onB z λb=>if b=true then tc S M3 λw M4=>r' y w M4 Q else Q (.bl false) M3
theorem sN{K:AA3}{r r':DR2}(σ:St)(H:Hp)(R:VK)(h:lowE K (oA r r' ta tb tc) σ H R):yN (lowR K r) (lowR K r') (lowE K ta) (lowE K tb) (lowE K tc) σ H R:=by
 obtain⟨S,M,ρ,Q,s,sr,q,k⟩:=h
 refine low2 s sr q λx y vx vy M2 ρ2 H2 s2 g2 r1 r2 q2=>⟨x,y,M2,ρ2,_,s2,r1,r2,q2,?_⟩
 rintro vz H3 ⟨z,M3,ρ3,s3,g3,r3,q3⟩
 cases r3 with
 | bl b =>
  cases b with
  | false=>exact⟨false,rfl,bF (k _ H3 ⟨_,M3,ρ3,s3,g2.trans g3,.bl false,(show Q (.bl false) M3 from q3)⟩)⟩
  | true =>
   refine⟨true,rfl,bQ ⟨S,M3,ρ3,_,s3,sr.grow (g2.trans g3),(show tc S M3 _ from q3),?_⟩⟩
   rintro vw H4 ⟨w,M4,ρ4,s4,g4,r4,q4⟩
   exact⟨y,w,M4,ρ4,Q,s4,r2.grow (g3.trans g4),r4,q4,λv H' w'=>k v H' (VQ.trans ((g2.trans g3).trans g4) w')⟩
 | _=>exact q3.elim
theorem Bx(ho:OpD X (compareOp op) r)(ho':OpD X (compareOp op') r')(ha:DE X a ta)(hb:DE X b tb)(hc:DE X c tc)(hm:lastMarks [op,op'] [b,c]=false:=by with_unfolding_all rfl) :
  DE X (.Compare a [op,op'] [b,c] pos) (oA r r' ta tb tc):=PE.imp (xA ho ho' ha hb hc hm) sN
variable{tA tB:DTT}{aE:List Expr}
def EV(t u:DTT):DTT:=λS M Q=>t S M λb M1=>if b=true then u S M1 Q else Q false M1
def dOr(t u:DTT):DTT:=λS M Q=>t S M λb M1=>if b=true then Q true M1 else u S M1 Q
def BO(t:DTT):DTT:=λS M Q=>t S M λb M1=>Q (!b) M1
theorem Bi(ha:DT X a tA):DW X (.BoolOp .And [a] pos) tA:=zL ha
theorem Ew(ha:DT X a tA):DW X (.BoolOp .Or [a] pos) tA:=Cw ha
theorem Ey(ha:DT X a tA)(hb:DW X (.BoolOp .And (b::aE) pos) tB):DW X (.BoolOp .And (a::b::aE) pos) (EV tA tB):=by
 refine PW.imp (Cy ha hb) ?_
 rintro σ H R ⟨S,M,ρ,Q,s,sr,q,k⟩
 refine⟨S,M,ρ,_,s,sr,q,?_⟩
 rintro c H1 ⟨M1,ρ1,s1,g1,q1⟩
 cases c with
 | true=>exact bQ ⟨S,M1,ρ1,Q,s1,sr.grow g1,(show tB S M1 Q from q1),λv H' w=>k v H' (BQ.trans g1 w)⟩
 | false=>exact bF (k false H1 ⟨M1,ρ1,s1,g1,q1⟩)
theorem dw_or(ha:DT X a tA)(hb:DW X (.BoolOp .Or (b::aE) pos) tB):DW X (.BoolOp .Or (a::b::aE) pos) (dOr tA tB):=by
 refine PW.imp (pw_or ha hb) ?_
 rintro σ H R ⟨S,M,ρ,Q,s,sr,q,k⟩
 refine⟨S,M,ρ,_,s,sr,q,?_⟩
 rintro c H1 ⟨M1,ρ1,s1,g1,q1⟩
 cases c with
 | false=>exact bF ⟨S,M1,ρ1,Q,s1,sr.grow g1,(show tB S M1 Q from q1),λv H' w=>k v H' (BQ.trans g1 w)⟩
 | true=>exact bQ (k true H1 ⟨M1,ρ1,s1,g1,q1⟩)
theorem dw_t(h:DW X e t):DT X e t:=PW.pt h
theorem EA(ha:DT X a tA):DT X (.UnaryOp .Not a pos) (BO tA):=by
 refine PT.imp (CA ha) ?_
 rintro σ H R ⟨S,M,ρ,Q,s,sr,q,k⟩
 refine⟨S,M,ρ,_,s,sr,q,?_⟩
 rintro c H1 ⟨M1,ρ1,s1,g1,q1⟩
 exact k (!c) H1 ⟨M1,ρ1,s1,g1,q1⟩
def gW(ta tb:DTE):DTE:=λS M Q=>ta S M λx M1=>onB x λb=>if b=true then tb S M1 Q else Q (.bl false) M1
def dOrV(ta tb:DTE):DTE:=λS M Q=>ta S M λx M1=>onB x λb=>if b=true then Q (.bl true) M1 else tb S M1 Q
def yD(ta:DTE):DTE:=λS M Q=>ta S M λx M1=>match x with
 | .bl b=>Q (.bl (!b)) M1
 | _=>False
theorem d_one{op}(h:DE X a ta):DE X (.BoolOp op [a] pos) ta:=CN h
theorem d_and(ha:DE X a ta)(hb:DE X (.BoolOp .And (b::aE) pos) tb):DE X (.BoolOp .And (a::b::aE) pos) (gW ta tb):=by
 refine PE.imp (CT ha hb) ?_
 rintro σ H R ⟨S,M,ρ,Q,s,sr,q,k⟩
 refine⟨S,M,ρ,_,s,sr,q,?_⟩
 rintro v H1 ⟨d,M1,ρ1,s1,g1,r1,q1⟩
 cases r1 with
 | bl c =>
  cases c with
  | true=>exact⟨true,rfl,bQ ⟨S,M1,ρ1,Q,s1,sr.grow g1,(show tb S M1 Q from q1),λv H' w=>k v H' (VQ.trans g1 w)⟩⟩
  | false=>exact⟨false,rfl,bF (k _ H1 ⟨_,M1,ρ1,s1,g1,.bl false,(show Q (.bl false) M1 from q1)⟩)⟩
 | _=>exact q1.elim
theorem d_or(ha:DE X a ta)(hb:DE X (.BoolOp .Or (b::aE) pos) tb):DE X (.BoolOp .Or (a::b::aE) pos) (dOrV ta tb):=by
 refine PE.imp (pe_or ha hb) ?_
 rintro σ H R ⟨S,M,ρ,Q,s,sr,q,k⟩
 refine⟨S,M,ρ,_,s,sr,q,?_⟩
 rintro v H1 ⟨d,M1,ρ1,s1,g1,r1,q1⟩
 cases r1 with
 | bl c =>
  cases c with
  | false=>exact⟨false,rfl,bF ⟨S,M1,ρ1,Q,s1,sr.grow g1,(show tb S M1 Q from q1),λv H' w=>k v H' (VQ.trans g1 w)⟩⟩
  | true=>exact⟨true,rfl,bQ (k _ H1 ⟨_,M1,ρ1,s1,g1,.bl true,(show Q (.bl true) M1 from q1)⟩)⟩
 | _=>exact q1.elim
theorem d_not(ha:DE X a ta):DE X (.UnaryOp .Not a pos) (yD ta):=by
 refine PE.imp (CO ha) ?_
 rintro σ H R ⟨S,M,ρ,Q,s,sr,q,k⟩
 refine⟨S,M,ρ,_,s,sr,q,?_⟩
 rintro v H1 ⟨d,M1,ρ1,s1,g1,r1,q1⟩
 cases r1 with
 | bl c=>exact⟨c,rfl,k _ H1 ⟨_,M1,ρ1,s1,g1,.bl (!c),q1⟩⟩
 | _=>exact q1.elim
variable{e:Expr}{es:List Expr}{te:DTE}{t:DTA}
def af:DTA:=λ_ M Q=>Q [] M
def aa(te:DTE)(t:DTA):DTA:=λS M Q=>te S M λd M1=>t S M1 λds M2=>Q (d::ds) M2
theorem EQ:DA X [] af:=by
 refine PA.imp uY ?_
 rintro σ H R ⟨S,M,ρ,Q,s,sr,q,k⟩
 exact k [] H ⟨[],M,ρ,s,.refl,.nil,q⟩
theorem Bu(ha:DE X e te)(hr:DA X es t)(hs:starEach (e::es) X.env=(false,eval e X.env)::starEach es X.env:=by rfl):DA X (e::es) (aa te t):=by
 refine PA.imp (je ha hr hs) ?_
 rintro σ H R ⟨S,M,ρ,Q,s,sr,q,k⟩
 refine⟨S,M,ρ,_,s,sr,q,?_⟩
 rintro v H1 ⟨d,M1,ρ1,s1,g1,r1,q1⟩
 refine⟨S,M1,ρ1,_,s1,sr.grow g1,q1,?_⟩
 rintro vs H2 ⟨ds,M2,ρ2,s2,g2,r2,q2⟩
 exact k _ H2 ⟨d::ds,M2,ρ2,s2,g1.trans g2,.cons (r1.grow g2) r2,q2⟩
def fH(t:DTA):DTE:=λS M Q=>t S M λds M1=>ds.length<=sizeLine/\Q (.tup ds) M1
def iw(t:DTA):DTE:=λS M Q=>t S M λds M1=>ds.length<=sizeLine/\Q (.ref M1.length) (M1++[.lst ds])
theorem VQ.laidT{K:AA3}{ρ ρ1:List Addr}{H H1:Hp}{M1:Mem}{ds:List D}{vs:List V}{Q:DK}{p:Addr}(s1:Sim K ρ1 M1 H1)(g1:Grow K ρ H ρ1 H1)(r1:Reps K ρ1 H1 ds vs)(hp:H1 p=none)(q:Q (.tup ds) M1):VQ K ρ H Q (.ref p) (upd H1 p (.tup vs)) :=
 ⟨.tup ds,M1,ρ1,s1.laid hp,g1.trans (Grow.laid hp),.tup (SqT.of aA) (r1.grow (Grow.laid hp)),q⟩
theorem VQ.laidL{K:AA3}{ρ ρ1:List Addr}{H H1:Hp}{M1:Mem}{ds:List D}{vs:List V}{Q:DK}{p:Addr}(s1:Sim K ρ1 M1 H1)(g1:Grow K ρ H ρ1 H1)(r1:Reps K ρ1 H1 ds vs)(hp:H1 p=none)(q:Q (.ref M1.length) (M1++[.lst ds])):VQ K ρ H Q (.ref p) (upd H1 p (.lst vs)) :=
 ⟨.ref M1.length,M1++[.lst ds],ρ1++[p],s1.laidL hp r1,g1.trans (Grow.laidR hp),.ref s1.last,q⟩
theorem d_tup{x1}(h:DA X es t):DE X (.Tuple es x1 pos) (fH t):=by
 refine PE.imp (CL h) ?_
 rintro σ H R ⟨S,M,ρ,Q,s,sr,q,k⟩
 refine⟨S,M,ρ,_,s,sr,q,?_⟩
 rintro vs H1 ⟨ds,M1,ρ1,s1,g1,r1,z,q1⟩
 exact⟨by rw[<-r1.length];exact z,λp hp=>k _ _ (VQ.laidT s1 g1 r1 hp q1)⟩
theorem d_lst(h:DA X es t):DE X (.List es pos) (iw t):=by
 refine PE.imp (CQ h) ?_
 rintro σ H R ⟨S,M,ρ,Q,s,sr,q,k⟩
 refine⟨S,M,ρ,_,s,sr,q,?_⟩
 rintro vs H1 ⟨ds,M1,ρ1,s1,g1,r1,z,q1⟩
 exact⟨by rw[<-r1.length];exact z,λp hp=>k _ _ (VQ.laidL s1 g1 r1 hp q1)⟩
def dCB(r:DRA)(t:DTA):DTE:=λS M Q=>t S M λds M1=>r ds M1 Q
theorem vG{K:AA3}{r:DRA}(σ:St)(H:Hp)(R:VK)(h:lowE K (dCB r t) σ H R):tCB (lowC K r) (lowA K t) σ H R:=by
 obtain⟨S,M,ρ,Q,s,sr,q,k⟩:=h
 refine⟨S,M,ρ,_,s,sr,q,?_⟩
 rintro vs H1 ⟨ds,M1,ρ1,s1,g1,r1,q1⟩
 exact⟨ds,M1,ρ1,Q,s1,r1,q1,λv H' w=>k v H' (VQ.trans g1 w)⟩
theorem By{x:Str}{p:Pos}{id:String}{r:DRA}(hc:my X (.builtin id) r)(hm:X.mg x=none)(hv:bootBuiltins x=some (.builtin id))(ha:DA X (e::es) t)(hg:Gl X x:=by rfl)(hn:x≠"__name__":=by decide)(hdb:(x==("__debug__":Str))=false:=by decide)
  (he:starEach (e::es) X.env=(false,eval e X.env)::starEach es X.env:=by rfl) (hpl:(backTo pos (starEach es X.env)).any (·.1)=false:=by rfl):DE X (.Call (.Name x p) (e::es) [] pos) (dCB r t) :=
 PE.imp (lK hc hg hm hv ha hn hdb he hpl) vG
theorem yC(hc:my X (.type T) r)(hm:X.mg x=none)(hv:bootBuiltins x=some (.type T))(ha:DA X (e::es) t)(hg:Gl X x:=by rfl)(hn:x≠"__name__":=by decide)(hdb:(x==("__debug__":Str))=false:=by decide)
  (he:starEach (e::es) X.env=(false,eval e X.env)::starEach es X.env:=by rfl) (hpl:(backTo pos (starEach es X.env)).any (·.1)=false:=by rfl):DE X (.Call (.Name x p) (e::es) [] pos) (dCB r t) :=
 PE.imp (uW hc hg hm hv ha hn hdb he hpl) vG
abbrev DSp:=List D->Mem->DK->Prop
def spL(K:AA3)(P:DSp):Sp:=λvs H Q _=>∃ds M ρ R,Sim K ρ M H/\Reps K ρ H ds vs/\P ds M R/\∀v H',VQ K ρ H R v H'->Q v H'
theorem vD{K:AA3}{P:DSp}(σ:St)(H:Hp)(R:VK)(h:lowE K (dCB P t) σ H R):Ck (spL K P) [] E0 (lowA K t) σ H R:=by
 obtain⟨S,M,ρ,Q,s,sr,q,k⟩:=h
 exact⟨S,M,ρ,_,s,sr,q,λvs H1 ⟨ds,M1,ρ1,s1,g1,r1,q1⟩=>⟨ds,M1,ρ1,Q,s1,by rw[ABE];exact r1,q1,λv H' w=>k v H' (VQ.trans g1 w)⟩⟩
theorem EU(F:FnOk X.prog X.w X.K X.mg X.base CX0 k f fd ps (spL X.K P))(hr:Room k X.A)(hm:X.mg x=some (.ref f))(hk:AC6 X.K (.ref f)=true)(hb:mz X.K fd ps [])
  (ha:DA X (e::es) t) (hg:Gl X x:=by rfl) (hdb:(x==("__debug__":Str))=false:=by decide) (he:starEach (e::es) X.env=(false,eval e X.env)::starEach es X.env:=by rfl) (hpl:(backTo pos (starEach es X.env)).any (·.1)=false:=by rfl) :
  DE X (.Call (.Name x p) (e::es) [] pos) (dCB P t):=PE.imp (zY F hr hg hm hk hb .nil pass0 ha hdb he hpl) vD
end
section
variable{X:Cx}{st:Stmt}{aE:List Stmt}{t u:DTS}{e:Expr}{te:DTE}{pos:Pos}
def be:DTS:=λE S M=>E.nx S M
def aB(t u:DTS):DTS:=λE S M=>t { E with nx:=λS' M'=>u E S' M' } S M
theorem EH:DSs X [] be:=by
 refine PSs.imp zQ ?_
 rintro E σ H ⟨S,M,ρ,F,s,sr,q,k⟩
 exact k.nx σ H ⟨S,M,ρ,s,.refl,sr,q⟩
theorem EG(h:DS X st t):DSs X [st] t:=zP h
theorem Bn(h1:DS X st t)(h2:DSs X aE u):DSs X (st::aE) (aB t u):=by
 refine PSs.imp (xt h1 h2) ?_
 rintro E σ H ⟨S,M,ρ,F,s,sr,q,k⟩
 exact⟨S,M,ρ,_,s,sr,q,⟨λσ' H' ⟨S',M',ρ',s',g',sr',q'⟩=>⟨S',M',ρ',F,s',sr',q',k.trans g'⟩,k.rt,k.bk,k.ct⟩⟩
def ix(te:DTE):DTS:=λE S M=>te S M λ_ M1=>E.nx S M1
theorem Bm(he:DE X e te)(hs:swapsWith e none pos.line X.env=pure false:=by rfl):DS X (.Expr e pos) (ix te):=by
 refine PS.imp (zR he hs) ?_
 rintro E σ H ⟨S,M,ρ,F,s,sr,q,k⟩
 refine⟨S,M,ρ,_,s,sr,q,?_⟩
 rintro v H1 ⟨d,M1,ρ1,s1,g1,r1,q1⟩
 exact k.nx σ H1 ⟨S,M1,ρ1,s1,g1,sr.grow g1,q1⟩
def bu(te:DTE):DTS:=λE S M=>te S M E.rt
theorem EF(he:DE X e te):DS X (.Return (some e) pos) (bu te):=by
 refine PS.imp (CC he) ?_
 rintro E σ H ⟨S,M,ρ,F,s,sr,q,k⟩
 exact⟨S,M,ρ,_,s,sr,q,λv H1 w=>k.rt v H1 w⟩
def dIf(c:DTT)(t u:DTS):DTS:=λE S M=>c S M λb M1=>if b=true then t E S M1 else u E S M1
theorem ds_if(hc:DT X c tc)(ha:DSs X a t)(hb:DSs X b u):DS X (.If c a b pos) (dIf tc t u):=by
 refine PS.imp (ps_if hc ha hb) ?_
 rintro E σ H ⟨S,M,ρ,F,s,sr,q,k⟩
 refine⟨S,M,ρ,_,s,sr,q,?_⟩
 rintro c H1 ⟨M1,ρ1,s1,g1,q1⟩
 cases c with
 | true=>exact bQ ⟨S,M1,ρ1,F,s1,sr.grow g1,(show t F S M1 from q1),k.trans g1⟩
 | false=>exact bF ⟨S,M1,ρ1,F,s1,sr.grow g1,(show u F S M1 from q1),k.trans g1⟩
def aW(te:DTE)(i:Nat):DTS:=λE S M=>te S M λd M1=>E.nx (S.set i (some d)) M1
theorem ED(hN:X.N.Nodup)(he:DE X e te)(hi:X.N[i]?=some x:=by rfl)(hx:Loc X.env.scope x:=by first | exact Or.inl rfl | exact Or.inr rfl)(hs:swapsWith e (some (.Name x pos')) pos.line X.env=pure false:=by rfl)
  (hf:X.fn x=true\/X.env.scope.names.lookup x=some .local:=by first | exact .inl rfl | exact .inr rfl | assumption):DS X (.Assign [.Name x pos'] e pos) (aW te i):=by
 refine PS.imp (CB hN hi hx he hs hf) ?_
 rintro E σ H ⟨S,M,ρ,F,s,sr,q,k⟩
 refine⟨S,M,ρ,_,s,sr,q,?_⟩
 rintro v H1 ⟨d,M1,ρ1,s1,g1,r1,q1⟩
 exact k.nx _ H1 ⟨_,M1,ρ1,s1,g1,(sr.grow g1).set i r1,q1⟩
def ay(i:Nat):DTG:=λd S M Q=>Q (S.set i (some d)) M
theorem qf(hN:X.N.Nodup)(hi:X.N[i]?=some x:=by rfl)(hx:Loc X.env.scope x:=by first | exact Or.inl rfl | exact Or.inr rfl)(hf:X.fn x=true\/X.env.scope.names.lookup x=some .local:=by first | exact .inl rfl | exact .inr rfl | assumption):DG X (.Name x pos) (ay i) :=
 λpins s σ H v u R I r ⟨d,S,M,ρ,Q,sm,sr,rd,q,k⟩=>zV hN hi hx hf pins s σ H v u R I r (k _ H ⟨_,M,ρ,sm,.refl,sr.set i rd,q⟩)
end
theorem su{P:Program}{w:World}{K:AA3}{tg:Expr}(it:Addr)(n:Nat)(PV:Nat->Value->Prop)(PX:Nat->V->Prop)(Sx:Nat->Heap->Prop)
  (W:∀A':Around,A'.handled=none->Walks P w A' it [it] [it] n PV Sx) (hrel:∀i v,PV i v->∃x,aI x v/\PX i x)
  (hobj:∀i h,Sx i h->∃(o:Obj) (nm:String) (vs:Array Value),h.get? it=some o/\o.cls=.type nm/\o.data=.fields vs/\["enumerate","zip","dict_itemiterator","dict_reverseitemiterator","odict_iterator","itertools.zip_longest","itertools.pairwise"].contains nm=false)
  (hframe:∀(i:Nat) (h h':Heap),Sx i h->(∀o,h.get? it=some o->h'.get? it=some o)->Sx i h')
  (hself:∀(A:Around) (i:Nat) (s:Shared) (Q:Value->Shared->Prop) (E:Value->Shared->Prop),Sx i s.heap->Q (.ref it) s->wpAny (model P w) A (pyIter (.ref it)) Q E s) :
  Turn P w K tg ⟨λi _=>i<n,λi H x H'=>H'=H/\PX i x,λi _=>i=n⟩ [it] it Sx where
 mem:=by simp
 obj:=λi h st b hb=>by
  have e:b=it:=by simpa using hb
  subst e
  obtain⟨o,nm,vs,e,_,d,_⟩:=hobj i h st
  exact⟨o,e,λv z=>by rw[d]at z;cases z⟩
 keep:=λi h h' st k=>hframe i h h' st λo e=>k it (by simp) o e
 item:=by
  intro X hP hw hK hc i pins s σ H E I hf st hg
  subst hP hw hK
  obtain⟨f0,f1,f2,f3,f4,f5⟩:=hf it (by simp)
  refine(W X.A (I.ok.hd hc)).item i s _ _ hg st λv h' tk hv st' kk=>?_
  obtain⟨x,rx,px⟩:=hrel i v hv
  have I1:Inv X pins σ H { s with heap:=h',toks:=tk }:=I.turned (λb o hb e=>kk b o (by simpa using hb) e) f0 f1 f3 f4 f5
  obtain⟨o,nm,vs,e,c,d,hn⟩:=hobj _ _ st'
  exact⟨v,rfl,tj (s:={ s with heap:=h',toks:=tk }) e c d hn ⟨x,H,I1,rx,⟨rfl,px⟩,st',λb hb=>(hf b hb).1⟩⟩
 done:=by
  intro X hP hw hK hc i pins s σ H E I hf st hg
  subst hP hw hK
  obtain⟨f0,f1,f2,f3,f4,f5⟩:=hf it (by simp)
  have hi:i=n:=hg
  subst hi
  exact(W X.A (I.ok.hd hc)).done s _ _ st λh' tk kk=>⟨rfl,I.turned (λb o hb e=>kk b o (by simpa using hb) e) f0 f1 f3 f4 f5⟩
 self:=hself
noncomputable def uL(x:Str):List D:=x.cps.toList.map λc=>.str ⟨#[c]⟩
structure Src where
 items:List D
 ok:Mem->Prop
abbrev DTI:=SD->Mem->(Src->Mem->Prop)->Prop
structure ItD(K:AA3)(src:Src)(ρ0:List Addr)(H0:Hp)(J:It):Prop where
 go:∀(i:Nat) ρ M H,Sim K ρ M H->Grow K ρ0 H0 ρ H->src.ok M->i<src.items.length->J.go i H
 yld:∀(i:Nat) ρ M H x H',Sim K ρ M H->Grow K ρ0 H0 ρ H->src.ok M->i<src.items.length->J.yld i H x H'->∃d ρ',src.items[i]?=some d/\Sim K ρ' M H'/\Grow K ρ H ρ' H'/\Rep K ρ' H' d x
 stop:∀(ρ:List Addr) M H,Sim K ρ M H->Grow K ρ0 H0 ρ H->src.ok M->J.stop src.items.length H
def IQ(K:AA3)(ρ:List Addr)(H:Hp)(Q:Src->Mem->Prop):It->Hp->Prop:=λJ H'=>∃src M' ρ',Sim K ρ' M' H'/\Grow K ρ H ρ' H'/\ItD K src ρ' H' J/\Q src M'
def lowI(K:AA3)(di:DTI):TI:=λσ H R=>∃S M ρ Q,Sim K ρ M H/\SRep K ρ H S σ/\di S M Q/\∀J H',IQ K ρ H Q J H'->R J H'
def DI(X:Cx)(tg iter:Expr)(di:DTI):Prop:=PI X tg iter (lowI X.K di)
theorem ItD.tup{K:AA3}{ρ:List Addr}{H:Hp}{a:Addr}{vs:List V}{ds:List D}(h:SqT K H a vs)(r:Reps K ρ H ds vs)(uniq:∀ys,SqT K H a ys->ys=vs):ItD K ⟨ds,λ_=>True⟩ ρ H (Itt K a) where
 go:=λi ρ' M H' s g _ hi=>by
  have hl:i<vs.length:=by rw[<-r.length];exact hi
  exact⟨vs,vs[i],g.tup a vs h,AA5 hl⟩
 yld:=λi ρ' M H' x H2 s g _ hi y=>by
  obtain⟨rfl,y⟩:=y
  obtain⟨d,hd,rd⟩:=(r.grow g).getV (y vs (g.tup a vs h))
  exact⟨d,ρ',hd,s,.refl,rd⟩
 stop:=λρ' M H' s g _=>⟨vs,g.tup a vs h,by rw[<-r.length];exact AA8 _⟩
theorem ItD.lst{K:AA3}{ρ:List Addr}{H:Hp}{n:Nat}{a:Addr}{ds:List D}(e:ρ[n]?=some a):ItD K ⟨ds,λM=>ao M n ds⟩ ρ H (Itl K a) where
 go:=λi ρ' M H' s g ok hi=>by
  obtain⟨vs,h,r⟩:=ao.seq s ok (ar g.pre e)
  have hl:i<vs.length:=by rw[<-r.length];exact hi
  exact⟨vs,vs[i],h,AA5 hl⟩
 yld:=λi ρ' M H' x H2 s g ok hi y=>by
  obtain⟨rfl,y⟩:=y
  obtain⟨vs,h,r⟩:=ao.seq s ok (ar g.pre e)
  obtain⟨d,hd,rd⟩:=r.getV (y vs h)
  exact⟨d,ρ',hd,s,.refl,rd⟩
 stop:=λρ' M H' s g ok=>by
  obtain⟨vs,h,r⟩:=ao.seq s ok (ar g.pre e)
  exact⟨vs,h,by rw[<-r.length];exact AA8 _⟩
theorem ItD.plain{K:AA3}{ρ:List Addr}{H:Hp}{ds:List D}{J:It}(hg:∀i H,i<ds.length->J.go i H)(hy:∀i H x H',i<ds.length->J.yld i H x H'->H'=H/\∃d,ds[i]?=some d/\cV d=some x)(hs:∀H,J.stop ds.length H):ItD K ⟨ds,λ_=>True⟩ ρ H J where
 go:=λi ρ' M H' s g _ hi=>hg i H' hi
 yld:=λi ρ' M H' x H2 s g _ hi y=>by
  obtain⟨rfl,d,hd,hv⟩:=hy i _ x H2 hi y
  exact⟨d,ρ',hd,s,.refl,wN hv⟩
 stop:=λρ' M H' s g _=>hs H'
section
variable{X:Cx}{tg:Expr}
def dc(te:DTE):DTI:=λS M R=>te S M λd M1=>match d with
 | .tup ds=>ds.length<=sizeLine->R ⟨ds,λ_=>True⟩ M1
 | .str x=>R ⟨uL x,λ_=>True⟩ M1
 | .ref n=>∃xs,ao M1 n xs/\(xs.length<=sizeLine->R ⟨xs,λM=>ao M n xs⟩ M1)
 | _=>False
theorem EK(hl:DE X l tl):DI X tg l (dc tl):=by
 intro pins s σ H R I h
 obtain⟨S,M,ρ,Q,sm,sr,q,k⟩:=h
 refine thn (hl pins s σ H _ I ⟨S,M,ρ,_,sm,sr,q,λv H' w=>w⟩) ?_
 rintro u s1 ⟨v,H1,I1,rv,d,M1,ρ1,sm1,g1,r1,q1⟩
 cases r1 with
 | non=>exact q1.elim
 | bl b=>exact q1.elim
 | int i=>exact q1.elim
 | ty n=>exact q1.elim
 | @tup a vs ds hq r =>
  cases rv
  obtain⟨its,rr,p,hz⟩:=I1.tuple hq
  refine wpAny_pyIter_tuple (show s1.heap.IsTuple a its.toArray from p) ?_
  refine⟨s1.heap.objs.size,[s1.heap.objs.size],_,_,H1,rfl,I1.kept (t':=s1.toks) λb o e=>AA4 _ e,sw a _,⟨_,AAB _ rfl,rfl,rfl⟩,λb hb=>?_,k _ H1 ⟨⟨ds,λ_=>True⟩,M1,ρ1,sm1,g1,ItD.tup hq r λys hy=>I1.tuple_inj hy hq,?_⟩⟩
  ·have e:b=s1.heap.objs.size:=by simpa using hb
   subst e
   exact I1.fpOk (AA8 _) (I1.hok.fresh (AA8 _))
  ·exact(show ds.length<=sizeLine->Q ⟨ds,λ_=>True⟩ M1 from q1) (by rw[r.length];exact hz)
 | @ref n a hn =>
  cases rv
  obtain⟨xs,hL,q2⟩:=(show ∃xs,ao M1 n xs/\(xs.length<=sizeLine->Q ⟨xs,λM=>ao M n xs⟩ M1)from q1)
  obtain⟨vs,hq,r⟩:=ao.seq sm1 hL hn
  obtain⟨its,rr,p,hz⟩:=I1.list hq
  refine wpAny_pyIter_list p.isList ?_
  refine⟨s1.heap.objs.size,[s1.heap.objs.size],_,_,H1,rfl,I1.kept (t':=s1.toks) λb o e=>AA4 _ e,tZ a _,⟨_,AAB _ rfl,rfl,rfl⟩,λb hb=>?_,k _ H1 ⟨⟨xs,λM=>ao M n xs⟩,M1,ρ1,sm1,g1,ItD.lst hn,q2 (by rw[r.length];exact hz)⟩⟩
  have e:b=s1.heap.objs.size:=by simpa using hb
  subst e
  exact I1.fpOk (AA8 _) (I1.hok.fresh (AA8 _))
 | str x =>
  obtain⟨t,rfl⟩:=rv
  have fin:∀(nm:String) (ob:Obj),(ob.cls=.type nm/\ob.data=.fields #[.str x t,.int 0 0]) ->
    (∀A':Around,A'.handled=none->Walks X.prog X.w A' s1.heap.objs.size [s1.heap.objs.size] [s1.heap.objs.size] x.cps.size (SignAt x) (λi h=>h.IsStrIter s1.heap.objs.size nm x t i)) ->
    (∀(A:Around) (i:Nat) (s:Shared) (Q:Value->Shared->Prop) (E:Value->Shared->Prop),s.heap.IsStrIter s1.heap.objs.size nm x t i->Q (.ref s1.heap.objs.size) s->wpAny (model X.prog X.w) A (pyIter (.ref s1.heap.objs.size)) Q E s) ->
    ["enumerate","zip","dict_itemiterator","dict_reverseitemiterator","odict_iterator","itertools.zip_longest","itertools.pairwise"].contains nm=false->(s1.heap.push ob).IsStrIter s1.heap.objs.size nm x t 0 ->
    PIE X pins σ tg R (.ref s1.heap.objs.size) { s1 with heap:=s1.heap.push ob }:=λnm ob hob W hself hnm st=>by
   refine⟨s1.heap.objs.size,[s1.heap.objs.size],_,_,H1,rfl,I1.kept (t':=s1.toks) λb o e=>AA4 _ e,
    su (PX:=λi v=>∃c,x.cps[i]?=some c/\v=.str ⟨#[c]⟩) _ _ _ _ W (λi v ⟨c,u,e1,e2⟩=>⟨.str ⟨#[c]⟩,⟨u,e2⟩,c,e1,rfl⟩) (λi h st=>?_) (λi h h' st k=>?_) hself,st,λb hb=>?_,k _ H1 ⟨⟨uL x,λ_=>True⟩,M1,ρ1,sm1,g1,ItD.plain ?_ ?_ ?_,q1⟩⟩
   ·obtain⟨o,e,c,d⟩:=st
    exact⟨o,nm,_,e,c,d,hnm⟩
   ·obtain⟨o,e,r⟩:=st
    exact⟨o,k o e,r⟩
   ·have e:b=s1.heap.objs.size:=by simpa using hb
    subst e
    exact I1.fpOk (AA8 _) (I1.hok.fresh (AA8 _))
   ·intro i _ hi
    simpa [uL]using hi
   ·rintro i H x' H' _ ⟨rfl,c,e,rfl⟩
    exact⟨rfl,.str ⟨#[c]⟩,by simp[uL,e],rfl⟩
   ·intro H
    simp[uL]
  cases ha:x.cps.all (· < 128)
  ·exact wpAny_pyIter_wide ha (fin _ _ ⟨rfl,rfl⟩ (λA' hA=>Walks.strWide hA _ x t) (λ_ _ _ _ _ st h=>wpAny_pyIter_striter_wide st h) (by decide) ⟨_,AAB _ rfl,rfl,rfl⟩)
  ·exact wpAny_pyIter_ascii ha (fin _ _ ⟨rfl,rfl⟩ (λA' hA=>Walks.strAscii hA _ x t) (λ_ _ _ _ _ st h=>wpAny_pyIter_striter_ascii st h) (by decide) ⟨_,AAB _ rfl,rfl,rfl⟩)
noncomputable def nw(lo:Int)(n:Nat):List D:=(AAn n).map λi=>.int (lo+((i:Nat):Int))
theorem ItD.rng{K:AA3}{ρ:List Addr}{H:Hp}(lo:Int)(n:Nat):ItD K ⟨nw lo n,λ_=>True⟩ ρ H (Itr lo n):=by
 refine ItD.plain (λi _ hi=>?_) (λi H x H' hi y=>?_) λH=>?_
 ·show i<n
  simpa [nw]using hi
 ·obtain⟨e,rfl⟩:=y
  have hi':i<n:=by simpa [nw]using hi
  exact⟨e,.int (lo+i),by simp[nw,hi'],rfl⟩
 ·show n<=(nw lo n).length
  simp[nw]
def db(ta:DTA):DTI:=λS M R=>ta S M λds M1=>match ds with
 | [.int j]=>(-(2 ^ 62)<=j/\j<2 ^ 62)/\R ⟨nw 0 j.toNat,λ_=>True⟩ M1
 | _=>False
def mj(ta:DTA):DTI:=λS M R=>ta S M λds M1=>match ds with
 | [.int i,.int j]=>(-(2 ^ 62)<=i/\i<2 ^ 62/\-(2 ^ 62)<=j/\j<2 ^ 62)/\R ⟨nw i (j-i).toNat,λ_=>True⟩ M1
 | _=>False
theorem PI.imp(h:PI X tg iter t')(i:∀σ H R,t σ H R->t' σ H R):PI X tg iter t:=λpins s σ H R I q=>h pins s σ H R I (i σ H R q)
theorem wA(hm:X.mg "range" = none)(ha:DA X [a] ta)(hg:Gl X "range":=by rfl)(hs:starEach [a] X.env=[(false,eval a X.env)]:=by rfl):DI X tg (.Call (.Name "range" p) [a] [] pos) (db ta):=by
 refine PI.imp (uU hg hm ha hs) ?_
 rintro σ H R ⟨S,M,ρ,Q,s,sr,q,k⟩
 refine⟨S,M,ρ,_,s,sr,q,?_⟩
 rintro vs H1 ⟨ds,M1,ρ1,s1,g1,r1,q1⟩
 try dsimp only at q1
 split at q1
 ·rename_i j
  obtain⟨⟨h1,h2⟩,q2⟩:=q1
  first | have hzz:=Reps.inv_cons r1 | have hzz:=au.inv_cons r1
  clear r1
  obtain⟨_,_,rfl,r,t⟩:=hzz
  cases r
  cases t
  exact⟨j,rfl,h1,h2,k _ H1 ⟨_,M1,ρ1,s1,g1,ItD.rng 0 j.toNat,q2⟩⟩
 ·exact q1.elim
theorem wz(hm:X.mg "range" = none)(ha:DA X [a,b] ta)(hg:Gl X "range":=by rfl)(hs:starEach [a,b] X.env=[(false,eval a X.env),(false,eval b X.env)]:=by rfl)(hs2:starEach [b] X.env=[(false,eval b X.env)]:=by rfl) :
  DI X tg (.Call (.Name "range" p) [a,b] [] pos) (mj ta):=by
 refine PI.imp (uT hg hm ha hs hs2) ?_
 rintro σ H R ⟨S,M,ρ,Q,s,sr,q,k⟩
 refine⟨S,M,ρ,_,s,sr,q,?_⟩
 rintro vs H1 ⟨ds,M1,ρ1,s1,g1,r1,q1⟩
 try dsimp only at q1
 split at q1
 ·rename_i i j
  obtain⟨h,q2⟩:=q1
  first | have hzz:=Reps.inv_cons r1 | have hzz:=au.inv_cons r1
  clear r1
  obtain⟨_,_,rfl,r,t⟩:=hzz
  cases r
  cases t with
  | cons r t =>
   cases r
   cases t
   exact⟨i,j,rfl,h,k _ H1 ⟨_,M1,ρ1,s1,g1,ItD.rng i (j-i).toNat,q2⟩⟩
 ·exact q1.elim
end
section
mutual
inductive Bel(k:Nat):D->Prop
 | non:Bel k .non
 | bl (b:Bool):Bel k (.bl b)
 | int (i:Int):Bel k (.int i)
 | str (x:Str):Bel k (.str x)
 | ty (n:String):Bel k (.ty n)
 | tup {ds:List D} (h:Bels k ds):Bel k (.tup ds)
 | ref {n:Nat} (h:n<k):Bel k (.ref n)
inductive Bels(k:Nat):List D->Prop
 | nil:Bels k []
 | cons {d:D}{ds:List D} (h:Bel k d) (t:Bels k ds):Bels k (d::ds)
end
noncomputable def MO.items:MO->List D
 | .lst xs=>xs
 | .fz xs=>xs
 | .kl xs=>xs
 | .dct kvs=>kvs.map (·.2)
 | .dkt kvs=>kvs.map (·.2)
 | .dkq kvs=>kvs.map (·.2)
 | .fdc _ kvs=>kvs.map (·.2)
 | .dkm kvs=>kvs.map (·.2)
 | .tb _ _=>[]
 | .exc _=>[]
theorem Rep.bel{K:AA3}{ρ:List Addr}{H:Hp}{d:D}{v:V}(h:Rep K ρ H d v):Bel ρ.length d :=
 Rep.rec (motive_1:=λd v _=>Bel ρ.length d) (motive_2:=λds vs _=>Bels ρ.length ds) .non .bl .int .str .ty (λ_ _ r=>.tup r) (λh=>.ref (AA7.mp h).1) .nil (λ_ _ h t=>.cons h t) h
theorem Reps.bel{K:AA3}{ρ:List Addr}{H:Hp}{ds:List D}{vs:List V}(h:Reps K ρ H ds vs):Bels ρ.length ds :=
 Reps.rec (motive_1:=λd v _=>Bel ρ.length d) (motive_2:=λds vs _=>Bels ρ.length ds) .non .bl .int .str .ty (λ_ _ r=>.tup r) (λh=>.ref (AA7.mp h).1) .nil (λ_ _ h t=>.cons h t) h
theorem Bel.inv(b:Bel k d):(∀ds,d=.tup ds->Bels k ds)/\∀n,d=.ref n->n<k:=by
 cases b with
 | tup b=>exact⟨(λ_ e=>by injection e with e;exact e ▸ b),(λ_ e=>by cases e)⟩
 | ref b=>exact⟨(λ_ e=>by cases e),(λ_ e=>by injection e with e;exact e ▸ b)⟩
 | _=>exact⟨(λ_ e=>by cases e),(λ_ e=>by cases e)⟩
theorem Bels.inv{k:Nat}{d:D}{ds:List D}(b:Bels k (d::ds)):Bel k d/\Bels k ds:=by
 cases b with
 | cons b c=>exact⟨b,c⟩
theorem Rep.cut{K:AA3}{ρ:List Addr}{H:Hp}{k:Nat}{d:D}{v:V}(h:Rep K ρ H d v):Bel k d->Rep K (ρ.take k) H d v :=
 Rep.rec (motive_1:=λd v _=>Bel k d->Rep K (ρ.take k) H d v) (motive_2:=λds vs _=>Bels k ds->Reps K (ρ.take k) H ds vs) (λ_=>.non) (λb _=>.bl b) (λb _=>.int b) (λb _=>.str b) (λb _=>.ty b) (λh _ r b=>.tup h (r (b.inv.1 _ rfl)))
  (λh b=>.ref (by rw[ABL (b.inv.2 _ rfl)];exact h)) (λ_=>.nil) (λ_ _ h t b=>.cons (h b.inv.1) (t b.inv.2)) h
theorem Reps.cut{K:AA3}{ρ:List Addr}{H:Hp}{k:Nat}{ds:List D}{vs:List V}(h:Reps K ρ H ds vs):Bels k ds->Reps K (ρ.take k) H ds vs :=
 Reps.rec (motive_1:=λd v _=>Bel k d->Rep K (ρ.take k) H d v) (motive_2:=λds vs _=>Bels k ds->Reps K (ρ.take k) H ds vs) (λ_=>.non) (λb _=>.bl b) (λb _=>.int b) (λb _=>.str b) (λb _=>.ty b) (λh _ r b=>.tup h (r (b.inv.1 _ rfl)))
  (λh b=>.ref (by rw[ABL (b.inv.2 _ rfl)];exact h)) (λ_=>.nil) (λ_ _ h t b=>.cons (h b.inv.1) (t b.inv.2)) h
theorem Bel.mono{j k:Nat}(h:j<=k){d:D}(b:Bel j d):Bel k d :=
 Bel.rec (motive_1:=λd _=>Bel k d) (motive_2:=λds _=>Bels k ds) .non .bl .int .str .ty (λ_ b=>.tup b) (λb=>.ref (AAP b h)) .nil (λ_ _ b c=>.cons b c) b
theorem Bels.mono{j k:Nat}(h:j<=k){ds:List D}(b:Bels j ds):Bels k ds :=
 Bels.rec (motive_1:=λd _=>Bel k d) (motive_2:=λds _=>Bels k ds) .non .bl .int .str .ty (λ_ b=>.tup b) (λb=>.ref (AAP b h)) .nil (λ_ _ b c=>.cons b c) b
theorem Bels.of:∀{xs:List D},(∀d∈xs,Bel k d)->Bels k xs
 | [],_=>.nil
 | d::ds,h=>.cons (h d AAG) (Bels.of λe he=>h e (AA9 _ he))
section
variable{K:AA3}{ρ ρ':List Addr}{H H':Hp}{M M':Mem}
theorem rF:∀(n:Nat) (d:D),bL n d=true->Bel k d:=by
 intro n
 induction n with
 | zero =>
  intro d h
  cases d with
  | str x=>exact .str x
  | int x=>exact .int x
  | _=>cases h
 | succ n ih =>
  intro d h
  cases d with
  | str x=>exact .str x
  | int x=>exact .int x
  | tup ds=>exact .tup (Bels.of λx hx=>ih x (AAU.mp (show ds.all (bL n)=true from h) x hx))
  | _=>cases h
theorem vS(r:Paired (rX K ρ H) kvs xs):Bels ρ.length (kvs.map (·.2)):=by
 induction r with
 | nil=>exact .nil
 | cons q _ ih =>
  obtain⟨_,_,_,v,q4,_⟩:=q
  exact .cons q4.bel ih
theorem vR(r:Paired (rX K ρ H) kvs xs)(b:Bels k (kvs.map (·.2))):Paired (rX K (ρ.take k) H) kvs xs:=by
 induction r with
 | nil=>exact .nil
 | cons q _ ih =>
  obtain⟨q1,q2,q3,v,q4,q5⟩:=q
  rw[AAe]at b
  cases b with
  | cons b1 b2=>exact .cons ⟨q1,q2,q3.cut (rF _ _ q2),v,q4.cut b1,q5⟩ (ih b2)
theorem xZ:∀(d:D),keyM d=true->Bel k d
 | .non,_=>.non
 | .tup ks,h=>rF 8 _ h
 | .bl _,h=>nomatch h
 | .int _,h=>nomatch h
 | .str _,h=>nomatch h
 | .ty _,h=>nomatch h
 | .ref _,h=>nomatch h
theorem Ay(r:Paired (KvM K ρ H) kvs xs):Bels ρ.length (kvs.map (·.2)):=by
 induction r with
 | nil=>exact .nil
 | cons q _ ih =>
  obtain⟨_,_,_,v,q4,_⟩:=q
  exact .cons q4.bel ih
theorem Ax(r:Paired (KvM K ρ H) kvs xs)(b:Bels k (kvs.map (·.2))):Paired (KvM K (ρ.take k) H) kvs xs:=by
 induction r with
 | nil=>exact .nil
 | cons q _ ih =>
  obtain⟨q1,q2,⟨u,q3,q3'⟩,v,q4,q5⟩:=q
  rw[AAe]at b
  cases b with
  | cons b1 b2=>exact .cons ⟨q1,q2,⟨u,q3.cut (xZ _ q2),q3'⟩,v,q4.cut b1,q5⟩ (ih b2)
theorem tO.bels(h:tO K ρ H a mo):Bels ρ.length mo.items:=by
 cases mo with
 | lst ds=>obtain⟨vs,_,r⟩:=h;exact r.bel
 | fz ds=>obtain⟨o,vs,_,r⟩:=h;exact r.bel
 | kl ds=>obtain⟨vs,_,r⟩:=h;exact r.bel
 | dct kvs=>obtain⟨vs,_,r⟩:=h;exact r.bel
 | dkt kvs=>obtain⟨_,_,_,xs,_,r⟩:=h;exact vS r
 | dkq kvs=>obtain⟨_,_,_,xs,_,r⟩:=h;exact vS r
 | fdc o kvs=>obtain⟨vs,_,r⟩:=h;exact r.bel
 | dkm kvs=>obtain⟨_,_,_,xs,_,r⟩:=h;exact Ay r
 | tb x b=>exact .nil
 | exc x=>exact .nil
theorem tO.cut(h:tO K ρ H a mo)(b:Bels k mo.items):tO K (ρ.take k) H a mo:=by
 cases mo with
 | lst ds=>obtain⟨vs,e,r⟩:=h;exact⟨vs,e,r.cut b⟩
 | fz ds=>obtain⟨o,vs,e,r⟩:=h;exact⟨o,vs,e,r.cut b⟩
 | kl ds=>obtain⟨vs,e,r⟩:=h;exact⟨vs,e,r.cut b⟩
 | dct kvs=>obtain⟨vs,e,r⟩:=h;exact⟨vs,e,r.cut b⟩
 | dkt kvs=>obtain⟨h1,h2,h3,xs,e,r⟩:=h;exact⟨h1,h2,h3,xs,e,vR r b⟩
 | dkq kvs=>obtain⟨h1,h2,h3,xs,e,r⟩:=h;exact⟨h1,h2,h3,xs,e,vR r b⟩
 | fdc o kvs=>obtain⟨vs,e,r⟩:=h;exact⟨vs,e,r.cut b⟩
 | dkm kvs=>obtain⟨h1,h2,h3,xs,e,r⟩:=h;exact⟨h1,h2,h3,xs,e,Ax r b⟩
 | tb x b=>exact h
 | exc x=>exact h
theorem Sim.bels(S:Sim K ρ M H){n:Nat}{mo:MO}(e:M[n]?=some mo):Bels M.length mo.items:=by
 obtain⟨a,_,h⟩:=S.get e
 rw[<-S.len]
 exact h.bels
theorem Sim.cut(S:Sim K ρ M H)(k:Nat)(hb:∀(n:Nat) (mo:MO),n<k->M[n]?=some mo->Bels k mo.items):Sim K (ρ.take k) (M.take k) H:=by
 have lt:∀{n:Nat}{a:Addr},(ρ.take k)[n]?=some a->n<k/\ρ[n]?=some a:=λ{n a} e=>by
  have h1:=(AA7.mp e).1
  rw[AAx]at h1
  have h2:n<k:=by lia
  rw[ABL h2]at e
  exact⟨h2,e⟩
 refine⟨λn m a hne e1 e2=>?_,by rw[AAx,AAx,S.len],λn a mo e1 e2=>?_⟩
 ·obtain⟨l1,f1⟩:=lt e1
  obtain⟨l2,f2⟩:=lt e2
  rw[ABL l1,ABL l2]
  exact S.nd n m a hne f1 f2
 ·obtain⟨l1,f1⟩:=lt e1
  rw[ABL l1]at e2
  exact(S.obj n a mo f1 e2).cut (hb n mo l1 e2)
theorem SRep.cut(r:SRep K ρ H S σ)(hl:S'.length=S.length)(h:∀(i:Nat) d,S'[i]?=some (some d)->S[i]?=some (some d)/\Bel k d):SRep K (ρ.take k) H S' σ :=
 ⟨hl.trans r.len,λi d e=>let ⟨e',b⟩:=h i d e;let ⟨v,hv,rv⟩:=r.get i d e';⟨v,hv,rv.cut b⟩⟩
theorem Grow.cut(g:Grow K ρ H ρ' H')(h:ρ.length<=k):Grow K ρ H (ρ'.take k) H':=by
 refine⟨?_,g.tup⟩
 obtain⟨t,rfl⟩:=g.pre
 rw[List.take_append]
 rw[ACg h]
 exact AAY _ _
end
inductive FgtS(k:Nat):SD->SD->Prop
 | nil:FgtS k [] []
 | keep {d:D}{S S':SD} (h:Bel k d) (t:FgtS k S S'):FgtS k (some d::S) (some d::S')
 | drop {o:Option D}{S S':SD} (t:FgtS k S S'):FgtS k (o::S) (none::S')
theorem FgtS.len(h:FgtS k S S'):S'.length=S.length:=by
 induction h with
 | nil=>rfl
 | keep _ _ ih=>rw[AAL,AAL,ih]
 | drop _ ih=>rw[AAL,AAL,ih]
theorem FgtS.get(h:FgtS k S S'):∀(i:Nat) d,S'[i]?=some (some d)->S[i]?=some (some d)/\Bel k d:=by
 induction h with
 | nil=>intro i d e;simp at e
 | keep b _ ih =>
  intro i d e
  cases i with
  | zero=>simp at e;subst e;exact⟨rfl,b⟩
  | succ i=>exact ih i d (by simpa using e)
 | drop _ ih =>
  intro i d e
  cases i with
  | zero=>simp at e
  | succ i=>exact ih i d (by simpa using e)
def Fgt(M0:Mem)(P:SD->Mem->Prop)(S:SD)(M:Mem):Prop :=
 P S M\/(∃k S',M0.length<=k/\FgtS k S S'/\(∀(n:Nat) mo,n<k->M[n]?=some mo->Bels k mo.items)/\P S' (M.take k))\/∃S',FgtS M0.length S S'/\M0 <+: M/\P S' M0
theorem xf{α:Type}{l l':List α}(h:l <+: l'):l'.take l.length=l:=by
 obtain⟨t,rfl⟩:=h
 rw[List.take_append_of_le_length (AA8 _),ACB]
theorem SQ.fgt{K:AA3}{ρ:List Addr}{H:Hp}{M0:Mem}{P:SD->Mem->Prop}{σ':St}{H':Hp}(s0:Sim K ρ M0 H)(h:SQ K ρ H (Fgt M0 P) σ' H'):SQ K ρ H P σ' H':=by
 have hk:ρ.length<=M0.length:=by rw[s0.len];exact AA8 _
 obtain⟨S',M',ρ',s',g',sr',q'⟩:=h
 rcases q' with q' | ⟨k,S2,h1,h2,h4,q⟩|⟨S2,h2,hp,q⟩
 ·exact⟨S',M',ρ',s',g',sr',q'⟩
 ·exact⟨S2,M'.take k,ρ'.take k,s'.cut k h4,g'.cut (AB0 hk h1),sr'.cut h2.len h2.get,q⟩
 ·have sc:=s'.cut M0.length λn mo hn e=>by
   obtain⟨t,rfl⟩:=hp
   rw[AAJ hn]at e
   exact s0.bels e
  rw[xf hp]at sc
  exact⟨S2,M0,ρ'.take M0.length,sc,g'.cut hk,sr'.cut h2.len h2.get,q⟩
def oz(ok:Mem->Prop)(g:DTG)(tb:DTS)(E:DEnds)(k0:Mem):List D->SD->Mem->Prop
 | [],S,M=>ok M/\E.nx S M
 | x::xs,S,M=>ok M/\g x S M λS2 M2=>tb ⟨Fgt k0 (oz ok g tb E k0 xs),E.rt,E.nx,Fgt k0 (oz ok g tb E k0 xs)⟩ S2 M2
def mn(di:DTI)(g:DTG)(tb:DTS):DTS:=λE S M=>di S M λsrc M1=>oz src.ok g tb E M1 src.items S M1
theorem om{α:Type}{l:List α}{i:Nat}{x:α}(h:l[i]?=some x):l.drop i=x::l.drop (i+1):=by
 obtain⟨hi,e⟩:=AA7.mp h
 rw[List.drop_eq_getElem_cons hi,e]
theorem xK{K:AA3}{di:DTI}{g:DTG}{tb:DTS}(E:Ends)(σ:St)(H:Hp)(h:lowS K (mn di g tb) E σ H):tFor (lowI K di) (lowG K g) (lowS K tb) E σ H:=by
 obtain⟨S,M,ρ,F,s,sr,q,k⟩:=h
 refine⟨S,M,ρ,_,s,sr,q,?_⟩
 rintro J H1 ⟨src,M1,ρ1,s1,g1,it,q1⟩
 have k1:=k.trans g1
 refine⟨λi m τ H2=>∃S2 M2 ρ2,Sim K ρ2 M2 H2/\Grow K ρ1 H1 ρ2 H2/\SRep K ρ2 H2 S2 τ/\i<=src.items.length/\m=src.items.length-i/\oz src.ok g tb F M1 (src.items.drop i) S2 M2,
  ⟨_,S,M1,ρ1,s1,.refl,sr.grow g1,AAW _,rfl,q1⟩,?_⟩
 rintro i m τ H2 ⟨S2,M2,ρ2,s2,g2,sr2,hi,rfl,q2⟩
 by_cases hlt:i<src.items.length
 ·have hx:src.items[i]?=some src.items[i]:=AA5 hlt
  rw[om hx]at q2
  obtain⟨ok,q3⟩:=(show src.ok M2/\g src.items[i] S2 M2 _ from q2)
  refine .inr ⟨it.go i ρ2 M2 H2 s2 g2 ok hlt,_,λτ' H' z=>z,λx H3 y=>?_⟩
  obtain⟨d,ρ3,hd,s3,g3,r3⟩:=it.yld i ρ2 M2 H2 x H3 s2 g2 ok hlt y
  have ed:d=src.items[i]:=AAN (hd.symm.trans hx)
  subst ed
  refine⟨_,S2,M2,ρ3,_,s3,sr2.grow g3,r3,q3,?_⟩
  rintro τ4 H4 ⟨S4,M4,ρ4,s4,g4,sr4,q4⟩
  have g14:=(g2.trans g3).trans g4
  refine⟨S4,M4,ρ4,_,s4,sr4,q4,?_⟩
  have again:∀τ5 H5,SQ K ρ4 H4 (Fgt M1 (oz src.ok g tb F M1 (src.items.drop (i+1)))) τ5 H5 ->
    ∃m',m' < src.items.length-i/\∃S2 M2 ρ2,Sim K ρ2 M2 H5/\Grow K ρ1 H1 ρ2 H5/\SRep K ρ2 H5 S2 τ5/\i+1<=src.items.length/\m'=src.items.length-(i+1)/\oz src.ok g tb F M1 (src.items.drop (i+1)) S2 M2:=λτ5 H5 z=>by
   obtain⟨S5,M5,ρ5,s5,g5,sr5,q5⟩:=SQ.fgt (ρ:=ρ1) (H:=H1) s1 (SQ.trans g14 z)
   exact⟨_,by lia,S5,M5,ρ5,s5,g5,sr5,hlt,rfl,q5⟩
  exact⟨again,λv H5 z=>k1.rt v H5 (VQ.trans g14 z),λτ5 H5 z=>k1.nx τ5 H5 (SQ.trans g14 z),again⟩
 ·have e:i=src.items.length:=by lia
  subst e
  rw[List.drop_of_length_le (AA8 _)]at q2
  obtain⟨ok,q3⟩:=(show src.ok M2/\F.nx S2 M2 from q2)
  exact .inl ⟨it.stop ρ2 M2 H2 s2 g2 ok,k1.nx τ H2 ⟨S2,M2,ρ2,s2,g2,sr2,q3⟩⟩
section
variable{X:Cx}
theorem EI(hi:DI X tg iter di)(hg:DG X tg g)(hb:DSs X body tb)(hp:PassesOwn (model X.prog X.w) X.A X.env X.xe:=by exact PassesOwn.never)(hc:X.calm=true:=by rfl)
  (hs:∀x,foldedSetIterable iter X.env x=pure x:=by intro _;rfl):DS X (.For tg iter body [] pos) (mn di g tb):=PS.imp (CD hp hc hi hg hb hs) xK
noncomputable def EO(nt:Nat)(js:List Nat)(S:SD):SD:=ADo nt none++js.map λj=>(S[j]?).join
def ka(ok:Mem->Prop)(g:DTG)(tt:DTT)(te:DTE)(Q:DK):List D->List D->SD->Mem->Prop
 | [],acc,S,M=>ok M/\Q (.ref M.length) (M++[.lst acc])
 | x::xs,acc,S,M=>ok M/\g x S M λS2 M2=>tt S2 M2 λb M3=>if b=true then te S2 M3 λy M4=>acc.length<sizeLine/\ka ok g tt te Q xs (acc++[y]) S2 M4 else ka ok g tt te Q xs acc S2 M3
def dLC(nt:Nat)(js:List Nat)(di:DTI)(g:DTG)(tt:DTT)(te:DTE):DTE:=λS M Q=>di S M λsrc M1=>ka src.ok g tt te Q src.items [] (EO nt js S) M1
theorem SRep.bst{K:AA3}{ρ:List Addr}{H:Hp}{S:SD}{σ:St}(r:SRep K ρ H S σ)(nt:Nat)(js:List Nat):SRep K ρ H (EO nt js S) (L2.bst nt js σ):=by
 refine⟨by simp[EO,wP],λi d e=>?_⟩
 unfold EO at e
 unfold L2.bst
 by_cases hi:i<nt
 ·rw[AAJ (by simpa using hi),ACW]at e
  simp[hi]at e
 ·rw[AAa (by simpa using ACw.mp hi),ACn,AAT]at e
  rw[AAa (by simpa using ACw.mp hi),ACn,AAT]
  cases q:js[i-nt]? with
  | none=>rw[q]at e;cases e
  | some j =>
   rw[q]at e
   have e':(S[j]?).join=some d:=by simpa using e
   cases q2:S[j]? with
   | none=>rw[q2]at e';cases e'
   | some o =>
    rw[q2]at e'
    have e2:o=some d:=e'
    subst e2
    obtain⟨v,hv,rv⟩:=r.get j d q2
    exact⟨v,by simp[hv],rv⟩
theorem vF{K:AA3}{nt:Nat}{js:List Nat}{di:DTI}{g:DTG}{tt:DTT}{te:DTE}(σ:St)(H:Hp)(R:VK)(h:lowE K (dLC nt js di g tt te) σ H R):tLC nt js (lowI K di) (lowG K g) (lowT K tt) (lowE K te) σ H R:=by
 obtain⟨S,M,ρ,Q,s,sr,q,k⟩:=h
 refine⟨S,M,ρ,_,s,sr,q,?_⟩
 rintro J H1 ⟨src,M1,ρ1,s1,g1,it,q1⟩
 refine⟨λi m vs τ H2=>∃S2 M2 ρ2 acc,Sim K ρ2 M2 H2/\Grow K ρ1 H1 ρ2 H2/\SRep K ρ2 H2 S2 τ/\Reps K ρ2 H2 acc vs/\i<=src.items.length/\m=src.items.length-i/\ka src.ok g tt te Q (src.items.drop i) acc S2 M2,
  ⟨_,_,M1,ρ1,[],s1,.refl,(sr.grow g1).bst nt js,.nil,AAW _,rfl,q1⟩,?_⟩
 rintro i m vs τ H2 ⟨S2,M2,ρ2,acc,s2,g2,sr2,ra,hi,rfl,q2⟩
 by_cases hlt:i<src.items.length
 ·have hx:src.items[i]?=some src.items[i]:=AA5 hlt
  rw[om hx]at q2
  obtain⟨ok,q3⟩:=(show src.ok M2/\g src.items[i] S2 M2 _ from q2)
  refine .inr ⟨it.go i ρ2 M2 H2 s2 g2 ok hlt,λx H3 y=>?_⟩
  obtain⟨d,ρ3,hd,s3,g3,r3⟩:=it.yld i ρ2 M2 H2 x H3 s2 g2 ok hlt y
  have ed:d=src.items[i]:=AAN (hd.symm.trans hx)
  subst ed
  refine⟨_,S2,M2,ρ3,_,s3,sr2.grow g3,r3,q3,?_⟩
  rintro τ4 H4 ⟨S4,M4,ρ4,s4,g4,sr4,q4⟩
  refine⟨S4,M4,ρ4,_,s4,sr4,q4,?_⟩
  rintro b H5 ⟨M5,ρ5,s5,g5,q5⟩
  have g15:=((g2.trans g3).trans g4).trans g5
  cases b with
  | false=>exact bF ⟨_,by lia,S4,M5,ρ5,acc,s5,g15,sr4.grow g5,ra.grow ((g3.trans g4).trans g5),hlt,rfl,(show ka src.ok g tt te Q (src.items.drop (i+1)) acc S4 M5 from q5)⟩
  | true =>
   refine bQ ⟨S4,M5,ρ5,_,s5,sr4.grow g5,(show te S4 M5 _ from q5),?_⟩
   rintro v H6 ⟨y',M6,ρ6,s6,g6,r6,hl,q6⟩
   have ra6:=ra.grow (((g3.trans g4).trans g5).trans g6)
   exact⟨by rw[<-ra.length];exact hl,_,by lia,S4,M6,ρ6,acc++[y'],s6,g15.trans g6,sr4.grow (g5.trans g6),ra6.append (.cons r6 .nil),hlt,rfl,q6⟩
 ·have e:i=src.items.length:=by lia
  subst e
  rw[List.drop_of_length_le (AA8 _)]at q2
  obtain⟨ok,q3⟩:=(show src.ok M2/\Q (.ref M2.length) (M2++[.lst acc])from q2)
  exact .inl ⟨it.stop ρ2 M2 H2 s2 g2 ok,λp hp=>k _ _ (VQ.laidL s2 (g1.trans g2) ra hp q3)⟩
theorem d_lc(B:BlkSc X N' nt js scope)(hi:DI X tg iter di)
  (hg:∀cl s0 H0 ex,DG (blk X N' scope cl s0 H0 ex) tg g) (ht:∀cl s0 H0 ex,PTs (blk X N' scope cl s0 H0 ex) ifs (lowT X.K tt)) (he:∀cl s0 H0 ex,DE (blk X N' scope cl s0 H0 ex) elt te) (hc:X.calm=true:=by rfl)
  (hs:∀x,foldedSetIterable iter X.env x=pure x:=by intro _;rfl):DE X (.ListComp elt [⟨tg,iter,ifs,0⟩] scope pos) (dLC nt js di g tt te):=PE.imp (pe_lc (g:=lowG X.K g) (tt:=lowT X.K tt) (te:=lowE X.K te) B hc hi (λcl s0 H0 ex=>hg cl s0 H0 ex) ht (λcl s0 H0 ex=>he cl s0 H0 ex) hs) vF
def wD:DTT:=λ_ M Q=>Q true M
theorem Bk:PTs X [] (lowT X.K wD):=λpins s σ H R I ⟨S,M,ρ,Q,sm,sr,q,k⟩=>zN pins s σ H R I (k true H ⟨M,ρ,sm,.refl,q⟩)
theorem Bj(h:DT X c t):PTs X [c] (lowT X.K t):=zM h
end
def Chg(M M1:Mem):Prop:=M1.length=M.length/\∀(i:Nat) (mo:MO),M1[i]?=some mo->M[i]?=some mo\/Bels M.length mo.items
theorem Chg.refl:Chg M M:=⟨rfl,λ_ _ h=>.inl h⟩
theorem Chg.set(c:Chg M M1)(b:Bels M.length mo.items):Chg M (M1.set n mo):=by
 refine⟨by rw[AAu];exact c.1,λi mo' h=>?_⟩
 by_cases e:n=i
 ·subst e
  by_cases hl:n<M1.length
  ·rw[AAV hl]at h
   cases h
   exact .inr b
  ·rw[ABB (by rw[AAu];lia)]at h
   cases h
 ·rw[AAb e]at h
  exact c.2 i mo' h
def aX(M:Mem)(R:DK):DK:=λd M'=>R d M'\/(∃M1,Chg M M1/\Bel M.length d/\M1 <+: M'/\R d M1)\/∃M1 n xs,Chg M M1/\d=.ref n/\M.length<=n/\M'[n]?=some (.lst xs)/\M1 <+: M'/\Bels M.length xs/\R (.ref M.length) (M1++[.lst xs])
theorem bh{α:Type}{l l':List α}(h:l <+: l'):l'.take l.length=l:=by
 obtain⟨t,rfl⟩:=h
 rw[List.take_append_of_le_length (AA8 _),ACB]
theorem VQ.endq{K:AA3}{ρ:List Addr}{M:Mem}{H:Hp}{R:DK}{v:V}{H':Hp}(s:Sim K ρ M H)(h:VQ K ρ H (aX M R) v H'):VQ K ρ H R v H':=by
 obtain⟨d,M',ρ',s',g',r',q'⟩:=h
 have hρ:ρ'.take M.length=ρ:=by rw[<-s.len];exact bh g'.pre
 rcases q' with q | ⟨M1,c,b,pre,q⟩|⟨M1,n,xs,c,rfl,hnM,e,pre,b,q⟩
 ·exact⟨d,M',ρ',s',g',r',q⟩
 ·have sc:=s'.cut M.length λn mo hn e=>by
   have e':M1[n]?=some mo:=by
    obtain⟨t,rfl⟩:=pre
    rw[AAJ (by rw[c.1];exact hn)]at e
    exact e
   exact(c.2 n mo e').elim (λz=>s.bels z) id
  have tk:M'.take M.length=M1:=by rw[<-c.1];exact bh pre
  rw[hρ,tk]at sc
  have rc:=r'.cut b
  rw[hρ]at rc
  exact⟨d,M1,ρ,sc,⟨ACO,g'.tup⟩,rc,q⟩
 ·have sc:=s'.cut M.length λn mo hn e=>by
   have e':M1[n]?=some mo:=by
    obtain⟨t,rfl⟩:=pre
    rw[AAJ (by rw[c.1];exact hn)]at e
    exact e
   exact(c.2 n mo e').elim (λz=>s.bels z) id
  have tk:M'.take M.length=M1:=by rw[<-c.1];exact bh pre
  rw[hρ,tk]at sc
  obtain⟨a,rfl,hn⟩:=Rep.inv_ref r'
  obtain⟨vs,hH,rr⟩:=s'.obj n a _ hn e
  have rc:=rr.cut b
  rw[hρ]at rc
  have g2:Grow K ρ H' (ρ++[a]) H':=⟨AAY _ _,λ_ _ h=>h⟩
  have old:∀(m:Nat),ρ[m]?=some a->isK M1[m]?:=λm em=>by
   have hm:m≠n:=λz=>by
    have:m<M.length:=by rw[<-s.len];exact(AA7.mp em).1
    lia
   have q:=s'.nd m n a hm (ar g'.pre em) hn
   have hlt:m<M.length:=by rw[<-s.len];exact(AA7.mp em).1
   rcases q with⟨ds,z⟩|⟨ds,z⟩
   ·refine⟨ds,?_⟩
    have hlt1:m<M1.length:=by rw[c.1];exact hlt
    have:=ar pre (AA5 hlt1)
    rw[z]at this
    rw[AA5 hlt1]
    exact this.symm
   ·rw[e]at z;cases z
  refine⟨.ref M.length,M1++[.lst xs],ρ++[a],⟨λn1 m1 a1 hne e1 e2=>?_,by rw[AAE,AAE,sc.len];rfl,λn1 a1 mo e1 e2=>?_⟩,⟨AAY _ _,g'.tup⟩,.ref (by have:=sc.last (p:=a);rw[c.1]at this;exact this),q⟩
  ·rcases aJ e1 with f1 | ⟨f1,w1⟩
   ·rcases aJ e2 with f2 | ⟨f2,w2⟩
    ·exact(sc.nd n1 m1 a1 hne f1 f2).elim (λz=>.inl z.more) λz=>.inr z.more
    ·subst w2
     exact .inl (old n1 f1).more
   ·rcases aJ e2 with f2 | ⟨f2,w2⟩
    ·subst w1
     exact .inr (old m1 f2).more
    ·exact absurd (f1.trans f2.symm) hne
  ·rcases aJ e1 with f1 | ⟨f1,w1⟩
   ·have hn1:n1<M1.length:=by rw[<-sc.len];exact(AA7.mp f1).1
    rw[AAJ hn1]at e2
    exact(sc.obj n1 a1 mo f1 e2).grow g2 (.inl rfl)
   ·subst w1 f1
    rw[sc.len,AAa (AA8 _),ACo]at e2
    simp at e2
    subst e2
    exact⟨vs,hH,rc.grow g2⟩
noncomputable def bv(N:List Str)(ds:List D):SD:=ds.map some++ADo (N.length-ds.length) none
theorem SRep.start{K:AA3}{ρ:List Addr}{H:Hp}{ds:List D}{vs:List V}(r:Reps K ρ H ds vs)(N:List Str):SRep K ρ H (bv N ds) (L2.start N vs):=by
 refine⟨by simp[bv,L2.start,r.length],λi d e=>?_⟩
 unfold bv at e
 unfold L2.start
 by_cases hi:i<ds.length
 ·rw[AAJ (by simpa using hi),AAT]at e
  rw[AAJ (by simpa [<-r.length]using hi),AAT]
  have e':ds[i]?=some d:=by
   rw[AA5 hi]at e ⊢
   simpa using e
  obtain⟨v,hv,rv⟩:=r.get e'
  exact⟨v,by rw[hv];rfl,rv⟩
 ·rw[AAa (by simpa using ACw.mp hi),ACW]at e
  split at e<;>cases e
theorem d_fn{P:Program}{w:World}{K:AA3}{mg:Str->Option Value}{base:Heap}{x qual:Str}{st:Stmt}{f:Addr}{fd:FuncData}{N ps:List Str}{k:Nat}(Pr:DSp)(F:Fun K x qual st f fd)(Sc:FnScope N ps (ak st))
  (len:∀ds M R,Pr ds M R->ds.length=ps.length)
  (hbody:∀(cdv:Value) (A:Around) (outer:List Env) (s:Shared) (H:Hp) (E:XK),Room k (A.deeper (envOfC qual (ak st) s.heap.objs.size f cdv)) ->
   ∃t,DSs (jL CX0 P w K mg base N qual (ak st) f cdv A outer s H E).nox (bg st) t/\∀ds M R,Pr ds M R->t ⟨λ_ M'=>aX M R .non M',aX M R,λ_ _=>False,λ_ _=>False⟩ (bv N ds) M) :
  FnOk P w K mg base CX0 (k+1) f fd ps (spL K Pr):=by
 refine F.ok Sc (λvs H Q E ⟨ds,M,ρ,R,s,r,q,_⟩=>by rw[<-r.length];exact len ds M R q) λcdv A outer s H vs Q E hr h=>?_
 obtain⟨ds,M,ρ,R,sm,r,q,kk⟩:=h
 obtain⟨t,ht,hq⟩:=hbody cdv A outer s H E hr
 refine⟨lowS K t,ht,bv N ds,M,ρ,_,sm,SRep.start r N,hq ds M R q,⟨λσ' H' ⟨S',M',ρ',s',g',sr',q'⟩=>?_,λv H' z=>kk v H' (VQ.endq sm z),λσ' H' ⟨S',M',ρ',s',g',sr',q'⟩=>q'.elim,λσ' H' ⟨S',M',ρ',s',g',sr',q'⟩=>q'.elim⟩⟩
 exact kk .non H' (VQ.endq sm ⟨.non,M',ρ',s',g',.non,q'⟩)
end
section
variable{X:Cx}
theorem dfin(I:Inv X pins σ H s)(sm:Sim X.K ρ M H)(k:∀v H',VQ X.K ρ H Q v H'->R v H')(hv:cV d=some v)(rel:aI v u)(q:Q d M):EP X pins σ R u s :=
 ⟨v,H,I,rel,k v H (VQ.now sm (wN hv) q)⟩
theorem dO(I:Inv X pins σ H s)(sm:Sim X.K ρ M H)(k:∀v H',VQ X.K ρ H Q v H'->R v H')(q:Q (.bl b) M):EP X pins σ R (.bool b) s :=
 ⟨.bl b,H,I,rfl,k _ H (VQ.now sm (.bl b) q)⟩
def qAdd:DR2:=λx y M Q=>match x,y with
 | .int i,.int j=>Q (.int (i+j)) M
 | .str a,.str b=>a.length+b.length<=sizeLine/\Q (.str (a++b)) M
 | .ref n,.ref m=>∃xs ys,M[n]?=some (.lst xs)/\M[m]?=some (.lst ys)/\xs.length+ys.length<=sizeLine/\Q (.ref M.length) (M++[.lst (xs++ys)])
 | _,_=>False
theorem Dk:OpD X (binaryOp .Add) qAdd:=by
 refine OpR.imp (Db.or (sD.or Da)) ?_
 rintro vx vy H R ⟨x,y,M,ρ,Q,sm,r1,r2,q,k⟩
 unfold qAdd at q
 split at q
 ·cases r1
  cases r2
  exact .inl ⟨_,_,rfl,rfl,k _ H (VQ.now sm (.int _) q)⟩
 ·cases r1
  cases r2
  exact .inr (.inl ⟨_,_,rfl,rfl,q.1,k _ H (VQ.now sm (.str _) q.2)⟩)
 ·obtain⟨xs,ys,e1,e2,hl,q⟩:=q
  obtain⟨_,rfl,h1⟩:=Rep.inv_ref r1
  obtain⟨_,rfl,h2⟩:=Rep.inv_ref r2
  obtain⟨vs,f1,g1⟩:=sm.obj _ _ _ h1 e1
  obtain⟨ws,f2,g2⟩:=sm.obj _ _ _ h2 e2
  exact .inr (.inr ⟨_,_,vs,ws,rfl,rfl,f1,f2,by rw[<-g1.length,<-g2.length];exact hl,λp hp=>k _ _ (VQ.laidL sm .refl (g1.append g2) hp q)⟩)
 ·exact q.elim
def Cu:DR2:=λx y M Q=>match x,y with
 | .int i,.int j=>Q (.int (i-j)) M
 | _,_=>False
theorem Df:OpD X (binaryOp .Sub) Cu:=by
 refine OpR.imp CU ?_
 rintro vx vy H R ⟨x,y,M,ρ,Q,sm,r1,r2,q,k⟩
 unfold Cu at q
 split at q
 ·cases r1
  cases r2
  exact⟨_,_,rfl,rfl,k _ H (VQ.now sm (.int _) q)⟩
 ·exact q.elim
def BI(i j:Int):Prop:=0<j/\j<340282366920938463463374607431768211456
theorem xB:OpR X (binaryOp .FloorDiv) (rI BI λi j=>.int (i / j)):=opI λi j _ _ _ _ _ hc q=>by
 have h1:(0:Int)<j:=hc.1
 have h2:j<340282366920938463463374607431768211456:=hc.2
 have h3:j.natAbs.log2<128:=(Nat.log2_lt (by lia)).mpr (by rw[show (2:Nat) ^ 128=340282366920938463463374607431768211456 by decide];lia)
 exact floordiv_int (by lia) (by rw[Int.fdiv_eq_ediv_of_nonneg i (by lia)];exact q) (.inl (PyProof.noPylong_of_log2 (by lia)))
def ph:DR2:=λx y M Q=>match x,y with
 | .int i,.int j=>BI i j/\Q (.int (i / j)) M
 | _,_=>False
theorem Ak:OpD X (binaryOp .FloorDiv) ph:=by
 refine OpR.imp xB ?_
 rintro vx vy H R ⟨x,y,M,ρ,Q,sm,r1,r2,q,k⟩
 unfold ph at q
 split at q
 ·cases r1
  cases r2
  exact⟨_,_,rfl,rfl,q.1,k _ H (VQ.now sm (.int _) q.2)⟩
 ·exact q.elim
def uP:DR2:=λx y M Q=>match x,y with
 | .int i,.int j=>0<j/\Q (.int (i % j)) M
 | _,_=>False
theorem Di:OpD X (binaryOp .Mod) uP:=by
 refine OpR.imp CZ ?_
 rintro vx vy H R ⟨x,y,M,ρ,Q,sm,r1,r2,q,k⟩
 unfold uP at q
 split at q
 ·cases r1
  cases r2
  exact⟨_,_,rfl,rfl,q.1,k _ H (VQ.now sm (.int _) q.2)⟩
 ·exact q.elim
noncomputable def lC(a b:Str):Bool:=decide (a.cps.toList<b.cps.toList)
def qLt:DR2:=λx y M Q=>match x,y with
 | .int i,.int j=>Q (.bl (decide (i<j))) M
 | .str a,.str b=>Q (.bl (lC a b)) M
 | _,_=>False
def qLe:DR2:=λx y M Q=>match x,y with
 | .int i,.int j=>Q (.bl (decide (i<=j))) M
 | .str a,.str b=>Q (.bl (!lC b a)) M
 | _,_=>False
def qGt:DR2:=λx y M Q=>match x,y with
 | .int i,.int j=>Q (.bl (decide (j<i))) M
 | .str a,.str b=>Q (.bl (lC b a)) M
 | _,_=>False
def qGe:DR2:=λx y M Q=>match x,y with
 | .int i,.int j=>Q (.bl (decide (j<=i))) M
 | .str a,.str b=>Q (.bl (!lC a b)) M
 | _,_=>False
theorem od_lt:OpD X (compareOp .Lt) qLt:=by
 rintro pins s σ H vx vy v u R I rx ry ⟨x,y,M,ρ,Q,sm,r1,r2,q,k⟩
 unfold qLt at q
 split at q
 ·cases r1
  cases r2
  exact op_lt pins s σ H _ _ v u R I rx ry ⟨_,_,rfl,rfl,k _ H (VQ.now sm (.bl _) q)⟩
 ·cases r1
  cases r2
  obtain⟨t,rfl⟩:=rx
  obtain⟨t',rfl⟩:=ry
  exact PySem.P.lt_str (dO I sm k q)
 ·exact q.elim
theorem od_le:OpD X (compareOp .LtE) qLe:=by
 rintro pins s σ H vx vy v u R I rx ry ⟨x,y,M,ρ,Q,sm,r1,r2,q,k⟩
 unfold qLe at q
 split at q
 ·cases r1
  cases r2
  exact op_le pins s σ H _ _ v u R I rx ry ⟨_,_,rfl,rfl,k _ H (VQ.now sm (.bl _) q)⟩
 ·cases r1
  cases r2
  obtain⟨t,rfl⟩:=rx
  obtain⟨t',rfl⟩:=ry
  exact PySem.P.le_str (dO I sm k q)
 ·exact q.elim
theorem od_gt:OpD X (compareOp .Gt) qGt:=by
 rintro pins s σ H vx vy v u R I rx ry ⟨x,y,M,ρ,Q,sm,r1,r2,q,k⟩
 unfold qGt at q
 split at q
 ·cases r1
  cases r2
  exact op_gt pins s σ H _ _ v u R I rx ry ⟨_,_,rfl,rfl,k _ H (VQ.now sm (.bl _) q)⟩
 ·cases r1
  cases r2
  obtain⟨t,rfl⟩:=rx
  obtain⟨t',rfl⟩:=ry
  exact PySem.P.gt_str (dO I sm k q)
 ·exact q.elim
theorem od_ge:OpD X (compareOp .GtE) qGe:=by
 rintro pins s σ H vx vy v u R I rx ry ⟨x,y,M,ρ,Q,sm,r1,r2,q,k⟩
 unfold qGe at q
 split at q
 ·cases r1
  cases r2
  exact op_ge pins s σ H _ _ v u R I rx ry ⟨_,_,rfl,rfl,k _ H (VQ.now sm (.bl _) q)⟩
 ·cases r1
  cases r2
  obtain⟨t,rfl⟩:=rx
  obtain⟨t',rfl⟩:=ry
  exact PySem.P.ge_str (dO I sm k q)
 ·exact q.elim
def qIs:DR2:=λx y M Q=>match x,y with
 | .bl a,.bl b=>Q (.bl (a==b)) M
 | .non,.non=>Q (.bl true) M
 | _,.non=>Q (.bl false) M
 | _,_=>False
theorem zF{K:AA3}{ρ:List Addr}{H:Hp}{x:D}{v:V}(r:Rep K ρ H x v)(h:x≠.non):v≠.non:=by
 cases r<;>first | exact absurd rfl h | (intro z;cases z)
theorem od_is:OpD X (compareOp .Is) qIs:=by
 rintro pins s σ H vx vy v u R I rx ry ⟨x,y,M,ρ,Q,sm,r1,r2,q,k⟩
 unfold qIs at q
 split at q
 ·cases r1
  cases r2
  cases rx
  cases ry
  exact is_bool (dO I sm k q)
 ·cases r1
  cases r2
  cases rx
  cases ry
  exact is_none_gen (dfin (d:=.bl true) I sm k rfl rfl q)
 ·rename_i h1 h2
  cases r2
  cases ry
  refine is_none_gen (dfin (d:=.bl false) I sm k rfl ?_ q)
  have:=zF r1 λz=>by subst z;exact h2 rfl
  rw[rx.none_iff,dF_ this]
  rfl
 ·exact q.elim
noncomputable def tyD(M:Mem):D->String
 | .non=>"NoneType"
 | .bl _=>"bool"
 | .int _=>"int"
 | .str _=>"str"
 | .ty _=>"type"
 | .tup _=>"tuple"
 | .ref n=>match M[n]? with
  | some mo=>if mo.isL=true then "list" else "?"
  | none=>"?"
noncomputable def zf(t T:String):Bool:=t==T||(t == "bool" && T == "int")
noncomputable def oP:List String:=["NoneType","bool","int","str","list","tuple"]
noncomputable def Cb:List String:=["bool","int","str","list","tuple"]
theorem AF(K:AA3)(ht:t∈oP)(hT:T∈Cb):AB9 K (.type t) (.type T)=some (zf t T):=by
 simp only[oP,Cb,AAM,ADF,or_false]at ht hT
 rcases ht with rfl | rfl | rfl | rfl | rfl | rfl<;>rcases hT with rfl | rfl | rfl | rfl | rfl<;>kernel_rfl
theorem ze(I:Inv X pins σ H s)(sm:Sim X.K ρ M H)(r:Rep X.K ρ H d v)(rv:aI v u)(hd:tyD M d∈oP)
  (step:∀(Hx:Heap->Prop),PySem.W.KitX X.K u (.type (tyD M d)) Hx->Hx s.heap->u≠.builtin "__main__.__loader__#opaque"->wpAny (model X.prog X.w) X.A (call (.builtin "isinstance") [u,c]) Q X.xe s):wpAny (model X.prog X.w) X.A (call (.builtin "isinstance") [u,c]) Q X.xe s:=by
 cases r with
 | non=>cases rv;exact step _ PySem.W.kitx_none AEL (λz=>nomatch z)
 | bl y=>cases rv;exact step _ PySem.W.kitx_bool AEL (λz=>nomatch z)
 | int i=>obtain⟨t,rfl⟩:=rv;exact step _ PySem.W.kitx_int AEL (λz=>nomatch z)
 | str i=>obtain⟨t,rfl⟩:=rv;exact step _ PySem.W.kitx_str AEL (λz=>nomatch z)
 | ty n=>exact absurd hd (by simp only[tyD];decide)
 | tup h rr =>
  cases rv
  obtain⟨its,_,⟨o,h1,h2,_⟩,_⟩:=I.tuple h
  exact step _ PySem.W.kitx_tuple ⟨o,h1,h2⟩ (λz=>nomatch z)
 | @ref n a e =>
  cases rv
  have hn:n<M.length:=by rw[<-sm.len];exact(AA7.mp e).1
  have hm:M[n]?=some M[n]:=AA5 hn
  have hd':(match M[n]? with | some mo=>if mo.isL=true then "list" else "?" | none=>"?")∈oP:=hd
  rw[hm]at hd'
  have hil:M[n].isL=true:=by
   cases q:M[n].isL with
   | true=>rfl
   | false =>
    simp only[q,AAA,if_false]at hd'
    exact absurd hd' (by decide)
  have hL:ao M n M[n].items:=by
   cases q:M[n] with
   | lst xs=>exact .inl (by rw[hm,q];rfl)
   | fz xs=>exact .inr (.inl (by rw[hm,q];rfl))
   | kl xs=>exact .inr (.inr (by rw[hm,q];rfl))
   | dct xs=>rw[q]at hil;cases hil
   | dkt xs=>rw[q]at hil;cases hil
   | dkq xs=>rw[q]at hil;cases hil
   | fdc o xs=>rw[q]at hil;cases hil
   | dkm xs=>rw[q]at hil;cases hil
   | tb x b=>rw[q]at hil;cases hil
   | exc x=>rw[q]at hil;cases hil
  obtain⟨vs,hq,_⟩:=ao.seq sm hL e
  obtain⟨its,_,⟨o,n',h1,h2,_⟩,_⟩:=I.list hq
  have ht:tyD M (.ref n) = "list":=by
   show (match M[n]? with | some mo=>if mo.isL=true then "list" else "?" | none=>"?") = "list"
   rw[hm]
   exact if_pos hil
  rw[ht]at step
  exact step _ PySem.W.kitx_list ⟨o,h1,h2⟩ (λz=>nomatch z)
def yP:DRA:=λds M Q=>match ds with
 | [d,.ty T]=>(tyD M d∈oP/\T∈Cb)/\Q (.bl (zf (tyD M d) T)) M
 | [d,.tup [.ty T,.ty T']]=>(tyD M d∈oP/\T∈Cb/\T'∈Cb)/\Q (.bl (zf (tyD M d) T||zf (tyD M d) T')) M
 | _=>False
theorem EZ:my X (.builtin "isinstance") yP:=by
 rintro pins s σ H vs us R I rv ⟨ds,M,ρ,Q,sm,rs,q,k⟩
 unfold yP at q
 split at q
 ·rename_i d T
  obtain⟨⟨h1,h2⟩,q⟩:=q
  first | have hzz:=Reps.inv_cons rs | have hzz:=au.inv_cons rs
  clear rs
  obtain⟨_,_,rfl,r1,rs⟩:=hzz
  first | have hzz:=Reps.inv_cons rs | have hzz:=au.inv_cons rs
  clear rs
  obtain⟨_,_,rfl,r2,rs⟩:=hzz
  cases rs
  cases r2
  obtain⟨u,u',rfl,e1,e2⟩:=au.two rv
  cases e2
  refine ze I sm r1 e1 h1 λHx Z p hx=>?_
  exact PySem.W.kia_one Z I.kIn p (AF X.K h1 h2) hx λtk=>dO (I.tok tk) sm k q
 ·rename_i d T T'
  obtain⟨⟨h1,h2,h3⟩,q⟩:=q
  first | have hzz:=Reps.inv_cons rs | have hzz:=au.inv_cons rs
  clear rs
  obtain⟨_,_,rfl,r1,rs⟩:=hzz
  first | have hzz:=Reps.inv_cons rs | have hzz:=au.inv_cons rs
  clear rs
  obtain⟨_,_,rfl,r2,rs⟩:=hzz
  cases rs
  obtain⟨u,u',rfl,e1,e2⟩:=au.two rv
  obtain⟨a,ws,rfl,hq,rt⟩:=Rep.inv_tup r2
  cases e2
  obtain⟨its,rr,⟨o,g1,g2,n,g3⟩,_⟩:=I.tuple hq
  first | have hzz:=Reps.inv_cons rt | have hzz:=au.inv_cons rt
  clear rt
  obtain⟨_,_,rfl,t1,rt⟩:=hzz
  first | have hzz:=Reps.inv_cons rt | have hzz:=au.inv_cons rt
  clear rt
  obtain⟨_,_,rfl,t2,rt⟩:=hzz
  cases rt
  cases t1
  cases t2
  obtain⟨w1,w2,rfl,f1,f2⟩:=au.two rr
  cases f1
  cases f2
  obtain⟨oc,od,odt,osl⟩:=o
  cases g2
  cases g3
  refine ze I sm r1 e1 h1 λHx Z p hx=>?_
  refine PySem.W.kia_tup Z I.kIn p g1 (b:=zf (tyD M d) T||zf (tyD M d) T') ?_ hx λtk=>dO (I.tok tk) sm k q
  show (match AB9 X.K (.type (tyD M d)) (.type T)with | some true=>some true | some false=>PySem.W.kitAny X.K (.type (tyD M d)) [.type T'] | none=>none)=_
  rw[AF X.K h1 h2]
  cases zf (tyD M d) T with
  | true=>rfl
  | false =>
   show (match AB9 X.K (.type (tyD M d)) (.type T')with | some true=>some true | some false=>some false | none=>none)=_
   rw[AF X.K h1 h3]
   cases zf (tyD M d) T'<;>rfl
 ·exact q.elim
def mB:DRA:=λds M Q=>match ds with
 | [.str x]=>x.length<=sizeLine/\Q (.int x.length) M
 | [.tup xs]=>Q (.int xs.length) M
 | [.ref n]=>∃xs,ao M n xs/\Q (.int xs.length) M
 | _=>False
theorem EY:my X (.builtin "len") mB:=by
 refine eM.imp (oF.or oE) ?_
 rintro vs H R ⟨ds,M,ρ,Q,sm,rs,q,k⟩
 unfold mB at q
 split at q
 ·first | have hzz:=Reps.inv_cons rs | have hzz:=au.inv_cons rs
  clear rs
  obtain⟨_,_,rfl,r1,rs⟩:=hzz
  cases rs
  cases r1
  exact .inr ⟨_,rfl,q.1,k _ H (VQ.now sm (.int _) q.2)⟩
 ·first | have hzz:=Reps.inv_cons rs | have hzz:=au.inv_cons rs
  clear rs
  obtain⟨_,_,rfl,r1,rs⟩:=hzz
  cases rs
  cases r1 with
  | tup h r=>exact .inl ⟨_,_,rfl,.inr h,k _ H (VQ.now sm (by rw[<-r.length];exact .int _) q)⟩
 ·obtain⟨xs,hL,q⟩:=q
  first | have hzz:=Reps.inv_cons rs | have hzz:=au.inv_cons rs
  clear rs
  obtain⟨_,_,rfl,r1,rs⟩:=hzz
  cases rs
  obtain⟨_,rfl,e⟩:=Rep.inv_ref r1
  obtain⟨ws,hq,r⟩:=ao.seq sm hL e
  exact .inl ⟨_,_,rfl,.inl hq,k _ H (VQ.now sm (by rw[<-r.length];exact .int _) q)⟩
 ·exact q.elim
end
end L2
namespace L2
open PySem PySem.Spec PyProof.Rows DL _root_.HT
section
variable{prog:Program}{w:World}{A:Around}{E:Value->Shared->Prop}{s:Shared}
theorem me{t sl:Addr}{items:Array Value}{vl vu:Value}{lo hi:Option Int}{Q:Value->Shared->Prop}(ht:IsTup s.heap t items)(hs:s.heap.IsSliceOf sl vl vu .none)(pl:IsPart vl lo)(pu:IsPart vu hi)
  (hw:sIx items.size 0 lo=0/\sIx items.size items.size hi=items.size) (h:Q (.ref t) s):wpAny (model prog w) A (getItem (.ref t) (.ref sl)) Q E s:=by
 obtain⟨os,hos,hcs,hds⟩:=id hs
 have hTs:s.TypeIs (.ref sl) "slice":=⟨os,hos,hcs⟩
 unfold getItem
 try with_reducible refine AAd ?_
 first | refine AA0 (AA2 ?_) | skip
 refine AA0 (wpAny_sequenceKey ht.typeIs (by decide) (AA0 (AAt (name:=AA1 "__getitem__") ht.typeIs AB5 (AAj AB5 ht.typeIs entry_tuple_getitem ?_ (args_tuple_getitem _ _)))))
 refine(show wpAny (model prog w) _ (ACA (.ref t) >>= _) _ _ s from AA0 (tupleItemsOf_ ht (AA0 (ACV hTs ?_))))
 rw[if_pos (by decide)]
 refine AA0 (dn hs pl pu ?_)
 refine(show wpAny (model prog w) _ (if (((sIx items.size 0 lo:Nat):Int)==0&&(1:Int)==1&&(sIx items.size items.size hi-sIx items.size 0 lo)==items.size)=true then _ else _) _ _ s from ?_)
 rw[if_pos (by rw[hw.1,hw.2];simp)]
 unfold Builtin.Tuple.tupleIsExact
 refine AA0 (AA0 (ACV ht.typeIs (AA2 ?_)))
 rw[if_pos (by decide)]
 exact AA0 (ACx (AA2 ⟨_,rfl,AA2 h⟩))
end
end L2
namespace L2
open PySem PySem.Spec PyProof.Rows DL
section
variable{X:Cx}{a b:Expr}{ta tb:DTE}{pos:Pos}
theorem IxR.imp(h:IxR X r')(i:∀x y H R,r x y H R->r' x y H R):IxR X r:=λvalue slice pins s σ H x y v u R I rx ry q hs=>h value slice pins s σ H x y v u R I rx ry (i x y H R q) hs
theorem Reps.atI{K:AA3}{ρ:List Addr}{H:Hp}{ds:List D}{vs:List V}{i:Int}{d:D}(r:Reps K ρ H ds vs)(h:L2.atI ds i=some d):∃v,L2.atI vs i=some v/\Rep K ρ H d v:=by
 unfold L2.atI at h ⊢
 rw[r.length]at h
 cases e:ixN vs.length i with
 | none=>rw[e]at h;cases h
 | some j =>
  rw[e]at h
  obtain⟨v,hv,rv⟩:=r.get (show ds[j]?=some d from h)
  exact⟨v,hv,rv⟩
def qIx:DR2:=λx y M Q=>match x,y with
 | .tup xs,.int i=>match L2.atI xs i with
  | some d=>Q d M
  | none=>False
 | .str z,.int i=>z.length<=sizeLine/\match L2.atI z.cps.toList i with
  | some c=>Q (.str ⟨#[c]⟩) M
  | none=>False
 | .ref n,.int i=>∃xs,ao M n xs/\match L2.atI xs i with
  | some d=>Q d M
  | none=>False
 | _,_=>False
theorem AO:IxR X (lowR X.K qIx):=by
 refine IxR.imp Ed ?_
 rintro vx vy H R ⟨x,y,M,ρ,Q,sm,r1,r2,q,k⟩
 unfold qIx at q
 split at q
 ·rename_i xs i
  split at q
  ·rename_i d e
   cases r2
   obtain⟨_,_,rfl,h,r⟩:=Rep.inv_tup r1
   obtain⟨v,hv,rv⟩:=r.atI e
   exact .inr (.inl ⟨_,_,_,v,rfl,rfl,h,hv,k _ H (VQ.now sm rv q)⟩)
  ·exact q.elim
 ·rename_i z i
  obtain⟨hz,q⟩:=q
  split at q
  ·rename_i c e
   cases r2
   cases r1
   exact .inr (.inr ⟨z,i,c,rfl,rfl,hz,e,k _ H (VQ.now sm (.str _) q)⟩)
  ·exact q.elim
 ·rename_i n i
  obtain⟨xs,hL,q⟩:=q
  split at q
  ·rename_i d e
   cases r2
   obtain⟨_,rfl,hn⟩:=Rep.inv_ref r1
   obtain⟨vs,hq,r⟩:=ao.seq sm hL hn
   obtain⟨v,hv,rv⟩:=r.atI e
   exact .inl ⟨_,_,_,v,rfl,rfl,hq,hv,k _ H (VQ.now sm rv q)⟩
  ·exact q.elim
 ·exact q.elim
theorem d_ix(ha:DE X a ta)(hb:DE X b tb)(hs:qo b:=by intro _ _;rfl):DE X (.Subscript a b pos) (dOp qIx ta tb):=PE.imp (pe_ix AO ha hb hs) lX
abbrev DTO:=SD->Mem->(Option Int->Mem->Prop)->Prop
def Dq(K:AA3)(t:DTO):TO:=λσ H R=>∃S M ρ Q,Sim K ρ M H/\SRep K ρ H S σ/\t S M Q/\∀o H',(∃M' ρ',Sim K ρ' M' H'/\Grow K ρ H ρ' H'/\Q o M')->R o H'
def dP:DTO:=λ_ M Q=>Q none M
def jZ(t:DTE):DTO:=λS M Q=>t S M λx M1=>match x with
 | .int i=>Q (some i) M1
 | _=>False
theorem PO.imp(h:PO X e t')(i:∀σ H R,t σ H R->t' σ H R):PO X e t:=λpins s σ H R I q=>h pins s σ H R I (i σ H R q)
theorem Bp:PO X none (Dq X.K dP):=by
 refine PO.imp zT ?_
 rintro σ H R ⟨S,M,ρ,Q,s,sr,q,k⟩
 exact k none H ⟨M,ρ,s,.refl,q⟩
theorem Bo(h:DE X e te):PO X (some e) (Dq X.K (jZ te)):=by
 refine PO.imp (zS h) ?_
 rintro σ H R ⟨S,M,ρ,Q,s,sr,q,k⟩
 refine⟨S,M,ρ,_,s,sr,q,?_⟩
 rintro v H1 ⟨d,M1,ρ1,s1,g1,r1,q1⟩
 cases r1 with
 | int i=>exact⟨i,rfl,k _ H1 ⟨M1,ρ1,s1,g1,q1⟩⟩
 | _=>exact q1.elim
theorem Cp:SlR X (λx lo hi H Q=>∃z,x=.str z/\z.length<=sizeLine/\Q (.str (AE2 z lo hi)) H):=by
 intro pins s σ H x v vl vu lo hi sl Q I rx hs pl pu h
 obtain⟨z,rfl,hz,q⟩:=h
 obtain⟨t,rfl⟩:=rx
 have part:∀{v:Value}{o:Option Int},IsPart v o->∃p:Option (Int×Tok),v=partValue p/\p.map (·.1)=o:=λh=>by
  cases h with
  | none=>exact⟨none,rfl,rfl⟩
  | int i t=>exact⟨some (i,t),rfl,rfl⟩
 obtain⟨p1,rfl,e1⟩:=part pl
 obtain⟨p2,rfl,e2⟩:=part pu
 subst e1 e2
 refine⟨"str",_,slot_str_getitem.lookup,typeIs_str _ _ _,wpAny_getItem_str_slice (l:=p1) (u:=p2) (st:=none) hs rfl ?_⟩
 exact post_val_or_str ⟨AB0 (Txt.slice_le z _ _) hz,λt' k=>⟨.str _,H,I.tok k,⟨t',rfl⟩,q⟩⟩
noncomputable def cutD(xs:List D)(lo hi:Option Int):List D:=(xs.drop (HT.sIx xs.length 0 lo)).take (HT.sIx xs.length xs.length hi-HT.sIx xs.length 0 lo)
theorem Reps.cutD{K:AA3}{ρ:List Addr}{H:Hp}{ds:List D}{vs:List V}(r:Reps K ρ H ds vs)(lo hi:Option Int):Reps K ρ H (L2.cutD ds lo hi) (zh vs lo hi):=by
 unfold L2.cutD zh
 rw[r.length]
 exact(r.drop _).take _
def qSl:D->Option Int->Option Int->Mem->DK->Prop:=λx lo hi M Q=>match x with
 | .str z=>z.length<=sizeLine/\Q (.str (AE2 z lo hi)) M
 | .ref n=>∃xs,ao M n xs/\Q (.ref M.length) (M++[.lst (cutD xs lo hi)])
 | .tup xs=>Q (.tup (cutD xs lo hi)) M
 | _=>False
def lowSl(K:AA3)(r:D->Option Int->Option Int->Mem->DK->Prop):V->Option Int->Option Int->Hp->VK->Prop:=λvx lo hi H R=>∃x M ρ Q,Sim K ρ M H/\Rep K ρ H x vx/\r x lo hi M Q/\∀v H',VQ K ρ H Q v H'->R v H'
theorem sld:SlR X (lowSl X.K qSl):=by
 rintro pins s σ H x v vl vu lo hi sl R I rx hs pl pu ⟨d,M,ρ,Q,sm,r1,q,k⟩
 unfold qSl at q
 split at q
 ·cases r1
  exact Cp pins s σ H _ v vl vu lo hi sl R I rx hs pl pu ⟨_,rfl,q.1,k _ H (VQ.now sm (.str _) q.2)⟩
 ·obtain⟨xs,hL,q⟩:=q
  obtain⟨_,rfl,hn⟩:=Rep.inv_ref r1
  obtain⟨vs,hq,r⟩:=ao.seq sm hL hn
  exact zB pins s σ H _ v vl vu lo hi sl R I rx hs pl pu ⟨_,vs,rfl,hq,λp hp=>k _ _ (VQ.laidL sm .refl (r.cutD lo hi) hp q)⟩
 ·obtain⟨_,_,rfl,h,r⟩:=Rep.inv_tup r1
  rename_i xs a vs
  by_cases hw:HT.sIx xs.length 0 lo=0/\HT.sIx xs.length xs.length hi=xs.length
  ·cases rx
   obtain⟨its,rr,ht,hz⟩:=I.tuple h
   have hlen:its.toArray.size=xs.length:=by rw[AAD,r.length];exact rr.length.symm
   have e:L2.cutD xs lo hi=xs:=by unfold L2.cutD;rw[hw.1,hw.2,List.drop_zero,Nat.sub_zero,ACB]
   rw[e]at q
   exact⟨"tuple",_,AB5.lookup,ht.typeIs,me ht hs pl pu (by rw[hlen];exact hw) ⟨.ref _,H,I,rfl,k _ H (VQ.now sm (.tup h r) q)⟩⟩
  ·exact Co pins s σ H _ v vl vu lo hi sl R I rx hs pl pu ⟨_,_,rfl,h,by rw[<-r.length];exact hw,λp hp=>k _ _ (VQ.laidT sm .refl (r.cutD lo hi) hp q)⟩
 ·exact q.elim
def dSl(te:DTE)(tl th:DTO):DTE:=λS M Q=>te S M λx M1=>tl S M1 λl M2=>th S M2 λu M3=>qSl x l u M3 Q
theorem Bw{e:Expr}{te:DTE}{lo hi:Option Expr}{tl th:DTO}{p2:Pos}(he:DE X e te)(hl:PO X lo (Dq X.K tl))(hu:PO X hi (Dq X.K th)):DE X (.Subscript e (.Slice lo hi none p2) pos) (dSl te tl th):=by
 refine PE.imp (xz sld he hl hu) ?_
 rintro σ H R ⟨S,M,ρ,Q,s,sr,q,k⟩
 refine⟨S,M,ρ,_,s,sr,q,?_⟩
 rintro v H1 ⟨d,M1,ρ1,s1,g1,r1,q1⟩
 refine⟨S,M1,ρ1,_,s1,sr.grow g1,q1,?_⟩
 rintro l H2 ⟨M2,ρ2,s2,g2,q2⟩
 refine⟨S,M2,ρ2,_,s2,sr.grow (g1.trans g2),q2,?_⟩
 rintro u H3 ⟨M3,ρ3,s3,g3,q3⟩
 exact⟨d,M3,ρ3,Q,s3,r1.grow (g2.trans g3),q3,λv H' w=>k v H' (VQ.trans ((g1.trans g2).trans g3) w)⟩
def lG:DR2:=λx y M Q=>match x,y with
 | .int i,.int j=>CMul i j/\Q (.int (i*j)) M
 | .str z,.int n=>(0<=n/\n<2 ^ 63/\z.length*n.toNat<=sizeLine)/\Q (.str (Txt.mul z n)) M
 | _,_=>False
theorem pG(h0:0<=n)(h:z.length*n.toNat<=sizeLine)(hn:n<2 ^ 63):MulOk z n:=by
 refine⟨?_,λh1 h2=>?_,λh1 h2=>?_⟩
 ·have e1:decide (n < -(2 ^ 63:Int))=false:=dF_ (by lia)
  have e2:decide (n ≥ 2 ^ 63)=false:=dF_ (by lia)
  rw[e1,e2]
  rfl
 ·have hz:(z.length:Int)*n<=2 ^ 24:=by
   have e:((z.length*n.toNat:Nat):Int)=(z.length:Int)*n:=by
    rw[Int.natCast_mul,Int.toNat_of_nonneg h0]
   have h':((z.length*n.toNat:Nat):Int)<=(2 ^ 24:Nat):=Int.ofNat_le.mpr h
   rw[e]at h'
   exact h'
  have hpos:0<n:=by lia
  intro hgt
  have:=Int.lt_of_lt_of_le (Int.lt_mul_of_ediv_lt hpos hgt) hz
  lia
 ·unfold PySem.Builtin.Str.tooLong
  simpa using h
theorem Aj:OpD X (binaryOp .Mult) lG:=by
 rintro pins s σ H vx vy v u R I rx ry ⟨x,y,M,ρ,Q,sm,r1,r2,q,k⟩
 unfold lG at q
 split at q
 ·cases r1
  cases r2
  exact CY pins s σ H _ _ v u R I rx ry ⟨_,_,rfl,rfl,q.1,k _ H (VQ.now sm (.int _) q.2)⟩
 ·rename_i z n
  cases r1
  cases r2
  obtain⟨t,rfl⟩:=rx
  obtain⟨t',rfl⟩:=ry
  obtain⟨⟨h0,h2,h1⟩,q⟩:=q
  exact PySem.SB.mul (pG h0 h1 h2) λt' j=>⟨.str _,H,I.tok j,⟨t',rfl⟩,k _ H (VQ.now sm (.str _) q)⟩
 ·exact q.elim
variable{o e:Expr}{es:List Expr}{to:DTE}{t:DTA}{name:Str}{apos cpos:Pos}{id:String}
def lowMs(K:AA3)(r:Str->DRA):V->List V->Hp->VK->Prop:=λvx vs H R=>∃z ds M ρ Q,vx=.str z/\Sim K ρ M H/\Reps K ρ H ds vs/\r z ds M Q/\∀v H',VQ K ρ H Q v H'->R v H'
def sM(K:AA3)(r:Nat->DRA):V->List V->Hp->VK->Prop:=λvx vs H R=>∃n a ds M ρ Q,vx=.ref a/\ρ[n]?=some a/\Sim K ρ M H/\Reps K ρ H ds vs/\r n ds M Q/\∀v H',VQ K ρ H Q v H'->R v H'
def dMl(r:Nat->DRA)(to:DTE)(t:DTA):DTE:=λS M Q=>to S M λx M1=>match x with
 | .ref n=>(∃xs,ao M1 n xs)/\t S M1 λds M2=>r n ds M2 Q
 | _=>False
theorem d_ml(slot:Slot "list" name id)(hty:typeOf (.builtin id)=pure (.type "method_descriptor"))(hm:MtR X id (sM X.K r))(ho:DE X o to)(ha:DA X (e::es) t)
  (hbase:attributeBase o name X.env (eval o X.env)=eval o X.env:=by rfl)
  (hfew:((backTo cpos (starEach (e::es) X.env)).all (λx=>!x.1)&&(backToKw cpos (keywordEach [] X.env)).all (λx=>x.1.isSome)
   && decide ((e::es).length+([]:List Keyword).length+(if ([]:List Keyword).isEmpty then 0 else 1)<30))=true:=by rfl)
  (hline:(apos.endLine==cpos.line)=true:=by rfl) (hs:starEach (e::es) X.env=(false,eval e X.env)::starEach es X.env:=by rfl) (hplain:(backTo cpos (starEach es X.env)).any (·.1)=false:=by rfl) :
  DE X (.Call (.Attribute o name apos) (e::es) [] cpos) (dMl r to t):=by
 refine PE.imp (pe_bm PySem.F.plainAttrs_list slot hty hm ho ha hbase hfew hline hs hplain) ?_
 rintro σ H R ⟨S,M,ρ,Q,s,sr,q,k⟩
 refine⟨S,M,ρ,_,s,sr,q,?_⟩
 rintro v H1 ⟨d,M1,ρ1,s1,g1,r1,q1⟩
 cases r1 with
 | @ref n a hn =>
  obtain⟨⟨xs,hL⟩,q1⟩:=(show (∃xs,ao M1 n xs)/\t S M1 _ from q1)
  obtain⟨vs,hq,_⟩:=ao.seq s1 hL hn
  refine⟨.inl ⟨rfl,vs,hq⟩,S,M1,ρ1,_,s1,sr.grow g1,q1,?_⟩
  rintro vs H2 ⟨ds,M2,ρ2,s2,g2,r2,q2⟩
  exact⟨n,a,ds,M2,ρ2,Q,rfl,ar g2.pre hn,s2,r2,q2,λv H' w=>k v H' (VQ.trans (g1.trans g2) w)⟩
 | _=>exact q1.elim
def bW(n:Nat):DRA:=λds M Q=>match ds with
 | [d]=>∃xs,M[n]?=some (.lst xs)/\xs.length<sizeLine/\Q .non (M.set n (.lst (xs++[d])))
 | _=>False
theorem sK:MtR X "list.append" (sM X.K bW):=by
 rintro pins s σ H x xs v us R I rx rs ⟨n,a,ds,M,ρ,Q,ez,hn,sm,rr,q,k⟩
 unfold bW at q
 split at q
 ·rename_i d
  obtain⟨ys,e,hl,q⟩:=q
  first | have hzz:=Reps.inv_cons rr | have hzz:=au.inv_cons rr
  clear rr
  obtain⟨_,_,rfl,r1,rr⟩:=hzz
  cases rr
  obtain⟨vs,hH,r⟩:=sm.obj n a _ hn e
  obtain⟨w1,w2⟩:=sm.write hn e hH (r.append (.cons r1 .nil))
  exact vA pins s σ H x _ v us R I rx rs ⟨a,vs,_,ez,rfl,hH,by rw[<-r.length];exact hl,k _ _ ⟨.non,_,ρ,w1,w2,.non,q⟩⟩
 ·exact q.elim
end
def cw(K:AA3)(mg:Str->Option Value)(x:Str)(st:Stmt)(ps:List Str):Prop :=
 ∃f fd,Fun K x x st f fd/\mg x=some (.ref f)/\mz K fd ps []
def Cal(P:Program)(w:World)(K:AA3)(mg:Str->Option Value)(base:Heap)(k:Nat)(x:Str)(ps:List Str)(Pr:DSp):Prop :=
 ∃f fd,FnOk P w K mg base CX0 k f fd ps (spL K Pr)/\mg x=some (.ref f)/\AC6 K (.ref f)=true/\mz K fd ps []
theorem fnat_mk{K:AA3}{h:Heap}{mg:Str->Option Value}{x:Str}{st:Stmt}{ps:List Str}{f:Addr}{oc:Value}{od an:Option Addr}{osl:Array (Option Value)}{kV doc pm cdv ct:Value}
  (X:K.In h) (G:h.Ns mainGlobals mg) (a:ACI K mainGlobals x=some (some (.ref f)))
  (l:K.lookup f=some ⟨oc,od,.func (ACU x x (fA st) (bg st) (ak st) .none kV doc pm an cdv ct),osl⟩)
  (c:AEF K cdv x=true) (k:AC6 K (.ref f)=true)
  (h:∀(kV doc pm:Value) (an:Option Addr) (cdv ct:Value) (us:List Value),us.length=ps.length->bindArgs (ACU x x (fA st) (bg st) (ak st) .none kV doc pm an cdv ct) ⟨us,[]⟩=pure (ps.zip us)):cw K mg x st ps :=
 have F:=Es (st:=st) l c k
 ⟨f,_,F,AEP X G a,F.binds h⟩
theorem Cal.of{P:Program}{w:World}{K:AA3}{mg:Str->Option Value}{base:Heap}{x:Str}{st:Stmt}{N ps:List Str}{k:Nat}{Pr:DSp}(F:cw K mg x st ps)(Sc:FnScope N ps (ak st))
  (len:∀ds M R,Pr ds M R->ds.length=ps.length) {t:DTS}
  (der:∀(f:Addr) (cdv:Value) (A:Around) (outer:List Env) (s:Shared) (H:Hp) (E:XK),Room k (A.deeper (envOfC x (ak st) s.heap.objs.size f cdv))->DSs (jL CX0 P w K mg base N x (ak st) f cdv A outer s H E).nox (bg st) t)
  (wp:∀ds M R,Pr ds M R->t ⟨λ_ M'=>aX M R .non M',aX M R,λ_ _=>False,λ_ _=>False⟩ (bv N ds) M):Cal P w K mg base (k+1) x ps Pr:=by
 obtain⟨f,fd,F1,hm,hb⟩:=F
 exact⟨f,fd,d_fn Pr F1 Sc len λcdv A outer s H E hr=>⟨t,der f cdv A outer s H E hr,wp⟩,hm,F1.kp,hb⟩
theorem Bb{P:Program}{w:World}{K:AA3}{mg:Str->Option Value}{base:Heap}{x:Str}{st:Stmt}{N ps:List Str}{k:Nat}{Pr:DSp}{f:Addr}{fd:FuncData}(F:Fun K x x st f fd)(Sc:FnScope N ps (ak st))
  (len:∀ds M R,Pr ds M R->ds.length=ps.length) {t:DTS}
  (der:∀(f:Addr) (cdv:Value) (A:Around) (outer:List Env) (s:Shared) (H:Hp) (E:XK),Room k (A.deeper (envOfC x (ak st) s.heap.objs.size f cdv))->DSs (jL CX0 P w K mg base N x (ak st) f cdv A outer s H E).nox (bg st) t)
  (wp:∀ds M R,Pr ds M R->t ⟨λ_ M'=>aX M R .non M',aX M R,λ_ _=>False,λ_ _=>False⟩ (bv N ds) M):FnOk P w K mg base CX0 (k+1) f fd ps (spL K Pr) :=
 d_fn Pr F Sc len λcdv A outer s H E hr=>⟨t,der f cdv A outer s H E hr,wp⟩
theorem FnOk.more{P:Program}{w:World}{K:AA3}{mg:Str->Option Value}{base:Heap}{CX:CXT}{j k:Nat}{f:Addr}{fd:FuncData}{ps:List Str}{sp:Sp}(F:FnOk P w K mg base CX j f fd ps sp)(h:j<=k):FnOk P w K mg base CX k f fd ps sp :=
 ⟨F.len,λA outer s H args us vs Q E hr=>F.run A outer s H args us vs Q E (hr.mono h)⟩
section
variable{X:Cx}{e:Expr}{es:List Expr}{t:DTA}{pos:Pos}
theorem d_cal(C:Cal X.prog X.w X.K X.mg X.base j x ps P)(hr:Room k X.A)(ha:DA X (e::es) t)(hj:j<=k:=by decide)
  (hg:Gl X x:=by rfl) (hdb:(x==("__debug__":Str))=false:=by decide) (he:starEach (e::es) X.env=(false,eval e X.env)::starEach es X.env:=by rfl) (hpl:(backTo pos (starEach es X.env)).any (·.1)=false:=by rfl) :
  DE X (.Call (.Name x p) (e::es) [] pos) (dCB P t):=by
 obtain⟨f,fd,F,hm,hk,hb⟩:=C
 exact EU F (hr.mono hj) hm hk hb ha hg hdb he hpl
end
theorem jw(h:M[n]?=some mo)(hl:mo.isL=true):ao M n mo.items:=by
 cases mo with
 | lst xs=>exact .inl h
 | fz xs=>exact .inr (.inl h)
 | kl xs=>exact .inr (.inr h)
 | dct xs=>cases hl
 | dkt xs=>cases hl
 | dkq xs=>cases hl
 | fdc o xs=>cases hl
 | dkm xs=>cases hl
 | tb x b=>cases hl
 | exc x=>cases hl
theorem fS{K:AA3}{ρ:List Addr}{H:Hp}:∀(ns:List Int),Reps K ρ H (ns.map D.int) (ns.map V.int)
 | []=>.nil
 | n::ns=>.cons (.int n) (fS ns)
noncomputable def lc(nm:List (Str×NameKind))(N N':List Str)(nt:Nat)(js:List Nat)(sc:Scope):Bool :=
 sc.kind==.function&&sc.names.all (λy=>y.2 != .cell&&(y.2 != .local||sc.names.lookup y.1==some .local)&&(y.2 != .free||(nm.lookup y.1==some .cell||nm.lookup y.1==some .free))) &&
 N'.length==nt+js.length&&(AAn js.length).all λk=>match js[k]?,N'[nt+k]? with
  | some j,some x=>N[j]?==some x&&sc.names.lookup x==some .free&&(nm.lookup x==some .cell||nm.lookup x==some .free)
  | _,_=>false
theorem BlkSc.chk(h:lc X.env.scope.names X.N N' nt js scope=true):BlkSc X N' nt js scope:=by
 unfold lc at h
 simp only[AAS,AAU,beq_iff_eq,AE3,bne_iff_ne]at h
 obtain⟨⟨⟨h1,h2⟩,h3⟩,h4⟩:=h
 refine⟨h1,λy hy=>(h2 y hy).1.1,λy hy e=>((h2 y hy).1.2.resolve_left (λz=>z e)),λy hy e=>((h2 y hy).2.resolve_left (λz=>z e)),h3,λk j e=>?_⟩
 have hk:k<js.length:=(AA7.mp e).1
 have q:=h4 k (AAs.mpr hk)
 rw[e]at q
 cases f:N'[nt+k]? with
 | none=>rw[f]at q;exact absurd q (by simp)
 | some x =>
  rw[f]at q
  simp only[AAS,beq_iff_eq,AE3]at q
  exact⟨x,rfl,q.1.1,q.1.2,q.2⟩
noncomputable def eqL(f:D->D->Bool):List D->List D->Bool
 | [],[]=>true
 | x::xs,y::ys=>f x y&&eqL f xs ys
 | _,_=>false
noncomputable def eqD(M:Mem):Nat->D->D->Bool
 | _,.non,.non=>true
 | _,.bl a,.bl b=>a==b
 | _,.bl a,.int b=>(if a then 1 else 0)==b
 | _,.int a,.bl b=>a==(if b then 1 else 0)
 | _,.int a,.int b=>a==b
 | _,.str a,.str b=>a==b
 | n+1,.tup xs,.tup ys=>eqL (eqD M n) xs ys
 | n+1,.ref i,.ref j=>match M[i]?,M[j]? with
  | some a,some b=>eqL (eqD M n) a.items b.items
  | _,_=>false
 | _,_,_=>false
noncomputable def okD(M:Mem):Nat->D->Bool
 | _,.ty _=>false
 | n+1,.tup xs=>xs.all (okD M n)
 | n+1,.ref i=>match M[i]? with
  | some a=>a.isL&&a.items.all (okD M n)
  | none=>false
 | 0,.tup _=>false
 | 0,.ref _=>false
 | _,_=>true
theorem ww:∀{xs ys:List D},eqL f xs ys=true->xs.length=ys.length
 | [],[],_=>rfl
 | [],_::_,h=>by simp[eqL]at h
 | _::_,[],h=>by simp[eqL]at h
 | x::xs,y::ys,h=>by
  simp only[eqL,AAS]at h
  rw[AAL,AAL,ww h.2]
theorem wT(n:Nat)(e:Nat->Bool):(AAn (n+1)).all e=(e 0&&(AAn n).all λj=>e (j+1)):=by
 rw[List.range_succ_eq_map,ABK,List.all_map]
 rfl
theorem jF:∀{xs ys:List D}{e:Nat->Bool},xs.length=ys.length->(∀(j:Nat) x y,xs[j]?=some x->ys[j]?=some y->e j=f x y)->(AAn xs.length).all e=eqL f xs ys
 | [],[],e,_,_=>by simp[eqL]
 | [],_::_,_,h,_=>by simp at h
 | _::_,[],_,h,_=>by simp at h
 | x::xs,y::ys,e,h,he=>by
  rw[AAL,wT,eqL,he 0 x y rfl rfl,jF (by simpa using h) λj x' y' h1 h2=>he (j+1) x' y' (by simpa using h1) (by simpa using h2)]
theorem wv(h:xs.length≠ys.length):eqL f xs ys=false:=by
 cases q:eqL f xs ys with
 | false=>rfl
 | true=>exact absurd (ww q) h
theorem fJ{vs:List V}{us:List Value}(h:au vs us){j:Nat}{v:V}(e:vs[j]?=some v):∃u,us[j]?=some u/\aI v u:=by
 induction h generalizing j with
 | nil=>simp at e
 | cons r _ ih =>
  cases j with
  | zero=>simp at e;subst e;exact⟨_,rfl,r⟩
  | succ j=>exact ih (by simpa using e)
section
variable{X:Cx}{pins:List (Addr×Obj)}{σ:St}{H:Hp}{s:Shared}{ρ:List Addr}{M:Mem}
theorem iX(I:Inv X pins σ H s)(sm:Sim X.K ρ M H){i:Nat}{a:Addr}{mo:MO}(e:ρ[i]?=some a)(hm:M[i]?=some mo)(hl:mo.isL=true):∃vs its,SqL X.K H a vs/\Reps X.K ρ H mo.items vs/\au vs its/\PlainL s.heap a its.toArray:=by
 obtain⟨vs,hq,r⟩:=ao.seq sm (jw hm hl) e
 obtain⟨its,rr,pl,_⟩:=I.list hq
 exact⟨vs,its,hq,r,rr,pl⟩
theorem cI(hm:M[i]?=some mo)(o:okD M (n+1) (.ref i)=true):mo.isL=true/\mo.items.all (okD M n)=true:=by
 have o':(match M[i]? with | some a=>a.isL&&a.items.all (okD M n) | none=>false)=true:=o
 rw[hm]at o'
 exact(AAS _ _).mp o'
theorem yp(I:Inv X pins σ H s)(sm:Sim X.K ρ M H):∀(n:Nat) (x y:D) (v:V),Rep X.K ρ H x v->Rep X.K ρ H y v->okD M n x=true->okD M n y=true->eqD M n x y=true:=by
 have all:∀(n:Nat),(∀(x y:D) (v:V),Rep X.K ρ H x v->Rep X.K ρ H y v->okD M n x=true->okD M n y=true->eqD M n x y=true) ->
   ∀(xs ys:List D) (vs:List V),Reps X.K ρ H xs vs->Reps X.K ρ H ys vs->xs.all (okD M n)=true->ys.all (okD M n)=true->eqL (eqD M n) xs ys=true:=by
  intro n ih xs
  induction xs with
  | nil=>intro ys vs h1 h2 _ _;cases h1;cases h2;rfl
  | cons x xs hi =>
   intro ys vs h1 h2 o1 o2
   cases h1 with
   | cons r1 t1 =>
    cases h2 with
    | cons r2 t2 =>
     rw[ABK,AAS]at o1 o2
     rw[eqL,ih _ _ _ r1 r2 o1.1 o2.1,hi _ _ t1 t2 o1.2 o2.2]
     rfl
 intro n
 induction n with
 | zero =>
  intro x y v h1 h2 o1 o2
  cases h1<;>cases h2<;>first | (simp[okD]at o1;done) | rfl | simp[eqD]
 | succ n ih =>
  intro x y v h1 h2 o1 o2
  cases h1 with
  | non=>cases h2;rfl
  | bl b=>cases h2;simp[eqD]
  | int b=>cases h2;simp[eqD]
  | str b=>cases h2;simp[eqD]
  | ty b=>simp[okD]at o1
  | @tup a vs ds hq r =>
   cases h2 with
   | tup hq' r' =>
    have e:=I.tuple_inj hq hq'
    subst e
    exact all n ih _ _ _ r r' (by simpa [okD]using o1) (by simpa [okD]using o2)
   | @ref i _ e =>
    exfalso
    obtain⟨its,_,⟨o,e1,e2,_⟩,_⟩:=I.tuple hq
    have hi:i<M.length:=by rw[<-sm.len];exact(AA7.mp e).1
    obtain⟨vs',its',_,_,_,⟨o',n',f1,f2,_⟩⟩:=iX I sm e (AA5 hi) (cI (AA5 hi) o2).1
    rw[e1]at f1;cases f1
    rw[e2]at f2;injection f2 with f3;exact absurd f3 (by decide)
  | @ref i a e =>
   have hi:i<M.length:=by rw[<-sm.len];exact(AA7.mp e).1
   have hm:=AA5 hi
   obtain⟨vs,its,hq,r,rr,pl⟩:=iX I sm e hm (cI hm o1).1
   cases h2 with
   | tup hq' r' =>
    exfalso
    obtain⟨its',_,⟨o,e1,e2,_⟩,_⟩:=I.tuple hq'
    obtain⟨o',n',f1,f2,_⟩:=pl
    rw[e1]at f1;cases f1
    rw[e2]at f2;injection f2 with f3;exact absurd f3 (by decide)
   | @ref j _ e' =>
    have hj:j<M.length:=by rw[<-sm.len];exact(AA7.mp e').1
    have hm':=AA5 hj
    obtain⟨vs',its',hq',r',rr',pl'⟩:=iX I sm e' hm' (cI hm' o2).1
    have ev:vs=vs':=I.list_inj hq hq'
    subst ev
    have o1':=(cI hm o1).2
    have o2':=(cI hm' o2).2
    simp only[eqD,hm,hm']
    exact all n ih _ _ _ r r' o1' o2'
theorem jH(I:Inv X pins σ H s)(sm:Sim X.K ρ M H):∀(n:Nat) (A:Around) (x y:D) (vx vy:V) (u v:Value),A.units+n<cLine->Rep X.K ρ H x vx->aI vx u->Rep X.K ρ H y vy->aI vy v->okD M n x=true->okD M n y=true ->
  ACC A s u v (eqD M n x y)/\SeqAt.RcAt A s u v (eqD M n x y)/\SeqAt.RcNeAt A s u v (!eqD M n x y):=by
 intro n
 induction n with
 | zero =>
  intro A x y vx vy u v hu r1 e1 r2 e2 o1 o2
  cases r1 with
  | ty b=>simp[okD]at o1
  | tup b=>simp[okD]at o1
  | ref b=>simp[okD]at o1
  | non =>
   cases e1
   cases r2 with
   | ty b=>simp[okD]at o2
   | tup b=>simp[okD]at o2
   | ref b=>simp[okD]at o2
   | non=>cases e2;exact⟨AE4 _,SeqAt.RcAt.none_none,SeqAt.RcNeAt.none_none⟩
   | bl b=>cases e2;exact⟨SeqAt.EqAt.none_bool _,SeqAt.RcAt.none_bool _,SeqAt.RcNeAt.none_bool _⟩
   | int b=>obtain⟨t,rfl⟩:=e2;exact⟨SeqAt.EqAt.none_int _ _,SeqAt.RcAt.none_int _ _,SeqAt.RcNeAt.none_int _ _⟩
   | str b=>obtain⟨t,rfl⟩:=e2;exact⟨SeqAt.EqAt.none_str _ _,SeqAt.RcAt.none_str _ _,SeqAt.RcNeAt.none_str _ _⟩
  | bl a =>
   cases e1
   cases r2 with
   | ty b=>simp[okD]at o2
   | tup b=>simp[okD]at o2
   | ref b=>simp[okD]at o2
   | non=>cases e2;exact⟨SeqAt.EqAt.bool_none _,SeqAt.RcAt.bool_none _,SeqAt.RcNeAt.bool_none _⟩
   | bl b=>cases e2;exact⟨SeqAt.EqAt.bool_bool _ _,SeqAt.RcAt.bool_bool _ _,SeqAt.RcNeAt.bool_bool _ _⟩
   | int b=>obtain⟨t,rfl⟩:=e2;exact⟨SeqAt.EqAt.bool_int _ _ _,SeqAt.RcAt.bool_int _ _ _,SeqAt.RcNeAt.bool_int _ _ _⟩
   | str b=>obtain⟨t,rfl⟩:=e2;exact⟨SeqAt.EqAt.bool_str _ _ _,SeqAt.RcAt.bool_str _ _ _,SeqAt.RcNeAt.bool_str _ _ _⟩
  | int a =>
   obtain⟨t0,rfl⟩:=e1
   cases r2 with
   | ty b=>simp[okD]at o2
   | tup b=>simp[okD]at o2
   | ref b=>simp[okD]at o2
   | non=>cases e2;exact⟨SeqAt.EqAt.int_none _ _,SeqAt.RcAt.int_none _ _,SeqAt.RcNeAt.int_none _ _⟩
   | bl b=>cases e2;exact⟨SeqAt.EqAt.int_bool _ _ _,SeqAt.RcAt.int_bool _ _ _,SeqAt.RcNeAt.int_bool _ _ _⟩
   | int b=>obtain⟨t,rfl⟩:=e2;exact⟨ADT _ _ _ _,SeqAt.RcAt.int_int _ _ _ _,SeqAt.RcNeAt.int_int _ _ _ _⟩
   | str b=>obtain⟨t,rfl⟩:=e2;exact⟨ACi _ _ _ _,SeqAt.RcAt.int_str _ _ _ _,SeqAt.RcNeAt.int_str _ _ _ _⟩
  | str a =>
   obtain⟨t0,rfl⟩:=e1
   cases r2 with
   | ty b=>simp[okD]at o2
   | tup b=>simp[okD]at o2
   | ref b=>simp[okD]at o2
   | non=>cases e2;exact⟨SeqAt.EqAt.str_none _ _,SeqAt.RcAt.str_none _ _,SeqAt.RcNeAt.str_none _ _⟩
   | bl b=>cases e2;exact⟨SeqAt.EqAt.str_bool _ _ _,SeqAt.RcAt.str_bool _ _ _,SeqAt.RcNeAt.str_bool _ _ _⟩
   | int b=>obtain⟨t,rfl⟩:=e2;exact⟨ACj _ _ _ _,SeqAt.RcAt.str_int _ _ _ _,SeqAt.RcNeAt.str_int _ _ _ _⟩
   | str b=>obtain⟨t,rfl⟩:=e2;exact⟨ADU _ _ _ _,SeqAt.RcAt.str_str _ _ _ _,SeqAt.RcNeAt.str_str _ _ _ _⟩
 | succ n ih =>
  intro A x y vx vy u v hu r1 e1 r2 e2 o1 o2
  have hu0:A.units<cLine:=by lia
  have hu1:A.in1.units+n<cLine:=by show A.units+1+n<cLine;lia
  -- what a list or a tuple is,as the heap has it
  have tupAt:∀{a:Addr}{vs:List V}{ds:List D},SqT X.K H a vs->Reps X.K ρ H ds vs->∃its:List Value,au vs its/\s.heap.IsTuple a its.toArray/\ds.length=its.length:=λ{a vs ds} hq r=>by
   obtain⟨its,rr,pl,_⟩:=I.tuple hq
   exact⟨its,rr,pl,r.length.trans rr.length⟩
  have lstAt:∀{i:Nat}{a:Addr},ρ[i]?=some a->okD M (n+1) (.ref i)=true->∃mo,M[i]?=some mo/\∃vs its,Reps X.K ρ H mo.items vs/\au vs its/\s.heap.IsList a its.toArray/\mo.items.length=its.length:=λ{i a} e ok=>by
   have hi:i<M.length:=by rw[<-sm.len];exact(AA7.mp e).1
   have hm:=AA5 hi
   obtain⟨vs,its,hq,r,rr,pl⟩:=iX I sm e hm (cI hm ok).1
   exact⟨_,hm,vs,its,r,rr,pl.isList,r.length.trans rr.length⟩
  have items:∀{xs ys:List D}{vs ws:List V}{its jts:List Value},Reps X.K ρ H xs vs->au vs its->Reps X.K ρ H ys ws->au ws jts->xs.all (okD M n)=true->ys.all (okD M n)=true ->
    ∀(j:Nat) (h1:j<its.toArray.size) (h2:j<jts.toArray.size),ACC A.in1 s its.toArray[j] jts.toArray[j] (eqD M n (xs.getD j .non) (ys.getD j .non)):=λ{xs ys vs ws its jts} r1 q1 r2 q2 o1 o2 j h1 h2=>by
   have l1:j<xs.length:=by rw[r1.length,q1.length];simpa using h1
   have l2:j<ys.length:=by rw[r2.length,q2.length];simpa using h2
   obtain⟨v1,g1,p1⟩:=r1.get (AA5 l1)
   obtain⟨v2,g2,p2⟩:=r2.get (AA5 l2)
   obtain⟨u1,k1,m1⟩:=fJ q1 g1
   obtain⟨u2,k2,m2⟩:=fJ q2 g2
   have z1:its.toArray[j]=u1:=by
    have:=(AA7.mp k1).2
    simpa using this
   have z2:jts.toArray[j]=u2:=by
    have:=(AA7.mp k2).2
    simpa using this
   rw[z1,z2]
   have y1:xs.getD j .non=xs[j]:=by simp[AEM,AA5 l1]
   have y2:ys.getD j .non=ys[j]:=by simp[AEM,AA5 l2]
   rw[y1,y2]
   exact(ih A.in1 _ _ _ _ _ _ hu1 p1 m1 p2 m2 (AAU.mp o1 _ (AB4 l1)) (AAU.mp o2 _ (AB4 l2))).1
  have rng:∀(xs ys:List D),xs.length=ys.length->(AAn xs.length).all (λj=>eqD M n (xs.getD j .non) (ys.getD j .non))=eqL (eqD M n) xs ys:=λxs ys h=>jF h λj x y h1 h2=>by
   simp[AEM,h1,h2]
  have fin:∀{a b:Addr}{k:Bool},Rep X.K ρ H x (.ref a)->Rep X.K ρ H y (.ref b)->eqD M (n+1) x y=k->SeqAt.RcAt A s (.ref a) (.ref b) k->SeqAt.RcNeAt A s (.ref a) (.ref b) (!k) ->
    ACC A s (.ref a) (.ref b) (eqD M (n+1) x y)/\SeqAt.RcAt A s (.ref a) (.ref b) (eqD M (n+1) x y)/\SeqAt.RcNeAt A s (.ref a) (.ref b) (!eqD M (n+1) x y):=λ{a b k} p1 p2 ek h1 h2=>by
   subst ek
   refine⟨?_,h1,h2⟩
   by_cases hab:a=b
   ·subst hab
    rw[yp I sm (n+1) x y _ p1 p2 o1 o2]
    exact AE4 _
   ·exact SeqAt.EqAt.of_refs hab h1
  cases r1 with
  | ty b=>simp[okD]at o1
  | non =>
   cases e1
   cases r2 with
   | ty b=>simp[okD]at o2
   | tup hq r=>cases e2;obtain⟨its,rr,pl,_⟩:=tupAt hq r;exact⟨SeqAt.EqAt.none_tuple pl hu0,SeqAt.RcAt.none_tuple pl hu0,SeqAt.RcNeAt.none_tuple pl hu0⟩
   | ref e=>cases e2;obtain⟨mo,hm,vs,its,r,rr,pl,_⟩:=lstAt e o2;exact⟨SeqAt.EqAt.none_list pl hu0,SeqAt.RcAt.none_list pl hu0,SeqAt.RcNeAt.none_list pl hu0⟩
   | non=>cases e2;exact⟨AE4 _,SeqAt.RcAt.none_none,SeqAt.RcNeAt.none_none⟩
   | bl b=>cases e2;exact⟨SeqAt.EqAt.none_bool _,SeqAt.RcAt.none_bool _,SeqAt.RcNeAt.none_bool _⟩
   | int b=>obtain⟨t,rfl⟩:=e2;exact⟨SeqAt.EqAt.none_int _ _,SeqAt.RcAt.none_int _ _,SeqAt.RcNeAt.none_int _ _⟩
   | str b=>obtain⟨t,rfl⟩:=e2;exact⟨SeqAt.EqAt.none_str _ _,SeqAt.RcAt.none_str _ _,SeqAt.RcNeAt.none_str _ _⟩
  | bl a =>
   cases e1
   cases r2 with
   | ty b=>simp[okD]at o2
   | tup hq r=>cases e2;obtain⟨its,rr,pl,_⟩:=tupAt hq r;exact⟨SeqAt.EqAt.bool_tuple _ pl hu0,SeqAt.RcAt.bool_tuple _ pl hu0,SeqAt.RcNeAt.bool_tuple _ pl hu0⟩
   | ref e=>cases e2;obtain⟨mo,hm,vs,its,r,rr,pl,_⟩:=lstAt e o2;exact⟨SeqAt.EqAt.bool_list _ pl hu0,SeqAt.RcAt.bool_list _ pl hu0,SeqAt.RcNeAt.bool_list _ pl hu0⟩
   | non=>cases e2;exact⟨SeqAt.EqAt.bool_none _,SeqAt.RcAt.bool_none _,SeqAt.RcNeAt.bool_none _⟩
   | bl b=>cases e2;exact⟨SeqAt.EqAt.bool_bool _ _,SeqAt.RcAt.bool_bool _ _,SeqAt.RcNeAt.bool_bool _ _⟩
   | int b=>obtain⟨t,rfl⟩:=e2;exact⟨SeqAt.EqAt.bool_int _ _ _,SeqAt.RcAt.bool_int _ _ _,SeqAt.RcNeAt.bool_int _ _ _⟩
   | str b=>obtain⟨t,rfl⟩:=e2;exact⟨SeqAt.EqAt.bool_str _ _ _,SeqAt.RcAt.bool_str _ _ _,SeqAt.RcNeAt.bool_str _ _ _⟩
  | int a =>
   obtain⟨t0,rfl⟩:=e1
   cases r2 with
   | ty b=>simp[okD]at o2
   | tup hq r=>cases e2;obtain⟨its,rr,pl,_⟩:=tupAt hq r;exact⟨SeqAt.EqAt.int_tuple _ _ pl hu0,SeqAt.RcAt.int_tuple _ _ pl hu0,SeqAt.RcNeAt.int_tuple _ _ pl hu0⟩
   | ref e=>cases e2;obtain⟨mo,hm,vs,its,r,rr,pl,_⟩:=lstAt e o2;exact⟨SeqAt.EqAt.int_list _ _ pl hu0,SeqAt.RcAt.int_list _ _ pl hu0,SeqAt.RcNeAt.int_list _ _ pl hu0⟩
   | non=>cases e2;exact⟨SeqAt.EqAt.int_none _ _,SeqAt.RcAt.int_none _ _,SeqAt.RcNeAt.int_none _ _⟩
   | bl b=>cases e2;exact⟨SeqAt.EqAt.int_bool _ _ _,SeqAt.RcAt.int_bool _ _ _,SeqAt.RcNeAt.int_bool _ _ _⟩
   | int b=>obtain⟨t,rfl⟩:=e2;exact⟨ADT _ _ _ _,SeqAt.RcAt.int_int _ _ _ _,SeqAt.RcNeAt.int_int _ _ _ _⟩
   | str b=>obtain⟨t,rfl⟩:=e2;exact⟨ACi _ _ _ _,SeqAt.RcAt.int_str _ _ _ _,SeqAt.RcNeAt.int_str _ _ _ _⟩
  | str a =>
   obtain⟨t0,rfl⟩:=e1
   cases r2 with
   | ty b=>simp[okD]at o2
   | tup hq r=>cases e2;obtain⟨its,rr,pl,_⟩:=tupAt hq r;exact⟨SeqAt.EqAt.str_tuple _ _ pl hu0,SeqAt.RcAt.str_tuple _ _ pl hu0,SeqAt.RcNeAt.str_tuple _ _ pl hu0⟩
   | ref e=>cases e2;obtain⟨mo,hm,vs,its,r,rr,pl,_⟩:=lstAt e o2;exact⟨SeqAt.EqAt.str_list _ _ pl hu0,SeqAt.RcAt.str_list _ _ pl hu0,SeqAt.RcNeAt.str_list _ _ pl hu0⟩
   | non=>cases e2;exact⟨SeqAt.EqAt.str_none _ _,SeqAt.RcAt.str_none _ _,SeqAt.RcNeAt.str_none _ _⟩
   | bl b=>cases e2;exact⟨SeqAt.EqAt.str_bool _ _ _,SeqAt.RcAt.str_bool _ _ _,SeqAt.RcNeAt.str_bool _ _ _⟩
   | int b=>obtain⟨t,rfl⟩:=e2;exact⟨ACj _ _ _ _,SeqAt.RcAt.str_int _ _ _ _,SeqAt.RcNeAt.str_int _ _ _ _⟩
   | str b=>obtain⟨t,rfl⟩:=e2;exact⟨ADU _ _ _ _,SeqAt.RcAt.str_str _ _ _ _,SeqAt.RcNeAt.str_str _ _ _ _⟩
  | @tup a vs ds hq r =>
   cases e1
   obtain⟨its,rr,pl,ll⟩:=tupAt hq r
   cases r2 with
   | ty b=>simp[okD]at o2
   | non=>cases e2;exact⟨SeqAt.EqAt.tuple_none pl hu0,SeqAt.RcAt.tuple_none pl hu0,SeqAt.RcNeAt.tuple_none pl hu0⟩
   | bl b=>cases e2;exact⟨SeqAt.EqAt.tuple_bool _ pl hu0,SeqAt.RcAt.tuple_bool _ pl hu0,SeqAt.RcNeAt.tuple_bool _ pl hu0⟩
   | int b=>obtain⟨t,rfl⟩:=e2;exact⟨SeqAt.EqAt.tuple_int _ _ pl hu0,SeqAt.RcAt.tuple_int _ _ pl hu0,SeqAt.RcNeAt.tuple_int _ _ pl hu0⟩
   | str b=>obtain⟨t,rfl⟩:=e2;exact⟨SeqAt.EqAt.tuple_str _ _ pl hu0,SeqAt.RcAt.tuple_str _ _ pl hu0,SeqAt.RcNeAt.tuple_str _ _ pl hu0⟩
   | ref e=>cases e2;obtain⟨mo,hm,vs',its',r',rr',pl',_⟩:=lstAt e o2;exact⟨SeqAt.EqAt.tuple_list pl pl' hu0,SeqAt.RcAt.tuple_list pl pl' hu0,SeqAt.RcNeAt.tuple_list pl pl' hu0⟩
   | @tup b ws es hq' r' =>
    cases e2
    obtain⟨jts,rr',pl',ll'⟩:=tupAt hq' r'
    have ok1:ds.all (okD M n)=true:=by simpa [okD]using o1
    have ok2:es.all (okD M n)=true:=by simpa [okD]using o2
    have key:((AAn (min its.toArray.size jts.toArray.size)).all (λj=>eqD M n (ds.getD j .non) (es.getD j .non))&&its.toArray.size==jts.toArray.size)=eqL (eqD M n) ds es:=by
     rw[AAD,AAD]
     by_cases hl:ds.length=es.length
     ·rw[<-ll,<-ll',<-hl,Nat.min_self,rng ds es hl]
      simp
     ·rw[wv hl,<-ll,<-ll']
      simp[hl]
    have h1:=SeqAt.RcAt.tuples pl pl' hu0 (items r rr r' rr' ok1 ok2)
    have h2:=SeqAt.RcNeAt.tuples pl pl' hu0 (items r rr r' rr' ok1 ok2)
    rw[key]at h1 h2
    exact fin (.tup hq r) (.tup hq' r') rfl h1 h2
  | @ref i a e =>
   cases e1
   obtain⟨mo,hm,vs,its,r,rr,pl,ll⟩:=lstAt e o1
   cases r2 with
   | ty b=>simp[okD]at o2
   | non=>cases e2;exact⟨SeqAt.EqAt.list_none pl hu0,SeqAt.RcAt.list_none pl hu0,SeqAt.RcNeAt.list_none pl hu0⟩
   | bl b=>cases e2;exact⟨SeqAt.EqAt.list_bool _ pl hu0,SeqAt.RcAt.list_bool _ pl hu0,SeqAt.RcNeAt.list_bool _ pl hu0⟩
   | int b=>obtain⟨t,rfl⟩:=e2;exact⟨SeqAt.EqAt.list_int _ _ pl hu0,SeqAt.RcAt.list_int _ _ pl hu0,SeqAt.RcNeAt.list_int _ _ pl hu0⟩
   | str b=>obtain⟨t,rfl⟩:=e2;exact⟨SeqAt.EqAt.list_str _ _ pl hu0,SeqAt.RcAt.list_str _ _ pl hu0,SeqAt.RcNeAt.list_str _ _ pl hu0⟩
   | tup hq' r'=>cases e2;obtain⟨its',rr',pl',_⟩:=tupAt hq' r';exact⟨SeqAt.EqAt.list_tuple pl pl' hu0,SeqAt.RcAt.list_tuple pl pl' hu0,SeqAt.RcNeAt.list_tuple pl pl' hu0⟩
   | @ref j b e' =>
    cases e2
    obtain⟨mo',hm',ws,jts,r',rr',pl',ll'⟩:=lstAt e' o2
    have ok1:mo.items.all (okD M n)=true:=(cI hm o1).2
    have ok2:mo'.items.all (okD M n)=true:=(cI hm' o2).2
    have ek:eqD M (n+1) (.ref i) (.ref j)=eqL (eqD M n) mo.items mo'.items:=by simp only[eqD,hm,hm']
    by_cases hl:mo.items.length=mo'.items.length
    ·have hsz:its.toArray.size=jts.toArray.size:=by rw[AAD,AAD,<-ll,<-ll',hl]
     have h1:=SeqAt.RcAt.lists pl pl' hsz hu0 (items r rr r' rr' ok1 ok2)
     have h2:=SeqAt.RcNeAt.lists pl pl' hsz hu0 (items r rr r' rr' ok1 ok2)
     rw[AAD,<-ll,rng _ _ hl]at h1 h2
     exact fin (.ref e) (.ref e') ek h1 h2
    ·have hsz:(its.toArray.size != jts.toArray.size)=true:=by
      rw[AAD,AAD,<-ll,<-ll']
      simpa using hl
     have h1:=SeqAt.RcAt.lists_lengths pl pl' hsz hu0
     have h2:=SeqAt.RcNeAt.lists_lengths pl pl' hsz hu0
     exact fin (.ref e) (.ref e') (ek.trans (wv hl)) h1 h2
noncomputable def eqN:Nat:=30
def qEq:DR2:=λx y M Q=>(okD M eqN x=true/\okD M eqN y=true)/\Q (.bl (eqD M eqN x y)) M
def qNe:DR2:=λx y M Q=>(okD M eqN x=true/\okD M eqN y=true)/\Q (.bl (!eqD M eqN x y)) M
noncomputable def inD(M:Mem)(x:D)(ys:List D):Bool:=ys.any λy=>eqD M eqN y x
def Cv(neg:Bool):DR2:=λx y M Q=>match y with
 | .tup ys=>(okD M eqN x=true/\ys.all (okD M eqN)=true)/\Q (.bl (inD M x ys != neg)) M
 | .ref n=>∃ys,ao M n ys/\(okD M eqN x=true/\ys.all (okD M eqN)=true)/\Q (.bl (inD M x ys != neg)) M
 | .str z=>match x with
  | .str p=>Q (.bl ((!(Builtin.Str.occurrences z p 0 z.length 1).isEmpty) != neg)) M
  | _=>False
 | _=>False
abbrev qIn:DR2:=Cv false
abbrev ny:DR2:=Cv true
end
section
variable{X:Cx}
theorem qt(hr:Room k A):A.units+eqN<cLine:=by have:=hr.un;unfold eqN;lia
theorem od_eq(hr:Room k X.A):OpD X (compareOp .Eq) qEq:=by
 rintro pins s σ H vx vy v u R I rx ry ⟨x,y,M,ρ,Q,sm,r1,r2,⟨⟨o1,o2⟩,q⟩,k⟩
 exact(jH I sm eqN X.A x y vx vy v u (qt hr) r1 rx r2 ry o1 o2).2.1 _ _ _ _ (dO I sm k q)
theorem od_ne(hr:Room k X.A):OpD X (compareOp .NotEq) qNe:=by
 rintro pins s σ H vx vy v u R I rx ry ⟨x,y,M,ρ,Q,sm,r1,r2,⟨⟨o1,o2⟩,q⟩,k⟩
 exact(jH I sm eqN X.A x y vx vy v u (qt hr) r1 rx r2 ry o1 o2).2.2 _ _ _ _ (dO I sm k q)
theorem nZ{pins:List (Addr×Obj)}{σ:St}{H:Hp}{s:Shared}{ρ:List Addr}{M:Mem}(I:Inv X pins σ H s)(sm:Sim X.K ρ M H):∀(n:Nat) (x y z:D) (v:V),Rep X.K ρ H x v->Rep X.K ρ H y v->okD M n x=true->okD M n y=true->eqD M n x z=eqD M n y z:=by
 have all:∀(n:Nat),(∀(x y z:D) (v:V),Rep X.K ρ H x v->Rep X.K ρ H y v->okD M n x=true->okD M n y=true->eqD M n x z=eqD M n y z) ->
   ∀(xs ys zs:List D) (vs:List V),Reps X.K ρ H xs vs->Reps X.K ρ H ys vs->xs.all (okD M n)=true->ys.all (okD M n)=true->eqL (eqD M n) xs zs=eqL (eqD M n) ys zs:=by
  intro n ih xs
  induction xs with
  | nil=>intro ys zs vs h1 h2 _ _;cases h1;cases h2;rfl
  | cons x xs hi =>
   intro ys zs vs h1 h2 o1 o2
   cases h1 with
   | cons r1 t1 =>
    cases h2 with
    | cons r2 t2 =>
     cases zs with
     | nil=>rfl
     | cons z zs =>
      rw[ABK,AAS]at o1 o2
      rw[eqL,eqL,ih _ _ z _ r1 r2 o1.1 o2.1,hi _ zs _ t1 t2 o1.2 o2.2]
 intro n
 induction n with
 | zero =>
  intro x y z v h1 h2 o1 o2
  cases h1<;>cases h2<;>first | rfl | (cases z<;>rfl)
 | succ n ih =>
  intro x y z v h1 h2 o1 o2
  cases h1 with
  | non=>cases h2;rfl
  | bl b=>cases h2;rfl
  | int b=>cases h2;rfl
  | str b=>cases h2;rfl
  | ty b=>cases h2;rfl
  | @tup a vs ds hq r =>
   cases h2 with
   | tup hq' r' =>
    have e:=I.tuple_inj hq hq'
    subst e
    cases z with
    | tup zs=>exact all n ih _ _ zs _ r r' o1 o2
    | _=>rfl
   | @ref i _ e =>
    exfalso
    obtain⟨its,_,⟨o,e1,e2,_⟩,_⟩:=I.tuple hq
    have hi:i<M.length:=by rw[<-sm.len];exact(AA7.mp e).1
    obtain⟨vs',its',_,_,_,⟨o',n',f1,f2,_⟩⟩:=iX I sm e (AA5 hi) (cI (AA5 hi) o2).1
    rw[e1]at f1;cases f1
    rw[e2]at f2;injection f2 with f3;exact absurd f3 (by decide)
  | @ref i a e =>
   have hi:i<M.length:=by rw[<-sm.len];exact(AA7.mp e).1
   have hm:=AA5 hi
   obtain⟨vs,its,hq,r,rr,pl⟩:=iX I sm e hm (cI hm o1).1
   cases h2 with
   | tup hq' r' =>
    exfalso
    obtain⟨its',_,⟨o,e1,e2,_⟩,_⟩:=I.tuple hq'
    obtain⟨o',n',f1,f2,_⟩:=pl
    rw[e1]at f1;cases f1
    rw[e2]at f2;injection f2 with f3;exact absurd f3 (by decide)
   | @ref j _ e' =>
    have hj:j<M.length:=by rw[<-sm.len];exact(AA7.mp e').1
    have hm':=AA5 hj
    obtain⟨vs',its',hq',r',rr',pl'⟩:=iX I sm e' hm' (cI hm' o2).1
    have ev:vs=vs':=I.list_inj hq hq'
    subst ev
    cases z with
    | ref k =>
     simp only[eqD,hm,hm']
     cases M[k]? with
     | none=>rfl
     | some mo=>exact all n ih _ _ _ _ r r' (cI hm o1).2 (cI hm' o2).2
    | _=>rfl
theorem wb{k:Nat}(hr:Room k X.A){pins:List (Addr×Obj)}{σ:St}{H:Hp}{s:Shared}{ρ:List Addr}{M:Mem}(I:Inv X pins σ H s)(sm:Sim X.K ρ M H){x:D}{vx:V}{v:Value}(r1:Rep X.K ρ H x vx)(rx:aI vx v)(o1:okD M eqN x=true) :
  ∀{ys:List D}{ws:List V}{its:List Value},Reps X.K ρ H ys ws->au ws its->ys.all (okD M eqN)=true->∃e:Value->Bool,(∀u∈its,ACC X.A.in1 s u v (e u))/\its.any e=inD M x ys:=by
 have hu:X.A.in1.units+eqN<cLine:=by have:=hr.un;show X.A.units+1+eqN<cLine;unfold eqN;lia
 intro ys ws its rs vs ok
 classical
 refine⟨λu=>if h:∃d v',Rep X.K ρ H d v'/\aI v' u/\okD M eqN d=true then eqD M eqN h.choose x else false,λu hm=>?_,?_⟩
 ·obtain⟨j,hj,ej⟩:=List.getElem_of_mem hm
  have lj:j<ws.length:=by rw[vs.length];exact hj
  obtain⟨d,hd,rd⟩:=rs.getV (AA5 lj)
  obtain⟨u',hu',ru⟩:=fJ vs (AA5 lj)
  have:u'=u:=by rw[AA5 hj]at hu';cases hu';exact ej
  subst this
  have okd:=AAU.mp ok _ (AAo hd)
  have h:∃d v',Rep X.K ρ H d v'/\aI v' u'/\okD M eqN d=true:=⟨d,_,rd,ru,okd⟩
  show ACC X.A.in1 s u' v (if h:_ then _ else _)
  rw[dif_pos h]
  obtain⟨v',p1,p2,p3⟩:=h.choose_spec
  have ev:=aI.inj p2 ru
  subst ev
  rw[nZ I sm eqN _ d x _ p1 rd p3 okd]
  exact(jH I sm eqN X.A.in1 d x _ vx _ v hu rd ru r1 rx (AAU.mp ok _ (AAo hd)) o1).1
 ·clear hu o1
  unfold inD
  induction ys generalizing ws its with
  | nil=>cases rs;cases vs;rfl
  | cons d ds ih =>
   cases rs with
   | cons r t =>
   cases vs with
   | cons q t' =>
    rename_i v' vs' u us
    rw[ABK,AAS]at ok
    have h:∃d v',Rep X.K ρ H d v'/\aI v' u/\okD M eqN d=true:=⟨d,_,r,q,ok.1⟩
    rw[List.any_cons,List.any_cons,ih t t' ok.2,dif_pos h]
    obtain⟨v2,p1,p2,p3⟩:=h.choose_spec
    have ev:=aI.inj p2 q
    subst ev
    rw[nZ I sm eqN _ d x _ p1 r p3 ok.1]
theorem yS(neg:Bool)(hr:Room k X.A):OpD X (compareOp (if neg then .NotIn else .In)) (Cv neg):=by
 rintro pins s σ H vx vy v u R I rx ry ⟨x,y,M,ρ,Q,sm,r1,r2,q,k⟩
 cases r2 with
 | non=>exact q.elim
 | bl b=>exact q.elim
 | int b=>exact q.elim
 | ty b=>exact q.elim
 | str z =>
  cases r1 with
  | str p =>
   obtain⟨t,rfl⟩:=rx
   obtain⟨t',rfl⟩:=ry
   cases neg with
   | false=>exact in_str (dO I sm k (by simpa [Cv]using q))
   | true=>exact notIn_str (dO I sm k (by simpa [Cv]using q))
  | _=>exact q.elim
 | @tup a ws ys hq r =>
  cases ry
  obtain⟨⟨o1,o2⟩,q⟩:=(show (okD M eqN x=true/\_)/\_ from q)
  obtain⟨its,rr,pl,hz⟩:=I.tuple hq
  obtain⟨e,he,ee⟩:=wb hr I sm r1 rx o1 r rr o2
  have ea:its.toArray.any e=inD M x ys:=by rw[<-ee];simp
  cases neg with
  | false=>exact SeqAt.in_tupleAt e pl (λw hw=>he w (by simpa using hw)) (by rw[ea];exact dO I sm k (by simpa using q))
  | true=>exact SeqAt.notIn_tupleAt e pl (λw hw=>he w (by simpa using hw)) (by rw[ea];exact dO I sm k (by simpa using q))
 | ref h =>
  cases ry
  obtain⟨ys,hL,⟨o1,o2⟩,q⟩:=(show ∃ys,ao M _ ys/\(okD M eqN x=true/\_)/\_ from q)
  obtain⟨ws,hq,r⟩:=ao.seq sm hL h
  obtain⟨its,rr,pl,hz⟩:=I.list hq
  obtain⟨e,he,ee⟩:=wb hr I sm r1 rx o1 r rr o2
  have ea:its.toArray.any e=inD M x ys:=by rw[<-ee];simp
  cases neg with
  | false=>exact SeqAt.in_listAt e pl.isList (λw hw=>he w (by simpa using hw)) (by rw[ea];exact dO I sm k (by simpa using q))
  | true=>exact SeqAt.notIn_listAt e pl.isList (λw hw=>he w (by simpa using hw)) (by rw[ea];exact dO I sm k (by simpa using q))
theorem od_in(hr:Room k X.A):OpD X (compareOp .In) qIn:=yS false hr
theorem xF(hr:Room k X.A):OpD X (compareOp .NotIn) ny:=yS true hr
end
theorem Fb:bootBuiltins "len" = some (.builtin "len"):=by decide +kernel
theorem de:bootBuiltins "isinstance" = some (.builtin "isinstance"):=by decide +kernel
theorem oN:bootBuiltins "sorted" = some (.builtin "sorted"):=by decide +kernel
theorem Fc:bootBuiltins "int" = some (.type "int"):=by decide +kernel
theorem BF:bootBuiltins "bool" = some (.type "bool"):=by decide +kernel
theorem yG:bootBuiltins "tuple" = some (.type "tuple"):=by decide +kernel
theorem BE:bootBuiltins "dict" = some (.type "dict"):=by decide +kernel
noncomputable def visB(sc:Scope)(x:Str):Bool:=match sc.names.lookup x with
 | some .local=>true
 | some .cell=>true
 | some .free=>true
 | _=>false
theorem Ca(h:visB sc x=true):Vis sc x:=by
 unfold visB at h
 unfold Vis
 split at h
 ·rename_i e;exact .inl e
 ·rename_i e;exact .inr (.inl e)
 ·rename_i e;exact .inr (.inr e)
 ·cases h
noncomputable def Ao(sc:Scope)(x:Str):Bool:=match sc.names.lookup x with
 | some .local=>true
 | some .cell=>true
 | _=>false
theorem rC(h:Ao sc x=true):Loc sc x:=by
 unfold Ao at h
 unfold Loc
 split at h
 ·rename_i e;exact .inl e
 ·rename_i e;exact .inr e
 ·cases h
structure HE(X:Cx)(e:Expr)(t:DTE):Prop where
 ok:DE X e t
structure HT(X:Cx)(e:Expr)(t:DTT):Prop where
 ok:DT X e t
structure HW(X:Cx)(e:Expr)(t:DTT):Prop where
 ok:DW X e t
structure HA(X:Cx)(es:List Expr)(t:DTA):Prop where
 ok:DA X es t
structure HS(X:Cx)(e:Stmt)(t:DTS):Prop where
 ok:DS X e t
structure HB(X:Cx)(e:List Stmt)(t:DTS):Prop where
 ok:DSs X e t
structure HG(X:Cx)(e:Expr)(t:DTG):Prop where
 ok:DG X e t
structure HI(X:Cx)(tg e:Expr)(t:DTI):Prop where
 ok:DI X tg e t
structure HTs(X:Cx)(e:List Expr)(t:DTT):Prop where
 ok:PTs X e (lowT X.K t)
structure HO'(X:Cx)(e:Option Expr)(t:DTO):Prop where
 ok:PO X e (Dq X.K t)
structure HOp(X:Cx)(f:Value->Value->Sem Value)(r:DR2):Prop where
 ok:OpD X f r
structure HUn(X:Cx)(f:Value->Sem Value)(r:DR1):Prop where
 ok:UnD X f r
structure HC(X:Cx)(f:Value)(r:DRA):Prop where
 ok:my X f r
structure HMs(X:Cx)(name:Str)(r:Str->DRA):Prop where
 ok:∃id,Slot "str" name id/\typeOf (.builtin id)=pure (.type "method_descriptor")/\MtR X id (lowMs X.K r)
structure HMl(X:Cx)(name:Str)(r:Nat->DRA):Prop where
 ok:∃id,Slot "list" name id/\typeOf (.builtin id)=pure (.type "method_descriptor")/\MtR X id (sM X.K r)
section
variable{X:Cx}{e a b c o:Expr}{es aE:List Expr}{te ta tb tc to:DTE}{t:DTA}{pos p:Pos}{x:Str}{tA tB:DTT}{k:Nat}
theorem k_var(hN:X.N[i]?=some x:=by kernel_rfl)(hv:visB X.env.scope x=true:=by kernel_rfl)(hd:(x==("__debug__":Str))=false:=by kernel_rfl)
  (hcd:(x==("__classdict__":Str))=false:=by kernel_rfl):HE X (.Name x pos) (ac i):=⟨d_var hN (Ca hv) hd hcd⟩
theorem k_int:HE X (.Constant (.int i) j pos) (dC (.int i)):=⟨d_int⟩
theorem k_bl:HE X (.Constant (.bool i) j pos) (dC (.bl i)):=⟨d_bl⟩
theorem k_non:HE X (.Constant .none j pos) (dC .non):=⟨d_non⟩
theorem k_str:HE X (.Constant (.str i) j pos) (dC (.str i)):=⟨d_str⟩
theorem DU(hm:X.mg x=none)(hv:bootBuiltins x=some (.type T))(hg:X.env.kindOf x=some .globalImplicit:=by kernel_rfl)(hn:(x==("__name__":Str))=false:=by kernel_rfl)(hb:(x==("__debug__":Str))=false:=by kernel_rfl):HE X (.Name x pos) (dC (.ty T)) :=
 ⟨ER hm hv hg (by simpa using hn) hb⟩
theorem k_op(ho:HOp X (binaryOp op) r)(ha:HE X a ta)(hb:HE X b tb):HE X (.BinOp a op b pos) (dOp r ta tb):=⟨d_op ho.ok ha.ok hb.ok⟩
theorem k_cmp(ho:HOp X (compareOp op) r)(ha:HE X a ta)(hb:HE X b tb)(hm:behindInMarks op b=false:=by kernel_rfl):HE X (.Compare a [op] [b] pos) (dOp r ta tb):=⟨d_cmp ho.ok ha.ok hb.ok hm⟩
theorem Dx(ho:HOp X (compareOp op) r)(ha:HE X a ta)(hb:HE X b tb)(hm:behindInMarks op b=false:=by kernel_rfl):HT X (.Compare a [op] [b] pos) (aG (dOp r ta tb)):=⟨EB ho.ok ha.ok hb.ok hm⟩
theorem AM(ho:HOp X (compareOp op) r)(ho':HOp X (compareOp op') r')(ha:HE X a ta)(hb:HE X b tb)(hc:HE X c tc)(hm:lastMarks [op,op'] [b,c]=false:=by kernel_rfl) :
  HE X (.Compare a [op,op'] [b,c] pos) (oA r r' ta tb tc):=⟨Bx ho.ok ho'.ok ha.ok hb.ok hc.ok hm⟩
theorem Dv(h:HE X e te)(he:∀whole,isTrue e X.env whole=(do let v <-whole;standAt e.pos;holding [v] (truthy v)):=by intro _;kernel_rfl):HT X e (aG te):=⟨Ez h.ok he⟩
theorem Aw(ha:HT X a tA):HW X (.BoolOp .And [a] pos) tA:=⟨Bi ha.ok⟩
theorem Dt(ha:HT X a tA):HW X (.BoolOp .Or [a] pos) tA:=⟨Ew ha.ok⟩
theorem yX(ha:HT X a tA)(hb:HW X (.BoolOp .And (b::aE) pos) tB):HW X (.BoolOp .And (a::b::aE) pos) (EV tA tB):=⟨Ey ha.ok hb.ok⟩
theorem Du(ha:HT X a tA)(hb:HW X (.BoolOp .Or (b::aE) pos) tB):HW X (.BoolOp .Or (a::b::aE) pos) (dOr tA tB):=⟨dw_or ha.ok hb.ok⟩
theorem kw_t(h:HW X e tA):HT X e tA:=⟨dw_t h.ok⟩
theorem Dw(ha:HT X a tA):HT X (.UnaryOp .Not a pos) (BO tA):=⟨EA ha.ok⟩
theorem k_one{op}(h:HE X a ta):HE X (.BoolOp op [a] pos) ta:=⟨d_one h.ok⟩
theorem k_and(ha:HE X a ta)(hb:HE X (.BoolOp .And (b::aE) pos) tb):HE X (.BoolOp .And (a::b::aE) pos) (gW ta tb):=⟨d_and ha.ok hb.ok⟩
theorem k_or(ha:HE X a ta)(hb:HE X (.BoolOp .Or (b::aE) pos) tb):HE X (.BoolOp .Or (a::b::aE) pos) (dOrV ta tb):=⟨d_or ha.ok hb.ok⟩
theorem k_not(ha:HE X a ta):HE X (.UnaryOp .Not a pos) (yD ta):=⟨d_not ha.ok⟩
theorem DR:HA X [] af:=⟨EQ⟩
theorem AI(ha:HE X e te)(hr:HA X es t)(hs:starEach (e::es) X.env=(false,eval e X.env)::starEach es X.env:=by kernel_rfl):HA X (e::es) (aa te t):=⟨Bu ha.ok hr.ok hs⟩
theorem k_tup{x1}(h:HA X es t):HE X (.Tuple es x1 pos) (fH t):=⟨d_tup h.ok⟩
theorem k_lst(h:HA X es t):HE X (.List es pos) (iw t):=⟨d_lst h.ok⟩
theorem AN{id:String}{r:DRA}(hc:HC X (.builtin id) r)(hm:X.mg x=none)(hv:bootBuiltins x=some (.builtin id))(ha:HA X (e::es) t)(hg:X.env.kindOf x=some .globalImplicit:=by kernel_rfl)(hn:(x==("__name__":Str))=false:=by kernel_rfl)(hdb:(x==("__debug__":Str))=false:=by kernel_rfl)
  (he:starEach (e::es) X.env=(false,eval e X.env)::starEach es X.env:=by kernel_rfl) (hpl:(backTo pos (starEach es X.env)).any (·.1)=false:=by kernel_rfl):HE X (.Call (.Name x p) (e::es) [] pos) (dCB r t):=⟨By hc.ok hm hv ha.ok hg (by simpa using hn) hdb he hpl⟩
theorem yc(hc:HC X (.type T) r)(hm:X.mg x=none)(hv:bootBuiltins x=some (.type T))(ha:HA X (e::es) t)(hg:X.env.kindOf x=some .globalImplicit:=by kernel_rfl)(hn:(x==("__name__":Str))=false:=by kernel_rfl)(hdb:(x==("__debug__":Str))=false:=by kernel_rfl)
  (he:starEach (e::es) X.env=(false,eval e X.env)::starEach es X.env:=by kernel_rfl) (hpl:(backTo pos (starEach es X.env)).any (·.1)=false:=by kernel_rfl):HE X (.Call (.Name x p) (e::es) [] pos) (dCB r t):=⟨yC hc.ok hm hv ha.ok hg (by simpa using hn) hdb he hpl⟩
theorem k_cal(C:Cal X.prog X.w X.K X.mg X.base j x ps P)(hr:Room k X.A)(ha:HA X (e::es) t)(hj:Nat.ble j k=true:=by kernel_rfl)
  (hg:X.env.kindOf x=some .globalImplicit:=by kernel_rfl) (hdb:(x==("__debug__":Str))=false:=by kernel_rfl) (he:starEach (e::es) X.env=(false,eval e X.env)::starEach es X.env:=by kernel_rfl) (hpl:(backTo pos (starEach es X.env)).any (·.1)=false:=by kernel_rfl) :
  HE X (.Call (.Name x p) (e::es) [] pos) (dCB P t):=⟨d_cal C hr ha.ok (Nat.le_of_ble_eq_true hj) hg hdb he hpl⟩
theorem k_ix(ha:HE X a ta)(hb:HE X b tb)(hs:qo b:=by intro _ _;kernel_rfl):HE X (.Subscript a b pos) (dOp qIx ta tb):=⟨d_ix ha.ok hb.ok hs⟩
theorem AE:HO' X none dP:=⟨Bp⟩
theorem AD(h:HE X e te):HO' X (some e) (jZ te):=⟨Bo h.ok⟩
theorem AL{lo hi:Option Expr}{tl th:DTO}{p2:Pos}(he:HE X e te)(hl:HO' X lo tl)(hu:HO' X hi th):HE X (.Subscript e (.Slice lo hi none p2) pos) (dSl te tl th):=⟨Bw he.ok hl.ok hu.ok⟩
variable{name:Str}{apos cpos:Pos}
theorem k_ml(hm:HMl X name r)(ho:HE X o to)(ha:HA X (e::es) t)
  (hbase:attributeBase o name X.env (eval o X.env)=eval o X.env:=by kernel_rfl)
  (hfew:((backTo cpos (starEach (e::es) X.env)).all (λx=>!x.1)&&(backToKw cpos (keywordEach [] X.env)).all (λx=>x.1.isSome)
   && decide ((e::es).length+([]:List Keyword).length+(if ([]:List Keyword).isEmpty then 0 else 1)<30))=true:=by kernel_rfl)
  (hline:(apos.endLine==cpos.line)=true:=by kernel_rfl) (hs:starEach (e::es) X.env=(false,eval e X.env)::starEach es X.env:=by kernel_rfl) (hplain:(backTo cpos (starEach es X.env)).any (·.1)=false:=by kernel_rfl) :
  HE X (.Call (.Attribute o name apos) (e::es) [] cpos) (dMl r to t):=let ⟨_,h1,h2,h3⟩:=hm.ok;⟨d_ml h1 h2 h3 ho.ok ha.ok hbase hfew hline hs hplain⟩
variable{st:Stmt}{sts:List Stmt}{ts us:DTS}{aS bS:List Stmt}
theorem Dz:HB X [] be:=⟨EH⟩
theorem Dy(h:HS X st ts):HB X [st] ts:=⟨EG h.ok⟩
theorem AC(h1:HS X st ts)(h2:HB X sts us):HB X (st::sts) (aB ts us):=⟨Bn h1.ok h2.ok⟩
theorem vU(he:HE X e te)(hs:swapsWith e none pos.line X.env=pure false:=by kernel_rfl):HS X (.Expr e pos) (ix te):=⟨Bm he.ok hs⟩
theorem zb(he:HE X e te):HS X (.Return (some e) pos) (bu te):=⟨EF he.ok⟩
theorem DB(hc:HT X c tA)(ha:HB X aS ts)(hb:HB X bS us):HS X (.If c aS bS pos) (dIf tA ts us):=⟨ds_if hc.ok ha.ok hb.ok⟩
theorem za(hN:X.N.Nodup)(he:HE X e te)(hi:X.N[i]?=some x:=by kernel_rfl)(hx:Ao X.env.scope x=true:=by kernel_rfl)(hs:swapsWith e (some (.Name x pos')) pos.line X.env=pure false:=by kernel_rfl)
  (hf:X.fn x=true:=by kernel_rfl):HS X (.Assign [.Name x pos'] e pos) (aW te i):=⟨ED hN he.ok hi (rC hx) hs (.inl hf)⟩
theorem AH(hN:X.N.Nodup)(hi:X.N[i]?=some x:=by kernel_rfl)(hx:Ao X.env.scope x=true:=by kernel_rfl)(hf:X.fn x=true:=by kernel_rfl):HG X (.Name x pos) (ay i):=⟨qf hN hi (rC hx) (.inl hf)⟩
theorem DJ(hN:X.N.Nodup)(hi:X.N[i]?=some x:=by kernel_rfl)(hf:X.env.scope.names.lookup x=some .local:=by kernel_rfl):HG X (.Name x pos) (ay i):=⟨qf hN hi (.inl hf) (.inr hf)⟩
variable{tg iter:Expr}{di:DTI}{g:DTG}
theorem DC(h:HE X e te):HI X tg e (dc te):=⟨EK h.ok⟩
theorem zc{body:List Stmt}{tb:DTS}(hi:HI X tg iter di)(hg:HG X tg g)(hb:HB X body tb)(hp:PassesOwn (model X.prog X.w) X.A X.env X.xe:=by exact PassesOwn.never)(hc:X.calm=true:=by kernel_rfl)
  (hs:∀x,foldedSetIterable iter X.env x=pure x:=by intro _;kernel_rfl):HS X (.For tg iter body [] pos) (mn di g tb):=⟨EI hi.ok hg.ok hb.ok hp hc hs⟩
theorem AA:HTs X [] wD:=⟨Bk⟩
theorem Az(h:HT X c tA):HTs X [c] tA:=⟨Bj h.ok⟩
theorem k_lc(hi:HI X tg iter di)
  (hg:∀cl s0 H0 ex,HG (blk X N' scope cl s0 H0 ex) tg g) (ht:∀cl s0 H0 ex,HTs (blk X N' scope cl s0 H0 ex) ifs tt) (he:∀cl s0 H0 ex,HE (blk X N' scope cl s0 H0 ex) elt te) (B:lc X.env.scope.names X.N N' nt js scope=true:=by kernel_rfl) (hc:X.calm=true:=by kernel_rfl)
  (hs:∀x,foldedSetIterable iter X.env x=pure x:=by intro _;kernel_rfl):HE X (.ListComp elt [⟨tg,iter,ifs,0⟩] scope pos) (dLC nt js di g tt te):=⟨d_lc (BlkSc.chk B) hi.ok (λcl s0 H0 ex=>(hg cl s0 H0 ex).ok) (λcl s0 H0 ex=>(ht cl s0 H0 ex).ok) (λcl s0 H0 ex=>(he cl s0 H0 ex).ok) hc hs⟩
theorem vX(hm:X.mg "range" = none)(ha:HA X [a] t)(hg:X.env.kindOf "range" = some .globalImplicit:=by kernel_rfl)(hs:starEach [a] X.env=[(false,eval a X.env)]:=by kernel_rfl):HI X tg (.Call (.Name "range" p) [a] [] pos) (db t):=⟨wA hm ha.ok hg hs⟩
theorem vW(hm:X.mg "range" = none)(ha:HA X [a,b] t)(hg:X.env.kindOf "range" = some .globalImplicit:=by kernel_rfl)(hs:starEach [a,b] X.env=[(false,eval a X.env),(false,eval b X.env)]:=by kernel_rfl)(hs2:starEach [b] X.env=[(false,eval b X.env)]:=by kernel_rfl) :
  HI X tg (.Call (.Name "range" p) [a,b] [] pos) (mj t):=⟨wz hm ha.ok hg hs hs2⟩
theorem Ef:HOp X (binaryOp .Sub) Cu:=⟨Df⟩
theorem Ei:HOp X (binaryOp .Mult) lG:=⟨Aj⟩
theorem AW:HOp X (binaryOp .FloorDiv) ph:=⟨Ak⟩
theorem Ej:HOp X (binaryOp .Mod) uP:=⟨Di⟩
theorem ho_lt:HOp X (compareOp .Lt) qLt:=⟨od_lt⟩
theorem ho_le:HOp X (compareOp .LtE) qLe:=⟨od_le⟩
theorem ho_gt:HOp X (compareOp .Gt) qGt:=⟨od_gt⟩
theorem ho_ge:HOp X (compareOp .GtE) qGe:=⟨od_ge⟩
theorem ho_is:HOp X (compareOp .Is) qIs:=⟨od_is⟩
theorem ho_eq(hr:Room k X.A):HOp X (compareOp .Eq) qEq:=⟨od_eq hr⟩
theorem ho_ne(hr:Room k X.A):HOp X (compareOp .NotEq) qNe:=⟨od_ne hr⟩
theorem ho_in(hr:Room k X.A):HOp X (compareOp .In) qIn:=⟨od_in hr⟩
theorem yf(hr:Room k X.A):HOp X (compareOp .NotIn) ny:=⟨xF hr⟩
theorem Em:HC X (.builtin "len") mB:=⟨EY⟩
theorem En:HC X (.builtin "isinstance") yP:=⟨EZ⟩
theorem wf:HMl X "append" bW:=⟨_,PySem.F.slot_list_append,PySem.F.type_list_append,sK⟩
end
theorem Cal.byH{P:Program}{w:World}{K:AA3}{mg:Str->Option Value}{base:Heap}{x:Str}{st:Stmt}{N ps:List Str}{k:Nat}{Pr:DSp}(F:cw K mg x st ps)(Sc:FnScope N ps (ak st))
  (len:∀ds M R,Pr ds M R->ds.length=ps.length) {t:DTS}
  (der:∀(f:Addr) (cdv:Value) (A:Around) (outer:List Env) (s:Shared) (H:Hp) (E:XK),Room k (A.deeper (envOfC x (ak st) s.heap.objs.size f cdv))->HB (jL CX0 P w K mg base N x (ak st) f cdv A outer s H E).nox (bg st) t)
  (wp:∀ds M R,Pr ds M R->t ⟨λ_ M'=>aX M R .non M',aX M R,λ_ _=>False,λ_ _=>False⟩ (bv N ds) M):Cal P w K mg base (k+1) x ps Pr :=
 Cal.of F Sc len (λf cdv A outer s H E hr=>(der f cdv A outer s H E hr).ok) wp
theorem yk{P:Program}{w:World}{K:AA3}{mg:Str->Option Value}{base:Heap}{x:Str}{st:Stmt}{N ps:List Str}{k:Nat}{Pr:DSp}{f:Addr}{fd:FuncData}(F:Fun K x x st f fd)(Sc:FnScope N ps (ak st))
  (len:∀ds M R,Pr ds M R->ds.length=ps.length) {t:DTS}
  (der:∀(f:Addr) (cdv:Value) (A:Around) (outer:List Env) (s:Shared) (H:Hp) (E:XK),Room k (A.deeper (envOfC x (ak st) s.heap.objs.size f cdv))->HB (jL CX0 P w K mg base N x (ak st) f cdv A outer s H E).nox (bg st) t)
  (wp:∀ds M R,Pr ds M R->t ⟨λ_ M'=>aX M R .non M',aX M R,λ_ _=>False,λ_ _=>False⟩ (bv N ds) M):FnOk P w K mg base CX0 (k+1) f fd ps (spL K Pr) :=
 Bb F Sc len (λf cdv A outer s H E hr=>(der f cdv A outer s H E hr).ok) wp
section
variable{ok:Mem->Prop}{g:DTG}{tb:DTS}{E:DEnds}{k0:Mem}
theorem gu(I:List D->SD->Mem->Prop)(h0:∀S M,I [] S M->ok M/\E.nx S M)
  (h1:∀x xs S M,I (x::xs) S M->∀L:SD->Mem->Prop,(∀S' M',I xs S' M'->L S' M')->ok M/\g x S M λS2 M2=>tb ⟨Fgt k0 L,E.rt,E.nx,Fgt k0 L⟩ S2 M2) :
  ∀xs S M,I xs S M->oz ok g tb E k0 xs S M
 | [],S,M,h=>h0 S M h
 | x::xs,S,M,h=>h1 x xs S M h _ (gu I h0 h1 xs)
theorem bo(I:Nat->SD->Mem->Prop)(h0:∀S M,I xs.length S M->ok M/\E.nx S M)
  (h1:∀i x S M,xs[i]?=some x->I i S M->∀L:SD->Mem->Prop,(∀S' M',I (i+1) S' M'->L S' M')->ok M/\g x S M λS2 M2=>tb ⟨Fgt k0 L,E.rt,E.nx,Fgt k0 L⟩ S2 M2)
 (h:I 0 S M):oz ok g tb E k0 xs S M:=by
 refine gu (λys S M=>∃i,xs.drop i=ys/\i+ys.length=xs.length/\I i S M) ?_ ?_ xs S M ⟨0,rfl,by simp,h⟩
 ·rintro S M ⟨i,_,e,q⟩
  have:i=xs.length:=by simpa using e
  subst this
  exact h0 S M q
 ·rintro x ys S M ⟨i,e,el,q⟩ L hL
  have hx:xs[i]?=some x:=by
   have:(xs.drop i)[0]?=some x:=by rw[e];rfl
   simpa using this
  refine h1 i x S M hx q L λS' M' q'=>hL S' M' ⟨i+1,?_,by simp at el;lia,q'⟩
  rw[<-List.drop_drop,e]
  rfl
theorem Fgt.now(h:P S M):Fgt k0 P S M:=.inl h
theorem eD{lo:Int}{n i:Nat}{x:D}:(nw lo n)[i]?=some x↔i<n/\x=.int (lo+(i:Int)):=by
 unfold nw
 rw[AAT]
 by_cases h:i<n
 ·simp[h,eq_comm]
 ·simp[h]
theorem eA{lo:Int}{n:Nat}:(nw lo n).length=n:=by simp[nw]
end
theorem bR(p:D->Bool)(f:D->D)(I:SD->Prop)(hok:ok M) :
  ∀(xs acc:List D) (S:SD),(∀x∈xs,∀S,I S->∃S',I S'/\∀(Y:D->SD->Mem->Prop) (Z:SD->Mem->Prop),(if p x=true then Y (f x) S' M else Z S' M) ->
    g x S M λS2 M2=>tt S2 M2 λb M3=>if b=true then te S2 M3 λy M4=>Y y S2 M4 else Z S2 M3) ->
   I S->acc.length+xs.length<=sizeLine->Q (.ref M.length) (M++[.lst (acc++(xs.filter p).map f)])->ka ok g tt te Q xs acc S M
 | [],acc,S,_,_,_,q=>⟨hok,by simpa using q⟩
 | x::xs,acc,S,step,hS,hl,q=>by
  obtain⟨S',hS',k⟩:=step x AAG S hS
  refine⟨hok,k (λy S2 M4=>acc.length<sizeLine/\ka ok g tt te Q xs (acc++[y]) S2 M4) (λS2 M3=>ka ok g tt te Q xs acc S2 M3) ?_⟩
  have step':=λy hy=>step y (AA9 _ hy)
  rw[AAL]at hl
  by_cases hp:p x=true
  ·rw[if_pos hp]
   refine⟨by lia,bR p f I hok xs _ S' step' hS' (by rw[AAE,AAg];lia) ?_⟩
   rw[List.filter_cons_of_pos hp,AAe]at q
   rw[AAw]
   exact q
  ·rw[if_neg hp]
   refine bR p f I hok xs acc S' step' hS' (by lia) ?_
   rw[List.filter_cons_of_neg hp]at q
   exact q
theorem dR(f:D->D)(I:SD->Prop)(hok:ok M)
  (xs acc:List D) (S:SD) (step:∀x∈xs,∀S,I S->∃S',I S'/\∀(Y:D->SD->Mem->Prop),Y (f x) S' M->g x S M λS2 M2=>te S2 M2 λy M4=>Y y S2 M4)
  (hS:I S) (hl:acc.length+xs.length<=sizeLine) (q:Q (.ref M.length) (M++[.lst (acc++xs.map f)])):ka ok g wD te Q xs acc S M:=by
 refine bR (λ_=>true) f I hok xs acc S (λx hx S hS=>?_) hS hl (by rw[List.filter_eq_self.mpr λ_ _=>rfl];exact q)
 obtain⟨S',hS',k⟩:=step x hx S hS
 refine⟨S',hS',λY Z h=>?_⟩
 rw[if_pos rfl]at h
 have:=k Y h
 simp only[wD,if_true]
 exact this
theorem ag:(M++[mo])[M.length]?=some mo:=by simp
theorem aF:ao (M++[.lst xs]) M.length xs:=.inl ag
theorem ao.more(h:ao M n xs)(L:Mem):ao (M++L) n xs:=by
 have key:∀{mo:MO},M[n]?=some mo->(M++L)[n]?=some mo:=λe=>by
  rw[AAJ (AA7.mp e).1];exact e
 rcases h with h | h | h
 ·exact .inl (key h)
 ·exact .inr (.inl (key h))
 ·exact .inr (.inr (key h))
theorem aX.keep(h:R d M)(b:Bel M.length d)(p:M <+: M'):aX M R d M':=.inr (.inl ⟨M,.refl,b,p,h⟩)
theorem aX.now(h:R d M):aX M R d M:=.inl h
theorem kO:M <+: M++[mo]:=AAY _ _
theorem zx{a b:Str}(h:a.cps.toList=b.cps.toList):a=b:=by
 cases a;cases b
 simp only[Array.toList_inj]at h
 simpa using h
theorem jA{a:Str}:a.length=a.cps.toList.length:=by show a.cps.size=_;simp
theorem BG{a b:Str}:(a++b).cps.toList=a.cps.toList++b.cps.toList:=by
 show (a.cps++b.cps).toList=_
 simp
theorem bG{a b:Str}:(a++b).length=a.length+b.length:=by
 rw[jA,jA,jA,BG,AAE]
theorem ap(h:n<=1000):n<=sizeLine:=ADq (aY h)
theorem fg{α:Type}{xs:List α}{i:Int}(h0:0<=i)(h1:i<xs.length):∃(j:Nat) (hj:j<xs.length),atI xs i=some xs[j]/\(j:Int)=i:=by
 have hj:i.toNat<xs.length:=by lia
 refine⟨i.toNat,hj,?_,by lia⟩
 have e:i=((i.toNat:Nat):Int):=by lia
 have q:atI xs ((i.toNat:Nat):Int)=some xs[i.toNat]:=az (AA5 hj)
 rw[<-e]at q
 exact q
section
variable{M:Mem}
theorem mH(h:tyD M (.ref n)∈oP):tyD M (.ref n) = "list":=by
 unfold tyD at h ⊢
 try dsimp only at h ⊢
 cases e:M[n]? with
 | some mo =>
  rw[e]at h
  cases q:mo.isL with
  | true=>exact if_pos q
  | false =>
   simp only[q,AAA,if_false]at h
   exact absurd h (by decide)
 | none=>rw[e]at h;exact absurd h (by decide)
end
section
variable{M:Mem}
theorem ao.get(h:ao M n xs):∃mo,M[n]?=some mo/\mo.items=xs/\mo.isL=true:=by
 rcases h with h | h | h<;>exact⟨_,h,rfl,rfl⟩
theorem rJ(h1:ao M i xs)(h2:ao M j ys):eqD M (n+1) (.ref i) (.ref j)=eqL (eqD M n) xs ys:=by
 obtain⟨a,ha,rfl,hl1⟩:=h1.get
 obtain⟨b,hb,rfl,hl2⟩:=h2.get
 simp only[eqD,ha,hb]
theorem lQ(h1:ao M i xs)(h:∀x∈xs,okD M n x=true):okD M (n+1) (.ref i)=true:=by
 obtain⟨a,ha,rfl,hl1⟩:=h1.get
 simp only[okD,ha,hl1,Bool.true_and]
 exact AAU.mpr h
theorem Ah(h:∀x∈xs,okD M n x=true):okD M (n+1) (.tup xs)=true:=by
 simp only[okD]
 exact AAU.mpr h
theorem aZ:okD M n (.str x)=true:=by cases n<;>rfl
theorem lR:okD M n (.int x)=true:=by cases n<;>rfl
theorem yR:okD M n (.bl x)=true:=by cases n<;>rfl
theorem vp:okD M n .non=true:=by cases n<;>rfl
theorem Bf:eqL f xs []=xs.isEmpty:=by cases xs<;>rfl
theorem jG:eqD M n (.int a) (.int b)=(a==b):=by cases n<;>rfl
theorem cc:eqD M n (.str a) (.str b)=(a==b):=by cases n<;>rfl
end
section
variable{X:Cx}{pos:Pos}
def ou:zn:=λds S M Q=>match ds with
 | []=>Q S M
 | _=>False
def ci(t:DTG)(u:zn):zn:=λds S M Q=>match ds with
 | d::r=>t d S M λS' M'=>u r S' M' Q
 | []=>False
def oq(n:Nat)(t:zn):DTG:=λd S M Q=>match d with
 | .tup ds=>ds.length=n/\t ds S M Q
 | _=>False
theorem Bq:DGs X [] ou:=by
 rintro pins s σ H vs us R I r ⟨ds,S,M,ρ,Q,sm,sr,rr,q,k⟩
 cases rr with
 | nil=>exact zU pins s σ H _ us R I r ⟨rfl,k σ H ⟨S,M,ρ,sm,.refl,sr,q⟩⟩
 | cons _ _=>exact q.elim
theorem yz(h1:DG X e t)(h2:DGs X es u)
  (hs:(assignEach (e::es) X.env).map (·.2)=assign e X.env::(assignEach es X.env).map (·.2):=by rfl):DGs X (e::es) (ci t u):=by
 rintro pins s σ H vs us R I r ⟨ds,S,M,ρ,Q,sm,sr,rr,q,k⟩
 cases rr with
 | nil=>exact q.elim
 | cons r1 rr =>
  refine xw h1 h2 hs pins s σ H _ us R I r ⟨_,_,rfl,_,S,M,ρ,_,sm,sr,r1,q,?_⟩
  rintro σ1 H1 ⟨S1,M1,ρ1,s1,g1,sr1,q1⟩
  exact⟨_,S1,M1,ρ1,Q,s1,sr1,rr.grow g1,q1,λσ' H' w=>k σ' H' (SQ.trans g1 w)⟩
theorem EL(h:DGs X es t)(hc:X.calm=true:=by rfl)
  (hn:(assignEach es X.env).length=n:=by rfl) (hst:(assignEach es X.env).findIdx? (·.1)=none:=by rfl):DG X (.Tuple es j pos) (oq n t):=by
 rintro pins s σ H v u R I r ⟨d,S,M,ρ,Q,sm,sr,rd,q,k⟩
 cases rd with
 | tup hq rr=>exact CI hc h hn hst pins s σ H _ u R I r ⟨_,_,rfl,hq,by rw[<-rr.length];exact q.1,_,S,M,ρ,Q,sm,sr,rr,q.2,k⟩
 | _=>exact q.elim
def dAsg(te:DTE)(g:DTG):DTS:=λE S M=>te S M λd M1=>g d S M1 E.nx
theorem EJ(he:DE X e te)(hg:DG X tg g)(hs:swapsWithSole [tg] e pos.line X.env=pure false:=by rfl)(hw:swappedStores [tg] e X.env=pure none:=by rfl)
  (h1:(assignEach [tg] X.env).map (·.2)=[assign tg X.env]:=by rfl):DS X (.Assign [tg] e pos) (dAsg te g):=by
 refine PS.imp (CF he hg hs hw h1) ?_
 rintro E σ H ⟨S,M,ρ,F,s,sr,q,k⟩
 refine⟨S,M,ρ,_,s,sr,q,?_⟩
 rintro v H1 ⟨d,M1,ρ1,s1,g1,r1,q1⟩
 exact⟨d,S,M1,ρ1,_,s1,sr.grow g1,r1,q1,λσ' H' w=>k.nx σ' H' (SQ.trans g1 w)⟩
def qSet:D->D->D->Mem->(Mem->Prop)->Prop:=λo i v M Q=>match o,i with
 | .ref n,.int k=>∃xs j,M[n]?=some (.lst xs)/\ixN xs.length k=some j/\Q (M.set n (.lst (xs.set j v)))
 | _,_=>False
theorem Reps.set{K:AA3}{ρ:List Addr}{H:Hp}{d:D}{v:V}(r:Rep K ρ H d v):∀{ds:List D}{vs:List V} (i:Nat),Reps K ρ H ds vs->Reps K ρ H (ds.set i d) (vs.set i v)
 | _,_,_,.nil=>.nil
 | _,_,0,.cons _ t=>.cons r t
 | _,_,i+1,.cons q t=>.cons q (Reps.set r i t)
def yA(to ti:DTE):DTG:=λv S M Q=>to S M λo M1=>ti S M1 λi M2=>qSet o i v M2 λM3=>Q S M3
theorem EM(ho:DE X o to)(hi:DE X i ti)
  (ha:∀v,assign (.Subscript o i pos) X.env v=(do
   let ov <-holding [v] (eval o X.env)
   let iv <-holding [v,ov] (eval i X.env)
   standAt pos
   holding [v,ov,iv] (setItem ov iv v)
   release [v,ov,iv] []):=by intro _;rfl):DG X (.Subscript o i pos) (yA to ti):=by
 rintro pins s σ H v u R I r ⟨d,S,M,ρ,Q,sm,sr,rd,q,k⟩
 refine CJ ho hi xn ha pins s σ H v u R I r ⟨S,M,ρ,_,sm,sr,q,?_⟩
 rintro vo H1 ⟨o',M1,ρ1,s1,g1,r1,q1⟩
 refine⟨S,M1,ρ1,_,s1,sr.grow g1,q1,?_⟩
 rintro vi H2 ⟨i',M2,ρ2,s2,g2,r2,q2⟩
 have r1':=r1.grow g2
 cases r1' with
 | @ref n a hn =>
  cases r2 with
  | int j =>
   obtain⟨xs,jj,e,hj,q3⟩:=(show ∃xs j',M2[n]?=some (.lst xs)/\ixN xs.length j=some j'/\Q S (M2.set n (.lst (xs.set j' d)))from q2)
   obtain⟨vs,hH,rr⟩:=s2.obj n a _ hn e
   obtain⟨w1,w2⟩:=s2.write hn e hH (Reps.set (rd.grow (g1.trans g2)) jj rr)
   exact⟨a,vs,j,jj,rfl,rfl,hH,by rw[<-rr.length];exact hj,k σ _ ⟨S,_,ρ2,w1,(g1.trans g2).trans w2,sr.grow ((g1.trans g2).trans w2),q3⟩⟩
  | _=>exact q2.elim
 | _=>exact q2.elim
def fT:DRA:=λds M Q=>match ds with
 | [.ref n]=>∃xs,ao M n xs/\Q (.tup xs) M
 | [.tup xs]=>Q (.tup xs) M
 | _=>False
theorem yF:my X (.type "tuple") fT:=by
 refine eM.imp mr ?_
 rintro vs H R ⟨ds,M,ρ,Q,sm,rs,q,k⟩
 unfold fT at q
 split at q
 ·obtain⟨xs,hL,q⟩:=q
  first | have hzz:=Reps.inv_cons rs | have hzz:=au.inv_cons rs
  clear rs
  obtain⟨_,_,rfl,r1,rs⟩:=hzz
  cases rs
  obtain⟨_,rfl,e⟩:=Rep.inv_ref r1
  obtain⟨ws,hq,r⟩:=ao.seq sm hL e
  exact⟨_,ws,rfl,.inl ⟨hq,λl hl=>k _ _ (VQ.laidT sm .refl r hl q)⟩⟩
 ·first | have hzz:=Reps.inv_cons rs | have hzz:=au.inv_cons rs
  clear rs
  obtain⟨_,_,rfl,r1,rs⟩:=hzz
  cases rs
  cases r1 with
  | tup hq r=>exact⟨_,_,rfl,.inr ⟨hq,k _ H (VQ.now sm (.tup hq r) q)⟩⟩
 ·exact q.elim
theorem xC:OpR X (binaryOp .Add) (λx y H Q=>∃a b ys,x=.ref a/\y=.ref b/\SqT X.K H a []/\SqT X.K H b ys/\Q (.ref b) H):=by
 intro pins s σ H x y v u Q I rx ry h
 obtain⟨a,b,ys,rfl,rfl,ha,hb,q⟩:=h
 cases rx
 cases ry
 obtain⟨its,r1,p1,_⟩:=I.tuple ha
 obtain⟨its2,r2,p2,_⟩:=I.tuple hb
 have e:its=[]:=r1.nil_iff.mpr rfl
 subst e
 obtain⟨⟨cls,dd,data,sl⟩,ho,hc,n,hd⟩:=id p1
 obtain⟨⟨cls2,dd2,data2,sl2⟩,ho2,hc2,n2,hd2⟩:=id p2
 simp only at hc hd hc2 hd2
 subst hc hd hc2 hd2
 exact concat_meets ⟨_,ho,rfl⟩ ⟨_,ho2,rfl⟩ noFill_tuple_add seq_tuple_add ADe ADS (ADK _ _)
  (tuple_addW0 a b _ _ n n2 dd dd2 sl sl2 (by simp)) ⟨ho,ho2,⟨.ref b,H,I,rfl,q⟩⟩
def aV:DR2:=λx y M Q=>match x,y with
 | .tup xs,.tup ys=>xs.length+ys.length<=sizeLine/\Q (.tup (xs++ys)) M
 | _,_=>qAdd x y M Q
theorem Al:OpD X (binaryOp .Add) aV:=by
 rintro pins s σ H vx vy v u R I rx ry ⟨x,y,M,ρ,Q,sm,r1,r2,q,k⟩
 unfold aV at q
 split at q
 ·rename_i xs ys
  obtain⟨a,vs,rfl,h1,t1⟩:=Rep.inv_tup r1
  obtain⟨b,ws,rfl,h2,t2⟩:=Rep.inv_tup r2
  have l1:=t1.length
  have l2:=t2.length
  cases xs with
  | nil =>
   cases t1
   exact xC pins s σ H _ _ v u R I rx ry ⟨a,b,ws,rfl,rfl,h1,h2,k _ H (VQ.now sm (.tup h2 t2) q.2)⟩
  | cons x0 xs0 =>
   refine Af pins s σ H _ _ v u R I rx ry ⟨a,b,vs,ws,rfl,rfl,h1,h2,?_,by rw[<-l1,<-l2];exact q.1,λz=>?_,λ_ p hp=>k _ _ (VQ.laidT sm .refl (t1.append t2) hp q.2)⟩
   ·intro z
    subst z
    simp at l1
   ·subst z
    have:ys=[]:=by simpa using l2
    subst this
    rw[ABE]at q
    exact k _ H (VQ.now sm (.tup h1 t1) q.2)
 ·exact Dk pins s σ H vx vy v u R I rx ry ⟨x,y,M,ρ,Q,sm,r1,r2,q,k⟩
def ja(n:Nat):DRA:=λds M Q=>match ds with
 | [.ref m]=>∃xs ys,M[n]?=some (.lst xs)/\M[m]?=some (.lst ys)/\n≠m/\xs.length+ys.length<=sizeLine/\Q .non (M.set n (.lst (xs++ys)))
 | _=>False
theorem sJ:MtR X "list.extend" (sM X.K ja):=by
 rintro pins s σ H x xs v us R I rx rs ⟨n,a,ds,M,ρ,Q,ez,hn,sm,rr,q,k⟩
 unfold ja at q
 split at q
 ·rename_i m
  obtain⟨ys,zs,e,e2,hne,hl,q⟩:=q
  first | have hzz:=Reps.inv_cons rr | have hzz:=au.inv_cons rr
  clear rr
  obtain⟨_,_,rfl,r1,rr⟩:=hzz
  cases rr
  obtain⟨b,rfl,hm⟩:=Rep.inv_ref r1
  obtain⟨vs,hH,r⟩:=sm.obj n a _ hn e
  obtain⟨ws,hH2,r2⟩:=sm.obj m b _ hm e2
  obtain⟨w1,w2⟩:=sm.write hn e hH (r.append r2)
  exact vt pins s σ H x _ v us R I rx rs ⟨a,b,vs,ws,ez,rfl,hH,hH2,by rw[<-r.length,<-r2.length];exact hl,k _ _ ⟨.non,_,ρ,w1,w2,.non,q⟩⟩
 ·exact q.elim
end
end L2
namespace Srt
open PySem PySem.W PyProof.Rows
noncomputable def run{α:Type}(c:Nat->Nat->Bool):KasT α->α
 | .ret a=>a
 | .ask i j k=>run c (k (c i j))
theorem er{α β:Type}{c:Nat->Nat->Bool}{f:α->KasT β}:∀t:KasT α,run c (t.bind f)=run c (f (run c t))
 | .ret a=>rfl
 | .ask i j k=>er (k (c i j))
def Bd{α:Type}(n:Nat):KasT α->Prop
 | .ret _=>True
 | .ask i j k=>i<n/\j<n/\∀b,Bd n (k b)
def All{α:Type}(P:α->Prop):KasT α->Prop
 | .ret a=>P a
 | .ask _ _ k=>∀b,All P (k b)
theorem All.mono{α:Type}{P Q:α->Prop}(h:∀a,P a->Q a):∀t:KasT α,All P t->All Q t
 | .ret a,q=>h a q
 | .ask _ _ k,q=>λb=>All.mono h (k b) (q b)
theorem All.bind{α β:Type}{P:β->Prop}{f:α->KasT β}:∀t:KasT α,All (λa=>All P (f a)) t->All P (t.bind f)
 | .ret a,q=>q
 | .ask _ _ k,q=>λb=>All.bind (k b) (q b)
theorem Bd.bindA{α β:Type}{n:Nat}{f:α->KasT β}:∀t:KasT α,Bd n t->All (λa=>Bd n (f a)) t->Bd n (t.bind f)
 | .ret a,_,q=>q
 | .ask _ _ k,b,q=>⟨b.1,b.2.1,λx=>Bd.bindA (k x) (b.2.2 x) (q x)⟩
theorem All.run{α:Type}{P:α->Prop}{c:Nat->Nat->Bool}:∀t:KasT α,All P t->P (Srt.run c t)
 | .ret a,q=>q
 | .ask i j k,q=>All.run (k (c i j)) (q _)
theorem wp_run{α:Type}{cmp:Nat->Nat->(Bool->Shared->Prop)->Shared->Prop}{c:Nat->Nat->Bool}{n:Nat}{s:Shared}{Q:α->Shared->Prop}(hc:∀i j (C:Bool->Shared->Prop),i<n->j<n->C (c i j) s->cmp i j C s) :
  ∀t:KasT α,Bd n t->Q (run c t) s->t.kasWp cmp Q s
 | .ret a,_,q=>q
 | .ask i j k,b,q=>hc i j _ b.1 b.2.1 (wp_run hc (k (c i j)) (b.2.2 _) q)
structure Ord(c:Nat->Nat->Bool):Prop where
 irr:∀a,c a a=false
 tr:∀a b d,c a b=true->c b d=true->c a d=true
 neg:∀a b d,c a d=true->c a b=true\/c b d=true
section
variable{c:Nat->Nat->Bool}(O:Ord c)
def le(c:Nat->Nat->Bool)(a b:Nat):Prop:=c b a=false
theorem le_refl(O:Ord c)(a:Nat):le c a a:=O.irr a
theorem le_trans(O:Ord c)(h1:le c a b)(h2:le c b d):le c a d:=by
 unfold le at *
 cases q:c d a with
 | false=>rfl
 | true =>
  rcases O.neg d b a q with h | h
  ·rw[h2]at h;cases h
  ·rw[h1]at h;cases h
theorem le_of_lt(O:Ord c)(h:c a b=true):le c a b:=by
 unfold le
 cases q:c b a with
 | false=>rfl
 | true=>have:=O.tr a b a h q;rw[O.irr]at this;cases this
noncomputable abbrev at_(p:Array Nat)(k:Nat):Nat:=p.getD k 0
def Up(c:Nat->Nat->Bool)(p:Array Nat)(m:Nat):Prop:=∀i j,i<=j->j<m->le c (at_ p i) (at_ p j)
def Dn(c:Nat->Nat->Bool)(p:Array Nat)(m:Nat):Prop:=∀i j,i<=j->j<m->le c (at_ p j) (at_ p i)
def Eqs(c:Nat->Nat->Bool)(p:Array Nat)(a b:Nat):Prop:=∀i j,a<=i->i<b->a<=j->j<b->le c (at_ p i) (at_ p j)
theorem Up.one(O:Ord c)(p:Array Nat):Up c p 1:=λi j hij hj=>by
 have:i=j:=by lia
 subst this;exact le_refl O _
theorem Up.snoc(O:Ord c)(h:Up c p n)(h1:1<=n)(hl:le c (at_ p (n-1)) (at_ p n)):Up c p (n+1):=λi j hij hj=>by
 by_cases hjn:j<n
 ·exact h i j hij hjn
 ·have:j=n:=by lia
  subst this
  by_cases hi:i=j
  ·subst hi;exact le_refl O _
  ·exact le_trans O (h i (j-1) (by lia) (by lia)) hl
theorem Dn.snoc(O:Ord c)(h:Dn c p n)(h1:1<=n)(hl:le c (at_ p n) (at_ p (n-1))):Dn c p (n+1):=λi j hij hj=>by
 by_cases hjn:j<n
 ·exact h i j hij hjn
 ·have:j=n:=by lia
  subst this
  by_cases hi:i=j
  ·subst hi;exact le_refl O _
  ·exact le_trans O hl (h i (j-1) (by lia) (by lia))
theorem fe(hj:j<=p.size)(k:Nat):at_ (AD5 p i j) k=if i<=k/\k<j then at_ p (i+j-1-k)else at_ p k:=by
 have e:=getElem?_mirror_all (xs:=p) (i:=i) hj k
 unfold at_ AD5
 rw[AAz,e]
 by_cases h:i<=k/\k<j
 ·rw[if_pos h,if_pos h,AAz]
 ·rw[if_neg h,if_neg h,AAz]
theorem oO(hk:k<p.size)(hd:d<=k)(i:Nat):at_ (bubble p k d) i=if i=k-d then at_ p k else if k-d<i/\i<=k then at_ p (i-1)else at_ p i:=by
 have e:=getElem?_bubble (xs:=p) hk d hd i
 unfold at_
 rw[AAz,e]
 by_cases h:i=k-d
 ·rw[if_pos h,if_pos h,AAz]
 ·rw[if_neg h,if_neg h]
  by_cases h':k-d<i/\i<=k
  ·rw[if_pos h',if_pos h',AAz]
  ·rw[if_neg h',if_neg h',AAz]
theorem Dn.rev(h:Dn c p n)(hn:n<=p.size):Up c (AD5 p 0 n) n:=λi j hij hj=>by
 rw[fe hn,fe hn,if_pos ⟨AAW _,by lia⟩,if_pos ⟨AAW _,hj⟩]
 exact h _ _ (by lia) (by lia)
theorem Dn.revEq(O:Ord c)(h:Dn c p n)(hn:n<=p.size)(he:Eqs c p a n):Dn c (AD5 p a n) n:=λi j hij hj=>by
 rw[fe hn,fe hn]
 by_cases h1:a<=i/\i<n
 ·by_cases h2:a<=j/\j<n
  ·rw[if_pos h1,if_pos h2]
   exact he _ _ (by lia) (by lia) (by lia) (by lia)
  ·exact absurd ⟨by lia,hj⟩ h2
 ·by_cases h2:a<=j/\j<n
  ·rw[if_neg h1,if_pos h2]
   exact h _ _ (by lia) (by lia)
  ·rw[if_neg h1,if_neg h2]
   exact h _ _ hij hj
theorem qm(O:Ord c):∀(f n:Nat),1<=n->Up c p n->Up c p (run c (ADh p f n))/\n<=run c (ADh p f n)/\run c (ADh p f n)<=n+f /\
  (run c (ADh p f n)<n+f->c (at_ p (run c (ADh p f n))) (at_ p (run c (ADh p f n)-1))=true)
 | 0,n,_,h=>⟨h,AA8 _,AA8 _,λz=>absurd z (AAf _)⟩
 | f+1,n,h1,h=>by
  show Up c p (run c (if c (at_ p n) (at_ p (n-1))=true then .ret n else ADh p f (n+1)))/\n<=run c (if c (at_ p n) (at_ p (n-1))=true then .ret n else ADh p f (n+1)) /\
   run c (if c (at_ p n) (at_ p (n-1))=true then .ret n else ADh p f (n+1))<=n+(f+1)/\(run c (if c (at_ p n) (at_ p (n-1))=true then .ret n else ADh p f (n+1))<n+(f+1) ->
    c (at_ p (run c (if c (at_ p n) (at_ p (n-1))=true then .ret n else ADh p f (n+1)))) (at_ p (run c (if c (at_ p n) (at_ p (n-1))=true then .ret n else ADh p f (n+1))-1))=true)
  by_cases q:c (at_ p n) (at_ p (n-1))=true
  ·rw[if_pos q]
   exact⟨h,AA8 _,ADG _ _,λ_=>q⟩
  ·rw[if_neg q]
   obtain⟨a1,a2,a3,a4⟩:=qm O f (n+1) (by lia) (h.snoc O h1 (by unfold le;simpa using q))
   exact⟨a1,by lia,by lia,λz=>a4 (by lia)⟩
theorem cM:(AD5 p i j).size=p.size:=mirror_size _ _ _ _
def wU(c:Nat->Nat->Bool)(z n m:Nat)(r:Array Nat×Nat×Nat):Prop:=r.1.size=z/\Dn c r.1 r.2.1/\n<=r.2.1/\r.2.1<=m/\r.2.2+1<=r.2.1/\Eqs c r.1 (r.2.1-(r.2.2+1)) r.2.1
def mw(c:Nat->Nat->Bool)(z nrem:Nat)(r:Nat×Array Nat):Prop:=r.2.size=z/\Up c r.2 r.1/\1<=r.1/\r.1<=nrem
def qp(c:Nat->Nat->Bool)(p:Array Nat)(k m:Nat):Prop:=m<=k/\(∀i,i<m->le c (at_ p i) (at_ p k))/\∀i,m<=i->i<k->c (at_ p k) (at_ p i)=true
theorem iA(O:Ord c):∀(f:Nat) (p:Array Nat) (n q:Nat),q+1<=n->n+f<=p.size->Dn c p n->Eqs c p (n-(q+1)) n ->
  wU c p.size n (n+f) (run c (ABz f p n q))
 | 0,p,n,q,h1,h2,hd,he=>⟨rfl,hd,AA8 _,AA8 _,h1,he⟩
 | f+1,p,n,q,h1,h2,hd,he=>by
  have hn:n<=p.size:=by lia
  show wU c p.size n (n+(f+1)) (run c (if c (at_ p n) (at_ p (n-1))=true then(if q > 0 then ABz f (AD5 p (n-(q+1)) n) (n+1) 0 else ABz f p (n+1) 0)
   else .ask (at_ p (n-1)) (at_ p n) λd=>if d=true then .ret (p,n,q)else ABz f p (n+1) (q+1)))
  by_cases hc:c (at_ p n) (at_ p (n-1))=true
  ·rw[if_pos hc]
   by_cases hq:q > 0
   ·rw[if_pos hq]
    have hd':Dn c (AD5 p (n-(q+1)) n) (n+1):=by
     refine(hd.revEq O hn he).snoc O (by lia) ?_
     rw[fe hn,fe hn,if_neg (by lia),if_pos ⟨by lia,by lia⟩]
     exact le_trans O (le_of_lt O hc) (he _ _ (by lia) (by lia) (by lia) (by lia))
    have r:=iA O f (AD5 p (n-(q+1)) n) (n+1) 0 (by lia) (by rw[cM];lia) hd' (λi j a1 a2 a3 a4=>by
     have:i=n:=by lia
     have:j=n:=by lia
     subst_vars
     exact le_refl O _)
    obtain⟨a1,a2,a3,a4,a5,a6⟩:=r
    exact⟨a1.trans cM,a2,by lia,by lia,a5,a6⟩
   ·rw[if_neg hq]
    have r:=iA O f p (n+1) 0 (by lia) (by lia) (hd.snoc O (by lia) (le_of_lt O hc)) (λi j a1 a2 a3 a4=>by
     have:i=n:=by lia
     have:j=n:=by lia
     subst_vars
     exact le_refl O _)
    obtain⟨a1,a2,a3,a4,a5,a6⟩:=r
    exact⟨a1,a2,by lia,by lia,a5,a6⟩
  ·rw[if_neg hc]
   show wU c p.size n (n+(f+1)) (run c (if c (at_ p (n-1)) (at_ p n)=true then .ret (p,n,q)else ABz f p (n+1) (q+1)))
   by_cases hc':c (at_ p (n-1)) (at_ p n)=true
   ·rw[if_pos hc']
    exact⟨rfl,hd,AA8 _,by show n<=_;lia,h1,he⟩
   ·rw[if_neg hc']
    have l1:le c (at_ p n) (at_ p (n-1)):=by unfold le;simpa using hc'
    have l2:le c (at_ p (n-1)) (at_ p n):=by unfold le;simpa using hc
    have r:=iA O f p (n+1) (q+1) (by lia) (by lia) (hd.snoc O (by lia) l1) (λi j a1 a2 a3 a4=>by
     by_cases hi:i=n
     ·by_cases hj:j=n
      ·subst hi hj;exact le_refl O _
      ·subst hi
       exact le_trans O l1 (he _ _ (by lia) (by lia) (by lia) (by lia))
     ·by_cases hj:j=n
      ·subst hj
       exact le_trans O (he _ _ (by lia) (by lia) (by lia) (by lia)) l2
      ·exact he _ _ (by lia) (by lia) (by lia) (by lia))
    obtain⟨a1,a2,a3,a4,a5,a6⟩:=r
    exact⟨a1,a2,by lia,by lia,a5,a6⟩
theorem mJ(O:Ord c)(h1:1<=n)(hn:n<=nrem)(hz:nrem<=p.size)(hd:Dn c p n) :
  mw c p.size nrem (run c (kas_tail3 n nrem p)):=by
 unfold kas_tail3
 rw[er]
 obtain⟨a1,a2,a3,_⟩:=qm O (nrem-n) n h1 (hd.rev (by lia))
 exact⟨cM,a1,AB0 h1 a2,AB0 a3 (by lia)⟩
theorem ij(O:Ord c)(h1:1<=n)(hn:n+1<=nrem)(hz:nrem<=p.size)(he:Eqs c p 0 n)(hc:c (at_ p n) (at_ p (n-1))=true) :
  mw c p.size nrem (run c (ADr n nrem p)):=by
 have hd:Dn c p (n+1):=by
  refine Dn.snoc O (λi j hij hj=>he _ _ (by lia) (by lia) (by lia) (by lia)) h1 (le_of_lt O hc)
 unfold ADr
 rw[er]
 obtain⟨b1,b2,b3,b4,b5,b6⟩:=iA O (nrem-(n+1)) p (n+1) 0 (by lia) (by lia) hd (λi j a1 a2 a3 a4=>by
  have:i=n:=by lia
  have:j=n:=by lia
  subst_vars
  exact le_refl O _)
 by_cases hq:(run c (ABz (nrem-(n+1)) p (n+1) 0)).2.2 > 0
 ·rw[if_pos hq]
  obtain⟨d1,d2,d3,d4⟩:=mJ O (p:=AD5 (run c (ABz (nrem-(n+1)) p (n+1) 0)).1 ((run c (ABz (nrem-(n+1)) p (n+1) 0)).2.1-((run c (ABz (nrem-(n+1)) p (n+1) 0)).2.2+1)) (run c (ABz (nrem-(n+1)) p (n+1) 0)).2.1)
   (n:=(run c (ABz (nrem-(n+1)) p (n+1) 0)).2.1) (nrem:=nrem) (by lia) (by lia) (by rw[cM,b1];exact hz) (b2.revEq O (by rw[b1];lia) b6)
  exact⟨d1.trans (cM.trans b1),d2,d3,d4⟩
 ·rw[if_neg hq]
  obtain⟨d1,d2,d3,d4⟩:=mJ O (p:=(run c (ABz (nrem-(n+1)) p (n+1) 0)).1) (n:=(run c (ABz (nrem-(n+1)) p (n+1) 0)).2.1) (nrem:=nrem) (by lia) (by lia) (by rw[b1];exact hz) b2
  exact⟨d1.trans b1,d2,d3,d4⟩
theorem wF(O:Ord c)(h1:1<=nrem)(hz:nrem<=p.size) :
  mw c p.size nrem (run c (kas_count nrem p)):=by
 unfold kas_count
 rw[er]
 obtain⟨a1,a2,a3,a4⟩:=qm O (nrem-1) 1 (AA8 _) (Up.one O p)
 generalize run c (ADh p (nrem-1) 1)=n at a1 a2 a3 a4
 by_cases hn:(n==nrem)=true
 ·rw[if_pos hn]
  exact⟨rfl,a1,a2,by show n<=nrem;lia⟩
 ·rw[if_neg hn]
  have hn':n≠nrem:=by simpa using hn
  have hlt:c (at_ p n) (at_ p (n-1))=true:=a4 (by lia)
  by_cases h2:n > 1
  ·rw[if_pos h2]
   show mw c p.size nrem (run c (if c (at_ p 0) (at_ p (n-1))=true then .ret (n,p)else ADr n nrem (AD5 p 0 n)))
   by_cases hc:c (at_ p 0) (at_ p (n-1))=true
   ·rw[if_pos hc]
    exact⟨rfl,a1,a2,by show n<=nrem;lia⟩
   ·rw[if_neg hc]
    have hz':n<=p.size:=by lia
    have l0:le c (at_ p (n-1)) (at_ p 0):=by unfold le;simpa using hc
    have he:Eqs c p 0 n:=λi j b1 b2 b3 b4=>le_trans O (a1 i (n-1) (by lia) (by lia)) (le_trans O l0 (a1 0 j (by lia) b4))
    have he':Eqs c (AD5 p 0 n) 0 n:=λi j b1 b2 b3 b4=>by
     rw[fe hz',fe hz',if_pos ⟨b1,b2⟩,if_pos ⟨b3,b4⟩]
     exact he _ _ (by lia) (by lia) (by lia) (by lia)
    have hc':c (at_ (AD5 p 0 n) n) (at_ (AD5 p 0 n) (n-1))=true:=by
     rw[fe hz',fe hz',if_neg (by lia),if_pos ⟨by lia,by lia⟩]
     rcases O.neg _ (at_ p (0+n-1-(n-1))) _ hlt with z | z
     ·exact z
     ·have:=he (n-1) (0+n-1-(n-1)) (by lia) (by lia) (by lia) (by lia)
      unfold le at this
      rw[this]at z;cases z
    obtain⟨d1,d2,d3,d4⟩:=ij O (p:=AD5 p 0 n) (n:=n) (nrem:=nrem) (by lia) (by lia) (by rw[cM];exact hz) he' hc'
    exact⟨d1.trans cM,d2,d3,d4⟩
  ·rw[if_neg h2]
   have:n=1:=by lia
   subst this
   exact ij O (by lia) (by lia) hz (λi j b1 b2 b3 b4=>by
    have:i=0:=by lia
    have:j=0:=by lia
    subst_vars
    exact le_refl O _) hlt
theorem jb(O:Ord c)(hu:Up c p k):∀(f l r:Nat),l<=r->r<=k->r-l<=f->(∀i,i<l->le c (at_ p i) (at_ p k))->(∀i,r<=i->i<k->c (at_ p k) (at_ p i)=true) ->
  qp c p k (run c (AD9 p k f l r))
 | 0,l,r,h1,h2,h3,h4,h5=>⟨by show l<=k;lia,h4,λi a1 a2=>h5 i (by have a1':l<=i:=a1;lia) a2⟩
 | f+1,l,r,h1,h2,h3,h4,h5=>by
  show qp c p k (run c (if l ≥ r then .ret l else .ask (at_ p k) (at_ p ((l+r) / 2)) λc=>if c=true then AD9 p k f l ((l+r) / 2)else AD9 p k f ((l+r) / 2+1) r))
  by_cases hl:l ≥ r
  ·rw[if_pos hl]
   exact⟨by show l<=k;lia,h4,λi a1 a2=>h5 i (by have a1':l<=i:=a1;lia) a2⟩
  ·rw[if_neg hl]
   show qp c p k (run c (if c (at_ p k) (at_ p ((l+r) / 2))=true then AD9 p k f l ((l+r) / 2)else AD9 p k f ((l+r) / 2+1) r))
   by_cases hc:c (at_ p k) (at_ p ((l+r) / 2))=true
   ·rw[if_pos hc]
    refine jb O hu f l ((l+r) / 2) (by lia) (by lia) (by lia) h4 λi a1 a2=>?_
    rcases O.neg _ (at_ p i) _ hc with z | z
    ·exact z
    ·have:=hu ((l+r) / 2) i a1 a2
     unfold le at this
     rw[this]at z;cases z
   ·rw[if_neg hc]
    have lm:le c (at_ p ((l+r) / 2)) (at_ p k):=by unfold le;simpa using hc
    refine jb O hu f ((l+r) / 2+1) r (by lia) h2 (by lia) (λi hi=>?_) h5
    exact le_trans O (hu i ((l+r) / 2) (by lia) (by lia)) lm
theorem wO(O:Ord c)(hk:k<p.size)(hu:Up c p k)(hm:m<=k)(h1:∀i,i<m->le c (at_ p i) (at_ p k))(h2:∀i,m<=i->i<k->c (at_ p k) (at_ p i)=true):Up c (bubble p k (k-m)) (k+1):=by
 intro i j hij hj
 have e:k-(k-m)=m:=by lia
 rw[oO hk (by lia),oO hk (by lia),e]
 by_cases hi:i=m
 ·rw[if_pos hi]
  by_cases hjm:j=m
  ·rw[if_pos hjm];exact le_refl O _
  ·rw[if_neg hjm,if_pos ⟨by lia,by lia⟩]
   exact le_of_lt O (h2 _ (by lia) (by lia))
 ·rw[if_neg hi]
  by_cases hi2:m<i/\i<=k
  ·rw[if_pos hi2,if_neg (by lia),if_pos ⟨by lia,by lia⟩]
   exact hu _ _ (by lia) (by lia)
  ·rw[if_neg hi2]
   by_cases hjm:j=m
   ·rw[if_pos hjm];exact h1 i (by lia)
   ·rw[if_neg hjm]
    by_cases hj2:m<j/\j<=k
    ·rw[if_pos hj2]
     exact hu _ _ (by lia) (by lia)
    ·rw[if_neg hj2]
     exact hu _ _ hij (by lia)
theorem wQ(O:Ord c):∀(f:Nat) (p:Array Nat) (k:Nat),k+f<=p.size->Up c p k->(run c (kas_bin f p k)).size=p.size/\Up c (run c (kas_bin f p k)) (k+f)
 | 0,p,k,_,h=>⟨rfl,h⟩
 | f+1,p,k,hz,h=>by
  show (run c ((AD9 p k k 0 k).bind λl=>kas_bin f (bubble p k (k-l)) (k+1))).size=p.size/\Up c (run c ((AD9 p k k 0 k).bind λl=>kas_bin f (bubble p k (k-l)) (k+1))) (k+(f+1))
  rw[er]
  obtain⟨a1,a2,a3⟩:=jb O h k 0 k (AAW _) (AA8 _) (by lia) (λi hi=>absurd hi (ABt _)) λi a1 a2=>absurd a2 (by lia)
  obtain⟨b1,b2⟩:=wQ O f (bubble p k (k-run c (AD9 p k k 0 k))) (k+1) (by rw[bubble_size];lia) (wO O (by lia) h a1 a2 a3)
  exact⟨b1.trans (bubble_size _ _ _),by rw[show k+(f+1)=k+1+f by lia];exact b2⟩
theorem zy(O:Ord c)(h1:1<=n):(run c (ADp n)).size=n/\Up c (run c (ADp n)) n:=by
 have hs:(ABd (AAn n)).size=n:=by simp
 unfold ADp
 rw[er]
 obtain⟨a1,a2,a3,a4⟩:=wF O (p:=ABd (AAn n)) h1 (by rw[hs];exact AA8 _)
 rw[hs]at a1
 generalize run c (kas_count n (ABd (AAn n)))=r at a1 a2 a3 a4
 by_cases hl:r.1<n
 ·rw[if_pos hl]
  obtain⟨b1,b2⟩:=wQ O (n-max r.1 1) r.2 (max r.1 1) (by rw[a1];lia) (by rw[show max r.1 1=r.1 by lia];exact a2)
  exact⟨b1.trans a1,by rw[show n=max r.1 1+(n-max r.1 1) by lia];simpa using b2⟩
 ·rw[if_neg hl]
  have e1:r.1=n:=by lia
  rw[e1]at a2
  exact⟨a1,a2⟩
def Ent(n:Nat)(p:Array Nat):Prop:=p.toList.Perm (AAn n)
theorem Ent.lt(h:Ent n p)(h0:0<n)(k:Nat):at_ p k<n:=by
 unfold at_
 rw[AAz]
 cases e:p[k]? with
 | none=>simpa using h0
 | some x =>
  have:x∈p.toList:=by
   rw[<-AAQ]at e
   exact AAo e
  have:=h.mem_iff.mp this
  simpa using this
theorem Ent.rev(h:Ent n p):Ent n (AD5 p i j):=(Array.perm_iff_toList_perm.mp (mirror_perm p i j ((j-i) / 2))).trans h
theorem Ent.bub(h:Ent n p):Ent n (bubble p i j):=(Array.perm_iff_toList_perm.mp (bubble_perm p i j)).trans h
section
variable{n:Nat}(h0:0<n)
theorem wS(h0:0<n)(h:Ent n p):∀(f k:Nat),Bd n (ADh p f k)
 | 0,_=>trivial
 | f+1,k=>⟨h.lt h0 _,h.lt h0 _,λb=>by cases b with
  | true=>exact trivial
  | false=>exact wS h0 h f (k+1)⟩
theorem mi(h0:0<n):∀(f:Nat) (p:Array Nat) (k q:Nat),Ent n p->Bd n (ABz f p k q)/\All (λr=>Ent n r.1) (ABz f p k q)
 | 0,p,k,q,h=>⟨trivial,h⟩
 | f+1,p,k,q,h=>by
  have key:∀b,(Bd n (if b=true then(if q > 0 then ABz f (AD5 p (k-(q+1)) k) (k+1) 0 else ABz f p (k+1) 0)
    else KasT.ask (p.getD (k-1) 0) (p.getD k 0) λd=>if d=true then KasT.ret (p,k,q)else ABz f p (k+1) (q+1)))/\All (λr=>Ent n r.1) (if b=true then(if q > 0 then ABz f (AD5 p (k-(q+1)) k) (k+1) 0 else ABz f p (k+1) 0)
    else KasT.ask (p.getD (k-1) 0) (p.getD k 0) λd=>if d=true then KasT.ret (p,k,q)else ABz f p (k+1) (q+1)):=λb=>by
   cases b with
   | true =>
    rw[if_pos rfl]
    by_cases hq:q > 0
    ·rw[if_pos hq];exact mi h0 f _ _ _ h.rev
    ·rw[if_neg hq];exact mi h0 f _ _ _ h
   | false =>
    rw[if_neg (by simp)]
    have a:=mi h0 f p (k+1) (q+1) h
    refine⟨⟨h.lt h0 _,h.lt h0 _,λb=>?_⟩,λb=>?_⟩
    ·cases b with
     | true=>exact trivial
     | false=>exact a.1
    ·cases b with
     | true=>exact h
     | false=>exact a.2
  exact⟨⟨h.lt h0 _,h.lt h0 _,λb=>(key b).1⟩,λb=>(key b).2⟩
theorem iy(h0:0<n)(h:Ent n p):Bd n (kas_tail3 k m p)/\All (λr=>Ent n r.2) (kas_tail3 k m p):=by
 have triv:∀{t:KasT Nat}{Q:Prop},Q->All (λ_=>Q) t:=λ{t Q} q=>by
  induction t with
  | ret a=>exact q
  | ask i j k ih=>exact λb=>ih b
 unfold kas_tail3
 exact⟨Bd.bindA _ (wS h0 h.rev _ _) (triv trivial),All.bind _ (triv h.rev)⟩
theorem da(h0:0<n)(h:Ent n p):Bd n (ADr k m p)/\All (λr=>Ent n r.2) (ADr k m p):=by
 unfold ADr
 obtain⟨b1,b2⟩:=mi h0 (m-(k+1)) p (k+1) 0 h
 refine⟨Bd.bindA _ b1 (b2.mono (λr hr=>?_)),All.bind _ (b2.mono (λr hr=>?_))⟩
 ·by_cases hq:r.2.2 > 0
  ·rw[if_pos hq];exact(iy h0 hr.rev).1
  ·rw[if_neg hq];exact(iy h0 hr).1
 ·by_cases hq:r.2.2 > 0
  ·rw[if_pos hq];exact(iy h0 hr.rev).2
  ·rw[if_neg hq];exact(iy h0 hr).2
theorem yE(h0:0<n)(h:Ent n p):Bd n (kas_count m p)/\All (λr=>Ent n r.2) (kas_count m p):=by
 have triv:∀{t:KasT Nat}{Q:Nat->Prop},(∀a,Q a)->All Q t:=λ{t Q} q=>by
  induction t with
  | ret a=>exact q a
  | ask i j k ih=>exact λb=>ih b
 unfold kas_count
 refine⟨Bd.bindA _ (wS h0 h _ _) (triv λk=>?_),All.bind _ (triv λk=>?_)⟩
 ·by_cases h1:(k==m)=true
  ·rw[if_pos h1];exact trivial
  ·rw[if_neg h1]
   by_cases h2:k > 1
   ·rw[if_pos h2]
    refine⟨h.lt h0 _,h.lt h0 _,λb=>?_⟩
    cases b with
    | true=>exact trivial
    | false=>exact(da h0 h.rev).1
   ·rw[if_neg h2];exact(da h0 h).1
 ·by_cases h1:(k==m)=true
  ·rw[if_pos h1];exact h
  ·rw[if_neg h1]
   by_cases h2:k > 1
   ·rw[if_pos h2]
    intro b
    cases b with
    | true=>exact h
    | false=>exact(da h0 h.rev).2
   ·rw[if_neg h2];exact(da h0 h).2
theorem lI(h0:0<n)(h:Ent n p):∀(f l r:Nat),Bd n (AD9 p k f l r)
 | 0,_,_=>trivial
 | f+1,l,r=>by
  show Bd n (if l ≥ r then KasT.ret l else KasT.ask (p.getD k 0) (p.getD ((l+r) / 2) 0) λc=>if c=true then AD9 p k f l ((l+r) / 2)else AD9 p k f ((l+r) / 2+1) r)
  by_cases hl:l ≥ r
  ·rw[if_pos hl];exact trivial
  ·rw[if_neg hl]
   refine⟨h.lt h0 _,h.lt h0 _,λb=>?_⟩
   cases b with
   | true=>exact lI h0 h f _ _
   | false=>exact lI h0 h f _ _
theorem rT(h0:0<n):∀(f:Nat) (p:Array Nat) (k:Nat),Ent n p->Bd n (kas_bin f p k)/\All (λr=>Ent n r) (kas_bin f p k)
 | 0,p,k,h=>⟨trivial,h⟩
 | f+1,p,k,h=>by
  have triv:∀{t:KasT Nat}{Q:Nat->Prop},(∀a,Q a)->All Q t:=λ{t Q} q=>by
   induction t with
   | ret a=>exact q a
   | ask i j k ih=>exact λb=>ih b
  exact⟨Bd.bindA _ (lI h0 h _ _ _) (triv λl=>(rT h0 f _ _ h.bub).1),All.bind _ (triv λl=>(rT h0 f _ _ h.bub).2)⟩
theorem sort_bd(h0:0<n):Bd n (ADp n)/\All (λr=>Ent n r) (ADp n):=by
 have h:Ent n (ABd (AAn n)):=by unfold Ent;simp
 obtain⟨b1,b2⟩:=yE h0 (m:=n) h
 unfold ADp
 refine⟨Bd.bindA _ b1 (b2.mono λr hr=>?_),All.bind _ (b2.mono λr hr=>?_)⟩
 ·by_cases hl:r.1<n
  ·rw[if_pos hl];exact(rT h0 _ _ _ hr).1
  ·rw[if_neg hl];exact trivial
 ·by_cases hl:r.1<n
  ·rw[if_pos hl];exact(rT h0 _ _ _ hr).2
  ·rw[if_neg hl];exact hr
end
theorem sort_list{α:Type}[Inhabited α]{lt:α->α->Bool}(xs:List α)(h1:1<=xs.length)(irr:∀a∈xs,lt a a=false)(tr:∀a∈xs,∀b∈xs,∀d∈xs,lt a b=true->lt b d=true->lt a d=true)
  (neg:∀a∈xs,∀b∈xs,∀d∈xs,lt a d=true->lt a b=true\/lt b d=true) :
  let c:=λi j=>if i<xs.length then(if j<xs.length then lt (xs.getD i default) (xs.getD j default)else true)else false
  let p:=run c (ADp xs.length)
  let ys:=p.toList.map λi=>xs.getD i default
  ys.Perm xs/\ys.Pairwise λa b=>lt b a=false:=by
 intro c p ys
 have mem:∀i,i<xs.length->xs.getD i default∈xs:=λi hi=>by
  rw[AAR,AA5 hi]
  exact AB4 hi
 have O:Ord c:=by
  refine⟨λa=>?_,λa b d=>?_,λa b d=>?_⟩
  ·show (if a<xs.length then(if a<xs.length then lt _ _ else true)else false)=false
   by_cases ha:a<xs.length
   ·rw[if_pos ha,if_pos ha];exact irr _ (mem a ha)
   ·rw[if_neg ha]
  ·show (if a<xs.length then(if b<xs.length then lt _ _ else true)else false)=true->(if b<xs.length then(if d<xs.length then lt _ _ else true)else false)=true->(if a<xs.length then(if d<xs.length then lt _ _ else true)else false)=true
   by_cases ha:a<xs.length
   ·by_cases hb:b<xs.length
    ·by_cases hd:d<xs.length
     ·rw[if_pos ha,if_pos hb,if_pos hb,if_pos hd,if_pos ha,if_pos hd];exact tr _ (mem a ha) _ (mem b hb) _ (mem d hd)
     ·intro _ _;rw[if_pos ha,if_neg hd]
    ·rw[if_neg (show ¬b<xs.length from hb)]
     intro _ z
     rw[if_neg hb]at z;cases z
   ·intro z;rw[if_neg ha]at z;cases z
  ·show (if a<xs.length then(if d<xs.length then lt _ _ else true)else false)=true->(if a<xs.length then(if b<xs.length then lt _ _ else true)else false)=true\/(if b<xs.length then(if d<xs.length then lt _ _ else true)else false)=true
   by_cases ha:a<xs.length
   ·by_cases hb:b<xs.length
    ·by_cases hd:d<xs.length
     ·rw[if_pos ha,if_pos hd,if_pos ha,if_pos hb,if_pos hb,if_pos hd];exact neg _ (mem a ha) _ (mem b hb) _ (mem d hd)
     ·intro _;right;rw[if_pos hb,if_neg hd]
    ·intro _;left;rw[if_pos ha,if_neg hb]
   ·intro z;rw[if_neg ha]at z;cases z
 have hE:Ent xs.length p:=All.run _ (sort_bd (by lia)).2
 obtain⟨hs,hU⟩:=zy O h1
 refine⟨?_,?_⟩
 ·have e:(AAn xs.length).map (λi=>xs.getD i default)=xs:=by
   apply ADi
   intro i
   rw[AAT]
   by_cases hi:i<xs.length
   ·rw[List.getElem?_range hi]
    simp[AAR,AA5 hi]
   ·rw[ABB (by simpa using hi),ABB (by simpa using hi)]
    rfl
  have:=hE.map λi=>xs.getD i default
  rw[e]at this
  exact this
 ·show (p.toList.map λi=>xs.getD i default).Pairwise λa b=>lt b a=false
  rw[List.pairwise_iff_getElem]
  intro i j hi hj hij
  rw[AA6,AAO]at hi hj
  have hs':p.size=xs.length:=hs
  have l:=hU i j (by lia) (by lia)
  have hl:∀k,at_ p k<xs.length:=λk=>hE.lt (by lia) k
  unfold le at l
  have l':(if at_ p j<xs.length then(if at_ p i<xs.length then lt (xs.getD (at_ p j) default) (xs.getD (at_ p i) default)else true)else false)=false:=l
  rw[if_pos (hl j),if_pos (hl i)]at l'
  have ai:p.toList[i]=at_ p i:=by unfold at_;simp[ACD,hi]
  have aj:p.toList[j]=at_ p j:=by unfold at_;simp[ACD,hj]
  rw[ACE,ACE,ai,aj]
  exact l'
end
end Srt
namespace L2
open PySem PySem.Spec PyProof.Rows DL
def tL(A:Around)(s:Shared)(x y:Value)(k:Bool):Prop:=∀(prog:Program) (w:World) (E:Value->Shared->Prop) (Q:Value->Shared->Prop),Q (.bool k) s->wpAny (model prog w) A (richCompare .Lt x y) Q E s
inductive LexAt(A:Around)(s:Shared):List Value->List Value->Bool->Prop
 | nn:LexAt A s [] [] false
 | nc {y:Value}{ys:List Value}:LexAt A s [] (y::ys) true
 | cn {x:Value}{xs:List Value}:LexAt A s (x::xs) [] false
 | eq {x y:Value}{xs ys:List Value}{k:Bool} (h:ACC A s x y true) (t:LexAt A s xs ys k):LexAt A s (x::xs) (y::ys) k
 | ne {x y:Value}{xs ys:List Value}{k:Bool} (h:ACC A s x y false) (t:tL A s x y k):LexAt A s (x::xs) (y::ys) k
section
open PySem.SeqAt
open PySem.AutoSeq1 (wpAny_loadPart')
open PySem.MeetsSeq PySem.MeetsSeq2 PySem.MeetsSeq3
theorem mI(l b:Addr)(items items2:Array Value)(n n2:Nat)(dd dd2:Option Addr)(sl sl2:Array (Option Value))(k:Bool) :
  Meets (Builtin.«tuple.__lt__» ⟨[.ref l,.ref b],[]⟩)
   (λA R s=>s.heap.get? l=some (⟨.type "tuple",dd,.seq items n,sl⟩:Obj)/\s.heap.get? b=some { cls:=.type "tuple",dict:=dd2,data:=.seq items2 n2,slots:=sl2 } /\
    LexAt A.in1 s items.toList items2.toList k/\R (.ok (.ret (.bool k))) s) :=
 .of_wp λprog w A R s h=>by
  obtain⟨hp,g,d,tk,os⟩:=s;obtain⟨hl,hb,hx,h⟩:=h
  have f2:=AutoSeq1.sub_tuple_tuple
  wp_walk using ADR hl,ADR hb,AC0 _ (λaE b s'=>b.1=none/\s'=⟨hp,g,d,tk,os⟩/\∃(vs ws:List Value),aE=vs.zip ws /\
   LexAt A.in1 ⟨hp,g,d,tk,os⟩ vs ws k/\vs.length+items2.size=ws.length+items.size) _
  case turn =>
   rintro⟨y,x⟩ aE b s' ⟨hb',rfl,vs,ws,hz,hlex,hlen⟩
   cases hlex with
   | nn=>cases hz
   | nc=>cases hz
   | cn=>cases hz
   | eq he t =>
    rw[ADV]at hz
    injection hz with hyx hrest
    injection hyx with hy hx
    subst hy hx
    refine AA0 (he prog w _ _ ?_)
    wp_walk
    exact⟨rfl,rfl,_,_,hrest,t,by simp only[AAL]at hlen;lia⟩
   | ne he t =>
    rw[ADV]at hz
    injection hz with hyx hrest
    injection hyx with hy hx
    subst hy hx
    refine AA0 (he prog w _ _ ?_)
    have hri:=t prog w
    wp_walk using hri
    exact⟨_,rfl,by simpa using h⟩
  case fin =>
   rintro⟨b1,b2⟩ s' ⟨hb',rfl,vs,ws,hz,hlex,hlen⟩
   simp only at hb'
   subst hb'
   have hv:k=decide (items.size<items2.size):=by
    cases hlex with
    | nn=>simp only[AAq]at hlen;exact(dF_ (by lia)).symm
    | nc=>simp only[AAq,AAL]at hlen;exact(dT_ (by lia)).symm
    | cn=>simp only[AAq,AAL]at hlen;exact(dF_ (by lia)).symm
    | eq _ _=>rw[ADV]at hz;cases hz
    | ne _ _=>rw[ADV]at hz;cases hz
   rw[hv]at h
   wp_walk
   exact⟨_,rfl,by simpa [Builtin.Tuple.tupleCompareSizes]using h⟩
  case h =>
   exact⟨rfl,rfl,items.toList,items2.toList,rfl,hx,by simp;lia⟩
end
theorem tL.tuples(hl:s.heap.IsTuple l items)(hb:s.heap.IsTuple b items2)(hu:A.units<cLine)(hx:LexAt A.in1 s items.toList items2.toList k):tL A s (.ref l) (.ref b) k:=λprog w E Q h=>by
 obtain⟨⟨cls,dd,data,sl⟩,ho,hc,n,hd⟩:=id hl
 obtain⟨⟨cls2,dd2,data2,sl2⟩,ho2,hc2,n2,hd2⟩:=id hb
 simp only at hc hd hc2 hd2
 subst hc hd hc2 hd2
 exact richCompare_meets_room (op:=.Lt) ⟨_,ho,rfl⟩ ⟨_,ho2,rfl⟩ PySem.F.slot_tuple_lt PySem.F.entry_tuple_lt (PySem.F.args_tuple_lt_2 _ _) (mI l b items items2 n n2 dd dd2 sl sl2 k)
  ⟨ho,ho2,hx,show Value.bool k≠Value.notImplemented/\Q (.bool k) s from⟨(λx=>nomatch x),h⟩⟩ hu
noncomputable def pO(f g:D->D->Bool):List D->List D->Bool
 | [],[]=>false
 | [],_::_=>true
 | _::_,[]=>false
 | x::xs,y::ys=>if f x y=true then pO f g xs ys else g x y
noncomputable def ltD(M:Mem):Nat->D->D->Bool
 | _,.int a,.int b=>decide (a<b)
 | _,.str a,.str b=>lC a b
 | n+1,.tup xs,.tup ys=>pO (eqD M n) (ltD M n) xs ys
 | _,_,_=>false
noncomputable def wG(f g:D->D->Bool):List D->List D->Bool
 | x::xs,y::ys=>if f x y=true then wG f g xs ys else g x y
 | _,_=>true
noncomputable def fE(M:Mem):Nat->D->D->Bool
 | _,.int _,.int _=>true
 | _,.str _,.str _=>true
 | n+1,.tup xs,.tup ys=>wG (eqD M n) (fE M n) xs ys
 | _,_,_=>false
theorem tL.ints(A:Around)(s:Shared)(a:Int)(t:Tok)(c:Int)(u:Tok):tL A s (.int a t) (.int c u) (decide (a<c)):=λprog w E Q h=>HT.rcLt_int A s a t c u prog w E Q h
theorem tL.texts(A:Around)(s:Shared)(a:Str)(t:Tok)(c:Str)(u:Tok):tL A s (.str a t) (.str c u) (lC a c):=λprog w E Q h =>
 (PySem.P.lt_str (show Q (.bool (decide (a.cps.toList<c.cps.toList))) s from h):wpAny (model prog w) A (compareOp .Lt (.str a t) (.str c u)) Q E s)
section
variable{X:Cx}{pins:List (Addr×Obj)}{σ:St}{H:Hp}{s:Shared}{ρ:List Addr}{M:Mem}
theorem yT(I:Inv X pins σ H s)(sm:Sim X.K ρ M H):∀(n:Nat) (A:Around) (x y:D) (vx vy:V) (u v:Value),A.units+n<cLine->Rep X.K ρ H x vx->aI vx u->Rep X.K ρ H y vy->aI vy v->okD M n x=true->okD M n y=true->fE M n x y=true ->
  tL A s u v (ltD M n x y):=by
 intro n
 induction n with
 | zero =>
  intro A x y vx vy u v hu r1 e1 r2 e2 o1 o2 cm
  cases r1 with
  | int a =>
   cases r2 with
   | int b=>obtain⟨t,rfl⟩:=e1;obtain⟨t',rfl⟩:=e2;exact tL.ints A s a t b t'
   | _=>simp[fE]at cm
  | str a =>
   cases r2 with
   | str b=>obtain⟨t,rfl⟩:=e1;obtain⟨t',rfl⟩:=e2;exact tL.texts A s a t b t'
   | _=>simp[fE]at cm
  | _=>simp[fE]at cm
 | succ n ih =>
  intro A x y vx vy u v hu r1 e1 r2 e2 o1 o2 cm
  have hu0:A.units<cLine:=by lia
  have hu1:A.in1.units+n<cLine:=by show A.units+1+n<cLine;lia
  have lex:∀(ds es:List D) (vs ws:List V) (its jts:List Value),Reps X.K ρ H ds vs->au vs its->Reps X.K ρ H es ws->au ws jts->ds.all (okD M n)=true->es.all (okD M n)=true->wG (eqD M n) (fE M n) ds es=true ->
    LexAt A.in1 s its jts (pO (eqD M n) (ltD M n) ds es):=by
   intro ds
   induction ds with
   | nil =>
    intro es vs ws its jts p1 q1 p2 q2 _ _ _
    cases p1;cases q1
    cases p2 with
    | nil=>cases q2;exact .nn
    | cons _ _=>cases q2;exact .nc
   | cons d ds hi =>
    intro es vs ws its jts p1 q1 p2 q2 k1 k2 k3
    cases p1 with
    | cons a1 p1 =>
     cases q1 with
     | cons b1 q1 =>
      cases p2 with
      | nil=>cases q2;exact .cn
      | @cons e _ es' _ a2 p2 =>
       cases q2 with
       | cons b2 q2 =>
        rw[ABK,AAS]at k1 k2
        have he:=(jH I sm n A.in1 d _ _ _ _ _ hu1 a1 b1 a2 b2 k1.1 k2.1).1
        rw[pO]
        rw[wG]at k3
        by_cases hq:eqD M n d e=true
        ·rw[hq]at he
         rw[if_pos hq]at k3 ⊢
         exact .eq he (hi _ _ _ _ _ p1 q1 p2 q2 k1.2 k2.2 k3)
        ·have hq':=ABG.mpr hq
         rw[hq']at he
         rw[if_neg hq]at k3 ⊢
         exact .ne he (ih A.in1 _ _ _ _ _ _ hu1 a1 b1 a2 b2 k1.1 k2.1 k3)
  cases r1 with
  | int a =>
   cases r2 with
   | int b=>obtain⟨t,rfl⟩:=e1;obtain⟨t',rfl⟩:=e2;exact tL.ints A s a t b t'
   | _=>simp[fE]at cm
  | str a =>
   cases r2 with
   | str b=>obtain⟨t,rfl⟩:=e1;obtain⟨t',rfl⟩:=e2;exact tL.texts A s a t b t'
   | _=>simp[fE]at cm
  | tup hq r =>
   cases r2 with
   | tup hq' r' =>
    cases e1;cases e2
    obtain⟨its,rr,pl,_⟩:=I.tuple hq
    obtain⟨jts,rr',pl',_⟩:=I.tuple hq'
    refine tL.tuples pl pl' hu0 ?_
    exact lex _ _ _ _ _ _ r rr r' rr' (by simpa [okD]using o1) (by simpa [okD]using o2) cm
   | _=>simp[fE]at cm
  | _=>simp[fE]at cm
end
noncomputable def okP:Nat->D->Bool
 | _,.int _=>true
 | _,.str _=>true
 | n+1,.tup xs=>xs.all (okP n)
 | _,_=>false
noncomputable def BN(f:D->List Int):List D->List Int
 | []=>[0]
 | x::xs=>1::(f x++BN f xs)
noncomputable def enc:Nat->D->List Int
 | _,.int i=>[0,i]
 | _,.str x=>1::(x.cps.toList.map (λ(c:Nat)=>(c:Int)+1)++[0])
 | n+1,.tup xs=>2::BN (enc n) xs
 | _,_=>[3]
def bI(x y:List Int):Prop:=∀a b,x++a<y++b
theorem bI.cons(i:Int)(h:bI x y):bI (i::x) (i::y):=λa b=>AB1.mpr (.inr ⟨rfl,h a b⟩)
theorem bI.head(x y:List Int)(h:i<j):bI (i::x) (j::y):=λa b=>AB1.mpr (.inl h)
theorem bI.lt(h:bI x y):x<y:=by have:=h [] [];simpa using this
theorem bI.pre(z:List Int)(h:bI x y):bI (z++x) (z++y):=by
 induction z with
 | nil=>exact h
 | cons i z ih=>exact ih.cons i
theorem bI.more(u v:List Int)(h:bI x y):bI (x++u) (y++v):=λa b=>by
 rw[AAw,AAw]
 exact h _ _
def Tri(x y:D)(n:Nat)(l:Bool)(r:Bool):Prop:=(x=y/\l=false/\r=false)\/(x≠y/\l=true/\r=false/\bI (enc n x) (enc n y))\/(x≠y/\l=false/\r=true/\bI (enc n y) (enc n x))
theorem oB:∀(x y:List Nat),(x=y)\/(x<y/\¬y<x/\bI (x.map (λ(c:Nat)=>(c:Int)+1)++[0]) (y.map (λ(c:Nat)=>(c:Int)+1)++[0]))\/(¬x<y/\y<x/\bI (y.map (λ(c:Nat)=>(c:Int)+1)++[0]) (x.map (λ(c:Nat)=>(c:Int)+1)++[0]))
 | [],[]=>.inl rfl
 | [],c::y=>.inr (.inl ⟨List.nil_lt_cons _ _,List.not_lt_nil _,bI.head _ _ (by dsimp only;lia)⟩)
 | c::x,[]=>.inr (.inr ⟨List.not_lt_nil _,List.nil_lt_cons _ _,bI.head _ _ (by dsimp only;lia)⟩)
 | c::x,e::y=>by
  rcases ACy c e with h | h | h
  ·refine .inr (.inl ⟨AB1.mpr (.inl h),λz=>?_,bI.head _ _ (by dsimp only;lia)⟩)
   rcases AB1.mp z with z | ⟨z,_⟩<;>lia
  ·subst h
   rcases oB x y with q | ⟨q1,q2,q3⟩|⟨q1,q2,q3⟩
   ·exact .inl (by rw[q])
   ·refine .inr (.inl ⟨AB1.mpr (.inr ⟨rfl,q1⟩),λz=>?_,q3.cons _⟩)
    rcases AB1.mp z with z | ⟨_,z⟩
    ·lia
    ·exact q2 z
   ·refine .inr (.inr ⟨λz=>?_,AB1.mpr (.inr ⟨rfl,q2⟩),q3.cons _⟩)
    rcases AB1.mp z with z | ⟨_,z⟩
    ·lia
    ·exact q1 z
  ·refine .inr (.inr ⟨λz=>?_,AB1.mpr (.inl h),bI.head _ _ (by dsimp only;lia)⟩)
   rcases AB1.mp z with z | ⟨z,_⟩<;>lia
theorem Ev(M:Mem):∀(n:Nat) (x y:D),okP n x=true->okP n y=true->(eqD M n x y=true↔x=y):=by
 have all:∀(n:Nat),(∀(x y:D),okP n x=true->okP n y=true->(eqD M n x y=true↔x=y))->∀(xs ys:List D),xs.all (okP n)=true->ys.all (okP n)=true->(eqL (eqD M n) xs ys=true↔xs=ys):=by
  intro n ih xs
  induction xs with
  | nil=>intro ys _ _;cases ys<;>simp[eqL]
  | cons x xs hi =>
   intro ys h1 h2
   cases ys with
   | nil=>simp[eqL]
   | cons y ys =>
    rw[ABK,AAS]at h1 h2
    rw[eqL,AAS,ih x y h1.1 h2.1,hi ys h1.2 h2.2,AC8]
 intro n
 induction n with
 | zero =>
  intro x y h1 h2
  cases x<;>simp[okP]at h1<;>cases y<;>simp[okP]at h2<;>simp[eqD]
 | succ n ih =>
  intro x y h1 h2
  cases x with
  | int a=>cases y<;>simp[okP]at h2<;>simp[eqD]
  | str a=>cases y<;>simp[okP]at h2<;>simp[eqD]
  | tup xs =>
   cases y with
   | tup ys =>
    simp only[eqD,D.tup.injEq]
    exact all n ih xs ys (by simpa [okP]using h1) (by simpa [okP]using h2)
   | int a=>simp[eqD]
   | str a=>simp[eqD]
   | _=>simp[okP]at h2
  | _=>simp[okP]at h1
theorem De(M:Mem):∀(n:Nat) (x:D),okP n x=true->okD M n x=true:=by
 intro n
 induction n with
 | zero=>intro x h;cases x<;>simp[okP]at h<;>rfl
 | succ n ih =>
  intro x h
  cases x with
  | int a=>rfl
  | str a=>rfl
  | tup xs =>
   simp only[okD]
   rw[AAU]
   intro y hy
   exact ih y (AAU.mp (show xs.all (okP n)=true from h) y hy)
  | _=>simp[okP]at h
theorem Cd(M:Mem):∀(n:Nat) (x y:D),okP n x=true->okP n y=true->fE M n x y=true->Tri x y n (ltD M n x y) (ltD M n y x):=by
 have base:∀(n:Nat) (a b:Int),Tri (.int a) (.int b) n (decide (a<b)) (decide (b<a)):=λn a b=>by
  have e:∀a,enc n (.int a)=[0,a]:=λa=>by cases n<;>rfl
  rcases Int.lt_trichotomy a b with h | h | h
  ·exact .inr (.inl ⟨by simp;lia,dT_ h,dF_ (by lia),by rw[e,e];exact(bI.head [] [] h).cons 0⟩)
  ·subst h;exact .inl ⟨rfl,dF_ (by lia),dF_ (by lia)⟩
  ·exact .inr (.inr ⟨by simp;lia,dF_ (by lia),dT_ h,by rw[e,e];exact(bI.head [] [] h).cons 0⟩)
 have bases:∀(n:Nat) (a b:Str),Tri (.str a) (.str b) n (lC a b) (lC b a):=λn a b=>by
  have e:∀a:Str,enc n (.str a)=1::(a.cps.toList.map (λ(c:Nat)=>(c:Int)+1)++[0]):=λa=>by cases n<;>rfl
  unfold lC
  rcases oB a.cps.toList b.cps.toList with h | ⟨h1,h2,h3⟩|⟨h1,h2,h3⟩
  ·have:a=b:=zx h
   subst this
   exact .inl ⟨rfl,dF_ (ABH _),dF_ (ABH _)⟩
  ·exact .inr (.inl ⟨λz=>by cases z;exact h2 h1,dT_ h1,dF_ h2,by rw[e,e];exact h3.cons 1⟩)
  ·exact .inr (.inr ⟨λz=>by cases z;exact h1 h2,dF_ h1,dT_ h2,by rw[e,e];exact h3.cons 1⟩)
 intro n
 induction n with
 | zero =>
  intro x y h1 h2 h3
  cases x<;>simp[okP]at h1<;>cases y<;>simp[okP]at h2<;>first | exact base 0 _ _ | exact bases 0 _ _ | simp[fE]at h3
 | succ n ih =>
  intro x y h1 h2 h3
  have lists:∀(xs ys:List D),xs.all (okP n)=true->ys.all (okP n)=true->wG (eqD M n) (fE M n) xs ys=true ->
    (xs=ys/\pO (eqD M n) (ltD M n) xs ys=false/\pO (eqD M n) (ltD M n) ys xs=false) \/
    (xs≠ys/\pO (eqD M n) (ltD M n) xs ys=true/\pO (eqD M n) (ltD M n) ys xs=false/\bI (BN (enc n) xs) (BN (enc n) ys)) \/
    (xs≠ys/\pO (eqD M n) (ltD M n) xs ys=false/\pO (eqD M n) (ltD M n) ys xs=true/\bI (BN (enc n) ys) (BN (enc n) xs)):=by
   intro xs
   induction xs with
   | nil =>
    intro ys _ _ _
    cases ys with
    | nil=>exact .inl ⟨rfl,rfl,rfl⟩
    | cons y ys=>exact .inr (.inl ⟨by simp,rfl,rfl,bI.head _ _ (by decide)⟩)
   | cons x xs hi =>
    intro ys h1 h2 h3
    cases ys with
    | nil=>exact .inr (.inr ⟨by simp,rfl,rfl,bI.head _ _ (by decide)⟩)
    | cons y ys =>
     rw[ABK,AAS]at h1 h2
     rw[wG]at h3
     have qe:=Ev M n x y h1.1 h2.1
     have qe':=Ev M n y x h2.1 h1.1
     rw[pO,pO]
     by_cases hq:x=y
     ·subst hq
      rw[if_pos (qe.mpr rfl)]at h3
      rw[if_pos (qe.mpr rfl),if_pos (qe.mpr rfl)]
      rcases hi ys h1.2 h2.2 h3 with⟨a1,a2,a3⟩|⟨a1,a2,a3,a4⟩|⟨a1,a2,a3,a4⟩
      ·exact .inl ⟨by rw[a1],a2,a3⟩
      ·exact .inr (.inl ⟨λz=>a1 (AEQ z).2,a2,a3,(a4.pre (enc n x)).cons 1⟩)
      ·exact .inr (.inr ⟨λz=>a1 (AEQ z).2,a2,a3,(a4.pre (enc n x)).cons 1⟩)
     ·have n1:¬eqD M n x y=true:=λz=>hq (qe.mp z)
      have n2:¬eqD M n y x=true:=λz=>hq (qe'.mp z).symm
      rw[if_neg n1]at h3
      rw[if_neg n1,if_neg n2]
      rcases ih x y h1.1 h2.1 h3 with⟨a1,_⟩|⟨a1,a2,a3,a4⟩|⟨a1,a2,a3,a4⟩
      ·exact absurd a1 hq
      ·exact .inr (.inl ⟨λz=>hq (AEQ z).1,a2,a3,(a4.more _ _).cons 1⟩)
      ·exact .inr (.inr ⟨λz=>hq (AEQ z).1,a2,a3,(a4.more _ _).cons 1⟩)
  cases x with
  | int a=>cases y<;>simp[okP]at h2<;>first | exact base (n+1) _ _ | simp[fE]at h3
  | str a=>cases y<;>simp[okP]at h2<;>first | exact bases (n+1) _ _ | simp[fE]at h3
  | tup xs =>
   cases y with
   | tup ys =>
    rcases lists xs ys (by simpa [okP]using h1) (by simpa [okP]using h2) h3 with⟨a1,a2,a3⟩|⟨a1,a2,a3,a4⟩|⟨a1,a2,a3,a4⟩
    ·exact .inl ⟨by rw[a1],a2,a3⟩
    ·exact .inr (.inl ⟨λz=>a1 (D.tup.inj z),a2,a3,a4.cons 2⟩)
    ·exact .inr (.inr ⟨λz=>a1 (D.tup.inj z),a2,a3,a4.cons 2⟩)
   | _=>simp[fE]at h3
  | _=>simp[okP]at h1
theorem pI(h1:okP n x=true)(h2:okP n y=true)(h3:fE M n x y=true):ltD M n x y=decide (enc n x<enc n y):=by
 rcases Cd M n x y h1 h2 h3 with⟨a1,a2,a3⟩|⟨a1,a2,a3,a4⟩|⟨a1,a2,a3,a4⟩
 ·subst a1;rw[a2,dF_ (ABH _)]
 ·rw[a2,dT_ a4.lt]
 ·rw[a2,dF_ (λz=>ABH _ (List.lt_trans z a4.lt))]
theorem Bh(h1:okP n x=true)(h2:okP n y=true)(h3:fE M n x y=true)(e:enc n x=enc n y):x=y:=by
 rcases Cd M n x y h1 h2 h3 with⟨a1,_⟩|⟨_,_,_,a4⟩|⟨_,_,_,a4⟩
 ·exact a1
 ·have:=a4.lt;rw[e]at this;exact absurd this (ABH _)
 ·have:=a4.lt;rw[e]at this;exact absurd this (ABH _)
end L2
namespace L2
open PySem PySem.Spec PyProof.Rows DL PySem.W
section
variable{X:Cx}{pins:List (Addr×Obj)}{σ:St}{H:Hp}{s:Shared}
theorem Inv.laidF(I:Inv X pins σ H s)(k:∀b u,b≠X.env.locals->s.heap.get? b=some u->h'.get? b=some u)(hn:s.heap.Ns X.env.locals m)(hn':h'.Ns X.env.locals m)
  (hp:s.heap.get? a=none) (fa:H a=none) (new:cu X.prog X.w (upd H a o) h' a o):Inv X pins σ (upd H a o) { s with heap:=h',toks:=t' }:=by
 have nea:∀b u,s.heap.get? b=some u->b≠a:=λb u e z=>by subst z;rw[hp]at e;cases e
 refine I.step (g':=s.gens) (d':=s.drawn) (ch:=[]) (λ_ z=>nomatch z) (λb u hL _ _ e _=>k b u hL e) (λb u hL _ _ e _=>⟨u.slots,k b u hL e⟩) (λb u _ e n=>by rw[ae (nea b u e)];exact n) (λb u _ e=>?_)
  (λb xs q=>by rw[ae (ad q fa)];exact q) (λb u xs q=>by rw[ae (ad q fa)];exact q) (λb ps q=>⟨#[],by rw[ae (ad q fa),q];simp⟩) (λm' hm=>?_) (λb w q=>?_) I.bare
 ·by_cases hb:b=X.env.locals
  ·subst hb
   obtain⟨o',_,_,ho,_⟩:=hn'
   exact⟨o',ho⟩
  ·exact⟨u,k b u hb e⟩
 ·have:m=m':=funext λx=>hn.agree hm x
  subst this
  exact hn'
 ·by_cases hb:b=a
  ·subst hb
   rw[aA]at q
   cases q
   exact new
  ·rw[ae hb]at q
   refine(I.hok b w q).stay (λc v hc r=>k c v ?_ r) (λc z=>by rw[ae (ad z fa)];exact z) λc xs z=>by rw[ae (ad z fa)];exact z
   rcases hc with rfl | hc
   ·exact ad q I.free
   ·exact ad hc I.free
theorem Inv.keptF(I:Inv X pins σ H s)(k:∀b u,b≠X.env.locals->s.heap.get? b=some u->h'.get? b=some u)(hn:s.heap.Ns X.env.locals m)(hn':h'.Ns X.env.locals m):Inv X pins σ H { s with heap:=h',toks:=t' }:=by
 refine I.step (g':=s.gens) (d':=s.drawn) (ch:=[]) (λ_ z=>nomatch z) (λb u hL _ _ e _=>k b u hL e) (λb u hL _ _ e _=>⟨u.slots,k b u hL e⟩) (λb u _ e n=>n) (λb u _ e=>?_)
  (λb xs q=>q) (λb u xs q=>q) (λb ps q=>⟨#[],by rw[q];simp⟩) (λm' hm=>?_) (λb w q=>?_) I.bare
 ·by_cases hb:b=X.env.locals
  ·subst hb
   obtain⟨o',_,_,ho,_⟩:=hn'
   exact⟨o',ho⟩
  ·exact⟨u,k b u hb e⟩
 ·have:m=m':=funext λx=>hn.agree hm x
  subst this
  exact hn'
 ·refine(I.hok b w q).stay (λc v hc r=>k c v ?_ r) (λc z=>z) λc xs z=>z
  rcases hc with rfl | hc
  ·exact ad q I.free
  ·exact ad hc I.free
end
section
variable{prog:Program}{w:World}{A:Around}{E:Value->Shared->Prop}{s:Shared}
theorem nq{l:Addr}{vs:List Value}{Q:Value->Shared->Prop}(hl:s.heap.IsList l vs.toArray)(h2:vs.length<2)
  (h:∀D h' n,s.heap.objs.size<=D->(∀b o,s.heap.get? b=some o->h'.get? b=some o)->h'.get? D=some { cls:=.type "list",data:=.seq vs.toArray n }->Q (.ref D) { s with heap:=h' }) :
  wpAny (model prog w) A (call (.builtin "sorted") ([ABf l])) Q E s:=by
 have few:vs.length<=sizeLine:=by rw[ABj];lia
 refine Calls.call_function_entry kind_sorted plain_sorted entry_sorted (args_sorted1 (.ref l)) ?_
 unfold Builtin.«sorted»
 refine AA0 (m:=checkCount "sorted" 1 1 _) (AA2 (AA0 (collect_list hl (AA0 (ACz ?_ few)) few)))
 generalize hg:((s.heap.push (seqObj "list" #[] 0)).update s.heap.objs.size (AB2 (· ++ vs.toArray)))=g1
 have hsz:g1.objs.size=s.heap.objs.size+1:=by rw[<-hg,Heap.size_update,size_push']
 have k1:∀b o,s.heap.get? b=some o->g1.get? b=some o:=λb o q=>by
  have hlt:=AAF q
  rw[<-hg,ABm _ _ _ _ (AAK hlt),Heap.get?_push_ne _ _ _ (AAK hlt)]
  exact q
 show wpAny _ _ _ _ _ { s with heap:=g1.push (seqObj "list" vs.toArray 0) }
 have hoL:(g1.push (seqObj "list" vs.toArray 0)).get? g1.objs.size=some (seqObj "list" vs.toArray 0):=AAB _ rfl
 refine AA0 (AAd (AAj slot_list_sort (⟨_,hoL,rfl⟩) entry_list_sort ?body (args_list_sort (.ref _))))
 case body =>
  rw[list_sort_plain]
  refine AA0 (ADs hoL rfl ?_)
  refine AA0 (AD0 hoL rfl ?_ (by rw[AAD,ABj];lia) (AAW _))
  obtain⟨e1,ho1⟩:∃e1,((g1.push (seqObj "list" vs.toArray 0)).update g1.objs.size (AB2 λ_=>(#[]:Array Value))).get? g1.objs.size=some (seqObj "list" #[] e1):=⟨_,ACP hoL λ_=>#[]⟩
  refine AA0 (seqEpoch_at ho1 rfl (AA0 (wpAny_newTuple (AA0 (ACz (AAd ?_) (AAW _))) few)))
  dsimp only
  have hv2:vs.toArray.size<2:=by rw[AAD];exact h2
  rw[if_pos hv2,if_pos hv2]
  refine AA0 (AA2 ?_)
  rw[StateT.run_pure]
  refine AA0 (AA2 ?_)
  dsimp only
  generalize hg3:(((g1.push (seqObj "list" vs.toArray 0)).update g1.objs.size (AB2 λ_=>(#[]:Array Value))).push (seqObj "tuple" vs.toArray 0)).push (seqObj "list" #[] 0)=g3
  have ho3:g3.get? g1.objs.size=some (seqObj "list" #[] e1):=by rw[<-hg3];exact AA4 _ (AA4 _ ho1)
  have k3:∀b o,b≠g1.objs.size->s.heap.get? b=some o->g3.get? b=some o:=λb o hb q=>by
   have q1:=k1 b o q
   rw[<-hg3]
   refine AA4 _ (AA4 _ ?_)
   rw[ABm _ _ _ _ hb]
   exact AA4 _ q1
  refine AA0 (seqEpoch_at ho3 rfl ?_)
  have eo:∀us:List Value,us.length<2->(us.toArray.zip us.toArray).map (·.2)=us.toArray:=λus hu=>by
   match us,hu with
   | [],_=>simp
   | [v],_=>simp
   | _::_::_,hu=>simp at hu;lia
  have eout:(arrOf (SortSt.mk' general' (vs.toArray.zip vs.toArray) #[] 7 none)).map (·.2)=vs.toArray:=eo vs h2
  rw[eout]
  refine AA0 (AD0 ho3 rfl ?_ (AAW _) (by rw[AAD,ABj];lia))
  simp only[show failedOf (SortSt.mk' general' (vs.toArray.zip vs.toArray) #[] 7 none)=none from rfl,bne_self_eq_false,AAA,if_false]
  refine AA2 ⟨_,rfl,AA2 ⟨_,rfl,?_⟩⟩
  obtain⟨c2,hc2⟩:∃c2,(g3.update g1.objs.size (AB2 λ_=>vs.toArray)).get? g1.objs.size=some (seqObj "list" vs.toArray c2):=⟨_,ACP ho3 λ_=>vs.toArray⟩
  refine h g1.objs.size _ c2 (by lia) (λb o q=>?_) hc2
  have hb:b≠g1.objs.size:=AAK (by rw[hsz];exact ABl (AAF q))
  rw[ABm _ _ _ _ hb]
  exact k3 b o hb q
end
structure SrtOk(M:Mem)(xs:List D):Prop where
 len:xs.length<64
 ok:∀x∈xs,okP eqN x=true
 cm:∀x∈xs,∀y∈xs,fE M eqN x y=true
 kd:(∀x∈xs,∃z,x=.str z)\/(∀x∈xs,∃i,x=.int i)\/(∀x∈xs,∃z r,x=.tup (.str z::r))\/(∀x∈xs,∃i r,x=.tup (.int i::r))\/(∀x∈xs,∃z r,x=.tup (.tup z::r))
structure SrtG(M:Mem)(xs:List D):Prop where
 len:xs.length<64
 okd:∀x∈xs,okD M eqN x=true
 cm:∀x∈xs,∀y∈xs,fE M eqN x y=true
 kd:(∀x∈xs,∃z,x=.str z)\/(∀x∈xs,∃i,x=.int i)\/(∀x∈xs,∃z r,x=.tup (.str z::r))\/(∀x∈xs,∃i r,x=.tup (.int i::r))\/(∀x∈xs,∃z r,x=.tup (.tup z::r))
 od:∃en:D->List Int,∀a∈xs,∀b∈xs,ltD M eqN a b=decide (en a<en b)
theorem SrtOk.g(so:SrtOk M xs):SrtG M xs :=
 ⟨so.len,λx hx=>De M _ _ (so.ok x hx),so.cm,so.kd,enc eqN,λa ha b hb=>pI (so.ok a ha) (so.ok b hb) (so.cm a ha b hb)⟩
def BR(M:Mem)(ys:List D):Prop:=ys.Pairwise λa b=>ltD M eqN b a=false
def iZ:DRA:=λds M Q=>match ds with
 | [.ref n]=>∃xs,ao M n xs/\SrtG M xs/\∀ys,ys.Perm xs->BR M ys->Q (.ref M.length) (M++[.lst ys])
 | _=>False
theorem Reps.perm{K:AA3}{ρ:List Addr}{H:Hp}{ds:List D}{vs:List V}(r:Reps K ρ H ds vs)(is:List Nat)(hi:∀i∈is,i<ds.length):Reps K ρ H (is.map λi=>ds.getD i .non) (is.map λi=>vs.getD i .non):=by
 induction is with
 | nil=>exact .nil
 | cons i is ih =>
  have h:=hi i AAG
  obtain⟨v,e,rv⟩:=r.get (AA5 h)
  refine .cons ?_ (ih λj hj=>hi j (AA9 _ hj))
  show Rep K ρ H (ds.getD i .non) (vs.getD i .non)
  rw[AAR,AAR,e,AA5 h]
  exact rv
theorem au.perm(r:au vs us)(is:List Nat)(hi:∀i∈is,i<vs.length):au (is.map λi=>vs.getD i .non) (is.map λi=>us.getD i .none):=by
 induction is with
 | nil=>exact .nil
 | cons i is ih =>
  have h:=hi i AAG
  obtain⟨v,e,rv⟩:=fJ r (AA5 h)
  refine .cons ?_ (ih λj hj=>hi j (AA9 _ hj))
  show aI (vs.getD i .non) (us.getD i .none)
  rw[AAR,AAR,e,AA5 h]
  exact rv
instance:Inhabited D:=⟨.non⟩
section
variable{X:Cx}{pins:List (Addr×Obj)}{σ:St}{H:Hp}{s:Shared}{ρ:List Addr}{M:Mem}
theorem Am(o:HO)(x:cu P w H h a o):∃u,h.get? a=some u:=by
 cases o with
 | lst _=>obtain⟨_,_,_,_,e⟩:=x;exact⟨_,e⟩
 | tup _=>obtain⟨_,_,_,o,e,_⟩:=x;exact⟨o,e⟩
 | dK _=>obtain⟨_,_,_,_,_,_,_,e,_⟩:=x;exact⟨_,e⟩
 | dT _=>obtain⟨_,_,_,_,o,_,_,e,_⟩:=x;exact⟨o,e⟩
 | set _ _=>obtain⟨o,_,_,_,e,_⟩:=x;exact⟨_,e⟩
 | ins _ _ _=>obtain⟨_,_,_,e,_⟩:=x;exact⟨_,e⟩
 | own _=>exact x
 | xd _=>obtain⟨_,⟨_,_,_,e,_⟩,_⟩:=x;exact⟨_,e⟩
 | rng _ _=>obtain⟨_,_,_,e⟩:=x;exact⟨_,e⟩
 | frz _ _=>obtain⟨e,_⟩:=x;exact⟨_,e⟩
 | tbl _=>exact⟨_,x⟩
 | met _ _=>exact⟨_,x⟩
 | ext _=>obtain⟨_,e,_⟩:=x;exact e
theorem HOk.none(x:HOk P w H h)(e:h.get? a=none):H a=none:=by
 cases q:H a with
 | none=>rfl
 | some o =>
  exfalso
  obtain⟨u,hu⟩:=Am o (x a o q)
  rw[e]at hu;cases hu
theorem Ap(I:Inv X pins σ H s)(sm:Sim X.K ρ M H)(n:Nat)(A:Around)(hu:A.units+n<cLine):∀(ds es:List D) (vs ws:List V) (its jts:List Value),Reps X.K ρ H ds vs->au vs its->Reps X.K ρ H es ws->au ws jts->ds.all (okD M n)=true->es.all (okD M n)=true ->
  wG (eqD M n) (fE M n) ds es=true->LexAt A s its jts (pO (eqD M n) (ltD M n) ds es):=by
 intro ds
 induction ds with
 | nil =>
  intro es vs ws its jts p1 q1 p2 q2 _ _ _
  cases p1;cases q1
  cases p2 with
  | nil=>cases q2;exact .nn
  | cons _ _=>cases q2;exact .nc
 | cons d ds hi =>
  intro es vs ws its jts p1 q1 p2 q2 k1 k2 k3
  cases p1 with
  | cons a1 p1 =>
   cases q1 with
   | cons b1 q1 =>
    cases p2 with
    | nil=>cases q2;exact .cn
    | @cons e _ es' _ a2 p2 =>
     cases q2 with
     | cons b2 q2 =>
      rw[ABK,AAS]at k1 k2
      have he:=(jH I sm n A d _ _ _ _ _ hu a1 b1 a2 b2 k1.1 k2.1).1
      rw[pO]
      rw[wG]at k3
      by_cases hq:eqD M n d e=true
      ·rw[hq]at he
       rw[if_pos hq]at k3 ⊢
       exact .eq he (hi _ _ _ _ _ p1 q1 p2 q2 k1.2 k2.2 k3)
      ·have hq':=ABG.mpr hq
       rw[hq']at he
       rw[if_neg hq]at k3 ⊢
       exact .ne he (yT I sm n A _ _ _ _ _ _ hu a1 b1 a2 b2 k1.1 k2.1 k3)
end
section
variable{prog:Program}{w:World}{A:Around}{s:Shared}{b:Bool}{Q:Bool->Shared->Prop}
theorem yb(h:LexAt A s its jts k):∀(i:Nat),(b&&i==0)=false->(b&&i+1==0)=false->Q k s->KatLex prog w A b (decide (its.length<jts.length)) Q (its.zip jts) i s:=by
 have un:∀i:Nat,(b&&i+1==0)=false:=λi=>by cases b<;>simp
 induction h with
 | nn=>intro i _ _ q;exact q
 | nc=>intro i _ _ q;exact(show Q (decide (0<_+1)) s by rw[dT_ (Nat.succ_pos _)];exact q)
 | cn=>intro i _ _ q;exact(show Q (decide (_+1<0)) s by rw[dF_ (ABt _)];exact q)
 | @eq x y xs ys k he t ih =>
  intro i hb _ q
  refine kat_cons (he prog w _ _ (kat_yes ?_))
  have:=ih (i+1) (un i) (un (i+1)) q
  rw[show decide ((x::xs).length<(y::ys).length)=decide (xs.length<ys.length) by simp]
  exact this
 | @ne x y xs ys k he t =>
  intro i hb _ q
  refine kat_cons (he prog w _ _ (kat_no ?_))
  rw[hb]
  exact kat_one _ _ (t prog w _ _ q)
theorem vY(he:ACC A s p q e)(hl:e=false->∀Q':Bool->Shared->Prop,Q' l s->wpAny (model prog w) A (oneLt' (b&&0==0) p q) Q' (λ_ _=>False) s)(ht:e=true->LexAt A s its jts k)(h:Q (if e=true then k else l) s) :
  KatLex prog w A b (decide ((p::its).length<(q::jts).length)) Q ((p::its).zip (q::jts)) 0 s:=by
 refine kat_cons (he prog w _ _ ?_)
 cases e with
 | true =>
  refine kat_yes ?_
  rw[show decide ((p::its).length<(q::jts).length)=decide (its.length<jts.length) by simp]
  exact yb (ht rfl) 1 (by cases b<;>rfl) (by cases b<;>rfl) h
 | false=>exact kat_no (hl rfl _ h)
end
section
variable{X:Cx}{pins:List (Addr×Obj)}{σ:St}{H:Hp}{s:Shared}{ρ:List Addr}{M:Mem}
theorem nK{M:Model}{h:Heap}{x:Str}{t:Tok}:Looks M h (typeOf (.str x t)) (.type "str"):=Looks.of_pure rfl
theorem nL{M:Model}{h:Heap}{x:Int}{t:Tok}:Looks M h (typeOf (.int x t)) (.type "int"):=Looks.of_pure rfl
theorem Reps.getD'(r:Reps X.K ρ H ds vs)(rr:au vs its)(h:i<ds.length):∃v,Rep X.K ρ H (ds.getD i default) v/\aI v (its.getD i .none)/\ds.getD i default∈ds:=by
 obtain⟨v,e,rv⟩:=r.get (AA5 h)
 obtain⟨u,e',ru⟩:=fJ rr e
 refine⟨v,?_,?_,?_⟩
 ·rw[AAR,AA5 h];exact rv
 ·rw[AAR,e'];exact ru
 ·rw[AAR,AA5 h];exact AB4 h
theorem Reps.mem(r:Reps X.K ρ H ds vs)(rr:au vs its)(h:u∈its):∃d v,d∈ds/\Rep X.K ρ H d v/\aI v u:=by
 induction ds generalizing vs its with
 | nil=>cases r;cases rr;cases h
 | cons d0 ds ih =>
  cases r with
  | cons r1 r =>
   cases rr with
   | cons q1 q =>
    rcases(AAM (a:=u)).mp h with rfl | h
    ·exact⟨_,_,AAG,r1,q1⟩
    ·obtain⟨d,v,h1,h2,h3⟩:=ih r q h
     exact⟨d,v,AA9 _ h1,h2,h3⟩
theorem pY(I:Inv X pins σ H s)(r:Reps X.K ρ H xs ws)(rr:au ws its)(hx:∀x∈xs,∃f r,x=.tup (f::r)) :
  ∃fs,KatTups s.heap its fs/\fs.length=its.length/\∀u∈fs,∃d v,Rep X.K ρ H d v/\aI v u/\∃r,D.tup (d::r)∈xs:=by
 induction xs generalizing ws its with
 | nil=>cases r;cases rr;exact⟨[],.nil,rfl,λ_ z=>nomatch z⟩
 | cons d ds ih =>
  cases r with
  | cons r1 r =>
   cases rr with
   | cons q1 q =>
    obtain⟨fs,h1,h2,h3⟩:=ih r q λx hx'=>hx x (AA9 _ hx')
    obtain⟨f,aE,rfl⟩:=hx d AAG
    cases r1 with
    | tup hq rs =>
     cases q1
     obtain⟨its,rv,pl,hz⟩:=I.tuple hq
     cases rs with
     | cons a1 rs =>
      cases rv with
      | cons b1 rv =>
       obtain⟨o,ho,hc,n,hd⟩:=pl
       refine⟨_::fs,.cons ho hc hd rfl h1,by simp[h2],λu hu=>?_⟩
       rcases AAM.mp hu with rfl | hu
       ·exact⟨_,_,a1,b1,_,AAG⟩
       ·obtain⟨d,v,e1,e2,r',e3⟩:=h3 u hu
        exact⟨d,v,e1,e2,r',AA9 _ e3⟩
noncomputable def ltc(M:Mem)(xs:List D)(i j:Nat):Bool:=ltD M eqN (xs.getD i default) (xs.getD j default)
theorem iV(I:Inv X pins σ H s)(sm:Sim X.K ρ M H){xs:List D}{ws:List V}{its:List Value}(so:SrtG M xs)(r:Reps X.K ρ H xs ws)(rr:au ws its)(h2:2<=its.length){A:Around}(hu:A.units+eqN<cLine) :
  wpAny (model X.prog X.w) A (keyKind' its.toArray) (λκ s'=>s'=s/\∀i j (C:Bool->Shared->Prop),i<its.length->j<its.length->C (ltc M xs i j) s->kas_ask X.prog X.w A κ its i j C s) (λ_ _=>False) s:=by
 have lw:=r.length
 have li:=rr.length
 have le:xs.length=its.length:=by lia
 have tups:∀(b:Bool),(∀x∈xs,∃f r,x=.tup (f::r))->(∀(f g:D) (vf vg:V) (p q:Value) (r r':List D),D.tup (f::r)∈xs->D.tup (g::r')∈xs->Rep X.K ρ H f vf->aI vf p->Rep X.K ρ H g vg->aI vg q ->
   (eqD M 29 f g=false->∀Q':Bool->Shared->Prop,Q' (ltD M 29 f g) s->wpAny (model X.prog X.w) A (oneLt' (b&&0==0) p q) Q' (λ_ _=>False) s)) ->
   ∀i j (C:Bool->Shared->Prop),i<its.length->j<its.length->C (ltc M xs i j) s->kas_ask X.prog X.w A (tuples' b) its i j C s:=by
  intro b hx hone i j C hi hj hc
  unfold kas_ask
  obtain⟨v1,r1,e1,m1⟩:=r.getD' rr (show i<xs.length by lia)
  obtain⟨v2,r2,e2,m2⟩:=r.getD' rr (show j<xs.length by lia)
  unfold ltc at hc
  have k1:=so.okd _ m1
  have k2:=so.okd _ m2
  have k3:=so.cm _ m1 _ m2
  generalize xs.getD i default=x at *
  generalize xs.getD j default=y at *
  obtain⟨f,rf,rfl⟩:=hx _ m1
  obtain⟨g,rg,rfl⟩:=hx _ m2
  cases r1 with
  | tup hq rs =>
   cases r2 with
   | tup hq' rs' =>
    generalize its.getD i .none=u1 at *
    generalize its.getD j .none=u2 at *
    cases e1;cases e2
    obtain⟨as,ra,pa,_⟩:=I.tuple hq
    obtain⟨bs,rb,pb,_⟩:=I.tuple hq'
    obtain⟨o,ho,_,n,hd⟩:=pa
    obtain⟨o',ho',_,n',hd'⟩:=pb
    refine kat_lt ho hd ho' hd' ?_
    cases rs with
    | cons a1 rs =>
     cases ra with
     | @cons _ p _ la b1 ra =>
      cases rs' with
      | cons a2 rs' =>
       cases rb with
       | @cons _ q _ lb b2 rb =>
        have hu':A.units+29<cLine:=by have:eqN=30:=rfl;lia
        have z1:okD M 29 f=true/\rf.all (okD M 29)=true:=by
         have:(f::rf).all (okD M 29)=true:=k1
         rwa [ABK,AAS]at this
        have z2:okD M 29 g=true/\rg.all (okD M 29)=true:=by
         have:(g::rg).all (okD M 29)=true:=k2
         rwa [ABK,AAS]at this
        have z3:(if eqD M 29 f g=true then wG (eqD M 29) (fE M 29) rf rg else fE M 29 f g)=true:=k3
        have he:=(jH I sm 29 A _ _ _ _ _ _ hu' a1 b1 a2 b2 z1.1 z2.1).1
        have hc':C (if eqD M 29 f g=true then pO (eqD M 29) (ltD M 29) rf rg else ltD M 29 f g) s:=hc
        cases hq3:eqD M 29 f g with
        | true =>
         rw[hq3]at he hc' z3
         have:=vY (prog:=X.prog) (w:=X.w) (b:=b) (Q:=C) (l:=true) he (λz=>nomatch z) (λ_=>Ap I sm 29 A hu' _ _ _ _ _ _ rs ra rs' rb z1.2 z2.2 z3) hc'
         simpa using this
        | false =>
         rw[hq3]at he hc'
         have:=vY (prog:=X.prog) (w:=X.w) (b:=b) (Q:=C) (l:=ltD M 29 f g) (its:=la) (jts:=lb) (k:=true) he (λ_=>hone f g _ _ _ _ _ _ m1 m2 a1 b1 a2 b2 hq3) (λz=>nomatch z) hc'
         simpa using this
 have fin:∀(κ:SortKind),(∀i j (C:Bool->Shared->Prop),i<its.length->j<its.length->C (ltc M xs i j) s->kas_ask X.prog X.w A κ its i j C s)->(s=s/\∀i j (C:Bool->Shared->Prop),i<its.length->j<its.length->C (ltc M xs i j) s->kas_ask X.prog X.w A κ its i j C s):=λκ h=>⟨rfl,h⟩
 have eqn:A.units+29<cLine:=by have:eqN=30:=rfl;lia
 rcases so.kd with hk | hk | hk | hk | hk
 ·refine kas_kind (T:=.type "str") h2 (λu hu=>?_) (by decide) (by decide) (fin _ λi j C hi hj hc=>?_)
  ·obtain⟨d,v,m1,r1,e1⟩:=r.mem rr hu
   obtain⟨z,rfl⟩:=hk d m1
   cases r1
   obtain⟨t,rfl⟩:=e1
   exact nK
  ·unfold kas_ask
   obtain⟨v1,r1,e1,m1⟩:=r.getD' rr (show i<xs.length by lia)
   obtain⟨v2,r2,e2,m2⟩:=r.getD' rr (show j<xs.length by lia)
   unfold ltc at hc
   obtain⟨z,hz⟩:=hk _ m1
   obtain⟨z',hz'⟩:=hk _ m2
   rw[hz]at r1 hc
   rw[hz']at r2 hc
   cases r1;cases r2
   obtain⟨t,h1⟩:=e1
   obtain⟨t',h2⟩:=e2
   rw[h1,h2]
   exact kas_lt_str hc
 ·refine kas_kind (T:=.type "int") h2 (λu hu=>?_) (by decide) (by decide) (fin _ λi j C hi hj hc=>?_)
  ·obtain⟨d,v,m1,r1,e1⟩:=r.mem rr hu
   obtain⟨z,rfl⟩:=hk d m1
   cases r1
   obtain⟨t,rfl⟩:=e1
   exact nL
  ·unfold kas_ask
   obtain⟨v1,r1,e1,m1⟩:=r.getD' rr (show i<xs.length by lia)
   obtain⟨v2,r2,e2,m2⟩:=r.getD' rr (show j<xs.length by lia)
   unfold ltc at hc
   obtain⟨z,hz⟩:=hk _ m1
   obtain⟨z',hz'⟩:=hk _ m2
   rw[hz]at r1 hc
   rw[hz']at r2 hc
   cases r1;cases r2
   obtain⟨t,h1⟩:=e1
   obtain⟨t',h2⟩:=e2
   rw[h1,h2]
   exact kat_lt_int hc
 ·obtain⟨fs,t1,t2,t3⟩:=pY I r rr λx hx=>(hk x hx).elim λz ⟨r,e⟩=>⟨_,_,e⟩
  refine kat_kind (T:=.type "str") t1 (by lia) (λu hu=>?_) (by decide) (fin _ (tups _ (λx hx=>(hk x hx).elim λz ⟨r,e⟩=>⟨_,_,e⟩) λf g vf vg p q r r' m1 m2 r1 e1 r2 e2 hq Q' h=>?_))
  ·obtain⟨d,v,r1,e1,r',m1⟩:=t3 u hu
   obtain⟨z,r'',e⟩:=hk _ m1
   cases e
   cases r1
   obtain⟨t,rfl⟩:=e1
   exact nK
  ·obtain⟨z,_,e⟩:=hk _ m1
   cases e
   obtain⟨z',_,e'⟩:=hk _ m2
   cases e'
   cases r1;cases r2
   obtain⟨t,rfl⟩:=e1
   obtain⟨t',rfl⟩:=e2
   exact oneLt_str h
 ·obtain⟨fs,t1,t2,t3⟩:=pY I r rr λx hx=>(hk x hx).elim λz ⟨r,e⟩=>⟨_,_,e⟩
  refine kat_kind (T:=.type "int") t1 (by lia) (λu hu=>?_) (by decide) (fin _ (tups _ (λx hx=>(hk x hx).elim λz ⟨r,e⟩=>⟨_,_,e⟩) λf g vf vg p q r r' m1 m2 r1 e1 r2 e2 hq Q' h=>?_))
  ·obtain⟨d,v,r1,e1,r',m1⟩:=t3 u hu
   obtain⟨z,r'',e⟩:=hk _ m1
   cases e
   cases r1
   obtain⟨t,rfl⟩:=e1
   exact nL
  ·obtain⟨z,_,e⟩:=hk _ m1
   cases e
   obtain⟨z',_,e'⟩:=hk _ m2
   cases e'
   cases r1;cases r2
   obtain⟨t,rfl⟩:=e1
   obtain⟨t',rfl⟩:=e2
   exact oneLt_int h
 ·obtain⟨fs,t1,t2,t3⟩:=pY I r rr λx hx=>(hk x hx).elim λz ⟨r,e⟩=>⟨_,_,e⟩
  refine kat_kind (T:=.type "tuple") t1 (by lia) (λu hu=>?_) (by decide) (fin _ (tups _ (λx hx=>(hk x hx).elim λz ⟨r,e⟩=>⟨_,_,e⟩) λf g vf vg p q r r' m1 m2 r1 e1 r2 e2 hq Q' h=>?_))
  ·obtain⟨d,v,r1,e1,r',m1⟩:=t3 u hu
   obtain⟨z,r'',e⟩:=hk _ m1
   cases e
   cases r1 with
   | tup hq rs =>
    cases e1
    obtain⟨_,_,pl,_⟩:=I.tuple hq
    obtain⟨o,ho,hc,_⟩:=pl
    rw[<-hc]
    exact(show Looks _ s.heap (typeOf (.ref _)) o.cls from(Looks.ld ho).andThen .now)
  ·have k1:okD M 29 f=true:=by
    have:(f::r).all (okD M 29)=true:=so.okd _ m1
    rw[ABK,AAS]at this
    exact this.1
   have k2:okD M 29 g=true:=by
    have:(g::r').all (okD M 29)=true:=so.okd _ m2
    rw[ABK,AAS]at this
    exact this.1
   have k3:(if eqD M 29 f g=true then wG (eqD M 29) (fE M 29) r r' else fE M 29 f g)=true:=so.cm _ m1 _ m2
   rw[hq]at k3
   exact kat_one _ _ (yT I sm 29 A _ _ _ _ _ _ eqn r1 e1 r2 e2 k1 k2 k3 _ _ _ _ h)
end
section
variable{X:Cx}{pins:List (Addr×Obj)}{σ:St}{H:Hp}{s:Shared}{ρ:List Addr}{M:Mem}
theorem Ae(so:SrtG M xs):(∀a∈xs,ltD M eqN a a=false)/\(∀a∈xs,∀b∈xs,∀d∈xs,ltD M eqN a b=true->ltD M eqN b d=true->ltD M eqN a d=true)/\∀a∈xs,∀b∈xs,∀d∈xs,ltD M eqN a d=true->ltD M eqN a b=true\/ltD M eqN b d=true:=by
 obtain⟨en,e⟩:=so.od
 refine⟨λa ha=>?_,λa ha b hb d hd h1 h2=>?_,λa ha b hb d hd h=>?_⟩
 ·rw[e a ha a ha,dF_ (ABH _)]
 ·rw[e a ha b hb,decide_eq_true_eq]at h1
  rw[e b hb d hd,decide_eq_true_eq]at h2
  rw[e a ha d hd,decide_eq_true_eq]
  exact List.lt_trans h1 h2
 ·rw[e a ha d hd,decide_eq_true_eq]at h
  rw[e a ha b hb,e b hb d hd,decide_eq_true_eq,decide_eq_true_eq]
  by_cases z:en a<en b
  ·exact .inl z
  ·have z':en b<=en a:=z
   exact .inr (List.lt_of_le_of_lt z' h)
theorem xi{k:Nat}{l:Addr}{xs:List D}{ws:List V}{its:List Value}{R:VK}(hr:Room k X.A)(I:Inv X pins σ H s)(sm:Sim X.K ρ M H)(so:SrtG M xs)(r:Reps X.K ρ H xs ws)(rr:au ws its)(hl:s.heap.IsList l its.toArray)(hz:ws.length<=sizeLine)(h2:2<=its.length)(h64:its.length<64)
  (hne:l≠X.env.locals) (kk:∀v H',((∀Q:DK,(∀ys,ys.Perm xs->BR M ys->Q (.ref M.length) (M++[.lst ys]))->VQ X.K ρ H Q v H'))->R v H') :
  wpAny (model X.prog X.w) X.A (call (.builtin "sorted") [.ref l]) (EP X pins σ R) X.xe s:=by
 obtain⟨m,hn,hm⟩:=I.loc
 have lw:=r.length
 have li:=rr.length
 obtain⟨ol,hol,_⟩:=id hl
 have mem:∀a o,(a,o)∈[]++(l,ol)::Att.ledger s.heap X.env.locals l↔a≠X.env.locals/\s.heap.get? a=some o:=λa o=>by
  rw[AB6,AAM,Att.mem_ledger]
  constructor
  ·rintro(h | ⟨h1,_,h3⟩)
   ·cases h;exact⟨hne,hol⟩
   ·exact⟨h1,h3⟩
  ·rintro⟨h1,h2⟩
   by_cases hal:a=l
   ·subst hal
    rw[hol]at h2;cases h2
    exact .inl rfl
   ·exact .inr ⟨h1,hal,h2⟩
 refine kat_sorted (Att.fr_all hn) (Att.news_ledger hne hol) hl h2 h64 λD e1 h' F' N' lt=>?_
 have kp:∀b u,b≠X.env.locals->s.heap.get? b=some u->h'.get? b=some u:=λb u hb e=>(N' (b,u) (AA9 _ ((mem b u).mpr ⟨hb,e⟩))).1
 have hDL:D≠X.env.locals:=(N' _ AAG).2.1
 have hD:s.heap.get? D=none:=by
  cases q:s.heap.get? D with
  | none=>rfl
  | some o=>exact absurd (lt (D,o) ((mem D o).mpr ⟨hDL,q⟩)) (AAf _)
 have I':Inv X pins σ H { s with heap:=h' }:=I.keptF (t':=s.toks) kp hn F'.ns
 have hu:X.A.in1.in1.units+eqN<cLine:=by
  have:=hr.un
  have:eqN=30:=rfl
  show X.A.units+1+1+eqN<cLine
  lia
 refine AAp (iV I' sm so r rr h2 hu) (λκ s' hk=>?_) λ_ _ x=>x
 obtain⟨rfl,hask⟩:=hk
 refine Srt.wp_run (n:=its.length) (c:=λi j=>if i<xs.length then(if j<xs.length then ltD M eqN (xs.getD i default) (xs.getD j default)else true)else false) (λi j C hi hj hc=>?_) _ (Srt.sort_bd (by lia)).1 ?_
 ·refine hask i j C hi hj ?_
  rw[if_pos (by lia),if_pos (by lia)]at hc
  exact hc
 ·have hent:=Srt.All.run (c:=λi j=>if i<xs.length then(if j<xs.length then ltD M eqN (xs.getD i default) (xs.getD j default)else true)else false) _ (Srt.sort_bd (n:=its.length) (by lia)).2
  obtain⟨o1,o2,o3⟩:=Ae so
  have hsl:=Srt.sort_list xs (by lia) o1 o2 o3
  try dsimp only at hsl
  rw[show xs.length=its.length by lia]at hsl hent ⊢
  generalize Srt.run _ (ADp its.length)=p at hent hsl ⊢
  have hi:∀i∈p.toList,i<xs.length:=λi h=>by
   have:=hent.mem_iff.mp h
   rw[AAs]at this
   lia
  refine KasFin.intro F' N' (UpdF.head λq hq=>AAK (lt q hq)) λh2 c F2 N2=>?_
  have r':=r.perm p.toList hi
  have rr':=rr.perm p.toList (λi h=>by have:=hi i h;lia)
  have hD':H D=none:=HOk.none I.hok hD
  refine⟨.ref D,_,I.laidF (t':=s.toks) (o:=.lst (p.toList.map λi=>ws.getD i .non)) (λb u hb e=>(N2 (b,u) (AA9 _ ((mem b u).mpr ⟨hb,e⟩))).1) hn F2.ns hD hD' ⟨?_,_,c,rr',(N2 _ AAG).1⟩,rfl,
   kk _ _ λQ hQ=>VQ.laidL sm .refl r' hD' (hQ _ hsl.1 hsl.2)⟩
  rw[AA6]
  have:=hsl.1.length_eq
  rw[AA6]at this
  lia
end
theorem Inv.sqL_ne(I:Inv X pins σ H s)(h:SqL X.K H a xs):a≠X.env.locals:=by
 rcases h with h | ⟨o,its,n,hk,_⟩
 ·rcases h with h | ⟨_,h⟩
  ·exact ad h I.free
  ·exact ad h I.free
 ·have:=AAF (I.mod.kin a o hk)
  exact AAK (AAP this (AB0 I.ok.bsz I.ok.above))
section
variable{X:Cx}
theorem wJ(hr:Room k X.A):my X (.builtin "sorted") iZ:=by
 rintro pins s σ H vs us R I rv ⟨ds,M,ρ,Q,sm,rs,q,kk⟩
 unfold iZ at q
 split at q
 ·obtain⟨xs,hL,so,q⟩:=q
  cases rs with
  | cons r1 rs =>
   cases rs
   obtain⟨u,rfl,e1⟩:=au.one rv
   cases r1 with
   | ref e =>
    cases e1
    obtain⟨ws,hq,r⟩:=ao.seq sm hL e
    obtain⟨its,rr,pl,hz⟩:=I.list hq
    have lw:=r.length
    have li:=rr.length
    by_cases h2:its.length<2
    ·refine nq pl.isList h2 λD h' n hD hk ho=>?_
     refine⟨.ref D,_,I.laid (t':=s.toks) (o:=.lst ws) hk hD ⟨hz,its,n,rr,ho⟩,rfl,kk _ _ (VQ.laidL sm .refl r (I.hok.fresh hD) (q xs (ACc _) ?_))⟩
     unfold BR
     match xs,(show xs.length<2 by lia) with
     | [],_=>exact ACv
     | [x],_=>exact ADW _ _
     | _::_::_,hx=>simp at hx;lia
    ·have h2':2<=its.length:=by lia
     have h64:its.length<64:=by have:=so.len;lia
     exact xi hr I sm so r rr pl.isList hz h2' h64 (I.sqL_ne hq) λv H' x=>kk v H' (x Q q)
 ·exact q.elim
end
structure ZA(z TI TO i1 i2:Addr)(f1 f2:List Addr):Prop where
 nd:[z,TI,TO,i1,i2].Nodup
 z1:z∉f1
 o1:TO∉f1
 y1:i2∉f1
 z2:z∉f2
 o2:TO∉f2
 x2:i1∉f2
section
variable{X:Cx}{pins:List (Addr×Obj)}{σ:St}{H:Hp}{s:Shared}{h':Heap}
theorem Inv.turnedL{t':Nat}{fp:List Addr}(I:Inv X pins σ H s)(hf:∀b∈fp,tP X pins H b)(k:∀b o,b∉fp->s.heap.get? b=some o->h'.get? b=some o):Inv X pins σ H { s with heap:=h',toks:=t' }:=by
 have nfp:∀b u,H b=some u->b∉fp:=λb u e z=>by rw[(hf b z).1]at e;cases e
 refine I.step (g':=s.gens) (d':=s.drawn) (ch:=fp) (λb hb=>⟨(hf b hb).2.2.2.1,(hf b hb).2.1,(hf b hb).2.2.2.2.1,(hf b hb).2.2.2.2.2⟩) (λb o _ _ hc e _=>k b o hc e) (λb o _ _ hc e _=>⟨o.slots,k b o hc e⟩) (λ_ _ _ _ n=>n)
  (λb o hc e=>⟨o,k b o hc e⟩) (λ_ _ e=>e) (λ_ _ _ e=>e) (λb ps e=>⟨#[],by rw[e];simp⟩) (λm hm=>?_) (λb u e=>?_) I.bare
 ·obtain⟨o,es,ep,ho,r⟩:=hm
  exact⟨o,es,ep,k _ o (λz=>(hf _ z).2.1 rfl) ho,r⟩
 ·refine(I.hok b u e).stay (λc v hc q=>k c v ?_ q) (λ_ q=>q) λ_ _ q=>q
  rcases hc with rfl | z
  ·exact nfp _ u e
  ·exact nfp _ _ z
end
noncomputable def zipD(xs ys:List D):List D:=(xs.zip ys).map λp=>.tup [p.1,p.2]
def RowAt(M:Mem)(x:D)(xs:List D)(ok:Mem->Prop):Prop:=match x with
 | .tup ds=>xs=ds/\ok=λ_=>True
 | .ref n=>ao M n xs/\ok=λM=>ao M n xs
 | _=>False
section
variable{prog:Program}{w:World}{A:Around}{E:Value->Shared->Prop}{s:Shared}
theorem pK{D:Addr}{vs:List Value}{n:Nat}{Q:Value->Shared->Prop}(ho:s.heap.get? D=some (seqObj "list" vs.toArray n))(h2:vs.length<2)
  (h:∀h' c,(∀b o,b≠D->s.heap.get? b=some o->h'.get? b=some o)->h'.get? D=some (seqObj "list" vs.toArray c)->Q .none { s with heap:=h' }):wpAny (model prog w) A (call (.builtin "list.sort") [.ref D]) Q E s:=by
 have few:vs.length<=sizeLine:=by rw[ABj];lia
 refine AAj slot_list_sort (⟨_,ho,rfl⟩) entry_list_sort ?_ (args_list_sort (.ref D))
 rw[list_sort_plain]
 refine AA0 (ADs ho rfl (AA0 (AD0 ho rfl ?_ (by rw[AAD];exact few) (AAW _))))
 obtain⟨e1,ho1⟩:∃e1,(s.heap.update D (AB2 λ_=>(#[]:Array Value))).get? D=some (seqObj "list" #[] e1):=⟨_,ACP ho λ_=>#[]⟩
 refine AA0 (seqEpoch_at ho1 rfl (AA0 (wpAny_newTuple (AA0 (ACz (AAd ?_) (AAW _))) few)))
 dsimp only
 have hv2:vs.toArray.size<2:=by rw[AAD];exact h2
 rw[if_pos hv2,if_pos hv2]
 refine AA0 (AA2 ?_)
 rw[StateT.run_pure]
 refine AA0 (AA2 ?_)
 dsimp only
 generalize hg3:((s.heap.update D (AB2 λ_=>(#[]:Array Value))).push (seqObj "tuple" vs.toArray 0)).push (seqObj "list" #[] 0)=g3
 have ho3:g3.get? D=some (seqObj "list" #[] e1):=by rw[<-hg3];exact AA4 _ (AA4 _ ho1)
 have k3:∀b o,b≠D->s.heap.get? b=some o->g3.get? b=some o:=λb o hb q=>by
  rw[<-hg3]
  refine AA4 _ (AA4 _ ?_)
  rw[ABm _ _ _ _ hb]
  exact q
 refine AA0 (seqEpoch_at ho3 rfl ?_)
 have eo:∀us:List Value,us.length<2->(us.toArray.zip us.toArray).map (·.2)=us.toArray:=λus hu=>by
  match us,hu with
  | [],_=>simp
  | [v],_=>simp
  | _::_::_,hu=>simp at hu;lia
 have eout:(arrOf (SortSt.mk' general' (vs.toArray.zip vs.toArray) #[] 7 none)).map (·.2)=vs.toArray:=eo vs h2
 rw[eout]
 refine AA0 (AD0 ho3 rfl ?_ (AAW _) (by rw[AAD];exact Nat.le_succ_of_le few))
 simp only[show failedOf (SortSt.mk' general' (vs.toArray.zip vs.toArray) #[] 7 none)=none from rfl,bne_self_eq_false,AAA,if_false]
 obtain⟨c2,hc2⟩:∃c2,(g3.update D (AB2 λ_=>vs.toArray)).get? D=some (seqObj "list" vs.toArray c2):=⟨_,ACP ho3 λ_=>vs.toArray⟩
 refine AA2 ⟨_,rfl,h _ c2 (λb o hb q=>?_) hc2⟩
 rw[ABm _ _ _ _ hb]
 exact k3 b o hb q
end
section
variable{X:Cx}{pins:List (Addr×Obj)}{σ:St}{H:Hp}{s:Shared}{ρ:List Addr}{M:Mem}
theorem zA{k:Nat}{D:Addr}{xs:List L2.D}{ws:List V}{its:List Value}{R:VK}{h1:Heap}{tk n:Nat}{m:Str->Option Value}{A:Around}{E:Value->Shared->Prop}(hr:Room k X.A)(hA:A.units<=X.A.units+4)(I:Inv X pins σ H s)(sm:Sim X.K ρ M H)(so:SrtG M xs)(r:Reps X.K ρ H xs ws)(rr:au ws its)
  (hn:s.heap.Ns X.env.locals m) (hn1:h1.Ns X.env.locals m) (kp1:∀b u,b≠X.env.locals->s.heap.get? b=some u->h1.get? b=some u) (hD:s.heap.get? D=none) (hne:D≠X.env.locals) (ho:h1.get? D=some (seqObj "list" its.toArray n))
  (kk:∀v H',((∀Q:DK,(∀ys,ys.Perm xs->BR M ys->Q (.ref M.length) (M++[.lst ys]))->VQ X.K ρ H Q v H'))->R v H') :
  wpAny (model X.prog X.w) A (call (.builtin "list.sort") [.ref D]) (λ_ s'=>EP X pins σ R (.ref D) s') E { s with heap:=h1,toks:=tk }:=by
 have lw:=r.length
 have li:=rr.length
 have l64:=so.len
 have hH:H D=none:=HOk.none I.hok hD
 have neD:∀b u,s.heap.get? b=some u->b≠D:=λb u e q=>by subst q;rw[hD]at e;cases e
 by_cases h2:its.length<2
 ·refine pK ho h2 λh' c kp' ho'=>?_
  have hn':h'.Ns X.env.locals m:=by
   obtain⟨o,es,ep,e,aE⟩:=hn1
   exact⟨o,es,ep,kp' _ _ (ABO hne) e,aE⟩
  refine⟨.ref D,_,I.laidF (t':=tk) (o:=.lst ws) (λb u hb e=>kp' b u (neD b u e) (kp1 b u hb e)) hn hn' hD hH ⟨by rw[ABj];lia,its,c,rr,ho'⟩,rfl,kk _ _ λQ hQ=>VQ.laidL sm .refl r hH (hQ xs (ACc _) ?_)⟩
  unfold BR
  match xs,(show xs.length<2 by lia) with
  | [],_=>exact ACv
  | [x],_=>exact ADW _ _
  | _::_::_,hx=>simp at hx;lia
 ·have h2':2<=its.length:=by lia
  have mem:∀a o,(a,o)∈Att.ledger h1 X.env.locals D↔a≠X.env.locals/\a≠D/\h1.get? a=some o:=λa o=>Att.mem_ledger
  have U:UpdF D (seqObj "list" its.toArray n) ([]++(D,seqObj "list" its.toArray n)::Att.ledger h1 X.env.locals D) λo'=>(D,o')::Att.ledger h1 X.env.locals D:=UpdF.head λp hp=>((mem p.1 p.2).mp hp).2.1
  refine kat_lsort (s:={ s with heap:=h1,toks:=tk }) (vs:=its) (Att.fr_all hn1) (Att.news_ledger hne ho) U rfl h2' (by lia) λe1 h' F' N'=>?_
  have kp:∀b u,b≠X.env.locals->s.heap.get? b=some u->h'.get? b=some u:=λb u hb e=>(N' (b,u) (AA9 _ ((mem b u).mpr ⟨hb,neD b u e,kp1 b u hb e⟩))).1
  have I':Inv X pins σ H { s with heap:=h',toks:=tk }:=I.keptF (t':=tk) kp hn F'.ns
  have hu:A.in1.units+eqN<cLine:=by
   have:=hr.un
   have:eqN=30:=rfl
   show A.units+1+eqN<cLine
   lia
  refine AAp (iV I' sm so r rr h2' hu) (λκ s' hk=>?_) λ_ _ x=>x
  obtain⟨rfl,hask⟩:=hk
  refine Srt.wp_run (n:=its.length) (c:=λi j=>if i<xs.length then(if j<xs.length then ltD M eqN (xs.getD i default) (xs.getD j default)else true)else false) (λi j C hi hj hc=>?_) _ (Srt.sort_bd (by lia)).1 ?_
  ·refine hask i j C hi hj ?_
   rw[if_pos (by lia),if_pos (by lia)]at hc
   exact hc
  ·have hent:=Srt.All.run (c:=λi j=>if i<xs.length then(if j<xs.length then ltD M eqN (xs.getD i default) (xs.getD j default)else true)else false) _ (Srt.sort_bd (n:=its.length) (by lia)).2
   obtain⟨o1,o2,o3⟩:=Ae so
   have hsl:=Srt.sort_list xs (by lia) o1 o2 o3
   try dsimp only at hsl
   rw[show xs.length=its.length by lia]at hsl hent ⊢
   generalize Srt.run _ (ADp its.length)=p at hent hsl ⊢
   have hi:∀i∈p.toList,i<xs.length:=λi h=>by
    have:=hent.mem_iff.mp h
    rw[AAs]at this
    lia
   refine KasFin.intro F' N' (UpdF.head λq hq=>((mem q.1 q.2).mp hq).2.1) λh2 c F2 N2=>?_
   have r':=r.perm p.toList hi
   have rr':=rr.perm p.toList (λi h=>by have:=hi i h;lia)
   refine⟨.ref D,_,I.laidF (t':=tk) (o:=.lst (p.toList.map λi=>ws.getD i .non)) (λb u hb e=>(N2 (b,u) (AA9 _ ((mem b u).mpr ⟨hb,neD b u e,kp1 b u hb e⟩))).1) hn F2.ns hD hH ⟨?_,_,c,rr',(N2 _ AAG).1⟩,rfl,
    kk _ _ λQ hQ=>VQ.laidL sm .refl r' hH (hQ _ hsl.1 hsl.2)⟩
   rw[AA6]
   have:=hsl.1.length_eq
   rw[AA6]at this
   rw[ABj]
   lia
end
section
variable{K:AA3}{ρ:List Addr}{H:Hp}{M:Mem}
theorem Sim.laidM(S:Sim K ρ M H)(hp:H p=none)(ok:tO K (ρ++[p]) (upd H p o) p mo):Sim K (ρ++[p]) (M++[mo]) (upd H p o):=by
 have g:Grow K ρ H (ρ++[p]) (upd H p o):=Grow.laidR hp
 have old:∀(n:Nat),ρ[n]?=some p->isK M[n]?:=λn e=>by
  rcases S.tracked e with⟨o,q⟩ | q
  ·rw[hp]at q;cases q
  ·exact q
 refine⟨λn m a hnm e1 e2=>?_,by rw[AAE,AAE,S.len];rfl,λn a mo' e1 e2=>?_⟩
 ·rcases aJ e1 with f1 | ⟨f1,g1⟩
  ·rcases aJ e2 with f2 | ⟨f2,g2⟩
   ·exact(S.nd n m a hnm f1 f2).elim (λz=>.inl z.more) λz=>.inr z.more
   ·subst g2
    exact .inl (old n f1).more
  ·rcases aJ e2 with f2 | ⟨f2,g2⟩
   ·subst g1
    exact .inr (old m f2).more
   ·exact absurd (f1.trans f2.symm) hnm
 ·rcases aJ e1 with f1 | ⟨f1,g1⟩
  ·have hn:n<M.length:=by rw[<-S.len];exact(AA7.mp f1).1
   rw[AAJ hn]at e2
   exact(S.obj n a mo' f1 e2).grow g (S.keeps hp f1 e2)
  ·subst g1 f1
   rw[S.len,AAa (AA8 _),ACo]at e2
   simp at e2
   subst e2
   exact ok
end
structure HGs(X:Cx)(es:List Expr)(t:zn):Prop where
 ok:DGs X es t
section
variable{X:Cx}{e a b c o i tg:Expr}{es aE:List Expr}{te ta tb tc to ti:DTE}{t:DTA}{pos p p2 pos':Pos}{x:Str}{k:Nat}{g:DTG}{u:zn}{name:Str}{apos cpos:Pos}
theorem AG:HGs X [] ou:=⟨Bq⟩
theorem xY(h1:HG X e g)(h2:HGs X es u)(hs:(assignEach (e::es) X.env).map (·.2)=assign e X.env::(assignEach es X.env).map (·.2):=by kernel_rfl):HGs X (e::es) (ci g u):=⟨yz h1.ok h2.ok hs⟩
theorem DF(h:HGs X es u)(hc:X.calm=true:=by kernel_rfl)(hn:(assignEach es X.env).length=n:=by kernel_rfl)(hst:(assignEach es X.env).findIdx? (·.1)=none:=by kernel_rfl):HG X (.Tuple es j pos) (oq n u):=⟨EL h.ok hc hn hst⟩
theorem DH(ho:HE X o to)(hi:HE X i ti)
  (ha:∀v,assign (.Subscript o i pos) X.env v=(do
   let ov <-holding [v] (eval o X.env)
   let iv <-holding [v,ov] (eval i X.env)
   standAt pos
   holding [v,ov,iv] (setItem ov iv v)
   release [v,ov,iv] []):=by intro _;kernel_rfl):HG X (.Subscript o i pos) (yA to ti):=⟨EM ho.ok hi.ok ha⟩
theorem zd(he:HE X e te)(hg:HG X tg g)(hs:swapsWithSole [tg] e pos.line X.env=pure false:=by kernel_rfl)(hw:swappedStores [tg] e X.env=pure none:=by kernel_rfl)
  (h1:(assignEach [tg] X.env).map (·.2)=[assign tg X.env]:=by kernel_rfl):HS X (.Assign [tg] e pos) (dAsg te g):=⟨EJ he.ok hg.ok hs hw h1⟩
theorem AX:HOp X (binaryOp .Add) aV:=⟨Al⟩
theorem yj:HC X (.type "tuple") fT:=⟨yF⟩
theorem we:HMl X "extend" ja:=⟨_,PySem.F.slot_list_extend,PySem.F.type_list_extend,sJ⟩
end
section
variable{X:Cx}
def Cj(nt:Nat)(js:List Nat)(wi:TI)(g:TG)(tt:TT)(te:TE)(gN:TG):TS:=λD σ H=>tLC nt js wi g tt te σ H λv H1=>gN v σ H1 D.nx
theorem xu(B:BlkSc X N' nt js scope)(hc:X.calm=true)(hi:PI X tg iter wi)
  (hg:∀cl s0 H0 ex,PG (blk X N' scope cl s0 H0 ex) tg g) (ht:∀cl s0 H0 ex,PTs (blk X N' scope cl s0 H0 ex) ifs tt) (he:∀cl s0 H0 ex,PE (blk X N' scope cl s0 H0 ex) elt te) (hn:PG X (.Name x pos') gN)
  (hs:∀x,foldedSetIterable iter X.env x=pure x) (hsw:swapsWith (.ListComp elt [⟨tg,iter,ifs,0⟩] scope pos) (some (.Name x pos')) pos2.line X.env=pure true) :
  PS X (.Assign [.Name x pos'] (.ListComp elt [⟨tg,iter,ifs,0⟩] scope pos) pos2) (Cj nt js wi g tt te gN):=by
 intro pins s σ H Dn I h
 rw[exec_Assign_Name_used _ _ _ _ hsw]
 refine AA0 (wpAny_standAt ?_)
 obtain⟨cl,ecl,hcl1,hcl2⟩:=ik (scope:=scope) (env:=X.env) λp hp hf=>I.ok.has p.1 (B.free p hp hf)
 refine AA0 (show wpAny (model X.prog X.w) X.A (comprehension (.ListComp elt [⟨tg,iter,ifs,0⟩] scope pos) scope X.env _ (newList []) false (eval iter X.env) (some (assign (.Name x pos') X.env)) >>= λ_=>pure ()) _ _ _ from AA0 ?_)
 refine wpAny_comprehension_free (use:=some (assign (.Name x pos') X.env)) (Q:=λ_ s''=>wpAny (model X.prog X.w) X.A (pure ()) (λ_ s3=>wpAny (model X.prog X.w) X.A (pure Flow.next) (SP X pins Dn) X.xe s3) X.xe s'') rfl hs ecl B.kind B.loc ?_
 refine thn (hi pins s σ H _ I h) λv s1 h1=>thn h1 λitv s2 h2=>?_
 obtain⟨it,fp,tn,J,H2,e,I2,T,st2,f2,W,⟨m0,w0⟩,turn⟩:=h2
 subst e
 refine AAh (wpAny_newFunctionEnv B.nocell (by intro y hy;simp at hy) (λh1 hns1 hsb1=>?_) B.kind)
 have hfs:∀b∈fp,b<s2.heap.objs.size:=λb hb=>by
  obtain⟨o,e,_⟩:=T.obj _ _ st2 b hb
  exact AAF e
 have hC:(s2.heap.push (bO [] 0)).objs.size=s2.heap.objs.size+1:=ABN ..
 have old:∀b o,(s2.heap.push (bO [] 0)).get? b=some o->h1.get? b=some o:=λb o e=>(hsb1.2 b (AAK (AAF e))).trans (AA4 _ e)
 have I3:=I2.blkStart (tk:=s2.toks+([]:List (Str×Value)).length) B hcl1 hcl2 f2 hfs old hns1
 have st3:tn 0 h1:=T.keep _ _ _ st2 λb _ o e=>old b o (AA4 _ e)
 have hDf:s2.heap.objs.size∉fp:=λz=>AAf _ (hfs _ z)
 have hDs:s2.heap.objs.size∉frs X.stack:=λz=>by
  rcases AAM.mp (I2.stkSub _ z)with q | q
  ·exact absurd I2.lt (by rw[<-q];exact AAf _)
  ·exact I2.nofs (AA8 _) q
 have hDC:s2.heap.objs.size≠(s2.heap.push (bO [] 0)).objs.size:=by rw[hC];exact AAK (AAy _)
 have ltc:∀z c,cl.lookup z=some c->c<s2.heap.objs.size:=λz c e=>by
  obtain⟨v,q⟩:=I2.cell z c (hcl1 z c e)
  exact q.lt
 have hstat:∀b∈fp,b≠(s2.heap.push (bO [] 0)).objs.size/\b∉frs X.stack/\∀x c,cl.lookup x=some c->c≠b:=λb hb=>by
  refine⟨by rw[hC];exact AAK (ABl (hfs b hb)),λz=>?_,λx c e=>(f2 b hb).2.2.2.2.1 x c (hcl1 x c e)⟩
  rcases AAM.mp (I2.stkSub b z)with q | q
  ·exact(f2 b hb).2.1 q
  ·exact(f2 b hb).2.2.1 q
 have leC:s2.heap.objs.size<=(s2.heap.push (bO [] 0)).objs.size:=by rw[hC];exact AE1 _
 have loop:codeAny (model X.prog X.w) X.A (.compLoop (.ListComp elt [⟨tg,iter,ifs,0⟩] scope pos) 0 (.ref it) (.ref s2.heap.objs.size) (compEnvC scope cl (s2.heap.push (bO [] 0)).objs.size X.env))
   (compPost (model X.prog X.w) X.A X.xe (some (assign (.Name x pos') X.env)) (λ_ s''=>wpAny (model X.prog X.w) X.A (pure ()) (λ_ s3=>wpAny (model X.prog X.w) X.A (pure Flow.next) (SP X pins Dn) X.xe s3) X.xe s'') (.ref s2.heap.objs.size) (s2.heap.push (bO [] 0)).objs.size) { s2 with heap:=h1,toks:=s2.toks+([]:List (Str×Value)).length }:=by
  refine vM (s0:={ s2 with heap:=s2.heap.push (bO [] 0) }) (H0:=H2) (N':=N') (Q:=λv H1=>gN v σ H1 Dn.nx) hc (hg _ _ _ _) (ht _ _ _ _) (he _ _ _ _) T hDf turn hstat hDC hDs (λx c e=>AAK (ltc x c e)) ?_ m0 I3 st3 (λb hb=>(f2 b hb).1) w0
  intro τ H' s' vs its k I4 rv hl q
  obtain⟨mm,hn4,_⟩:=id I4.loc
  obtain⟨oC,es,ep,eC,aE⟩:=id hn4
  have I5:Inv X pins σ (upd H' s2.heap.objs.size (.lst vs)) s':=I2.blkEnd f2 I4 rv hl ⟨rfl,λ_ _=>rfl⟩
  have fC:upd H' s2.heap.objs.size (.lst vs) (s2.heap.push (bO [] 0)).objs.size=none:=by rw[ae (ABO hDC)];exact I4.free
  have fk:∀Hx:Hp,Hx (s2.heap.push (bO [] 0)).objs.size=none->tP X pins Hx (s2.heap.push (bO [] 0)).objs.size:=λHx hx=>I2.fpOk leC hx
  have dC:∀v,oC.data≠.cell v:=λv z=>by
   have:∃es ep,oC.data=.dict es ep:=by
    first
     | (obtain⟨d,_⟩:=aE;exact⟨_,_,d⟩)
     | (obtain⟨_,d,_⟩:=aE;exact⟨_,_,d⟩)
     | (obtain⟨_,_,d,_⟩:=aE;exact⟨_,_,d⟩)
   obtain⟨_,_,d⟩:=this
   rw[d]at z;cases z
  have I6:Inv X (pins++[((s2.heap.push (bO [] 0)).objs.size,oC)]) σ (upd H' s2.heap.objs.size (.lst vs)) s':=I5.pins_of λp hp=>by
   rcases AAk.mp hp with hp | hp
   ·exact I5.pin p (AAI _ hp)
   ·have:p=((s2.heap.push (bO [] 0)).objs.size,oC):=by simpa using hp
    subst this
    exact⟨eC,fC,(fk _ fC).2.1,(fk _ fC).2.2.1,dC⟩
  refine thn (hn _ s' σ _ (.ref s2.heap.objs.size) (.ref s2.heap.objs.size) _ I6 rfl q) ?_
  rintro _ s7 ⟨σ7,H7,I7,q7⟩
  obtain⟨p1,p2,_⟩:=I7.pin ((s2.heap.push (bO [] 0)).objs.size,oC) (AAI _ (AAI _ AAG))
  refine⟨mm,⟨oC,es,ep,p1,aE⟩,λh' sb=>AA2 (AA2 ⟨σ7,H7,?_,q7⟩)⟩
  have I8:Inv X pins σ7 H7 s7:=I7.pins_of λp hp=>I7.pin p (AAI _ (AAr _ hp))
  refine I8.turnedL (t':=s7.toks) (fp:=[(s2.heap.push (bO [] 0)).objs.size]) (λb hb=>?_) λb o hb e=>(sb.2 b (by simpa using hb)).trans e
  have:b=(s2.heap.push (bO [] 0)).objs.size:=by simpa using hb
  subst this
  exact fk H7 p2
 exact codeAny_compStart_list loop (T.self _ 0 _ _ _ st3 loop)
def kZ(nt:Nat)(js:List Nat)(di:DTI)(g:DTG)(tt:DTT)(te:DTE)(i:Nat):DTS:=λE S M=>dLC nt js di g tt te S M λd M1=>ay i d S M1 E.nx
theorem yw(B:BlkSc X N' nt js scope)(hc:X.calm=true)(hi:DI X tg iter di)
  (hg:∀cl s0 H0 ex,DG (blk X N' scope cl s0 H0 ex) tg g) (ht:∀cl s0 H0 ex,PTs (blk X N' scope cl s0 H0 ex) ifs (lowT X.K tt)) (he:∀cl s0 H0 ex,DE (blk X N' scope cl s0 H0 ex) elt te) (hn:DG X (.Name x pos') (ay i))
  (hs:∀x,foldedSetIterable iter X.env x=pure x) (hsw:swapsWith (.ListComp elt [⟨tg,iter,ifs,0⟩] scope pos) (some (.Name x pos')) pos2.line X.env=pure true) :
  DS X (.Assign [.Name x pos'] (.ListComp elt [⟨tg,iter,ifs,0⟩] scope pos) pos2) (kZ nt js di g tt te i) :=
 PS.imp (xu (g:=lowG X.K g) (tt:=lowT X.K tt) (te:=lowE X.K te) B hc hi (λcl s0 H0 ex=>hg cl s0 H0 ex) ht (λcl s0 H0 ex=>he cl s0 H0 ex) hn hs hsw) λE σ H ⟨S,M,ρ,F,s,sr,q,k⟩ =>
  vF σ H _ ⟨S,M,ρ,_,s,sr,q,λv H1 ⟨d,M1,ρ1,s1,g1,r1,q1⟩=>⟨d,S,M1,ρ1,_,s1,sr.grow g1,r1,q1,λσ' H' w=>k.nx σ' H' (SQ.trans g1 w)⟩⟩
theorem xT(hN:X.N.Nodup)(hi:HI X tg iter di)
  (hg:∀cl s0 H0 ex,HG (blk X N' scope cl s0 H0 ex) tg g) (ht:∀cl s0 H0 ex,HTs (blk X N' scope cl s0 H0 ex) ifs tt) (he:∀cl s0 H0 ex,HE (blk X N' scope cl s0 H0 ex) elt te) (B:lc X.env.scope.names X.N N' nt js scope=true:=by kernel_rfl) (hc:X.calm=true:=by kernel_rfl)
  (hs:∀x,foldedSetIterable iter X.env x=pure x:=by intro _;kernel_rfl) (hsw:swapsWith (.ListComp elt [⟨tg,iter,ifs,0⟩] scope pos) (some (.Name x pos')) pos2.line X.env=pure true:=by kernel_rfl)
  (hix:X.N[i]?=some x:=by kernel_rfl) (hx:Ao X.env.scope x=true:=by kernel_rfl) (hf:X.fn x=true:=by kernel_rfl):HS X (.Assign [.Name x pos'] (.ListComp elt [⟨tg,iter,ifs,0⟩] scope pos) pos2) (kZ nt js di g tt te i) :=
 ⟨yw (BlkSc.chk B) hc hi.ok (λcl s0 H0 ex=>(hg cl s0 H0 ex).ok) (λcl s0 H0 ex=>(ht cl s0 H0 ex).ok) (λcl s0 H0 ex=>(he cl s0 H0 ex).ok) (qf hN hix (rC hx) (.inl hf)) hs hsw⟩
end
theorem at0:atI (a::r) 0=some a:=by
 have:=az (xs:=a::r) (j:=0) (v:=a) rfl
 simpa using this
theorem at1:atI (a::b::r) 1=some b:=by
 have:=az (xs:=a::b::r) (j:=1) (v:=b) rfl
 simpa using this
theorem at2:atI (a::b::c::r) 2=some c:=by
 have:=az (xs:=a::b::c::r) (j:=2) (v:=c) rfl
 simpa using this
theorem aX.lst(h:R (.ref M.length) (M++[.lst xs]))(hn:M.length<=n)(e:(M++L)[n]?=some (.lst xs))(b:Bels M.length xs):aX M R (.ref n) (M++L) :=
 .inr (.inr ⟨M,n,xs,.refl,rfl,hn,e,AAY _ _,b,h⟩)
theorem aX.chg(c:Chg M M1)(h:R d M1)(b:Bel M.length d)(p:M1 <+: M'):aX M R d M':=.inr (.inl ⟨M1,c,b,p,h⟩)
theorem aX.chgL(c:Chg M M1)(h:R (.ref M.length) (M1++[.lst xs]))(hn:M.length<=n)(e:M'[n]?=some (.lst xs))(p:M1 <+: M')(b:Bels M.length xs):aX M R (.ref n) M':=.inr (.inr ⟨M1,n,xs,c,rfl,hn,e,p,b,h⟩)
theorem iW:(M++a::L).set M.length b=M++b::L:=by
 rw[ADt _ _ (AA8 _)]
 simp
theorem fy:(M++a::L)[M.length]?=some a:=by simp
theorem mq(I:List D->List D->SD->Mem->Prop)(h0:∀acc S M,I [] acc S M->ok M/\Q (.ref M.length) (M++[.lst acc]))
  (h1:∀x xs acc S M,I (x::xs) acc S M->∀K:List D->SD->Mem->Prop,(∀acc S M,I xs acc S M->K acc S M)->ok M/\g x S M λS2 M2=>tt S2 M2 λb M3=>if b=true then te S2 M3 λy M4=>acc.length<sizeLine/\K (acc++[y]) S2 M4 else K acc S2 M3) :
  ∀xs acc S M,I xs acc S M->ka ok g tt te Q xs acc S M
 | [],acc,S,M,h=>h0 acc S M h
 | x::xs,acc,S,M,h=>h1 x xs acc S M h _ (mq I h0 h1 xs)
noncomputable def unS:D->Str
 | .str x=>x
 | _=>Str.empty
theorem nB{ys:List D}{ks:List Str}(h:ys.Perm (ks.map D.str)):∃ns:List Str,ys=ns.map D.str/\ns.Perm ks:=by
 refine⟨ys.map unS,?_,?_⟩
 ·rw[ABT]
  have:∀y∈ys,(D.str ∘ unS) y=y:=λy hy=>by
   obtain⟨x,_,rfl⟩:=AAZ.mp (h.mem_iff.mp hy)
   rfl
  exact(AE5 this ▸ (List.map_id' ys).symm:ys=ys.map (D.str ∘ unS))
 ·have:=h.map unS
  rw[ABT]at this
  have e:(unS ∘ D.str)=id:=rfl
  rwa [e,List.map_id]at this
theorem rH:(M++a::b::L)[M.length+1]?=some b:=by
 rw[AAa (by lia),show M.length+1-M.length=1 by lia];rfl
theorem xy{α:Type}(f:α->D)(g:D->α)(hg:∀a,g (f a)=a){ys:List D}{l:List α}(h:ys.Perm (l.map f)):∃l':List α,ys=l'.map f/\l'.Perm l:=by
 refine⟨ys.map g,?_,?_⟩
 ·rw[ABT]
  have:∀y∈ys,(f ∘ g) y=y:=λy hy=>by
   obtain⟨x,_,rfl⟩:=AAZ.mp (h.mem_iff.mp hy)
   show f (g (f x))=f x
   rw[hg]
  exact(AE5 this ▸ (List.map_id' ys).symm:ys=ys.map (f ∘ g))
 ·have:=h.map g
  rw[ABT]at this
  have e:(g ∘ f)=id:=funext hg
  rwa [e,List.map_id]at this
section
variable{prog:Program}{w:World}{A:Around}{E:Value->Shared->Prop}{s:Shared}
noncomputable def aL(w:World):Obj:={ cls:=.type "set",dict:=none,data:=.set #[] 0 (.fresh 0 0 (!w.params.followText "set-order")) }
theorem qj(a:Value)(h:Q₁ (.ref s.heap.objs.size) { s with heap:=s.heap.push (aL w) }) :
  codeAny (model prog w) A (.call (.builtin "set.__new__") ⟨[.type "set",a],[]⟩) (wants Q₁ E) s:=by
 refine codeAny_of_tree (show wpAny (model prog w) A.in1 (do checkBuiltinCall "set.__new__" ⟨[.type "set",a],[]⟩;again (.builtin "set.__new__" ⟨[.type "set",a],[]⟩)) _ _ s from ?_)
 refine AA0 (wpAny_of_eq (F.newCall_set_1 a) (AA2 ⟨AD1 F.plain_set_new _,ABQ F.entry_set_new ?_⟩))
 rw[ABa F.plain_set_new _]
 have hsub:=sub_set_self
 obtain⟨hp,g,d,tk,os⟩:=s
 unfold Builtin.«set.__new__» Builtin.Frozenset.newClass
 dsimp only
 wp_walk
 refine ACF (AA2 ?_)
 simp only[newObj]
 exact AA0 (wpAny_alloc (AA2 (AA2 h)))
end
structure TxSrc(prog:Program)(w:World)(h:Heap)(l:Addr)(T:String)(n:Nat)(P:Nat->Value->Prop):Prop where
 obj:∃o,h.get? l=some o/\o.cls=.type T
 ns:isSubtype (.type T) (.type "set")=pure false
 nf:isSubtype (.type T) (.type "frozenset")=pure false
 nd:(ADJ T==ADJ "dict")=false
 iter:∀(A:Around) (s':Shared),A.handled=none->(∀o,h.get? l=some o->s'.heap.get? l=some o)->∃(oI:Obj) (St:Nat->Heap->Prop),
  (∀(E:Value->Shared->Prop) (Q:Value->Shared->Prop),Q (.ref s'.heap.objs.size) { s' with heap:=s'.heap.push oI }->wpAny (model prog w) A (pyIter (.ref l)) Q E s') /\
  Walks prog w A s'.heap.objs.size [s'.heap.objs.size,l] [s'.heap.objs.size] n P St/\St 0 (s'.heap.push oI)
theorem pc:isSubtype (.type "tuple") (.type "set")=pure false:=by rw[isSubtype_type];kernel_rfl
theorem nh:isSubtype (.type "tuple") (.type "frozenset")=pure false:=by rw[isSubtype_type];kernel_rfl
theorem TxSrc.list(hl:h.IsList l its):TxSrc prog w h l "list" its.size (λi v=>its[i]?=some v):=by
 refine⟨let ⟨o,e,c,_⟩:=hl;⟨o,e,c⟩,F.sub_list_set,F.sub_list_frozenset,by decide,λA s' hh hk=>?_⟩
 have hl':s'.heap.IsList l its:=hl.at hk
 have lt:l<s'.heap.objs.size:=let ⟨o,e,_⟩:=hl';AAF e
 exact⟨_,_,λE Q q=>wpAny_pyIter_list hl' q,Walks.list hh _ l (AAK lt) its,⟨_,AAB _ rfl,rfl,rfl⟩,hl'.push _⟩
theorem TxSrc.tuple(hl:h.IsTuple l its):TxSrc prog w h l "tuple" its.size (λi v=>its[i]?=some v):=by
 refine⟨let ⟨o,e,c,_⟩:=hl;⟨o,e,c⟩,pc,nh,by decide,λA s' hh hk=>?_⟩
 have hl':s'.heap.IsTuple l its:=let ⟨o,e,r⟩:=hl;⟨o,hk o e,r⟩
 have lt:l<s'.heap.objs.size:=let ⟨o,e,_⟩:=hl';AAF e
 exact⟨_,_,λE Q q=>wpAny_pyIter_tuple hl' q,Walks.tuple hh _ l (AAK lt) its,⟨_,AAB _ rfl,rfl,rfl⟩,let ⟨o,e,r⟩:=hl';⟨o,AA4 _ e,r⟩⟩
theorem aN:Slot "set_iterator" "__next__" "set_iterator.__next__" :=
 .of (owner:="set_iterator") (n:="__next__") (by rw[AE6,ACp];kernel_rfl) (by decide +kernel) (by decide +kernel) (by decide +kernel) (by first | exact .inl (by decide +kernel) | exact .inr (by decide +kernel)) (by rw[isSubtype_type];kernel_rfl)
theorem cZ:entryFor table "set_iterator.__next__" = some Builtin.«set_iterator.__next__»:=entryFor_of_tree (by kernel_rfl)
theorem jm:Manifest.owners.lookup (String.ofList ['r','o','t','a','r','e','t','i','_','t','e','s'].reverse)=some Manifest.sig_set_iterator:=by kernel_rfl
theorem eG(a:Value):argsOk "set_iterator.__next__" ⟨[a],[]⟩:=by
 unfold argsOk;rw[signature?_of (id:="set_iterator.__next__") (n:=['_','_','t','x','e','n','_','_']) (o:=['r','o','t','a','r','e','t','i','_','t','e','s']) (by kernel_rfl) jm];kernel_rfl
theorem mh:entryFor table "set.__iter__" = some Builtin.«frozenset.__iter__»:=entryFor_alias (id':="frozenset.__iter__") (by kernel_rfl) rfl (by decide +kernel) (by kernel_rfl)
theorem gU{α:Type}:∀(l:List α) (i:Nat) (h:i<l.length),(l[i]::l.eraseIdx i).Perm l
 | x::l,0,_=>ACc _
 | x::l,i+1,h=>by
  have h':i<l.length:=by simpa using h
  exact(List.Perm.swap x l[i] (l.eraseIdx i)).trans (AEH x (gU l i h'))
theorem tJ(hn:n≠0)(h:∀i d,i<n->Q i { s with drawn:=d }):wpAny M A (choose src n) Q E s:=by
 intro Γ p hΓ
 show Sem.wp M Γ (Sem.choose src n λi=>Sem.pure i) _ _ p s
 rw[Sem.wp_choose]
 refine⟨hn,?_⟩
 rw[Sem.wp_pure]
 exact h _ _ (Nat.mod_lt _ (Nat.pos_of_ne_zero hn))
theorem oo{α:Type}{M:Model}{A:Around}{E:Value->Shared->Prop}:∀(n:Nat) (xs:List α) (s:Shared) (Q:List α->Shared->Prop),xs.length=n->(∀ys d,ys.Perm xs->Q ys { s with drawn:=d })->wpAny M A (drawOrder n xs) Q E s
 | 0,xs,s,Q,e,h=>by
  cases xs with
  | nil=>exact AA2 (h [] s.drawn (ACc _))
  | cons _ _=>cases e
 | n+1,[],s,Q,e,h=>by cases e
 | n+1,x::xs,s,Q,e,h=>by
  unfold drawOrder
  refine AA0 (tJ (by simp) λi d hi=>?_)
  rw[AA5 hi]
  refine AA0 (oo n ((x::xs).eraseIdx i) { s with drawn:=d } _ (by rw[List.length_eraseIdx_of_lt hi];simp at e ⊢;lia) λys d' hp=>AA2 (h _ d' ?_))
  exact(AEH _ hp).trans (gU _ i hi)
theorem jc{α:Type}(next:Nat->Nat)(xs:Array α):(pickOrder next xs).toList.Perm xs.toList:=by
 have go:∀(fuel k:Nat) (left:List α) (out:Array α),left.length=fuel->(pickOrder.go next fuel k left out).toList.Perm (out.toList++left):=by
  intro fuel
  induction fuel with
  | zero =>
   intro k left out e
   cases left with
   | nil=>simp[pickOrder.go]
   | cons _ _=>cases e
  | succ n ih =>
   intro k left out e
   have hi:next k % left.length<left.length:=Nat.mod_lt _ (by lia)
   unfold pickOrder.go
   rw[AA5 hi]
   dsimp only
   refine(ih (k+1) _ _ (by rw[List.length_eraseIdx_of_lt hi];lia)).trans ?_
   rw[Array.toList_push,AAw]
   exact List.Perm.append_left _ (gU _ _ hi)
 have:=go xs.size 0 xs.toList #[] (by simp)
 simpa [pickOrder]using this
noncomputable def cX(first:Value)(i n:Nat)(a:Addr)(ep:Nat):Obj:={ cls:=.type "set_iterator",data:=.fields #[first,rawInt i,.ref a,rawInt n,rawInt ep] }
structure SetAt(h:Heap)(a:Addr)(o:Obj)(es:Array (Int×Value))(ep:Nat)(t:SetTable):Prop where
 ob:h.get? a=some o
 dt:o.data=.set es ep t
 ft:t.fits es.size=true
section
variable{prog:Program}{w:World}{A:Around}{E:Value->Shared->Prop}{s:Shared}{a it:Addr}{o:Obj}{es:Array (Int×Value)}{ep:Nat}{t:SetTable}
theorem kL(hh:A.handled=none)(h:∀h' e,(∀b o,s.heap.get? b=some o->h'.get? b=some o)->(∃o,h'.get? e=some o/\o.cls=.type "StopIteration")->F (.ref e) { s with heap:=h' }) :
  wpAny (model prog w) A (do raiseNew (<-newExc (.type "StopIteration") []):Sem Fin) Q F s:=by
 refine AA0 ?_
 simp only[newExc,newTuple]
 refine AA0 (AAh (AA0 (m:=firstArgMember _ _) (wpAny_of_eq (a:=ABi) (by first | rfl | (simp only[firstArgMember];rfl)) (AAh ?_ (by size_fits)))) (by size_fits))
 simp only[raiseNew]
 refine AA0 (wpAny_handled ?_)
 rw[hh]
 exact AA0 (AA2 (wpAny_throw (h _ _ (λb o e=>AA4 _ (AA4 _ e)) ⟨_,AAB _ rfl,rfl⟩)))
theorem ju{slot i next:Nat}{x:Value}{Q:Option Value->Shared->Prop}(hI:s.heap.get? it=some (cX (rawInt slot) i es.size a ep))(S:SetAt s.heap a o es ep t)
  (hn:∀(A:Around) (E:Value->Shared->Prop) (Q:Option (Value×Nat)->Shared->Prop),Q (some (x,next)) s->wpAny (model prog w) A (setNext a slot i ep) Q E s)
  (hQ:∀h',h'.get? it=some (cX (rawInt next) (i+1) es.size a ep)->AC4 it s.heap h'->Q (some x) { s with heap:=h' }):wpAny (model prog w) A (pyNext (.ref it)) Q E s:=by
 have hT:s.TypeIs (.ref it) "set_iterator":=⟨_,hI,rfl⟩
 unfold pyNext
 refine AA0 (ABp (AAt (name:=AA1 "__next__") hT aN (AAj aN hT cZ ?_ (eG _))))
 unfold Builtin.«set_iterator.__next__»
 refine AA0 (AA2 (AA0 (ABR hI rfl ?_)))
 dsimp only [cX,rawInt]
 refine AA0 (ACY S.ob S.dt S.ft ?_)
 rw[if_neg (by simp)]
 refine AA0 (hn _ _ _ ?_)
 dsimp only
 refine AA0 (ABq hI rfl (by simp) (AA0 (ABq (AAc _ hI rfl) rfl (by simp) (AA2 ⟨x,rfl,AA2 (hQ _ ?_ ((AAl ..).trans (AAl ..)))⟩))))
 refine(AAc _ (AAc _ hI rfl) rfl).trans ?_
 simp[cX,AD2,rawInt]
theorem cU{slot i:Nat}{Q:Option Value->Shared->Prop}(hh:A.handled=none)(hI:s.heap.get? it=some (cX (rawInt slot) i es.size a ep))(S:SetAt s.heap a o es ep t)
  (hn:∀(A:Around) (E:Value->Shared->Prop) (Q:Option (Value×Nat)->Shared->Prop),Q none s->wpAny (model prog w) A (setNext a slot i ep) Q E s)
  (hQ:∀h',(∀b o,b≠it->s.heap.get? b=some o->h'.get? b=some o)->Q none { s with heap:=h' }):wpAny (model prog w) A (pyNext (.ref it)) Q E s:=by
 have hT:s.TypeIs (.ref it) "set_iterator":=⟨_,hI,rfl⟩
 unfold pyNext
 refine AA0 (ABp (AAt (name:=AA1 "__next__") hT aN (AAj aN hT cZ ?_ (eG _))))
 unfold Builtin.«set_iterator.__next__»
 refine AA0 (AA2 (AA0 (ABR hI rfl ?_)))
 dsimp only [cX,rawInt]
 refine AA0 (ACY S.ob S.dt S.ft ?_)
 rw[if_neg (by simp)]
 refine AA0 (hn _ _ _ ?_)
 dsimp only
 refine AA0 (ABq hI rfl (by simp) ?_)
 refine kL (by simp[hh]) ?_
 rintro h' e hk ⟨oe,he,hc⟩
 refine AA0 (ACG (T:="StopIteration") (b:=true) ⟨oe,he,hc⟩ isSubtype_stop (AA2 (hQ h' λb ob hb eb=>hk b ob ?_)))
 exact((AAl ..).2 b hb).trans eb
theorem sI{tt:Addr}{ps:List Nat}{i j:Nat}{e:Int×Value}{Q:Option Value->Shared->Prop}(hI:s.heap.get? it=some (cX (.ref tt) i es.size a ep))(hP:s.heap.IsTuple tt (ps.map λ(k:Nat)=>rawInt k).toArray)(S:SetAt s.heap a o es ep t)
  (hj:ps[i]?=some j) (he:es[j]?=some e) (hQ:∀h',h'.get? it=some (cX (.ref tt) (i+1) es.size a ep)->AC4 it s.heap h'->Q (some e.2) { s with heap:=h' }):wpAny (model prog w) A (pyNext (.ref it)) Q E s:=by
 have hT:s.TypeIs (.ref it) "set_iterator":=⟨_,hI,rfl⟩
 obtain⟨ot,hot,_,nt,hdt⟩:=hP
 unfold pyNext
 refine AA0 (ABp (AAt (name:=AA1 "__next__") hT aN (AAj aN hT cZ ?_ (eG _))))
 unfold Builtin.«set_iterator.__next__»
 refine AA0 (AA2 (AA0 (ABR hI rfl ?_)))
 dsimp only [cX,rawInt]
 refine AA0 (ACY S.ob S.dt S.ft ?_)
 rw[if_neg (by simp)]
 refine AA0 (ACd hot hdt ?_)
 have hx:(ps.map λ(k:Nat)=>rawInt k).toArray[i]?=some (.int j 0):=by simp[hj,rawInt]
 simp only[ABU,hx]
 unfold setNextDrawn
 refine AA0 (AA0 (AB7 S.ob S.dt S.ft ?_))
 simp only[bne_self_eq_false,AAA,if_false,he]
 refine AA2 (AA0 (ABq hI rfl (by simp) (AA2 ⟨_,rfl,AA2 (hQ _ ?_ (AAl ..))⟩)))
 refine(AAc _ hI rfl).trans ?_
 simp[cX,AD2,rawInt]
theorem jT{tt:Addr}{ps:List Nat}{i:Nat}{Q:Option Value->Shared->Prop}(hh:A.handled=none)(hI:s.heap.get? it=some (cX (.ref tt) i es.size a ep))(hP:s.heap.IsTuple tt (ps.map λ(k:Nat)=>rawInt k).toArray)(S:SetAt s.heap a o es ep t)
  (hj:ps[i]?=none) (hQ:∀h',(∀b o,b≠it->s.heap.get? b=some o->h'.get? b=some o)->Q none { s with heap:=h' }):wpAny (model prog w) A (pyNext (.ref it)) Q E s:=by
 have hT:s.TypeIs (.ref it) "set_iterator":=⟨_,hI,rfl⟩
 obtain⟨ot,hot,_,nt,hdt⟩:=hP
 unfold pyNext
 refine AA0 (ABp (AAt (name:=AA1 "__next__") hT aN (AAj aN hT cZ ?_ (eG _))))
 unfold Builtin.«set_iterator.__next__»
 refine AA0 (AA2 (AA0 (ABR hI rfl ?_)))
 dsimp only [cX,rawInt]
 refine AA0 (ACY S.ob S.dt S.ft ?_)
 rw[if_neg (by simp)]
 refine AA0 (ACd hot hdt ?_)
 have hx:(ps.map λ(k:Nat)=>rawInt k).toArray[i]?=none:=by simpa using hj
 simp only[ABU,hx]
 refine AA0 (ABq hI rfl (by simp) (AA0 (ABq (AAc _ hI rfl) rfl (by simp) ?_)))
 refine kL (by simp[hh]) ?_
 rintro h' e hk ⟨oe,he,hc⟩
 refine AA0 (ACG (T:="StopIteration") (b:=true) ⟨oe,he,hc⟩ isSubtype_stop (AA2 (hQ h' λb ob hb eb=>hk b ob ?_)))
 exact(((AAl ..).trans (AAl ..)).2 b hb).trans eb
end
end L2
namespace L2
theorem nodup_le{α:Type}[DecidableEq α]:∀(l xs:List α),l.Nodup->(∀x∈l,x∈xs)->l.length<=xs.length
 | [],xs,_,_=>AAW _
 | a::l,xs,nd,h=>by
  have ha:a∈xs:=h a AAG
  have nd':=ABs.mp nd
  have ih:=nodup_le l (xs.erase a) nd'.2 λx hx=>(List.mem_erase_of_ne (show x≠a from λz=>nd'.1 (by rw[<-z];exact hx))).mpr (h x (AA9 _ hx))
  rw[List.length_erase_of_mem ha]at ih
  have:0<xs.length:=List.length_pos_of_mem ha
  rw[AAL]
  lia
end L2
namespace Ht
open PySem
noncomputable def adv(m:Nat)(p:ACL):ACL :=
 if p.more > 0 then { p with j:=p.j+1,more:=p.more-1 } else
 { p with j:=(ACJ m p.i p.perturb).1,more:=AAm m (ACJ m p.i p.perturb).1-(ACJ m p.i p.perturb).1,i:=(ACJ m p.i p.perturb).1,perturb:=(ACJ m p.i p.perturb).2 }
noncomputable def gG(m i pt:Nat):ACL:={ j:=i,more:=AAm m i-i,i,perturb:=pt,dummy:=none }
noncomputable def iU(m:Nat)(p:ACL):Nat->ACL
 | 0=>p
 | n+1=>adv m (iU m p n)
noncomputable def sq(m:Nat)(h:Int)(n:Nat):ACL:=iU m (gG m (ABr h % (m+1)) (ABr h)) n
theorem nj(m:Nat)(p:ACL)(a b:Nat):iU m p (a+b)=iU m (iU m p a) b:=by
 induction b with
 | zero=>rfl
 | succ b ih=>rw[Nat.add_succ,iU,ih];rfl
theorem Cs(m i:Nat):AAm m i-i<=9:=by
 unfold AAm;split<;>lia
theorem wc(m i pt:Nat):∀k,k<=AAm m i-i->iU m (gG m i pt) k={ j:=i+k,more:=AAm m i-i-k,i,perturb:=pt,dummy:=none }
 | 0,_=>by simp[iU,gG]
 | k+1,h=>by
  rw[iU,wc m i pt k (by lia)]
  unfold adv
  rw[if_pos (show AAm m i-i-k > 0 by lia)]
  simp only[SetTable.Probe.mk.injEq,true_and,and_true]
  lia
theorem xH(m i pt:Nat):iU m (gG m i pt) (AAm m i-i+1)=gG m (ACJ m i pt).1 (ACJ m i pt).2:=by
 rw[iU,wc m i pt _ (AA8 _)]
 unfold adv
 rw[if_neg (show ¬AAm m i-i-(AAm m i-i) > 0 by lia)]
 rfl
noncomputable def cL(m:Nat)(h:Int):Nat->Nat×Nat
 | 0=>(ABr h % (m+1),ABr h)
 | k+1=>ACJ m (cL m h k).1 (cL m h k).2
noncomputable def df(m:Nat)(h:Int):Nat->Nat
 | 0=>0
 | k+1=>df m h k+(AAm m (cL m h k).1-(cL m h k).1+1)
theorem yH(m:Nat)(h:Int)(k:Nat):df m h k<=10*k:=by
 induction k with
 | zero=>exact AA8 _
 | succ k ih=>have:=Cs m (cL m h k).1;unfold df;lia
theorem yO(m:Nat)(h:Int)(k:Nat):sq m h (df m h k)=gG m (cL m h k).1 (cL m h k).2:=by
 induction k with
 | zero=>rfl
 | succ k ih =>
  unfold sq at ih ⊢
  unfold df
  rw[nj,ih,xH]
  rfl
theorem uJ(m:Nat)(h:Int)(k r:Nat)(hr:r<=AAm m (cL m h k).1-(cL m h k).1):(sq m h (df m h k+r)).j=(cL m h k).1+r:=by
 have e:=yO m h k
 unfold sq at e ⊢
 rw[nj,e,wc _ _ _ _ hr]
theorem BD(h:Int):ABr h<2 ^ 64:=by
 unfold ABr
 have h0:=Int.emod_nonneg h (show (2 ^ 64:Int)≠0 by decide)
 have h1:=Int.emod_lt_of_pos h (show (0:Int)<2 ^ 64 by decide)
 lia
theorem kQ(m:Nat)(h:Int):∀k,(cL m h k).2=ABr h / 32 ^ k
 | 0=>by simp[cL]
 | k+1=>by
  show (cL m h k).2 / 32=_
  rw[kQ m h k,Nat.div_div_eq_div_mul,<-Nat.pow_succ]
theorem nA(m:Nat)(h:Int)(k:Nat)(hk:13<=k):(cL m h k).2=0:=by
 rw[kQ]
 apply Nat.div_eq_of_lt
 have h1:=BD h
 have h2:32 ^ 13<=32 ^ k:=Nat.pow_le_pow_right (by decide) hk
 have h3:(2:Nat) ^ 64<32 ^ 13:=by decide
 lia
noncomputable def qr(m i:Nat):Nat:=(i*5+1) % (m+1)
noncomputable def bz(m i:Nat):Nat->Nat
 | 0=>i
 | k+1=>qr m (bz m i k)
theorem cK(m i a b:Nat):bz m i (a+b)=bz m (bz m i a) b:=by
 induction b with
 | zero=>rfl
 | succ b ih=>rw[Nat.add_succ,bz,ih];rfl
theorem pe(m:Nat)(h:Int)(r:Nat):(cL m h (13+r)).1=bz m (cL m h 13).1 r:=by
 induction r with
 | zero=>rfl
 | succ r ih =>
  show (ACJ m (cL m h (13+r)).1 (cL m h (13+r)).2).1=qr m (bz m (cL m h 13).1 r)
  rw[nA m h _ (by lia),ih]
  rfl
theorem pf(m:Nat)(h:Int):∀k,(cL m h k).1<=m
 | 0=>Nat.lt_succ_iff.mp (Nat.mod_lt _ (Nat.succ_pos _))
 | k+1=>Nat.lt_succ_iff.mp (Nat.mod_lt _ (Nat.succ_pos _))
def BS(m:Nat):Prop:=bz m 0 (m+1)=0/\∀s,s<=m->∃k,k<=m/\bz m 0 k=s
noncomputable def pC(m:Nat):Nat->Nat->List Nat
 | 0,_=>[]
 | n+1,i=>i::pC m n (qr m i)
theorem jn(m:Nat):∀(n i k:Nat),k<n->(pC m n i)[k]?=some (bz m i k)
 | 0,_,_,h=>absurd h (ABt _)
 | n+1,i,0,_=>rfl
 | n+1,i,k+1,h=>by
  rw[pC,ACZ,jn m n (qr m i) k (by lia),<-show bz m (bz m i 1) k=bz m i (k+1)from by rw[<-cK,Nat.add_comm]]
  rfl
theorem qc(m:Nat)(h:((pC m (m+2) 0)[m+1]?==some 0&&(AAn (m+1)).all λs=>(pC m (m+1) 0).contains s)=true):BS m:=by
 rw[AAS,beq_iff_eq,AAU]at h
 refine⟨?_,λs hs=>?_⟩
 ·have:=jn m (m+2) 0 (m+1) (by lia)
  rw[h.1]at this
  exact(AAN this).symm
 ·have:=h.2 s (AAs.mpr (by lia))
  rw[List.contains_iff_mem]at this
  obtain⟨k,hk⟩:=AB3 this
  have hl:k<m+1:=by
   have:=(AA7.mp hk).1
   have len:∀n i,(pC m n i).length=n:=by
    intro n;induction n with
    | zero=>intro i;rfl
    | succ n ih=>intro i;simp[pC,ih]
   rw[len]at this;exact this
  rw[jn m _ 0 k hl]at hk
  exact⟨k,by lia,AAN hk⟩
theorem full7:BS 7:=qc 7 (by decide +kernel)
theorem Et:BS 31:=qc 31 (by decide +kernel)
theorem AZ:BS 127:=qc 127 (by decide +kernel)
theorem wt(F:BS m)(hi:i<=m)(hs:s<=m):∃k,k<=m/\bz m i k=s:=by
 obtain⟨a,ha,ea⟩:=F.2 i hi
 obtain⟨b,hb,eb⟩:=F.2 s hs
 by_cases h:a<=b
 ·refine⟨b-a,by lia,?_⟩
  rw[<-ea,<-cK,show a+(b-a)=b by lia];exact eb
 ·refine⟨m+1-a+b,by lia,?_⟩
  rw[<-ea,<-cK,show a+(m+1-a+b)=(m+1)+b by lia,cK,F.1];exact eb
def kc(m:Nat):Prop:=m=7\/m=31\/m=127
theorem kc.full(h:kc m):BS m:=by
 rcases h with rfl | rfl | rfl
 ·exact full7
 ·exact Et
 ·exact AZ
theorem zi(hm:kc m)(h:Int)(hs:s<=m):∃k,k<=m+13/\(cL m h k).1=s:=by
 obtain⟨r,hr,e⟩:=wt hm.full (pf m h 13) hs
 exact⟨13+r,by lia,by rw[pe];exact e⟩
theorem zG(hm:kc m)(h:Int)(hs:s<=m):∃n,n<10*(m+15)/\(sq m h n).j=s:=by
 obtain⟨k,hk,e⟩:=zi hm h hs
 refine⟨df m h k,by have:=yH m h k;lia,?_⟩
 rw[yO];exact e
theorem Cn(h:Int):∀n,∃k r,r<=AAm m (cL m h k).1-(cL m h k).1/\n=df m h k+r
 | 0=>⟨0,0,AAW _,rfl⟩
 | n+1=>by
  obtain⟨k,r,hr,e⟩:=Cn (m:=m) h n
  by_cases q:r<AAm m (cL m h k).1-(cL m h k).1
  ·exact⟨k,r+1,q,by lia⟩
  ·exact⟨k+1,0,AAW _,by rw[df];lia⟩
theorem uI(h:Int)(n:Nat):(sq m h n).j<=m:=by
 obtain⟨k,r,hr,e⟩:=Cn (m:=m) h n
 rw[e,uJ m h k r hr]
 have:=pf m h k
 unfold AAm at hr
 split at hr<;>lia
theorem below_spec(xs:Array Nat)(hr:xs.toList.Pairwise (· < ·))(j:Nat) :
  AAX xs j<=xs.size/\(∀k (h:k<xs.size),k<AAX xs j->xs[k]<j)/\∀k (h:k<xs.size),AAX xs j<=k->j<=xs[k]:=by
 have mono:∀a b (ha:a<xs.size) (hb:b<xs.size),a<b->xs[a]<xs[b]:=λa b ha hb h=>by
  have:=ADA.mp hr a b (by simpa using ha) (by simpa using hb) h
  simpa using this
 have go:∀(fuel lo hi:Nat),lo<=hi->hi<=xs.size->hi-lo<=fuel->(∀k (h:k<xs.size),k<lo->xs[k]<j)->(∀k (h:k<xs.size),hi<=k->j<=xs[k]) ->
   AC7 xs j fuel lo hi<=xs.size/\(∀k (h:k<xs.size),k<AC7 xs j fuel lo hi->xs[k]<j)/\∀k (h:k<xs.size),AC7 xs j fuel lo hi<=k->j<=xs[k]:=by
  intro fuel
  induction fuel with
  | zero =>
   intro lo hi h1 h2 h3 h4 h5
   have:lo=hi:=by lia
   subst this
   exact⟨h2,h4,h5⟩
  | succ fuel ih =>
   intro lo hi h1 h2 h3 h4 h5
   unfold AC7
   by_cases h:lo<hi
   ·rw[if_pos h]
    have hm:(lo+hi) / 2<xs.size:=by lia
    have eg:xs.getD ((lo+hi) / 2) j=xs[(lo+hi) / 2]:=by simp[ACD,hm]
    simp only[eg]
    by_cases q:xs[(lo+hi) / 2]<j
    ·rw[if_pos q]
     refine ih _ _ (by lia) h2 (by lia) (λk hk hlt=>?_) h5
     rcases ABv k ((lo+hi) / 2)with z | z
     ·exact Nat.lt_trans (mono k _ hk hm z) q
     ·have:k=(lo+hi) / 2:=by lia
      subst this;exact q
    ·rw[if_neg q]
     refine ih _ _ (by lia) (by lia) (by lia) h4 λk hk hle=>?_
     rcases ABv ((lo+hi) / 2) k with z | z
     ·exact AB0 (ACw.mp q) (ADq (mono _ k hm hk z))
     ·have:k=(lo+hi) / 2:=by lia
      subst this;exact ACw.mp q
   ·rw[if_neg h]
    have:lo=hi:=by lia
    subst this
    exact⟨h2,h4,h5⟩
 exact go xs.size 0 xs.size (AAW _) (AA8 _) (by lia) (λk _ h=>absurd h (ABt _)) λk h h'=>absurd h (ACw.mpr h')
theorem below_at(hr:xs.toList.Pairwise (· < ·))(h:xs[i]?=some j):AAX xs j=i:=by
 obtain⟨hi,e⟩:=AAi.mp h
 obtain⟨b1,b2,b3⟩:=below_spec xs hr j
 have mono:∀a b (ha:a<xs.size) (hb:b<xs.size),a<b->xs[a]<xs[b]:=λa b ha hb h=>by
  have:=ADA.mp hr a b (by simpa using ha) (by simpa using hb) h
  simpa using this
 rcases ACy (AAX xs j) i with q | q | q
 ·have hb:AAX xs j<xs.size:=by lia
  have:=b3 _ hb (AA8 _)
  have:=mono _ i hb hi q
  lia
 ·exact q
 ·have:=b2 i hi q
  lia
theorem slot_live{t:SetTable}(hr:t.place.toList.Pairwise (· < ·)){i j:Nat}(h:t.place[i]?=some j):t.slot j=.live i:=by
 unfold SetTable.slot
 simp only[below_at hr h]
 rw[if_pos (by rw[h];simp)]
theorem sB{t:SetTable}(hd:t.dummies = #[]){j:Nat}(h:j∉t.place.toList):t.slot j=.empty:=by
 unfold SetTable.slot
 have e1:¬(t.place[AAX t.place j]?==some j)=true:=λz=>h (by
  rw[beq_iff_eq]at z
  have:=Array.mem_of_getElem? z
  simpa using this)
 have e2:SetTable.has t.dummies j=false:=by rw[hd];rfl
 simp only[e1,if_false,e2,AAA]
theorem go_spec{t:SetTable}(hr:t.place.toList.Pairwise (· < ·))(hd:t.dummies = #[])(hashAt:Nat->Int)(h:Int):∀(fuel n N:Nat),n<=N->N<n+fuel->(sq t.mask h N).j∉t.place.toList->(∀k,n<=k->k<N->(sq t.mask h k).j∈t.place.toList) ->
  (∀k,(sq t.mask h k).dummy=none) ->
  ((∀k i,n<=k->k<N->t.place[i]?=some (sq t.mask h k).j->hashAt i≠h)/\AEN t hashAt h fuel (sq t.mask h n)=some (.empty (sq t.mask h N).j none)) \/
  ∃n' i,n<=n'/\n' < N/\t.place[i]?=some (sq t.mask h n').j/\hashAt i=h/\(∀k i,n<=k->k<n'->t.place[i]?=some (sq t.mask h k).j->hashAt i≠h)/\AEN t hashAt h fuel (sq t.mask h n)=some (.candidate (sq t.mask h n').j i (sq t.mask h (n'+1))):=by
 intro fuel
 induction fuel with
 | zero=>intro n N h1 h2;lia
 | succ fuel ih =>
  intro n N h1 h2 h3 h4 h5
  unfold AEN
  by_cases e:n=N
  ·subst e
   rw[sB hd h3]
   exact .inl ⟨λk i a b=>by lia,by rw[h5]⟩
  ·have hm:=h4 n (AA8 _) (by lia)
   obtain⟨i,hi⟩:=AB3 hm
   have hi':t.place[i]?=some (sq t.mask h n).j:=by rw[<-AAQ];exact hi
   rw[slot_live hr hi']
   dsimp only
   have uq:∀i',t.place[i']?=some (sq t.mask h n).j->i'=i:=λi' z=>by rw[<-below_at hr z,below_at hr hi']
   by_cases q:hashAt i=h
   ·simp only[beq_iff_eq,q,if_true]
    exact .inr ⟨n,i,AA8 _,by lia,hi',q,λk i a b=>by lia,rfl⟩
   ·simp only[beq_iff_eq,q,if_false]
    rcases ih (n+1) N (by lia) (by lia) h3 (λk a b=>h4 k (by lia) b) h5 with⟨z1,z2⟩|⟨n',i',a1,a2,a3,a4,a5,a6⟩
    ·refine .inl ⟨λk i' a b c=>?_,z2⟩
     rcases ABv n k with z | z
     ·exact z1 k i' z b c
     ·have:k=n:=by lia
      subst this;rw[uq i' c];exact q
    ·refine .inr ⟨n',i',by lia,a2,a3,a4,λk i'' a b c=>?_,a6⟩
     rcases ABv n k with z | z
     ·exact a5 k i'' z b c
     ·have:k=n:=by lia
      subst this;rw[uq i'' c];exact q
theorem sq_dummy(m:Nat)(h:Int):∀n,(sq m h n).dummy=none
 | 0=>rfl
 | n+1=>by
  show (adv m (sq m h n)).dummy=none
  unfold adv
  split
  ·exact sq_dummy m h n
  ·exact sq_dummy m h n
structure TOk(t:SetTable)(hs:List Int):Prop where
 msk:kc t.mask
 len:t.place.size=hs.length
 nod:t.dummies = #[]
 ris:t.place.toList.Pairwise (· < ·)
 rng:∀j∈t.place.toList,j<=t.mask
 few:t.place.size*5<t.mask*3
 path:∀(i:Nat) (h:Int) (j:Nat),hs[i]?=some h->t.place[i]?=some j->∃n,(sq t.mask h n).j=j/\∀n',n' < n->(sq t.mask h n').j∈t.place.toList
theorem wm{m:Nat}{l:List Nat}(hn:l.Nodup)(hr:∀j∈l,j<=m)(hl:l.length<=m):∃j,j<=m/\j∉l:=by
 refine AAv λhc=>?_
 have all:∀j∈AAn (m+1),j∈l:=λj hj=>AAv λhj'=>hc ⟨j,by have:=AAs.mp hj;lia,hj'⟩
 have:=L2.nodup_le (AAn (m+1)) l List.nodup_range all
 rw[AD3]at this
 lia
theorem qd{m:Nat}(hm:kc m){l:List Nat}(hn:l.Nodup)(hr:∀j∈l,j<=m)(hl:l.length<=m)(h:Int):∃N,N<10*(m+15)/\(sq m h N).j∉l/\∀k,k<N->(sq m h k).j∈l:=by
 obtain⟨s,hs,hs'⟩:=wm hn hr hl
 obtain⟨n,hn1,hn2⟩:=zG hm h hs
 have:∀b n,n<b->(sq m h n).j∉l->∃N,N<=n/\(sq m h N).j∉l/\∀k,k<N->(sq m h k).j∈l:=by
  intro b
  induction b with
  | zero=>intro n h;lia
  | succ b ih =>
   intro n hb hq
   by_cases q:∀k,k<n->(sq m h k).j∈l
   ·exact⟨n,AA8 _,hq,q⟩
   ·have:∃k,k<n/\(sq m h k).j∉l:=AAv λz=>q λk hk=>AAv λz'=>z ⟨k,hk,z'⟩
    obtain⟨k,hk,hk'⟩:=this
    obtain⟨N,a1,a2,a3⟩:=ih k (by lia) hk'
    exact⟨N,by lia,a2,a3⟩
 obtain⟨N,a1,a2,a3⟩:=this (n+1) n (AAy _) (by rw[hn2];exact hs')
 exact⟨N,by lia,a2,a3⟩
theorem TOk.empty{t:SetTable}{hs:List Int}(T:TOk t hs)(h:Int):∃N,N<10*(t.mask+15)/\(sq t.mask h N).j∉t.place.toList/\∀k,k<N->(sq t.mask h k).j∈t.place.toList:=by
 refine qd T.msk (T.ris.imp λh=>AAK h) T.rng ?_ h
 have:=T.few
 rw[AAO]
 rcases T.msk with e | e | e<;>lia
theorem uR{t:SetTable}(hr:t.place.toList.Pairwise (· < ·)){j:Nat}(hj:j∉t.place.toList) :
  (t.put j).1.place.toList=t.place.toList.take (AAX t.place j)++j::t.place.toList.drop (AAX t.place j)/\(t.put j).1.place.toList.Pairwise (· < ·):=by
 obtain⟨b1,b2,b3⟩:=below_spec t.place hr j
 have e:(t.put j).1.place.toList=t.place.toList.take (AAX t.place j)++j::t.place.toList.drop (AAX t.place j):=by
  show (ADj t.place (AAX t.place j) j).toList=_
  rw[SetTable.toList_insertAt]
 refine⟨e,?_⟩
 rw[e,List.pairwise_append]
 refine⟨hr.sublist (ADg ..),List.pairwise_cons.mpr ⟨λx hx=>?_,hr.sublist (List.drop_sublist ..)⟩,λx hx y hy=>?_⟩
 ·obtain⟨k,hk⟩:=AB3 hx
  rw[ADX]at hk
  have hk':t.place[AAX t.place j+k]?=some x:=by rw[<-AAQ];exact hk
  obtain⟨hl,ex⟩:=AAi.mp hk'
  have:=b3 _ hl (ADG _ _)
  rw[ex]at this
  rcases ABv j x with z | z
  ·exact z
  ·have:x=j:=by lia
   subst this
   exact absurd (List.mem_of_mem_drop hx) hj
 ·obtain⟨k,hk⟩:=AB3 hx
  rw[List.getElem?_take]at hk
  split at hk
  ·rename_i hkl
   have hk':t.place[k]?=some x:=by rw[<-AAQ];exact hk
   obtain⟨hl,ex⟩:=AAi.mp hk'
   have h1:=b2 k hl hkl
   rw[ex]at h1
   rcases AAM.mp hy with rfl | hy
   ·exact h1
   ·obtain⟨k2,hk2⟩:=AB3 hy
    rw[ADX]at hk2
    have hk2':t.place[AAX t.place j+k2]?=some y:=by rw[<-AAQ];exact hk2
    obtain⟨hl2,ey⟩:=AAi.mp hk2'
    have:=b3 _ hl2 (ADG _ _)
    rw[ey]at this
    lia
  ·cases hk
end Ht
namespace L2
open PySem PySem.Spec PyProof.Rows DL PySem.W
theorem dD:Slot "set_iterator" "__iter__" "set_iterator.__iter__" :=
 .of (owner:="set_iterator") (n:="__iter__") (by rw[AE6,ACp];kernel_rfl) (by decide +kernel) (by decide +kernel) (by decide +kernel) (by first | exact .inl (by decide +kernel) | exact .inr (by decide +kernel)) (by rw[isSubtype_type];kernel_rfl)
theorem iu:entryFor table "set_iterator.__iter__" = some Builtin.«dict_keyiterator.__iter__»:=entryFor_alias (id':="dict_keyiterator.__iter__") (by kernel_rfl) rfl (by decide +kernel) (by kernel_rfl)
theorem jK(a:Value):argsOk "set_iterator.__iter__" ⟨[a],[]⟩:=by
 unfold argsOk;rw[signature?_of (id:="set_iterator.__iter__") (n:=['_','_','r','e','t','i','_','_']) (o:=['r','o','t','a','r','e','t','i','_','t','e','s']) (by kernel_rfl) jm];kernel_rfl
section
variable{prog:Program}{w:World}{A:Around}{E:Value->Shared->Prop}{s:Shared}{a it:Addr}{o:Obj}{es:Array (Int×Value)}{ep:Nat}{t:SetTable}
theorem dY(hI:s.heap.get? it=some (cX first i n a ep))(h:Q (.ref it) s):wpAny (model prog w) A (pyIter (.ref it)) Q E s:=by
 have hT:s.TypeIs (.ref it) "set_iterator":=⟨_,hI,rfl⟩
 refine ADk hT dD (AAj dD hT iu (show wpAny _ _ (ret (.ref it)) _ _ s from ?_) (jK _))
 exact AA2 ⟨_,rfl,"set_iterator",_,hT,aN.lookup,h⟩
theorem SetAt.at(S:SetAt h a o es ep t)(k:∀o,h.get? a=some o->h'.get? a=some o):SetAt h' a o es ep t:=⟨k _ S.ob,S.dt,S.ft⟩
theorem ib(hb:w.params.followText "set-order" = true)(S:SetAt s.heap a o es ep t)(h:Q (((pickOrder (w.params.setOrder a ep) es)[i]?).map λe=>(e.2,0)) s) :
  wpAny (model prog w) A (setNext a 0 i ep) Q E s:=by
 unfold setNext
 refine AA0 (AB7 S.ob S.dt S.ft ?_)
 unfold setsByText
 refine AA0 (AA0 (ACF (AA2 ?_)))
 simp only[model,hb,if_true,bne_self_eq_false,AAA,if_false]
 unfold setWalk
 refine AA0 (AA0 (AB7 S.ob S.dt S.ft ?_))
 unfold setsByText
 refine AA0 (AA0 (ACF (AA2 ?_)))
 simp only[model,hb,if_true]
 exact AA0 (ACF (AA2 (AA2 h)))
theorem si(hb:w.params.followText "set-order" = true)(hh:A.handled=none)(hne:a≠it) :
  Walks prog w A it [it,a] [it] es.size (λi v=>((pickOrder (w.params.setOrder a ep) es).toList.map (·.2))[i]?=some v) (λi h=>h.get? it=some (cX (rawInt 0) i es.size a ep)/\SetAt h a o es ep t) where
 sub:=λb hb=>by simp at hb;simp[hb]
 frame:=λ_ _ _ st hk=>⟨hk it (by simp) _ st.1,st.2.at λo e=>hk a (by simp) o e⟩
 item:=λi s Q E hi st hQ=>by
  have hl:(pickOrder (w.params.setOrder a ep) es).size=es.size:=by have:=(jc (w.params.setOrder a ep) es).length_eq;simpa using this
  obtain⟨e,he⟩:∃e,(pickOrder (w.params.setOrder a ep) es)[i]?=some e:=⟨_,AAH (by rw[hl];exact hi)⟩
  refine ju (slot:=0) (next:=0) (x:=e.2) st.1 st.2 (λA E Q q=>ib hb st.2 (by rw[he];exact q)) λh' h1 sb=>hQ _ h' s.toks (by simp[he]) ⟨h1,st.2.at λo e=>(sb.2 a hne).trans e⟩ λb o hb e=>(sb.2 b (by simpa using hb)).trans e
 done:=λs Q E st hQ=>by
  have hl:(pickOrder (w.params.setOrder a ep) es).size=es.size:=by have:=(jc (w.params.setOrder a ep) es).length_eq;simpa using this
  refine cU (slot:=0) hh st.1 st.2 (λA E Q q=>ib hb st.2 ?_) λh' k=>hQ h' s.toks λb o hb e=>k b o (by simpa using hb) e
  rw[ABh (by rw[hl];exact AA8 _)]
  exact q
 self:=λ_ _ _ _ st hQ=>dY st.1 hQ
theorem oU{tt:Addr}{ps:List Nat}(hp:ps.Perm (AAn es.size))(hh:A.handled=none)(hne:a≠it)(hnt:tt≠it) :
  Walks prog w A it [it,a,tt] [it] es.size (λi v=>(ps.filterMap λj=>(es[j]?).map (·.2))[i]?=some v) (λi h=>h.get? it=some (cX (.ref tt) i es.size a ep)/\SetAt h a o es ep t/\h.IsTuple tt (ps.map λ(k:Nat)=>rawInt k).toArray) where
 sub:=λb hb=>by simp at hb;simp[hb]
 frame:=λ_ _ _ st hk=>⟨hk it (by simp) _ st.1,st.2.1.at λo e=>hk a (by simp) o e,let ⟨o,e,r⟩:=st.2.2;⟨o,hk tt (by simp) _ e,r⟩⟩
 item:=λi s Q E hi st hQ=>by
  have hl:ps.length=es.size:=by have:=hp.length_eq;simpa using this
  have hall:∀j∈ps,j<es.size:=λj hj=>by have:=hp.mem_iff.mp hj;simpa using this
  have hj:ps[i]?=some ps[i]:=AA5 (by lia)
  have hlt:ps[i]<es.size:=hall _ (AB4 _)
  have he:es[ps[i]]?=some es[ps[i]]:=AAH hlt
  have fm:(ps.filterMap λj=>(es[j]?).map (·.2))=ps.map λj=>(es.getD j default).2:=by
   clear hj hl hp hi st hQ he hlt
   induction ps with
   | nil=>rfl
   | cons j r ih =>
    have hj:=hall j AAG
    rw[ABS,AAH hj,AAe,<-ih λk hk=>hall k (AA9 _ hk)]
    simp[ACD,hj]
  refine sI st.1 st.2.2 st.2.1 hj he λh' h1 sb=>hQ _ h' s.toks ?_ ⟨h1,st.2.1.at λo e=>(sb.2 a hne).trans e,let ⟨o,e,r⟩:=st.2.2;⟨o,(sb.2 tt hnt).trans e,r⟩⟩ λb o hb e=>(sb.2 b (by simpa using hb)).trans e
  rw[fm,AAT,hj]
  simp[ACD,hlt]
 done:=λs Q E st hQ=>by
  have hl:ps.length=es.size:=by have:=hp.length_eq;simpa using this
  exact jT hh st.1 st.2.2 st.2.1 (ABB (by lia)) λh' k=>hQ h' s.toks λb o hb e=>k b o (by simpa using hb) e
 self:=λ_ _ _ _ st hQ=>dY st.1 hQ
theorem ic(hb:w.params.followText "set-order" = false)(hled:t.led=true)(hsz:es.size<=1)(S:SetAt s.heap a o es ep t)
  (h:Q (match es[AAX t.place slot]?,t.place[AAX t.place slot]? with | some (_,x),some j=>some (x,j+1) | _,_=>none) s) :
  wpAny (model prog w) A (setNext a slot i ep) Q E s:=by
 unfold setNext
 refine AA0 (AB7 S.ob S.dt S.ft ?_)
 unfold setsByText
 refine AA0 (AA0 (ACF (AA2 ?_)))
 simp only[model,hb,AAA,if_false]
 refine ABX (λz=>?_) λ_=>?_
 ·have z':(!t.plain&&decide (es.size > 1))=true:=z
  simp at z'
  lia
 ·refine AA0 (show wpAny (model prog w) A (if (!t.led && !es.isEmpty)=true then unsupported _ else pure ()) _ _ s from ?_)
  rw[hled]
  simp only[AC3,AEE,AAA,if_false]
  exact AA2 (AA2 h)
theorem oM(j k:Nat):AAX #[j] k=if j<k then 1 else 0:=by
 unfold AAX
 simp only[AAD,AAL,AAq]
 unfold AC7
 simp only[Nat.zero_lt_succ,if_true]
 by_cases h:j<k
 ·simp[h,AC7]
 ·simp[h,AC7]
theorem sj(hb:w.params.followText "set-order" = false)(hled:t.led=true)(hsz:es.size<=1)(hh:A.handled=none)(hne:a≠it) :
  Walks prog w A it [it,a] [it] es.size (λi v=>(es.toList.map (·.2))[i]?=some v) (λi h=>h.get? it=some (cX (rawInt (if i=0 then 0 else t.place.getD 0 0+1:Nat)) i es.size a ep)/\SetAt h a o es ep t) where
 sub:=λb hb=>by simp at hb;simp[hb]
 frame:=λ_ _ _ st hk=>⟨hk it (by simp) _ st.1,st.2.at λo e=>hk a (by simp) o e⟩
 item:=λi s Q E hi st hQ=>by
  obtain rfl:i=0:=by lia
  have ps:t.place.size=1:=by have:=st.2.ft;simp[ADY]at this;lia
  obtain⟨j,hj⟩:∃j,t.place = #[j]:=⟨t.place[0],by apply Array.ext (by simpa using ps);intro i h1 h2;simp at h2;subst h2;rfl⟩
  have he:es[0]?=some es[0]:=AAH hi
  refine ju (slot:=0) (next:=j+1) (x:=es[0].2) st.1 st.2 (λA E Q q=>ic hb hled hsz st.2 ?_) λh' h1 sb=>hQ _ h' s.toks ?_ ⟨?_,st.2.at λo e=>(sb.2 a hne).trans e⟩ λb o hb e=>(sb.2 b (by simpa using hb)).trans e
  ·rw[hj,oM,if_neg (ABt _),he]
   exact q
  ·rw[AAT,AAQ,he];rfl
  ·simpa [hj]using h1
 done:=λs Q E st hQ=>by
  refine cU (slot:=if es.size=0 then 0 else t.place.getD 0 0+1) hh st.1 st.2 (λA E Q q=>ic hb hled hsz st.2 ?_) λh' k=>hQ h' s.toks λb o hb e=>k b o (by simpa using hb) e
  have ps:t.place.size=es.size:=by have:=st.2.ft;simp[ADY]at this;lia
  by_cases z:es.size=0
  ·have:es = #[]:=Array.eq_empty_of_size_eq_zero z
   subst this
   simpa using q
  ·obtain⟨j,hj⟩:∃j,t.place = #[j]:=⟨t.place[0],by apply Array.ext (by simp;lia);intro i h1 h2;simp at h2;subst h2;rfl⟩
   have e1:AAX t.place (if es.size=0 then 0 else t.place.getD 0 0+1)=1:=by rw[if_neg z,hj,oM];simp
   rw[e1,ABh (by lia)]
   exact q
 self:=λ_ _ _ _ st hQ=>dY st.1 hQ
theorem ie(hb:w.params.followText "set-order" = false)(hled:t.led=true)(hnd:(!t.plain&&decide (es.size > 1))=false)(S:SetAt s.heap a o es ep t)
  (h:Q (match es[AAX t.place slot]?,t.place[AAX t.place slot]? with | some (_,x),some j=>some (x,j+1) | _,_=>none) s) :
  wpAny (model prog w) A (setNext a slot i ep) Q E s:=by
 unfold setNext
 refine AA0 (AB7 S.ob S.dt S.ft ?_)
 unfold setsByText
 refine AA0 (AA0 (ACF (AA2 ?_)))
 simp only[model,hb,AAA,if_false]
 refine ABX (λz=>?_) λ_=>?_
 ·have z':(!t.plain&&decide (es.size > 1))=true:=z
  rw[hnd]at z';cases z'
 ·refine AA0 (show wpAny (model prog w) A (if (!t.led && !es.isEmpty)=true then unsupported _ else pure ()) _ _ s from ?_)
  rw[hled]
  simp only[AC3,AEE,AAA,if_false]
  exact AA2 (AA2 h)
theorem sk(hb:w.params.followText "set-order" = false)(hled:t.led=true)(hnd:(!t.plain&&decide (es.size > 1))=false)(hr:t.place.toList.Pairwise (· < ·))(hh:A.handled=none)(hne:a≠it) :
  Walks prog w A it [it,a] [it] es.size (λi v=>(es.toList.map (·.2))[i]?=some v) (λi h=>h.get? it=some (cX (rawInt (if i=0 then 0 else t.place.getD (i-1) 0+1:Nat)) i es.size a ep)/\SetAt h a o es ep t):=by
 have bel:∀i,i<=t.place.size->AAX t.place (if i=0 then 0 else t.place.getD (i-1) 0+1)=i:=λi hi=>by
  obtain⟨b1,b2,b3⟩:=Ht.below_spec t.place hr (if i=0 then 0 else t.place.getD (i-1) 0+1)
  have mono:∀a b (ha:a<t.place.size) (hb:b<t.place.size),a<b->t.place[a]<t.place[b]:=λa b ha hb h=>by
   have:=ADA.mp hr a b (by simpa using ha) (by simpa using hb) h
   simpa using this
  by_cases z:i=0
  ·rw[if_pos z]at b1 b2 b3 ⊢
   rcases Nat.eq_zero_or_pos (AAX t.place 0)with q | q
   ·rw[q,z]
   ·have:=b2 0 (by lia) q
    lia
  ·rw[if_neg z]at b1 b2 b3 ⊢
   have hl:i-1<t.place.size:=by lia
   have eg:t.place.getD (i-1) 0=t.place[i-1]:=by simp[ACD,hl]
   rw[eg]at b1 b2 b3 ⊢
   rcases ACy (AAX t.place (t.place[i-1]+1)) i with q | q | q
   ·have:=b3 (i-1) hl (by lia)
    lia
   ·exact q
   ·have:=b2 i (by lia) q
    have:=mono (i-1) i hl (by lia) (by lia)
    lia
 exact {
  sub:=λb hb=>by simp at hb;simp[hb]
  frame:=λ_ _ _ st hk=>⟨hk it (by simp) _ st.1,st.2.at λo e=>hk a (by simp) o e⟩
  item:=λi s Q E hi st hQ=>by
   have ps:t.place.size=es.size:=by have:=st.2.ft;simp[ADY]at this;lia
   have hp:i<t.place.size:=by lia
   have he:es[i]?=some es[i]:=AAH hi
   have hpl:t.place[i]?=some t.place[i]:=AAH hp
   refine ju (next:=t.place[i]+1) (x:=es[i].2) st.1 st.2 (λA E Q q=>ie hb hled hnd st.2 ?_) λh' h1 sb=>hQ _ h' s.toks ?_ ⟨?_,st.2.at λo e=>(sb.2 a hne).trans e⟩ λb o hb e=>(sb.2 b (by simpa using hb)).trans e
   ·rw[bel i (by lia),he,hpl]
    exact q
   ·rw[AAT,AAQ,he];rfl
   ·rw[if_neg (Nat.succ_ne_zero i),Nat.add_sub_cancel,show t.place.getD i 0=t.place[i] by simp[ACD,hp]]
    exact h1
  done:=λs Q E st hQ=>by
   have ps:t.place.size=es.size:=by have:=st.2.ft;simp[ADY]at this;lia
   refine cU hh st.1 st.2 (λA E Q q=>ie hb hled hnd st.2 ?_) λh' k=>hQ h' s.toks λb o hb e=>k b o (by simpa using hb) e
   rw[bel es.size (by lia),ABh (AA8 _)]
   exact q
  self:=λ_ _ _ _ st hQ=>dY st.1 hQ }
end
section
variable{prog:Program}{w:World}{A:Around}{E:Value->Shared->Prop}{s:Shared}{a:Addr}{o:Obj}{es:Array (Int×Value)}{ep:Nat}{t:SetTable}
theorem yd(S:SetAt s.heap a o es ep t)(hc:o.cls=.type "set")(hpl:t.plain=true->es.size<=1\/t.place.toList.Pairwise (· < ·))(hled:t.led = !w.params.followText "set-order")(hz:es.size<=sizeLine)
  (h:∀(it:Addr) (h':Heap) (d:Drawn) (vs:List Value) (fp:List Addr) (St:Nat->Heap->Prop),(∀b o,s.heap.get? b=some o->h'.get? b=some o)->vs.Perm (es.toList.map (·.2))->s.heap.objs.size<=it->it<h'.objs.size->(∀b∈fp,b=a\/s.heap.objs.size<=b/\b<h'.objs.size) ->
   (∀A':Around,A'.handled=none->Walks prog w A' it fp [it] es.size (λi v=>vs[i]?=some v) St)->St 0 h'->Q (.ref it) { s with heap:=h',drawn:=d }):wpAny (model prog w) A (pyIter (.ref a)) Q E s:=by
 have hT:s.TypeIs (.ref a) "set":=⟨o,S.ob,hc⟩
 have la:a<s.heap.objs.size:=AAF S.ob
 refine ADk hT F.slot_set_iter (AAj F.slot_set_iter hT mh ?_ (F.args_set_iter_1 _))
 unfold Builtin.«frozenset.__iter__»
 refine AA0 (show wpAny (model prog w) _ (pure a) _ _ s from AA2 ?_)
 unfold Builtin.Frozenset.sizeOf
 refine AA0 (AA0 (ACY S.ob S.dt S.ft (AA2 ?_)))
 unfold setDrawn
 refine AA0 (AA0 (AB7 S.ob S.dt S.ft ?_))
 unfold setsByText
 refine AA0 (AA0 (ACF (AA2 (AA2 ?_))))
 by_cases hd:(!w.params.followText "set-order" && (!t.plain&&decide (es.size > 1)))=true
 ·refine ABX (λ_=>?_) λz=>absurd hd z
  refine AA0 (oo _ _ _ _ (by simp) λps d hp=>?_)
  refine AA0 (show wpAny (model prog w) _ (newObj (.type "tuple") (.seq (ps.map λ(i:Nat)=>rawInt i).toArray)) _ _ _ from AAh ?_ (by have e:=hp.length_eq;rw[AD3]at e;show (ps.map λ(i:Nat)=>rawInt i).toArray.size<=sizeLine;rw[AAD,AA6,e];exact hz))
  have S1:=S.at (h':=s.heap.push { cls:=.type "tuple",data:=.seq (ps.map λ(i:Nat)=>rawInt i).toArray }) λo e=>AA4 _ e
  refine AA0 (wpAny_setEpoch_of (s:={ s with heap:=_,drawn:=d }) S1.ob S1.dt S1.ft ?_)
  refine AA0 (show wpAny (model prog w) _ (newObj (.type "set_iterator") (.fields #[.ref s.heap.objs.size,rawInt 0,.ref a,rawInt es.size,rawInt ep])) _ _ _ from AAh ?_ (by size_fits))
  refine AA2 ⟨_,rfl,"set_iterator",_,⟨_,AAB _ rfl,rfl⟩,aN.lookup,?_⟩
  have sz:(s.heap.push { cls:=.type "tuple",data:=.seq (ps.map λ(i:Nat)=>rawInt i).toArray }).objs.size=s.heap.objs.size+1:=ABN ..
  refine h _ _ d (ps.filterMap λj=>(es[j]?).map (·.2)) _ _ (λb o e=>AA4 _ (AA4 _ e)) ?_ (by show s.heap.objs.size<=(s.heap.push _).objs.size;rw[sz];exact AE1 _) (by show _<((s.heap.push _).push _).objs.size;rw[ABN (h:=s.heap.push _)];exact AAy _) ?_
   (λA' hh=>oU (o:=o) (t:=t) (ep:=ep) hp hh (AAK (by rw[sz];exact ABl la)) (AAK (by rw[sz];exact AAy _))) ⟨AAB _ rfl,S1.at λo e=>AA4 _ e,⟨_,AA4 _ (AAB _ rfl),rfl,_,rfl⟩⟩
  ·refine(hp.filterMap _).trans ?_
   have e1:(AAn es.size).filterMap (λj=>(es[j]?).map (·.2))=((AAn es.size).filterMap λj=>es[j]?).map (·.2):=by rw[List.map_filterMap]
   rw[e1,filterMap_getElem?_range]
  ·intro b hb
   rw[ABN,sz]
   rcases AAM.mp hb with rfl | hb
   ·exact .inr ⟨by rw[sz];exact AE1 _,by rw[sz];exact AAy _⟩
   ·rcases AAM.mp hb with rfl | hb
    ·exact .inl rfl
    ·rw[ABA.mp hb]
     exact .inr ⟨AA8 _,ABl (AAy _)⟩
 ·refine ABX (λz=>absurd z hd) λ_=>?_
  refine AA0 (AA2 (AA0 (wpAny_setEpoch_of S.ob S.dt S.ft ?_)))
  refine AA0 (show wpAny (model prog w) _ (newObj (.type "set_iterator") (.fields #[rawInt 0,rawInt 0,.ref a,rawInt es.size,rawInt ep])) _ _ _ from AAh ?_ (by size_fits))
  refine AA2 ⟨_,rfl,"set_iterator",_,⟨_,AAB _ rfl,rfl⟩,aN.lookup,?_⟩
  have S1:=S.at (h':=s.heap.push (cX (rawInt 0) 0 es.size a ep)) λo e=>AA4 _ e
  have fpl:∀b∈[s.heap.objs.size,a],b=a\/s.heap.objs.size<=b/\b<(s.heap.push (cX (rawInt 0) 0 es.size a ep)).objs.size:=λb hb=>by
   rcases AAM.mp hb with rfl | hb
   ·exact .inr ⟨AA8 _,by rw[ABN];exact AAy _⟩
   ·exact .inl (ABA.mp hb)
  by_cases hb:w.params.followText "set-order" = true
  ·refine h _ _ s.drawn ((pickOrder (w.params.setOrder a ep) es).toList.map (·.2)) _ _ (λb o e=>AA4 _ e) ((jc _ es).map _) (AA8 _) (by rw[ABN];exact AAy _) fpl
    (λA' hh=>si (o:=o) (t:=t) (ep:=ep) hb hh (AAK la)) ⟨AAB _ rfl,S1⟩
  ·have hb':w.params.followText "set-order" = false:=by simpa using hb
   have hnd:(!t.plain&&decide (es.size > 1))=false:=by
    rw[hb']at hd
    simpa using hd
   have ap:es.size<=1\/t.place.toList.Pairwise (· < ·):=by
    by_cases q:t.plain=true
    ·exact hpl q
    ·simp[q]at hnd
     exact .inl hnd
   rcases ap with h1 | hr
   ·refine h _ _ s.drawn (es.toList.map (·.2)) _ _ (λb o e=>AA4 _ e) (ACc _) (AA8 _) (by rw[ABN];exact AAy _) fpl
     (λA' hh=>sj (o:=o) (t:=t) (ep:=ep) hb' (by rw[hled,hb'];rfl) h1 hh (AAK la)) ⟨?_,S1⟩
    rw[if_pos rfl]
    exact AAB _ rfl
   ·refine h _ _ s.drawn (es.toList.map (·.2)) _ _ (λb o e=>AA4 _ e) (ACc _) (AA8 _) (by rw[ABN];exact AAy _) fpl
     (λA' hh=>sk (o:=o) (t:=t) (ep:=ep) hb' (by rw[hled,hb'];rfl) hnd hr hh (AAK la)) ⟨?_,S1⟩
    rw[if_pos rfl]
    exact AAB _ rfl
end
end L2
namespace L2
open PySem PySem.Spec PyProof.Rows DL PySem.W PySem.Calls PyProof.V
section
variable{prog:Program}{w:World}{A:Around}{E:Value->Shared->Prop}{s:Shared}{a:Addr}{o:Obj}{es:Array (Int×Value)}{ep:Nat}{t:SetTable}
theorem yg(hT:s.TypeIs (.ref a) "set")(h:Q false s):wpAny (model prog w) A (AE7 (.ref a)) Q E s:=by
 unfold AE7
 refine AA0 (ABu hT F.slot_set_len.lookup ?_)
 generalize hi:("set.__len__":String)=ident
 wp_delta
 rw[show splitId ident=some ("set","__len__") by rw[<-hi];decide +kernel]
 rw[<-hi]
 refine AA0 (ACG (T:="set") (b:=true) hT sub_set_self (ABX (λz=>absurd z (by decide)) λ_=>ABX (λ_=>AA0 (ACV hT (AA2 h))) λz=>absurd (by decide +kernel) z))
theorem tx{R:Result->Shared->Prop}(hh:A.handled=none)(S:SetAt s.heap a o es ep t)(hc:o.cls=.type "set")(hpl:t.plain=true->es.size<=1\/t.place.toList.Pairwise (· < ·))(hled:t.led = !w.params.followText "set-order")(hz:es.size<=sizeLine)
  {D:Addr}{c₀:Nat} (hDa:D≠a) (hD:s.heap.get? D=some { cls:=.type "list",data:=.seq #[] c₀ }) (res:Value)
  (hR:∀h' tk d vs c,(∀b u,b≠D->s.heap.get? b=some u->h'.get? b=some u)->h'.get? D=some { cls:=.type "list",data:=.seq vs c }->vs.toList.Perm (es.toList.map (·.2))->R (.ok (.ret res)) { s with heap:=h',toks:=tk,drawn:=d }) :
  wpAny (model prog w) A.in1 (AC9 (.ref D) (.ref a) res)
   (λfin s'=>match fin with | .done f=>R (.ok f) s' | .again c'=>c'.quiet=true/\codeAny (model prog w) A c' R s') (λe s'=>R (.error e) s') s:=by
 have ld:D<s.heap.objs.size:=AAF hD
 have hT:s.TypeIs (.ref a) "set":=⟨o,S.ob,hc⟩
 unfold AC9
 refine AA0 (ACV hT ?_)
 have e1:Builtin.List.listSameRef (.ref D) (.ref a)=false:=by simp[Builtin.List.listSameRef,hDa]
 have e2:(ADJ "set" == ADJ "list")=false:=by decide
 have e3:(ADJ "set" == ADJ "tuple")=false:=by decide
 simp only[e1,e2,e3,Bool.or_false,AAA,if_false]
 refine AA0 (yd S hc hpl hled hz λit h1 d vs fp St k1 pv lit uit hfp W st=>?_)
 have hDf:D∉fp:=λz=>by
  rcases hfp D z with e | ⟨e,_⟩
  ·exact hDa e
  ·exact absurd ld (ACw.mpr e)
 have lv:vs.length=es.size:=by have:=pv.length_eq;simpa using this
 have go:∀(h:Heap) (c₁:Nat),St 0 h->(∀b u,b≠D->h1.get? b=some u->h.get? b=some u)->h.get? D=some { cls:=.type "list",data:=.seq #[] c₁ } ->
   codeAny (model prog w) A (.builtin "list.extend.loop" ⟨[.ref D,.ref it,res],[]⟩) R { s with heap:=h,drawn:=d }:=λh c₁ st' kk hD'=>by
  refine codeAny_extend_loopS (W A.in1 (by simp[hh])).toS hz D hDf res es.size 0 _ #[] c₁ rfl (AAW _) st' hD' (ItemsOf.nil _) λs' acc c' hm hD'' hacc=>?_
  rw[Moved.eq_with hm]
  have ea:acc.toList=vs:=by
   apply ADi
   intro i
   by_cases hi:i<es.size
   ·have hi':i<acc.size:=by rw[hacc.1];exact hi
    have h1:acc[i]?=some acc[i]:=AAH hi'
    rw[AAQ,h1]
    exact(hacc.2 i _ h1).symm
   ·rw[ABB (by rw[AAO,hacc.1];lia),ABB (by lia)]
  refine hR s'.heap s'.toks d acc c' (λb u hb e=>hm.heap b u (λz=>?_) (kk b u hb (k1 b u e))) hD'' (by rw[ea];exact pv)
  rcases AAM.mp z with e' | z
  ·exact hb e'
  ·rw[ABA.mp z]at e
   exact absurd (AAF e) (ACw.mpr lit)
 have hD1:=k1 _ _ hD
 refine AA0 (AAd (yg (s:={ s with heap:=h1,drawn:=d }) ⟨o,k1 _ _ S.ob,hc⟩ ?_))
 refine ABX (λz=>?_) λ_=>AA2 ⟨AD1 F.plain_extend_loop _,go h1 c₀ st (λ_ _ _ e=>e) hD1⟩
 refine AA0 (ACx (AA0 (show wpAny (model prog w) _ (updateSeq D (·.push .none) >>= λ_=>updateSeq D (·.pop)) _ _ _ from AA0 (wpAny_updateSeq hD1 rfl ?_))))
 have hD2:=AAc (AB2 (·.push ABi)) hD1 rfl
 refine wpAny_updateSeq (hz:=by seq_fits) hD2 rfl ?_
 have hD3:=AAc (AB2 (·.pop)) hD2 rfl
 have other:∀b,b≠D->((h1.update D (AB2 (·.push ABi))).update D (AB2 (·.pop))).get? b=h1.get? b:=λb hb=>by
  rw[ABg _ _ (ABO hb),ABg _ _ (ABO hb)]
 refine AA2 ⟨AD1 F.plain_extend_loop _,go _ _ ((W A hh).frame 0 _ _ st λb hb u e=>(other b λq=>hDf (q ▸ hb)).trans e) (λb u hb e=>(other b hb).trans e) hD3⟩
theorem sA{Q:Value->Shared->Prop}(hh:A.handled=none)(S:SetAt s.heap a o es ep t)(hc:o.cls=.type "set")(hpl:t.plain=true->es.size<=1\/t.place.toList.Pairwise (· < ·))(hled:t.led = !w.params.followText "set-order")(hz:es.size<=sizeLine)
  (h:∀h' tk d D (vs:List Value),(∀b u,s.heap.get? b=some u->h'.get? b=some u)->s.heap.get? D=none->h'.get? D=some { cls:=.type "list",data:=.seq vs.toArray }->vs.Perm (es.toList.map (·.2)) ->
   wpAny (model prog w) A.in1 (call (.builtin "list.sort") [.ref D]) (λ_ s'=>Q (.ref D) s') E { s with heap:=h',toks:=tk,drawn:=d }):wpAny (model prog w) A (call (.builtin "sorted") [.ref a]) Q E s:=by
 have la:a<s.heap.objs.size:=AAF S.ob
 refine call_function_entry kind_sorted plain_sorted entry_sorted (args_sorted1 _) ?_
 unfold Builtin.«sorted»
 refine AA0 (m:=checkCount "sorted" 1 1 _) (AA2 ?_)
 unfold collect
 refine AA0 (AA0 (wpAny_runValue (ABQ F.entry_proto_collect ?_)))
 rw[ABa F.plain_proto_collect _]
 refine(show wpAny (model prog w) _ (newList [] >>= λl=>again (.builtin "list.__iadd__" ⟨[l,.ref a],[]⟩)) _ _ s from AA0 (AAh (AA2 ⟨AD1 F.plain_list_iadd _,ABQ F.entry_list_iadd ?_⟩)))
 rw[ABa F.plain_list_iadd _]
 have S1:=S.at (h':=s.heap.push { cls:=.type "list",data:=.seq ([]:List Value).toArray }) λo e=>AA4 _ e
 have key:=tx (prog:=prog) (A:=A.in1) (s:={ s with heap:=s.heap.push { cls:=.type "list",data:=.seq ([]:List Value).toArray } }) (D:=s.heap.objs.size) (c₀:=0) (res:=.ref s.heap.objs.size)
  (R:=λr s'=>∃h' tk d vs c,r=.ok (.ret (.ref s.heap.objs.size))/\s'={ s with heap:=h',toks:=tk,drawn:=d }/\(∀b u,s.heap.get? b=some u->h'.get? b=some u)/\h'.get? s.heap.objs.size=some { cls:=.type "list",data:=.seq vs c }/\vs.toList.Perm (es.toList.map (·.2)))
  (by simp[hh]) S1 hc hpl hled hz (Nat.ne_of_gt la) (AAB _ rfl) λh' tk d vs c k hD p=>⟨h',tk,d,vs,c,rfl,rfl,λb u e=>k b u (AAK (AAF e)) (AA4 _ e),hD,p⟩
 have last:∀h' tk d (vs:Array Value) c,(∀b u,s.heap.get? b=some u->h'.get? b=some u)->h'.get? s.heap.objs.size=some { cls:=.type "list",data:=.seq vs c }->vs.toList.Perm (es.toList.map (·.2)) ->
   wpAny (model prog w) A.in1 (do let ob <-load s.heap.objs.size;match ob.data with | .seq xs _=>pure xs.toList | _=>unsupported "internal:collect":Sem (List Value))
    (λxs s'=>wpAny (model prog w) A.in1 (do let l <-newList xs;let _ <-holding [l] (call (.builtin "list.sort") [l] []);ret l) (λfin s'=>∃v,fin=Fin.done (Flow.ret v)/\Q v s') E s') E { s with heap:=h',toks:=tk,drawn:=d }:=λh' tk d vs c kk hD p=>by
  refine AA0 (wpAny_load hD (AA2 (AA0 (ACz ?_ (by rw[p.length_eq];simpa using hz)))))
  have la':s.heap.objs.size<h'.objs.size:=AAF hD
  refine AA0 (AAd (AAp (h (h'.push { cls:=.type "list",data:=.seq vs.toList.toArray }) tk d h'.objs.size vs.toList (λb u e=>AA4 _ (kk b u e)) ?_ (AAB _ rfl) p) (λ_ s' q=>AA2 ⟨_,rfl,q⟩) λ_ _ z=>z))
  cases q:s.heap.get? h'.objs.size with
  | none=>rfl
  | some o'=>exact absurd (AAF (kk _ _ q)) (AAf _)
 refine AAp key (λfin s' x=>?_) λe s' ⟨_,_,_,_,_,z,_⟩=>by cases z
 cases fin with
 | done f =>
  obtain⟨h',tk,d,vs,c,z,rfl,kk,hD,p⟩:=x
  cases z
  exact last h' tk d vs c kk hD p
 | again c' =>
  refine⟨x.1,ACT x.2 ?_⟩
  rintro r s2 ⟨h',tk,d,vs,c,z,e,kk,hD,p⟩
  subst z e
  exact last h' tk d vs c kk hD p
end
end L2
namespace L2
open PySem PySem.Spec PyProof.Rows DL PySem.W
section
variable{X:Cx}{e:Expr}{te:DTE}{p p' pos pos':Pos}{k:Nat}
theorem Inv.drew(I:Inv X pins σ H s):Inv X pins σ H { s with drawn:=d } :=
 ⟨I.ok,I.os,I.bare,I.base,I.loc,I.cell,I.free,I.freeC,I.pin,I.hok,I.len⟩
end
end L2
namespace L2
open PySem PySem.Spec PyProof.Rows DL PySem.Builtin PySem.Builtin.Str PySem.StrLaws
theorem wI(a b len:Nat):strSliceIndices (some (a:Int)) (some (b:Int)) 1 len=strSliceIndices (some ((min a len:Nat):Int)) (some ((min b len:Nat):Int)) 1 len:=by
 have e:∀i:Nat,max (0:Int) (min (i:Int) (len:Int))=max (0:Int) (min ((min i len:Nat):Int) (len:Int)):=λi=>by lia
 have n:∀i:Nat,¬((i:Int)<0):=λi=>by lia
 simp only[strSliceIndices,n,if_false,show ((1:Int) > 0)=True by simp,if_true]
 rw[e a,e b]
theorem fQ(x:Str)(l u:Option Int):(AE2 x l u).cps.toList=if (strSliceIndices l u 1 x.length).length=x.length then x.cps.toList else(strSliceIndices l u 1 x.length).filterMap (x.cps[·]?):=by
 unfold AE2
 by_cases h:(strSliceIndices l u 1 x.length).length=x.length
 ·rw[if_pos (by simp[h]),if_pos h]
 ·rw[if_neg (by simp[h]),if_neg h]
theorem uK(x:Str){a b:Nat}(hab:a<=b):(AE2 x (some (a:Int)) (some (b:Int))).cps.toList=(x.cps.toList.drop a).take (b-a):=by
 have hm:min a x.length<=min b x.length:=by lia
 have key:(strSliceIndices (some ((min a x.length:Nat):Int)) (some ((min b x.length:Nat):Int)) 1 x.length).filterMap (x.cps[·]?)=(x.cps.toList.drop (min a x.length)).take (min b x.length-min a x.length):=sliced_plain x hm (Nat.min_le_right ..)
 have ll:=jA (a:=x)
 have fin:(x.cps.toList.drop (min a x.length)).take (min b x.length-min a x.length)=(x.cps.toList.drop a).take (b-a):=by
  by_cases ha:a<=x.length
  ·rw[Nat.min_eq_left ha]
   by_cases hb:b<=x.length
   ·rw[Nat.min_eq_left hb]
   ·rw[Nat.min_eq_right (by lia),ACg (by rw[ABb];lia),ACg (by rw[ABb];lia)]
  ·rw[List.drop_eq_nil_of_le (i:=a) (by lia),List.drop_eq_nil_of_le (i:=min a x.length) (by lia)]
   simp
 rw[fQ,wI,key,fin]
 split
 ·rename_i h
  rw[strSliceIndices_plain hm (Nat.min_le_right ..)]at h
  simp only[AA6,AD3]at h
  have h0:min a x.length=0:=by lia
  by_cases hx:x.length=0
  ·have:x.cps.toList=[]:=List.eq_nil_of_length_eq_zero (by lia)
   rw[this];simp
  ·have:a=0:=by lia
   subst this
   rw[List.drop_zero,ACg (by lia)]
 ·rfl
end L2
namespace L2
open PySem PySem.Spec PyProof.Rows DL PySem.W
section
variable{X:Cx}
def zJ:DR2:=λx y M Q=>match x,y with
 | .int i,.int j=>CPow i j/\Q (.int (i ^ j.toNat)) M
 | _,_=>False
theorem Dh:OpD X (binaryOp .Pow) zJ:=by
 refine OpR.imp CW ?_
 rintro vx vy H R ⟨x,y,M,ρ,Q,sm,r1,r2,q,k⟩
 unfold zJ at q
 split at q
 ·cases r1
  cases r2
  exact⟨_,_,rfl,rfl,q.1,k _ H (VQ.now sm (.int _) q.2)⟩
 ·exact q.elim
theorem Eh:HOp X (binaryOp .Pow) zJ:=⟨Dh⟩
end
end L2
namespace Ht
open PySem
def Occ(ow:Array (Option Nat))(s:Nat):Prop:=∃i,ow[s]?=some (some i)
theorem getD_none(hs:s<ow.size):(ow.getD s (some 0)).isNone=true↔¬Occ ow s:=by
 have e:ow[s]?=some ow[s]:=AAH hs
 have e2:ow.getD s (some 0)=ow[s]:=by simp[ACD,hs]
 rw[e2]
 unfold Occ
 rw[e]
 cases ow[s]<;>simp
theorem wu(hz:ow.size=m+1)(h:Int):∀(fuel k0 k:Nat),k0<=k->k<k0+fuel->¬Occ ow (cL m h k).1->(∀n,n<df m h k0->Occ ow (sq m h n).j) ->
  ∃N,ACh m ow fuel (cL m h k0).1 (cL m h k0).2=some (sq m h N).j/\¬Occ ow (sq m h N).j/\∀n,n<N->Occ ow (sq m h n).j:=by
 intro fuel
 induction fuel with
 | zero=>intro k0 k h1 h2;lia
 | succ fuel ih =>
  intro k0 k h1 h2 h3 h4
  have ile:=pf m h k0
  have rle:AAm m (cL m h k0).1<=m/\(cL m h k0).1<=AAm m (cL m h k0).1:=by
   unfold AAm;split<;>lia
  unfold ACh
  cases hf:(AAn (AAm m (cL m h k0).1+1-(cL m h k0).1)).find? λk=>(ow.getD ((cL m h k0).1+k) (some 0)).isNone with
  | some r =>
   have hr:=AE8 hf
   have hmem:=List.mem_of_find?_eq_some hf
   rw[AAs]at hmem
   refine⟨df m h k0+r,by rw[uJ m h k0 r (by lia)],?_,λn hn=>?_⟩
   ·rw[uJ m h k0 r (by lia)]
    exact(getD_none (by lia)).mp hr
   ·rcases ABv n (df m h k0)with q | q
    ·exact h4 n q
    ·obtain⟨r',rfl⟩:∃r',n=df m h k0+r':=⟨n-df m h k0,by lia⟩
     rw[uJ m h k0 r' (by lia)]
     refine AAv λhno=>?_
     have hlt:r' < r:=by lia
     have z:=(getD_none (ow:=ow) (s:=(cL m h k0).1+r') (by lia)).mpr hno
     have:=List.find?_range_eq_some.mp hf
     have:=this.2.2 r' hlt
     rw[z]at this
     exact absurd this (by simp)
  | none =>
   have all:∀r,r<=AAm m (cL m h k0).1-(cL m h k0).1->Occ ow ((cL m h k0).1+r):=λr hr=>by
    refine AAv λhno=>?_
    have z:=(getD_none (ow:=ow) (s:=(cL m h k0).1+r) (by lia)).mpr hno
    have:=List.find?_eq_none.mp hf r (AAs.mpr (by lia))
    exact this z
   have hk:k0≠k:=λe=>by subst e;exact h3 (all 0 (AAW _))
   refine ih (k0+1) k (by lia) (by lia) h3 λn hn=>?_
   unfold df at hn
   rcases ABv n (df m h k0)with q | q
   ·exact h4 n q
   ·obtain⟨r',rfl⟩:∃r',n=df m h k0+r':=⟨n-df m h k0,by lia⟩
    rw[uJ m h k0 r' (by lia)]
    exact all r' (by lia)
structure Laid(m:Nat)(hs:List Int)(ow:Array (Option Nat))(k:Nat):Prop where
 sz:ow.size=m+1
 lt:∀s i:Nat,ow[s]?=some (some i)->i<k
 inj:∀s s' i:Nat,ow[s]?=some (some i)->ow[s']?=some (some i)->s=s'
 all:∀i:Nat,i<k->∃s:Nat,ow[s]?=some (some i)
 path:∀(s i:Nat) (h:Int),ow[s]?=some (some i)->hs[i]?=some h->∃n,(sq m h n).j=s/\∀n',n' < n->Occ ow (sq m h n').j
theorem Laid.room(L:Laid m hs ow k)(hk:k<=m):∃s,s<=m/\¬Occ ow s:=by
 refine AAv λhc=>?_
 have occ:∀s,s<=m->Occ ow s:=λs hs=>AAv λz=>hc ⟨s,hs,z⟩
 have idx:∀s,s∈AAn (m+1)->((ow.getD s none).getD 0)∈AAn k:=λs hs'=>by
  obtain⟨i,e⟩:=occ s (by have:=AAs.mp hs';lia)
  have:ow.getD s none=some i:=by
   obtain⟨hl,z⟩:=AAi.mp e
   simp[ACD,hl,z]
  rw[this]
  exact AAs.mpr (L.lt s i e)
 have nd:((AAn (m+1)).map λs=>(ow.getD s none).getD 0).Nodup:=by
  rw[ABe,ADl]
  have base:=List.nodup_range (n:=m+1)
  rw[ABe]at base
  refine base.imp_of_mem λ{a b} ha hb hne e=>hne ?_
  obtain⟨i,ei⟩:=occ a (by have:=AAs.mp ha;lia)
  obtain⟨j,ej⟩:=occ b (by have:=AAs.mp hb;lia)
  have e1:ow.getD a none=some i:=by
   obtain⟨hl,z⟩:=AAi.mp ei
   simp[ACD,hl,z]
  have e2:ow.getD b none=some j:=by
   obtain⟨hl,z⟩:=AAi.mp ej
   simp[ACD,hl,z]
  rw[e1,e2]at e
  have:i=j:=e
  subst this
  exact L.inj a b i ei ej
 have:=L2.nodup_le _ (AAn k) nd λx hx=>by
  obtain⟨s,hs',rfl⟩:=AAZ.mp hx
  exact idx s hs'
 rw[AA6,AD3,AD3]at this
 lia
theorem Laid.step(hm:kc m)(L:Laid m hs ow k)(hk:k<=m)(hh:hs[k]?=some h) :
  ∃j,ACh m ow (ADB m) (ABr h % (m+1)) (ABr h)=some j/\Laid m hs (ow.setIfInBounds j (some k)) (k+1):=by
 obtain⟨s,hs1,hs2⟩:=L.room hk
 obtain⟨k',hk',e⟩:=zi hm h hs1
 obtain⟨N,f1,f2,f3⟩:=wu L.sz h (ADB m) 0 k' (AAW _) (by unfold ADB;lia) (by rw[e];exact hs2) λn hn=>absurd hn (ABt _)
 refine⟨(sq m h N).j,f1,?_⟩
 have jl:(sq m h N).j<ow.size:=by have:=uI (m:=m) h N;rw[L.sz];lia
 have same:(ow.setIfInBounds (sq m h N).j (some k))[(sq m h N).j]?=some (some k):=by
  rw[Array.getElem?_setIfInBounds_self_of_lt jl]
 have other:∀s,s≠(sq m h N).j->(ow.setIfInBounds (sq m h N).j (some k))[s]?=ow[s]?:=λs hne=>Array.getElem?_setIfInBounds_ne (ABO hne)
 have grow:∀s,Occ ow s->Occ (ow.setIfInBounds (sq m h N).j (some k)) s:=λs ⟨i,z⟩=>by
  by_cases q:s=(sq m h N).j
  ·subst q;exact⟨k,same⟩
  ·exact⟨i,by rw[other s q];exact z⟩
 have wh:∀s i,(ow.setIfInBounds (sq m h N).j (some k))[s]?=some (some i)->(s=(sq m h N).j/\i=k)\/(s≠(sq m h N).j/\ow[s]?=some (some i)):=λs i z=>by
  by_cases q:s=(sq m h N).j
  ·subst q;rw[same]at z;cases z;exact .inl ⟨rfl,rfl⟩
  ·rw[other s q]at z;exact .inr ⟨q,z⟩
 refine⟨by rw[Array.size_setIfInBounds];exact L.sz,λs i z=>?_,λs s' i z z'=>?_,λi hi=>?_,λs i h' z hh'=>?_⟩
 ·rcases wh s i z with⟨_,e⟩|⟨_,z⟩
  ·lia
  ·have:=L.lt s i z;lia
 ·rcases wh s i z with⟨e1,e2⟩|⟨_,z⟩
  ·rcases wh s' i z' with⟨e3,_⟩|⟨_,z'⟩
   ·rw[e1,e3]
   ·have:=L.lt s' i z';lia
  ·rcases wh s' i z' with⟨_,e4⟩|⟨_,z'⟩
   ·have:=L.lt s i z;lia
   ·exact L.inj s s' i z z'
 ·by_cases q:i=k
  ·subst q;exact⟨_,same⟩
  ·obtain⟨s,z⟩:=L.all i (by lia)
   refine⟨s,?_⟩
   rw[other s λe=>f2 ⟨i,by rw[<-e];exact z⟩]
   exact z
 ·rcases wh s i z with⟨e1,e2⟩|⟨_,z⟩
  ·subst e1 e2
   rw[hh]at hh';cases hh'
   exact⟨N,rfl,λn' hn'=>grow _ (f3 n' hn')⟩
  ·obtain⟨n,a1,a2⟩:=L.path s i h' z hh'
   exact⟨n,a1,λn' hn'=>grow _ (a2 n' hn')⟩
theorem At(hm:kc m)(hs:List Int)(hl:hs.length<=m):∃ow,SetTable.layClean m hs.toArray=some ow/\Laid m hs ow hs.length:=by
 have start:Laid m hs (Array.replicate (m+1) none) 0:=by
  have no:∀s i:Nat,(Array.replicate (m+1) (none:Option Nat))[s]?≠some (some i):=λs i z=>by
   rw[Array.getElem?_replicate]at z
   split at z<;>cases z
  exact⟨by simp,λs i z=>absurd z (no s i),λs _ i z=>absurd z (no s i),λi hi=>absurd hi (ABt _),λs i _ z=>absurd z (no s i)⟩
 have go:∀(aE:List Int) (k:Nat) (ow:Array (Option Nat)),hs.drop k=aE->k+aE.length=hs.length->Laid m hs ow k ->
   ∃ow',aE.foldl (init:=some (ow,k)) (λacc h=>do
    let (owner,k) <-acc
    let j <-ACh m owner (ADB m) (ABr h % (m+1)) (ABr h)
    pure (owner.setIfInBounds j (some k),k+1))=some (ow',hs.length)/\Laid m hs ow' hs.length:=by
  intro aE
  induction aE with
  | nil =>
   intro k ow e hk L
   have:k=hs.length:=by simpa using hk
   subst this
   exact⟨ow,rfl,L⟩
  | cons h aE ih =>
   intro k ow e hk L
   have hh:hs[k]?=some h:=by
    have:(hs.drop k)[0]?=some h:=by rw[e];rfl
    rw[ADX]at this
    simpa using this
   rw[AAL]at hk
   obtain⟨j,f1,L'⟩:=L.step hm (by lia) hh
   obtain⟨ow',g1,g2⟩:=ih (k+1) (ow.setIfInBounds j (some k)) (by
    have:hs.drop (k+1)=(hs.drop k).drop 1:=by rw[List.drop_drop]
    rw[this,e];rfl) (by lia) L'
   refine⟨ow',?_,g2⟩
   rw[List.foldl_cons]
   simp only[Option.bind_eq_bind,Option.bind_some,f1,Option.pure_def]
   exact g1
 obtain⟨ow,g1,g2⟩:=go hs 0 _ rfl (by simp) start
 refine⟨ow,?_,g2⟩
 unfold SetTable.layClean
 rw[<-Array.foldl_toList]
 have:hs.toArray.toList=hs:=by simp
 rw[this,g1]
 rfl
theorem jd{α:Type}[DecidableEq α]:∀{l l':List α},l.Nodup->l'.Nodup->(∀x,x∈l↔x∈l')->l.Perm l'
 | [],l',_,_,h=>by
  have:l'=[]:=List.eq_nil_iff_forall_not_mem.mpr λx hx=>absurd ((h x).mpr hx) (by simp)
  rw[this]
 | x::l,l',n,n',h=>by
  have hx:x∈l':=(h x).mp AAG
  have n1:=ABs.mp n
  refine(AEH x (jd n1.2 (n'.erase x) λy=>?_)).trans (List.perm_cons_erase hx).symm
  by_cases e:y=x
  ·subst e
   constructor
   ·intro z;exact absurd z n1.1
   ·intro z;exact absurd z (List.Nodup.not_mem_erase n')
  ·rw[List.mem_erase_of_ne e,<-h y,AAM]
   exact⟨.inr,λz=>z.resolve_left e⟩
noncomputable def bf(m:Nat)(ow:Array (Option Nat)):List (Nat×Nat):=(AAn (m+1)).filterMap λj=>(ow.getD j none).map (j,·)
theorem cW(L:Laid m hs ow k):(s,i)∈bf m ow↔ow[s]?=some (some i):=by
 unfold bf
 rw[ADO]
 constructor
 ·rintro⟨j,hj,e⟩
  have hj':j<ow.size:=by rw[L.sz];exact AAs.mp hj
  have e2:ow.getD j none=ow[j]:=by simp[ACD,hj']
  rw[e2]at e
  cases q:ow[j] with
  | none=>rw[q]at e;cases e
  | some i' =>
   rw[q]at e
   have:=AAN e
   cases this
   rw[AAH hj',q]
 ·intro e
  obtain⟨hl,z⟩:=AAi.mp e
  refine⟨s,AAs.mpr (by rw[<-L.sz];exact hl),?_⟩
  have e2:ow.getD s none=ow[s]:=by simp[ACD,hl]
  rw[e2,z];rfl
theorem nM(m:Nat)(ow:Array (Option Nat)):((bf m ow).map (·.1)).Pairwise (· < ·):=by
 unfold bf
 rw[ADl]
 refine List.Pairwise.filterMap (R:=(· < ·)) _ (λa a' h b hb b' hb'=>?_) (List.pairwise_lt_range)
 obtain⟨x,_,rfl⟩:=ABI.mp hb
 obtain⟨y,_,rfl⟩:=ABI.mp hb'
 exact h
theorem nN(L:Laid m hs ow hs.length):((bf m ow).map (·.2)).Perm (AAn hs.length):=by
 have nd1:(bf m ow).Nodup:=by
  have:=nM m ow
  rw[ADl]at this
  exact this.imp λh e=>by rw[e]at h;exact AAf _ h
 have nd:((bf m ow).map (·.2)).Nodup:=by
  rw[ABe,ADl]
  rw[ABe]at nd1
  refine nd1.imp_of_mem λ{a b} ha hb hne e=>hne ?_
  obtain⟨s,i⟩:=a
  obtain⟨s',i'⟩:=b
  have e':i=i':=e
  subst e'
  rw[L.inj s s' i ((cW L).mp ha) ((cW L).mp hb)]
 refine jd nd List.nodup_range λi=>?_
 rw[AAs,AAZ]
 constructor
 ·rintro⟨⟨s,i'⟩,hm,rfl⟩
  exact L.lt s i' ((cW L).mp hm)
 ·intro hi
  obtain⟨s,e⟩:=L.all i hi
  exact⟨(s,i),(cW L).mpr e,rfl⟩
theorem md{α:Type}{l:List α}{p:Nat}{x y:α}(hp:p<=l.length){i:Nat}(h:(l.take p++x::l.drop p)[i]?=some y):(i<p/\l[i]?=some y)\/(i=p/\y=x)\/(p<i/\l[i-1]?=some y):=by
 have lt:(l.take p).length=p:=by rw[AAx];lia
 rcases ACy i p with q | q | q
 ·rw[AAJ (by lia),List.getElem?_take,if_pos q]at h
  exact .inl ⟨q,h⟩
 ·subst q
  rw[AAa (by lia),lt,ACo]at h
  exact .inr (.inl ⟨rfl,(AAN h).symm⟩)
 ·rw[AAa (by lia),lt]at h
  obtain⟨r,hr⟩:∃r,i-p=r+1:=⟨i-p-1,by lia⟩
  rw[hr,ACZ,ADX]at h
  exact .inr (.inr ⟨q,by rw[show i-1=p+r by lia];exact h⟩)
structure TPre(t:SetTable)(hs:List Int):Prop where
 msk:kc t.mask
 len:t.place.size=hs.length
 nod:t.dummies = #[]
 ris:t.place.toList.Pairwise (· < ·)
 rng:∀j∈t.place.toList,j<=t.mask
 path:∀(i:Nat) (h:Int) (j:Nat),hs[i]?=some h->t.place[i]?=some j->∃n,(sq t.mask h n).j=j/\∀n',n' < n->(sq t.mask h n').j∈t.place.toList
theorem put_pre(T:TOk t hs)(h2:(sq t.mask h N).j∉t.place.toList)(h3:∀k,k<N->(sq t.mask h k).j∈t.place.toList)(pl:Bool) :
  (t.put (sq t.mask h N).j).2<=hs.length/\TPre { (t.put (sq t.mask h N).j).1 with plain:=pl } (hs.take (t.put (sq t.mask h N).j).2++h::hs.drop (t.put (sq t.mask h N).j).2):=by
 obtain⟨e,ris⟩:=uR T.ris h2
 obtain⟨b1,_,_⟩:=below_spec t.place T.ris (sq t.mask h N).j
 have bl:AAX t.place (sq t.mask h N).j<=hs.length:=by rw[<-T.len];exact b1
 refine⟨bl,⟨T.msk,?_,?_,ris,λj hj=>?_,λi h' j hh hj=>?_⟩⟩
 ·have:=congrArg ABk e
  rw[AAO,AAE,AAL,AAx,ABb,AAO]at this
  show (t.put (sq t.mask h N).j).1.place.size=(hs.take (AAX t.place (sq t.mask h N).j)++h::hs.drop (AAX t.place (sq t.mask h N).j)).length
  rw[this,AAE,AAL,AAx,ABb,T.len]
 ·show (if SetTable.has t.dummies (sq t.mask h N).j then SetTable.eraseAt t.dummies (AAX t.dummies (sq t.mask h N).j)else t.dummies) = #[]
  rw[T.nod]
  rfl
 ·have hj':j∈(t.put (sq t.mask h N).j).1.place.toList:=hj
  rw[e]at hj'
  rcases AAk.mp hj' with q | q
  ·exact T.rng j (List.mem_of_mem_take q)
  ·rcases AAM.mp q with q | q
   ·rw[q];exact uI h N
   ·exact T.rng j (List.mem_of_mem_drop q)
 ·have sub:∀x,x∈t.place.toList->x∈(t.put (sq t.mask h N).j).1.place.toList:=λx hx=>by
   rw[e]
   rw[<-List.take_append_drop (AAX t.place (sq t.mask h N).j) t.place.toList]at hx
   rcases AAk.mp hx with q | q
   ·exact AAr _ q
   ·exact AAI _ (AA9 _ q)
  have hj':(t.put (sq t.mask h N).j).1.place.toList[i]?=some j:=by rw[AAQ];exact hj
  rw[e]at hj'
  have go:∀k,hs[k]?=some h'->t.place[k]?=some j->∃n,(sq t.mask h' n).j=j/\∀n',n' < n->(sq t.mask h' n').j∈(t.put (sq t.mask h N).j).1.place.toList:=λk z1 z2=>by
   obtain⟨n,a1,a2⟩:=T.path k h' j z1 z2
   exact⟨n,a1,λn' hn'=>sub _ (a2 n' hn')⟩
  rcases md (by rw[AAO];exact b1) hj' with⟨q,z⟩|⟨q,z⟩|⟨q,z⟩
  ·rcases md bl hh with⟨q',z'⟩|⟨q',z'⟩|⟨q',z'⟩
   ·exact go i z' (by rw[<-AAQ];exact z)
   ·lia
   ·lia
  ·rcases md bl hh with⟨q',z'⟩|⟨q',z'⟩|⟨q',z'⟩
   ·lia
   ·subst z z'
    exact⟨N,rfl,λn' hn'=>sub _ (h3 n' hn')⟩
   ·lia
  ·rcases md bl hh with⟨q',z'⟩|⟨q',z'⟩|⟨q',z'⟩
   ·lia
   ·lia
   ·exact go (i-1) z' (by rw[<-AAQ];exact z)
theorem TPre.ok(T:TPre t hs)(h:t.tooFull=false):TOk t hs:=by
 refine⟨T.msk,T.len,T.nod,T.ris,T.rng,?_,T.path⟩
 unfold SetTable.tooFull AER at h
 rw[T.nod]at h
 simp at h
 simpa using h
theorem TPre.anew(T:TPre t hs)(h:t.tooFull=true)(hb:(hs.length-1)*5<t.mask*3)(h60:hs.length<=64) :
  AED (ACe hs.length)<=sizeLine/\∃t2 ord,t.relaid hs.toArray (ACe hs.length)=some (t2,ord)/\ord.toList.Perm (AAn hs.length)/\TOk t2 (ord.toList.map λi=>hs.getD i 0)/\t2.led=t.led:=by
 have full:hs.length*5 ≥ t.mask*3:=by
  unfold SetTable.tooFull AER at h
  rw[T.nod,T.len]at h
  simpa using h
 have gm:∃m,AED (ACe hs.length)=m+1/\kc m/\hs.length<=m/\hs.length*5<m*3:=by
  rcases T.msk with e | e | e
  ·have:hs.length=5:=by lia
   rw[this]
   exact⟨31,by decide +kernel,.inr (.inl rfl),by decide,by decide⟩
  ·have:hs.length=19:=by lia
   rw[this]
   exact⟨127,by decide +kernel,.inr (.inr rfl),by decide,by decide⟩
  ·lia
 obtain⟨m,e,hm,hl,few⟩:=gm
 refine⟨by rw[e,ABj];rcases hm with rfl | rfl | rfl<;>lia,?_⟩
 obtain⟨ow,f1,L⟩:=At hm hs hl
 unfold SetTable.relaid
 rw[e,Nat.add_sub_cancel]
 unfold SetTable.laid
 rw[f1]
 refine⟨_,_,rfl,?_,?_,rfl⟩
 ·show ((bf m ow).map (·.2)).toArray.toList.Perm _
  simpa using nN L
 ·have pl:((bf m ow).map (·.1)).toArray.toList=(bf m ow).map (·.1):=by simp
  have ol:((bf m ow).map (·.2)).toArray.toList=(bf m ow).map (·.2):=by simp
  have ln:(bf m ow).length=hs.length:=by have:=(nN L).length_eq;simpa using this
  refine⟨hm,?_,rfl,?_,λj hj=>?_,?_,λi h' j hh hj=>?_⟩
  ·show ((bf m ow).map (·.1)).toArray.size=(((bf m ow).map (·.2)).toArray.toList.map λi=>hs.getD i 0).length
   simp
  ·show ((bf m ow).map (·.1)).toArray.toList.Pairwise _
   rw[pl];exact nM m ow
  ·have hj':j∈((bf m ow).map (·.1)).toArray.toList:=hj
   rw[pl]at hj'
   obtain⟨⟨s,i⟩,hm',rfl⟩:=AAZ.mp hj'
   have:=(AAi.mp ((cW L).mp hm')).1
   rw[L.sz]at this
   show s<=m
   lia
  ·show ((bf m ow).map (·.1)).toArray.size*5<m*3
   rw[AAD,AA6,ln];exact few
  ·have hh':(((bf m ow).map (·.2)).map λi=>hs.getD i 0)[i]?=some h':=by rw[<-ol];exact hh
   have hj':((bf m ow).map (·.1))[i]?=some j:=by rw[<-pl,AAQ];exact hj
   rw[ABT,AAT]at hh'
   rw[AAT]at hj'
   cases q:(bf m ow)[i]? with
   | none=>rw[q]at hj';cases hj'
   | some p =>
    obtain⟨s,k⟩:=p
    rw[q]at hh' hj'
    have e1:s=j:=AAN hj'
    have e2:hs.getD k 0=h':=AAN hh'
    subst e1
    have mem:=(cW L).mp (AAo q)
    have kl:=L.lt s k mem
    have hk:hs[k]?=some h':=by
     rw[AA5 kl]
     rw[<-e2];simp[AEM,kl]
    obtain⟨n,a1,a2⟩:=L.path s k h' mem hk
    refine⟨n,a1,λn' hn'=>?_⟩
    obtain⟨k',z⟩:=a2 n' hn'
    show (sq m h' n').j∈((bf m ow).map (·.1)).toArray.toList
    rw[pl]
    exact AAZ.mpr ⟨(_,k'),(cW L).mpr z,rfl⟩
end Ht
namespace L2
open PySem PySem.Spec PyProof.Rows DL PySem.W
theorem pV:∀(n:Nat) (d:D),bL n d=true->okD M n d=true
 | 0,d,h=>by cases d<;>first | rfl | cases h
 | n+1,d,h=>by
  cases d with
  | tup ds =>
   have h':ds.all (bL n)=true:=h
   show ds.all (okD M n)=true
   rw[AAU]at h' ⊢
   exact λx hx=>pV n x (h' x hx)
  | str x=>rfl
  | int i=>rfl
  | _=>cases h
theorem gR:∀(n:Nat) (x y:D),bL n x=true->bL n y=true->(eqD M n x y=true↔x=y):=by
 intro n
 induction n with
 | zero =>
  intro x y h1 h2
  cases x with
  | str a =>
   cases y with
   | str b=>simp[eqD]
   | int b=>simp[eqD]
   | _=>cases h2
  | int a =>
   cases y with
   | str b=>simp[eqD]
   | int b=>simp[eqD]
   | _=>cases h2
  | _=>cases h1
 | succ n ih =>
  have go:∀xs ys:List D,xs.all (bL n)=true->ys.all (bL n)=true->(eqL (eqD M n) xs ys=true↔xs=ys):=by
   intro xs
   induction xs with
   | nil=>intro ys _ _;cases ys<;>simp[eqL]
   | cons x xs ih2 =>
    intro ys a1 a2
    cases ys with
    | nil=>simp[eqL]
    | cons y ys =>
     rw[ABK,AAS]at a1 a2
     show (eqD M n x y&&eqL (eqD M n) xs ys)=true↔_
     rw[AAS,ih x y a1.1 a2.1,ih2 ys a1.2 a2.2,AC8]
  intro x y h1 h2
  cases x with
  | str a =>
   cases y with
   | str b=>simp[eqD]
   | int b=>simp[eqD]
   | tup ys=>simp[eqD]
   | _=>cases h2
  | int a =>
   cases y with
   | str b=>simp[eqD]
   | int b=>simp[eqD]
   | tup ys=>simp[eqD]
   | _=>cases h2
  | tup xs =>
   cases y with
   | str b=>simp[eqD]
   | int b=>simp[eqD]
   | tup ys=>rw[D.tup.injEq];exact go _ _ h1 h2
   | _=>cases h2
  | _=>cases h1
section
variable{X:Cx}{pins:List (Addr×Obj)}{σ:St}{H:Hp}{ρ:List Addr}{M:Mem}
theorem Eo(sm:Sim X.K ρ M H):∀(n:Nat) (A:Around) (s:Shared) (d:D) (v:V) (u:Value) (E:Value->Shared->Prop) (Q:Int->Shared->Prop),A.units+n<cLine->Inv X pins σ H s->Rep X.K ρ H d v->aI v u->bL n d=true ->
  (∀tk,Q (hkD X.w n d) { s with toks:=tk })->wpAny (model X.prog X.w) A (pyHash u) Q E s:=by
 intro n
 induction n with
 | zero =>
  intro A s d v u E Q hu I r rv hk h
  cases r with
  | str x=>obtain⟨t,rfl⟩:=rv;exact ADE (h _)
  | int x=>obtain⟨t,rfl⟩:=rv;exact ADD (h _)
  | _=>cases hk
 | succ n ih =>
  intro A s d v u E Q hu I r rv hk h
  cases r with
  | str x=>obtain⟨t,rfl⟩:=rv;exact ADE (h _)
  | int x=>obtain⟨t,rfl⟩:=rv;exact ADD (h _)
  | @tup a vs ds hq rr =>
   cases rv
   obtain⟨its,r2,p,_⟩:=I.tuple hq
   obtain⟨o,ho,hc,nn,hd⟩:=id p
   have hT:s.TypeIs (.ref a) "tuple":=⟨o,ho,hc⟩
   have hks:ds.all (bL n)=true:=hk
   unfold pyHash
   first | unfold pyHashByItsType | skip
   first | refine AA0 (wpAny_cRoomFor_or (.inr (by lia)) ?_) | skip
   refine AA0 (ABu hT F.slot_tuple_hash.lookup ?_)
   refine(show wpAny (model X.prog X.w) _ (if (some (ADZ "tuple.__hash__")==some ABi)=true then _ else _) Q E s from ?_)
   rw[if_neg (by rw[beq_builtin_none];exact ABJ)]
   refine AA0 (ABu hT F.slot_tuple_hash.lookup ?_)
   refine(show wpAny (model X.prog X.w) _ (callSpecialIfBoundUnlessNone? (.ref a) "__hash__" _ >>= _) Q E s from AA0 (ACk hT F.slot_tuple_hash (AAj F.slot_tuple_hash hT F.entry_tuple_hash ?_ (F.args_tuple_hash_1 _))))
   refine(show wpAny (model X.prog X.w) _ (ACA (.ref a) >>= _) _ _ s from AA0 (wpAny_tupleItemsOf ho hd (AA0 ?_)))
   rw[<-ABY]
   refine AC0 _ (λaE (b:Array Int) s'=>∃done left ws,ds=done++left/\Reps X.K ρ H left ws/\au ws aE/\b.toList=done.map (hkD X.w n)/\∃tk,s'={ s with toks:=tk }) _ ?_ ?_ _ _ ⟨[],ds,vs,rfl,rr,by simpa using r2,rfl,s.toks,rfl⟩
   ·rintro x aE b s' ⟨done,left,ws,e,h1,h2,hb,tk,rfl⟩
    cases h2 with
    | @cons v0 _ ws' _ q1 q2 =>
     cases h1 with
     | @cons d0 _ left' _ r0 t0 =>
      refine AA0 (ih _ _ d0 v0 x _ _ (by show A.units+1+n<cLine;lia) (I.tok tk) r0 q1 ?_ λtk'=>?_)
      ·have:=AAU.mp hks d0 (by rw[e];simp)
       exact this
      ·first
        | exact AA2 ⟨done++[d0],left',ws',by rw[e];simp,t0,q2,by simp[hb],tk',rfl⟩
        | exact AA0 (AA2 (AA2 ⟨done++[d0],left',ws',by rw[e];simp,t0,q2,by simp[hb],tk',rfl⟩))
   ·rintro b s' ⟨done,left,ws,e,h1,h2,hb,tk,rfl⟩
    cases h2
    cases h1
    rw[ABE]at e
    subst e
    refine(show wpAny (model X.prog X.w) _ (retInt (ABF b.toList)) _ _ _ from ?_)
    rw[hb]
    refine wpAny_ret_mkInt ?_
    have key:hkD X.w (n+1) (.tup ds)=reduceHash (ABF (ds.map (hkD X.w n))):=rfl
    generalize ABF (ds.map (hkD X.w n))=z at key
    refine(show wpAny (model X.prog X.w) _ (if (decide (-(2:Int) ^ 63<=z)&&decide (z<2 ^ 63))=true then _ else _) Q E _ from ?_)
    unfold reduceHash at key
    by_cases hr:(decide (-(2:Int) ^ 63<=z)&&decide (z<2 ^ 63))=true
    ·rw[if_pos hr]at key ⊢
     exact AA2 (by rw[<-key];exact h _)
    ·rw[if_neg hr]at key ⊢
     exact AA0 (ACx (AA2 (by rw[<-key];exact h _)))
  | _=>cases hk
end
section
variable{X:Cx}{pins:List (Addr×Obj)}{σ:St}{H:Hp}{ρ:List Addr}{M:Mem}
theorem hbv_D(sm:Sim X.K ρ M H):∀(n k:Nat) (A:Around) (s:Shared) (d:D) (v:V) (u:Value) (E:Value->Shared->Prop) (Q:Bool->Shared->Prop),n<=k->Inv X pins σ H s->Rep X.K ρ H d v->aI v u->bL n d=true->(∀b,Q b s)->wpAny (model X.prog X.w) A (hashByValue k u) Q E s:=by
 intro n
 induction n with
 | zero =>
  intro k A s d v u E Q hk I r rv kd h
  cases r with
  | str x=>obtain⟨t,rfl⟩:=rv;cases k<;>exact AA2 (h _)
  | int x=>obtain⟨t,rfl⟩:=rv;cases k<;>exact AA2 (h _)
  | _=>cases kd
 | succ n ih =>
  intro k A s d v u E Q hk I r rv kd h
  cases r with
  | str x=>obtain⟨t,rfl⟩:=rv;cases k<;>exact AA2 (h _)
  | int x=>obtain⟨t,rfl⟩:=rv;cases k<;>exact AA2 (h _)
  | @tup a vs ds hq rr =>
   cases rv
   obtain⟨k,rfl⟩:∃k',k=k'+1:=⟨k-1,by lia⟩
   obtain⟨its,r2,p,_⟩:=I.tuple hq
   obtain⟨o,ho,hc,nn,hd⟩:=id p
   have hT:s.TypeIs (.ref a) "tuple":=⟨o,ho,hc⟩
   have hks:ds.all (bL n)=true:=kd
   unfold hashByValue
   refine AA0 (ABu hT F.slot_tuple_hash.lookup ?_)
   dsimp only
   refine AA0 (ACd ho hd ?_)
   simp only[Option.getD_some]
   rw[<-ABY]
   refine AA0 ?_
   refine AC0 _ (λaE r s'=>s'=s/\r.1=none/\∃left ws,(∀x∈left,bL n x=true)/\Reps X.K ρ H left ws/\au ws aE) _ ?_ ?_ _ _ ⟨rfl,rfl,ds,vs,AAU.mp hks,rr,by simpa using r2⟩
   ·rintro x aE r s' ⟨rfl,hr,left,ws,hl,h1,h2⟩
    cases h2 with
    | cons q1 q2 =>
     cases h1 with
     | cons r0 t0 =>
      refine AA0 (ih k _ _ _ _ x _ _ (by lia) I r0 q1 (hl _ AAG) λb=>?_)
      cases b with
      | false=>exact AA2 (AA2 (h _))
      | true=>exact AA2 ⟨rfl,rfl,_,_,λx hx=>hl x (AA9 _ hx),t0,q2⟩
   ·rintro⟨r1,r2⟩ s' ⟨rfl,hr,_⟩
    simp only at hr
    subst hr
    exact AA2 (h _)
  | _=>cases kd
theorem uO(sm:Sim X.K ρ M H):∀(n k:Nat) (A:Around) (s:Shared) (d:D) (v:V) (u:Value) (E:Value->Shared->Prop) (Q:Bool->Shared->Prop),n<=k->Inv X pins σ H s->Rep X.K ρ H d v->aI v u->bL n d=true->Q true s->wpAny (model X.prog X.w) A (eqIsQuiet k u) Q E s:=by
 intro n
 induction n with
 | zero =>
  intro k A s d v u E Q hk I r rv kd h
  cases r with
  | str x=>obtain⟨t,rfl⟩:=rv;rw[ABn k (v:=.str x t) rfl];exact AA2 h
  | int x=>obtain⟨t,rfl⟩:=rv;rw[ABn k (v:=.int x t) rfl];exact AA2 h
  | _=>cases kd
 | succ n ih =>
  intro k A s d v u E Q hk I r rv kd h
  cases r with
  | str x=>obtain⟨t,rfl⟩:=rv;rw[ABn k (v:=.str x t) rfl];exact AA2 h
  | int x=>obtain⟨t,rfl⟩:=rv;rw[ABn k (v:=.int x t) rfl];exact AA2 h
  | @tup a vs ds hq rr =>
   cases rv
   obtain⟨k,rfl⟩:∃k',k=k'+1:=⟨k-1,by lia⟩
   obtain⟨its,r2,p,_⟩:=I.tuple hq
   obtain⟨o,ho,hc,nn,hd⟩:=id p
   have hT:s.TypeIs (.ref a) "tuple":=⟨o,ho,hc⟩
   have hks:ds.all (bL n)=true:=kd
   unfold eqIsQuiet
   refine AA0 (ABu hT F.slot_tuple_eq.lookup ?_)
   refine(show wpAny (model X.prog X.w) A (isInstance (.ref a) (.type "tuple") >>= _) _ _ s from AA0 (ACG hT isSubtype_tuple_tuple ?_))
   simp only[AC3,AAA,if_false]
   refine AA0 (ACd ho hd ?_)
   simp only[Option.getD_some]
   refine AA0 ?_
   rw[<-ABY]
   refine AC0 _ (λaE r s'=>s'=s/\r.1=none/\∃left ws,(∀x∈left,bL n x=true)/\Reps X.K ρ H left ws/\au ws aE) _ ?_ ?_ _ _ ⟨rfl,rfl,ds,vs,AAU.mp hks,rr,by simpa using r2⟩
   ·rintro x aE r s' ⟨rfl,hr,left,ws,hl,h1,h2⟩
    cases h2 with
    | cons q1 q2 =>
     cases h1 with
     | cons r0 t0 =>
      refine AA0 (ih k _ _ _ _ x _ _ (by lia) I r0 q1 (hl _ AAG) ?_)
      simp only[AC3,AAA,if_false]
      exact AA2 ⟨rfl,rfl,_,_,λx hx=>hl x (AA9 _ hx),t0,q2⟩
   ·rintro⟨r1,r2⟩ s' ⟨rfl,hr,_⟩
    simp only at hr
    subst hr
    exact AA2 h
  | _=>cases kd
theorem EX(sm:Sim X.K ρ M H):∀(n k:Nat) (A:Around) (s:Shared) (d:D) (v:V) (u:Value) (E:Value->Shared->Prop) (Q:Bool->Shared->Prop),n<=k->Inv X pins σ H s->Rep X.K ρ H d v->aI v u->bL n d=true->Q false s->wpAny (model X.prog X.w) A (ofAClassStatement k u) Q E s:=by
 intro n
 induction n with
 | zero =>
  intro k A s d v u E Q hk I r rv kd h
  cases r with
  | str x=>obtain⟨t,rfl⟩:=rv;cases k<;>exact AA2 h
  | int x=>obtain⟨t,rfl⟩:=rv;cases k<;>exact AA2 h
  | _=>cases kd
 | succ n ih =>
  intro k A s d v u E Q hk I r rv kd h
  cases r with
  | str x=>obtain⟨t,rfl⟩:=rv;cases k<;>exact AA2 h
  | int x=>obtain⟨t,rfl⟩:=rv;cases k<;>exact AA2 h
  | @tup a vs ds hq rr =>
   cases rv
   obtain⟨k,rfl⟩:∃k',k=k'+1:=⟨k-1,by lia⟩
   obtain⟨its,r2,p,_⟩:=I.tuple hq
   obtain⟨o,ho,hc,nn,hd⟩:=id p
   have hT:s.TypeIs (.ref a) "tuple":=⟨o,ho,hc⟩
   have hks:ds.all (bL n)=true:=kd
   unfold ofAClassStatement
   refine AA0 (ACV hT ?_)
   dsimp only
   simp only[beq_self_eq_true,if_true]
   refine AA0 (AA2 ?_)
   simp only[AC3,AAA,if_false]
   refine AA0 (ACd ho hd ?_)
   dsimp only
   refine AA0 ?_
   rw[<-ABY]
   refine AC0 _ (λaE r s'=>s'=s/\r.1=none/\∃left ws,(∀x∈left,bL n x=true)/\Reps X.K ρ H left ws/\au ws aE) _ ?_ ?_ _ _ ⟨rfl,rfl,ds,vs,AAU.mp hks,rr,by simpa using r2⟩
   ·rintro x aE r s' ⟨rfl,hr,left,ws,hl,h1,h2⟩
    cases h2 with
    | cons q1 q2 =>
     cases h1 with
     | cons r0 t0 =>
      refine AA0 (ih k _ _ _ _ x _ _ (by lia) I r0 q1 (hl _ AAG) ?_)
      simp only[AAA,if_false]
      exact AA2 ⟨rfl,rfl,_,_,λx hx=>hl x (AA9 _ hx),t0,q2⟩
   ·rintro⟨r1,r2⟩ s' ⟨rfl,hr,_⟩
    simp only at hr
    subst hr
    exact AA2 h
  | _=>cases kd
end
noncomputable def eY:D->Bool
 | .tup _=>true
 | _=>false
def Ent(X:Cx)(ρ:List Addr)(H:Hp)(n:Nat)(d:D)(e:Int×Value):Prop:=(∃v,Rep X.K ρ H d v/\aI v e.2)/\e.1=hkD X.w n d/\bL n d=true/\eY d=true
structure KSet(X:Cx)(ρ:List Addr)(H:Hp)(h:Heap)(a:Addr)(n:Nat)(ds:List D)(o:Obj)(es:Array (Int×Value))(ep:Nat)(t:SetTable):Prop where
 ob:h.get? a=some o
 ex:o.ExactSet
 dt:o.data=.set es ep t
 en:Paired (Ent X ρ H n) ds es.toList
 nd:ds.Nodup
 tk:Ht.TOk t (es.toList.map (·.1))
 ld:t.led = !X.w.params.followText "set-order"
theorem cD{α β:Type}{R:α->β->Prop}:∀{xs:List α}{ys:List β}{i:Nat}{y:β},Paired R xs ys->ys[i]?=some y->∃x,xs[i]?=some x/\R x y
 | _,_,i,y,.nil,e=>by simp at e
 | _,_,0,y,.cons r _,e=>by simp at e;subst e;exact⟨_,rfl,r⟩
 | _,_,i+1,y,.cons _ t,e=>by
  obtain⟨x,h1,h2⟩:=cD (i:=i) t (by simpa using e)
  exact⟨x,by simpa using h1,h2⟩
theorem fY{α β:Type}{R:α->β->Prop}:∀{xs:List α}{ys:List β}{i:Nat}{x:α},Paired R xs ys->xs[i]?=some x->∃y,ys[i]?=some y/\R x y
 | _,_,i,y,.nil,e=>by simp at e
 | _,_,0,y,.cons r _,e=>by simp at e;subst e;exact⟨_,rfl,r⟩
 | _,_,i+1,y,.cons _ t,e=>by
  obtain⟨x,h1,h2⟩:=fY (i:=i) t (by simpa using e)
  exact⟨x,by simpa using h1,h2⟩
theorem KSet.fits(S:KSet X ρ H h a n ds o es ep t):t.fits es.size=true:=by
 have h1:=S.tk.len
 have h2:=S.tk.few
 rw[AA6,AAO]at h1
 unfold ADY
 have h3:t.fill=t.place.size:=by unfold AER;rw[S.tk.nod];rfl
 rw[h3]
 simp only[AAS,beq_iff_eq,decide_eq_true_eq]
 lia
section
variable{X:Cx}{pins:List (Addr×Obj)}{σ:St}{H:Hp}{ρ:List Addr}{M:Mem}{A:Around}{E:Value->Shared->Prop}{s:Shared}{a:Addr}{n:Nat}{ds:List D}{o:Obj}{es:Array (Int×Value)}{ep:Nat}{t:SetTable}
theorem xa(sm:Sim X.K ρ M H)(I:Inv X pins σ H s)(hn:n<=8)(r:Rep X.K ρ H d v)(rv:aI v u)(kd:bL n d=true)(h:Q false s) :
  ∀(l:List Value),(∀y∈l,∃d' v',Rep X.K ρ H d' v'/\aI v' y/\bL n d'=true)->wpAny (model X.prog X.w) A (searchCouldBeSeen u l) Q E s:=by
 intro l hl
 unfold searchCouldBeSeen
 refine AA0 ?_
 refine AC0 _ (λaE r s'=>s'=s/\r.1=none/\∀y∈aE,∃d' v',Rep X.K ρ H d' v'/\aI v' y/\bL n d'=true) _ ?_ ?_ _ _ ⟨rfl,rfl,hl⟩
 ·rintro y aE r' s' ⟨rfl,hr,hy⟩
  have tl:∀z∈aE,∃d' v',Rep X.K ρ H d' v'/\aI v' z/\bL n d'=true:=λz hz=>hy z (AA9 _ hz)
  obtain⟨d',v',r1,r2,kd'⟩:=hy y AAG
  dsimp only
  refine ABX (λ_=>AA2 ⟨rfl,rfl,tl⟩) λ_=>?_
  refine AA0 (uO sm n 8 A _ d v u _ _ hn I r rv kd ?_)
  simp only[AC3,AAA,if_false]
  refine AA0 (uO sm n 8 A _ d' v' y _ _ hn I r1 r2 kd' ?_)
  simp only[AC3,AAA,if_false]
  refine AA0 (EX sm n 8 A _ d v u _ _ hn I r rv kd ?_)
  simp only[AAA,if_false]
  refine AA0 (EX sm n 8 A _ d' v' y _ _ hn I r1 r2 kd' ?_)
  simp only[AAA,if_false]
  exact AA2 ⟨rfl,rfl,tl⟩
 ·rintro⟨r1,r2⟩ s' ⟨rfl,hr,_⟩
  simp only at hr
  subst hr
  exact AA2 h
theorem xo(sm:Sim X.K ρ M H)(I:Inv X pins σ H s)(hn:n<=8)(hu:A.units+n<cLine)(S:KSet X ρ H s.heap a n ds o es ep t)(r:Rep X.K ρ H d v)(rv:aI v u)(kd:bL n d=true)
  (hthere:d∈ds->Q (.there none) s) (hN1:N<10*(t.mask+15)) (hN2:(Ht.sq t.mask (hkD X.w n d) N).j∉t.place.toList) (hN3:∀k,k<N->(Ht.sq t.mask (hkD X.w n d) k).j∈t.place.toList)
  (hfree:d∉ds->Q (.free (Ht.sq t.mask (hkD X.w n d) N).j false) s) :
  ∀(fuel m:Nat) (stand:Option ACL),m<=N->N<m+fuel->stand.getD (t.probeStart (hkD X.w n d))=Ht.sq t.mask (hkD X.w n d) m->(∀k i:Nat,k<m->t.place[i]?=some (Ht.sq t.mask (hkD X.w n d) k).j->ds[i]?≠some d) ->
   wpAny (model X.prog X.w) A (setSearchFrom a u (hkD X.w n d) true fuel stand) Q E s:=by
 intro fuel
 induction fuel with
 | zero=>intro m stand h1 h2;lia
 | succ fuel ih =>
  intro m stand h1 h2 hs hb
  unfold setSearchFrom
  refine AA0 (AB7 S.ob S.dt S.fits ?_)
  dsimp only
  have gw:t.gaveWay=false:=by
   unfold SetTable.gaveWay
   rcases S.tk.msk with e | e | e<;>rw[e]<;>rfl
  rw[gw]
  simp only[AAA,if_false]
  rw[hs]
  rcases Ht.go_spec S.tk.ris S.tk.nod (λi=>(es[i]?.map (·.1)).getD 0) (hkD X.w n d) (10*ADB t.mask) m N h1 (by unfold ADB;lia) hN2 (λk _ hk=>hN3 k hk) (Ht.sq_dummy _ _)with⟨z1,z2⟩|⟨m',i,a1,a2,a3,a4,a5,a6⟩
  ·generalize hpr:SetTable.probe t _ (hkD X.w n d) (Ht.sq t.mask (hkD X.w n d) m)=pr
   obtain rfl:pr=_:=hpr.symm.trans z2
   dsimp only
   refine AA2 (hfree λhd=>?_)
   obtain⟨i,hi⟩:=AB3 hd
   obtain⟨e,he,_,eh,_⟩:=fY S.en hi
   have he':es[i]?=some e:=by rw[<-AAQ];exact he
   have hh:(es.toList.map (·.1))[i]?=some (hkD X.w n d):=by rw[AAT,he];exact congrArg some eh
   have hl:i<t.place.size:=by rw[S.tk.len];exact(AA7.mp hh).1
   obtain⟨ni,b1,b2⟩:=S.tk.path i _ t.place[i] hh (AAH hl)
   have hlt:ni<N:=by
    rcases ACy ni N with q | q | q
    ·exact q
    ·subst q
     exact absurd (show (Ht.sq t.mask (hkD X.w n d) ni).j∈t.place.toList by rw[b1];simp) hN2
    ·exact absurd (b2 N q) hN2
   have hp:t.place[i]?=some (Ht.sq t.mask (hkD X.w n d) ni).j:=by rw[b1];exact AAH hl
   rcases ABv ni m with q | q
   ·exact hb ni i q hp hi
   ·refine z1 ni i q hlt hp ?_
    rw[he']
    exact eh
  ·generalize hpr:SetTable.probe t _ (hkD X.w n d) (Ht.sq t.mask (hkD X.w n d) m)=pr
   obtain rfl:pr=_:=hpr.symm.trans a6
   dsimp only
   have hil:i<es.size:=by
    have:=(AAi.mp a3).1
    rw[S.tk.len,AA6,AAO]at this
    exact this
   have hei:es[i]?=some es[i]:=AAH hil
   obtain⟨d0,hd0,⟨v0,r0,rv0⟩,eh0,kd0,it0⟩:=cD S.en (i:=i) (y:=es[i]) (by rw[AAQ];exact hei)
   have seen:∀(f:Bool->Sem SetFound),wpAny (model X.prog X.w) A (f false) Q E s->wpAny (model X.prog X.w) A (searchCouldBeSeen u ((es.filter (·.1==hkD X.w n d)).toList.map (·.2)) >>= f) Q E s:=λf hf=>by
    refine AA0 (xa sm I hn r rv kd hf _ λy hy=>?_)
    obtain⟨e,he,rfl⟩:=AAZ.mp hy
    have he2:e∈es.toList:=by
     have:e∈es.filter (·.1==hkD X.w n d):=by simpa using he
     simpa using(Array.mem_filter.mp this).1
    obtain⟨j,hj⟩:=AB3 he2
    obtain⟨d1,_,⟨v1,r1,rv1⟩,_,kd1,_⟩:=cD S.en hj
    exact⟨d1,v1,r1,rv1,kd1⟩
   have hbv:∃b,es[i].2=ABf b:=by
    cases r0 with
    | tup _ _=>exact⟨_,rv0⟩
    | _=>cases it0
   obtain⟨b,hbv⟩:=hbv
   have heq:ACC A s es[i].2 u (eqD M n d0 d):=(jH I sm n A d0 d v0 v es[i].2 u hu r0 rv0 r rv (pV n d0 kd0) (pV n d kd)).1
   refine ABX (λ_=>seen _ ?_) λ_=>?_
   ·simp only[AAA,if_false]
    rw[hei]
    dsimp only
    refine AA0 (AAd (heq _ _ _ _ (AA0 (AB7 S.ob S.dt S.fits ?_))))
    dsimp only
    by_cases hq:eqD M n d0 d=true
    ·rw[hq]
     simp only[Bool.and_self,if_true]
     have:d0=d:=(gR n d0 d kd0 kd).mp hq
     subst this
     exact AA2 (hthere (AAo hd0))
    ·rw[ABG.mpr hq]
     simp only[AEG,AAA,if_false]
     have sm':t.sameMemory t.moves t.mask=some true:=by unfold SetTable.sameMemory;simp
     rw[sm']
     dsimp only
     simp only[if_true]
     rw[Ht.slot_live S.tk.ris a3]
     dsimp only
     rw[hei]
     have sam:wpAny (model X.prog X.w) A (isSame es[i].2 es[i].2) (λb s'=>b=true/\s'=s) E s:=by
      unfold isSame
      rw[hbv]
      simp only[beq_self_eq_true,if_true]
      exact AA2 (And.intro rfl rfl)
     refine AA0 (AAp sam (λb s' ⟨e1,e2⟩=>?_) λ_ _ z=>z)
     subst e1 e2
     refine AA0 (AA2 ?_)
     simp only[if_true]
     refine ih (m'+1) _ (by lia) (by lia) rfl λk i' hk hp hds=>?_
     rcases ABv k m with q | q
     ·exact hb k i' q hp hds
     ·rcases ABv k m' with q' | q'
      ·refine a5 k i' q q' hp ?_
       obtain⟨e,he,_,eh,_⟩:=fY S.en hds
       have he':es[i']?=some e:=by rw[<-AAQ];exact he
       rw[he'];exact eh
      ·have:k=m':=by lia
       subst this
       have:i'=i:=by rw[<-Ht.below_at S.tk.ris hp,Ht.below_at S.tk.ris a3]
       subst this
       rw[hd0]at hds
       cases hds
       exact hq ((gR n d d kd kd).mpr rfl)
   ·rw[hei]
    dsimp only
    refine AA0 (AAd (heq _ _ _ _ (AA0 (AB7 S.ob S.dt S.fits ?_))))
    dsimp only
    by_cases hq:eqD M n d0 d=true
    ·rw[hq]
     simp only[Bool.and_self,if_true]
     have:d0=d:=(gR n d0 d kd0 kd).mp hq
     subst this
     exact AA2 (hthere (AAo hd0))
    ·rw[ABG.mpr hq]
     simp only[AEG,AAA,if_false]
     have sm':t.sameMemory t.moves t.mask=some true:=by unfold SetTable.sameMemory;simp
     rw[sm']
     dsimp only
     simp only[if_true]
     rw[Ht.slot_live S.tk.ris a3]
     dsimp only
     rw[hei]
     have sam:wpAny (model X.prog X.w) A (isSame es[i].2 es[i].2) (λb s'=>b=true/\s'=s) E s:=by
      unfold isSame
      rw[hbv]
      simp only[beq_self_eq_true,if_true]
      exact AA2 (And.intro rfl rfl)
     refine AA0 (AAp sam (λb s' ⟨e1,e2⟩=>?_) λ_ _ z=>z)
     subst e1 e2
     refine AA0 (AA2 ?_)
     simp only[if_true]
     refine ih (m'+1) _ (by lia) (by lia) rfl λk i' hk hp hds=>?_
     rcases ABv k m with q | q
     ·exact hb k i' q hp hds
     ·rcases ABv k m' with q' | q'
      ·refine a5 k i' q q' hp ?_
       obtain⟨e,he,_,eh,_⟩:=fY S.en hds
       have he':es[i']?=some e:=by rw[<-AAQ];exact he
       rw[he'];exact eh
      ·have:k=m':=by lia
       subst this
       have:i'=i:=by rw[<-Ht.below_at S.tk.ris hp,Ht.below_at S.tk.ris a3]
       subst this
       rw[hd0]at hds
       cases hds
       exact hq ((gR n d d kd kd).mpr rfl)
end
theorem Paired.ins{α β:Type}{R:α->β->Prop}{x:α}{y:β}(r:R x y):∀{xs:List α}{ys:List β} (p:Nat),Paired R xs ys->Paired R (xs.take p++x::xs.drop p) (ys.take p++y::ys.drop p)
 | _,_,0,h=>by simpa using .cons r h
 | _,_,p+1,.nil=>.cons r .nil
 | _,_,p+1,.cons h t=>.cons h (Paired.ins r p t)
theorem Paired.pick{α β:Type}{R:α->β->Prop}:∀{xs:List α}{ys:List β} (is:List Nat),Paired R xs ys->(∀i∈is,i<xs.length)->Paired R (is.filterMap (xs[·]?)) (is.filterMap (ys[·]?))
 | _,_,[],_,_=>.nil
 | xs,ys,i::is,h,hi=>by
  have hl:=hi i AAG
  have e:xs[i]?=some xs[i]:=AA5 hl
  obtain⟨y,hy,r⟩:=fY h e
  rw[ABS,ABS,e,hy]
  exact .cons r (Paired.pick is h λj hj=>hi j (AA9 _ hj))
theorem kP{α:Type}{l:List α}{is:List Nat}(h:is.Perm (AAn l.length)):(is.filterMap (l[·]?)).Perm l:=by
 have:=h.filterMap (l[·]?)
 rwa [List.filterMap_getElem?_range_length]at this
section
variable{X:Cx}{pins:List (Addr×Obj)}{σ:St}{H:Hp}{ρ:List Addr}{M:Mem}{A:Around}{E:Value->Shared->Prop}{s:Shared}{a:Addr}{n:Nat}{ds:List D}{o:Obj}{es:Array (Int×Value)}{ep:Nat}{t:SetTable}
def KS(X:Cx)(ρ:List Addr)(H:Hp)(h:Heap)(a:Addr)(n:Nat)(ds:List D):Prop:=∃o es ep t,KSet X ρ H h a n ds o es ep t
set_option maxHeartbeats 1000000 in
theorem add_D(sm:Sim X.K ρ M H)(I:Inv X pins σ H s)(hn:n<=8)(hu:A.units+n+1<cLine)(S:KS X ρ H s.heap a n ds)(h60:ds.length+1<=64)(r:Rep X.K ρ H d v)(rv:aI v u)(kd:bL n d=true)(it:eY d=true)
  (h:∀b h' tk ds',(∀c u,c≠a->s.heap.get? c=some u->h'.get? c=some u)->KS X ρ H h' a n ds'->(∀x,x∈ds'↔x∈ds\/x=d)->ds'.length<=ds.length+1->Q b { s with heap:=h',toks:=tk }) :
  wpAny (model X.prog X.w) A (setAdd a u) Q E s:=by
 obtain⟨o,es,ep,t,S⟩:=S
 obtain⟨ra,rfl⟩:∃ra,u=ABf ra:=by
  cases r with
  | tup _ _=>exact⟨_,rv⟩
  | _=>cases it
 unfold setAdd
 refine AAd (AA0 (Eo sm n A s d v _ _ _ (by lia) I r rv kd λtk=>?_))
 unfold setAddHashed setAddHashedIn
 refine AAd (AA0 (AB7 (s:={ s with toks:=tk }) S.ob S.dt S.fits ?_))
 dsimp only
 have bs:byScan (.ref ra) es=false:=rfl
 rw[bs]
 simp only[AAA,if_false]
 obtain⟨N,hN1,hN2,hN3⟩:=S.tk.empty (hkD X.w n d)
 have I1:Inv X pins σ H { s with toks:=tk }:=I.tok tk
 unfold setSearch
 refine AA0 (xo (s:={ s with toks:=tk }) sm I1 hn (by lia) S r rv kd (λhd=>?_) hN1 hN2 hN3 (λhd=>?_) 100000 0 none (AAW _) ?_ rfl λk i hk=>absurd hk (ABt _))
 ·exact AA2 (h _ s.heap tk ds (λ_ _ _ e=>e) ⟨o,es,ep,t,S⟩ (λx=>⟨.inl,λz=>z.elim id λe=>e ▸ hd⟩) (AE1 _))
 ·dsimp only
  refine AA0 (AB7 (s:={ s with toks:=tk }) S.ob S.dt S.fits ?_)
  dsimp only
  have len:=S.tk.len
  rw[AA6,AAO]at len
  have dl:ds.length=es.size:=by have:=Paired.length S.en;simpa using this
  have fin:∀pl:Bool,wpAny (model X.prog X.w) A (do
    storeSet a (ADj es (t.put (Ht.sq t.mask (hkD X.w n d) N).j).2 (hkD X.w n d,ABf ra)) { (t.put (Ht.sq t.mask (hkD X.w n d) N).j).1 with plain:=pl }
    if (!false&&({ (t.put (Ht.sq t.mask (hkD X.w n d) N).j).1 with plain:=pl }:SetTable).tooFull)=true then do
      setRelay a (ACe (es.size+1))
      pure true
     else pure true) Q E { s with toks:=tk }:=λpl=>by
   obtain⟨pb,T1⟩:=Ht.put_pre S.tk hN2 hN3 pl
   have ld1:({ (t.put (Ht.sq t.mask (hkD X.w n d) N).j).1 with plain:=pl }:SetTable).led=t.led:=rfl
   have mk1:({ (t.put (Ht.sq t.mask (hkD X.w n d) N).j).1 with plain:=pl }:SetTable).mask=t.mask:=rfl
   generalize ({ (t.put (Ht.sq t.mask (hkD X.w n d) N).j).1 with plain:=pl }:SetTable)=t1 at T1 ld1 mk1
   generalize (t.put (Ht.sq t.mask (hkD X.w n d) N).j).2=p at pb T1
   rw[AA6,AAO]at pb
   have e1:(ADj es p (hkD X.w n d,ABf ra)).toList=es.toList.take p++(hkD X.w n d,ABf ra)::es.toList.drop p:=SetTable.toList_insertAt ..
   generalize ADj es p (hkD X.w n d,ABf ra)=es1 at e1
   have hs1:es1.toList.map (·.1)=(es.toList.map (·.1)).take p++hkD X.w n d::(es.toList.map (·.1)).drop p:=by rw[e1,AB8,AAe,List.map_take,List.map_drop]
   rw[<-hs1]at T1
   have sz1:es1.size=es.size+1:=by
    have:=congrArg ABk e1
    rw[AAO,AAE,AAL,AAx,ABb,AAO]at this
    lia
   have en1:Paired (Ent X ρ H n) (ds.take p++d::ds.drop p) es1.toList:=by
    rw[e1]
    exact Paired.ins ⟨⟨v,r,rv⟩,rfl,kd,it⟩ p S.en
   have pm:(ds.take p++d::ds.drop p).Perm (d::ds):=by
    refine List.perm_middle.trans (AEH d ?_)
    rw[List.take_append_drop]
   have nd1:(ds.take p++d::ds.drop p).Nodup:=pm.nodup_iff.mpr (ABs.mpr ⟨hd,S.nd⟩)
   have fit1:t1.fits es1.size=true:=by
    have l1:=T1.len
    rw[AA6,AAO]at l1
    have h3:t1.fill=t1.place.size:=by unfold AER;rw[T1.nod];rfl
    have fw:=S.tk.few
    unfold ADY
    rw[h3]
    simp only[AAS,beq_iff_eq,decide_eq_true_eq]
    rw[len]at fw
    rcases S.tk.msk with e | e | e<;>rw[mk1,e]<;>rw[e]at fw<;>lia
   have zz:es1.size<=sizeLine:=by rw[ABj];lia
   refine AA0 (wpAny_storeSet_of (s:={ s with toks:=tk }) S.ob S.dt ?_ zz)
   have ob1:(s.heap.update a (AEO es1 t1)).get? a=some { o with data:=.set es1 (ep+1) t1 }:=by
    have q:=AAc (AEO es1 t1) S.ob (by rw[putSet_of es1 t1 S.dt];rfl)
    rwa [putSet_of es1 t1 S.dt]at q
   have oth:∀c u,c≠a->s.heap.get? c=some u->(s.heap.update a (AEO es1 t1)).get? c=some u:=λc u hc e=>(ABg _ _ (ABO hc)).trans e
   by_cases tf:t1.tooFull=true
   ·rw[tf]
    simp only[Bool.not_false,Bool.and_self,if_true]
    have hbd:((es1.toList.map (·.1)).length-1)*5<t1.mask*3:=by
     have fw:=S.tk.few
     rw[len]at fw
     rw[AA6,AAO,sz1,mk1]
     simpa using fw
    obtain⟨zl,t2,ord,g1,g2,T2,ld2⟩:=T1.anew tf hbd (by rw[AA6,AAO];lia)
    rw[AA6,AAO]at g2 zl
    have eg:ACe (es.size+1)=ACe (es1.toList.map (·.1)).length:=by rw[AA6,AAO,sz1]
    unfold setRelay
    refine AA0 (AA0 (AB7 (s:={ s with heap:=_,toks:=tk }) ob1 rfl fit1 ?_))
    dsimp only
    rw[eg]
    have nz:¬AED (ACe (es1.toList.map (·.1)).length) > sizeLine:=by
     rw[AA6,AAO];lia
    simp only[nz,if_false]
    have ea:es1.map (·.1)=(es1.toList.map (·.1)).toArray:=by apply Array.ext';simp
    rw[ea,g1]
    have es2:(ord.filterMap (es1[·]?)).toList=ord.toList.filterMap (es1.toList[·]?):=by
     rw[Array.toList_filterMap]
     congr 1
     funext i
     rw[AAQ]
    have sz2:(ord.filterMap (es1[·]?)).size=es1.size:=by
     have:=(kP (l:=es1.toList) (is:=ord.toList) (by rw[AAO];exact g2)).length_eq
     rw[<-es2,AAO,AAO]at this
     exact this
    refine AA0 (show wpAny (model X.prog X.w) A (if ((ord.filterMap (es1[·]?)).size != es1.size)=true then _ else pure (ord.filterMap (es1[·]?),t2)) _ _ _ from ?_)
    rw[if_neg (by rw[sz2];simp)]
    refine AA2 ?_
    generalize ord.filterMap (es1[·]?)=es2' at es2 sz2
    have pm2:(ord.toList.filterMap ((ds.take p++d::ds.drop p)[·]?)).Perm (ds.take p++d::ds.drop p):=kP (by
     have:(ds.take p++d::ds.drop p).length=es1.size:=by rw[pm.length_eq,AAL,dl,sz1]
     rw[this];exact g2)
    refine wpAny_storeSet_of (s:={ s with heap:=_,toks:=tk }) ob1 rfl ?_ (by rw[sz2];exact zz)
    have ob2:((s.heap.update a (AEO es1 t1)).update a (AEO es2' t2)).get? a=some { o with data:=.set es2' (ep+1+1) t2 }:=by
     have q:=AAc (AEO es2' t2) ob1 (by rw[putSet_of es2' t2 (es:=es1) (ep:=ep+1) (t:=t1) rfl];rfl)
     rwa [putSet_of es2' t2 (es:=es1) (ep:=ep+1) (t:=t1) rfl]at q
    refine AA2 (h _ _ tk (ord.toList.filterMap ((ds.take p++d::ds.drop p)[·]?)) (λc u hc e=>(ABg _ _ (ABO hc)).trans (oth c u hc e)) ⟨_,es2',_,t2,ob2,S.ex,rfl,?_,pm2.nodup_iff.mpr nd1,?_,ld2.trans (ld1.trans S.ld)⟩ (λx=>?_) ?_)
    ·rw[es2]
     refine Paired.pick _ en1 λi hi=>?_
     have:=g2.mem_iff.mp hi
     rw[AAs]at this
     rw[pm.length_eq,AAL,dl,<-sz1]
     exact this
    ·have e2:es2'.toList.map (·.1)=ord.toList.map λi=>(es1.toList.map (·.1)).getD i 0:=by
      rw[es2]
      have:∀(is:List Nat),(∀i∈is,i<es1.toList.length)->(is.filterMap (es1.toList[·]?)).map (·.1)=is.map λi=>(es1.toList.map (·.1)).getD i 0:=by
       intro is
       induction is with
       | nil=>intro _;rfl
       | cons i is ih =>
        intro hi
        have hl:=hi i AAG
        rw[ABS,AA5 hl,AAe,AAe,ih λj hj=>hi j (AA9 _ hj)]
        congr 1
        rw[AAR,AAT,AA5 hl]
        rfl
      refine this _ λi hi=>?_
      have:=g2.mem_iff.mp hi
      rw[AAs]at this
      rw[AAO];exact this
     rw[e2]
     exact T2
    ·rw[pm2.mem_iff,pm.mem_iff,AAM]
     exact⟨λz=>z.symm,λz=>z.symm⟩
    ·rw[pm2.length_eq,pm.length_eq];exact AA8 _
   ·rw[ABG.mpr tf]
    simp only[AEG,AAA,if_false]
    refine AA2 (h _ _ tk _ oth ⟨_,es1,_,t1,ob1,S.ex,rfl,en1,nd1,T1.ok (ABG.mpr tf),ld1.trans S.ld⟩ (λx=>?_) ?_)
    ·rw[pm.mem_iff,AAM]
     exact⟨λz=>z.symm,λz=>z.symm⟩
    ·rw[pm.length_eq];exact AA8 _
  refine ABX (λ_=>AA0 (hbv_D sm n 8 A _ d v _ _ _ hn I1 r rv kd λb=>?_)) λ_=>?_
  ·cases b with
   | true=>exact fin (t.put (Ht.sq t.mask (hkD X.w n d) N).j).1.plain
   | false=>exact fin false
  ·exact fin (t.put (Ht.sq t.mask (hkD X.w n d) N).j).1.plain
 ·have:=hN1
  rcases S.tk.msk with e | e | e<;>rw[e]at this<;>lia
end
section
variable{X:Cx}{pins:List (Addr×Obj)}{σ:St}{H:Hp}{ρ:List Addr}{M:Mem}{A:Around}{E:Value->Shared->Prop}{s:Shared}{n:Nat}
theorem KS.at(x:KS X ρ H h a n ds)(k:∀o,h.get? a=some o->h'.get? a=some o):KS X ρ H h' a n ds:=by
 obtain⟨o,es,ep,t,S⟩:=x
 exact⟨o,es,ep,t,k _ S.ob,S.ex,S.dt,S.en,S.nd,S.tk,S.ld⟩
theorem AB(sm:Sim X.K ρ M H)(I:Inv X pins σ H s)(hn:n<=8)(hu:A.units+n+2<cLine)(W:Walks X.prog X.w A.in1 J fp wr m P Sx)(S:Addr)(hSf:S∉fp)
  (hS0:s.heap.get? S=none) (hw0:∀b∈wr,s.heap.get? b=none) (val:Nat->D) (hval:∀i v,P i v->∃vv,Rep X.K ρ H (val i) vv/\aI vv v/\bL n (val i)=true/\eY (val i)=true) (hb:m<=63) :
  ∀(k i:Nat) (h:Heap) (tk:Nat) (ds:List D),m-i=k->i<=m->Sx i h->KS X ρ H h S n ds->(∀x,x∈ds↔∃j,j<i/\val j=x)->ds.length<=i->(∀b u,s.heap.get? b=some u->h.get? b=some u) ->
   (∀h' tk ds',(∀b u,s.heap.get? b=some u->h'.get? b=some u)->KS X ρ H h' S n ds'->(∀x,x∈ds'↔∃j,j<m/\val j=x)->ds'.length<=m->R (.ok (.ret .none)) { s with heap:=h',toks:=tk }) ->
   codeAny (model X.prog X.w) A (.builtin "set.update.loop" ⟨[.ref S,.ref J],[]⟩) R { s with heap:=h,toks:=tk }:=by
 have hSw:S∉wr:=λh=>hSf (W.sub _ h)
 intro k
 induction k with
 | zero =>
  intro i h tk ds hk hi hst hS hm hl hold hR
  obtain rfl:i=m:=by lia
  refine ABQ F.entry_set_update_loop ?_
  rw[ABa F.plain_set_update_loop _]
  refine(show wpAny (model X.prog X.w) A.in1 (pyNext (.ref J) >>= _) _ _ _ from AA0 (W.done _ _ _ hst λh' tk hk'=>?_))
  refine AA2 (hR h' tk ds (λb u e=>hk' b u (λz=>by rw[hw0 b z]at e;cases e) (hold b u e)) (hS.at λo e=>hk' S o hSw e) hm hl)
 | succ k ih =>
  intro i h tk ds hk hi hst hS hm hl hold hR
  refine ABQ F.entry_set_update_loop ?_
  rw[ABa F.plain_set_update_loop _]
  refine(show wpAny (model X.prog X.w) A.in1 (pyNext (.ref J) >>= _) _ _ _ from AA0 (W.item i _ _ _ (by lia) hst λv h' tk hP hst' hk'=>?_))
  obtain⟨vv,r,rv,kd,it⟩:=hval i v hP
  have old':∀b u,s.heap.get? b=some u->h'.get? b=some u:=λb u e=>hk' b u (λz=>by rw[hw0 b z]at e;cases e) (hold b u e)
  have I':Inv X pins σ H { s with heap:=h',toks:=tk }:=I.kept old'
  refine AA0 (AAd (add_D (s:={ s with heap:=h',toks:=tk }) sm I' hn (by show A.units+1+n+1<cLine;lia) (hS.at λo e=>hk' S o hSw e) (by lia) r rv kd it λb h2 tk2 ds2 k2 hS2 hm2 hl2=>?_))
  refine AA2 ⟨AD1 F.plain_set_update_loop _,ih (i+1) h2 tk2 ds2 (by lia) (by lia) (W.frame _ h' h2 hst' λb' hb' o e=>k2 b' o (λz=>hSf (z ▸ hb')) e) hS2 (λx=>?_) (by lia) (λb u e=>k2 b u (λz=>by rw[z,hS0]at e;cases e) (old' b u e)) hR⟩
  rw[hm2,hm]
  constructor
  ·rintro(⟨j,hj,e⟩ | rfl)
   ·exact⟨j,by lia,e⟩
   ·exact⟨i,by lia,rfl⟩
  ·rintro⟨j,hj,rfl⟩
   by_cases q:j=i
   ·subst q;exact .inr rfl
   ·exact .inl ⟨j,by lia,rfl⟩
theorem xU(e:h.get? a=some (aL X.w)):KS X ρ H h a n [] :=
 ⟨_,#[],0,_,e,⟨rfl,rfl,rfl⟩,rfl,.nil,ADC,⟨.inl rfl,rfl,rfl,ACv,λj hj=>by simp[SetTable.fresh]at hj,(by show 0*5<7*3;decide),λi h j hh=>by simp at hh⟩,rfl⟩
end
section
variable{X:Cx}{pins:List (Addr×Obj)}{σ:St}{H:Hp}{ρ:List Addr}{M:Mem}{A:Around}{E:Value->Shared->Prop}{s:Shared}{m:Nat}
theorem AT(sm:Sim X.K ρ M H)(I:Inv X pins σ H s)(hm8:m<=8)(hu:A.units+m+3<cLine){l:Addr}{T:String}{n:Nat}{P:Nat->Value->Prop}{G:Shared->Prop}(hh:A.handled=none)(K:TxSrc X.prog X.w s.heap l T n P)(val:Nat->D)(hval:∀i v,P i v->∃vv,Rep X.K ρ H (val i) vv/\aI vv v/\bL m (val i)=true/\eY (val i)=true)(hb:n<=63)
  (h:∀h' tk ds,(∀b o,s.heap.get? b=some o->h'.get? b=some o)->KS X ρ H h' s.heap.objs.size m ds->(∀x,x∈ds↔∃j,j<n/\val j=x)->ds.length<=n->G { s with heap:=h',toks:=tk }) :
  wpAny (model X.prog X.w) A (Builtin.«set.__init__» ⟨[.ref s.heap.objs.size,.ref l],[]⟩) (λfin s'=>fin=.done (.ret .none)/\G s') E { s with heap:=s.heap.push (aL X.w) }:=by
 have hS:(s.heap.push (aL X.w)).get? s.heap.objs.size=some (aL X.w):=AAB _ rfl
 have hT:ADy { s with heap:=s.heap.push (aL X.w) } (.ref s.heap.objs.size) "set":=⟨_,hS,rfl⟩
 obtain⟨ol,hol,hcl⟩:=K.obj
 have hol':(s.heap.push (aL X.w)).get? l=some ol:=AA4 _ hol
 have hTl:ADy { s with heap:=s.heap.push (aL X.w) } (.ref l) T:=⟨ol,hol',hcl⟩
 have ll:l<s.heap.objs.size:=AAF hol
 have sz:(s.heap.push (aL X.w)).objs.size=s.heap.objs.size+1:=ABN ..
 obtain⟨oI,St,hit,W,st⟩:=K.iter A.in1 { s with heap:=s.heap.push (aL X.w) } hh λo e=>AA4 _ e
 have ns:=K.ns
 have nf:=K.nf
 have nd:=K.nd
 unfold Builtin.«set.__init__» noKeywords Builtin.Frozenset.updateFrom
 generalize hPI:pyIter=PI
 wp_walk
 subst hPI
 refine wpAny_of_in1 (hit _ _ ?_)
 have hSf:s.heap.objs.size∉[(s.heap.push (aL X.w)).objs.size,l]:=by
  rw[sz]
  simp only[AAM,ADF,or_false,not_or]
  exact⟨AAK (AAy _),Nat.ne_of_gt ll⟩
 have hS0:s.heap.get? s.heap.objs.size=none:=by
  cases q:s.heap.get? s.heap.objs.size with
  | none=>rfl
  | some o=>exact absurd (AAF q) (AAf _)
 have hw0:∀b∈[(s.heap.push (aL X.w)).objs.size],s.heap.get? b=none:=λb hb'=>by
  rw[ABA.mp hb',sz]
  cases q:s.heap.get? (s.heap.objs.size+1) with
  | none=>rfl
  | some o=>exact absurd (AAF q) (ACw.mpr (AE1 _))
 refine AA0 (wpAny_runValue (AB (s:=s) sm I hm8 (by first | exact(show A.units+m+2<cLine by lia) | exact(show A.units+1+m+2<cLine by lia)) W s.heap.objs.size hSf hS0 hw0 val hval hb n 0 _ _ [] rfl (AAW _) st (xU (AA4 _ hS)) (λx=>by simp) (AA8 _) (λb u e=>AA4 _ (AA4 _ e)) λh' tk ks hk hks hm hl=>?_))
 exact AA2 (AA2 ⟨rfl,h h' tk ks hk hks hm hl⟩)
set_option maxHeartbeats 1000000 in
theorem BA(sm:Sim X.K ρ M H)(I:Inv X pins σ H s)(hm8:m<=8)(hu:A.units+m+20<cLine){l:Addr}{T:String}{n:Nat}{P:Nat->Value->Prop}{Q:Value->Shared->Prop}(hh:A.handled=none)(K:TxSrc X.prog X.w s.heap l T n P)(val:Nat->D)(hval:∀i v,P i v->∃vv,Rep X.K ρ H (val i) vv/\aI vv v/\bL m (val i)=true/\eY (val i)=true)(hb:n<=63)
  (h:∀h' tk ds,(∀b o,s.heap.get? b=some o->h'.get? b=some o)->KS X ρ H h' s.heap.objs.size m ds->(∀x,x∈ds↔∃j,j<n/\val j=x)->ds.length<=n->Q (.ref s.heap.objs.size) { s with heap:=h',toks:=tk }) :
  wpAny (model X.prog X.w) A (call (.type "set") [.ref l]) Q E s:=by
 have fm:=F.called_set.made
 have fs:=F.called_set.sub
 have fn:=F.called_set.notType
 have fc:=F.called_set.canCreate
 have ft:=F.typeCall_set_1 (.ref l)
 obtain⟨c,tl,fo⟩:=F.called_set.mro
 refine wpAny_call (codeAny_of_tree (show wpAny _ _ (callAny (.type "set") _) _ _ _ from AA2 ⟨Code.quiet_builtin _ (by decide +kernel),ABQ F.entry_type_call ?_⟩))
 rw[Around.under_plain (weight_type_call_type "set" [.ref l] []) rfl]
 repeat (any_goals (first | assumption | wp_step))
 refine ACT (qj (.ref l) (E:=E) (Q₁:=λobj s₁=>obj=.ref s.heap.objs.size/\s₁={ s with heap:=s.heap.push (aL X.w) }) ⟨rfl,rfl⟩) λr s₁ hr=>?_
 match r,hr with
 | .error e,hr=>exact hr
 | .ok (.ret obj),⟨e1,e2⟩ =>
  subst e1 e2
  have hS:(s.heap.push (aL X.w)).get? s.heap.objs.size=some (aL X.w):=AAB _ rfl
  have hT:ADy { s with heap:=s.heap.push (aL X.w) } (.ref s.heap.objs.size) "set":=⟨_,hS,rfl⟩
  have fl:=F.called_set.init.lookup
  have fb:=F.called_set.init.bind (.ref s.heap.objs.size)
  repeat (any_goals (first | assumption | wp_step))
  refine ACT (AD6 (R:=wants (λr s₂=>r=.none/\Q (.ref s.heap.objs.size) s₂) E) F.called_set.init.plain F.entry_set_init (check_set_init_1 hT ?_)) λr₂ s₂ hr₂=>?_
  ·refine AAp (AT (G:=λs2=>Q (.ref s.heap.objs.size) s2) sm I hm8 (by first | (show A.units+1+1+1+m+3<cLine;lia) | (show A.units+1+1+m+3<cLine;lia) | (show A.units+1+m+3<cLine;lia)) (by simp[hh]) K val hval hb h) (λfin s' ⟨e,g⟩=>?_) λ_ _ z=>z
   subst e
   exact⟨rfl,g⟩
  ·match r₂,hr₂ with
   | .error e,hr₂=>exact hr₂
   | .ok (.ret r),⟨e,q⟩ =>
    subst e
    repeat (any_goals (first | assumption | wp_step))
end
def SqAt(M:Mem)(d:D)(xs:List D):Prop:=(∃n,d=.ref n/\ao M n xs)\/d=.tup xs
theorem SrtOk.sub(h:SrtOk M xs)(s:∀y∈ys,y∈xs)(l:ys.length<64):SrtOk M ys:=by
 refine⟨l,λx hx=>h.ok x (s x hx),λx hx y hy=>h.cm x (s x hx) y (s y hy),?_⟩
 rcases h.kd with k | k | k | k | k
 ·exact .inl λx hx=>k x (s x hx)
 ·exact .inr (.inl λx hx=>k x (s x hx))
 ·exact .inr (.inr (.inl λx hx=>k x (s x hx)))
 ·exact .inr (.inr (.inr (.inl λx hx=>k x (s x hx))))
 ·exact .inr (.inr (.inr (.inr λx hx=>k x (s x hx))))
section
variable{X:Cx}{e:Expr}{te:DTE}{p p' pos pos':Pos}{k:Nat}
theorem Cm(I:Inv X pins σ H s)(sm:Sim X.K ρ M H)(r:Rep X.K ρ H d v)(rv:aI v u)(t:SqAt M d xs) :
  ∃(a:Addr) (T:String) (its:Array Value) (vs:List V),u=.ref a/\TxSrc X.prog X.w s.heap a T its.size (λi v=>its[i]?=some v)/\Reps X.K ρ H xs vs/\au vs its.toList:=by
 rcases t with⟨n,rfl,hL⟩ | rfl
 ·cases r with
  | @ref _ a ha =>
   cases rv
   obtain⟨vs,hs,rr⟩:=hL.seq sm ha
   obtain⟨its,r2,p,_⟩:=I.list hs
   exact⟨a,_,its.toArray,vs,rfl,TxSrc.list p.isList,rr,by simpa using r2⟩
 ·cases r with
  | @tup a vs _ hs rr =>
   cases rv
   obtain⟨its,r2,p,_⟩:=I.tuple hs
   exact⟨a,_,its.toArray,vs,rfl,TxSrc.tuple p,rr,by simpa using r2⟩
theorem oV:∀{ds:List D}{vs:List V}{its:List Value}{i:Nat}{u:Value}{ρ:List Addr}{H:Hp},Reps X.K ρ H ds vs->au vs its->its[i]?=some u->∃d v,ds[i]?=some d/\Rep X.K ρ H d v/\aI v u
 | _,_,_,i,u,_,_,.nil,h,e=>by cases h;simp at e
 | _,_,_,0,u,_,_,.cons r _,h,e=>by
  cases h with
  | cons a _=>simp at e;subst e;exact⟨_,_,rfl,r,a⟩
 | _,_,_,i+1,u,_,_,.cons _ t,h,e=>by
  cases h with
  | cons _ b =>
   obtain⟨d,v,e1,r,rv⟩:=oV (i:=i) t b (by simpa using e)
   exact⟨d,v,by simpa using e1,r,rv⟩
theorem ents:∀{ds:List D}{es:List (Int×Value)},Paired (Ent X ρ H n) ds es->∃vs,Reps X.K ρ H ds vs/\au vs (es.map (·.2))
 | _,_,.nil=>⟨[],.nil,.nil⟩
 | _,_,.cons ⟨⟨v,r,rv⟩,_⟩ t=>by
  obtain⟨vs,a,b⟩:=ents t
  exact⟨v::vs,.cons r a,.cons rv b⟩
theorem uV(p:us'.Perm us):∀{ds:List D}{vs:List V},Reps X.K ρ H ds vs->au vs us->∃ds' vs',ds'.Perm ds/\Reps X.K ρ H ds' vs'/\au vs' us':=by
 induction p with
 | nil=>intro ds vs r h;exact⟨ds,vs,.refl _,r,h⟩
 | cons x _ ih =>
  intro ds vs r h
  cases h with
  | cons a b =>
   cases r with
   | cons c d =>
    obtain⟨ds',vs',h1,h2,h3⟩:=ih d b
    exact⟨_,_,h1.cons _,.cons c h2,.cons a h3⟩
 | swap x y l =>
  intro ds vs r h
  cases h with
  | cons a b =>
   cases b with
   | cons a2 b2 =>
    cases r with
    | cons c d =>
     cases d with
     | cons c2 d2=>exact⟨_,_,.swap _ _ _,.cons c2 (.cons c d2),.cons a2 (.cons a b2)⟩
 | trans _ _ ih1 ih2 =>
  intro ds vs r h
  obtain⟨ds',vs',h1,h2,h3⟩:=ih2 r h
  obtain⟨ds2,vs2,g1,g2,g3⟩:=ih1 h2 h3
  exact⟨ds2,vs2,g1.trans h1,g2,g3⟩
end
def gs(te:DTE):DTE:=λS M Q=>te S M λd M1=>∃n xs,n<=8/\SqAt M1 d xs/\xs.length<64/\(∀x∈xs,bL n x=true/\eY x=true)/\SrtOk M1 xs/\∀ys:List D,ys.Nodup->(∀x,x∈ys↔x∈xs)->BR M1 ys->Q (.ref M1.length) (M1++[.lst ys])
section
variable{X:Cx}{e:Expr}{te:DTE}{p p' pos pos':Pos}{k:Nat}
set_option maxHeartbeats 1000000 in
theorem tF(hr:Room k X.A)(hc:X.calm=true)(he:DE X e te)(hm1:X.mg "sorted" = none)(hm2:X.mg "set" = none)(hg1:X.env.kindOf "sorted" = some .globalImplicit)(hg2:X.env.kindOf "set" = some .globalImplicit)
  (h1:starEach [e] X.env=[(false,eval e X.env)]) (h2:starEach [AE9 (.Name "set" p') [e] [] pos'] X.env=[(false,eval (AE9 (.Name "set" p') [e] [] pos') X.env)]) :
  DE X (.Call (.Name "sorted" p) [.Call (.Name "set" p') [e] [] pos'] [] pos) (gs te):=by
 rintro pins s σ H R I ⟨S,M,ρ,Q,sm,sr,q,kk⟩
 refine ABW (gi I hg1 hm1 (by rfl) ?_)
 refine callWith_builtin1 ?_ (by rw[h2];rfl) rfl
 rw[h2]
 refine ADQ ?_
 refine ABW (gi I hg2 hm2 (by rfl) ?_)
 refine callWith_type1 ?_ (by rw[h1];rfl) rfl
 rw[h1]
 refine ADQ (thn (he pins s σ H _ I ⟨S,M,ρ,_,sm,sr,q,λv H' z=>z⟩) ?_)
 rintro u s1 ⟨v,H1,I1,rv,d,M1,ρ1,sm1,g1,r1,cases⟩
 refine ADf ?_
 obtain⟨n,xs,n8,sq,hl,hk,so,fin⟩:=cases
 obtain⟨a,T,its,ws,rfl,src,rps,vx⟩:=Cm I1 sm1 r1 rv sq
 have li:its.size=xs.length:=by have h1:=vx.length;have h2:=rps.length;simp at h1;lia
 have un:=hr.un
 refine BA sm1 I1 n8 (by lia) (I1.ok.hd hc) src (λi=>xs.getD i .non) (λi v e=>?_) (by lia) λh2 tk2 ds k2 kset hks hle=>?_
 ·obtain⟨d,vv,e1,r,rv⟩:=oV rps vx (by rw[AAQ];exact e)
  have ed:xs.getD i .non=d:=by rw[AAR,e1];rfl
  have:=hk d (AAo e1)
  exact⟨vv,by rw[ed];exact r,rv,by rw[ed];exact this.1,by rw[ed];exact this.2⟩
 refine ADf ?_
 have I2:=I1.kept (t':=tk2) k2
 obtain⟨o,es,ep,t,KSt⟩:=kset
 have lds:ds.length=es.size:=by have:=KSt.en.length;simpa using this
 have hz:es.size<=sizeLine:=by rw[ABj];lia
 refine sA (s:={ s1 with heap:=h2,toks:=tk2 }) (I2.ok.hd hc) ⟨KSt.ob,KSt.dt,KSt.fits⟩ KSt.ex.1 (λz=>.inr KSt.tk.ris) KSt.ld hz λh3 tk3 dr D vs k3 hD hD3 pv=>?_
 have hmem:∀x,x∈ds↔x∈xs:=λx=>by
  rw[hks x,li]
  constructor
  ·rintro⟨j,hj,rfl⟩
   have e:xs.getD j .non=xs[j]:=by simp[AEM,hj]
   rw[e]
   exact AB4 hj
  ·intro hx
   obtain⟨j,hj,e⟩:=List.getElem_of_mem hx
   exact⟨j,hj,by rw[show xs.getD j .non=xs[j] by simp[AEM,hj]];exact e⟩
 obtain⟨ws0,rp0,va0⟩:=ents KSt.en
 obtain⟨ds',ws',pd,rp1,va1⟩:=uV pv rp0 va0
 obtain⟨m,hn,_⟩:=I2.loc
 have hDL:D≠X.env.locals:=λz=>by
  obtain⟨oL,_,_,hL,_⟩:=hn
  rw[z]at hD
  rw[hD]at hL;cases hL
 have hn3:h3.Ns X.env.locals m:=hn.at' λo e=>k3 _ _ e
 refine zA (X:=X) (pins:=pins) (σ:=σ) (s:={ s1 with heap:=h2,toks:=tk2,drawn:=dr }) (n:=0) hr (by show X.A.units+1<=X.A.units+4;lia) I2.drew sm1 (so.sub (ys:=ds') (λy hy=>(hmem y).mp (pd.mem_iff.mp hy)) (by rw[pd.length_eq];lia)).g rp1 va1 hn hn3 (λb u _ e=>k3 b u e) hD hDL hD3 λv H' x=>?_
 refine kk v H' ?_
 have:=x (λd M'=>Q d M') λys hp hri=>?_
 ·obtain⟨d,M',ρ',a1,a2,a3,a4⟩:=this
  exact⟨d,M',ρ',a1,g1.trans a2,a3,a4⟩
 ·exact fin ys ((hp.trans pd).nodup_iff.mpr KSt.nd) (λx=>((hp.trans pd).mem_iff).trans (hmem x)) hri
theorem sW(hr:Room k X.A)(he:HE X e te)(hm1:X.mg "sorted" = none)(hm2:X.mg "set" = none)(hc:X.calm=true:=by kernel_rfl)(hg1:X.env.kindOf "sorted" = some .globalImplicit:=by kernel_rfl)(hg2:X.env.kindOf "set" = some .globalImplicit:=by kernel_rfl)
  (h1:starEach [e] X.env=[(false,eval e X.env)]:=by kernel_rfl) (h2:starEach [AE9 (.Name "set" p') [e] [] pos'] X.env=[(false,eval (AE9 (.Name "set" p') [e] [] pos') X.env)]:=by kernel_rfl) :
  HE X (.Call (.Name "sorted" p) [.Call (.Name "set" p') [e] [] pos'] [] pos) (gs te):=⟨tF hr hc he.ok hm1 hm2 hg1 hg2 h1 h2⟩
end
def dW(h:Heap):Nat->D->Value->Prop
 | _,.str x,v=>∃t,v=.str x t
 | _,.int i,v=>∃t,v=.int i t
 | n+1,.tup ds,v=>∃a its,v=.ref a/\h.IsTuple a its/\Paired (dW h n) ds its.toList
 | _,_,_=>False
noncomputable def drD:Nat->D->Nat
 | n+1,.tup ds=>(ds.map (drD n)).sum+1
 | _,_=>1
theorem gj:∀(n:Nat) (d:D) (v:Value),dW h n d v->bL n d=true:=by
 intro n
 induction n with
 | zero=>intro d v k;cases d<;>first | rfl | exact k.elim
 | succ n ih =>
  intro d v k
  cases d with
  | str x=>rfl
  | int x=>rfl
  | tup ds =>
   obtain⟨a,its,_,_,p⟩:=k
   show ds.all (bL n)=true
   generalize its.toList=l at p
   induction p with
   | nil=>rfl
   | cons r _ i2=>rw[ABK,ih _ _ r,i2];rfl
  | _=>exact k.elim
theorem pZ{h:Heap}{a:Addr}{xs ys:Array Value}(h1:h.IsTuple a xs)(h2:h.IsTuple a ys):xs=ys:=by
 obtain⟨o,e1,_,n,d1⟩:=h1
 obtain⟨o',e2,_,n',d2⟩:=h2
 obtain rfl:o=o':=AAN (e1.symm.trans e2)
 rw[d1]at d2
 injection d2
theorem nW{h:Heap}:∀(n:Nat) (x y:D) (v:Value),dW h n x v->dW h n y v->x=y:=by
 intro n
 induction n with
 | zero =>
  intro x y v k1 k2
  cases x with
  | str a =>
   obtain⟨t,rfl⟩:=k1
   cases y with
   | str b=>obtain⟨t',e⟩:=k2;injection e with e;rw[e]
   | int b=>obtain⟨t',e⟩:=k2;cases e
   | _=>exact k2.elim
  | int a =>
   obtain⟨t,rfl⟩:=k1
   cases y with
   | str b=>obtain⟨t',e⟩:=k2;cases e
   | int b=>obtain⟨t',e⟩:=k2;injection e with e;rw[e]
   | _=>exact k2.elim
  | _=>exact k1.elim
 | succ n ih =>
  intro x y v k1 k2
  cases x with
  | str a =>
   obtain⟨t,rfl⟩:=k1
   cases y with
   | str b=>obtain⟨t',e⟩:=k2;injection e with e;rw[e]
   | int b=>obtain⟨t',e⟩:=k2;cases e
   | tup b=>obtain⟨_,_,e,_⟩:=k2;cases e
   | _=>exact k2.elim
  | int a =>
   obtain⟨t,rfl⟩:=k1
   cases y with
   | str b=>obtain⟨t',e⟩:=k2;cases e
   | int b=>obtain⟨t',e⟩:=k2;injection e with e;rw[e]
   | tup b=>obtain⟨_,_,e,_⟩:=k2;cases e
   | _=>exact k2.elim
  | tup xs =>
   obtain⟨a,its,rfl,t1,p1⟩:=k1
   cases y with
   | str b=>obtain⟨t',e⟩:=k2;cases e
   | int b=>obtain⟨t',e⟩:=k2;cases e
   | tup ys =>
    obtain⟨_,its',e,t2,p2⟩:=k2
    cases e
    obtain rfl:=pZ t1 t2
    congr 1
    generalize its.toList=l at p1 p2
    induction p1 generalizing ys with
    | nil=>cases p2;rfl
    | cons r _ i2=>cases p2 with
     | cons r' t'=>rw[ih _ _ _ r r',i2 _ t']
   | _=>exact k2.elim
  | _=>exact k1.elim
theorem sU(k:∀a its,h.IsTuple a its->h'.IsTuple a its):∀(n:Nat) (d:D) (v:Value),dW h n d v->dW h' n d v:=by
 intro n
 induction n with
 | zero=>intro d v q;cases d<;>first | exact q | exact q.elim
 | succ n ih =>
  intro d v q
  cases d with
  | str x=>exact q
  | int x=>exact q
  | tup ds =>
   obtain⟨a,its,e,t,p⟩:=q
   exact⟨a,its,e,k _ _ t,Paired.mapP p λx y r=>ih x y r⟩
  | _=>exact q.elim
theorem pX{es ep}(q:dW h n k v)(ho:h.get? d=some o)(hd:o.data=.dict es ep)(hs:AC4 d h h'):dW h' n k v:=by
 refine sU (λa its ⟨o',e,c,m,t⟩=>?_) n k v q
 have hne:a≠d:=by
  rintro rfl
  obtain rfl:o'=o:=AAN (e.symm.trans ho)
  rw[hd]at t;cases t
 exact⟨o',(hs.2 a hne).trans e,c,m,t⟩
section
variable{prog:Program}{w:World}
theorem sV:∀(n:Nat) (A:Around) (s:Shared) (d:D) (u:Value) (E:Value->Shared->Prop) (Q:Int->Shared->Prop),A.units+n<cLine->dW s.heap n d u ->
  Q (hkD w n d) { s with toks:=s.toks+drD n d }->wpAny (model prog w) A (pyHash u) Q E s:=by
 intro n
 induction n with
 | zero =>
  intro A s d u E Q hu k h
  cases d with
  | str x=>obtain⟨t,rfl⟩:=k;exact ADE h
  | int x=>obtain⟨t,rfl⟩:=k;exact ADD h
  | _=>exact k.elim
 | succ n ih =>
  intro A s d u E Q hu k h
  cases d with
  | str x=>obtain⟨t,rfl⟩:=k;exact ADE h
  | int x=>obtain⟨t,rfl⟩:=k;exact ADD h
  | tup ds =>
   obtain⟨a,its,rfl,⟨o,ho,hc,nn,hd⟩,p⟩:=k
   have hT:s.TypeIs (.ref a) "tuple":=⟨o,ho,hc⟩
   unfold pyHash
   first | unfold pyHashByItsType | skip
   first | refine AA0 (wpAny_cRoomFor_or (.inr (by lia)) ?_) | skip
   refine AA0 (ABu hT F.slot_tuple_hash.lookup ?_)
   refine(show wpAny (model prog w) _ (if (some (ADZ "tuple.__hash__")==some ABi)=true then _ else _) Q E s from ?_)
   rw[if_neg (by rw[beq_builtin_none];exact ABJ)]
   refine AA0 (ABu hT F.slot_tuple_hash.lookup ?_)
   refine(show wpAny (model prog w) _ (callSpecialIfBoundUnlessNone? (.ref a) "__hash__" _ >>= _) Q E s from AA0 (ACk hT F.slot_tuple_hash (AAj F.slot_tuple_hash hT F.entry_tuple_hash ?_ (F.args_tuple_hash_1 _))))
   refine(show wpAny (model prog w) _ (ACA (.ref a) >>= _) _ _ s from AA0 (wpAny_tupleItemsOf ho hd (AA0 ?_)))
   rw[<-ABY]
   refine AC0 _ (λaE (b:Array Int) s'=>∃done left,ds=done++left/\Paired (dW s.heap n) left aE/\b.toList=done.map (hkD w n)/\s'={ s with toks:=s.toks+(done.map (drD n)).sum }) _ ?_ ?_ _ _ ⟨[],ds,rfl,p,rfl,rfl⟩
   ·rintro x aE b s' ⟨done,left,e,h1,hb,rfl⟩
    cases h1 with
    | @cons d0 _ left' _ r0 t0 =>
     refine AA0 (ih _ _ d0 x _ _ (by show A.units+1+n<cLine;lia) r0 ?_)
     first
      | exact AA2 ⟨done++[d0],left',by rw[e];simp,t0,by simp[hb],by simp[Nat.add_assoc]⟩
      | exact AA0 (AA2 (AA2 ⟨done++[d0],left',by rw[e];simp,t0,by simp[hb],by simp[Nat.add_assoc]⟩))
   ·rintro b s' ⟨done,left,e,h1,hb,rfl⟩
    cases h1
    rw[ABE]at e
    subst e
    refine(show wpAny (model prog w) _ (retInt (ABF b.toList)) _ _ _ from ?_)
    rw[hb]
    refine wpAny_ret_mkInt ?_
    have key:hkD w (n+1) (.tup ds)=reduceHash (ABF (ds.map (hkD w n))):=rfl
    have h':Q (hkD w (n+1) (.tup ds)) { s with toks:=s.toks+(ds.map (drD n)).sum+1 }:=h
    generalize ABF (ds.map (hkD w n))=z at key
    refine(show wpAny (model prog w) _ (if (decide (-(2:Int) ^ 63<=z)&&decide (z<2 ^ 63))=true then _ else _) Q E _ from ?_)
    unfold reduceHash at key
    by_cases hr:(decide (-(2:Int) ^ 63<=z)&&decide (z<2 ^ 63))=true
    ·rw[if_pos hr]at key ⊢
     exact AA2 (by rw[<-key];exact h')
    ·rw[if_neg hr]at key ⊢
     exact AA0 (ACx (AA2 (by rw[<-key];exact h')))
  | _=>exact k.elim
theorem pW:∀(n k:Nat) (A:Around) (s:Shared) (d:D) (u:Value) (E:Value->Shared->Prop) (Q:Bool->Shared->Prop),n<=k->dW s.heap n d u->Q true s->wpAny (model prog w) A (eqIsQuiet k u) Q E s:=by
 intro n
 induction n with
 | zero =>
  intro k A s d u E Q hk q h
  cases d with
  | str x=>obtain⟨t,rfl⟩:=q;rw[ABn k (v:=.str x t) rfl];exact AA2 h
  | int x=>obtain⟨t,rfl⟩:=q;rw[ABn k (v:=.int x t) rfl];exact AA2 h
  | _=>exact q.elim
 | succ n ih =>
  intro k A s d u E Q hk q h
  cases d with
  | str x=>obtain⟨t,rfl⟩:=q;rw[ABn k (v:=.str x t) rfl];exact AA2 h
  | int x=>obtain⟨t,rfl⟩:=q;rw[ABn k (v:=.int x t) rfl];exact AA2 h
  | tup ds =>
   obtain⟨a,its,rfl,⟨o,ho,hc,nn,hd⟩,p⟩:=q
   obtain⟨k,rfl⟩:∃k',k=k'+1:=⟨k-1,by lia⟩
   have hT:s.TypeIs (.ref a) "tuple":=⟨o,ho,hc⟩
   unfold eqIsQuiet
   refine AA0 (ABu hT F.slot_tuple_eq.lookup ?_)
   refine(show wpAny (model prog w) A (isInstance (.ref a) (.type "tuple") >>= _) _ _ s from AA0 (ACG hT isSubtype_tuple_tuple ?_))
   simp only[AC3,AAA,if_false]
   refine AA0 (ACd ho hd ?_)
   simp only[Option.getD_some]
   refine AA0 ?_
   refine(show wpAny (model prog w) A (forIn its _ _) _ _ s from ?_)
   rw[<-ABY]
   refine AC0 _ (λaE r s'=>r.1=none/\s'=s/\∃left,Paired (dW s.heap n) left aE) _ ?_ ?_ _ _ ⟨rfl,rfl,ds,p⟩
   ·rintro x aE r s' ⟨hr,rfl,left,h1⟩
    cases h1 with
    | cons r0 t0 =>
     refine AA0 (ih k _ _ _ x _ _ (by lia) r0 ?_)
     simp only[AC3,AAA,if_false]
     exact AA2 ⟨rfl,rfl,_,t0⟩
   ·rintro⟨r1,r2⟩ s' ⟨hr,rfl,_⟩
    simp only at hr
    subst hr
    exact AA2 h
  | _=>exact q.elim
theorem ii{h:Heap}{n:Nat}{ds:List D}{its:Array Value}(p:Paired (dW h n) ds its.toList):ds.length=its.size:=by
 rw[<-AAO]
 generalize its.toList=l at p
 induction p with
 | nil=>rfl
 | cons _ _ ih=>rw[AAL,AAL,ih]
theorem ya:∀(n:Nat) (A:Around) (s:Shared) (x y:D) (u v:Value),A.units+n<cLine->dW s.heap n x u->dW s.heap n y v->ACC A s u v (eqD [] n x y):=by
 intro n
 induction n with
 | zero =>
  intro A s x y u v hu k1 k2
  cases x with
  | str a =>
   obtain⟨t,rfl⟩:=k1
   cases y with
   | str b=>obtain⟨t',rfl⟩:=k2;exact ADU _ _ _ _
   | int b=>obtain⟨t',rfl⟩:=k2;exact ACj _ _ _ _
   | _=>exact k2.elim
  | int a =>
   obtain⟨t,rfl⟩:=k1
   cases y with
   | str b=>obtain⟨t',rfl⟩:=k2;exact ACi _ _ _ _
   | int b=>obtain⟨t',rfl⟩:=k2;exact ADT _ _ _ _
   | _=>exact k2.elim
  | _=>exact k1.elim
 | succ n ih =>
  intro A s x y u v hu k1 k2
  have hu0:A.units<cLine:=by lia
  have hu1:A.in1.units+n<cLine:=by show A.units+1+n<cLine;lia
  cases x with
  | str a =>
   obtain⟨t,rfl⟩:=k1
   cases y with
   | str b=>obtain⟨t',rfl⟩:=k2;exact ADU _ _ _ _
   | int b=>obtain⟨t',rfl⟩:=k2;exact ACj _ _ _ _
   | tup b=>obtain⟨_,_,rfl,pl,_⟩:=k2;exact SeqAt.EqAt.str_tuple _ _ pl hu0
   | _=>exact k2.elim
  | int a =>
   obtain⟨t,rfl⟩:=k1
   cases y with
   | str b=>obtain⟨t',rfl⟩:=k2;exact ACi _ _ _ _
   | int b=>obtain⟨t',rfl⟩:=k2;exact ADT _ _ _ _
   | tup b=>obtain⟨_,_,rfl,pl,_⟩:=k2;exact SeqAt.EqAt.int_tuple _ _ pl hu0
   | _=>exact k2.elim
  | tup xs =>
   obtain⟨a,its,rfl,pl,p1⟩:=id k1
   cases y with
   | str b=>obtain⟨t',rfl⟩:=k2;exact SeqAt.EqAt.tuple_str _ _ pl hu0
   | int b=>obtain⟨t',rfl⟩:=k2;exact SeqAt.EqAt.tuple_int _ _ pl hu0
   | tup ys =>
    obtain⟨b,jts,rfl,pl',p2⟩:=id k2
    by_cases hab:a=b
    ·subst hab
     have e:=nW (n+1) _ _ _ k1 k2
     rw[e,(gR (M:=[]) (n+1) _ _ (gj _ _ _ k2) (gj _ _ _ k2)).mpr rfl]
     exact AE4 _
    ·have ll:=ii p1
     have ll':=ii p2
     have items:∀(j:Nat) (h1:j<its.size) (h2:j<jts.size),ACC A.in1 s its[j] jts[j] (eqD [] n (xs.getD j .non) (ys.getD j .non)):=λj h1 h2=>by
      obtain⟨x0,e1,r1⟩:=cD p1 (i:=j) (y:=its[j]) (by rw[AAQ];exact AAH h1)
      obtain⟨y0,e2,r2⟩:=cD p2 (i:=j) (y:=jts[j]) (by rw[AAQ];exact AAH h2)
      have z1:xs.getD j .non=x0:=by rw[AAR,e1];rfl
      have z2:ys.getD j .non=y0:=by rw[AAR,e2];rfl
      rw[z1,z2]
      exact ih A.in1 s x0 y0 _ _ hu1 r1 r2
     have key:((AAn (min its.size jts.size)).all (λj=>eqD [] n (xs.getD j .non) (ys.getD j .non))&&its.size==jts.size)=eqL (eqD [] n) xs ys:=by
      by_cases hl:xs.length=ys.length
      ·have rng:(AAn xs.length).all (λj=>eqD [] n (xs.getD j .non) (ys.getD j .non))=eqL (eqD [] n) xs ys:=jF hl λj x y h1 h2=>by simp[AEM,h1,h2]
       rw[<-ll,<-ll',<-hl,Nat.min_self,rng]
       simp
      ·rw[wv hl,<-ll,<-ll']
       simp[hl]
     have h1:=SeqAt.RcAt.tuples pl pl' hu0 items
     rw[key]at h1
     exact SeqAt.EqAt.of_refs hab h1
   | _=>exact k2.elim
  | _=>exact k1.elim
end
noncomputable instance decD:DecidableEq D:=λa b=>ABP (a=b)
noncomputable def bx(prog:Program)(w:World):HeapKind prog w D where
 is:=λh d a=>dW h 8 d (.ref a)
 hash:=hkD w 8
 draws:=drD 8
 room:=λA=>A.units+8<cLine
 inj:=λx y=>nW 8 _ _ _ x y
 keeps:=λx ho hd hs=>pX x ho hd hs
 pyHash:=λhu k h=>sV 8 _ _ _ _ _ _ hu k h
 eqBool:=λ{A E s x y a b Q} hu k1 k2 h=>by
  refine ya 8 A s x y _ _ hu k1 k2 _ _ _ _ ?_
  have e:eqD [] 8 x y=decide (x=y):=by
   rw[Bool.eq_iff_iff,gR 8 x y (gj _ _ _ k1) (gj _ _ _ k2),decide_eq_true_eq]
  rw[e]
  exact h
 quiet:=λk h=>pW 8 8 _ _ _ _ _ _ (AA8 _) k h
noncomputable def aQ(kvs:List (D×D))(k:D):Option D:=(kvs.find? λp=>decide (p.1=k)).map (·.2)
noncomputable def eV(kvs:List (D×D))(k d:D):List (D×D):=if (aQ kvs k).isSome then kvs.map (λp=>if p.1=k then(p.1,d)else p)else kvs++[(k,d)]
section
variable{K:AA3}{ρ:List Addr}{H:Hp}{M:Mem}{kvs:List (D×D)}{xs:List (D×Addr×Value)}
theorem nU(r:Paired (rX K ρ H) kvs xs)(k:D):(aQ kvs k=none/\atKey xs k=none)\/∃d p v,aQ kvs k=some d/\atKey xs k=some p/\Rep K ρ H d v/\aI v p.2:=by
 unfold aQ atKey
 induction r with
 | nil=>exact .inl ⟨rfl,rfl⟩
 | @cons p q ps qs h t ih =>
  obtain⟨h1,_,_,v,h4,h5⟩:=h
  rw[ACq,ACq]
  by_cases e:p.1=k
  ·rw[dT_ e,dT_ (h1.symm.trans e)]
   exact .inr ⟨_,_,v,rfl,rfl,h4,h5⟩
  ·rw[dF_ e,dF_ (λz=>e (h1.trans z))]
   exact ih
theorem yY(r:Paired (rX K ρ H) kvs xs)(kd:bL 8 k=true)(rk:Rep K ρ H k (.ref b))(rd:Rep K ρ H d v)(rv:aI v u):Paired (rX K ρ H) (eV kvs k d) (storedH xs k b u):=by
 unfold eV storedH
 have is:(aQ kvs k).isSome=(atKey xs k).isSome:=by
  rcases nU r k with⟨e1,e2⟩|⟨_,_,_,e1,e2,_⟩<;>rw[e1,e2]<;>rfl
 rw[is]
 by_cases q:(atKey xs k).isSome=true
 ·rw[if_pos q,if_pos q]
  clear is q
  induction r with
  | nil=>exact .nil
  | @cons p q ps qs h t ih =>
   rw[AAe,AAe]
   refine .cons ?_ ih
   obtain⟨h1,h2,h3,w,h4,h5⟩:=h
   by_cases e:p.1=k
   ·rw[if_pos e,putAt,if_pos (h1.symm.trans e)]
    exact⟨h1,h2,h3,v,rd,rv⟩
   ·rw[if_neg e,putAt,if_neg (λz=>e (h1.trans z))]
    exact⟨h1,h2,h3,w,h4,h5⟩
 ·rw[if_neg q,if_neg q]
  clear is q
  induction r with
  | nil=>exact .cons ⟨rfl,kd,rk,v,rd,rv⟩ .nil
  | cons h t ih=>exact .cons h ih
theorem fu(r:Paired (rX K ρ H) kvs xs):xs.map (·.1)=kvs.map (·.1):=by
 induction r with
 | nil=>rfl
 | cons h t ih=>rw[AAe,AAe,ih,h.1]
theorem qZ:(eV kvs k d).length<=kvs.length+1:=by
 unfold eV
 split
 ·rw[AA6];lia
 ·rw[AAE];exact AA8 _
theorem SqT.writtenX{a p:Addr}{xs:List V}{φ:Program->World->Heap->Prop}{o:HO}(hp:H p=some (.ext φ))(h:SqT K H a xs):SqT K (upd H p o) a xs:=by
 rcases h with h | h
 ·rcases h with h | ⟨ob,h⟩
  ·exact .inl (.inl (by rw[ae (xI h hp (by intro z;cases z))];exact h))
  ·exact .inl (.inr ⟨ob,by rw[ae (xI h hp (by intro z;cases z))];exact h⟩)
 ·exact .inr h
theorem Sim.writeT(S:Sim K ρ M H)(e1:ρ[n]?=some a)(hM:M[n]?=some (.dkt kvs))(hH:H a=some (.ext (dX a xs)))(hl:kvs'.length<=sizeLine)(hs:(a==sysModules)=false)(nd:(kvs'.map (·.1)).Nodup)(r:Paired (rX K ρ H) kvs' xs') :
  Sim K ρ (M.set n (.dkt kvs')) (upd H a (.ext (dX a xs')))/\Grow K ρ H ρ (upd H a (.ext (dX a xs'))):=by
 have g:Grow K ρ H ρ (upd H a (.ext (dX a xs'))):=⟨ACO,λ_ _ h=>SqT.writtenX hH h⟩
 have hk:∀m,m≠n->(M.set n (.dkt kvs'))[m]?=M[m]?:=λm hm=>AAb (ABO hm)
 have notK:¬isK M[n]?:=λ⟨_,z⟩=>by rw[hM]at z;cases z
 refine⟨⟨λm m' b hne f1 f2=>?_,by rw[AAu];exact S.len,λm b mo f1 f2=>?_⟩,g⟩
 ·have q:=S.nd m m' b hne f1 f2
  by_cases h1:m=n
  ·subst h1
   rw[hk m' (ABO hne)]
   exact .inr (q.resolve_left notK)
  ·rw[hk m h1]
   by_cases h2:m'=n
   ·subst h2
    exact .inl (q.resolve_right notK)
   ·rw[hk m' h2]
    exact q
 by_cases hm:m=n
 ·subst hm
  have hb:b=a:=AAN (f1.symm.trans e1)
  subst hb
  rw[AAV (by rw[<-S.len];exact(AA7.mp e1).1)]at f2
  cases f2
  refine⟨hl,hs,nd,xs',aA,Paired.mapP r ?_⟩
  rintro _ _ ⟨q1,q2,q3,v,q4,q5⟩
  exact⟨q1,q2,q3.grow g,v,q4.grow g,q5⟩
 ·rw[hk m hm]at f2
  by_cases hb:b=a
  ·subst hb
   have q':=(S.nd m n b hm f1 e1).resolve_right notK
   rw[f2]at q'
   exact(S.obj m b mo f1 f2).grow g (.inr q')
  ·exact(S.obj m b mo f1 f2).grow g (.inl (ae hb))
end
section
variable{X:Cx}{pins:List (Addr×Obj)}{σ:St}{H:Hp}{s:Shared}{ρ:List Addr}{M:Mem}
theorem cN(I:Inv X pins σ H s):∀(n:Nat) (d:D) (v:V) (u:Value),Rep X.K ρ H d v->aI v u->bL n d=true->dW s.heap n d u:=by
 intro n
 induction n with
 | zero =>
  intro d v u r rv k
  cases r with
  | str x=>exact rv
  | int x=>exact rv
  | _=>cases k
 | succ n ih =>
  intro d v u r rv k
  cases r with
  | str x=>exact rv
  | int x=>exact rv
  | @tup a vs ds hq rr =>
   cases rv
   obtain⟨its,r2,p,hz⟩:=I.tuple hq
   have hk:∀x∈ds,bL n x=true:=AAU.mp (show ds.all (bL n)=true from k)
   refine⟨a,its.toArray,rfl,p,?_⟩
   rw[List.toList_toArray]
   clear p hq k hz
   induction r2 generalizing ds with
   | nil=>cases rr;exact .nil
   | cons q1 q2 i2 =>
    cases rr with
    | cons h1 t1=>exact .cons (ih _ _ _ h1 q1 (hk _ AAG)) (i2 t1 λx hx=>hk x (AA9 _ hx))
  | _=>cases k
theorem eZ(I:Inv X pins σ H s)(sm:Sim X.K ρ M H){n:Nat}{a:Addr}{kvs:List (D×D)}(e:ρ[n]?=some a)(hM:M[n]?=some (.dkt kvs)) :
  ∃xs,H a=some (.ext (dX a xs))/\Paired (rX X.K ρ H) kvs xs/\s.heap.DictOfH (bx X.prog X.w) a xs/\(a==sysModules)=false/\kvs.length<=sizeLine/\xs.length=kvs.length/\(kvs.map (·.1)).Nodup:=by
 obtain⟨h1,h2,h3,xs,hH,r⟩:=sm.obj _ _ _ e hM
 obtain⟨⟨o,es,e1,e2,e3,e4⟩,_⟩:=(show cu X.prog X.w H s.heap a (.ext (dX a xs))from I.hok a _ hH)
 have ek:=fu r
 refine⟨xs,hH,r,⟨o,es,_,e1,e2,e3,e4,λx hx=>?_,by rw[ek];exact h3⟩,h2,h1,?_,h3⟩
 ·obtain⟨i,hi⟩:=AB3 hx
  obtain⟨p,_,q1,q2,q3,_⟩:=cD r hi
  rw[<-q1]
  exact cN I 8 _ _ _ q3 rfl q2
 ·have:=congrArg ABk ek
  rwa [AA6,AA6]at this
theorem jE(d:dX a xs P w h'):cu P w H' h' a (.ext (dX a xs)):=by
 obtain⟨o,es,e1,e2,e3,e4⟩:=d
 refine⟨⟨o,es,e1,e2,e3,e4⟩,⟨o,e1⟩,?_⟩
 rintro h1 h2 ⟨o,es,e1,e2,e3,e4⟩ k
 exact⟨o,es,k _ e1,e2,e3,e4⟩
theorem wx(I:Inv X pins σ H s)(hH:H a=some (.ext (dX a xs))):dX a xs X.prog X.w s.heap :=
 (show cu X.prog X.w H s.heap a (.ext (dX a xs))from I.hok a _ hH).1
end
theorem setE(hu:(bx prog w).room A.in1)(kat:(bx prog w).is s.heap k b)
  (hm:s.heap.DictOfH (bx prog w) d xs) (hx:dX d xs prog w s.heap) (hz:xs.length<=sizeLine)
  (hQ:∀h',dX d (storedH xs k b v) prog w h'->AC4 d s.heap h'->Q () { s with heap:=h',toks:=s.toks+(bx prog w).draws k }):wpAny (model prog w) A (setItem (.ref d) (.ref b) v) Q E s:=by
 have hT:=hm.typeIs
 obtain⟨_,_,_,_,_,_,_,his,hn⟩:=hm
 obtain⟨o,es,ho,hc,hd,he'⟩:=hx
 have he:es.toList=xs.map (entryOfKey (bx prog w)):=he'
 unfold setItem
 try with_reducible refine AAd ?_
 refine AA0 (wpAny_sequenceKey hT (by decide) (AA0 (AAt (name:=AA1 "__setitem__") hT slot_dict_setitem (AAj slot_dict_setitem hT entry_dict_setitem ?_ (args_dict_setitem _ _ _)))))
 refine(show wpAny (model prog w) _ (Builtin.Dict.notOrdered "__setitem__" ⟨[.ref d,.ref b,v],[]⟩ >>= _) _ _ s from AA0 (ACr hT ?_))
 refine(show wpAny (model prog w) _ (dictSet d (.ref b) v >>= _) _ _ s from AA0 ?_)
 unfold dictSet
 try with_reducible refine AAd ?_
 refine AA0 ((bx prog w).pyHash hu kat ?_)
 unfold dictSetHashed
 try with_reducible refine AAd ?_
 have hl:es.size=xs.length:=size_of_entries he
 refine AA0 (wpAny_dictFind_heap (s:={ s with toks:=s.toks+(bx prog w).draws k }) hu kat ho hd he his hn (λhno=>?_) λj p hj=>?_)
 ·refine AA0 (ACx (wpAny_updateDictKeys (hz:=by lia) (s:={ s with toks:=s.toks+(bx prog w).draws k }) ho hd (AA2 ⟨.none,rfl,AA2 (hQ _ ⟨_,es.push ⟨(bx prog w).hash k,.ref b,v⟩,AAc _ ho (ADI (AD7 hd _)),hc.mapDictKeys _,?_,?_⟩ (AAl ..))⟩)))
  ·rw[AD7 hd,storedH_new (ADm hno),AAE];rfl
  ·rw[storedH_new (ADm hno)]
   rw[Array.toList_push,he,AB8]
   rfl
 ·refine AA0 (ACx (AA0 (wpAny_updateDict (s:={ s with toks:=s.toks+(bx prog w).draws k }) ho hd (wpAny_point (AA2 ⟨.none,rfl,AA2 (hQ _ ⟨_,es.modify j λe=>{ e with val:=v },AAc _ ho (ADI (ADw hd _)),hc.mapDict _,?_,?_⟩ (AAl ..))⟩)))))
  ·rw[ADw hd,storedH_old (atKey_of_get hn hj),AA6]
  ·rw[storedH_old (atKey_of_get hn hj)]
   have q:=modify_map_putAt (entryOfKey (bx prog w)) (λe:DictEntry=>{ e with val:=v }) k v (λ_ _=>rfl) hn hj
   rw[<-he]at q
   obtain⟨l⟩:=es
   have q2:(Array.modify ⟨l⟩ j λe:DictEntry=>{ e with val:=v }).toList=(xs.map (putAt k v)).map (entryOfKey (bx prog w)):=by simpa using q
   exact q2
section
variable{X:Cx}{o i value:Expr}{td ty tv:DTE}{pos pos':Pos}{k:Nat}
def qh:DTE:=λ_ M Q=>Q (.ref M.length) (M++[.dkt []])
theorem ES:DE X (.Dict [] [] pos) qh:=by
 rintro pins s σ H R I ⟨S,M,ρ,Q,sm,sr,q,kk⟩
 have hf:H s.heap.objs.size=none:=I.hok.fresh (AA8 _)
 have hb:(s.heap.objs.size==sysModules)=false:=beq_eq_false_iff_ne.mpr (ABO (AAK I.big))
 refine wpAny_Dict_empty ⟨.ref s.heap.objs.size,_,I.laid (a:=s.heap.objs.size) (o:=.ext (dX s.heap.objs.size [])) (t':=s.toks) (λ_ _ q=>AA4 _ q) (AA8 _) (jE ⟨_,#[],AAB _ rfl,⟨rfl,rfl,rfl⟩,rfl,rfl⟩),rfl,?_⟩
 exact kk _ _ ⟨.ref M.length,M++[.dkt []],ρ++[s.heap.objs.size],sm.laidM (mo:=.dkt []) hf ⟨AAW _,hb,ADC,[],aA,.nil⟩,Grow.laidR hf,.ref sm.last,(show Q (.ref M.length) (M++[.dkt []])from q)⟩
def oy(td ty:DTE):DTE:=λS M Q=>td S M λx M1=>ty S M1 λy M2=>match x,y with
 | .ref n,.tup ks=>∃kvs d,M2[n]?=some (.dkt kvs)/\bL 8 (.tup ks)=true/\aQ kvs (.tup ks)=some d/\Q d M2
 | _,_=>False
theorem ET(hr:Room k X.A)(ho:DE X o td)(hi:DE X i ty)(hs:NoSl i):DE X (.Subscript o i pos) (oy td ty):=by
 rintro pins s σ H R I ⟨S,M,ρ,Q,sm,sr,q,kk⟩
 have un:=hr.un
 refine zw PySem.F.slot_dict_getitem.lookup hs (thn (ho pins s σ H _ I ⟨S,M,ρ,_,sm,sr,q,λv H' z=>z⟩) ?_)
 rintro u s1 ⟨v,H1,I1,rv,x,M1,ρ1,sm1,g1,r1,q1⟩
 refine thn (hi pins s1 σ H1 _ I1 ⟨S,M1,ρ1,_,sm1,sr.grow g1,q1,λv H' z=>z⟩) ?_
 rintro iv s2 ⟨w,H2,I2,rw',y,M2,ρ2,sm2,g2,r2,q2⟩
 cases x with
 | ref n =>
  cases y with
  | tup ks =>
   obtain⟨kvs,d,hM,kd,hg,q3⟩:=q2
   obtain⟨a,rfl,hn⟩:=Rep.inv_ref r1
   obtain rfl:u=ABf a:=rv
   obtain⟨xs,hH,r,dd,hsm,hl,hx,_⟩:=eZ I2 sm2 (ar g2.pre hn) hM
   have kat:=cN I2 8 _ _ _ r2 rw' kd
   rcases nU r (.tup ks)with⟨z,_⟩|⟨d',p,v',e1,e2,e3,e4⟩
   ·rw[hg]at z;cases z
   ·rw[hg]at e1
    cases e1
    obtain⟨b,_,rfl,_⟩:=id kat
    refine⟨dd.typeIs,wpAny_getItem_heap (knd:=bx X.prog X.w) (k:=.tup ks) (by show X.A.units+1+8<cLine;lia) kat dd e2 ⟨v',H2,I2.tok _,e4,kk _ _ ⟨d,M2,ρ2,sm2,g1.trans g2,e3,q3⟩⟩⟩
  | _=>exact q2.elim
 | _=>exact q2.elim
def qg(td ty tv:DTE):DTS:=λE S M=>tv S M λv M1=>td S M1 λx M2=>ty S M2 λy M3=>match x,y with
 | .ref n,.tup ks=>∃kvs,M3[n]?=some (.dkt kvs)/\bL 8 (.tup ks)=true/\kvs.length<sizeLine/\E.nx S (M3.set n (.dkt (eV kvs (.tup ks) v)))
 | _,_=>False
theorem pj(h:(kvs.map (·.1)).Nodup):((eV kvs y v).map (·.1)).Nodup:=by
 unfold eV
 split
 ·rw[ABT]
  have:((λx:D×D=>x.1) ∘ λp:D×D=>if p.1=y then(p.1,v)else p)=λx=>x.1:=by
   funext p
   show (if p.1=y then(p.1,v)else p).1=p.1
   split<;>rfl
  rw[this];exact h
 ·rename_i q
  rw[AB8,List.map_singleton,List.nodup_append]
  refine⟨h,by simp,λa ha b hb=>?_⟩
  rw[ABA.mp hb]
  rintro rfl
  obtain⟨p,hp,e⟩:=AAZ.mp ha
  refine q ?_
  unfold aQ
  rw[Option.isSome_map,List.find?_isSome]
  exact⟨p,hp,by simpa using e⟩
theorem Bl(hr:Room k X.A)(ho:DE X o td)(hi:DE X i ty)(hv:DE X value tv)(hs:swapsWith value (some (.Subscript o i pos')) pos.line X.env=pure false):DS X (.Assign [.Subscript o i pos'] value pos) (qg td ty tv):=by
 rintro pins s σ H E I ⟨S,M,ρ,F,sm,sr,q,kk⟩
 have un:=hr.un
 refine wpAny_Assign_Subscript (thn (hv pins s σ H _ I ⟨S,M,ρ,_,sm,sr,q,λv H' z=>z⟩) λr s1 ⟨v,H1,I1,rv,dv,M1,ρ1,sm1,g1,r1,q1⟩=>thn (ho pins s1 σ H1 _ I1 ⟨S,M1,ρ1,_,sm1,sr.grow g1,q1,λv H' z=>z⟩) λu s2 ⟨vx,H2,I2,rx,x,M2,ρ2,sm2,g2,r2,q2⟩=>thn (hi pins s2 σ H2 _ I2 ⟨S,M2,ρ2,_,sm2,(sr.grow g1).grow g2,q2,λv H' z=>z⟩) ?_) hs
 rintro iv s3 ⟨vy,H3,I3,ry,y,M3,ρ3,sm3,g3,r3,q3⟩
 cases x with
 | ref n =>
  cases y with
  | tup ks =>
   obtain⟨kvs,hM,kd,hl,q4⟩:=q3
   obtain⟨a,rfl,hn⟩:=Rep.inv_ref r2
   obtain rfl:u=ABf a:=rx
   have hn3:=ar g3.pre hn
   obtain⟨xs,hH,r,dd,hsm,_,hx,nd⟩:=eZ I3 sm3 hn3 hM
   have kat:=cN I3 8 _ _ _ r3 ry kd
   obtain⟨b,_,rfl,_⟩:=id kat
   obtain⟨_,_,rfl,hq,rr⟩:=Rep.inv_tup r3
   cases ry
   have r':=yY r kd (.tup hq rr) ((r1.grow g2).grow g3) rv
   have pl:=qZ (kvs:=kvs) (k:=.tup ks) (d:=dv)
   obtain⟨w1,w2⟩:=sm3.writeT hn3 hM hH (by have:=pl;lia) hsm (pj nd) r'
   refine setE (k:=.tup ks) (by show X.A.units+1+8<cLine;lia) kat dd (wx I3 hH) (by lia) λh' dd' hsb=>?_
   have he:∃q,h'.get? a=some q:=let ⟨q,_,hq,_⟩:=dd';⟨q,hq⟩
   exact⟨σ,_,wC I3 (by rw[hH];exact AEL) hsb he (jE dd'),kk.nx σ _ (SQ.trans ((g1.trans g2).trans g3) ⟨S,_,ρ3,w1,w2,(((sr.grow g1).grow g2).grow g3).grow w2,q4⟩)⟩
  | _=>exact q3.elim
 | _=>exact q3.elim
def dMt(r:Nat->DRA)(to:DTE)(t:DTA):DTE:=λS M Q=>to S M λx M1=>match x with
 | .ref n=>(∃kvs,M1[n]?=some (.dkt kvs))/\t S M1 λds M2=>r n ds M2 Q
 | _=>False
variable{name:Str}{id:String}{e:Expr}{es:List Expr}{to:DTE}{t:DTA}{apos cpos:Pos}
theorem d_mt{r:Nat->DRA}(slot:Slot "dict" name id)(hty:typeOf (.builtin id)=pure (.type "method_descriptor"))(hm:MtR X id (sM X.K r))(ho:DE X o to)(ha:DA X (e::es) t)
  (hbase:attributeBase o name X.env (eval o X.env)=eval o X.env:=by rfl)
  (hfew:((backTo cpos (starEach (e::es) X.env)).all (λx=>!x.1)&&(backToKw cpos (keywordEach [] X.env)).all (λx=>x.1.isSome)
   && decide ((e::es).length+([]:List Keyword).length+(if ([]:List Keyword).isEmpty then 0 else 1)<30))=true:=by rfl)
  (hline:(apos.endLine==cpos.line)=true:=by rfl) (hs:starEach (e::es) X.env=(false,eval e X.env)::starEach es X.env:=by rfl) (hplain:(backTo cpos (starEach es X.env)).any (·.1)=false:=by rfl) :
  DE X (.Call (.Attribute o name apos) (e::es) [] cpos) (dMt r to t):=by
 rintro pins s σ H R I ⟨S,M,ρ,Q,sm,sr,q,kk⟩
 refine wpAny_Call_method_late hbase hfew hline rfl (thn (ho pins s σ H _ I ⟨S,M,ρ,_,sm,sr,q,λv H' z=>z⟩) ?_)
 rintro u s1 ⟨v,H1,I1,rv,x,M1,ρ1,sm1,g1,r1,q1⟩
 cases r1 with
 | @ref n a hn =>
  cases rv
  obtain⟨⟨kvs,hM⟩,q1⟩:=(show (∃kvs,M1[n]?=some (.dkt kvs))/\t S M1 _ from q1)
  obtain⟨xs,hH,r,dd,hsm,hl,hx,nd⟩:=eZ I1 sm1 hn hM
  refine⟨"dict",id,ADa,slot,hty,dd.typeIs,λb z=>?_,?_⟩
  ·cases z
   obtain⟨ob,_,_,h1,h2,_⟩:=dd
   exact⟨ob,h1,h2.2.1⟩
  ·have hA:=ha cpos pins s1 σ H1 _ I1 ⟨S,M1,ρ1,_,sm1,sr.grow g1,q1,λvs H' z=>z⟩
   rw[hs]at hA ⊢
   refine ACf (by show (false||(backTo cpos (starEach es X.env)).any (·.1))=false;rw[hplain]<;>rfl) (ADx ?_)
   refine thn hA ?_
   rintro us s2 ⟨vs,H2,I2,rvs,ds,M2,ρ2,sm2,g2,rr,q2⟩
   exact hm pins s2 σ H2 (.ref a) vs (.ref a) us R I2 rfl rvs ⟨n,a,ds,M2,ρ2,Q,rfl,ar g2.pre hn,sm2,rr,q2,λv H' w=>kk v H' (VQ.trans (g1.trans g2) w)⟩
 | _=>exact q1.elim
def fU(n:Nat):DRA:=λds M Q=>match ds with
 | [.tup ks,d]=>∃kvs,M[n]?=some (.dkt kvs)/\bL 8 (.tup ks)=true/\Q ((aQ kvs (.tup ks)).getD d) M
 | _=>False
theorem xJ(hr:Room k X.A):MtR X "dict.get" (sM X.K fU):=by
 rintro pins s σ H x xs v us R I rx rs ⟨n,a,ds,M,ρ,Q,ez,hn,sm,rr,q,kk⟩
 have un:=hr.un
 unfold fU at q
 split at q
 ·rename_i ks d
  obtain⟨kvs,hM,kd,q⟩:=q
  first | have hzz:=Reps.inv_cons rr | have hzz:=au.inv_cons rr
  clear rr
  obtain⟨_,_,rfl,r1,rr⟩:=hzz
  first | have hzz:=Reps.inv_cons rr | have hzz:=au.inv_cons rr
  clear rr
  obtain⟨_,_,rfl,r2,rr⟩:=hzz
  cases rr
  obtain⟨u1,u2,rfl,e1,e2⟩:=au.two rs
  subst ez
  cases rx
  obtain⟨ys,hH,r,dd,hsm,hl,hx,nd⟩:=eZ I sm hn hM
  have kat:=cN I 8 _ _ _ r1 e1 kd
  obtain⟨b,_,rfl,_⟩:=id kat
  refine call_meetsIn PySem.F.slot_dict_get dd.typeIs PySem.F.entry_dict_get (PySem.F.args_dict_get_3 _ _ _) (meetsH_dict_get_default (bx X.prog X.w) a b hsm u2) ⟨by show X.A.units+1+8<cLine;lia,.tup ks,ys,kat,dd,?_⟩
  rcases nU r (.tup ks)with⟨z1,z2⟩|⟨d',p,v',z1,z2,z3,z4⟩
  ·rw[z2]
   rw[z1]at q
   exact⟨_,H,I.tok _,e2,kk _ _ ⟨d,M,ρ,sm,.refl,r2,q⟩⟩
  ·rw[z2]
   rw[z1]at q
   exact⟨_,H,I.tok _,z4,kk _ _ ⟨d',M,ρ,sm,.refl,z3,q⟩⟩
 ·exact q.elim
end
def cG(h:Heap)(d:Addr)(es:Array DictEntry)(ep:Nat):Prop:=∃o,h.get? d=some o/\o.ExactDict/\o.data=.dict es ep
theorem cG.ty{s:Shared}{d:Addr}{es:Array DictEntry}{ep:Nat}(x:cG s.heap d es ep):s.TypeIs (.ref d) "dict":=by
 obtain⟨o,h1,h2,_⟩:=x
 exact⟨o,h1,h2.1⟩
theorem cG.lt(x:cG h d es ep):d<h.objs.size:=by
 obtain⟨o,h1,_⟩:=x
 exact AAF h1
theorem cG.to(x:cG h d es ep)(k:∀o,h.get? d=some o->h'.get? d=some o):cG h' d es ep:=by
 obtain⟨o,h1,h2⟩:=x
 exact⟨o,k o h1,h2⟩
section
variable{prog:Program}{w:World}{A:Around}{E:Value->Shared->Prop}{s:Shared}{d:Addr}{es:Array DictEntry}{ep:Nat}
theorem yt{Q:Value->Shared->Prop}(hd:(d==sysModules)=false)(hm:cG s.heap d es ep)
  (hQ:Q (.ref s.heap.objs.size) { s with heap:=s.heap.push { cls:=.type "dict_keyiterator",data:=.fields #[.ref d,.int 0 0,.int es.size 0,.int ep 0] } }) :
  wpAny (model prog w) A (pyIter (.ref d)) Q E s:=by
 have hT:=hm.ty
 obtain⟨o,h1,h2,h3⟩:=hm
 refine ADk hT F.slot_dict_iter (AAj F.slot_dict_iter hT F.entry_dict_iter ?_ (F.args_dict_iter_1 _))
 unfold Builtin.«dict.__iter__»
 refine AA0 ?_
 unfold Builtin.Dict.dictSlotNone
 refine AA0 (ACr hT (AA2 ?_))
 refine(show wpAny (model prog w) _ (ACs d >>= _) _ _ s from ?_)
 unfold ACs
 rw[hd]
 refine AA0 (AA2 (AA0 (ACQ h1 h3 (AA0 (ACt h1 h3 ?_)))))
 exact AA0 (AAh (AA2 ⟨_,rfl,"dict_keyiterator",_,⟨_,AAB _ rfl,rfl⟩,F.slot_dict_keyiterator_next.lookup,by simpa [rawInt]using hQ⟩))
theorem yr(hit:s.heap.IsKeyIter it d i es.size ep)(hm:cG s.heap d es ep)(hi:i<es.size)
  (hQ:∀h',h'.IsKeyIter it d (i+1) es.size ep->AC4 it s.heap h'->Q (some es[i].key) { s with heap:=h' }):wpAny (model prog w) A (pyNext (.ref it)) Q E s:=by
 obtain⟨o,ho,hc,hd⟩:=id hit
 obtain⟨od,k1,k2,k3⟩:=id hm
 unfold pyNext
 refine AA0 (ABp (AAt (name:=AA1 "__next__") hit.typeIs F.slot_dict_keyiterator_next (AAj F.slot_dict_keyiterator_next hit.typeIs F.entry_dict_keyiterator_next ?_ (F.args_dict_keyiterator_next_1 _))))
 refine AA0 (AA2 (AA0 (AA0 ?_)))
 first | refine AA0 (AC1 hit.typeIs (AA2 (AA0 (ABR ho hd ?_)))) | refine AA0 (ACR hit.typeIs (AA2 (AA0 (ABR ho hd ?_))))
 simp only[show ABV "dict_keyiterator" = false by decide,AAA,if_false]
 refine(show wpAny (model prog w) _ (if (ABf d==ABi)=true then _ else _) _ _ s from ?_)
 rw[if_neg (by exact ABJ)]
 refine AA0 (AA2 (AA0 (ACQ k1 k3 ?_)))
 rw[if_neg (by simp)]
 refine AA0 (AA2 (AA0 (ACt k1 k3 ?_)))
 rw[if_neg (by simp)]
 refine AA2 ?_
 simp only[show ¬((i:Int)<0)from by lia,if_false,ABU,AAH hi]
 refine AA0 ?_
 first | refine AA0 (AC1 hit.typeIs (AA2 ?_)) | refine AA0 (ACR hit.typeIs (AA2 ?_))
 refine AA0 (wpAny_isOneOf_keyiter hit.typeIs ?_)
 refine(show wpAny (model prog w) _ (setField (.ref it) 1 (rawInt ((i:Int)+1)) >>= _) _ _ s from AA0 (ABq ho hd (by simp) ?_))
 have hit':(s.heap.update it (AD2 (·.setIfInBounds 1 (rawInt ((i:Int)+1))))).IsKeyIter it d (i+1) es.size ep:=by
  refine⟨_,AAc _ ho (Obj.isFreed_of_fields (ADb hd _)),(Obj.cls_mapFields ..).trans hc,?_⟩
  rw[ADb hd];simp[rawInt]
 refine AA0 (AAd (AA0 (wpAny_isOneOf_keyiter (s:={ s with heap:=s.heap.update it (AD2 (·.setIfInBounds 1 (rawInt ((i:Int)+1)))) }) hit'.typeIs ?_)))
 refine(show wpAny (model prog w) _ (pure es[i].key) _ _ _ from ?_)
 exact AA2 (AA2 ⟨_,rfl,AA2 (hQ _ hit' (AAl ..))⟩)
theorem Bg(hh:A.handled=none)(hit:s.heap.IsKeyIter it d es.size es.size ep)(hm:cG s.heap d es ep)
  (hQ:∀h',Heap.ExtBut it s.heap h'->Q none { s with heap:=h' }):wpAny (model prog w) A (pyNext (.ref it)) Q E s:=by
 obtain⟨o,ho,hc,hd⟩:=id hit
 obtain⟨od,k1,k2,k3⟩:=id hm
 unfold pyNext
 refine AA0 (ABp (AAt (name:=AA1 "__next__") hit.typeIs F.slot_dict_keyiterator_next (AAj F.slot_dict_keyiterator_next hit.typeIs F.entry_dict_keyiterator_next ?_ (F.args_dict_keyiterator_next_1 _))))
 refine AA0 (AA2 (AA0 (AA0 ?_)))
 first | refine AA0 (AC1 hit.typeIs (AA2 (AA0 (ABR ho hd ?_)))) | refine AA0 (ACR hit.typeIs (AA2 (AA0 (ABR ho hd ?_))))
 simp only[show ABV "dict_keyiterator" = false by decide,AAA,if_false]
 refine(show wpAny (model prog w) _ (if (ABf d==ABi)=true then _ else _) _ _ s from ?_)
 rw[if_neg (by exact ABJ)]
 refine AA0 (AA2 (AA0 (ACQ k1 k3 ?_)))
 rw[if_neg (by simp)]
 refine AA0 (AA2 (AA0 (ACt k1 k3 ?_)))
 rw[if_neg (by simp)]
 refine AA2 ?_
 simp only[show ¬((es.size:Int)<0)from by lia,if_false,ABU,ABh (AA8 es.size)]
 refine AA0 ?_
 first | refine AA0 (AC1 hit.typeIs (AA2 ?_)) | refine AA0 (ACR hit.typeIs (AA2 ?_))
 refine(show wpAny (model prog w) _ (setField (.ref it) 0 .none >>= _) _ _ s from AA0 (ABq ho hd (by simp) ?_))
 refine(show wpAny (model prog w) _ (newExc (.type "StopIteration") [] >>= _) _ _ _ from AA0 ?_)
 simp only[newExc,newTuple]
 refine AA0 (AAh ?_ (by size_fits))
 refine AA0 (m:=firstArgMember _ _) (wpAny_of_eq (a:=ABi) (by first | rfl | (simp only[firstArgMember];rfl)) ?_)
 refine AAh ?_ (by size_fits)
 simp only[raiseNew]
 refine AA0 (wpAny_handled ?_)
 rw[show A.in1.handled=none from hh]
 refine AA0 (AA2 (wpAny_throw ?_))
 refine AA0 (ACG (b:=true) (T:="StopIteration") ⟨_,AAB _ rfl,rfl⟩ isSubtype_stop ?_)
 exact AA2 (hQ _ (((AAl ..).extBut.push _).push _))
end
noncomputable def Ite(a:Addr)(n:Nat):It :=
 ⟨λi H=>∃xs,H a=some (.ext (dX a xs))/\xs.length=n/\i<n,λi H v H'=>H'=H/\∀xs,H a=some (.ext (dX a xs))->∃x,xs[i]?=some x/\v=.ref x.2.1,λi H=>(∃xs,H a=some (.ext (dX a xs))/\xs.length=n)/\i=n⟩
section
variable{X:Cx}{pins:List (Addr×Obj)}{σ:St}{H:Hp}{s:Shared}
theorem gq(I:Inv X pins σ H s)(hH:H a=some (.ext (dX a xs))):∃es,cG s.heap a es xs.length/\es.size=xs.length/\∀(i:Nat) x,xs[i]?=some x->∃e,es[i]?=some e/\e.key=.ref x.2.1/\e.val=x.2.2:=by
 obtain⟨o,es,h1,h2,h3,h4⟩:=wx I hH
 refine⟨es,⟨o,h1,h2,h3⟩,?_,λi x hx=>?_⟩
 ·have:=congrArg ABk h4
  rwa [AAO,AA6]at this
 ·refine⟨⟨hkD X.w 8 x.1,.ref x.2.1,x.2.2⟩,?_,rfl,rfl⟩
  rw[<-AAQ,h4,AAT,hx]
  rfl
theorem rL(x:cG h a es ep)(y:cG h a es' ep'):es=es'/\ep=ep':=by
 obtain⟨o,h1,_,h3⟩:=x
 obtain⟨o',h1',_,h3'⟩:=y
 obtain rfl:o=o':=AAN (h1.symm.trans h1')
 rw[h3]at h3'
 injection h3' with e1 e2
 exact⟨e1,e2⟩
end
theorem xb{P:Program}{w:World}{K:AA3}{tg:Expr}(a it:Addr)(n:Nat):Turn P w K tg (Ite a n) [it] it (λi h=>h.IsKeyIter it a i n n) where
 mem:=by simp
 obj:=λi h st b hb=>by
  obtain rfl:b=it:=by simpa using hb
  obtain⟨o,e,c,d⟩:=st
  exact⟨o,e,λv z=>by rw[d]at z;cases z⟩
 keep:=λi h h' st k=>st.at λo e=>k it (by simp) o e
 item:=by
  intro X hP hw hK hc i pins s σ H E I hf st hg
  subst hP hw hK
  obtain⟨xs,hH,rfl,hi⟩:=hg
  obtain⟨es,em,el,eg⟩:=gq I hH
  obtain⟨e,e1,e2,e3⟩:=eg i xs[i] (AA5 hi)
  obtain⟨f0,f1,f2,f3,f4,f5⟩:=hf it (by simp)
  have hi':i<es.size:=by lia
  have ee:es[i]=e:=by
   rw[AAH hi']at e1
   exact AAN e1
  rw[<-el]at em st
  refine yr st em hi' λh' st' sb=>?_
  rw[ee,e2]
  have I1:Inv X pins σ H { s with heap:=h' }:=I.turned (t':=s.toks) (λb o hb e=>(sb.2 b hb).trans e) f0 f1 f3 f4 f5
  obtain⟨o,q1,q2,q3⟩:=id st'
  refine⟨_,rfl,tj (s:={ s with heap:=h' }) q1 q2 q3 (by decide) ⟨.ref xs[i].2.1,H,I1,rfl,⟨rfl,λys hy=>?_⟩,by rw[el]at st';exact st',λb hb=>(hf b hb).1⟩⟩
  obtain⟨es',em',el',eg'⟩:=gq I hy
  obtain⟨rfl,ep⟩:=rL em em'
  have hj:i<ys.length:=by lia
  obtain⟨e',z1,z2,_⟩:=eg' i ys[i] (AA5 hj)
  rw[AAH hi',ee]at z1
  obtain rfl:=AAN z1
  rw[e2]at z2
  injection z2 with z2
  exact⟨ys[i],AA5 hj,by rw[z2]⟩
 done:=by
  intro X hP hw hK hc i pins s σ H E I hf st hg
  subst hP hw hK
  obtain⟨⟨xs,hH,rfl⟩,rfl⟩:=hg
  obtain⟨es,em,el,eg⟩:=gq I hH
  obtain⟨f0,f1,f2,f3,f4,f5⟩:=hf it (by simp)
  rw[<-el]at em st
  exact Bg (I.ok.hd hc) st em λh' he=>⟨rfl,I.turned (t':=s.toks) (λb o hb e=>he b o hb e) f0 f1 f3 f4 f5⟩
 self:=λA i s Q E st hQ=>wpAny_pyIter_keyiter st hQ
section
variable{X:Cx}{tg:Expr}
def rP(tl:DTE):DTI:=λS M R=>tl S M λd M1=>match d with
 | .ref n=>∃kvs,M1[n]?=some (.dkt kvs)/\(kvs.length<=sizeLine->R ⟨kvs.map (·.1),λM=>M[n]?=some (.dkt kvs)⟩ M1)
 | _=>False
theorem yy{l:Expr}{tl:DTE}(hl:DE X l tl):DI X tg l (rP tl):=by
 intro pins s σ H R I h
 obtain⟨S,M,ρ,Q,sm,sr,q,k⟩:=h
 refine thn (hl pins s σ H _ I ⟨S,M,ρ,_,sm,sr,q,λv H' w=>w⟩) ?_
 rintro u s1 ⟨v,H1,I1,rv,d,M1,ρ1,sm1,g1,r1,q1⟩
 cases r1 with
 | @ref n a hn =>
  cases rv
  obtain⟨kvs,hM,q2⟩:=(show ∃kvs,M1[n]?=some (.dkt kvs)/\(kvs.length<=sizeLine->Q ⟨kvs.map (·.1),λM=>M[n]?=some (.dkt kvs)⟩ M1)from q1)
  obtain⟨xs,hH,r,dd,hsm,hz,hx,nd⟩:=eZ I1 sm1 hn hM
  obtain⟨es,em,el,_⟩:=gq I1 hH
  refine yt hsm em ?_
  rw[el]
  refine⟨s1.heap.objs.size,[s1.heap.objs.size],_,_,H1,rfl,I1.kept (t':=s1.toks) λb o e=>AA4 _ e,xb a _ xs.length,⟨_,AAB _ rfl,rfl,rfl⟩,λb hb=>?_,k _ H1 ⟨⟨kvs.map (·.1),λM=>M[n]?=some (.dkt kvs)⟩,M1,ρ1,sm1,g1,?_,q2 hz⟩⟩
  ·obtain rfl:b=s1.heap.objs.size:=by simpa using hb
   exact I1.fpOk (AA8 _) (I1.hok.fresh (AA8 _))
  ·refine⟨λi ρ' M' H' s' g ok hi=>?_,λi ρ' M' H' x H2 s' g ok hi y=>?_,λρ' M' H' s' g ok=>?_⟩
   ·obtain⟨_,_,_,ys,hy,ry⟩:=s'.obj _ _ _ (ar g.pre hn) ok
    have ly:ys.length=kvs.length:=by have:=congrArg ABk (fu ry);rwa [AA6,AA6]at this
    exact⟨ys,hy,by lia,by rw[AA6]at hi;lia⟩
   ·obtain⟨rfl,hall⟩:=y
    obtain⟨_,_,_,ys,hy,ry⟩:=s'.obj _ _ _ (ar g.pre hn) ok
    obtain⟨z,hz1,rfl⟩:=hall ys hy
    obtain⟨p,hp,_,_,rp,_⟩:=cD ry hz1
    exact⟨p.1,ρ',by rw[AAT,hp];rfl,s',.refl,rp⟩
   ·obtain⟨_,_,_,ys,hy,ry⟩:=s'.obj _ _ _ (ar g.pre hn) ok
    have ly:ys.length=kvs.length:=by have:=congrArg ABk (fu ry);rwa [AA6,AA6]at this
    exact⟨⟨ys,hy,by lia⟩,by rw[AA6];lia⟩
 | _=>exact q1.elim
end
section
variable{prog:Program}{w:World}{A:Around}{E:Value->Shared->Prop}{s:Shared}{d:Addr}{es:Array DictEntry}{ep:Nat}
theorem kW(hd:(d==sysModules)=false)(hm:cG s.heap d es ep)(hQ:Q (.ref s.heap.objs.size) { s with heap:=s.heap.push { cls:=.type "dict_values",data:=.fields #[.ref d] } }) :
  wpAny (model prog w) A (call (.builtin "dict.values") [.ref d]) Q E s:=by
 refine call_meetsIn ADM hm.ty PySem.F.entry_dict_values (PySem.F.args_dict_values_1 _) (S:=λ_ R s'=>s'=s/\R (.ok (.ret (.ref s.heap.objs.size))) { s with heap:=s.heap.push { cls:=.type "dict_values",data:=.fields #[.ref d] } }) (.of_wp ?_) ⟨rfl,hQ⟩
 rintro A R s' ⟨rfl,h⟩
 refine AA0 ?_
 unfold Builtin.Dict.noArgs
 refine AA0 (ACr hm.ty (AA2 ?_))
 refine(show wpAny (model prog w) _ (ACs d >>= _) _ _ s' from ?_)
 unfold ACs
 rw[hd]
 exact AA0 (AA2 (AA0 (AAh (AA2 ⟨_,rfl,h⟩))))
theorem oj(hv:s.heap.IsValuesView v d)(hm:cG s.heap d es ep)
  (hQ:Q (.ref s.heap.objs.size) { s with heap:=s.heap.push { cls:=.type "dict_valueiterator",data:=.fields #[.ref d,.int 0 0,.int es.size 0,.int ep 0] } }):wpAny (model prog w) A (pyIter (.ref v)) Q E s:=by
 obtain⟨ov,v1,v2,v3⟩:=id hv
 obtain⟨o,h1,h2,h3⟩:=hm
 refine ADk hv.typeIs F.slot_dict_values_iter (AAj F.slot_dict_values_iter hv.typeIs F.entry_dict_values_iter ?_ (F.args_dict_values_iter_1 _))
 unfold Builtin.«dict_values.__iter__»
 refine AA0 (AA2 (AA0 ?_))
 unfold Builtin.Dict_items.dictOf
 refine AA0 (wpAny_field v1 v3 (x:=.ref d) rfl (AA2 (AA0 ?_)))
 unfold Builtin.Dict_items.newIterator
 refine AA0 (ACQ h1 h3 (AA0 (ACt h1 h3 ?_)))
 simp only[show ABV "dict_valueiterator" = false by decide,AAA,if_false]
 exact AAh (AA2 ⟨_,rfl,"dict_valueiterator",_,⟨_,AAB _ rfl,rfl⟩,F.slot_dict_valueiterator_next.lookup,by simpa [rawInt]using hQ⟩)
theorem oi(hit:s.heap.IsValIter it d i es.size ep)(hm:cG s.heap d es ep)(hi:i<es.size)
  (hQ:∀h',h'.IsValIter it d (i+1) es.size ep->AC4 it s.heap h'->Q (some es[i].val) { s with heap:=h' }):wpAny (model prog w) A (pyNext (.ref it)) Q E s:=by
 obtain⟨o,ho,hc,hd⟩:=id hit
 obtain⟨od,k1,k2,k3⟩:=id hm
 unfold pyNext
 refine AA0 (ABp (AAt (name:=AA1 "__next__") hit.typeIs F.slot_dict_valueiterator_next (AAj F.slot_dict_valueiterator_next hit.typeIs F.entry_dict_valueiterator_next ?_ (F.args_dict_valueiterator_next_1 _))))
 refine AA0 (AA2 (AA0 (AA0 ?_)))
 first | refine AA0 (AC2 hit.typeIs (AA2 (AA0 (ABR ho hd ?_)))) | refine AA0 (ACS hit.typeIs (AA2 (AA0 (ABR ho hd ?_))))
 simp only[show ABV "dict_valueiterator" = false by decide,AAA,if_false]
 refine(show wpAny (model prog w) _ (if (ABf d==ABi)=true then _ else _) _ _ s from ?_)
 rw[if_neg (by exact ABJ)]
 refine AA0 (AA2 (AA0 (ACQ k1 k3 ?_)))
 rw[if_neg (by simp)]
 refine AA0 (AA2 (AA0 (ACt k1 k3 ?_)))
 rw[if_neg (by simp)]
 refine AA2 ?_
 simp only[show ¬((i:Int)<0)from by lia,if_false,ABU,AAH hi]
 refine AA0 ?_
 first | refine AA0 (AC2 hit.typeIs (AA2 ?_)) | refine AA0 (ACS hit.typeIs (AA2 ?_))
 refine AA0 (ADu hit.typeIs ?_)
 refine(show wpAny (model prog w) _ (setField (.ref it) 1 (rawInt ((i:Int)+1)) >>= _) _ _ s from AA0 (ABq ho hd (by simp) ?_))
 have hit':(s.heap.update it (AD2 (·.setIfInBounds 1 (rawInt ((i:Int)+1))))).IsValIter it d (i+1) es.size ep:=by
  refine⟨_,AAc _ ho (Obj.isFreed_of_fields (ADb hd _)),(Obj.cls_mapFields ..).trans hc,?_⟩
  rw[ADb hd];simp[rawInt]
 refine AA0 (AAd (AA0 (ADu (s:={ s with heap:=s.heap.update it (AD2 (·.setIfInBounds 1 (rawInt ((i:Int)+1)))) }) hit'.typeIs (AA0 (ADu (s:={ s with heap:=s.heap.update it (AD2 (·.setIfInBounds 1 (rawInt ((i:Int)+1)))) }) hit'.typeIs ?_)))))
 refine(show wpAny (model prog w) _ (pure es[i].val) _ _ _ from ?_)
 exact AA2 (AA2 ⟨_,rfl,AA2 (hQ _ hit' (AAl ..))⟩)
theorem rK(hh:A.handled=none)(hit:s.heap.IsValIter it d es.size es.size ep)(hm:cG s.heap d es ep)
  (hQ:∀h',Heap.ExtBut it s.heap h'->Q none { s with heap:=h' }):wpAny (model prog w) A (pyNext (.ref it)) Q E s:=by
 obtain⟨o,ho,hc,hd⟩:=id hit
 obtain⟨od,k1,k2,k3⟩:=id hm
 unfold pyNext
 refine AA0 (ABp (AAt (name:=AA1 "__next__") hit.typeIs F.slot_dict_valueiterator_next (AAj F.slot_dict_valueiterator_next hit.typeIs F.entry_dict_valueiterator_next ?_ (F.args_dict_valueiterator_next_1 _))))
 refine AA0 (AA2 (AA0 (AA0 ?_)))
 first | refine AA0 (AC2 hit.typeIs (AA2 (AA0 (ABR ho hd ?_)))) | refine AA0 (ACS hit.typeIs (AA2 (AA0 (ABR ho hd ?_))))
 simp only[show ABV "dict_valueiterator" = false by decide,AAA,if_false]
 refine(show wpAny (model prog w) _ (if (ABf d==ABi)=true then _ else _) _ _ s from ?_)
 rw[if_neg (by exact ABJ)]
 refine AA0 (AA2 (AA0 (ACQ k1 k3 ?_)))
 rw[if_neg (by simp)]
 refine AA0 (AA2 (AA0 (ACt k1 k3 ?_)))
 rw[if_neg (by simp)]
 refine AA2 ?_
 simp only[show ¬((es.size:Int)<0)from by lia,if_false,ABU,ABh (AA8 es.size)]
 refine AA0 ?_
 first | refine AA0 (AC2 hit.typeIs (AA2 ?_)) | refine AA0 (ACS hit.typeIs (AA2 ?_))
 refine(show wpAny (model prog w) _ (setField (.ref it) 0 .none >>= _) _ _ s from AA0 (ABq ho hd (by simp) ?_))
 refine(show wpAny (model prog w) _ (newExc (.type "StopIteration") [] >>= _) _ _ _ from AA0 ?_)
 simp only[newExc,newTuple]
 refine AA0 (AAh ?_ (by size_fits))
 refine AA0 (m:=firstArgMember _ _) (wpAny_of_eq (a:=ABi) (by first | rfl | (simp only[firstArgMember];rfl)) ?_)
 refine AAh ?_ (by size_fits)
 simp only[raiseNew]
 refine AA0 (wpAny_handled ?_)
 rw[show A.in1.handled=none from hh]
 refine AA0 (AA2 (wpAny_throw ?_))
 refine AA0 (ACG (b:=true) (T:="StopIteration") ⟨_,AAB _ rfl,rfl⟩ isSubtype_stop ?_)
 exact AA2 (hQ _ (((AAl ..).extBut.push _).push _))
theorem tD(hh:A.handled=none)(I:Addr)(hne:d≠I):Walks prog w A I [I,d] [I] es.size (λi v=>∃e,es[i]?=some e/\v=e.val) (λi h=>h.IsValIter I d i es.size ep/\cG h d es ep) where
 sub:=λb hb=>by simp at hb;simp[hb]
 frame:=λ_ _ _ st hk=>⟨st.1.at λo e=>hk I (by simp) o e,st.2.to λo e=>hk d (by simp) o e⟩
 item:=λi s Q E hi st hQ=>oi st.1 st.2 hi λh' hit' hs'=>hQ _ h' s.toks ⟨es[i],by simp[hi],rfl⟩ ⟨hit',st.2.to λo e=>hs'.extBut d o hne e⟩ λb o hb e=>hs'.extBut b o (λh=>hb (by simp[h])) e
 done:=λs Q E st hQ=>rK hh st.1 st.2 λh' he'=>hQ h' s.toks λb o hb e=>he' b o (λh=>hb (by simp[h])) e
 self:=λ_ _ _ _ st hQ=>wpAny_pyIter_valiter st.1 hQ
end
noncomputable def Itv(a:Addr)(n:Nat):It :=
 ⟨λi H=>∃xs x v,H a=some (.ext (dX a xs))/\xs.length=n/\xs[i]?=some x/\aI v x.2.2,λi H v H'=>H'=H/\∀xs,H a=some (.ext (dX a xs))->∃x,xs[i]?=some x/\aI v x.2.2,λi H=>(∃xs,H a=some (.ext (dX a xs))/\xs.length=n)/\i=n⟩
theorem tY{P:Program}{w:World}{K:AA3}{tg:Expr}(a it:Addr)(n:Nat):Turn P w K tg (Itv a n) [it] it (λi h=>h.IsValIter it a i n n) where
 mem:=by simp
 obj:=λi h st b hb=>by
  obtain rfl:b=it:=by simpa using hb
  obtain⟨o,e,c,d⟩:=st
  exact⟨o,e,λv z=>by rw[d]at z;cases z⟩
 keep:=λi h h' st k=>st.at λo e=>k it (by simp) o e
 item:=by
  intro X hP hw hK hc i pins s σ H E I hf st hg
  subst hP hw hK
  obtain⟨xs,x,v,hH,rfl,hx,hv⟩:=hg
  obtain⟨es,em,el,eg⟩:=gq I hH
  obtain⟨e,e1,e2,e3⟩:=eg i x hx
  obtain⟨f0,f1,f2,f3,f4,f5⟩:=hf it (by simp)
  have hi':i<es.size:=(AAi.mp e1).1
  have ee:es[i]=e:=by
   rw[AAH hi']at e1
   exact AAN e1
  rw[<-el]at em st
  refine oi st em hi' λh' st' sb=>?_
  rw[ee,e3]
  have I1:Inv X pins σ H { s with heap:=h' }:=I.turned (t':=s.toks) (λb o hb e=>(sb.2 b hb).trans e) f0 f1 f3 f4 f5
  obtain⟨o,q1,q2,q3⟩:=id st'
  refine⟨_,rfl,tj (s:={ s with heap:=h' }) q1 q2 q3 (by decide) ⟨v,H,I1,hv,⟨rfl,λys hy=>?_⟩,by rw[el]at st';exact st',λb hb=>(hf b hb).1⟩⟩
  obtain⟨es',em',el',eg'⟩:=gq I hy
  obtain⟨rfl,ep⟩:=rL em em'
  have hj:i<ys.length:=by lia
  obtain⟨e',z1,_,z2⟩:=eg' i ys[i] (AA5 hj)
  rw[AAH hi',ee]at z1
  obtain rfl:=AAN z1
  rw[e3]at z2
  exact⟨ys[i],AA5 hj,by rw[<-z2];exact hv⟩
 done:=by
  intro X hP hw hK hc i pins s σ H E I hf st hg
  subst hP hw hK
  obtain⟨⟨xs,hH,rfl⟩,rfl⟩:=hg
  obtain⟨es,em,el,eg⟩:=gq I hH
  obtain⟨f0,f1,f2,f3,f4,f5⟩:=hf it (by simp)
  rw[<-el]at em st
  exact rK (I.ok.hd hc) st em λh' he=>⟨rfl,I.turned (t':=s.toks) (λb o hb e=>he b o hb e) f0 f1 f3 f4 f5⟩
 self:=λA i s Q E st hQ=>wpAny_pyIter_valiter st hQ
section
variable{X:Cx}{tg o:Expr}{to:DTE}{apos cpos:Pos}
def rN(to:DTE):DTI:=λS M R=>to S M λd M1=>match d with
 | .ref n=>∃kvs,M1[n]?=some (.dkt kvs)/\(kvs.length<=sizeLine->R ⟨kvs.map (·.2),λM=>M[n]?=some (.dkt kvs)⟩ M1)
 | _=>False
theorem yx(ho:DE X o to)(hbase:attributeBase o "values" X.env (eval o X.env)=eval o X.env:=by rfl)(hline:(apos.endLine==cpos.line)=true:=by rfl):DI X tg (.Call (.Attribute o "values" apos) [] [] cpos) (rN to):=by
 intro pins s σ H R I h
 obtain⟨S,M,ρ,Q,sm,sr,q,k⟩:=h
 refine wpAny_Call_method0_late hbase hline (thn (ho pins s σ H _ I ⟨S,M,ρ,_,sm,sr,q,λv H' w=>w⟩) ?_)
 rintro u s1 ⟨v,H1,I1,rv,d,M1,ρ1,sm1,g1,r1,q1⟩
 cases r1 with
 | @ref n a hn =>
  cases rv
  obtain⟨kvs,hM,q2⟩:=(show ∃kvs,M1[n]?=some (.dkt kvs)/\(kvs.length<=sizeLine->Q ⟨kvs.map (·.2),λM=>M[n]?=some (.dkt kvs)⟩ M1)from q1)
  obtain⟨xs,hH,r,dd,hsm,hz,hx,nd⟩:=eZ I1 sm1 hn hM
  obtain⟨es,em,el,_⟩:=gq I1 hH
  refine⟨"dict","dict.values",ADa,ADM,PySem.F.type_dict_values,dd.typeIs,λb z=>?_,ACf rfl (PySem.evalArgs_none (kW hsm em ?_))⟩
  ·cases z
   obtain⟨ob,_,_,h1,h2,_⟩:=dd
   exact⟨ob,h1,h2.2.1⟩
  have I2:Inv X pins σ H1 { s1 with heap:=s1.heap.push { cls:=.type "dict_values",data:=.fields #[.ref a] } }:=I1.kept (t':=s1.toks) λb o e=>AA4 _ e
  have em2:cG ({ s1 with heap:=s1.heap.push { cls:=.type "dict_values",data:=.fields #[.ref a] } }:Shared).heap a es xs.length:=em.to λo e=>AA4 _ e
  refine oj (d:=a) ⟨_,AAB _ rfl,rfl,rfl⟩ em2 ?_
  rw[el]
  have fin:∀s2:Shared,Inv X pins σ H1 s2->PIE X pins σ tg R (.ref s2.heap.objs.size) { s2 with heap:=s2.heap.push { cls:=.type "dict_valueiterator",data:=.fields #[.ref a,.int 0 0,.int xs.length 0,.int xs.length 0] } }:=λs2 I2=>by
   refine⟨s2.heap.objs.size,[s2.heap.objs.size],_,_,H1,rfl,I2.kept (t':=s2.toks) λb o e=>AA4 _ e,tY a _ xs.length,⟨_,AAB _ rfl,rfl,rfl⟩,λb hb=>?_,k _ H1 ⟨⟨kvs.map (·.2),λM=>M[n]?=some (.dkt kvs)⟩,M1,ρ1,sm1,g1,?_,q2 hz⟩⟩
   ·obtain rfl:b=s2.heap.objs.size:=by simpa using hb
    exact I2.fpOk (AA8 _) (I2.hok.fresh (AA8 _))
   ·refine⟨λi ρ' M' H' s' g ok hi=>?_,λi ρ' M' H' x H2 s' g ok hi y=>?_,λρ' M' H' s' g ok=>?_⟩
    ·obtain⟨_,_,_,ys,hy,ry⟩:=s'.obj _ _ _ (ar g.pre hn) ok
     have ly:ys.length=kvs.length:=by have:=congrArg ABk (fu ry);rwa [AA6,AA6]at this
     rw[AA6]at hi
     have hj:i<ys.length:=by lia
     obtain⟨p,_,_,_,_,v,_,rv⟩:=cD ry (AA5 hj)
     exact⟨ys,ys[i],v,hy,by lia,AA5 hj,rv⟩
    ·obtain⟨rfl,hall⟩:=y
     obtain⟨_,_,_,ys,hy,ry⟩:=s'.obj _ _ _ (ar g.pre hn) ok
     obtain⟨z,hz1,rz⟩:=hall ys hy
     obtain⟨p,hp,_,_,_,v,rp,rv⟩:=cD ry hz1
     obtain rfl:x=v:=rz.inj rv
     exact⟨p.2,ρ',by rw[AAT,hp];rfl,s',.refl,rp⟩
    ·obtain⟨_,_,_,ys,hy,ry⟩:=s'.obj _ _ _ (ar g.pre hn) ok
     have ly:ys.length=kvs.length:=by have:=congrArg ABk (fu ry);rwa [AA6,AA6]at this
     exact⟨⟨ys,hy,by lia⟩,by rw[AA6];lia⟩
  exact fin _ I2
 | _=>exact q1.elim
end
section
variable{prog:Program}{w:World}{d r:Addr}{es:Array DictEntry}{ep:Nat}
theorem yq:KdlSrc prog w "dict_values" r d es.size (λi v=>∃e,es[i]?=some e/\v=e.val) (λh=>h.IsValuesView r d/\cG h d es ep) where
 type:=λ_ hm=>hm.1.typeIs
 there:=λ_ hm=>⟨let ⟨_,ho,_⟩:=hm.1;AAF ho,hm.2.lt⟩
 keep:=λ_ _ hm hk=>⟨let ⟨o,ho,x⟩:=hm.1;⟨o,hk r (.inl rfl) o ho,x⟩,hm.2.to λo e=>hk d (.inr rfl) o e⟩
 notList:=by decide
 notTuple:=by decide
 hint:=λ_ _ _ _ hm hq=>kdl_hint_values hm.1.typeIs hq
 iter:=λ_ _ hh hm=>⟨_,_,(λ_ _ hq=>oj hm.1 hm.2 hq),tD hh _ (AAK hm.2.lt),⟨⟨_,AAB _ rfl,rfl,rfl⟩,hm.2.to λo e=>AA4 _ e⟩⟩
end
theorem tV{K:AA3}{ρ:List Addr}{H:Hp}{kvs:List (D×D)}{xs:List (D×Addr×Value)}(r:Paired (rX K ρ H) kvs xs):∃ws,Reps K ρ H (kvs.map (·.2)) ws/\au ws (xs.map λx=>x.2.2):=by
 induction r with
 | nil=>exact⟨[],.nil,.nil⟩
 | cons h t ih =>
  obtain⟨_,_,_,v,q1,q2⟩:=h
  obtain⟨ws,h1,h2⟩:=ih
  exact⟨v::ws,.cons q1 h1,.cons q2 h2⟩
section
variable{X:Cx}{o:Expr}{to:DTE}{apos cpos p pos:Pos}{k:Nat}
def gx(to:DTE):DTE:=λS M Q=>to S M λd M1=>match d with
 | .ref n=>∃kvs,M1[n]?=some (.dkt kvs)/\Q (.ref M1.length) (M1++[.lst (kvs.map (·.2))])
 | _=>False
theorem tG(hc:X.calm=true)(ho:DE X o to)(hm:X.mg "list" = none)(hg:X.env.kindOf "list" = some .globalImplicit)
  (hs:starEach [AE9 (.Attribute o "values" apos) [] [] cpos] X.env=[(false,eval (AE9 (.Attribute o "values" apos) [] [] cpos) X.env)])
  (hbase:attributeBase o "values" X.env (eval o X.env)=eval o X.env) (hline:(apos.endLine==cpos.line)=true) :
  DE X (.Call (.Name "list" p) [.Call (.Attribute o "values" apos) [] [] cpos] [] pos) (gx to):=by
 rintro pins s σ H R I ⟨S,M,ρ,Q,sm,sr,q,kk⟩
 refine ABW (gi I hg hm (by rfl) ?_)
 refine callWith_type1 ?_ (by rw[hs];rfl) rfl
 rw[hs]
 refine ADQ (wpAny_Call_method0_late hbase hline (thn (ho pins s σ H _ I ⟨S,M,ρ,_,sm,sr,q,λv H' w=>w⟩) ?_))
 rintro u s1 ⟨v,H1,I1,rv,x,M1,ρ1,sm1,g1,r1,q1⟩
 cases r1 with
 | @ref n a hn =>
  cases rv
  obtain⟨kvs,hM,q2⟩:=(show ∃kvs,M1[n]?=some (.dkt kvs)/\Q (.ref M1.length) (M1++[.lst (kvs.map (·.2))])from q1)
  obtain⟨xs,hH,r,dd,hsm,hz,hx,nd⟩:=eZ I1 sm1 hn hM
  obtain⟨es,em,el,eg⟩:=gq I1 hH
  refine⟨"dict","dict.values",ADa,ADM,PySem.F.type_dict_values,dd.typeIs,λb z=>?_,ACf rfl (PySem.evalArgs_none (kW hsm em ?_))⟩
  ·cases z
   obtain⟨ob,_,_,h1,h2,_⟩:=dd
   exact⟨ob,h1,h2.2.1⟩
  refine ADf ?_
  have I2:Inv X pins σ H1 { s1 with heap:=s1.heap.push { cls:=.type "dict_values",data:=.fields #[.ref a] } }:=I1.kept (t':=s1.toks) λb o e=>AA4 _ e
  have em2:cG ({ s1 with heap:=s1.heap.push { cls:=.type "dict_values",data:=.fields #[.ref a] } }:Shared).heap a es xs.length:=em.to λo e=>AA4 _ e
  have vw:({ s1 with heap:=s1.heap.push { cls:=.type "dict_values",data:=.fields #[.ref a] } }:Shared).heap.IsValuesView s1.heap.objs.size a:=⟨_,AAB _ rfl,rfl,rfl⟩
  generalize ({ s1 with heap:=s1.heap.push { cls:=.type "dict_values",data:=.fields #[.ref a] } }:Shared)=s2 at I2 em2 vw ⊢
  refine kdl_call (yq (es:=es) (ep:=xs.length)) (I2.ok.hd hc) ⟨vw,em2⟩ (by lia) λh' tk acc' c' hk hD hacc=>?_
  obtain⟨ws,w1,w2⟩:=tV r
  have ea:acc'.toList=xs.map λx=>x.2.2:=by
   refine ADi λj=>?_
   rw[AAQ,AAT]
   cases hj:xs[j]? with
   | none =>
    have:xs.length<=j:=by rw[List.getElem?_eq_none_iff]at hj;exact hj
    rw[ABh (by have:=hacc.1;lia)];rfl
   | some x =>
    have hlt:=(AA7.mp hj).1
    have hlt':j<acc'.size:=by have:=hacc.1;lia
    obtain⟨e,g1,g2⟩:=hacc.2 j acc'[j] (AAH hlt')
    obtain⟨e',z1,_,z2⟩:=eg j x hj
    rw[g1]at z1
    obtain rfl:=AAN z1
    rw[AAH hlt',g2,z2];rfl
  have hf:H1 s2.heap.objs.size=none:=I2.hok.fresh (AA8 _)
  refine⟨.ref s2.heap.objs.size,_,I2.laid (a:=s2.heap.objs.size) (o:=.lst ws) (t':=tk) hk (AA8 _) ⟨by rw[<-w1.length,AA6];exact hz,acc'.toList,c',by rw[ea];exact w2,by simpa using hD⟩,rfl,kk _ _ (VQ.laidL sm1 g1 w1 hf q2)⟩
 | _=>exact q1.elim
def zK:DR2:=λx y M Q=>match x,y with
 | .tup ks,.ref n=>∃kvs,M[n]?=some (.dkt kvs)/\bL 8 (.tup ks)=true/\Q (.bl (aQ kvs (.tup ks)).isSome) M
 | _,_=>False
def lF:DR2:=λx y M Q=>match x,y with
 | .tup ks,.ref n=>∃kvs,M[n]?=some (.dkt kvs)/\bL 8 (.tup ks)=true/\Q (.bl (!(aQ kvs (.tup ks)).isSome)) M
 | _,_=>False
theorem Dj(hr:Room k X.A):OpD X (compareOp .In) zK:=by
 rintro pins s σ H vx vy v u R I rx ry ⟨x,y,M,ρ,Q,sm,r1,r2,q,kk⟩
 have un:=hr.un
 cases x with
 | tup ks =>
  cases y with
  | ref n =>
   obtain⟨kvs,hM,kd,q⟩:=q
   obtain⟨a,rfl,hn⟩:=Rep.inv_ref r2
   cases ry
   obtain⟨xs,hH,r,dd,hsm,hl,hx,_⟩:=eZ I sm hn hM
   have kat:=cN I 8 _ _ _ r1 rx kd
   obtain⟨b,_,rfl,_⟩:=id kat
   refine wpAny_in_heap (knd:=bx X.prog X.w) (k:=.tup ks) (by show X.A.units+1+8<cLine;lia) kat hsm dd ?_
   have e:(atKey xs (.tup ks)).isSome=(aQ kvs (.tup ks)).isSome:=by
    rcases nU r (.tup ks)with⟨z1,z2⟩|⟨_,_,_,z1,z2,_⟩<;>rw[z1,z2]<;>rfl
   rw[e]
   exact dO (I.tok _) sm kk q
  | _=>exact q.elim
 | _=>exact q.elim
theorem vq(hr:Room k X.A):OpD X (compareOp .NotIn) lF:=by
 rintro pins s σ H vx vy v u R I rx ry ⟨x,y,M,ρ,Q,sm,r1,r2,q,kk⟩
 have un:=hr.un
 cases x with
 | tup ks =>
  cases y with
  | ref n =>
   obtain⟨kvs,hM,kd,q⟩:=q
   obtain⟨a,rfl,hn⟩:=Rep.inv_ref r2
   cases ry
   obtain⟨xs,hH,r,dd,hsm,hl,hx,_⟩:=eZ I sm hn hM
   have kat:=cN I 8 _ _ _ r1 rx kd
   obtain⟨b,_,rfl,_⟩:=id kat
   refine wpAny_notIn_heap (knd:=bx X.prog X.w) (k:=.tup ks) (by show X.A.units+1+8<cLine;lia) kat hsm dd ?_
   have e:(atKey xs (.tup ks)).isSome=(aQ kvs (.tup ks)).isSome:=by
    rcases nU r (.tup ks)with⟨z1,z2⟩|⟨_,_,_,z1,z2,_⟩<;>rw[z1,z2]<;>rfl
   rw[e]
   exact dO (I.tok _) sm kk q
  | _=>exact q.elim
 | _=>exact q.elim
def rO:DTS:=λ_ _ _=>False
theorem yu{st:Stmt}:DS X st rO:=λpins s σ H E I ⟨S,M,ρ,F,sm,sr,q,kk⟩=>q.elim
end
section
variable{X:Cx}{o i e:Expr}{to ti te:DTE}{pos pos' p apos cpos:Pos}{k:Nat}{tg:Expr}{es:List Expr}{t:DTA}{st:Stmt}
theorem DV:HE X (.Dict [] [] pos) qh:=⟨ES⟩
theorem DY(hr:Room k X.A)(ho:HE X o to)(hi:HE X i ti)(hs:NoSl i:=by intro _ _;kernel_rfl):HE X (.Subscript o i pos) (oy to ti):=⟨ET hr ho.ok hi.ok hs⟩
theorem vT(hr:Room k X.A)(ho:HE X o to)(hi:HE X i ti)(hv:HE X e te)(hs:swapsWith e (some (.Subscript o i pos')) pos.line X.env=pure false:=by kernel_rfl):HS X (.Assign [.Subscript o i pos'] e pos) (qg to ti te):=⟨Bl hr ho.ok hi.ok hv.ok hs⟩
theorem AJ(hr:Room k X.A)(ho:HE X o to)(ha:HA X (e::es) t)(hbase:attributeBase o "get" X.env (eval o X.env)=eval o X.env:=by kernel_rfl)
  (hfew:((backTo cpos (starEach (e::es) X.env)).all (λx=>!x.1)&&(backToKw cpos (keywordEach [] X.env)).all (λx=>x.1.isSome)
   && decide ((e::es).length+([]:List Keyword).length+(if ([]:List Keyword).isEmpty then 0 else 1)<30))=true:=by kernel_rfl)
  (hline:(apos.endLine==cpos.line)=true:=by kernel_rfl) (hs:starEach (e::es) X.env=(false,eval e X.env)::starEach es X.env:=by kernel_rfl) (hplain:(backTo cpos (starEach es X.env)).any (·.1)=false:=by kernel_rfl) :
  HE X (.Call (.Attribute o "get" apos) (e::es) [] cpos) (dMt fU to t):=⟨d_mt PySem.F.slot_dict_get PySem.F.type_dict_get (xJ hr) ho.ok ha.ok hbase hfew hline hs hplain⟩
theorem xX(h:HE X e te):HI X tg e (rP te):=⟨yy h.ok⟩
theorem xW(ho:HE X o to)(hbase:attributeBase o "values" X.env (eval o X.env)=eval o X.env:=by kernel_rfl)(hline:(apos.endLine==cpos.line)=true:=by kernel_rfl):HI X tg (.Call (.Attribute o "values" apos) [] [] cpos) (rN to):=⟨yx ho.ok hbase hline⟩
theorem sX(ho:HE X o to)(hm:X.mg "list" = none)(hc:X.calm=true:=by kernel_rfl)(hg:X.env.kindOf "list" = some .globalImplicit:=by kernel_rfl)
  (hs:starEach [AE9 (.Attribute o "values" apos) [] [] cpos] X.env=[(false,eval (AE9 (.Attribute o "values" apos) [] [] cpos) X.env)]:=by kernel_rfl)
  (hbase:attributeBase o "values" X.env (eval o X.env)=eval o X.env:=by kernel_rfl) (hline:(apos.endLine==cpos.line)=true:=by kernel_rfl) :
  HE X (.Call (.Name "list" p) [.Call (.Attribute o "values" apos) [] [] cpos] [] pos) (gx to):=⟨tG hc ho.ok hm hg hs hbase hline⟩
theorem Ek(hr:Room k X.A):HOp X (compareOp .In) zK:=⟨Dj hr⟩
theorem wd(hr:Room k X.A):HOp X (compareOp .NotIn) lF:=⟨vq hr⟩
theorem rE:HS X st rO:=⟨yu⟩
end
theorem rG{K:AA3}{ρ:List Addr}{H:Hp}:∀{ns:List Int}{ws:List V}{its:List Value},Reps K ρ H (ns.map D.int) ws->au ws its->IntsAre its ns
 | [],_,_,r,v=>by cases r;cases v;exact .nil
 | n::ns,_,_,r,v=>by
  rw[AAe]at r
  first | have hzz:=Reps.inv_cons r | have hzz:=au.inv_cons r
  clear r
  obtain⟨_,_,rfl,h,t⟩:=hzz
  cases h
  cases v with
  | cons q q' =>
   obtain⟨tk,rfl⟩:=q
   exact .cons _ _ (rG t q')
section
variable{X:Cx}{k:Nat}
def uQ:DRA:=λds M Q=>match ds with
 | [.ref n]=>∃ns:List Int,ao M n (ns.map D.int)/\ns≠[]/\∀m,m∈ns->(∀a∈ns,a<=m)->Q (.int m) M
 | _=>False
theorem Bz(hc:X.calm=true):my X (.builtin "max") uQ:=by
 rintro pins s σ H vs us R I rv ⟨ds,M,ρ,Q,sm,rs,q,kk⟩
 unfold uQ at q
 split at q
 ·obtain⟨ns,hL,hne0,q⟩:=q
  first | have hzz:=Reps.inv_cons rs | have hzz:=au.inv_cons rs
  clear rs
  obtain⟨_,_,rfl,r1,rs⟩:=hzz
  cases rs
  obtain⟨u,rfl,e1⟩:=au.one rv
  obtain⟨a,rfl,e⟩:=Rep.inv_ref r1
  cases e1
  obtain⟨ws,hq,r⟩:=ao.seq sm hL e
  obtain⟨its,rr,pl,hz⟩:=I.list hq
  obtain⟨m,hn,hm⟩:=I.loc
  obtain⟨oa,nn,hoa,hca,hdict,hdata⟩:=id pl
  have hne:a≠X.env.locals:=λz=>by
   subst z
   obtain⟨o,es,ep,e,hd,_⟩:=hn
   rw[hoa]at e
   cases e
   rw[hd]at hdata
   cases hdata
  have mem:∀b o,b≠X.env.locals->s.heap.get? b=some o->(b,o)∈[]++(a,oa)::Att.ledger s.heap X.env.locals a:=λb o h1 h2=>by
   rw[AB6,AAM,Att.mem_ledger]
   by_cases hal:b=a
   ·subst hal
    rw[hoa]at h2;cases h2
    exact .inl rfl
   ·exact .inr ⟨h1,hal,h2⟩
  refine max_list_N (I.ok.hd hc) (Att.fr_all hn) (Att.news_ledger hne hoa) pl.isList (rG r rr) (List.length_pos_iff.mpr hne0) λh' mm t tk F' N' h1 h2=>?_
  have kp:∀b u,b≠X.env.locals->s.heap.get? b=some u->h'.get? b=some u:=λb u hb e=>(N' (b,u) (mem b u hb e)).1
  exact⟨.int mm,H,I.keptF (t':=tk) kp hn F'.ns,⟨t,rfl⟩,kk _ _ ⟨.int mm,M,ρ,sm,.refl,.int mm,q mm h1 h2⟩⟩
 ·exact q.elim
theorem Fa:bootBuiltins "max" = some (.builtin "max"):=by decide +kernel
theorem AY(hc:X.calm=true:=by kernel_rfl):HC X (.builtin "max") uQ:=⟨Bz hc⟩
end
end L2
namespace L2
open PySem PySem.Spec PyProof.Rows DL PySem.W PySem.Calls PyProof.V
structure PairsAt(es:Array DictEntry)(lo:Addr)(h:Heap)(as:List Addr):Prop where
 nd:as.Nodup
 above:∀a∈as,lo<a
 tup:∀(j:Nat) (a:Addr),as[j]?=some a->∃e,es[j]?=some e/\h.get? a=some { cls:=.type "tuple",data:=.seq #[e.key,e.val] }
end L2
namespace L2
open PySem PySem.Spec PyProof.Rows DL PySem.W
section
variable{X:Cx}
def BK:DR2:=λx y M Q=>match x,y with
 | .int i,.int j=>CPow i j/\Q (.int (i*2 ^ j.toNat)) M
 | _,_=>False
theorem Dg:OpD X (binaryOp .LShift) BK:=by
 refine OpR.imp CV ?_
 rintro vx vy H R ⟨x,y,M,ρ,Q,sm,r1,r2,q,k⟩
 unfold BK at q
 split at q
 ·cases r1
  cases r2
  exact⟨_,_,rfl,rfl,q.1,k _ H (VQ.now sm (.int _) q.2)⟩
 ·exact q.elim
theorem Eg:HOp X (binaryOp .LShift) BK:=⟨Dg⟩
theorem sY(hr:Room k X.A):HC X (.builtin "sorted") iZ:=⟨wJ hr⟩
end
noncomputable def dictOf(ps:List (D×D)):List (D×D):=ps.foldl (λkvs p=>eV kvs p.1 p.2) []
theorem cf:dictOf (ps++[p])=eV (dictOf ps) p.1 p.2:=by
 unfold dictOf
 rw[List.foldl_append];rfl
theorem nY:∀(ps kvs:List (D×D)),(ps.foldl (λkvs p=>eV kvs p.1 p.2) kvs).length<=kvs.length+ps.length
 | [],_=>AA8 _
 | p::ps,kvs=>by
  have h1:=nY ps (eV kvs p.1 p.2)
  have h2:=qZ (kvs:=kvs) (k:=p.1) (d:=p.2)
  rw[List.foldl_cons,AAL];lia
theorem kX:(dictOf ps).length<=ps.length:=by
 have:=nY ps []
 rw[AAq,Nat.zero_add]at this
 exact this
theorem oh:entryFor table "dict.update.loop" = some Builtin.«dict.update.loop»:=entryFor_of_tree (by kernel_rfl)
theorem fW:plainId "dict.update.loop" = true:=by decide +kernel
theorem gO:typeLookup (.type "list") "__getattr__" = pure none:=by rw[AE6,ACp];kernel_rfl
theorem jU:typeLookup (.type "list") "keys" = pure none:=by rw[AE6,ACp];kernel_rfl
section
variable{prog:Program}{w:World}{A:Around}{E:Value->Shared->Prop}{h:Heap}{g:Array GenState}{d:Drawn}{t:Nat}{os:OsState}{a:Addr}{o:Obj}
theorem vI(hx:h.get? a=some o)(hc:o.cls=.type "list")(hdict:o.dict=none)(hdat:o.data=.seq its nn)(hA:A.handled=none)(hq:∀h' tk e,Heap.NewAttrErr h h' e (.ref a) "keys"->R (.error (.ref e)) ⟨h',g,d,tk,os⟩) :
  codeAny (model prog w) A (.call (.builtin "list.__getattribute__") ⟨[.ref a,.str "keys" u],[]⟩) R ⟨h,g,d,t,os⟩:=by
 obtain⟨oc,od,odt,osl⟩:=o
 obtain rfl:oc=.type "list":=hc
 obtain rfl:od=none:=hdict
 obtain rfl:odt=.seq its nn:=hdat
 have hT:(⟨h,g,d,t,os⟩:Shared).TypeIs (.ref a) "list":=⟨_,hx,rfl⟩
 have f4:=jU
 refine AD6 ABw.plain PySem.F.entry_list_ga (ABw.check _ _ _ _ _ _ _ _ hT (PySem.F.args_list_getattribute_2 _ _) ?_)
 unfold Builtin.«object.__getattribute__»
 repeat (any_goals (first | assumption | wp_step))
 refine wpAny_raiseAttrError (o:=.ref a) (name:="keys") (by first | exact hA | simpa using hA) hq ?_
 exact attrMsg_fits (by decide +kernel) (by size_fits)
theorem pN(hx:h.get? a=some o)(hc:o.cls=.type "list")(hdict:o.dict=none)(hdat:o.data=.seq its nn)(hA:A.handled=none)(hq:∀h' tk,(∀b ob,h.get? b=some ob->h'.get? b=some ob)->Q none ⟨h',g,d,tk,os⟩) :
  wpAny (model prog w) A (getAttr? (.ref a) "keys") Q E ⟨h,g,d,t,os⟩:=by
 obtain⟨oc,od,odt,osl⟩:=o
 obtain rfl:oc=.type "list":=hc
 obtain rfl:od=none:=hdict
 obtain rfl:odt=.seq its nn:=hdat
 have hT:∀tk,(⟨h,g,d,tk,os⟩:Shared).TypeIs (.ref a) "list":=λ_=>⟨_,hx,rfl⟩
 have f1:=sub_AttributeError
 have f2:=ABw.lookup
 have f3:=ABw.bind (.ref a)
 have f5:=gO
 unfold getAttr? getAttrBy? getAttrBy
 repeat (any_goals (first | assumption | exact hT _ | wp_step))
 refine vI hx rfl rfl rfl (by first | exact hA | simpa using hA) λh' tk e hx'=>?_
 obtain⟨t',u',he⟩:=hx'.there
 unfold getattributeRaised
 repeat (any_goals (first | assumption | wp_step))
 exact hq _ _ hx'.keeps
end
theorem EC(hu:(bx prog w).room A)(kat:(bx prog w).is s.heap k b)
  (hm:s.heap.DictOfH (bx prog w) d xs) (hx:dX d xs prog w s.heap) (hz:xs.length<=sizeLine)
  (hQ:∀h',dX d (storedH xs k b v) prog w h'->AC4 d s.heap h'->Q () { s with heap:=h',toks:=s.toks+(bx prog w).draws k }):wpAny (model prog w) A (dictSet d (.ref b) v) Q E s:=by
 obtain⟨_,_,_,_,_,_,_,his,hn⟩:=hm
 obtain⟨o,es,ho,hc,hd,he'⟩:=hx
 have he:es.toList=xs.map (entryOfKey (bx prog w)):=he'
 unfold dictSet
 try with_reducible refine AAd ?_
 refine AA0 ((bx prog w).pyHash hu kat ?_)
 unfold dictSetHashed
 try with_reducible refine AAd ?_
 have hl:es.size=xs.length:=size_of_entries he
 refine AA0 (wpAny_dictFind_heap (s:={ s with toks:=s.toks+(bx prog w).draws k }) hu kat ho hd he his hn (λhno=>?_) λj p hj=>?_)
 ·refine AA0 (ACx (wpAny_updateDictKeys (hz:=by lia) (s:={ s with toks:=s.toks+(bx prog w).draws k }) ho hd (hQ _ ⟨_,es.push ⟨(bx prog w).hash k,.ref b,v⟩,AAc _ ho (ADI (AD7 hd _)),hc.mapDictKeys _,?_,?_⟩ (AAl ..))))
  ·rw[AD7 hd,storedH_new (ADm hno),AAE];rfl
  ·rw[storedH_new (ADm hno)]
   rw[Array.toList_push,he,AB8]
   rfl
 ·refine AA0 (ACx (AA0 (wpAny_updateDict (s:={ s with toks:=s.toks+(bx prog w).draws k }) ho hd (wpAny_point (hQ _ ⟨_,es.modify j λe=>{ e with val:=v },AAc _ ho (ADI (ADw hd _)),hc.mapDict _,?_,?_⟩ (AAl ..))))))
  ·rw[ADw hd,storedH_old (atKey_of_get hn hj),AA6]
  ·rw[storedH_old (atKey_of_get hn hj)]
   have q:=modify_map_putAt (entryOfKey (bx prog w)) (λe:DictEntry=>{ e with val:=v }) k v (λ_ _=>rfl) hn hj
   rw[<-he]at q
   obtain⟨l⟩:=es
   have q2:(Array.modify ⟨l⟩ j λe:DictEntry=>{ e with val:=v }).toList=(xs.map (putAt k v)).map (entryOfKey (bx prog w)):=by simpa using q
   exact q2
section
variable{X:Cx}{pins:List (Addr×Obj)}{σ:St}{H:Hp}{ρ:List Addr}{M:Mem}{A:Around}{E:Value->Shared->Prop}{s:Shared}
structure DD(X:Cx)(ρ:List Addr)(H:Hp)(h:Heap)(a:Addr)(kvs:List (D×D))(xs:List (D×Addr×Value)):Prop where
 dx:dX a xs X.prog X.w h
 kv:Paired (rX X.K ρ H) kvs xs
 nd:(kvs.map (·.1)).Nodup
theorem DD.at(x:DD X ρ H h a kvs xs)(k:∀o,h.get? a=some o->h'.get? a=some o):DD X ρ H h' a kvs xs:=by
 obtain⟨⟨o,es,e1,e2,e3,e4⟩,kv,nd⟩:=x
 exact⟨⟨o,es,k _ e1,e2,e3,e4⟩,kv,nd⟩
theorem DD.len(x:DD X ρ H h a kvs xs):xs.length=kvs.length:=by
 have:=congrArg ABk (fu x.kv)
 rwa [AA6,AA6]at this
theorem DD.of(I:Inv X pins σ H s)(x:DD X ρ H s.heap a kvs xs):s.heap.DictOfH (bx X.prog X.w) a xs:=by
 obtain⟨o,es,e1,e2,e3,e4⟩:=x.dx
 have ek:=fu x.kv
 refine⟨o,es,_,e1,e2,e3,e4,λy hy=>?_,by rw[ek];exact x.nd⟩
 obtain⟨i,hi⟩:=AB3 hy
 obtain⟨p,_,q1,q2,q3,_⟩:=cD x.kv hi
 rw[<-q1]
 exact cN I 8 _ _ _ q3 rfl q2
theorem Bt(I:Inv X pins σ H s)(hu:A.units+20<cLine)(W:Walks X.prog X.w A.in1 J fp wr m P Sx)(S:Addr)(hSf:S∉fp)
  (hS0:s.heap.get? S=none) (hw0:∀b∈wr,s.heap.get? b=none) (ps:List (D×D)) (hm:ps.length=m) (hval:∀i v,P i v->∃p,ps[i]?=some p/\(∃vv,Rep X.K ρ H (.tup [p.1,p.2]) vv/\aI vv v)/\bL 8 p.1=true/\eY p.1=true) (hb:m<=1000) :
  ∀(k i:Nat) (h:Heap) (tk:Nat) (xs:List (D×Addr×Value)) (j:Int) (t:Tok),m-i=k->i<=m->Sx i h->DD X ρ H h S (dictOf (ps.take i)) xs->(∀b u,s.heap.get? b=some u->h.get? b=some u) ->
   (∀h' tk xs',(∀b u,s.heap.get? b=some u->h'.get? b=some u)->DD X ρ H h' S (dictOf ps) xs'->R (.ok (.ret .none)) { s with heap:=h',toks:=tk }) ->
   codeAny (model X.prog X.w) A (.builtin "dict.update.loop" ⟨[.ref S,.ref J,.int j t,.none],[]⟩) R { s with heap:=h,toks:=tk }:=by
 have hSw:S∉wr:=λh=>hSf (W.sub _ h)
 intro k
 induction k with
 | zero =>
  intro i h tk xs j t hk hi hst hS hold hR
  obtain rfl:i=m:=by lia
  refine ABQ oh ?_
  rw[ABa fW _]
  refine(show wpAny (model X.prog X.w) A.in1 (pyNext (.ref J) >>= _) _ _ _ from AA0 (W.done _ _ _ hst λh' tk hk'=>?_))
  rw[<-hm,ACB]at hS
  refine(show wpAny (model X.prog X.w) A.in1 (Builtin.Dict.addKeywords S [] >>= _) _ _ _ from AA0 (AA2 (AA2 ?_)))
  exact hR h' tk xs (λb u e=>hk' b u (λz=>by rw[hw0 b z]at e;cases e) (hold b u e)) (hS.at λo e=>hk' S o hSw e)
 | succ k ih =>
  intro i h tk xs j t hk hi hst hS hold hR
  refine ABQ oh ?_
  rw[ABa fW _]
  refine(show wpAny (model X.prog X.w) A.in1 (pyNext (.ref J) >>= _) _ _ _ from AA0 (W.item i _ _ _ (by lia) hst λv h' tk hP hst' hk'=>?_))
  obtain⟨p,hp,⟨vv,r,rv⟩,kd,it⟩:=hval i v hP
  have old':∀b u,s.heap.get? b=some u->h'.get? b=some u:=λb u e=>hk' b u (λz=>by rw[hw0 b z]at e;cases e) (hold b u e)
  have I':Inv X pins σ H { s with heap:=h',toks:=tk }:=I.kept old'
  have hS':=hS.at λo e=>hk' S o hSw e
  have hl:=hS'.len
  have dl:=kX (ps:=ps.take i)
  have dd:=hS'.of (s:={ s with heap:=h',toks:=tk }) I'
  obtain⟨a,vs,rfl,hq,rr⟩:=Rep.inv_tup r
  cases rv
  first | have hzz:=Reps.inv_cons rr | have hzz:=au.inv_cons rr
  clear rr
  obtain⟨_,_,rfl,r1,rr⟩:=hzz
  first | have hzz:=Reps.inv_cons rr | have hzz:=au.inv_cons rr
  clear rr
  obtain⟨_,_,rfl,r2,rr⟩:=hzz
  cases rr
  obtain⟨its,r2',pl,hz⟩:=I'.tuple hq
  obtain⟨u1,u2,rfl,e1,e2⟩:=au.two r2'
  obtain⟨k0,d0⟩:=p
  cases k0 with
  | tup ks =>
   have kat:=cN I' 8 _ _ _ r1 e1 kd
   obtain⟨b,_,rfl,_⟩:=id kat
   obtain⟨_,_,rfl,hq1,rr1⟩:=Rep.inv_tup r1
   cases e1
   obtain⟨o,ho,hc,nn,hd⟩:=pl
   have hT:({ s with heap:=h',toks:=tk }:Shared).TypeIs (.ref a) "tuple":=⟨o,ho,hc⟩
   refine AA0 (AAd (AA0 (wpAny_tryCatch ?_)))
   unfold Builtin.Dict.pairItems
   refine AA0 (ACV hT ?_)
   rw[if_pos (by decide)]
   refine AA0 (ACd ho hd (AA2 ?_))
   refine(show wpAny (model X.prog X.w) _ (holding [.ref b,u2] (dictSet S (.ref b) u2)) _ _ _ from AAd ?_)
   refine EC (k:=.tup ks) (s:={ s with heap:=h',toks:=tk }) (by show A.units+1+8<cLine;lia) kat dd hS'.dx (ap (by rw[hl];rw[AAx]at dl;lia)) λh2 dx2 sb=>?_
   have k2:∀b u,b≠S->h'.get? b=some u->h2.get? b=some u:=λb u hb e=>(sb.2 b hb).trans e
   have kv2:=yY hS'.kv kd (.tup hq1 rr1) r2 e2
   have et:ps.take (i+1)=ps.take i++[(.tup ks,d0)]:=by rw[AD4,hp];rfl
   refine AA2 ⟨AD1 fW _,ih (i+1) h2 _ _ _ _ (by lia) (by lia) (W.frame _ h' h2 hst' λb' hb' o e=>k2 b' o (λz=>hSf (z ▸ hb')) e) ⟨dx2,?_,?_⟩ (λb u e=>k2 b u (λz=>by rw[z,hS0]at e;cases e) (old' b u e)) hR⟩
   ·rw[et,cf];exact kv2
   ·rw[et,cf];exact pj hS'.nd
  | _=>cases it
theorem BB(I:Inv X pins σ H s)(hu:A.units+30<cLine)(hh:A.handled=none)(hl:s.heap.IsList l its)(hol:s.heap.get? l=some ol)(hdict:ol.dict=none)(ps:List (D×D))(hm:ps.length=its.size)
  (hval:∀(i:Nat) v,its[i]?=some v->∃p:D×D,ps[i]?=some p/\(∃vv,Rep X.K ρ H (.tup [p.1,p.2]) vv/\aI vv v)/\bL 8 p.1=true/\eY p.1=true) (hb:its.size<=1000)
  (h:∀h' tk xs,(∀b u,s.heap.get? b=some u->h'.get? b=some u)->DD X ρ H h' s.heap.objs.size (dictOf ps) xs->Q (.ref s.heap.objs.size) { s with heap:=h',toks:=tk }) :
  wpAny (model X.prog X.w) A (call (.type "dict") [.ref l]) Q E s:=by
 refine callType_codes (Q₁:=λobj s₁=>obj=.ref s.heap.objs.size/\s₁={ s with heap:=s.heap.push { cls:=.type "dict",data:=.dict #[] } }) PySem.F.kt_called_dict (PySem.F.kt_typeCall_dict_1 _) PySem.F.entry_dict_init (kt_code_dict_new _ ⟨rfl,rfl⟩) ?_
 rintro obj s₁ ⟨rfl,rfl⟩
 have hS:(s.heap.push { cls:=.type "dict",data:=.dict #[] }).get? s.heap.objs.size=some { cls:=.type "dict",data:=.dict #[] }:=AAB _ rfl
 have hT:ADy { s with heap:=s.heap.push { cls:=.type "dict",data:=.dict #[] } } (.ref s.heap.objs.size) "dict":=⟨_,hS,rfl⟩
 obtain⟨ol',e1,hcl,nn,hdd⟩:=id hl
 obtain rfl:ol'=ol:=AAN (e1.symm.trans hol)
 have hol':(s.heap.push { cls:=.type "dict",data:=.dict #[] }).get? l=some ol':=AA4 _ hol
 have hTl:ADy { s with heap:=s.heap.push { cls:=.type "dict",data:=.dict #[] } } (.ref l) "list":=⟨ol',hol',hcl⟩
 have ll:l<s.heap.objs.size:=AAF hol
 refine⟨hT,PySem.F.args_dict_init_2 _ _,?_⟩
 unfold Builtin.«dict.__init__»
 refine AA0 ?_
 unfold Builtin.Dict.selfAndRest
 refine AA0 (ACr hT ?_)
 refine(show wpAny _ _ (pure (s.heap.objs.size,[ABf l])) _ _ _ from AA2 ?_)
 refine(show wpAny _ _ (Builtin.Dict.updateFrom "dict.__init__" s.heap.objs.size (.ref l) [] .none) _ _ _ from ?_)
 unfold Builtin.Dict.updateFrom
 refine AA0 (ACV hTl ?_)
 rw[if_pos (by decide)]
 refine AA0 (pN hol' hcl hdict hdd (by simpa using hh) λh1 tk1 k1=>?_)
 have kp1:∀b u,s.heap.get? b=some u->h1.get? b=some u:=λb u e=>k1 b u (AA4 _ e)
 rw[if_pos (show (none:Option Value).isNone=true from rfl)]
 refine AA0 (ACx ?_)
 obtain⟨oI,St,hit,W,st⟩:=(TxSrc.list (prog:=X.prog) (w:=X.w) hl).iter A.in1.in1 { s with heap:=h1,toks:=tk1 } (by simpa using hh) λo e=>kp1 _ _ e
 refine AA0 (hit _ _ ?_)
 have hS1:=k1 _ _ hS
 have lS:s.heap.objs.size<h1.objs.size:=AAF hS1
 have hS0:s.heap.get? s.heap.objs.size=none:=by
  cases q:s.heap.get? s.heap.objs.size with
  | none=>rfl
  | some o=>exact absurd (AAF q) (AAf _)
 refine AA2 ⟨AD1 fW _,Bt (A:=A.in1) (s:=s) I (by show A.units+1+20<cLine;lia) W s.heap.objs.size ?_ hS0 ?_ ps hm hval hb its.size 0 _ _ [] _ _ rfl (AAW _) st ⟨⟨_,#[],AA4 _ hS1,⟨rfl,rfl,rfl⟩,rfl,rfl⟩,.nil,ADC⟩ (λb u e=>AA4 _ (kp1 b u e)) λh2 tk2 xs k2 dd=>⟨rfl,h h2 tk2 xs k2 dd⟩⟩
 ·simp only[AAM,ADF,or_false,not_or]
  exact⟨AAK lS,Nat.ne_of_gt ll⟩
 ·intro b hb'
  rw[ABA.mp hb']
  cases q:s.heap.get? h1.objs.size with
  | none=>rfl
  | some o=>exact absurd (Nat.lt_trans (AAF q) lS) (AAf _)
end
section
variable{X:Cx}{k:Nat}
def gI:DRA:=λds M Q=>match ds with
 | [.ref n]=>∃ps:List (D×D),ao M n (ps.map λp=>.tup [p.1,p.2])/\(∀p∈ps,bL 8 p.1=true/\eY p.1=true)/\ps.length<=1000/\Q (.ref M.length) (M++[.dkt (dictOf ps)])
 | _=>False
theorem wK(hr:Room k X.A)(hc:X.calm=true):my X (.type "dict") gI:=by
 rintro pins s σ H vs us R I rv ⟨ds,M,ρ,Q,sm,rs,q,kk⟩
 have un:=hr.un
 unfold gI at q
 split at q
 ·obtain⟨ps,hL,hk,hl,q⟩:=q
  first | have hzz:=Reps.inv_cons rs | have hzz:=au.inv_cons rs
  clear rs
  obtain⟨_,_,rfl,r1,rs⟩:=hzz
  cases rs
  obtain⟨u,rfl,e1⟩:=au.one rv
  obtain⟨a,rfl,e⟩:=Rep.inv_ref r1
  cases e1
  obtain⟨ws,hq,r⟩:=ao.seq sm hL e
  obtain⟨its,rr,pl,hz⟩:=I.list hq
  obtain⟨oa,nn,hoa,hca,hdict,hdata⟩:=id pl
  have lw:=r.length
  have li:=rr.length
  rw[AA6]at lw
  have hf:H s.heap.objs.size=none:=I.hok.fresh (AA8 _)
  have hb:(s.heap.objs.size==sysModules)=false:=beq_eq_false_iff_ne.mpr (ABO (AAK I.big))
  refine BB (A:=X.A) (ρ:=ρ) I (by lia) (I.ok.hd hc) pl.isList hoa hdict ps (by rw[AAD];lia) (λi v hv=>?_) (by rw[AAD];lia) λh' tk xs kp dd=>?_
  ·obtain⟨d,vv,e1,r1,rv1⟩:=oV r rr (i:=i) (u:=v) (by simpa using hv)
   rw[AAT]at e1
   obtain⟨p,hp,rfl⟩:=ABI.mp e1
   exact⟨p,hp,⟨vv,r1,rv1⟩,hk p (AAo hp)⟩
  ·have dl:=kX (ps:=ps)
   refine⟨.ref s.heap.objs.size,_,I.laid (a:=s.heap.objs.size) (o:=.ext (dX s.heap.objs.size xs)) (t':=tk) kp (AA8 _) (jE dd.dx),rfl,?_⟩
   exact kk _ _ ⟨.ref M.length,M++[.dkt (dictOf ps)],ρ++[s.heap.objs.size],sm.laidM (mo:=.dkt (dictOf ps)) hf ⟨ap (by lia),hb,dd.nd,xs,aA,Paired.mapP dd.kv λ_ _ ⟨q1,q2,q3,v,q4,q5⟩=>⟨q1,q2,q3.grow (Grow.laidR hf),v,q4.grow (Grow.laidR hf),q5⟩⟩,Grow.laidR hf,.ref sm.last,q⟩
 ·exact q.elim
theorem wj(hr:Room k X.A)(hc:X.calm=true:=by kernel_rfl):HC X (.type "dict") gI:=⟨wK hr hc⟩
end
noncomputable abbrev EE(M:Mem)(R:DK):DEnds:=⟨λ_ M'=>aX M R .non M',aX M R,λ_ _=>False,λ_ _=>False⟩
noncomputable def dst(n:Nat)(ds:List D):SD:=ds.map some++ADo (n-ds.length) none
abbrev WpT(Pr:DSp)(n:Nat)(t:DTS):Prop:=∀ds M R,Pr ds M R->t (EE M R) (dst n ds) M
abbrev dj(Pr:DSp)(p:List Str):Prop:=∀ds M R,Pr ds M R->ds.length=p.length
abbrev DerT(P:Program)(w:World)(K:AA3)(mg:Str->Option Value)(base:Heap)(k:Nat)(x:Str)(N:List Str)(st:Stmt)(t:DTS):Prop :=
 ∀(f:Addr) (cdv:Value) (A:Around) (outer:List Env) (s:Shared) (H:Hp) (E:XK),Room k (A.deeper (AEA x (ak st) s.heap.objs.size f cdv))->HB (jL CX0 P w K mg base N x (ak st) f cdv A outer s H E).nox (bg st) t
inductive TopB(mg:Str->Option Value):List Str->List (Str×Int)->Prop
 | nil:TopB mg [] []
 | b {x:Str}{B:List Str}{C:List (Str×Int)} (h:mg x=none) (t:TopB mg B C):TopB mg (x::B) C
 | c {x:Str}{i:Int}{C:List (Str×Int)} (h:∃t,mg x=some (.int i t)) (t:TopB mg [] C):TopB mg [] ((x,i)::C)
theorem TopB.no(h:TopB mg B C)(c:B.contains x=true):mg x=none:=by
 induction h with
 | nil=>simp at c
 | b h _ ih =>
  simp only[List.contains_cons,AE3,beq_iff_eq]at c
  rcases c with rfl | c
  ·exact h
  ·exact ih c
 | c _ _ _=>simp at c
noncomputable def nodB:List Str->Bool
 | []=>true
 | x::xs=>!xs.contains x&&nodB xs
theorem Dl:∀{l:List Str},nodB l=true->l.Nodup
 | [],_=>ADC
 | x::xs,h=>by
  simp only[nodB,AAS,Bool.not_eq_true',List.contains_eq_mem,decide_eq_false_iff_not]at h
  exact ABs.mpr ⟨h.1,Dl h.2⟩
noncomputable def tgN:Expr->List Str
 | .Name x _=>[x]
 | .Tuple es _ _=>es.filterMap fun | .Name x _=>some x | _=>none
 | _=>[]
noncomputable abbrev lcN(N:List Str)(js:List Nat)(tg:Expr):List Str:=tgN tg++js.map λj=>N.getD j ""
section
variable{X:Cx}{tg iter elt:Expr}{ifs:List Expr}{scope:Scope}{nt i:Nat}{js:List Nat}{di:DTI}{g:DTG}{tt:DTT}{te:DTE}{pos pos' pos2:Pos}{x:Str}
theorem k_lcN(hi:HI X tg iter di)(hg:∀cl s0 H0 ex,HG (blk X (lcN X.N js tg) scope cl s0 H0 ex) tg g)(ht:∀cl s0 H0 ex,HTs (blk X (lcN X.N js tg) scope cl s0 H0 ex) ifs tt)(he:∀cl s0 H0 ex,HE (blk X (lcN X.N js tg) scope cl s0 H0 ex) elt te)
  (B:lc X.env.scope.names X.N (lcN X.N js tg) nt js scope=true:=by kernel_rfl) (hc:X.calm=true:=by kernel_rfl) (hs:∀x,foldedSetIterable iter X.env x=pure x:=by intro _;kernel_rfl):HE X (.ListComp elt [⟨tg,iter,ifs,0⟩] scope pos) (dLC nt js di g tt te):=k_lc hi hg ht he B hc hs
theorem nV(hN:X.N.Nodup)(hi:HI X tg iter di)(hg:∀cl s0 H0 ex,HG (blk X (lcN X.N js tg) scope cl s0 H0 ex) tg g)(ht:∀cl s0 H0 ex,HTs (blk X (lcN X.N js tg) scope cl s0 H0 ex) ifs tt)(he:∀cl s0 H0 ex,HE (blk X (lcN X.N js tg) scope cl s0 H0 ex) elt te)
  (B:lc X.env.scope.names X.N (lcN X.N js tg) nt js scope=true:=by kernel_rfl) (hc:X.calm=true:=by kernel_rfl) (hs:∀x,foldedSetIterable iter X.env x=pure x:=by intro _;kernel_rfl) (hsw:swapsWith (.ListComp elt [⟨tg,iter,ifs,0⟩] scope pos) (some (.Name x pos')) pos2.line X.env=pure true:=by kernel_rfl)
  (hix:X.N[i]?=some x:=by kernel_rfl) (hx:Ao X.env.scope x=true:=by kernel_rfl) (hf:X.fn x=true:=by kernel_rfl):HS X (.Assign [.Name x pos'] (.ListComp elt [⟨tg,iter,ifs,0⟩] scope pos) pos2) (kZ nt js di g tt te i):=xT hN hi hg ht he B hc hs hsw hix hx hf
theorem gA(h:HA X es t):HA X es t:=h
theorem gE(h:HE X e te):HE X e te:=h
theorem gCall(h:HE X (.Call a b c pos) te):HE X (.Call a b c pos) te:=h
theorem gIx(h:HE X (.Subscript a b pos) te):HE X (.Subscript a b pos) te:=h
theorem Er(h:HE X (.Constant a b pos) te):HE X (.Constant a b pos) te:=h
theorem gT(h:HT X e tt):HT X e tt:=h
theorem gS{st:Stmt}{t:DTS}(h:HS X st t):HS X st t:=h
theorem gOp(h:HOp X f r):HOp X f r:=h
theorem gC(h:HC X f r):HC X f r:=h
theorem wk{b:List Stmt}{st:Stmt}{sts:List Stmt}{t:DTS}(h:b=st::sts)(q:HB X (st::sts) t):HB X b t:=h ▸ q
end
section
variable{P:Program}{w:World}{K:AA3}{mg:Str->Option Value}{base:Heap}{x:Str}{st:Stmt}{N ps:List Str}{k:Nat}{Pr:DSp}{B:List Str}{C:List (Str×Int)}{t:DTS}
theorem Cal.byD(T:TopB mg B C)(F:cw K mg x st ps)(Sc:FnScope N ps (ak st))(len:dj Pr ps)(der:TopB mg B C->N.Nodup->DerT P w K mg base k x N st t)(wp:∀ds M R,Pr ds M R->t (EE M R) (bv N ds) M):Cal P w K mg base (k+1) x ps Pr :=
 Cal.byH F Sc len (der T Sc.nd) wp
theorem ym(T:TopB mg B C)(F:Fun K x x st f fd)(Sc:FnScope N ps (ak st))(len:dj Pr ps)(der:TopB mg B C->N.Nodup->DerT P w K mg base k x N st t)(wp:∀ds M R,Pr ds M R->t (EE M R) (bv N ds) M):FnOk P w K mg base CX0 (k+1) f fd ps (spL K Pr) :=
 yk F Sc len (der T Sc.nd) wp
end
section
variable{prog:Program}{w:World}{A:Around}{E:Value->Shared->Prop}{s:Shared}
theorem qi(ho:s.heap.get? l=some o)(hc:o.cls=.type "list"\/o.cls=.type "tuple")(hd:o.data=.seq vs.toArray n)
  (h:Q vs { s with heap:=(s.heap.push (seqObj "list" #[] 0)).update s.heap.objs.size (AB2 (· ++ vs.toArray)) }) (hsz:vs.length<=sizeLine):wpAny (model prog w) A (collect (.ref l)) Q E s:=by
 rcases hc with hc | hc
 ·exact collect_list ⟨o,ho,hc,n,hd⟩ h hsz
 unfold collect
 refine AA0 (wpAny_runValue (ABQ entry_proto_collect' ?_))
 show wpAny _ _ (do again (.builtin "list.__iadd__" ⟨[<-newList [],.ref l],[]⟩)) _ _ s
 refine AA0 (ACz (AA2 ⟨Code.quiet_builtin _ (by decide +kernel),ABQ entry_list_iadd' ?_⟩) (AAW _))
 show wpAny _ _ (AC9 (.ref s.heap.objs.size) (.ref l) (.ref s.heap.objs.size)) _ _ { s with heap:=s.heap.push (seqObj "list" #[] 0) }
 unfold AC9
 have ho':(s.heap.push (seqObj "list" #[] 0)).get? l=some o:=AA4 _ ho
 refine AA0 (ACV (T:="tuple") ⟨o,ho',hc⟩ ?_)
 have ht:(ADJ "tuple" == ADJ "tuple")=true:=by rfl
 rw[if_pos (by rw[ht];simp)]
 refine AA0 (ADs ho' hd ?_)
 refine AA0 (ADs (xs:=#[]) (n:=0) (AAB _ rfl) rfl ?_)
 rw[if_neg (by simp)]
 refine AA0 (AD0 (xs:=#[]) (n:=0) (AAB _ rfl) rfl ?_ (AAW _) (by show (#[]++vs.toArray).size<=sizeLine+1;simp only[Array.size_append,AAD,AAq];lia))
 refine AA2 ?_
 show wpAny (model prog w) A (do
   let o <-load s.heap.objs.size
   match o.data with
   | .seq xs _=>pure xs.toList
   | _=>unsupported "internal:collect") Q E { s with heap:=(s.heap.push (seqObj "list" #[] 0)).update s.heap.objs.size (AB2 (· ++ vs.toArray)) }
 refine AA0 (wpAny_load (ACP (AAB _ rfl) _) ?_)
 show wpAny _ _ (pure ((#[]:Array Value)++vs.toArray).toList) Q E _
 rw[show ((#[]:Array Value)++vs.toArray).toList=vs by simp]
 exact AA2 h
variable{h₀:Heap}{L kS a:Addr}{m:Str->Option Value}{vs:List Value}
theorem zE(hl:ks.length=vs.length)(h2:vs.length<2)(h:KatFin h₀ L m kS a ks e e1 vs (λs3=>P (.done (.ret .none)) s3) s) :
  wpAny (model prog w) A (ksk_end a false vs.toArray e1 (.ref kS) (ABd ks)) P E s:=by
 have hn2:vs.toArray.size<2:=by rw[AAD];exact h2
 unfold ksk_end
 dsimp only
 simp only[AAA,if_false]
 rw[if_pos hn2,if_pos hn2]
 refine AA0 (AA2 ?_)
 rw[StateT.run_pure]
 refine AA0 (AA2 ?_)
 dsimp only
 refine kat_tail (out:=vs) ?_ (by lia) (by lia) rfl h
 show ((ABd ks).zip vs.toArray).map (·.2)=vs.toArray
 match ks,vs,hl,h2 with
 | [],[],_,_=>simp
 | [k],[v],_,_=>simp
 | [],_::_,hl,_=>simp at hl
 | _::_,[],hl,_=>simp at hl
 | _::_::_,[_],hl,_=>simp at hl
 | _,_::_::_,_,h2=>simp at h2;lia
theorem zC{f:Value}{e1:Nat}{P:PySem.Fin->Shared->Prop}{Fin:List Value->Nat->Shared->Prop}(hk:s.heap.get? kS=some (seqObj "list" #[] 0))(h64:vs.length<64)
  (hend:∀ks e s',ks.length=vs.length->Fin ks e s'->wpAny (model prog w) A (ksk_end a false vs.toArray e1 (.ref kS) (ABd ks)) P E s') (h:KatKeys prog w A h₀ L m kS f Fin vs [] 0 s) :
  wpAny (model prog w) A (ksk_rest a f false vs.toArray e1 (.ref kS)) P E s:=by
 unfold ksk_rest
 refine AA0 (ACx ?_)
 first
  | rw[List.forIn_toArray]
  | (rw[<-ABY];simp only[List.toList_toArray])
  | rw[<-ABY]
 refine AA0 (AAp (kat_fold h64 (λx ks e s' C hz hx=>?_) vs [] 0 s (by simp) hk h) (λ_ s' hd=>?_) λ_ _ x=>x)
 ·refine AA0 (ABp (AAp hx (λk s'' hk=>?_) λ_ _ hF=>hF.elim))
  obtain⟨news',g,F',N',U,c⟩:=hk
  obtain⟨pre,post,e0,hg,x1,x2⟩:=U.split
  rw[e0]at N'
  have nk:=N' (kS,seqObj "list" (ABd ks) e) (AAI _ (.head _))
  have s1:=AAl s''.heap kS (AB2 (·.push k))
  have ea:(ABd ks).push k=ABd (ks++[k]):=by simp
  obtain⟨c2,hc2⟩:∃c2,(s''.heap.update kS (AB2 (·.push k))).get? kS=some (seqObj "list" (ABd (ks++[k])) c2):=⟨_,by rw[<-ea];exact ACP nk.1 (·.push k)⟩
  try dsimp only
  refine AA0 (AD0 nk.1 rfl ?_ (by rw[AAD,ABj];lia) (AB0 (Nat.le_of_eq (Array.size_push ..)) (by rw[AAD,ABj];lia)))
  exact AA2 ⟨rfl,k,c2,hc2,c _ c2 (kas_fr F' s1 nk.2.1 nk.2.2) (by rw[hg];exact news_set N' x1 x2 s1 hc2)⟩
 ·obtain⟨ks,e,hk',hl,fin⟩:=hd
  try dsimp only
  exact AA0 (ADs hk' rfl (hend ks e s' hl fin))
end
section
variable{X:Cx}{pins:List (Addr×Obj)}{σ:St}{H:Hp}{s:Shared}{a:Addr}
structure Own(X:Cx)(pins:List (Addr×Obj))(H:Hp)(a:Addr):Prop where
 un:H a=none
 ne:a≠X.env.locals
 fs:a∉X.fs
 s0:X.s₀.heap.objs.size<=a
 cl:∀x c,X.env.cells.lookup x=some c->c≠a
 pn:∀p∈X.pn++pins,p.1≠a
theorem Inv.own(I:Inv X pins σ H s)(h:s.heap.objs.size<=a):Own X pins H a :=
 ⟨I.hok.fresh h,λe=>by rw[e]at h;exact absurd (AAP I.lt h) (AAf _),I.nofs h,AB0 I.sz h,λx c e z=>by
  obtain⟨v,o,ho,_⟩:=I.cell x c e
  rw[z]at ho
  exact absurd (AAP (AAF ho) h) (AAf _),λp hp e=>by
  have:=AAF (I.pin p hp).1
  rw[e]at this
  exact absurd (AAP this h) (AAf _)⟩
theorem Inv.turnF(I:Inv X pins σ H s)(w:Own X pins H a)(k:∀b u,b≠X.env.locals->b≠a->s.heap.get? b=some u->h'.get? b=some u)(hn:s.heap.Ns X.env.locals m)(hn':h'.Ns X.env.locals m):Inv X pins σ H { s with heap:=h' }:=by
 have na:∀b u,H b=some u->b≠a:=λb u e=>ad e w.un
 refine I.step (g':=s.gens) (d':=s.drawn) (t':=s.toks) (ch:=[a]) (λb hb=>?_) (λb u hL _ hc e _=>k b u hL (by simpa using hc) e) (λb u hL _ hc e _=>⟨u.slots,k b u hL (by simpa using hc) e⟩) (λb u _ e n=>n) (λb u hc e=>?_)
  (λb xs q=>q) (λb u xs q=>q) (λb ps q=>⟨#[],by rw[q];simp⟩) (λm' hm=>?_) (λb u q=>?_) I.bare
 ·obtain rfl:b=a:=by simpa using hb
  exact⟨.inr w.s0,w.ne,w.cl,w.pn⟩
 ·by_cases hb:b=X.env.locals
  ·subst hb
   obtain⟨o',_,_,ho,_⟩:=hn'
   exact⟨o',ho⟩
  ·exact⟨u,k b u hb (by simpa using hc) e⟩
 ·have:m=m':=funext λx=>hn.agree hm x
  subst this
  exact hn'
 ·refine(I.hok b u q).stay (λc v hc r=>k c v ?_ ?_ r) (λc z=>z) λc xs z=>z
  ·rcases hc with rfl | hc
   ·exact ad q I.free
   ·exact ad hc I.free
  ·rcases hc with rfl | hc
   ·exact na _ _ q
   ·exact na _ _ hc
theorem Inv.adoptF(I:Inv X pins σ H s)(w:Own X pins H a)(k:∀b u,b≠X.env.locals->b≠a->s.heap.get? b=some u->h'.get? b=some u)(hn:s.heap.Ns X.env.locals m)(hn':h'.Ns X.env.locals m)
  (new:cu X.prog X.w (upd H a o) h' a o):Inv X pins σ (upd H a o) { s with heap:=h' }:=by
 have fa:=w.un
 refine I.step (g':=s.gens) (d':=s.drawn) (t':=s.toks) (ch:=[a]) (λb hb=>?_) (λb u hL _ hc e _=>k b u hL (by simpa using hc) e) (λb u hL _ hc e _=>⟨u.slots,k b u hL (by simpa using hc) e⟩) (λb u hc e n=>by rw[ae (by simpa using hc)];exact n) (λb u hc e=>?_)
  (λb xs q=>by rw[ae (ad q fa)];exact q) (λb u xs q=>by rw[ae (ad q fa)];exact q) (λb ps q=>⟨#[],by rw[ae (ad q fa),q];simp⟩) (λm' hm=>?_) (λb u q=>?_) I.bare
 ·obtain rfl:b=a:=by simpa using hb
  exact⟨.inr w.s0,w.ne,w.cl,w.pn⟩
 ·by_cases hb:b=X.env.locals
  ·subst hb
   obtain⟨o',_,_,ho,_⟩:=hn'
   exact⟨o',ho⟩
  ·exact⟨u,k b u hb (by simpa using hc) e⟩
 ·have:m=m':=funext λx=>hn.agree hm x
  subst this
  exact hn'
 ·by_cases hb:b=a
  ·subst hb
   rw[aA]at q
   cases q
   exact new
  ·rw[ae hb]at q
   refine(I.hok b u q).stay (λc v hc r=>k c v ?_ ?_ r) (λc z=>by rw[ae (ad z fa)];exact z) λc xs z=>by rw[ae (ad z fa)];exact z
   ·rcases hc with rfl | hc
    ·exact ad q I.free
    ·exact ad hc I.free
   ·rcases hc with rfl | hc
    ·exact ad q fa
    ·exact ad hc fa
end
section
variable{X:Cx}{pins:List (Addr×Obj)}{σ:St}{ρ:List Addr}{M:Mem}
structure KySt(X:Cx)(pins:List (Addr×Obj))(σ:St)(ρ:List Addr)(M:Mem)(m:Str->Option Value)(kS aD:Addr)(e1:Nat)(H0 H:Hp)(s:Shared)(ks:List Value)(e:Nat):Prop where
 inv:Inv X pins σ H s
 ns:s.heap.Ns X.env.locals m
 sm:Sim X.K ρ M H
 gr:Grow X.K ρ H0 ρ H
 hk:s.heap.get? kS=some (seqObj "list" (ABd ks) e)
 hd:s.heap.get? aD=some (seqObj "list" #[] e1)
 ok:Own X pins H kS
 od:Own X pins H aD
 ne:aD≠kS
theorem Ba(n:h.Ns L m):Fr (Att.noObjs h0) L h m :=
 ⟨n,λb o e=>(by rw[Att.noObjs_get]at e;cases e),AAW _⟩
theorem pF(hne:d≠L)(ho:h.get? d=some od):News (Att.noObjs h0) L h ((d,od)::Att.ledger h L d):=by
 rintro⟨a,o⟩ hp
 rcases AAM.mp hp with e | hp
 ·cases e
  exact⟨ho,hne,Att.noObjs_get _ _⟩
 ·obtain⟨n1,n2,e⟩:=Att.mem_ledger.mp hp
  exact⟨e,n1,Att.noObjs_get _ _⟩
theorem jv(N:News (Att.noObjs h0) L h' ((d,o)::Att.ledger h L d)):∀b u,b≠L->b≠d->h.get? b=some u->h'.get? b=some u :=
 λb u h1 h2 e=>(N (b,u) (AA9 _ (Att.mem_ledger.mpr ⟨h1,h2,e⟩))).1
abbrev KeyG(X:Cx)(pins:List (Addr×Obj))(σ:St)(ρ:List Addr)(M:Mem)(f:Addr)(key:D->D)(xs:List D):Prop:=∀(s:Shared) (H:Hp) (d:D) (v:V) (u:Value),d∈xs->Inv X pins σ H s->Sim X.K ρ M H->Rep X.K ρ H d v->aI v u ->
 codeAny (model X.prog X.w) X.A.in1.in1 (.call (.ref f) ⟨[u],[]⟩) (CR CX0 X.stack X.prog X.w H s (λv' H'=>VQ X.K ρ H (λx M'=>x=key d/\M'=M) v' H') E0) s
theorem zD{f:Addr}{key:D->D}{xs:List D}(G:KeyG X pins σ ρ M f key xs){h0:Heap}{m:Str->Option Value}{aD kS:Addr}{e1:Nat}{H0:Hp}
  {Fin:List Value->Nat->Shared->Prop}{keys:List D} (fin:∀H s kvs ks e,KySt X pins σ ρ M m kS aD e1 H0 H s ks e->Reps X.K ρ H keys kvs->au kvs ks->Fin ks e s) :
  ∀(r:List D) (ws:List V) (its:List Value) (done:List D) (kvs:List V) (ks:List Value) (e:Nat) (H:Hp) (s:Shared),KySt X pins σ ρ M m kS aD e1 H0 H s ks e->Reps X.K ρ H r ws->au ws its->Reps X.K ρ H done kvs->au kvs ks ->
   done++r.map key=keys->(∀d∈r,d∈xs)->KatKeys X.prog X.w X.A.in1.in1 (Att.noObjs h0) X.env.locals m kS (.ref f) Fin its ks e s:=by
 intro r
 induction r with
 | nil =>
  intro ws its done kvs ks e H s g r v rd vd hk _
  obtain rfl:=Reps.inv_nil r
  obtain rfl:=au.inv_nil v
  refine KatKeys.nil (fin H s kvs ks e g ?_ vd)
  rw[<-hk,List.map_nil,ABE]
  exact rd
 | cons d r ih =>
  intro ws its done kvs ks e H s g rr v rd vd hk hP
  obtain⟨vd1,ws,rfl,r1,rr⟩:=Reps.inv_cons rr
  obtain⟨u,its,rfl,ru,v⟩:=au.inv_cons v
  have I:=g.inv
  refine KatKeys.cons (wpAny_call (ACT (G s H d vd1 u (hP d AAG) I g.sm r1 ru) λres s' hq=>?_))
  cases res with
  | error e=>exact hq.elim
  | ok fl =>
   cases fl with
   | next=>exact hq.elim
   | brk=>exact hq.elim
   | cont=>exact hq.elim
   | ret u' =>
    obtain⟨v',H',os,bare,un,hok,rv,q⟩:=hq
    obtain⟨hh,gg,dr,tk,os'⟩:=s'
    obtain rfl:os'=s.os:=os
    obtain⟨_,_,ρ',s1,g1,r1',rfl,rfl⟩:=q
    have eρ:ρ'=ρ:=by
     obtain⟨t,rfl⟩:=g1.pre
     have h1:=s1.len
     have h2:=g.sm.len
     rw[AAE]at h1
     rw[List.eq_nil_of_length_eq_zero (show t.length=0 by lia),ABE]
    subst eρ
    have J:Inv X ((kS,seqObj "list" (ABd ks) e)::(aD,seqObj "list" #[] e1)::pins) σ H s:=I.pins_of λp hp=>by
     rcases AAM.mp hp with rfl | hp
     ·exact⟨g.hk,g.ok.un,g.ok.ne,g.ok.fs,λ_ z=>nomatch z⟩
     ·rcases AAM.mp hp with rfl | hp
      ·exact⟨g.hd,g.od.un,g.od.ne,g.od.fs,λ_ z=>nomatch z⟩
      ·exact I.pin p (AAI _ hp)
    have J':=J.call (h':=hh) (g':=gg) (d':=dr) (t':=tk) (ch:=[]) un hok bare (λb z=>absurd z (by simp))
    have pk:=J'.pin (kS,_) (AAI _ AAG)
    have pd:=J'.pin (aD,_) (AAI _ (AA9 _ AAG))
    have I':Inv X pins σ H' ⟨hh,gg,dr,tk,s.os⟩:=J'.pins_of λp hp=>J'.pin p (AAI _ (AA9 _ (AA9 _ hp)))
    have ns':hh.Ns X.env.locals m:=by
     obtain⟨o,es,ep,ho,aE⟩:=g.ns
     obtain⟨sl,hL⟩:=un.any ho I.free (by simp)
     exact⟨_,es,ep,hL,aE⟩
    have ok':Own X pins H' kS:=⟨pk.2.1,g.ok.ne,g.ok.fs,g.ok.s0,g.ok.cl,g.ok.pn⟩
    have od':Own X pins H' aD:=⟨pd.2.1,g.od.ne,g.od.fs,g.od.s0,g.od.cl,g.od.pn⟩
    refine KatBack.intro (s:=⟨hh,gg,dr,tk,s.os⟩) (Ba ns') (pF ok'.ne pk.1) (UpdF.head λp hp=>(Att.mem_ledger.mp hp).2.1) λh2 c F2 N2=>?_
    have kp:=jv N2
    refine ih ws its (done++[key d]) (kvs++[v']) (ks++[u']) c H' _ ⟨I'.turnF ok' kp ns' F2.ns,F2.ns,s1,⟨g.gr.pre,λx xs h=>g1.tup x xs (g.gr.tup x xs h)⟩,(N2 _ AAG).1,kp aD _ od'.ne g.ne pd.1,ok',od',g.ne⟩ (rr.grow g1) v
     ((rd.grow g1).append (.cons r1' .nil)) (vd.append (.cons rv .nil)) (by rw[<-hk,AAe,AAw];rfl) λx hx=>hP x (AA9 _ hx)
theorem qV{k n:Nat}{f l:Addr}{o:Obj}{s:Shared}{H:Hp}{xs:List D}{ws:List V}{its:List Value}{key:D->D}{R:VK}(G:KeyG X pins σ ρ M f key xs)(hr:Room (k+2) X.A)
  (I:Inv X pins σ H s) (sm:Sim X.K ρ M H) (r:Reps X.K ρ H xs ws) (rr:au ws its) (ho:s.heap.get? l=some o) (hc:o.cls=.type "list"\/o.cls=.type "tuple") (hd:o.data=.seq its.toArray n) (h64:its.length<64) (so:SrtG M (xs.map key)) (kk:∀v H',(∀Q:DK,(∀ys,ys.Perm xs->ys.Pairwise (λa b=>ltD M eqN (key b) (key a)=false)->Q (.ref M.length) (M++[.lst ys]))->VQ X.K ρ H Q v H')->R v H') :
  wpAny (model X.prog X.w) X.A (call (.builtin "sorted") [.ref l] [(AA1 "key",.ref f)]) (EP X pins σ R) X.xe s:=by
 have lw:=r.length
 have li:=rr.length
 have few:its.length<=sizeLine:=by rw[ABj];lia
 refine call_function_entry_kw kind_sorted plain_sorted entry_sorted (ksk_s1 _ _) ?_
 unfold Builtin.«sorted»
 refine AA0 (m:=checkCount "sorted" 1 1 _) (AA2 (AA0 (qi ho hc hd (AA0 (ACz ?_ few)) few)))
 generalize hg:((s.heap.push (seqObj "list" #[] 0)).update s.heap.objs.size (AB2 (· ++ its.toArray)))=g1
 have hsz:g1.objs.size=s.heap.objs.size+1:=by rw[<-hg,Heap.size_update,size_push']
 have k1:∀b o,s.heap.get? b=some o->g1.get? b=some o:=λb o q=>by
  have hlt:=AAF q
  rw[<-hg,ABm _ _ _ _ (AAK hlt),Heap.get?_push_ne _ _ _ (AAK hlt)]
  exact q
 show wpAny _ _ _ _ _ { s with heap:=g1.push (seqObj "list" its.toArray 0) }
 have hoL:(g1.push (seqObj "list" its.toArray 0)).get? g1.objs.size=some (seqObj "list" its.toArray 0):=AAB _ rfl
 refine AA0 (AAd (wpAny_call_entry_kw slot_list_sort (⟨_,hoL,rfl⟩) entry_list_sort ?body (ksk_l1 _ _)))
 case body =>
  show wpAny (model X.prog X.w) X.A.in1.in1 (Builtin.«list.sort» ⟨[.ref g1.objs.size],[(AA1 "key",.ref f)]⟩) _ _ _
  rw[ksk_t1]
  unfold ksk_tree
  refine AA0 (ADs hoL rfl (AA0 (AD0 hoL rfl ?_ (by rw[AAD];exact few) (AAW _))))
  obtain⟨e1,ho1⟩:∃e1,((g1.push (seqObj "list" its.toArray 0)).update g1.objs.size (AB2 λ_=>(#[]:Array Value))).get? g1.objs.size=some (seqObj "list" #[] e1):=⟨_,ACP hoL λ_=>#[]⟩
  refine AA0 (seqEpoch_at ho1 rfl (AA0 (wpAny_newTuple (AA0 (ACz (AAd ?_) (AAW _))) few)))
  have k2:∀b o,s.heap.get? b=some o->((g1.push (seqObj "list" its.toArray 0)).update g1.objs.size (AB2 λ_=>(#[]:Array Value))).get? b=some o:=λb o q=>by
   rw[ABm _ _ _ _ (AAK (by rw[hsz];exact ABl (AAF q)))]
   exact AA4 _ (k1 b o q)
  have hsz2:((g1.push (seqObj "list" its.toArray 0)).update g1.objs.size (AB2 λ_=>(#[]:Array Value))).objs.size=g1.objs.size+1:=by rw[Heap.size_update,size_push']
  generalize ((g1.push (seqObj "list" its.toArray 0)).update g1.objs.size (AB2 λ_=>(#[]:Array Value)))=g2 at ho1 k2 hsz2 ⊢
  dsimp only
  have k3:∀b o,g2.get? b=some o->((g2.push (seqObj "tuple" its.toArray 0)).push (seqObj "list" #[] 0)).get? b=some o:=λb o q=>AA4 _ (AA4 _ q)
  have hk3:((g2.push (seqObj "tuple" its.toArray 0)).push (seqObj "list" #[] 0)).get? (g2.push (seqObj "tuple" its.toArray 0)).objs.size=some (seqObj "list" #[] 0):=AAB _ rfl
  have hsz3:(g2.push (seqObj "tuple" its.toArray 0)).objs.size=g2.objs.size+1:=size_push' _ _
  generalize (g2.push (seqObj "tuple" its.toArray 0)).objs.size=kS at hk3 hsz3 ⊢
  generalize ((g2.push (seqObj "tuple" its.toArray 0)).push (seqObj "list" #[] 0))=g3 at hk3 k3 ⊢
  generalize g1.objs.size=aD at ho1 hsz hsz2 ⊢
  obtain⟨m,hn,_⟩:=I.loc
  have st:KySt X pins σ ρ M m kS aD e1 H H { s with heap:=g3 } [] 0 :=
   ⟨I.kept (t':=s.toks) λb o q=>k3 b o (k2 b o q),(by obtain⟨o',es,ep,ho',aE⟩:=hn;exact⟨o',es,ep,k3 _ _ (k2 _ _ ho'),aE⟩),sm,.refl,hk3,k3 _ _ ho1,I.own (by rw[hsz3,hsz2,hsz];exact ADG _ 3),I.own (by rw[hsz];exact ADG _ 1),by rw[hsz3,hsz2];exact AAK (Nat.lt_add_of_pos_right (by decide:0<2))⟩
  have hr2:Room k X.A.in1.in1:=(Room.in1 (k:=k+1) hr).in1
  refine zC (h₀:=Att.noObjs s.heap) (L:=X.env.locals) (m:=m) (Fin:=λks e s'=>∃H' kvs,KySt X pins σ ρ M m kS aD e1 H H' s' ks e/\Reps X.K ρ H' (xs.map key) kvs/\au kvs ks) hk3 h64 (λks e s' hl ⟨H',kvs,g,rk,vk⟩=>?_)
   (zD G (λH' s' kvs ks e g r v=>⟨H',kvs,g,r,v⟩) xs ws its [] [] [] 0 H _ st r rr .nil .nil rfl λ_ q=>q)
  have fin:∀ys zs out,Reps X.K ρ H' ys zs->au zs out->ys.Perm xs->ys.Pairwise (λa b=>ltD M eqN (key b) (key a)=false)->KatFin (Att.noObjs s.heap) X.env.locals m kS aD ks e e1 out (λs4=>EP X pins σ R (.ref aD) s4) s':=λys zs out ry vy hp hw=>by
   refine KatFin.intro (Ba g.ns) (pF g.ok.ne g.hk) (UpdF.head λp hp=>(Att.mem_ledger.mp hp).2.1) λh2 c F2 N2=>?_
   have kp:=jv N2
   refine KasFin.intro (s:={ s' with heap:=h2 }) (Ba F2.ns) (pF g.od.ne (kp aD _ g.od.ne g.ne g.hd)) (UpdF.head λp hp=>(Att.mem_ledger.mp hp).2.1) λh3 c3 F3 N3=>?_
   refine⟨.ref aD,_,(g.inv.turnF g.ok kp g.ns F2.ns).adoptF (o:=.lst zs) g.od (jv N3) F2.ns F3.ns ⟨?_,out,c3,vy,(N3 _ AAG).1⟩,rfl,kk _ _ λQ hQ=>VQ.laidL g.sm g.gr ry g.od.un (hQ ys hp hw)⟩
   rw[<-ry.length,hp.length_eq,lw,li]
   exact few
  by_cases h2:its.length<2
  ·refine zE (hl) h2 ((fin xs ws its (r.grow g.gr) rr (ACc _) ?_).mono λs4 hq=>⟨_,rfl,AA2 ⟨_,rfl,hq⟩⟩)
   match xs,(show xs.length<2 by lia) with
   | [],_=>exact ACv
   | [x],_=>exact ADW _ _
   | _::_::_,hx=>simp at hx;lia
  ·have h2':2<=its.length:=by lia
   refine kat_end (b:=false) (h₀:=Att.noObjs s.heap) (L:=X.env.locals) (m:=m) (e:=e) hl h2' h64 ?_
   have hu:X.A.in1.in1.units+eqN<cLine:=by
    have:=hr.un
    have:eqN=30:=rfl
    show X.A.units+1+1+eqN<cLine
    lia
   have kl:ks.length=xs.length:=by lia
   refine AAp (iV g.inv g.sm so rk vk (by lia) hu) (λκ s'' hk=>?_) λ_ _ x=>x
   obtain⟨rfl,hask⟩:=hk
   show (ADp its.length).kasWp (kas_ask X.prog X.w X.A.in1.in1 κ ks) (λp s3=>KatFin (Att.noObjs s.heap) X.env.locals m kS aD ks e e1 (p.toList.map λi=>its.getD i ABi) _ s3) _
   have kget:∀i,i<xs.length->(xs.map key).getD i default=key (xs.getD i default):=λi hi=>by
    rw[AAR,AAR,AAT,AA5 hi]
    rfl
   refine Srt.wp_run (n:=its.length) (c:=λi j=>if i<xs.length then(if j<xs.length then ltD M eqN (key (xs.getD i default)) (key (xs.getD j default))else true)else false) (λi j C hi hj hc=>?_) _ (Srt.sort_bd (by lia)).1 ?_
   ·refine hask i j C (by lia) (by lia) ?_
    rw[if_pos (by lia),if_pos (by lia)]at hc
    unfold ltc
    rw[kget i (by lia),kget j (by lia)]
    exact hc
   ·have hent:=Srt.All.run (c:=λi j=>if i<xs.length then(if j<xs.length then ltD M eqN (key (xs.getD i default)) (key (xs.getD j default))else true)else false) _ (Srt.sort_bd (n:=its.length) (by lia)).2
    obtain⟨o1,o2,o3⟩:=Ae so
    have hm:∀x∈xs,key x∈xs.map key:=λx hx=>ABo hx
    have hsl:=Srt.sort_list (lt:=λa b=>ltD M eqN (key a) (key b)) xs (by lia) (λa ha=>o1 _ (hm a ha)) (λa ha b hb d hd=>o2 _ (hm a ha) _ (hm b hb) _ (hm d hd)) (λa ha b hb d hd=>o3 _ (hm a ha) _ (hm b hb) _ (hm d hd))
    try dsimp only at hsl
    rw[show xs.length=its.length by lia]at hsl hent ⊢
    generalize Srt.run _ (ADp its.length)=p at hent hsl ⊢
    have hi:∀i∈p.toList,i<xs.length:=λi h=>by
     have:=hent.mem_iff.mp h
     rw[AAs]at this
     lia
    exact(fin _ _ _ ((r.grow g.gr).perm p.toList hi) (rr.perm p.toList λi h=>by have:=hi i h;lia) hsl.1 hsl.2).mono λs4 hq=>⟨_,rfl,AA2 ⟨_,rfl,hq⟩⟩
end
structure BlkScC(X:Cx)(N':List Str)(nt:Nat)(js:List Nat)(scope:Scope):Prop where
 kind:scope.kind=.function
 kinds:∀y∈scope.names,scope.names.lookup y.1=some y.2
 free:∀y∈scope.names,y.2=.free->(X.env.kindOf y.1=some .cell\/X.env.kindOf y.1=some .free)
 len:N'.length=nt+js.length
 fr:∀(k j:Nat),js[k]?=some j->∃x,N'[nt+k]?=some x/\X.N[j]?=some x/\scope.names.lookup x=some .free/\(X.env.kindOf x=some .cell\/X.env.kindOf x=some .free)
structure CfOk(h:Heap)(k:Nat)(names:List (Str×NameKind))(acc cs:List (Str×Addr)):Prop where
 look:∀z c,cs.lookup z=some c->(acc.lookup z=some c/\(z,ACX)∉names)\/((z,ACX)∈names/\k<=c/\h.IsCell c none)
 inj:∀y z c,cs.lookup y=some c->cs.lookup z=some c->y=z
 old:∀z c,acc.lookup z=some c->∃c',cs.lookup z=some c'
 new:∀z,(z,ACX)∈names->∃c,cs.lookup z=some c
def Br(i:Nat):DTG:=ay i
section
variable{X:Cx}{o i ke ve:Expr}{td ty tk tv:DTE}{pos:Pos}{k:Nat}
def wE(tk tv:DTE):DTE:=λS M Q=>tk S (M++[.dkt []]) λx M1=>tv S M1 λy M2=>match x with
 | .tup ks=>M2[M.length]?=some (.dkt [])/\bL 8 (.tup ks)=true/\Q (.ref M.length) (M2.set M.length (.dkt [(.tup ks,y)]))
 | _=>False
theorem Bv(hr:Room k X.A)(hk:DE X ke tk)(hv:DE X ve tv):DE X (.Dict [some ke] [ve] pos) (wE tk tv):=by
 rintro pins s σ H R I ⟨S,M,ρ,Q,sm,sr,q,kk⟩
 have un:=hr.un
 have hf:H s.heap.objs.size=none:=I.hok.fresh (AA8 _)
 have hb:(s.heap.objs.size==sysModules)=false:=beq_eq_false_iff_ne.mpr (ABO (AAK I.big))
 refine wpAny_Dict_any rfl rfl (by simp) (by simp) ?_
 have I0:Inv X pins σ (upd H s.heap.objs.size (.ext (dX s.heap.objs.size []))) { s with heap:=s.heap.push { cls:=.type "dict",data:=.dict #[] } }:=I.laid (a:=s.heap.objs.size) (o:=.ext (dX s.heap.objs.size [])) (t':=s.toks) (λ_ _ q=>AA4 _ q) (AA8 _) (jE ⟨_,#[],AAB _ rfl,⟨rfl,rfl,rfl⟩,rfl,rfl⟩)
 have sm0:Sim X.K (ρ++[s.heap.objs.size]) (M++[.dkt []]) (upd H s.heap.objs.size (.ext (dX s.heap.objs.size []))):=sm.laidM (mo:=.dkt []) hf ⟨AAW _,hb,ADC,[],aA,.nil⟩
 have g0:Grow X.K ρ H (ρ++[s.heap.objs.size]) (upd H s.heap.objs.size (.ext (dX s.heap.objs.size []))):=Grow.laidR hf
 have hn0:(ρ++[s.heap.objs.size])[M.length]?=some s.heap.objs.size:=sm.last
 generalize hA:s.heap.objs.size=a at *
 clear hA hf hb
 refine evalPairs_cons (thn (hk pins _ σ _ _ I0 ⟨S,_,_,_,sm0,sr.grow g0,q,λv H' z=>z⟩) ?_)
 rintro u s1 ⟨v,H1,I1,rv,x,M1,ρ1,sm1,g1,r1,q1⟩
 refine AA0 (thn (hv pins s1 σ H1 _ I1 ⟨S,M1,ρ1,_,sm1,(sr.grow g0).grow g1,q1,λv H' z=>z⟩) ?_)
 rintro u2 s2 ⟨v2,H2,I2,rv2,y,M2,ρ2,sm2,g2,r2,q2⟩
 refine AA0 (wpAny_standAt (AA2 ?_))
 refine evalPairs_nil ?_
 cases x with
 | tup ks =>
  obtain⟨hM,kd,q3⟩:=q2
  have hn2:=ar g2.pre (ar g1.pre hn0)
  obtain⟨xs,hH,r,dd,hsm,hl,hx,nd⟩:=eZ I2 sm2 hn2 hM
  cases r
  have rx:=r1.grow g2
  have kat:=cN I2 8 _ _ _ rx rv kd
  obtain⟨b,_,rfl,_⟩:=id kat
  have rk:Rep X.K ρ2 H2 (.tup ks) (.ref b):=by
   obtain⟨b',rfl⟩:∃b',v=.ref b':=by cases rx<;>exact⟨_,rfl⟩
   cases rv
   exact rx
  have r':Paired (rX X.K ρ2 H2) [(D.tup ks,y)] [(D.tup ks,b,u2)]:=.cons ⟨rfl,kd,rk,v2,r2,rv2⟩ .nil
  obtain⟨w1,w2⟩:=sm2.writeT hn2 hM hH (by rw[ABj];show 1<=16777216;lia) hsm (by simp) r'
  unfold storeAll
  rw[List.forIn_cons]
  refine AA0 (AA0 (EC (k:=.tup ks) (by show X.A.units+8<cLine;lia) kat dd (wx I2 hH) (by lia) λh' dd' hsb=>AA2 ?_))
  refine(show wpAny _ _ (forIn [] PUnit.unit _) _ _ _ from ?_)
  rw[List.forIn_nil]
  refine AA2 ?_
  have he:∃q,h'.get? a=some q:=let ⟨q,_,hq,_⟩:=dd';⟨q,hq⟩
  exact⟨.ref a,_,wC I2 (by rw[hH];exact AEL) hsb he (jE dd'),rfl,kk _ _ ⟨.ref M.length,_,ρ2,w1,((g0.trans g1).trans g2).trans w2,.ref hn2,q3⟩⟩
 | _=>exact q2.elim
end
section
variable{X:Cx}{k:Nat}{o i:Expr}{td ty tk tv:DTE}{pos:Pos}{ke ve:Expr}
theorem AK(hr:Room k X.A)(hk:HE X ke tk)(hv:HE X ve tv):HE X (.Dict [some ke] [ve] pos) (wE tk tv):=⟨Bv hr hk.ok hv.ok⟩
end
def BMain(mg:Str->Option Value)(base:Heap):Prop:=∃bm o,mg "__builtins__" = some (.ref bm)/\bm≠builtinsNs/\bm≠mainGlobals/\base.get? bm=some o/\o.cls=.type "module"/\o.dict=some builtinsNs/\o.data=.plain
def Self(X:Cx)(x:Str):Prop:=∃(f:Addr) (oc:Value) (od:Option Addr) (fd:FuncData) (sl:Array (Option Value)),X.mg x=some (.ref f)/\X.K.lookup f=some ⟨oc,od,.func fd,sl⟩/\X.env.code=fd.code
theorem Self.code(S:Self X x)(I:Inv X pins σ H s)(h:tabIn X.K x=some (c,P)):X.env.code=.ref c:=by
 obtain⟨f,oc,od,fd,sl,h1,h2,h3⟩:=S
 unfold tabIn at h
 split at h
 ·rename_i f' hf
  have e1:=mg_of I.mod.kin I.mod.glob hf
  rw[h1]at e1
  cases e1
  split at h
  ·rename_i e2
   rw[h2]at e2
   cases e2
   split at h
   ·rename_i c' hc
    split at h
    ·split at h
     ·cases h
      rw[h3,hc]
     ·cases h
    ·cases h
   ·cases h
  ·cases h
 ·cases h
section
variable{K:AA3}{ρ:List Addr}{M:Mem}{H:Hp}
theorem SqT.writtenB(hp:H p=some (.tbl ps))(h:SqT K H a xs):SqT K (upd H p o) a xs:=by
 have ne:∀u,H a=some u->(∀q,u≠.tbl q)->a≠p:=λu e q z=>by
  rw[z,hp]at e
  exact q ps (AAN e).symm
 rcases h with h | h
 ·rcases h with h | ⟨ob,h⟩
  ·exact .inl (.inl (by rw[ae (ne _ h λ_ z=>by cases z)];exact h))
  ·exact .inl (.inr ⟨ob,by rw[ae (ne _ h λ_ z=>by cases z)];exact h⟩)
 ·exact .inr h
theorem Sim.writeB(S:Sim K ρ M H)(e1:ρ[n]?=some a)(hM:M[n]?=some (.tb x b))(hH:H a=some (.tbl ps)) :
  Sim K ρ (M.set n (.tb x true)) (upd H a (.tbl ps'))/\Grow K ρ H ρ (upd H a (.tbl ps')):=by
 have g:Grow K ρ H ρ (upd H a (.tbl ps')):=⟨ACO,λ_ _ h=>SqT.writtenB hH h⟩
 have hk:∀m,m≠n->(M.set n (.tb x true))[m]?=M[m]?:=λm hm=>AAb (ABO hm)
 have notK:¬isK M[n]?:=λ⟨_,z⟩=>by rw[hM]at z;cases z
 refine⟨⟨λm m' b hne f1 f2=>?_,by rw[AAu];exact S.len,λm b' mo f1 f2=>?_⟩,g⟩
 ·have q:=S.nd m m' b hne f1 f2
  by_cases h1:m=n
  ·subst h1
   rw[hk m' (ABO hne)]
   exact .inr (q.resolve_left notK)
  ·rw[hk m h1]
   by_cases h2:m'=n
   ·subst h2
    exact .inl (q.resolve_right notK)
   ·rw[hk m' h2]
    exact q
 by_cases hm:m=n
 ·subst hm
  have hb:b'=a:=AAN (f1.symm.trans e1)
  subst hb
  rw[AAV (by rw[<-S.len];exact(AA7.mp e1).1)]at f2
  cases f2
  exact⟨(S.obj m b' _ e1 hM).1,ps',aA,λz=>by cases z⟩
 ·rw[hk m hm]at f2
  by_cases hb:b'=a
  ·subst hb
   have q':=(S.nd m n b' hm f1 e1).resolve_right notK
   rw[f2]at q'
   exact(S.obj m b' mo f1 f2).grow g (.inr q')
  ·exact(S.obj m b' mo f1 f2).grow g (.inl (ae hb))
end
theorem Au{P:Program}{w:World}{K:AA3}{mg:Str->Option Value}{base:Heap}{A:Around}{outer:List Env}{s:Shared}{H:Hp}{k:Nat}{f c':Addr}{nm qual:Str}{params:Arguments}{body:Expr}{scope:Scope}{pm ctv:Value}{N ps:List Str}{te:DTE}
  {ρ:List Addr}{M:Mem}{d:D}{v:V}{u:Value}{R:DK} (e0:Env0 P w K mg base A outer s H) (ho:s.heap.get? f=some (kla_obj nm qual params body scope [] pm c' ctv)) (hcd:s.heap.CodeRec (.ref c') qual) (S:FnScope N ps scope) (hr:Room (k+1) A)
  (hb:BindsTo s (kla_fn nm qual params body scope [] pm (.ref c') ctv) ⟨[u],[]⟩ (ps.zip [u])) (hl:1=ps.length) (der:∀E,Room k (A.deeper (envOfC qual scope s.heap.objs.size f (.ref c')))->DE (jL CX0 P w K mg base N qual scope f (.ref c') A outer s H E).nox body te)
  (sm:Sim K ρ M H) (r:Rep K ρ H d v) (ru:aI v u) (hq:te (bv N [d]) M (aX M R)) :
  codeAny (model P w) A (.call (.ref f) ⟨[u],[]⟩) (CR CX0 outer P w H s (λv' H'=>VQ K ρ H R v' H') E0) s:=by
 have lim:s.heap.NoLimit:=e0.mod.nolimit.keeps λb o e=>(e0.bs b o e).1
 have hkind:∀y∈ps.zip [u],scope.names.lookup y.1=some .local\/(scope.names.lookup y.1=some .cell/\((cellsFrom (s.heap.objs.size+1) scope.names []).lookup y.1).isSome=true):=λ⟨n,v⟩ hy=>by
  rcases S.par n (ADz hy).1 with q | q
  ·exact .inl q
  ·exact .inr ⟨q,ADd _ _ _ (.inl q)⟩
 refine kla_callFunE hr.depth ho rfl S.co S.gen rfl hcd (hb _ _ _ _ ?_)
 refine wpAny_newFunctionEnv_cells S.kind hkind λenv he s1 x=>?_
 subst he
 refine⟨lim.keeps x.toInCall.keep,kla_codeExpr ?_⟩
 have I:Inv (jL CX0 P w K mg base N qual scope f (.ref c') A outer s H E0) [] (start N [v]) H s1:=nX S hr.hd e0 hl (.cons ru .nil) x
 have dd:=PE.nox (der E0 (hr.deeper _))
 refine AAp (dd [] s1 (start N [v]) H (λv' H'=>VQ K ρ H (aX M R) v' H') I ⟨bv N [d],M,ρ,_,sm,SRep.start (.cons r .nil) N,hq,λ_ _ z=>z⟩) (λu' s' hs=>?_) λe s' hs=>hs
 obtain⟨v',H',J,rv,q⟩:=hs
 exact⟨v',H',J.os,J.bare,J.base,J.hok,rv,VQ.endq sm q⟩
section
variable{X:Cx}{pins:List (Addr×Obj)}{σ:St}{H:Hp}{s:Shared}
theorem Inv.writeB(I:Inv X pins σ H s)(hH:H P=some (.tbl ps))(k:∀b u,b≠P->s.heap.get? b=some u->h'.get? b=some u)(hP:h'.get? P=some (tabObj (ps++more))):Inv X pins σ (upd H P (.tbl (ps++more))) { s with heap:=h',toks:=t' }:=by
 have nn:∀b,H b=none->b≠P:=λb n z=>by rw[z,hH]at n;cases n
 have ne:∀b u,H b=some u->(∀q,u≠.tbl q)->b≠P:=λb u e q z=>by
  rw[z,hH]at e
  exact q ps (AAN e).symm
 refine I.un ⟨λb u q n _ _=>k b u (nn b n) q,λb u q n _ _=>⟨u.slots,k b u (nn b n) q⟩,λb u q n _=>by rw[ae (nn b n)];exact n,λb u q _=>?_,λb xs q=>by rw[ae (ne b _ q λ_ z=>by cases z)];exact q,λb u xs q=>by rw[ae (ne b _ q λ_ z=>by cases z)];exact q,λb qs q=>?_⟩ λb u q=>?_
 ·by_cases hb:b=P
  ·subst hb;exact⟨_,hP⟩
  ·exact⟨u,k b u hb q⟩
 ·by_cases hb:b=P
  ·subst hb
   rw[hH]at q
   cases q
   exact⟨more,aA⟩
  ·exact⟨#[],by rw[ae hb,q];simp⟩
 ·by_cases hb:b=P
  ·subst hb
   rw[aA]at q
   cases q
   exact hP
  ·rw[ae hb]at q
   refine(I.hok b u q).stay (λc v hc r=>k c v ?_ r) (λc r=>by rw[ae (ne c _ r λ_ z=>by cases z)];exact r) λc xs r=>by rw[ae (ne c _ r λ_ z=>by cases z)];exact r
   rcases hc with rfl | hc
   ·exact hb
   ·exact ne c _ hc λ_ z=>by cases z
theorem xR(I:Inv X pins σ H s)(hH:H P=some (.tbl #[]))(C:∀h:Heap,X.K.In h->CodeHd h c P)(hcode:X.env.code=.ref c)(B:BMain X.mg X.base)
  (hcl:closureFor scope X.env=pure []) (hdef:defaultsOf params X.env=([],[]))
  (h:∀f c' oc vs t ctv ps' s',Inv X ((f,kla_obj "<lambda>" (X.env.qual ++ "<lambda>") params body scope [] ((X.mg "__name__").getD .none) c' ctv)::(c',oc)::pins) σ (upd H P (.tbl ps')) s'->oc.data=.fields vs->vs[1]?=some (.str (X.env.qual ++ "<lambda>") t)->Q (.ref f) s') :
  wpAny (model X.prog X.w) A (eval (.Lambda params body scope pos) X.env) Q E s:=by
 have hP:s.heap.get? P=some (tabObj #[]):=I.hok P _ hH
 have hg:s.heap.Ns mainGlobals X.mg:=I.mod.glob.keeps I.bk
 have nP:∀b o,X.base.get? b=some o->b≠P:=λb o e z=>by
  have:=(I.bs b o e).2
  rw[z,hH]at this
  cases this
 obtain⟨bm,ob,b1,b2,b3,b4,b5⟩:=B
 have hgP:mainGlobals≠P:=by
  obtain⟨o,es,ep,e,_⟩:=I.mod.glob
  exact nP _ _ e
 refine kla_eval hdef (kla_makeFunction hcl I.ok.glob hg hcode (C _ I.kIn) hP trivial rfl hgP ⟨bm,ob,b1,b2,b3,nP _ _ b4,I.bk _ _ b4,b5⟩ λc' ctv h' tk hx hge hlt hrec htb=>?_)
 obtain⟨c2,oc,vs,t,e2,hoc,hd,hv⟩:=hrec
 cases e2
 have Pn:P≠h'.objs.size:=λz=>by rw[z]at htb;exact absurd (AAF htb) (AAf _)
 have hs:s.heap.objs.size<=h'.objs.size:=AB0 hge (ADq hlt)
 have J:Inv X pins σ (upd H P (.tbl (#[] ++ #[rawInt pos.line,rawInt pos.col,.ref c']))) { s with heap:=h'.push (kla_obj "<lambda>" (X.env.qual ++ "<lambda>") params body scope [] ((X.mg "__name__").getD .none) c' ctv),toks:=tk }:=by
  exact I.writeB hH (λb u hb e=>AA4 _ (hx b u hb e)) (AA4 _ htb)
 have fresh:∀b,s.heap.objs.size<=b->b≠P->upd H P (.tbl (#[] ++ #[rawInt pos.line,rawInt pos.col,.ref c'])) b=none/\b≠X.env.locals/\b∉X.fs:=λb hb hn=>by
  refine⟨by rw[ae hn];exact I.hok.fresh hb,λz=>?_,I.nofs hb⟩
  rw[z]at hb
  exact absurd (AAP I.lt hb) (AAf _)
 have cP:c'≠P:=λz=>by
  rw[z]at hge
  exact absurd (AAP (AAF hP) hge) (AAf _)
 refine h h'.objs.size c' oc vs t ctv _ _ (J.pins_of λp hp=>?_) hd hv
 rcases AAM.mp hp with rfl | hp
 ·obtain⟨a1,a2,a3⟩:=fresh h'.objs.size hs (ABO Pn)
  exact⟨AAB _ rfl,a1,a2,a3,λv z=>by cases z⟩
 rcases AAM.mp hp with rfl | hp
 ·obtain⟨a1,a2,a3⟩:=fresh c' hge cP
  exact⟨AA4 _ hoc,a1,a2,a3,λv z=>by rw[hd]at z;cases z⟩
 ·exact J.pin p (AAI _ hp)
end
noncomputable def lamB(sc:Scope)(y:Str):Bool:=decide (sc.kind=.function) && !sc.isCoroutine && !sc.isGenerator&&decide (sc.names.lookup y=some .local)&&sc.names.all λp=>decide (p.2≠.free)
theorem vO(h:lamB sc y=true):FnScope [y] [y] sc:=by
 simp only[lamB,AAS,decide_eq_true_eq,Bool.not_eq_true',AAU]at h
 obtain⟨⟨⟨⟨h1,h2⟩,h3⟩,h4⟩,h5⟩:=h
 refine⟨h1,h2,h3,ABs.mpr ⟨ADF,ADC⟩,rfl,λx hx=>?_,λp hp=>h5 p hp⟩
 obtain rfl:x=y:=by simpa using hx
 exact .inl h4
def iB(x:Str)(N:List Str)(te:DTE)(t:DTA):DTE:=λS M Q=>t S M λds M1=>match ds with
 | [y]=>∃q xs key,M1[q]?=some (.tb x false)/\(y=.tup xs\/∃n,y=.ref n/\ao (M1.set q (.tb x true)) n xs)/\(∀d∈xs,te (bv N [d]) (M1.set q (.tb x true)) (aX (M1.set q (.tb x true)) λz M'=>z=key d/\M'=M1.set q (.tb x true)))/\SrtG (M1.set q (.tb x true)) (xs.map key) /\
   ∀ys,ys.Perm xs->ys.Pairwise (λa b=>ltD (M1.set q (.tb x true)) eqN (key b) (key a)=false)->Q (.ref M1.length) (M1.set q (.tb x true)++[.lst ys])
 | _=>False
theorem vZ(Sf:Self X x)(B:BMain X.mg X.base)(hr:Room (k+3) X.A)(he:HA X [e] t)(hm:X.mg "sorted" = none)
  (der:∀(s:Shared) (H:Hp) (f:Addr) (cdv:Value) (A:Around) (outer:List Env) (E:XK),Room k (A.deeper (envOfC (X.env.qual ++ "<lambda>") scope s.heap.objs.size f cdv))->HE (jL CX0 X.prog X.w X.K X.mg X.base [y] (X.env.qual ++ "<lambda>") scope f cdv A outer s H E).nox body te)
  (Sc:FnScope [y] [y] scope) (hcl:closureFor scope X.env=pure []) (hdef:defaultsOf params X.env=([],[]))
  (hb:∀(pm ctv:Value) (c':Addr) (u:Value),bindArgs (kla_fn "<lambda>" (X.env.qual ++ "<lambda>") params body scope [] pm (.ref c') ctv) ⟨[u],[]⟩=pure [(y,u)])
  (hg1:X.env.kindOf "sorted" = some .globalImplicit:=by kernel_rfl) (hs:starEach [e] X.env=[(false,eval e X.env)]:=by kernel_rfl) :
  HE X (.Call (.Name "sorted" p) [e] [⟨some "key",.Lambda params body scope lpos,kpos⟩] pos) (iB x [y] te t):=by
 refine⟨λpins s σ H R I h=>?_⟩
 obtain⟨S,M,ρ,Q,sm,sr,q,kk⟩:=h
 refine ABW (gi I hg1 hm oN ?_ (by decide) (by decide))
 unfold iB at q
 refine callWith_kw (thn (he.ok pos pins s σ H (λvs H1=>AQ X.K ρ H _ vs H1) I ⟨S,M,ρ,_,sm,sr,q,λ_ _ z=>z⟩) ?_) (by rw[hs];rfl) (by rw[hs];rfl)
 rintro us s1 ⟨vs,H1,I1,r1,q1⟩
 obtain⟨ds,M1,ρ1,sm1,g1,rs,q1⟩:=q1
 split at q1
 ·rename_i y0
  obtain⟨qn,xs,key,hq,hx,hP,so,fin⟩:=q1
  obtain⟨v1,_,rfl,rx,rs⟩:=Reps.inv_cons rs
  obtain rfl:=Reps.inv_nil rs
  obtain⟨u,rfl,ru⟩:=au.one r1
  obtain⟨Pa,ep,mo⟩:=sm1.get hq
  obtain⟨⟨c,tc,C⟩,ps,hH,h0⟩:=mo
  obtain rfl:=h0 rfl
  refine kws_cons (xR I1 hH C (Sf.code I1 tc) B hcl hdef λf c' oc vs t' ctv ps' s2 I2 hd hv=>kws_nil ?_)
  obtain⟨sm2,g2⟩:=sm1.writeB (ps':=ps') ep hq hH
  show wpAny _ _ (call (.builtin "sorted") [u] [(AA1 "key",.ref f)]) _ _ _
  have l64:=so.len
  rw[AA6]at l64
  have hr2:Room (k+1+2) X.A:=hr
  generalize upd H1 Pa (.tbl ps')=H2 at sm2 g2 I2
  have ml:(M1.set qn (.tb x true)).length=M1.length:=AAu ..
  generalize M1.set qn (.tb x true)=M2 at sm2 hP so fin hx ml
  have G:KeyG X ((f,kla_obj "<lambda>" (X.env.qual ++ "<lambda>") params body scope [] ((X.mg "__name__").getD .none) c' ctv)::(c',oc)::pins) σ ρ1 M2 f key xs:=λs H d v u hm I sm r ru=>by
   have p1:=(I.pin _ (AAI _ AAG)).1
   have p2:=(I.pin (c',oc) (AAI _ (AA9 _ AAG))).1
   exact Au (k:=k) I.env0.in1.in1 p1 ⟨c',oc,vs,t',rfl,p2,hd,hv⟩ Sc (Room.in1 (k:=k+2) hr2).in1 (.of_eq (hb _ _ _ _)) rfl (λE hr=>(der s H f _ _ _ E hr).ok) sm r ru (hP d hm)
  have back:∀{v:Value}{s':Shared},EP X ((f,kla_obj "<lambda>" (X.env.qual ++ "<lambda>") params body scope [] ((X.mg "__name__").getD .none) c' ctv)::(c',oc)::pins) σ R v s'->EP X pins σ R v s':=λ{v s'} ⟨v',H',J,rv,q⟩=>⟨v',H',J.pins_of λp hp=>J.pin p (AAI _ (AA9 _ (AA9 _ hp))),rv,q⟩
  have fin':∀ys,ys.Perm xs->ys.Pairwise (λa b=>ltD M2 eqN (key b) (key a)=false)->Q (.ref M2.length) (M2++[.lst ys]):=λys h1 h2=>by rw[ml];exact fin ys h1 h2
  rcases hx with rfl | ⟨n,rfl,hL⟩
  ·obtain⟨a,vs,rfl,hq',r⟩:=Rep.inv_tup (rx.grow g2)
   cases ru
   obtain⟨its,rr,⟨o,ho,hc,n,hd'⟩,_⟩:=I2.tuple hq'
   have h1:=r.length
   have h2:=rr.length
   exact AAp (qV G hr2 I2 sm2 r rr ho (.inr hc) hd' (by lia) so λv H' z=>kk v H' (VQ.trans g1 (VQ.trans g2 (z Q fin')))) (λ_ _ z=>back z) λ_ _ z=>z
  ·obtain⟨a,rfl,en⟩:=Rep.inv_ref rx
   cases ru
   obtain⟨vs,hq',r⟩:=ao.seq sm2 hL en
   obtain⟨its,rr,⟨o,n,ho,hc,_,hd'⟩,_⟩:=I2.list hq'
   have h1:=r.length
   have h2:=rr.length
   exact AAp (qV G hr2 I2 sm2 r rr ho (.inl hc) hd' (by lia) so λv H' z=>kk v H' (VQ.trans g1 (VQ.trans g2 (z Q fin')))) (λ_ _ z=>back z) λ_ _ z=>z
 ·exact q1.elim
section
variable{P:Program}{w:World}{K:AA3}{mg:Str->Option Value}{base:Heap}{x:Str}{st:Stmt}{N ps:List Str}{k:Nat}{Pr:DSp}{B:List Str}{C:List (Str×Int)}{t:DTS}
abbrev DerL(P:Program)(w:World)(K:AA3)(mg:Str->Option Value)(base:Heap)(k:Nat)(x:Str)(N:List Str)(st:Stmt)(t:DTS):Prop :=
 ∀(f:Addr) (cdv:Value) (A:Around) (outer:List Env) (s:Shared) (H:Hp) (E:XK),Room k (A.deeper (AEA x (ak st) s.heap.objs.size f cdv))->Self (jL CX0 P w K mg base N x (ak st) f cdv A outer s H E).nox x->HB (jL CX0 P w K mg base N x (ak st) f cdv A outer s H E).nox (bg st) t
theorem Cal.byL(T:TopB mg B C)(F:cw K mg x st ps)(Sc:FnScope N ps (ak st))(len:dj Pr ps)(der:TopB mg B C->N.Nodup->DerL P w K mg base k x N st t)(wp:∀ds M R,Pr ds M R->t (EE M R) (bv N ds) M):Cal P w K mg base (k+1) x ps Pr:=by
 obtain⟨f,fd,F1,hm,hb⟩:=F
 refine⟨f,fd,?_,hm,F1.kp,hb⟩
 obtain⟨oc,od,kV,doc,pm,an,cdv,ct,osl,rfl,lk,hcd⟩:=F1.ex
 refine Bc lk hcd Sc (λvs H Q E ⟨ds,M,ρ,R,s,r,q,_⟩=>by rw[<-r.length];exact len ds M R q) λA outer s H vs Q E hr h=>?_
 obtain⟨ds,M,ρ,R,sm,r,q,kk⟩:=h
 have ht:=der T Sc.nd f cdv A outer s H E hr ⟨f,oc,od,_,osl,hm,lk,rfl⟩
 refine⟨lowS K t,PSs.nox ht.ok,bv N ds,M,ρ,_,sm,SRep.start r N,wp ds M R q,⟨λσ' H' ⟨S',M',ρ',s',g',sr',q'⟩=>?_,λv H' z=>kk v H' (VQ.endq sm z),λσ' H' ⟨S',M',ρ',s',g',sr',q'⟩=>q'.elim,λσ' H' ⟨S',M',ρ',s',g',sr',q'⟩=>q'.elim⟩⟩
 exact kk .non H' (VQ.endq sm ⟨.non,M',ρ',s',g',.non,q'⟩)
end
def sS(z:Str):DSp:=λds M R=>∃(ns:List Int) (mo:MO),ns.length<=63/\(mo.items=ns.map D.int/\mo.isL=true)/\ds=[.ref 0]/\M=[mo,.tb z false]/\∀M',R (.bl true) M'
theorem pU{K:AA3}{H:Hp}{a Pt c:Addr}{z:Str}{ns:List Int}(hl:ns.length<=63)(hS:SqL K H a (ns.map V.int))(hP:H Pt=some (.tbl #[]))(tc:tabIn K z=some (c,Pt))(C:∀h:Heap,K.In h->CodeHd h c Pt)(ne:a≠Pt):spL K (sS z) [.ref a] H (λv _=>v=.bl true) λ_ _ _=>False:=by
 have one:∀{mo:MO},mo.items=ns.map D.int/\mo.isL=true->tO K [a,Pt] H a mo->spL K (sS z) [.ref a] H (λv _=>v=.bl true) λ_ _ _=>False:=λ{mo} e ok=>by
  refine⟨[.ref 0],[mo,.tb z false],[a,Pt],λd _=>d=.bl true,⟨λn m b hne e1 e2=>?_,rfl,λn b mo' e1 e2=>?_⟩,.cons (.ref rfl) .nil,⟨ns,mo,hl,e,rfl,rfl,λ_=>rfl⟩,λv H' ⟨d,M',ρ',_,_,r,q⟩=>?_⟩
  ·match n,m,e1,e2 with
   | 0,0,_,_=>exact absurd rfl hne
   | 1,1,_,_=>exact absurd rfl hne
   | 0,1,e1,e2=>simp at e1 e2;exact absurd (e1.trans e2.symm) ne
   | 1,0,e1,e2=>simp at e1 e2;exact absurd (e2.trans e1.symm) ne
   | n+2,_,e1,_=>simp at e1
   | _,m+2,_,e2=>simp at e2
  ·match n,e1,e2 with
   | 0,e1,e2 =>
    simp at e1 e2
    subst e1 e2
    exact ok
   | 1,e1,e2 =>
    simp at e1 e2
    subst e1 e2
    exact⟨⟨c,tc,C⟩,#[],hP,λ_=>rfl⟩
   | n+2,e1,_=>simp at e1
  ·have q':d=.bl true:=q
   subst q'
   obtain rfl:=Rep.inv_bl r
   rfl
 rcases hS with(h | ⟨o,h⟩) | h
 ·exact one (mo:=.lst _) ⟨rfl,rfl⟩ ⟨_,h,fS ns⟩
 ·exact one (mo:=.fz _) ⟨rfl,rfl⟩ ⟨o,_,h,fS ns⟩
 ·exact one (mo:=.kl _) ⟨rfl,rfl⟩ ⟨_,h,fS ns⟩
theorem vN{P:Program}{w:World}{K:AA3}{mg mb:Str->Option Value}{k:Nat}{fa a Pt:Addr}{fd:FuncData}{x:Str}{sp:Sp}{s₁:Shared}{vs:List Value}{ns:List Int}
  (KX:K.In s₁.heap) (hns:s₁.heap.Ns mainGlobals mg) (hb:s₁.heap.Ns builtinsNs mb) (hbb:∀x:Str,x≠"__name__"->mb x=bootBuiltins x) (hlim:s₁.heap.NoLimit) (hg:s₁.gens = #[])
  (ha:s₁.heap.get? a=some { cls:=.type "list",data:=.seq vs.toArray }) (hi:IntsAre vs ns) (hl:ns.length<=sizeLine) (hr:Room k callerA) (nt:noTabs K=true) (hP:s₁.heap.get? Pt=some (tabObj #[])) (isT:isCodeTable s₁.heap Pt) (BM:BMain mg s₁.heap)
  (F:∀base:Heap,K.In base->base.Ns mainGlobals mg->BMain mg base->FnOk P w K mg base CX0 k fa fd [x] sp) (hbind:∀(s:Shared) (u:Value),BindsTo s fd ⟨[u],[]⟩ [(x,u)])
  (hsp:∀H:Hp,SqL K H a (ns.map V.int)->H Pt=some (.tbl #[])->sp [.ref a] H (λv _=>v=.bl true) λ_ _ _=>False) :
  codeAny (model P w) callerA (.call (.ref fa) ⟨[.ref a],[]⟩) (λr s'=>r=.ok (.ret (.bool true))/\OldK s₁.heap s'.heap/\s'.os=s₁.os/\AllBare s'.gens) s₁:=by
 have rv:=mF hi
 have lenV:=hi.length
 have aP:a≠Pt:=λe=>by rw[e,hP]at ha;cases ha
 have core:∀H:Hp,(∀b,b≠Pt->H b=none\/∃o xs,H b=some (.frz o (.lst xs)))->SqL K H a (ns.map V.int)->H Pt=some (.tbl #[])->HOk P w H s₁.heap->(∀b,H b≠none->b=a\/b=Pt)->(H a≠none->K.lookup a=none) ->
   codeAny (model P w) callerA (.call (.ref fa) ⟨[.ref a],[]⟩) (λr s'=>r=.ok (.ret (.bool true))/\OldK s₁.heap s'.heap/\s'.os=s₁.os/\AllBare s'.gens) s₁:=by
  intro H hO hS hT hok hA hK
  have base_of:∀{b:Addr}{o:Obj},s₁.heap.get? b=some o->H b=none->(wV s₁.heap H).get? b=some o:=λe n=>yh e n
  have noA:∀{b:Addr}{o:Obj},s₁.heap.get? b=some o->o.cls≠.type "list"\/(∀v n,o.data≠.seq v n)->o≠tabObj #[]->H b=none:=λ{b o} e d1 d2=>by
   cases q:H b with
   | none=>rfl
   | some u =>
    rcases hA b (by rw[q];simp)with e' | e'
    ·subst e'
     rw[ha]at e;cases e
     rcases d1 with d1 | d1
     ·exact absurd rfl d1
     ·exact absurd rfl (d1 _ _)
    ·subst e'
     rw[hP]at e;cases e
     exact absurd rfl d2
  have nsK:∀{b:Addr}{m:Str->Option Value},s₁.heap.Ns b m->(wV s₁.heap H).Ns b m:=λ{b m} ⟨o,es,ep,e,d,r⟩=>⟨o,es,ep,base_of e (noA e (.inr λv n z=>by rw[d]at z;cases z) λz=>by rw[z]at d;cases d),d,r⟩
  have hKb:K.In (wV s₁.heap H):=λb o e=>base_of (KX b o e) (by
   cases q:H b with
   | none=>rfl
   | some u =>
    rcases hA b (by rw[q];simp)with e' | e'
    ·subst e'
     rw[hK (by rw[q];simp)]at e;cases e
    ·subst e'
     have h2:=AAU.mp nt (b,o) (mem_of_lookupK e)
     have h3:=KX b o e
     rw[hP]at h3
     cases h3
     exact absurd (show false=true from h2) ABJ)
  have hM:Mod K mg (wV s₁.heap H):=⟨hKb,nsK hns,⟨mb,nsK hb,hbb⟩,let ⟨mc,h1,h2⟩:=hlim;⟨mc,nsK h1,h2⟩⟩
  have e0:Env0 P w K mg (wV s₁.heap H) callerA [] s₁ H:=⟨rfl,hM,λb o e=>Ai e,Nat.le_of_eq (wg _ _),trivial,λb hb=>absurd (show b∈([]:List Addr)from hb) (by simp),hok,.of_eq hg⟩
  have bm:BMain mg (wV s₁.heap H):=by
   obtain⟨bm,ob,b1,b2,b3,b4,b5,b6⟩:=BM
   exact⟨bm,ob,b1,b2,b3,base_of b4 (noA b4 (.inl λz=>by rw[z]at b5;injection b5 with h;exact absurd h (by decide)) λz=>by rw[z]at b5;cases b5),b5,b6⟩
  refine ACT ((F _ hKb (nsK hns) bm).run callerA [] s₁ H ⟨[.ref a],[]⟩ [.ref a] [.ref a] _ _ hr e0 (hbind s₁ (.ref a)) (.cons rfl .nil) (hsp H hS hT)) λr s' h=>?_
  cases r with
  | error e=>exact h.elim
  | ok fl =>
   cases fl with
   | next=>exact ABZ h
   | brk=>exact ABZ h
   | cont=>exact ABZ h
   | ret u =>
    obtain⟨v,H',os,bare,un,hok',r',q⟩:=h
    have q':v=.bl true:=q
    subst q'
    obtain rfl:u=Value.bool true:=r'
    obtain⟨more,hT'⟩:=un.tbls Pt _ hT
    have hP':s'.heap.get? Pt=some (tabObj (#[]++more)):=hok' Pt _ hT'
    have old:∀b o,b≠Pt->s₁.heap.get? b=some o->s'.heap.get? b=some o:=λb o hb e=>by
     cases q:H b with
     | none=>exact un.keep b o e q (by intro z;exact absurd (show b∈([]:List Addr)from z) (by simp)) (by simp)
     | some u =>
      rcases hO b hb with z | ⟨ob,xs,z⟩
      ·rw[q]at z;cases z
      ·have z2:=un.frzs b ob _ z
       obtain⟨e1,_⟩:=hok b _ z
       obtain⟨e2,_⟩:=hok' b _ z2
       rw[e]at e1;cases e1
       exact e2
    refine⟨rfl,⟨λb o e=>?_,λb o e=>?_⟩,os,bare⟩
    ·by_cases hb:b=Pt
     ·subst hb
      rw[hP]at e;cases e
      exact .inr (.inl ⟨isT,rfl,#[],more,rfl,hP'⟩)
     ·exact .inl (old b o hb e)
    ·by_cases hb:b=Pt
     ·subst hb;exact⟨_,hP'⟩
     ·exact⟨o,old b o hb e⟩
 cases hk:K.lookup a with
 | some o =>
  have e:=KX a o hk
  rw[ha]at e
  cases e
  refine core (upd (λ_=>none) Pt (.tbl #[])) (λb hb=>.inl (ae hb)) (.inr ⟨_,vs.toArray,_,hk,rfl,rfl,rfl,by rw[AAD,lenV];exact hl,by simpa using rv⟩) aA (λb u z=>?_) (λb z=>?_) λz=>absurd (ae aP) z
  ·by_cases hb:b=Pt
   ·subst hb
    rw[aA]at z
    cases z
    exact hP
   ·rw[ae hb]at z
    cases z
  ·by_cases hb:b=Pt
   ·exact .inr hb
   ·exact absurd (ae hb) z
 | none =>
  refine core (upd (λb=>if b=a then some (.frz { cls:=.type "list",data:=.seq vs.toArray } (.lst (ns.map V.int)))else none) Pt (.tbl #[])) (λb hp=>?_) (.inl (.inr ⟨{ cls:=.type "list",data:=.seq vs.toArray },(ae aP).trans (if_pos rfl)⟩)) aA (λb u z=>?_) (λb z=>?_) λ_=>hk
  ·rw[ae hp]
   by_cases hb:b=a
   ·exact .inr ⟨_,_,if_pos hb⟩
   ·exact .inl (if_neg hb)
  ·by_cases hp:b=Pt
   ·subst hp
    rw[aA]at z
    cases z
    exact hP
   rw[ae hp]at z
   by_cases hb:b=a
   ·have z':=(if_pos hb).symm.trans z
    cases z'
    subst hb
    exact⟨ha,by rw[AA6];exact hl,vs,_,rv,ha⟩
   ·have z':=(if_neg hb).symm.trans z
    cases z'
  ·by_cases hp:b=Pt
   ·exact .inr hp
   rw[ae hp]at z
   by_cases hb:b=a
   ·exact .inl hb
   ·exact absurd (if_neg hb) z
theorem xg{K:AA3}{x:Str}{c P:Addr}(h:tabIn K x=some (c,P)):∃o,K.lookup c=some o:=by
 unfold tabIn at h
 split at h
 ·split at h
  ·split at h
   ·rename_i c' _
    split at h
    ·rename_i e
     split at h
     ·cases h;exact⟨_,e⟩
     ·cases h
    ·cases h
   ·cases h
  ·cases h
 ·cases h
theorem law_walkL{l:PySem.W.OpenLaw}{q:Program}{loose:List Str}{XP:(Str->Option Value)->Heap->Prop}{YP:World->Heap->Prop}{d dz:DefRec}{K:Params->AA3}{k:Nat}{st:Stmt}{x z:Str}{cz Pz:Params->Addr}(hn:l.most=some 63)(hdf:d.params.defaults=[])(hd:d.name = "law")(hr:Room k callerA)
  (hY:∀(w:World) (h:Heap),YP w h->(K w.params).In h) (nt:∀p,noTabs (K p)=true) (hz:(recsOf q).find? (λe=>e.name==z)=some dz) (tz:∀p,tabIn (K p) z=some (cz p,Pz p))
  (F:∀(w:World) (mg:Str->Option Value) (h:Heap),(K w.params).In h->h.Ns mainGlobals mg->cw (K w.params) mg "law" st [x] /\
   ∀(base:Heap) (f:Addr) (fd:FuncData),BMain mg base->Fun (K w.params) "law" "law" st f fd->FnOk l.prog w (K w.params) mg base CX0 k f fd [x] (spL (K w.params) (sS z)))
  (hb:∀(kV doc pm:Value) (an:Option Addr) (cdv ct:Value) (u:Value),bindArgs (ACU "law" "law" (fA st) (bg st) (ak st) .none kV doc pm an cdv ct) ⟨[u],[]⟩=pure [(x,u)]) :
  PySem.W.WalkO q loose XP YP l.row.toRowW d [] (λf vs=>PySem.call f vs):=by
 refine Att.attach_call hn hdf λw s₀ s₁ mg mb fa o pm cd doc a vs ns G Y ho hdd hcd hmg hobj hints hlen hg=>?_
 have KX:=hY w _ Y
 rw[hd]at hmg
 obtain⟨⟨f,fd,F1,hm,_⟩,C⟩:=F w mg _ KX G.T.g
 have e:=hmg.symm.trans hm
 cases e
 obtain⟨CH,hP⟩:=tab_of G.T KX hz (tz w.params)
 obtain⟨oc',hlc⟩:=xg (tz w.params)
 have CK:∀h:Heap,(K w.params).In h->CodeHd h (cz w.params) (Pz w.params):=λh X=>by
  obtain⟨o2,vs2,file,tf,flags,tg,inF,text,tt,e1,r⟩:=CH
  have e2:=KX _ _ hlc
  rw[e1]at e2
  cases e2
  exact⟨_,vs2,file,tf,flags,tg,inF,text,tt,X _ _ hlc,r⟩
 have bmn:BMain mg s₁.heap:=by
  obtain⟨bm,ob,b1,b2,b3,b4,b5,b6⟩:=G.T.bmain
  refine⟨bm,ob,b1,b2,λz=>?_,b3,b4,b5,b6⟩
  obtain⟨og,es,ep,eg,dg,_⟩:=G.T.g
  rw[z,eg]at b3
  cases b3
  rw[dg]at b6
  cases b6
 have aP:a≠Pz w.params:=λe=>by rw[e,hP]at hobj;cases hobj
 obtain⟨oc,od,kV,doc',pm',an,cdv,ct,osl,rfl,lk,hcd'⟩:=id F1.ex
 exact vN KX G.T.g G.T.b G.T.builtins G.T.nolimit hg hobj hints (AB0 hlen (by decide)) hr (nt _) hP (CH.tab hP).isCodeTable bmn (λbase _ _ B=>C base _ _ B F1) (λs v=>.of_eq (hb kV doc' pm' an cdv ct v)) λH hS hT=>pU hlen hS hT (tz w.params) CK aP
end L2
namespace L2
open PySem PySem.Spec PyProof.Rows DL
def GtAt(A:Around)(s:Shared)(x y:Value)(k:Bool):Prop:=∀(prog:Program) (w:World) (E:Value->Shared->Prop) (Q:Value->Shared->Prop),Q (.bool k) s->wpAny (model prog w) A (richCompare .Gt x y) Q E s
inductive GexAt(A:Around)(s:Shared):List Value->List Value->Bool->Prop
 | nn:GexAt A s [] [] false
 | nc {y:Value}{ys:List Value}:GexAt A s [] (y::ys) false
 | cn {x:Value}{xs:List Value}:GexAt A s (x::xs) [] true
 | eq {x y:Value}{xs ys:List Value}{k:Bool} (h:ACC A s x y true) (t:GexAt A s xs ys k):GexAt A s (x::xs) (y::ys) k
 | ne {x y:Value}{xs ys:List Value}{k:Bool} (h:ACC A s x y false) (t:GtAt A s x y k):GexAt A s (x::xs) (y::ys) k
section
variable{prog:Program}{w:World}{A:Around}{E:Value->Shared->Prop}{s:Shared}{d:Addr}{o:Obj}{es:Array DictEntry}{ep:Nat}{xs:List (D×Value×Value)}{k:D}{key:Value}{hs:D->Int}{Q:Option Nat->Shared->Prop}
noncomputable def pM(es:Array DictEntry)(h:Int)(i:Nat):Bool:=(es[i]?.map (·.hash))==some h
end
section
open PySem.W
variable{prog:Program}{w:World}{A:Around}{E:Value->Shared->Prop}{s:Shared}{K:Frag}{x D:Addr}{ox:Obj}
structure ExcK(K:Frag)(D:Addr):Prop where
 ga:findIn K (.ref D) "__getattribute__" = some (some (.builtin "BaseException.__getattribute__"))
 gt:findIn K (.ref D) "__getattr__" = some none
 mb:mroIn K D (.type "BaseException")=some true
 mo:mroIn K D (.type "object")=some true
 cl:findIn K (.ref D) "__class__" = some (some (.builtin "object.__class__"))
def Fd(h:Heap)(x D:Addr):Prop:=∃o,h.get? x=some o/\o.cls=.ref D
theorem Fd.type(I:Fd h x D):Looks M h (typeOf (.ref x)) (.ref D):=by
 obtain⟨o,e,c⟩:=I
 exact c ▸ (Looks.ld e).andThen .now
theorem pL(X:K.In h)(c:ExcK K D):Looks M h (Builtin.ObjectAttr.find (.ref x) (.ref D) "__class__") (.bind (.builtin "getset_descriptor.__get__") (.builtin "object.__class__")):=by
 have ht:typeIn K (.builtin "object.__class__")=some (.type "getset_descriptor"):=by kernel_rfl
 have h1:specialIn K (.builtin "object.__class__") "__get__" = some (some (.builtin "getset_descriptor.__get__")):=by
  unfold specialIn;rw[ht];kernel_rfl
 have h2:takesIn K (.builtin "object.__class__")=some true:=by
  unfold takesIn specialIn;rw[ht];kernel_rfl
 have L1:=looks_findIn (M:=M) X c.cl
 have L2:Looks M h (Builtin.ObjectAttr.getOf (some (.builtin "object.__class__"))) (some (.builtin "getset_descriptor.__get__")):=looks_specialIn X h1
 have L3:=looks_takesIn (M:=M) X h2
 refine L1.andThen (L2.andThen ?_)
 exact(show Looks M h (Builtin.ObjectAttr.dataDescriptor? (some (.builtin "object.__class__")) (some (.builtin "getset_descriptor.__get__"))) (some (.builtin "getset_descriptor.__get__",.builtin "object.__class__"))from L3.andThen .now).andThen (Looks.tag .now)
theorem Eu(X:K.In s.heap)(I:Fd s.heap x D)(hm:mroIn K D (.type "object")=some true)
  (h:R (.ok (.ret (.ref D))) s):codeAny (model prog w) A (.call (.builtin "getset_descriptor.__get__") ⟨[.builtin "object.__class__",.ref x,tp],[]⟩) R s:=by
 obtain⟨hh,g,dr,t,os⟩:=s
 have L0:=I.type (M:=model prog w)
 have L1:=looks_mroIn (M:=model prog w) X hm
 refine AD6 KF.slot_gs.plain KF.entry_gs (KF.slot_gs.check _ _ _ _ _ _ _ _ KF.type_class (KF.args_gs _ _ _) ?_)
 unfold Builtin.«getset_descriptor.__get__» Builtin.Getset_descriptor.descrGet
 rw[dga_obj]
 refine AA0 (AA2 ?_)
 unfold Builtin.Getset_descriptor.descrGetter Builtin.Getset_descriptor.descrCheckInstance Builtin.Getset_descriptor.descrNameAndClass isInstance
 simp only[KF.owner_class]
 repeat lk
 refine⟨Code.quiet_builtin _ (by decide +kernel),ABQ KF.entry_class ?_⟩
 unfold Builtin.«object.__class__» shownTypeOf
 repeat lk
 exact h
theorem yo(X:K.In s.heap)(c:ExcK K D)(I:Fd s.heap x D)(h:Q (some (.ref D)) { s with toks:=s.toks+1 }):wpAny (model prog w) A (getAttr? (.ref x) "__class__") Q E s:=by
 obtain⟨hh,g,d,t,os⟩:=s
 have L0:=I.type (M:=model prog w)
 have L1:=looks_findIn (M:=model prog w) X c.ga
 have L2:=looks_findIn (M:=model prog w) X c.gt
 have L4:=looks_mroIn (M:=model prog w) X c.mb
 have L3:=pL (M:=model prog w) (x:=x) X c
 have ga:=F.excAttr_ValueError.ga
 have f3:=ga.bind (.ref x)
 have hx2:(ADZ "BaseException.__getattribute__" == ADZ "object.__getattribute__")=false:=by decide +kernel
 have hx1:(onTheHeap (ABf D)&&ADZ "BaseException.__getattribute__" == ADZ "object.__getattribute__")=false:=by rw[hx2];rfl
 unfold getAttr? getAttrBy? getAttrBy
 refine AA0 (wpAny_mkText (AA0 (ABp (AAd (AA0 (L0.at (AA0 (L1.at ?_))))))))
 dsimp only
 rw[hx1]
 simp only[AAA,if_false]
 unfold getAttrByItsOwn hookBefore
 rw[if_pos (show onTheHeap (ABf D)=true from rfl)]
 refine AA0 (L2.at ?_)
 unfold callGetattribute
 simp only[AEE,AAA,if_false]
 unfold boundAndCalled
 refine AA0 (ABp (AAd (AA0 (wpAny_of_eq f3 ?_))))
 refine wpAny_call (AD6 ga.plain F.entry_bexc_ga ?_)
 have hk:builtinKind "BaseException.__getattribute__" = some .slot:=by decide +kernel
 have hsplit:splitId "BaseException.__getattribute__" = some ("BaseException","__getattribute__"):=by decide +kernel
 have hargs:=F.args_bexc_ga (.ref x) (.str "__class__" t)
 simp only[checkBuiltinCall,hk,hsplit]
 have LI:Looks (model prog w) hh (isInstance (.ref x) (.type "BaseException")) true:=L0.andThen L4
 refine AA0 (LI.at ?_)
 repeat (first | with_reducible refine L0.at ?_ | with_reducible refine L3.at ?_ | wp_step)
 refine Eu (s:=⟨hh,g,d,t+1,os⟩) X I c.mo ?_
 exact AA2 (handed_on rfl (AA2 h))
theorem xV(c:ExcK K D):KitX K (.ref x) (.ref D) (λh=>Fd h x D) where
 ty:=λ_ _ _ I=>I.type
 it:=λ_ h X _=>by
  have:=c.mo
  unfold mroIn clsIn at this
  split at this
  ·rename_i ho
   intro A' Q' E' s' k q
   unfold isType loadHead
   exact AA0 (wpAny_loadPart (k _ _ (X _ _ ho)) (AA2 q))
  ·cases this
 ne:=λh tp dd its n sl X htp=>by
  refine ABG.mpr λq=>?_
  have e:D=tp:=Value.ref.inj (beq_iff_eq.mp q)
  subst e
  have:=c.mo
  unfold mroIn clsIn at this
  split at this
  ·rename_i ho
   have z:=(X _ _ ho).symm.trans htp
   cases z
  ·cases this
 ca:=λX I k=>yo X c I k
end
theorem cu.there(x:cu P w H h a o):∃u,h.get? a=some u:=by
 cases o with
 | lst xs=>obtain⟨_,_,_,_,e⟩:=x;exact⟨_,e⟩
 | tup xs=>obtain⟨_,_,_,ob,e,_⟩:=x;exact⟨_,e⟩
 | dK kvs=>obtain⟨_,_,_,_,ob,_,_,e,_⟩:=x;exact⟨_,e⟩
 | dT kvs=>obtain⟨_,_,_,_,ob,_,_,e,_⟩:=x;exact⟨_,e⟩
 | set S n=>obtain⟨ob,_,_,_,e,_⟩:=x;exact⟨_,e⟩
 | ins C dx fs=>obtain⟨_,_,_,e,_⟩:=x;exact⟨_,e⟩
 | own y=>exact x
 | xd fs=>obtain⟨_,⟨od,_,_,e,_⟩,_⟩:=x;exact⟨_,e⟩
 | rng lo hi=>obtain⟨_,_,_,e⟩:=x;exact⟨_,e⟩
 | frz ob u=>exact⟨_,x.1⟩
 | tbl ps=>exact⟨_,x⟩
 | met f y=>exact⟨_,x⟩
 | ext φ=>exact x.2.1
inductive Fly(P:Program)(w:World)(stk:List Env)(H:Hp)(h0:Heap)(a:Addr)(C:Value)(H1:Hp)(h:Heap):Prop
 | mk (B:Heap) (a0:Value) (fly:Heap.FlyingW B stk a C a0 h) (un:Un (frs stk) [] H H1 h0 h) (hok:HOk P w H1 h)
  (old:∀b o,h0.get? b=some o->b∉frs stk->∃o',B.get? b=some o'/\(H b=none->o'=o)) (trk:∀b u,H1 b=some u->∃o,B.get? b=some o)
section
variable{P:Program}{w:World}{stk:List Env}{H H1:Hp}{h0 h h' B:Heap}{a:Addr}{C a0:Value}
theorem iz(hok:HOk P w H1 h)(trk:∀b u,H1 b=some u->∃o,B.get? b=some o)(s:B.StaysIn h)(s':B.StaysIn h'):HOk P w H1 h':=λb u q=>by
 refine(hok b u q).stay (λc v hc r=>?_) (λ_ z=>z) λ_ _ z=>z
 have hc':∃u',H1 c=some u':=by
  rcases hc with rfl | hc
  ·exact⟨u,q⟩
  ·exact⟨_,hc⟩
 obtain⟨u',hc'⟩:=hc'
 obtain⟨o,ho⟩:=trk c u' hc'
 have:=s c o ho
 rw[r]at this
 cases this
 exact s' c _ ho
theorem tX(un:Un (frs stk) [] H H1 h0 h)(old:∀b o,h0.get? b=some o->b∉frs stk->∃o',B.get? b=some o'/\(H b=none->o'=o))(ff:h.FunFrames B stk)(s':B.StaysIn h')(up:h.UpToSlots h'):Un (frs stk) [] H H1 h0 h':=by
 have fr:∀b,b∈frs stk->∀o,h.get? b=some o->∃sl,h'.get? b=some { o with slots:=sl }:=λb hb o e=>by
  obtain⟨_,o',e',nf⟩:=ff.mem hb
  rw[e]at e'
  cases e'
  exact up b o e nf
 refine⟨λb o e n hb hx=>?_,λb o e n hb hx=>?_,un.free,λb o e hx=>?_,un.tups,un.frzs,un.tbls⟩
 ·obtain⟨o',e',q⟩:=old b o e hb
  rw[<-q n]
  exact s' b o' e'
 ·obtain⟨sl,e1⟩:=un.slot b o e n hb hx
  obtain⟨sl',e2⟩:=fr b hb _ e1
  exact⟨sl',e2⟩
 ·by_cases hb:b∈frs stk
  ·obtain⟨o',e1⟩:=un.there b o e hx
   obtain⟨sl,e2⟩:=fr b hb _ e1
   exact⟨_,e2⟩
  ·obtain⟨o',e',_⟩:=old b o e hb
   exact⟨o',s' b o' e'⟩
theorem nF{α:Type}{x:α}:x∉([]:List α):=λh=>nomatch h
theorem Fly.track(un:Un (frs stk) [] H H1 h0 h)(hok:HOk P w H1 h)(old:∀b o,h0.get? b=some o->b∉frs stk->∃o',B.get? b=some o'/\(H b=none->o'=o))(trk:∀b u,H1 b=some u->∃o,B.get? b=some o)(fly:Heap.FlyingW B stk a C a0 h) :
  Un (frs stk) [] H (upd H1 a (.ext (BL a C))) h0 h/\HOk P w (upd H1 a (.ext (BL a C))) h:=by
 obtain⟨oe,vs,he,hc,hd,_⟩:=fly.first
 have na:H1 a=none:=by
  cases q:H1 a with
  | none=>rfl
  | some u =>
   obtain⟨o,ho⟩:=trk a u q
   rw[fly.2.1]at ho
   cases ho
 refine⟨⟨un.keep,un.slot,λb o e n hx=>?_,un.there,λb xs e=>?_,λb o u e=>?_,λb ps e=>?_⟩,λb u q=>?_⟩
 ·rw[ae]
  ·exact un.free b o e n hx
  ·rintro rfl
   by_cases hb:b∈frs stk
   ·obtain⟨_,o',e',nf⟩:=fly.2.2.1.mem hb
    rw[he]at e'
    cases e'
    exact nf vs hd
   ·obtain⟨o',e',_⟩:=old b o e hb
    rw[fly.2.1]at e'
    cases e'
 ·rw[ae (ad (un.tups b xs e) na)]
  exact un.tups b xs e
 ·rw[ae (ad (un.frzs b o u e) na)]
  exact un.frzs b o u e
 ·obtain⟨more,q⟩:=un.tbls b ps e
  exact⟨more,by rw[ae (ad q na)];exact q⟩
 ·by_cases hb:b=a
  ·subst hb
   rw[aA]at q
   cases q
   refine⟨⟨oe,vs,he,hc,hd⟩,⟨oe,he⟩,?_⟩
   rintro h1 h2 ⟨o,ws,e,c,d⟩ k
   exact⟨o,ws,k o e,c,d⟩
  ·rw[ae hb]at q
   exact(hok b u q).stay (λ_ _ _ z=>z) (λc z=>by rw[ae (ad z na)];exact z) λc xs z=>by rw[ae (ad z na)];exact z
end
structure DefX(X:Cx):Prop where
 stk:X.stack=X.env::X.outer
 fr:X.env.frame=some X.env.locals
 ex:X.ex=[]
section
variable{X:Cx}{pins:List (Addr×Obj)}{σ:St}{H H1:Hp}{s s':Shared}{h':Heap}{e:Addr}{C:Value}{vs:List Value}{M:Model}{Q:Unit->Shared->Prop}{E':Value->Shared->Prop}
theorem DefX.frs(d:DefX X):b∈frs X.stack↔b=X.env.locals\/b∈X.fs:=by
 rw[d.stk]
 unfold L2.frs
 rw[ABS,d.fr]
 exact AAM
theorem Inv.nloc(I:Inv X pins σ H s)(e:X.s₀.heap.get? b=some o):b≠X.env.locals:=λz=>by
 subst z
 exact AAf _ (AAP (AAF e) I.ok.above)
theorem tu(I:Inv X pins σ H1 s)(d:DefX X)(m:AEI s.heap h' e C vs)(h:∀h'',Fly X.prog X.w X.outer X.H₀ X.s₀.heap e C H1 h''->Q () { s with heap:=h'' }) :
  wpAny M X.A (leaving X.env (.ref e)) Q E' { s with heap:=h' }:=by
 have hfr:X.A.frames=some (X.env::X.outer):=d.stk ▸ I.ok.frames
 have ff:s.heap.FunFrames X.base (X.env::X.outer):=d.stk ▸ I.stack
 have get:∀{b o},s.heap.get? b=some o->b∉frs X.stack->(ADN s.heap (frs X.stack)).get? b=some o:=λq hb=>PySem.W.hideAll_get _ q hb
 refine wpAny_leaves_madeW (base:=ADN s.heap (frs X.stack)) (h:=s.heap) hfr d.fr (λb o q=>AEC _ q)
  (PySem.W.funFrames_hide ff λenv he b hb=>by rw[d.stk];exact ADO.mpr ⟨env,he,hb⟩) m λh'' t fly _ _ up=>h h'' ?_
 have hex:∀b:Addr,b∉X.ex:=λb z=>by rw[d.ex]at z;cases z
 have old:∀b o,X.s₀.heap.get? b=some o->b∉X.fs->∃o',(ADN s.heap (frs X.stack)).get? b=some o'/\(X.H₀ b=none->o'=o):=λb o q hb=>by
  have hb':b∉frs X.stack:=λz=>(d.frs.mp z).elim (λz=>I.nloc q z) hb
  obtain⟨o',q'⟩:=I.base.there b o q (hex b)
  refine⟨o',get q' hb',λn=>?_⟩
  have:=I.base.keep b o q n hb (hex b)
  rw[q']at this
  exact AAN this
 have trk:∀b u,H1 b=some u->∃o,(ADN s.heap (frs X.stack)).get? b=some o:=λb u q=>by
  obtain⟨o,ho⟩:=(I.hok b u q).there
  refine⟨o,get ho λz=>?_⟩
  rw[I.stkFree b z]at q
  cases q
 have base':Un X.fs [] X.H₀ H1 X.s₀.heap s.heap:=d.ex ▸ I.base
 refine⟨_,_,fly,?_,iz I.hok trk (λb o q=>AEC _ q) fly.1,old,trk⟩
 have fr:∀b,b∈X.fs->∀o,s.heap.get? b=some o->∃sl,h''.get? b=some { o with slots:=sl }:=λb hb o q=>by
  obtain⟨_,o',e',nf⟩:=ff.mem (show b∈(X.env::X.outer).filterMap (·.frame)from d.stk ▸ d.frs.mpr (.inr hb))
  rw[q]at e'
  cases e'
  exact up b o (m.keeps b o q) nf
 refine⟨λb o q n hb hx=>?_,λb o q n hb hx=>?_,base'.free,λb o q hx=>?_,base'.tups,base'.frzs,base'.tbls⟩
 ·obtain⟨o',e',z⟩:=old b o q hb
  rw[<-z n]
  exact fly.1 b o' e'
 ·obtain⟨sl,e1⟩:=base'.slot b o q n hb hx
  obtain⟨sl',e2⟩:=fr b hb _ e1
  exact⟨sl',e2⟩
 ·by_cases hb:b∈X.fs
  ·obtain⟨o',e1⟩:=base'.there b o q hx
   obtain⟨sl,e2⟩:=fr b hb _ e1
   exact⟨_,e2⟩
  ·obtain⟨o',e',_⟩:=old b o q hb
   exact⟨o',fly.1 b o' e'⟩
theorem yn(I:Inv X pins σ H s)(d:DefX X)(F:Fly X.prog X.w X.stack H s.heap e C H1 s'.heap)(h:∀h'',Fly X.prog X.w X.outer X.H₀ X.s₀.heap e C H1 h''->Q () { s' with heap:=h'' }) :
  wpAny M X.A (leaving X.env (.ref e)) Q E' s':=by
 obtain⟨B,a0,fly,un,hok,old,trk⟩:=F
 have hfr:X.A.frames=some (X.env::X.outer):=d.stk ▸ I.ok.frames
 have hex:∀b:Addr,b∉X.ex:=λb z=>by rw[d.ex]at z;cases z
 have fly0:Heap.FlyingW B (X.env::X.outer) e C a0 s'.heap:=d.stk ▸ fly
 refine wpAny_leaves_onW hfr d.fr fly0 λh'' fly' up=>h h'' ?_
 have base':Un X.fs [] X.H₀ H X.s₀.heap s.heap:=d.ex ▸ I.base
 have ff:=fly.2.2.1
 have fr:∀b,b∈X.fs->∀o,s'.heap.get? b=some o->∃sl,h''.get? b=some { o with slots:=sl }:=λb hb o q=>by
  obtain⟨_,o',e',nf⟩:=ff.mem (show b∈X.stack.filterMap (·.frame)from d.frs.mpr (.inr hb))
  rw[q]at e'
  cases e'
  exact up b o q nf
 have old':∀b o,X.s₀.heap.get? b=some o->b∉X.fs->∃o',B.get? b=some o'/\(X.H₀ b=none->o'=o):=λb o q hb=>by
  have hb':b∉frs X.stack:=λz=>(d.frs.mp z).elim (λz=>I.nloc q z) hb
  obtain⟨o',q'⟩:=base'.there b o q nF
  obtain⟨o2,q2,z⟩:=old b o' q' hb'
  refine⟨o2,q2,λn=>?_⟩
  rw[z (base'.free b o q n nF)]
  have:=base'.keep b o q n hb nF
  rw[q']at this
  exact AAN this
 refine⟨B,a0,fly',?_,iz hok trk fly.1 fly'.1,old',trk⟩
 have unT:∀b o,X.s₀.heap.get? b=some o->X.H₀ b=none->H1 b=none:=λb o q n=>by
  obtain⟨o',q'⟩:=base'.there b o q nF
  exact un.free b o' q' (base'.free b o q n nF) nF
 refine⟨λb o q n hb hx=>?_,λb o q n hb hx=>?_,λb o q n hx=>unT b o q n,λb o q hx=>?_,λb xs q=>un.tups b xs (base'.tups b xs q),λb o u q=>un.frzs b o u (base'.frzs b o u q),λb ps q=>?_⟩
 ·obtain⟨o',e',z⟩:=old' b o q hb
  rw[<-z n]
  exact fly'.1 b o' e'
 ·obtain⟨sl,e1⟩:=base'.slot b o q n hb hx
  obtain⟨sl1,e2⟩:=un.slot b _ e1 (base'.free b o q n hx) (d.frs.mpr (.inr hb)) hx
  obtain⟨sl',e3⟩:=fr b hb _ e2
  exact⟨sl',e3⟩
 ·by_cases hb:b∈X.fs
  ·obtain⟨o',e1⟩:=base'.there b o q hx
   obtain⟨o2,e2⟩:=un.there b o' e1 hx
   obtain⟨sl,e3⟩:=fr b hb _ e2
   exact⟨_,e3⟩
  ·obtain⟨o',e',_⟩:=old' b o q hb
   exact⟨o',fly'.1 b o' e'⟩
 ·obtain⟨m1,e1⟩:=base'.tbls b ps q
  obtain⟨m2,e2⟩:=un.tbls b _ e1
  exact⟨m1++m2,by rw[e2,Array.append_assoc]⟩
end
def CXe(P:Program)(w:World):CXT:=λstk H s E e s'=>∃a C H1,e=.ref a/\s'.os=s.os/\AllBare s'.gens/\Fly P w stk H s.heap a C H1 s'.heap/\E C none H1
section
variable{P:Program}{w:World}{K:AA3}{mg:Str->Option Value}{base:Heap}{N:List Str}{qual:Str}{scope:Scope}{f:Addr}{cd:Value}{A:Around}{outer:List Env}{s:Shared}{H:Hp}{E:XK}
theorem wB:DefX (jL CX P w K mg base N qual scope f cd A outer s H E):=⟨rfl,rfl,rfl⟩
theorem zZ:rW (CXe P w) (jL (CXe P w) P w K mg base N qual scope f cd A outer s H E) E:=by
 rintro pins σ H1 s1 e s' I ⟨a,C,H2,rfl,ho,hb,F,q⟩
 exact yn I wB F λh'' F'=>⟨a,C,H2,rfl,ho.trans I.os,hb,F',q⟩
theorem An(I:Inv (jL (CXe P w) P w K mg base N qual scope f cd A outer s H E) pins σ H1 s1)(m:AEI s1.heap h' e C vs)(q:E C none H1) :
  (jL (CXe P w) P w K mg base N qual scope f cd A outer s H E).xe (.ref e) { s1 with heap:=h' }:=by
 exact tu I wB m λh'' F'=>⟨e,C,H1,rfl,I.os,I.bare,F',q⟩
end
noncomputable abbrev vE:List Value:=[.type "ValueError",.type "Exception",.type "BaseException",.type "object"]
theorem Ad{K:AA3}{h:Heap}{C:Addr}{bmB:List Value}{newId:String}(X:K.In h)(q:ADc K C bmB newId=true) :
  ∃bm N nm qn bs hdct sn sub ab col dd k0 k1 k2 k3 k5 mN,h.get? C=some (excClassObj nm qn C N bs bm hdct sn sub ab col dd k0 k1 k2 k3 k5 newId)/\h.Ns N mN/\mN "__init__" = none/\OwnTail h bmB bm:=by
 unfold ADc at q
 split at q
 ·rename_i dd cd sl ho
  split at q
  ·rename_i C' bm k0 k1 k2 k3 n k5 hm hs
   simp only[AAS,beq_iff_eq,Bool.not_eq_true']at q
   obtain⟨⟨⟨⟨⟨rfl,rfl⟩,hdel⟩,ht⟩,hok⟩,hni⟩:=q
   obtain⟨nm,bs,mro,ns,qn,hd,sn,sub,ab,col,del⟩:=cd
   dsimp only at hm hdel hok hni
   subst hm hdel
   have hsl:sl = #[k0,k1,k2,k3,some (.builtin n),k5]:=by
    obtain⟨l⟩:=sl
    simp only at hs
    rw[hs]
   subst hsl
   exact⟨bm,ns,nm,qn,bs,hd,sn,sub,ab,col,dd,k0,k1,k2,k3,k5,_,X _ _ ho,.of_isNs (PySem.W.isNs_of_in X hok),PySem.W.nsMap_none_of_in X hok hni,PySem.W.tail_of_in X ht⟩
  ·cases q
 ·cases q
section
variable{X:Cx}{x:Str}{C:Addr}{np cpos pos:Pos}{e₀:Expr}{aE:List Expr}{pins:List (Addr×Obj)}{σ:St}{H:Hp}{s:Shared}{Ex:Value->Shared->Prop}{Q:Flow->Shared->Prop}
theorem xr(I:Inv X pins σ H s)(hm:X.mg x=some (.ref C))(q:ADc X.K C vE "ValueError.__new__" = true)(hc:X.calm=true)
  (w:wpAny (model X.prog X.w) X.A (spliced (backTo cpos (starEach (e₀::aE) X.env))) (λus s₂=>us.length<=sizeLine/\(∀b o,X.base.get? b=some o->s₂.heap.get? b=some o)/\∀h' e,AEI s₂.heap h' e (.ref C) us->Ex (.ref e) { s₂ with heap:=h' }) Ex s) (hg:Gl X x:=by rfl)
  (he:starEach (e₀::aE) X.env=(false,eval e₀ X.env)::starEach aE X.env:=by rfl) (hpl:(backTo cpos (starEach aE X.env)).any (·.1)=false:=by rfl) (hdb:(x==("__debug__":Str))=false:=by decide) :
  wpAny (model X.prog X.w) X.A (exec (.Raise (some (.Call (.Name x np) (e₀::aE) [] cpos)) none pos) X.env) Q Ex s:=by
 obtain⟨tl,N,nm,qn,bs,hdct,sn,sub,ab,col,dd,k0,k1,k2,k3,k5,mN,hC,hN,hni,T⟩:=Ad I.mod.kin q
 have FB:=F.excBase_ValueError
 refine wpAny_Raise_call_subU (C:=C) (nm:=nm) (q:=qn) (N:=N) (bs:=bs) (bm:=tl) (hdct:=hdct) (sn:=sn) (sub:=sub) (ab:=ab) (col:=col) (dd:=dd) (k0:=k0) (k1:=k1) (k2:=k2) (k3:=k3) (k5:=k5)
  FB FB.hasB FB (mN:=mN) (T.hasType FB.hasBase) (I.ok.hd hc) (by rw[he];show (false||(backTo cpos (starEach aE X.env)).any (·.1))=false;rw[hpl];rfl) hni (jB I hg hm ⟨rfl,?_⟩ hdb)
 rw[he]at w ⊢
 exact ADx (AAp w (λus s₂ ⟨z,bk,k⟩=>⟨rfl,z,bk _ _ hC,hN.keeps bk,T.keeps bk,k⟩) λ_ _ y=>y)
end
section
variable{X:Cx}{pins:List (Addr×Obj)}{σ:St}{H:Hp}{s:Shared}
theorem tW(I:Inv X pins σ H s)(hN:X.N.Nodup)(hi:X.N[i]?=some x)(hk:X.env.scope.names.lookup x=some .local)(hv:σ[i]?=some (some v))
  (h:∀s',Inv X pins (σ.set i none) H s'->Q () s'):wpAny M A (unbindName X.env x) Q E s:=by
 obtain⟨m,hn,hl⟩:=id I.loc
 have hcls:(X.env.scope.kind==.class||(X.env.scope.kind==.module&&X.env.locals != X.env.globals))=false:=by rw[I.ok.kind];rfl
 have hiσ:i<σ.length:=by rw[I.len];exact(AA7.mp hi).1
 have cne:=I.cne
 obtain⟨u,r,lk⟩:=hl i x v hi hv (.inl hk)
 have hm:m x=some u:=by
  rcases lk with⟨_,e⟩|⟨k,_⟩
  ·exact e
  ·rcases k with k | k<;>(have k':X.env.scope.names.lookup x=_:=k;rw[hk]at k';cases k')
 refine wpAny_unbindName_local hk hn hm hcls λh' u' hn' hs=>?_
 obtain⟨oL,_,_,hoL,_⟩:=id hn
 have tracked:HOk X.prog X.w H h':=λb ob e=>by
  refine(I.hok b ob e).stay (λc w' hc q=>(hs.2 c ?_).trans q) (λ_ q=>q) λ_ _ q=>q
  rintro rfl
  rcases hc with rfl | hc
  ·rw[I.free]at e;cases e
  ·rw[I.free]at hc;cases hc
 refine h _ ⟨I.ok,I.os,I.bare,⟨λb o e n hb hx=>?_,λb o e n hb hx=>?_,I.base.free,λb o e hx=>?_,I.base.tups,I.base.frzs,I.base.tbls⟩,⟨_,hn',λj y v' e1 e2 e3=>?_⟩,λy c e=>?_,I.free,I.freeC,λp hp=>?_,tracked,by simpa using I.len⟩
 ·exact(hs.2 b (AAK (AAP (AAF e) I.ok.above))).trans (I.base.keep b o e n hb hx)
 ·obtain⟨sl,e1⟩:=I.base.slot b o e n hb hx
  exact⟨sl,(hs.2 b (AAK (AAP (AAF e) I.ok.above))).trans e1⟩
 ·obtain⟨o',e1⟩:=I.base.there b o e hx
  exact⟨o',(hs.2 b (AAK (AAP (AAF e) I.ok.above))).trans e1⟩
 ·by_cases hj:j=i
  ·subst hj
   rw[AAV hiσ]at e2
   cases e2
  ·rw[AAb (ABO hj)]at e2
   obtain⟨u',r',q⟩:=hl j y v' e1 e2 e3
   refine⟨u',r',?_⟩
   rcases q with⟨k,e⟩|⟨k,c,e,z⟩
   ·refine .inl ⟨k,?_⟩
    have:y≠x:=λe=>hj (lT hN e1 (e ▸ hi))
    simp[this,e]
   ·exact .inr ⟨k,c,e,z.sameBut hs (cne y c e)⟩
 ·obtain⟨w',z⟩:=I.cell y c e
  exact⟨w',z.sameBut hs (cne y c e)⟩
 ·obtain⟨e,n,ne,nf,d⟩:=I.pin p hp
  exact⟨(hs.2 p.1 ne).trans e,n,ne,nf,d⟩
noncomputable abbrev Cx.held(X:Cx)(a:Addr):Cx:={ X with A:=X.A.mark (some (.ref a)),calm:=false,xe:=λ_ _=>False }
theorem Inv.held(I:Inv X pins σ H s)(a:Addr):Inv (X.held a) pins σ H s :=
 ⟨⟨I.ok.mod,I.ok.kind,I.ok.glob,I.ok.blt,I.ok.above,I.ok.inj,I.ok.has,I.ok.cab,(λz=>Bool.noConfusion z),I.ok.frames,I.ok.stk,I.ok.exf,I.ok.bs,I.ok.bsz,I.ok.noex,I.ok.exfs,I.ok.funs,I.ok.frf⟩,I.os,I.bare,I.base,I.loc,I.cell,I.free,I.freeC,I.pin,I.hok,I.len⟩
theorem Inv.unheld(ok:X.Ok)(I:Inv (X.held a) pins σ H s):Inv X pins σ H s:=⟨ok,I.os,I.bare,I.base,I.loc,I.cell,I.free,I.freeC,I.pin,I.hok,I.len⟩
theorem wL{H1:Hp}{s':Shared}{a C C':Addr}{i:Nat}{n y:Str}{np pos:Pos}{b₀:Stmt}{suite:List Stmt}{aE:List ExceptHandler}{D:Ends}{tS:TS}{E:Value->Shared->Prop}(I:Inv X pins σ H s)(d:DefX X)(ho:s'.os=s.os)(hb:AllBare s'.gens)
  (F:Fly X.prog X.w X.stack H s.heap a (.ref C) H1 s'.heap) (hN:X.N.Nodup) (hi:X.N[i]?=some n) (hk:X.env.scope.names.lookup n=some .local) (hy:X.mg y=some (.ref C')) (hm:AEJ X.K (.ref C) (.ref C')=some true)
  (hs:PSs (X.held a) (b₀::suite) tS) (q:tS ⟨λσ' H'=>D.nx (σ'.set i none) H',λ_ _=>False,λ_ _=>False,λ_ _=>False⟩ (σ.set i (some (.ref a))) (upd H1 a (.ext (BL a (.ref C)))))
  (hg:Gl X y:=by rfl) (hdb:(y==("__debug__":Str))=false:=by decide) :
  wpAny (model X.prog X.w) X.A (noteFrame (.ref a) X.env) (λ_ s₂=>wpAny (model X.prog X.w) X.A (setFlight (.ref a) none) (λ_ s₃ =>
   wpAny (model X.prog X.w) X.A (handleBy (.ref a) X.env (.ExceptHandler (some (.Name y np)) (some n) (b₀::suite) pos::aE)) (SP X pins D) E s₃) E s₂) E s':=by
 obtain⟨B,a0,fly,un,hok,old,trk⟩:=F
 have hfr:X.A.frames=some (X.env::X.outer):=d.stk ▸ I.ok.frames
 have fly0:Heap.FlyingW B (X.env::X.outer) a (.ref C) a0 s'.heap:=d.stk ▸ fly
 refine wpAny_looks_onW hfr d.fr fly0 λh₄ held₄ up₄=>?_
 refine wpAny_landsW held₄ λh₅ fly₅ up₅=>?_
 have un5:=tX un old fly.2.2.1 fly₅.1 λb o e nf=>by
  obtain⟨sl,e1⟩:=up₄ b o e nf
  obtain⟨sl',e2⟩:=up₅ b _ e1 nf
  exact⟨sl',e2⟩
 have hok5:=iz hok trk fly.1 fly₅.1
 have I5:Inv X pins σ H1 { s' with heap:=h₅ }:=I.call' (ch:=[]) ho un5 hok5 hb λb z=>absurd z nF
 obtain⟨ob,hob,hobc⟩:=fly₅.there
 refine wpAny_handleBy_cons (codeAny_handlers_test (jB (X:=X.held a) (I5.held a) hg hy ?_ hdb)) (by intro q;cases q)
 have LT:PySem.W.Looks (model X.prog X.w) h₅ (typeOf (.ref a)) (.ref C):=hobc ▸ (PySem.W.Looks.ld hob).andThen .now
 refine(PySem.W.exm_one I5.kIn LT hm).at ?_
 refine codeAny_handlers_suite_as (lands_againW fly₅ λh₆ fly₆ up₆=>?_)
 have un6:=tX un5 old (d.stk ▸ fly₅.2.2.1) fly₆.1 up₆
 have hok6:=iz hok5 trk fly₅.1 fly₆.1
 obtain⟨un7,hok7⟩:=Fly.track un6 hok6 old trk (d.stk ▸ fly₆)
 have I7:Inv X pins σ (upd H1 a (.ext (BL a (.ref C)))) { s' with heap:=h₆ }:=I.call' (ch:=[]) ho un7 hok7 hb λb z=>absurd z nF
 refine fP (v:=.ref a) I7 hN hi (.inl hk) rfl (λs8 I8=>?_) (.inr hk)
 refine AAp (hs pins s8 _ _ _ (I8.held a) q) (λf s9 h9=>?_) λ_ _ z=>z.elim
 cases f with
 | next =>
  obtain⟨σ',H',J,k⟩:=h9
  have J':=J.unheld I.ok
  refine AA0 (wpAny_bindName (fP (v:=.non) (u:=.none) J' hN hi (.inl hk) rfl (λs10 I10=>?_) (.inr hk)))
  have hl:i<σ'.length:=by rw[J'.len];exact(AA7.mp hi).1
  refine wpAny_onRaise (tW (v:=.non) I10 hN hi hk (AAV hl) λs11 I11=>?_)
  rw[List.set_set]at I11
  exact⟨_,_,I11,k⟩
 | ret u=>obtain⟨_,_,_,_,_,z⟩:=h9;exact z.elim
 | brk=>obtain⟨_,_,_,z⟩:=h9;exact z.elim
 | cont=>obtain⟨_,_,_,z⟩:=h9;exact z.elim
end
abbrev DX:=Str->Mem->Prop
abbrev DTX:=DX->DTS
abbrev BT:=DX->DTE
abbrev wW:=List D->Mem->DK->DX->Prop
inductive XQ(K:AA3)(ρ:List Addr)(H:Hp)(R:DX)(C:Value)(dx:Option Addr)(H':Hp):Prop
 | mk (x:Str) (c:Addr) (M':Mem) (ρ':List Addr) (e:C=.ref c) (hx:ACI K mainGlobals x=some (some (.ref c))) (s:Sim K ρ' M' H') (g:Grow K ρ H ρ' H') (q:R x M')
section
variable{K:AA3}{ρ ρ1:List Addr}{H H1 H':Hp}{R:DX}{C:Value}{dx:Option Addr}{M:Mem}
theorem XQ.trans(g:Grow K ρ H ρ1 H1)(h:XQ K ρ1 H1 R C dx H'):XQ K ρ H R C dx H':=by
 obtain⟨x,c,M',ρ',e,hx,s,g',q⟩:=h
 exact⟨x,c,M',ρ',e,hx,s,g.trans g',q⟩
def XEnd(M:Mem)(R:DX):DX:=λx M'=>R x M'\/∃M1,Chg M M1/\M1 <+: M'/\R x M1
theorem XQ.endq(s:Sim K ρ M H)(h:XQ K ρ H (XEnd M R) C dx H'):XQ K ρ H R C dx H':=by
 obtain⟨x,c,M',ρ',e,hx,s',g',q'⟩:=h
 rcases q' with q | ⟨M1,cg,pre,q⟩
 ·exact⟨x,c,M',ρ',e,hx,s',g',q⟩
 ·have hρ:ρ'.take M.length=ρ:=by rw[<-s.len];exact bh g'.pre
  have sc:=s'.cut M.length λn mo hn e=>by
   have e':M1[n]?=some mo:=by
    obtain⟨t,rfl⟩:=pre
    rw[AAJ (by rw[cg.1];exact hn)]at e
    exact e
   exact(cg.2 n mo e').elim (λz=>s.bels z) id
  have tk:M'.take M.length=M1:=by rw[<-cg.1];exact bh pre
  rw[hρ,tk]at sc
  exact⟨x,c,M1,ρ,e,hx,sc,⟨ACO,g'.tup⟩,q⟩
end
inductive lowX(K:AA3)(E:XK)(t:DTX)(D:Ends)(σ:St)(H:Hp):Prop
 | mk (S:SD) (M:Mem) (ρ:List Addr) (F:DEnds) (R:DX) (s:Sim K ρ M H) (sr:SRep K ρ H S σ) (q:t R F S M) (k:Ups K ρ H F D) (x:∀C dx H',XQ K ρ H R C dx H'->E C dx H')
inductive lowXE(K:AA3)(E:XK)(t:BT)(σ:St)(H:Hp)(Q:VK):Prop
 | mk (S:SD) (M:Mem) (ρ:List Addr) (F:DK) (R:DX) (s:Sim K ρ M H) (sr:SRep K ρ H S σ) (q:t R S M F) (k:∀v H',VQ K ρ H F v H'->Q v H') (x:∀C dx H',XQ K ρ H R C dx H'->E C dx H')
structure XA(b:Bool)(X:Cx)(pins:List (Addr×Obj))(E:XK)(P:St->Prop)(Ex:Value->Shared->Prop):Prop where
 on:∀σ H1 s1 e s',P σ->Inv X pins σ H1 s1->CXe X.prog X.w X.stack H1 s1 E e s'->Ex e s'
 all:b=true->∀σ,P σ
 made:b=true->∀σ H1 s1 h' e C vs,Inv X pins σ H1 s1->AEI s1.heap h' e C vs->E C none H1->Ex (.ref e) { s1 with heap:=h' }
structure HX(b:Bool)(X:Cx)(st:Stmt)(t:DTX):Prop where
 ok:∀(pins:List (Addr×Obj)) (s:Shared) (σ:St) (H:Hp) (D:Ends) (E:XK) (P:St->Prop) (Ex:Value->Shared->Prop),XA b X pins E P Ex->P σ->Inv X pins σ H s->lowX X.K E t D σ H->wpAny (model X.prog X.w) X.A (exec st X.env) (SP X pins D) Ex s
structure HXs(b:Bool)(X:Cx)(st:List Stmt)(t:DTX):Prop where
 ok:∀(pins:List (Addr×Obj)) (s:Shared) (σ:St) (H:Hp) (D:Ends) (E:XK) (P:St->Prop) (Ex:Value->Shared->Prop),XA b X pins E P Ex->P σ->Inv X pins σ H s->lowX X.K E t D σ H->wpAny (model X.prog X.w) X.A (execs st X.env) (SP X pins D) Ex s
structure HXE(b:Bool)(X:Cx)(e:Expr)(t:BT):Prop where
 ok:∀(pins:List (Addr×Obj)) (s:Shared) (σ:St) (H:Hp) (Q:VK) (E:XK) (P:St->Prop) (Ex:Value->Shared->Prop),XA b X pins E P Ex->P σ->Inv X pins σ H s->lowXE X.K E t σ H Q->wpAny (model X.prog X.w) X.A (eval e X.env) (EP X pins σ Q) Ex s
def xOf(t:DTS):DTX:=λ_=>t
def BU(t u:DTX):DTX:=λR=>aB (t R) (u R)
def xIf(c:DTT)(t u:DTX):DTX:=λR=>dIf c (t R) (u R)
def xSet(t:BT)(i:Nat):DTX:=λR=>aW (t R) i
def zo(t:BT):DTX:=λR=>ix (t R)
def xCB(P:wW)(t:DTA):BT:=λR S M Q=>t S M λds M1=>P ds M1 Q R
def qq(x:Str)(t:DTA):DTX:=λR _ S M=>t S M λds M1=>ds.length<=sizeLine/\R x M1
theorem PA.nox(h:PA X.nox es t)(I:Inv X pins σ H s)(q:t σ H Q) :
  wpAny (model X.prog X.w) X.A (spliced (backTo pos (starEach es X.env))) (AP X pins σ Q) Ex s :=
 AAp (h pos pins s σ H Q (I.wish _) q) (λ_ _ ⟨v,H',I',r,z⟩=>⟨v,H',I'.unwish,r,z⟩) λ_ _ z=>ABZ z
section
variable{b:Bool}{X:Cx}{st:Stmt}{aE:List Stmt}{t u:DTX}{te:BT}{e:Expr}{es:List Expr}{pos:Pos}
theorem Dr{t:DTS}(h:HS X.nox st t):HX b X st (xOf t):=by
 refine⟨ ?_⟩
 rintro pins s σ H D E P Ex A p I ⟨S,M,ρ,F,R,sm,sr,q,k,x⟩
 exact AAp (h.ok pins s σ H D (I.wish _) ⟨S,M,ρ,F,sm,sr,q,k⟩) (λ_ _ z=>z.unwish) λ_ _ z=>ABZ z
theorem Av:HXs b X [] (xOf be):=by
 refine⟨ ?_⟩
 rintro pins s σ H D E P Ex A p I ⟨S,M,ρ,F,R,sm,sr,q,k,x⟩
 exact ACl ⟨σ,H,I,k.nx σ H ⟨S,M,ρ,sm,.refl,sr,q⟩⟩
theorem vP(h:HX b X st t):HXs b X [st] t:=⟨λpins s σ H D E P Ex A p I q=>by
 refine ADv (thn (h.ok pins s σ H D E P Ex A p I q) λf s1 q=>?_)
 cases f with
 | next=>exact ACl q
 | ret v=>exact q
 | brk=>exact q
 | cont=>exact q⟩
theorem rD(h1:HX true X st t)(h2:HXs true X aE u):HXs true X (st::aE) (BU t u):=⟨λpins s σ H D E P Ex A p I ⟨S,M,ρ,F,R,sm,sr,q,k,x⟩=>by
 refine ADv (thn (h1.ok pins s σ H { D with nx:=λσ' H'=>SQ X.K ρ H (λS' M'=>u R F S' M') σ' H' } E P Ex A p I ⟨S,M,ρ,_,R,sm,sr,q,⟨λ_ _ z=>z,k.rt,k.bk,k.ct⟩,x⟩) λf s1 z=>?_)
 cases f with
 | next =>
  obtain⟨σ',H',I',S',M',ρ',s',g',sr',q'⟩:=z
  exact h2.ok pins s1 σ' H' D E P Ex A (A.all rfl σ') I' ⟨S',M',ρ',F,R,s',sr',q',k.trans g',λC dx H2 w=>x C dx H2 (w.trans g')⟩
 | ret v=>exact z
 | brk=>exact z
 | cont=>exact z⟩
theorem Ds(hc:HT X.nox c tc)(ha:HXs b X a t)(hd:HXs b X d u):HX b X (.If c a d pos) (xIf tc t u):=⟨λpins s σ H D E P Ex A p I ⟨S,M,ρ,F,R,sm,sr,q,k,x⟩=>by
 refine wpAny_If (AAp (hc.ok pins s σ H _ (I.wish _) ⟨S,M,ρ,_,sm,sr,q,λ_ _ z=>z⟩) (λc s1 ⟨H1,I1,M1,ρ1,s1',g1,q1⟩=>?_) λ_ _ z=>ABZ z)
 cases c with
 | true=>exact ha.ok pins s1 σ H1 D E P Ex A p I1.unwish ⟨S,M1,ρ1,F,R,s1',sr.grow g1,q1,k.trans g1,λC dx H2 w=>x C dx H2 (w.trans g1)⟩
 | false=>exact hd.ok pins s1 σ H1 D E P Ex A p I1.unwish ⟨S,M1,ρ1,F,R,s1',sr.grow g1,q1,k.trans g1,λC dx H2 w=>x C dx H2 (w.trans g1)⟩⟩
theorem vQ(he:HXE b X e te)(hs:swapsWith e none pos.line X.env=pure false:=by kernel_rfl):HX b X (.Expr e pos) (zo te):=by
 refine⟨ ?_⟩
 rintro pins s σ H D E P Ex A p I ⟨S,M,ρ,F,R,sm,sr,q,k,x⟩
 exact wpAny_Expr_any (thn (he.ok pins s σ H _ E P Ex A p I ⟨S,M,ρ,_,R,sm,sr,q,λ_ _ z=>z,x⟩) λv s1 ⟨y,H1,I1,r1,d,M1,ρ1,s1',g1,r',q1⟩=>⟨σ,H1,I1,k.nx σ H1 ⟨S,M1,ρ1,s1',g1,sr.grow g1,q1⟩⟩) I.quiet hs
theorem yV(hN:X.N.Nodup)(he:HXE b X e te)(hi:X.N[i]?=some x:=by kernel_rfl)(hx:Ao X.env.scope x=true:=by kernel_rfl)(hs:swapsWith e (some (.Name x pos')) pos.line X.env=pure false:=by kernel_rfl)(hf:X.fn x=true:=by kernel_rfl) :
  HX b X (.Assign [.Name x pos'] e pos) (xSet te i):=⟨by
 rintro pins s σ H D E P Ex A p I ⟨S,M,ρ,F,R,sm,sr,q,k,xx⟩
 refine wpAny_Assign_Name (thn (he.ok pins s σ H _ E P Ex A p I ⟨S,M,ρ,_,R,sm,sr,q,λ_ _ z=>z,xx⟩) ?_) hs
 rintro v s1 ⟨y,H1,I1,r1,d,M1,ρ1,s1',g1,r',q1⟩
 exact fP I1 hN hi (rC hx) r1 (λs2 I2=>⟨_,H1,I2,k.nx _ H1 ⟨_,M1,ρ1,s1',g1,(sr.grow g1).set i r',q1⟩⟩) (.inl hf)⟩
theorem xS(hm:X.mg x=some (.ref C))(hn:ACI X.K mainGlobals x=some (some (.ref C)))(q:ADc X.K C vE "ValueError.__new__" = true)(ha:HA X.nox (e::es) ta)(hc:X.calm=true:=by kernel_rfl)
  (hg:X.env.kindOf x=some .globalImplicit:=by kernel_rfl) (he:starEach (e::es) X.env=(false,eval e X.env)::starEach es X.env:=by kernel_rfl) (hpl:(backTo cpos (starEach es X.env)).any (·.1)=false:=by kernel_rfl) (hdb:(x==("__debug__":Str))=false:=by kernel_rfl) :
  HX true X (.Raise (some (.Call (.Name x np) (e::es) [] cpos)) none pos) (qq x ta):=⟨λpins s σ H D E P Ex A p I ⟨S,M,ρ,F,R,sm,sr,w,k,xx⟩=>by
 refine xr I hm q hc (AAp (ha.ok.nox (Ex:=Ex) I ⟨S,M,ρ,_,sm,sr,w,λ_ _ z=>z⟩) (λus s2 ⟨vs,H1,I1,r,ds,M1,ρ1,s1',g1,r1,z,y⟩=>?_) λ_ _ z=>z) hg he hpl hdb
 refine⟨by rw[<-r.length,<-r1.length];exact z,I1.bk,λh' e m=>A.made rfl σ H1 s2 h' e _ _ I1 m (xx _ _ _ ⟨x,C,M1,ρ1,rfl,hn,s1',g1,y⟩)⟩⟩
end
def spX(K:AA3)(P:wW):Sp:=λvs H Q E=>∃ds M ρ R RX,Sim K ρ M H/\Reps K ρ H ds vs/\P ds M R RX/\(∀v H',VQ K ρ H R v H'->Q v H')/\∀C dx H',XQ K ρ H RX C dx H'->E C dx H'
def yI(P:Program)(w:World)(K:AA3)(mg:Str->Option Value)(base:Heap)(k:Nat)(x:Str)(ps:List Str)(Pr:wW):Prop :=
 ∃f fd,FnOk P w K mg base (CXe P w) k f fd ps (spX K Pr)/\mg x=some (.ref f)/\AC6 K (.ref f)=true/\mz K fd ps []
section
variable{b:Bool}{X:Cx}{e:Expr}{es:List Expr}{x:Str}{p pos:Pos}{t:DTA}
theorem yW(C:yI X.prog X.w X.K X.mg X.base j x ps P)(hr:Room k X.A)(ha:HA X.nox (e::es) t)(hj:Nat.ble j k=true:=by kernel_rfl)(hg:X.env.kindOf x=some .globalImplicit:=by kernel_rfl)
  (hdb:(x==("__debug__":Str))=false:=by kernel_rfl) (he:starEach (e::es) X.env=(false,eval e X.env)::starEach es X.env:=by kernel_rfl) (hpl:(backTo pos (starEach es X.env)).any (·.1)=false:=by kernel_rfl):HXE b X (.Call (.Name x p) (e::es) [] pos) (xCB P t):=⟨by
 rintro pins s σ H Q E Pσ Ex A pσ I ⟨S,M,ρ,F,R,sm,sr,q,k,xx⟩
 obtain⟨f,fd,Fk,hm,hk,hb⟩:=C
 refine ABW (jB I hg hm ?_ hdb)
 refine PySem.W.callWith_K (h₀:=X.base) I.ok.mod.kin hk (AAp (ha.ok.nox (Ex:=Ex) (pos:=pos) I ⟨S,M,ρ,_,sm,sr,q,λ_ _ z=>z⟩) (λus s1 z=>?_) λ_ _ z=>z) he hpl
 obtain⟨vs,H1,I1,r,ds,M1,ρ1,s1',g1,r1,q1⟩:=z
 refine⟨I1.kIn,?_⟩
 have hsp:spX X.K P (vs++[]) H1 Q E:=⟨ds,M1,ρ1,F,R,s1',by rw[ABE];exact r1,q1,λv H' w=>k v H' (VQ.trans g1 w),λC dx H' w=>xx C dx H' (w.trans g1)⟩
 have r2:au (vs++[]) (us++[]):=by rw[ABE,ABE];exact r
 have hl:(us++[]).length=ps.length:=by rw[<-r2.length];exact Fk.len _ _ _ _ hsp
 refine wpAny_call (ACT ((Fk.more (Nat.le_of_ble_eq_true hj)).run X.A X.stack s1 H1 ⟨us,[]⟩ (us++[]) (vs++[]) Q E hr I1.env0 (hb s1 us I1.kIn hl) r2 hsp) λr s' hq=>?_)
 cases r with
 | error e=>exact A.on σ H1 s1 e s' pσ I1 hq
 | ok fl =>
  cases fl with
  | ret u=>exact I1.after hq
  | next=>exact ABZ hq
  | brk=>exact ABZ hq
  | cont=>exact ABZ hq⟩
end
abbrev LenX(Pr:wW)(ps:List Str):Prop:=∀ds M R RX,Pr ds M R RX->ds.length=ps.length
abbrev DerX(P:Program)(w:World)(K:AA3)(mg:Str->Option Value)(base:Heap)(k:Nat)(x:Str)(N:List Str)(st:Stmt)(t:DTX):Prop :=
 ∀(f:Addr) (cdv:Value) (A:Around) (outer:List Env) (s:Shared) (H:Hp) (E:XK),Room k (A.deeper (AEA x (ak st) s.heap.objs.size f cdv))->HXs true (jL (CXe P w) P w K mg base N x (ak st) f cdv A outer s H E) (bg st) t
section
variable{P:Program}{w:World}{K:AA3}{mg:Str->Option Value}{base:Heap}{x:Str}{st:Stmt}{N ps:List Str}{k:Nat}{Pr:wW}{B:List Str}{C:List (Str×Int)}{t:DTX}
theorem yI.by(T:TopB mg B C)(F:cw K mg x st ps)(Sc:FnScope N ps (ak st))(len:LenX Pr ps)(der:TopB mg B C->N.Nodup->DerX P w K mg base k x N st t)(wp:∀ds M R RX,Pr ds M R RX->t (XEnd M RX) (EE M R) (bv N ds) M):yI P w K mg base (k+1) x ps Pr:=by
 obtain⟨f,fd,F1,hm,hb⟩:=F
 refine⟨f,fd,?_,hm,F1.kp,hb⟩
 obtain⟨oc,od,kV,doc,pm,an,cdv,ct,osl,rfl,lk,hcd⟩:=F1.ex
 refine Bc lk hcd Sc (λvs H Q E ⟨ds,M,ρ,R,RX,s,r,q,_⟩=>by rw[<-r.length];exact len ds M R RX q) λA outer s H vs Q E hr h=>?_
 obtain⟨ds,M,ρ,R,RX,sm,r,q,kk,kx⟩:=h
 refine⟨lowX K E t,λpins s1 σ H1 D I z=>(der T Sc.nd f cdv A outer s H E hr).ok pins s1 σ H1 D E (λ_=>True) _ ⟨λσ' H2 s2 e s' _ I2 c=>zZ pins σ' H2 s2 e s' I2 c,λ_ _=>trivial,λ_ σ' H2 s2 h' e C vs I2 m q=>An I2 m q⟩ trivial I z,
  bv N ds,M,ρ,_,_,sm,SRep.start r N,wp ds M R RX q,⟨λσ' H' ⟨S',M',ρ',s',g',sr',q'⟩=>?_,λv H' z=>kk v H' (VQ.endq sm z),λσ' H' ⟨S',M',ρ',s',g',sr',q'⟩=>q'.elim,λσ' H' ⟨S',M',ρ',s',g',sr',q'⟩=>q'.elim⟩,λC dx H' z=>kx C dx H' (XQ.endq sm z)⟩
 exact kk .non H' (VQ.endq sm ⟨.non,M',ρ',s',g',.non,q'⟩)
end
abbrev WpX(Pr:wW)(n:Nat)(t:DTX):Prop:=∀ds M R RX,Pr ds M R RX->t (XEnd M RX) (EE M R) (dst n ds) M
abbrev prN(Pr:wW):DSp:=λds M R=>Pr ds M R λ_ _=>False
theorem yI.nev{P:Program}{w:World}{K:AA3}{mg:Str->Option Value}{base:Heap}{x:Str}{ps:List Str}{k:Nat}{Pr:wW}(h:yI P w K mg base k x ps Pr):Cal P w K mg base k x ps (prN Pr):=by
 obtain⟨f,fd,Fk,hm,hk,hb⟩:=h
 have no:∀{ρ:List Addr}{H:Hp} (C:Value) (dx:Option Addr) (H':Hp),XQ K ρ H (λ_ _=>False) C dx H'->E0 C dx H':=λC dx H' ⟨_,_,_,_,_,_,_,_,q⟩=>q
 refine⟨f,fd,⟨λvs H Q E ⟨ds,M,ρ,R,s,r,q,kk⟩=>Fk.len vs H Q E0 ⟨ds,M,ρ,R,_,s,r,q,kk,no⟩,λA outer s H args us vs Q E hr e0 hb' rv ⟨ds,M,ρ,R,sm,r,q,kk⟩=>?_⟩,hm,hk,hb⟩
 refine ACT (Fk.run A outer s H args us vs Q E0 hr e0 hb' rv ⟨ds,M,ρ,R,_,sm,r,q,kk,no⟩) λr s' z=>?_
 cases r with
 | error e=>obtain⟨_,_,_,_,_,_,_,z⟩:=z;exact z.elim
 | ok fl=>cases fl<;>exact z
theorem AU{X:Cx}{c:Bool}{b:List Stmt}{st:Stmt}{sts:List Stmt}{t:DTX}(h:b=st::sts)(q:HXs c X (st::sts) t):HXs c X b t:=h ▸ q
noncomputable abbrev tM:=List (Str×List (Str×Bool))
noncomputable def tI(K:AA3)(t:Str×List (Str×Bool)):Bool:=match ACI K mainGlobals t.1 with
 | some (some (.ref C))=>ADc K C vE "ValueError.__new__" && AC5 K (.ref C) "__getattribute__" == some (some (.builtin "BaseException.__getattribute__"))&&AC5 K (.ref C) "__getattr__" == some none &&
   PySem.W.mroIn K C (.type "BaseException")==some true&&PySem.W.mroIn K C (.type "object")==some true&&AC5 K (.ref C) "__class__" == some (some (.builtin "object.__class__"))&&AB9 K (.ref C) (.type "ValueError")==some true &&
   t.2.all λr=>match ACI K mainGlobals r.1 with
    | some (some (.ref C'))=>AEJ K (.ref C) (.ref C')==some r.2&&AB9 K (.ref C) (.ref C')==some r.2&&AB9 K (.type "NoneType") (.ref C')==some false
    | _=>false
 | _=>false
noncomputable def cA(K:AA3)(T:tM):Bool:=T.all (tI K)
noncomputable def jQ(T:tM)(x y:Str):Option Bool:=(T.lookup x).bind (·.lookup y)
structure ClsX(K:AA3)(x:Str)(C:Addr):Prop where
 at_:ACI K mainGlobals x=some (some (.ref C))
 exc:ADc K C vE "ValueError.__new__" = true
 own:ExcK K C
 val:AB9 K (.ref C) (.type "ValueError")=some true
theorem tI.cls{K:AA3}{x:Str}{row:List (Str×Bool)}(h:tI K (x,row)=true):∃C,ClsX K x C/\∀y v,(y,v)∈row->∃C',ACI K mainGlobals y=some (some (.ref C'))/\AEJ K (.ref C) (.ref C')=some v/\AB9 K (.ref C) (.ref C')=some v/\AB9 K (.type "NoneType") (.ref C')=some false:=by
 unfold tI at h
 split at h
 ·rename_i C e
  simp only[AAS,beq_iff_eq]at h
  obtain⟨⟨⟨⟨⟨⟨⟨h1,h2⟩,h3⟩,h4⟩,h5⟩,h6⟩,h7⟩,h8⟩:=h
  refine⟨C,⟨e,h1,⟨h2,h3,h4,h5,h6⟩,h7⟩,λy v hy=>?_⟩
  have:=AAU.mp h8 (y,v) hy
  dsimp only at this
  split at this
  ·rename_i C' e'
   simp only[AAS,beq_iff_eq]at this
   exact⟨C',e',this.1.1,this.1.2,this.2⟩
  ·cases this
 ·cases h
theorem eF{α β:Type}[BEq α][LawfulBEq α]{a:α}{v:β}:∀{l:List (α×β)},l.lookup a=some v->(a,v)∈l
 | [],h=>by cases h
 | (c,w)::l,h=>by
  rw[ABc]at h
  split at h
  ·rename_i e;cases h;rw[beq_iff_eq.mp e];exact AAG
  ·exact AA9 _ (eF h)
theorem cA.cls{K:AA3}{T:tM}{x:Str}(h:cA K T=true)(hx:(T.lookup x).isSome=true):∃C,ClsX K x C/\∀y v,jQ T x y=some v->∃C',ACI K mainGlobals y=some (some (.ref C'))/\AEJ K (.ref C) (.ref C')=some v/\AB9 K (.ref C) (.ref C')=some v/\AB9 K (.type "NoneType") (.ref C')=some false:=by
 obtain⟨row,e⟩:=ABy.mp hx
 obtain⟨C,c,r⟩:=tI.cls (AAU.mp h _ (eF e))
 refine⟨C,c,λy v hv=>?_⟩
 unfold jQ at hv
 rw[e]at hv
 exact r y v (eF hv)
theorem jQ.has(h:jQ T x y=some v):(T.lookup x).isSome=true:=by
 unfold jQ at h
 cases q:T.lookup x with
 | none=>rw[q]at h;cases h
 | some _=>rfl
section
variable{b:Bool}{X:Cx}{e:Expr}{es:List Expr}{x:Str}{pos:Pos}
theorem nT{np cpos:Pos}{ta:DTA}{T:tM}(hT:cA X.K T=true)(ha:HA X.nox (e::es) ta)(hx:(T.lookup x).isSome=true:=by kernel_rfl)(hc:X.calm=true:=by kernel_rfl)
  (hg:X.env.kindOf x=some .globalImplicit:=by kernel_rfl) (he:starEach (e::es) X.env=(false,eval e X.env)::starEach es X.env:=by kernel_rfl) (hpl:(backTo cpos (starEach es X.env)).any (·.1)=false:=by kernel_rfl) (hdb:(x==("__debug__":Str))=false:=by kernel_rfl) :
  HX true X (.Raise (some (.Call (.Name x np) (e::es) [] cpos)) none pos) (qq x ta):=⟨λpins s σ H D E P Ex A p I z=>by
 obtain⟨C,c,_⟩:=cA.cls hT hx
 exact(xS (AEP I.mod.kin I.mod.glob c.at_) c.at_ c.exc ha hc hg he hpl hdb).ok pins s σ H D E P Ex A p I z⟩
def dTry(T:tM)(y:Str)(i:Nat)(tb:DTX)(ts:DTS):DTS:=λF S M =>
 tb (λx M'=>jQ T x y=some true/\ts ⟨λS' M''=>F.nx (S'.set i none) M'',λ_ _=>False,λ_ _=>False,λ_ _=>False⟩ (S.set i (some (.ref M'.length))) (M'++[.exc x])) F S M
theorem SRep.drop{K:AA3}{ρ:List Addr}{H:Hp}{S:SD}{σ:St}(r:SRep K ρ H S σ)(i:Nat):SRep K ρ H (S.set i none) (σ.set i none):=by
 refine⟨by simpa using r.len,λj d e=>?_⟩
 by_cases h:i=j
 ·subst h
  by_cases hl:i<S.length
  ·rw[AAV hl]at e;cases e
  ·rw[ABB (by simpa using hl)]at e;cases e
 ·rw[AAb h]at e
  obtain⟨v,hv,rv⟩:=r.get j d e
  exact⟨v,by rw[AAb h];exact hv,rv⟩
theorem yZ{T:tM}{y n:Str}{i:Nat}{body:List Stmt}{b₀:Stmt}{suite:List Stmt}{np hpos:Pos}{tb:DTX}{ts:DTS}(hT:cA X.K T=true)(hN:X.N.Nodup)(hb:HXs false X body tb)(hs:∀a,HB (X.held a) (b₀::suite) ts)
  (d1:X.stack=X.env::X.outer:=by kernel_rfl) (d2:X.env.frame=some X.env.locals:=by kernel_rfl) (d3:X.ex=[]:=by kernel_rfl) (hi:X.N[i]?=some n:=by kernel_rfl) (hk:X.env.scope.names.lookup n=some .local:=by kernel_rfl)
  (hg:X.env.kindOf y=some .globalImplicit:=by kernel_rfl) (hdb:(y==("__debug__":Str))=false:=by kernel_rfl) :
  HS X (.Try body [.ExceptHandler (some (.Name y np)) (some n) (b₀::suite) hpos] [] [] pos) (dTry T y i tb ts):=⟨by
 rintro pins s σ H D I ⟨S,M,ρ,F,sm,sr,q,k⟩
 refine wpAny_Try_except (thn (hb.ok pins s σ H D (XQ X.K ρ H _) (λσ'=>σ'=σ) _ ⟨?_,λz=>(nomatch z),λz=>(nomatch z)⟩ rfl I ⟨S,M,ρ,F,_,sm,sr,q,k,λ_ _ _ z=>z⟩) λf s1 z=>?_)
 ·rintro σ' H1 s1 e s' rfl I1 ⟨a,C,H2,rfl,ho,hbr,Fl,x,c,M',ρ',rfl,hx,s2,g2,hsub,q2⟩
  obtain⟨C0,c0,r0⟩:=cA.cls hT (jQ.has hsub)
  obtain⟨C',hy,hm,_⟩:=r0 y true hsub
  have ec:C0=c:=by have:=c0.at_.symm.trans hx;cases this;rfl
  subst ec
  have na:H2 a=none:=by
   obtain⟨B,a0,fly,_,_,_,trk⟩:=Fl
   cases q:H2 a with
   | none=>rfl
   | some u =>
    obtain⟨o,ho⟩:=trk a u q
    rw[fly.2.1]at ho
    cases ho
  refine wL (C:=C0) (C':=C') (i:=i) I1 ⟨d1,d2,d3⟩ ho hbr Fl hN hi hk (AEP I.mod.kin I.mod.glob hy) hm (hs a).ok ⟨S.set i (some (.ref M'.length)),M'++[.exc x],ρ'++[a],_,s2.laidM (mo:=.exc x) na ⟨C0,hx,aA⟩,(sr.grow (g2.trans (Grow.laidR na))).set i (.ref s2.last),q2,⟨λσ3 H3 w=>?_,λ_ _ w=>?_,λ_ _ w=>?_,λ_ _ w=>?_⟩⟩ hg hdb
  ·obtain⟨S3,M3,ρ3,s3,g3,sr3,q3⟩:=w
   exact k.nx _ H3 ⟨_,M3,ρ3,s3,(g2.trans (Grow.laidR na)).trans g3,sr3.drop i,q3⟩
  ·obtain⟨_,_,_,_,_,_,q3⟩:=w;exact q3
  ·obtain⟨_,_,_,_,_,_,q3⟩:=w;exact q3
  ·obtain⟨_,_,_,_,_,_,q3⟩:=w;exact q3
 ·cases f with
  | next=>exact ACl z
  | ret v=>exact z
  | brk=>exact z
  | cont=>exact z⟩
noncomputable def subY(T:tM)(y:Str):Bool:=T.any λr=>(r.2.lookup y).isSome
theorem cA.any{K:AA3}{T:tM}{y:Str}(h:cA K T=true)(hy:subY T y=true):∃C',ACI K mainGlobals y=some (some (.ref C'))/\AB9 K (.type "NoneType") (.ref C')=some false:=by
 obtain⟨⟨x,row⟩,hr,hl⟩:=ADH.mp hy
 obtain⟨v,hv⟩:=ABy.mp hl
 obtain⟨C,_,r⟩:=tI.cls (AAU.mp h _ hr)
 obtain⟨C',h1,_,_,h4⟩:=r y v (eF hv)
 exact⟨C',h1,h4⟩
def rQ(T:tM)(y:Str)(te:DTE):DTE:=λS M Q=>te S M λd M1=>match d with
 | .ref n=>(match M1[n]? with
  | some (.exc x)=>(match jQ T x y with
   | some v=>Q (.bl v) M1
   | none=>False)
  | _=>False)
 | .non=>Q (.bl false) M1
 | _=>False
def dIsV(T:tM)(te:DTE):DTE:=λS M Q=>te S M λd M1=>match d with
 | .ref n=>(match M1[n]? with
  | some (.exc x)=>(T.lookup x).isSome=true/\Q (.bl true) M1
  | _=>False)
 | .non=>Q (.bl false) M1
 | _=>False
def rIsC(K:AA3)(c:V)(u:Value):List V->Hp->VK->Prop:=λvs H Q=>∃v1,vs=[v1,c]/\((v1=.non/\AB9 K (.type "NoneType") u=some false/\Q (.bl false) H)\/∃a C v,v1=.ref a/\H a=some (.ext (BL a (.ref C)))/\ExcK K C/\AB9 K (.ref C) u=some v/\Q (.bl v) H)
theorem rS(hr:∀u',aI c u'->u'=u):eM X (.builtin "isinstance") (rIsC X.K c u):=by
 rintro pins s σ H vs us Q I rv ⟨v1,rfl,h⟩
 obtain⟨u1,u2,rfl,r1,r2⟩:=au.two rv
 obtain rfl:=hr u2 r2
 rcases h with⟨rfl,hk,q⟩|⟨a,C,v,rfl,ha,hE,hk,q⟩
 ·obtain rfl:u1=ABi:=r1
  exact PySem.W.kia_one PySem.W.kitx_none I.kIn trivial hk (by intro z;cases z) λtk=>⟨.bl false,H,I.tok tk,rfl,q⟩
 ·obtain rfl:u1=ABf a:=r1
  obtain⟨⟨o,ws,e1,e2,_⟩,_⟩:=I.hok a _ ha
  exact PySem.W.kia_one (xV hE) I.kIn ⟨o,e1,e2⟩ hk (by intro z;cases z) λtk=>⟨.bl v,H,I.tok tk,rfl,q⟩
theorem DZ{T:tM}{y:Str}{p py:Pos}{te:DTE}(hT:cA X.K T=true)(hm:X.mg "isinstance" = none)(he:HE X e te)(hY:subY T y=true:=by kernel_rfl)(hg:X.env.kindOf "isinstance" = some .globalImplicit:=by kernel_rfl)(hy:X.env.kindOf y=some .globalImplicit:=by kernel_rfl)(hdb:(y==("__debug__":Str))=false:=by kernel_rfl)
  (hs1:starEach [e,.Name y py] X.env=(false,eval e X.env)::starEach [.Name y py] X.env:=by kernel_rfl) (hs2:starEach [.Name y py] X.env=(false,eval (.Name y py) X.env)::starEach [] X.env:=by kernel_rfl) (hpl:(backTo pos (starEach [.Name y py] X.env)).any (·.1)=false:=by kernel_rfl) :
  HE X (.Call (.Name "isinstance" p) [e,.Name y py] [] pos) (rQ T y te):=⟨by
 rintro pins s σ H Q I ⟨S,M,ρ,R,sm,sr,q,k⟩
 obtain⟨C',hn,hnone⟩:=cA.any hT hY
 refine lK (rS (X:=X) (c:=.ref C') (u:=.ref C') λu' r=>r) hg hm de (je he.ok (je (zW (v:=.ref C') hy (AEP I.mod.kin I.mod.glob hn) rfl hdb) uY hs2) hs1) (by decide) (by decide) hs1 hpl pins s σ H Q I ?_
 refine⟨S,M,ρ,_,sm,sr,q,?_⟩
 rintro v H1 ⟨d,M1,ρ1,s1,g1,r1,q1⟩
 show rIsC X.K (.ref C') (.ref C') [v,.ref C'] H1 Q
 refine⟨v,rfl,?_⟩
 cases d with
 | non =>
  obtain rfl:=Rep.inv_non r1
  exact .inl ⟨rfl,hnone,k _ _ ⟨_,M1,ρ1,s1,g1,.bl false,q1⟩⟩
 | ref n =>
  obtain⟨a,rfl,hn1⟩:=Rep.inv_ref r1
  dsimp only at q1
  split at q1
  ·rename_i x hx
   split at q1
   ·rename_i v hv
    obtain⟨C,c,r⟩:=cA.cls hT (jQ.has hv)
    obtain⟨C2,hn2,_,hk,_⟩:=r y v hv
    have ec:C2=C':=by have:=hn2.symm.trans hn;cases this;rfl
    subst ec
    obtain⟨C3,h3,ha⟩:=s1.obj n a _ hn1 hx
    have ec:C3=C:=by have:=h3.symm.trans c.at_;cases this;rfl
    subst ec
    exact .inr ⟨a,C3,v,rfl,ha,c.own,hk,k _ _ ⟨_,M1,ρ1,s1,g1,.bl v,q1⟩⟩
   ·exact q1.elim
  ·exact q1.elim
 | _=>exact q1.elim⟩
theorem ms:bootBuiltins "ValueError" = some (.type "ValueError"):=by decide +kernel
theorem vV{K:AA3}:AB9 K (.type "NoneType") (.type "ValueError")=some false:=by kernel_rfl
theorem Ea{T:tM}{p py:Pos}{te:DTE}(hT:cA X.K T=true)(hm:X.mg "isinstance" = none)(hv:X.mg "ValueError" = none)(he:HE X e te)(hg:X.env.kindOf "isinstance" = some .globalImplicit:=by kernel_rfl)(hy:X.env.kindOf "ValueError" = some .globalImplicit:=by kernel_rfl)
  (hs1:starEach [e,.Name "ValueError" py] X.env=(false,eval e X.env)::starEach [.Name "ValueError" py] X.env:=by kernel_rfl) (hs2:starEach [.Name "ValueError" py] X.env=(false,eval (.Name "ValueError" py) X.env)::starEach [] X.env:=by kernel_rfl) (hpl:(backTo pos (starEach [.Name "ValueError" py] X.env)).any (·.1)=false:=by kernel_rfl) :
  HE X (.Call (.Name "isinstance" p) [e,.Name "ValueError" py] [] pos) (dIsV T te):=⟨by
 rintro pins s σ H Q I ⟨S,M,ρ,R,sm,sr,q,k⟩
 refine lK (rS (X:=X) (c:=.ty "ValueError") (u:=.type "ValueError") λu' r=>r) hg hm de (je he.ok (je (uX (v:=.ty "ValueError") hy hv ms rfl) uY hs2) hs1) (by decide) (by decide) hs1 hpl pins s σ H Q I ?_
 refine⟨S,M,ρ,_,sm,sr,q,?_⟩
 rintro v H1 ⟨d,M1,ρ1,s1,g1,r1,q1⟩
 show rIsC X.K (.ty "ValueError") (.type "ValueError") [v,.ty "ValueError"] H1 Q
 refine⟨v,rfl,?_⟩
 cases d with
 | non =>
  obtain rfl:=Rep.inv_non r1
  exact .inl ⟨rfl,vV,k _ _ ⟨_,M1,ρ1,s1,g1,.bl false,q1⟩⟩
 | ref n =>
  obtain⟨a,rfl,hn1⟩:=Rep.inv_ref r1
  dsimp only at q1
  split at q1
  ·rename_i x hx
   obtain⟨C,c,_⟩:=cA.cls hT q1.1
   obtain⟨C3,h3,ha⟩:=s1.obj n a _ hn1 hx
   have ec:C3=C:=by have:=h3.symm.trans c.at_;cases this;rfl
   subst ec
   exact .inr ⟨a,C3,true,rfl,ha,c.own,c.val,k _ _ ⟨_,M1,ρ1,s1,g1,.bl true,q1.2⟩⟩
  ·exact q1.elim
 | _=>exact q1.elim⟩
end
end L2
namespace LW
open PySem L2
local macro_rules | `(tactic| walk_at "sc")=>`(tactic| exact⟨rfl,rfl,rfl,by decide +kernel,rfl,by decide +kernel,by decide +kernel⟩)
local macro_rules | `(tactic| walk_at "dl")=>`(tactic| simp only[EE,xOf,BU,xIf,xSet,zo,xCB,qq,dTry,rQ,dIsV,aB,dIf,BO,EV,dOr,aG,dCB,aa,af,be,gW,dOrV,yD,dLC,wD,dc,ay,bu,aW,ix,mn,dOp,oA,dC,ac,fH,iw,dSl,jZ,dP,dMl,db,mj,nC,qAdd,aV,Cu,lG,ph,uP,qLt,qLe,qGt,qGe,qIs,qEq,qNe,yP,mB,qIx,qSl,bW,dAsg,yA,oq,ci,ou,ja,fT,gs,qh,oy,qg,dMt,fU,rP,rN,gx,zK,lF,rO,uQ,BK,iZ,iB,Br,gI,SqAt,zJ,kZ,at0,at1,at2,tyD,dst,bv,EO,AAe,List.map_nil,ACb,AB6,List.getElem?_cons_zero,ACZ,AAL,AAq,List.replicate_zero,List.replicate_succ,List.set_cons_zero,List.set_cons_succ,ACo,Nat.reduceAdd,Nat.reduceSub,Option.join_some,if_true,if_false,AAA])
noncomputable def top(i:Nat):Stmt:=PySem.Challenge.pw_talkmarks_k22_the_message_of_a_stamp.main.body.getD i (.Pass ⟨0,0,0,0⟩)
noncomputable abbrev T_:tM:=[(AA1 "NoMessage",[(AA1 "TalkError",true),(AA1 "NoSaying",false),(AA1 "NotYours",false),(AA1 "NoHouse",false),(AA1 "NoDeed",false),(AA1 "NoWhat",false),(AA1 "NoName",false),(AA1 "Clash",false),(AA1 "NoRow",false),(AA1 "Strange",false),(AA1 "Gap",false),(AA1 "NoMessage",true),(AA1 "NoRoom",false)])]
noncomputable abbrev B_:List Str:=["int","isinstance","bool","tuple","len","dict","sorted","set","range","list","max","ValueError"]
noncomputable abbrev C_:List (Str×Int):=[]
noncomputable abbrev gL:List Str:=["thing"]
noncomputable abbrev bX:List Str:=["least","thing"]
noncomputable abbrev cS:List Str:=["many","thing"]
noncomputable abbrev jh:List Str:=["house","name"]
noncomputable abbrev ji:List Str:=["house","thing"]
noncomputable abbrev dI:List Str:=["house","room"]
noncomputable abbrev gM:List Str:=["house","thing"]
noncomputable abbrev gK:List Str:=["deed"]
noncomputable abbrev fi:List Str:=["deed"]
noncomputable abbrev bY:List Str:=["log","kind"]
noncomputable abbrev jf:List Str:=["say"]
noncomputable abbrev gJ:List Str:=["say"]
noncomputable abbrev fj:List Str:=["house","say","elders"]
noncomputable abbrev bE:List Str:=["house","log"]
noncomputable abbrev cF:List Str:=["deed","says"]
noncomputable abbrev cQ:List Str:=["log","kind","says"]
noncomputable abbrev cE:List Str:=["log","says"]
noncomputable abbrev bq:List Str:=["log","says"]
noncomputable abbrev dG:List Str:=["say","changes"]
noncomputable abbrev dF:List Str:=["house","log"]
noncomputable abbrev cR:List Str:=["house","log"]
noncomputable abbrev lN:List Str:=["house","log","stamp"]
noncomputable abbrev dH:List Str:=["house","log","stamp"]
noncomputable abbrev jk:List Str:=["_law_script","_law_k"]
noncomputable abbrev lO:List Str:=["_law_cell"]
noncomputable abbrev va:List Str:=["_law_held","_law_many"]
noncomputable abbrev vc:List Str:=["_law_held"]
noncomputable abbrev pp:List Str:=["_law_held","_law_many"]
noncomputable abbrev pz:List Str:=["_law_cell"]
noncomputable abbrev lM:List Str:=["_law_held","_law_names_here"]
noncomputable abbrev vb:List Str:=["_law_held","_law_hands_here","_law_says"]
noncomputable abbrev lL:List Str:=["_law_held","_law_hands_here","_law_done"]
noncomputable abbrev uZ:List Str:=["_law_held","_law_house_here","_law_hands_here","_law_says"]
noncomputable abbrev Ac:List Str:=["_law_held","_law_house_here","_law_hands_here","_law_says","_law_done"]
noncomputable abbrev pA:List Str:=["_law_house_here"]
noncomputable abbrev Aa:List Str:=["_law_cells","_law_house_here"]
noncomputable abbrev jg:List Str:=["_law_house_here","_law_log_here","_law_thing"]
noncomputable abbrev Ab:List Str:=["_law_script"]
structure Tops(P:Program)(w:World)(K:AA3)(mg:Str->Option Value)(base:Heap):Prop where
 f_is_whole:cw K mg "is_whole" (top 15) gL
 f_is_whole_from:cw K mg "is_whole_from" (top 16) bX
 f_is_tuple_of:cw K mg "is_tuple_of" (top 17) cS
 f_many_of:cw K mg "many_of" (top 19) jh
 f_is_hand:cw K mg "is_hand" (top 20) ji
 f_members_of:cw K mg "members_of" (top 21) dI
 f_is_stamp:cw K mg "is_stamp" (top 23) gM
 f_stamp_of:cw K mg "stamp_of" (top 24) gK
 f_person_of:cw K mg "person_of" (top 25) fi
 f_deeds_of_kind:cw K mg "deeds_of_kind" (top 27) bY
 f_room_of:cw K mg "room_of" (top 29) jf
 f_under_of:cw K mg "under_of" (top 30) gJ
 f_can_stand:cw K mg "can_stand" (top 31) fj
 f_says_that_count:cw K mg "says_that_count" (top 32) bE
 f_is_by_writer:cw K mg "is_by_writer" (top 33) cF
 f_writers_own:cw K mg "writers_own" (top 34) cQ
 f_last_changes:cw K mg "last_changes" (top 35) cE
 f_stamps_taken_back:cw K mg "stamps_taken_back" (top 36) bq
 f_message_of:cw K mg "message_of" (top 37) dG
 f_says_shown:cw K mg "says_shown" (top 38) dF
 f_messages_of:cw K mg "messages_of" (top 39) cR
 f_say_at:cw K mg "say_at" (top 40) lN
 f_message_at:cw K mg "message_at" (top 41) dH
 f_cell_at:cw K mg "_law_cell_at" (top 43) jk
 f_digits:cw K mg "_law_digits" (top 44) lO
 f_take:cw K mg "_law_take" (top 45) va
 f_name:cw K mg "_law_name" (top 46) vc
 f_names:cw K mg "_law_names" (top 47) pp
 f_house:cw K mg "_law_house" (top 48) pz
 f_saying:cw K mg "_law_saying" (top 49) lM
 f_pick:cw K mg "_law_pick" (top 50) vb
 f_vector:cw K mg "_law_vector" (top 51) lL
 f_what:cw K mg "_law_what" (top 52) uZ
 f_act:cw K mg "_law_act" (top 53) Ac
 f_hands:cw K mg "_law_hands" (top 54) pA
 f_log:cw K mg "_law_log" (top 55) Aa
 f_refused:cw K mg "_law_refused" (top 56) jg
 f_law:cw K mg "law" (top 57) Ab
 b:TopB mg B_ C_
 cl:cA K T_=true
 bm:BMain mg base
local macro_rules | `(tactic| walk_at "bb")=>`(tactic| first | exact BF | exact BE | exact Fc | exact de | exact Fb | exact Fa | exact oN | exact yG)
local macro_rules | `(tactic| walk_at "tb")=>`(tactic| exact TopB.no (by k_dflt assumption) (by kernel_rfl))
local macro_rules | `(tactic| walk_at "dvr")=>`(tactic| (repeat' (first | (with_reducible first | (refine gA ?_;first | exact DR | refine AI ?_ ?_) | exact k_var | (refine Er ?_;first | exact k_int | exact k_bl | exact k_non | exact k_str) | (refine gCall ?_;first | refine sW (by k_dflt assumption) ?_ (by walk_at "tb") (by walk_at "tb") | refine sX ?_ (by walk_at "tb") | refine vZ (by k_dflt assumption) (by k_dflt assumption) (by k_dflt assumption) ?_ (by walk_at "tb") (λ_ _ _ _ _ _ _ _=>?_) (by k_dflt (exact vO (by kernel_rfl))) (by k_dflt kernel_rfl) (by k_dflt kernel_rfl) (by k_dflt (intro _ _ _ _;kernel_rfl)) | refine AN ?_ (by walk_at "tb") (by walk_at "bb") ?_ | refine yc ?_ (by walk_at "tb") (by walk_at "bb") ?_ | refine k_cal (by k_dflt assumption) (by k_dflt assumption) ?_ | refine AJ (by k_dflt assumption) ?_ ?_ | refine k_ml ?_ ?_ ?_) | (refine gIx ?_;first | refine AL ?_ ?_ ?_ | refine DY (by k_dflt assumption) ?_ ?_ (hs:=by k_dflt (intro _ _;kernel_rfl)) | refine k_ix ?_ ?_ (hs:=by k_dflt (intro _ _;kernel_rfl))) | (refine gT ?_;first | refine Dx ?_ ?_ ?_ | refine Dw ?_ | refine kw_t (yX ?_ ?_) | refine kw_t (Du ?_ ?_) | refine Dv ?_) | (refine gE ?_;first | exact DV | exact DU (by walk_at "tb") (by walk_at "bb") | refine k_op ?_ ?_ ?_ | refine k_not ?_ | refine k_cmp ?_ ?_ ?_ | refine AM ?_ ?_ ?_ ?_ ?_ | refine k_one ?_ | refine k_and ?_ ?_ | refine k_or ?_ ?_ | refine k_tup ?_ | refine k_lst ?_ | refine AK (by k_dflt assumption) ?_ ?_ | refine k_lcN ?_ (λ_ _ _ _=>?_) (λ_ _ _ _=>?_) (λ_ _ _ _=>?_) | refine DZ (by k_dflt assumption) (by walk_at "tb") ?_ | refine Ea (by k_dflt assumption) (by walk_at "tb") (by walk_at "tb") ?_) | (refine gS ?_;first | exact rE | refine vU ?_ | refine zb ?_ | refine DB ?_ ?_ ?_ | refine nV (by k_dflt assumption) ?_ (λ_ _ _ _=>?_) (λ_ _ _ _=>?_) (λ_ _ _ _=>?_) | refine za (by k_dflt assumption) ?_ | refine zd ?_ ?_ | refine yZ (by k_dflt assumption) (by k_dflt assumption) ?_ (λ_=>?_) | refine vT (by k_dflt assumption) ?_ ?_ ?_ | refine zc ?_ ?_ ?_) | (refine gOp ?_;first | exact AX | exact ho_eq (by k_dflt assumption) | exact AW | exact ho_ge | exact ho_gt | exact ho_in (by k_dflt assumption) | exact Ek (by k_dflt assumption) | exact ho_is | exact ho_le | exact ho_lt | exact Ej | exact Ei | exact ho_ne (by k_dflt assumption) | exact wd (by k_dflt assumption) | exact yf (by k_dflt assumption) | exact Eh | exact Eg | exact Ef) | (refine gC ?_;first | exact wj (by k_dflt assumption) | exact En | exact Em | exact AY | exact sY (by k_dflt assumption) | exact yj) | exact Dz | exact AA | exact AE | exact AG | refine Dy ?_ | refine yX ?_ ?_ | refine Du ?_ ?_ | refine Aw ?_ | refine Dt ?_ | refine Az ?_ | refine AD ?_ | refine vX (by walk_at "tb") ?_ | refine vW (by walk_at "tb") ?_ | refine xW ?_ | refine xX ?_ | refine DC ?_ | exact AH (by k_dflt assumption) | exact DJ (Dl (by kernel_rfl)) | refine xY ?_ ?_ | refine DF ?_ | refine DH ?_ ?_ | refine yW (by k_dflt assumption) (by k_dflt assumption) ?_ | refine Ds ?_ ?_ ?_ | refine yV (by k_dflt assumption) ?_ | refine vQ ?_ | refine nT (by k_dflt assumption) ?_ | refine Dr ?_ | exact Av | refine vP ?_ | refine rD ?_ ?_ | exact wf | exact we) | refine AC ?_ ?_ | refine vU ?_ | refine zb ?_ | refine DB ?_ ?_ ?_ | refine nV (by k_dflt assumption) ?_ (λ_ _ _ _=>?_) (λ_ _ _ _=>?_) (λ_ _ _ _=>?_) | refine za (by k_dflt assumption) ?_ | refine zd ?_ ?_ | refine yZ (by k_dflt assumption) (by k_dflt assumption) ?_ (λ_=>?_) | refine DZ (by k_dflt assumption) (by walk_at "tb") ?_ | refine Ea (by k_dflt assumption) (by walk_at "tb") (by walk_at "tb") ?_ | refine yW (by k_dflt assumption) (by k_dflt assumption) ?_ | refine Ds ?_ ?_ ?_ | refine yV (by k_dflt assumption) ?_ | refine vQ ?_ | refine nT (by k_dflt assumption) ?_ | refine Dr ?_ | refine vP ?_ | refine rD ?_ ?_ | refine vT (by k_dflt assumption) ?_ ?_ ?_ | refine zc ?_ ?_ ?_ | exact rE)))
local macro_rules | `(tactic| walk_at "dv")=>`(tactic| (intro _ _ _ _ _ _ _ _ _ _;refine wk rfl ?_;walk_at "dvr"))
local macro_rules | `(tactic| walk_at "dvx")=>`(tactic| (intro _ _ _ _ _ _ _ _ _ _;refine AU rfl ?_;walk_at "dvr"))
local macro_rules | `(tactic| walk_at "dvl")=>`(tactic| (intro _ _ _ _ _ _ _ _ _ _ _;refine wk rfl ?_;walk_at "dvr"))
section
variable{P:Program}{w:World}{K:AA3}{mg:Str->Option Value}{base:Heap}
noncomputable def cO(p:Str×Int):D:=.tup [.str p.1,.int p.2]
def Hd(d:D):Prop:=∃(x:Str) (k:Int),d=.tup [.str x,.int k]
theorem hd_eq(ha:Hd a)(hb:Hd b):eqD M (n+1) a b=true↔a=b:=by
 obtain⟨x,k,rfl⟩:=ha
 obtain⟨y,l,rfl⟩:=hb
 show (eqD M n (.str x) (.str y)&&(eqD M n (.int k) (.int l)&&true))=true↔_
 rw[cc,jG]
 simp
theorem hd_ok(ha:Hd a):okD M eqN a=true:=by
 obtain⟨x,k,rfl⟩:=ha
 rfl
theorem hd_key(ha:Hd a):bL 8 a=true:=by
 obtain⟨x,k,rfl⟩:=ha
 rfl
noncomputable def vecD(hs:List (D×Int)):List D:=hs.map λp=>.tup [p.1,.int p.2]
noncomputable def BY(hs:List (D×Int))(hd:D)(num:Int):Bool:=match hs.find? λp=>decide (p.1=hd) with
 | some p=>decide (num<p.2)
 | none=>false
noncomputable def plD:Nat->D->Bool
 | n+1,.tup xs=>xs.all (plD n)
 | 0,.tup _=>false
 | _,.ref _=>false
 | _,.ty _=>false
 | _,_=>true
def Pln(n:Nat)(d:D):Prop:=plD n d=true
def kb(n:Nat)(ds:List D):Prop:=ds.all (plD n)=true
theorem Pln.non:Pln n .non:=by cases n<;>rfl
theorem Pln.bl(b:Bool):Pln n (.bl b):=by cases n<;>rfl
theorem Pln.int(i:Int):Pln n (.int i):=by cases n<;>rfl
theorem Pln.str(x:Str):Pln n (.str x):=by cases n<;>rfl
theorem kb.nil:kb n []:=rfl
theorem kb.cons(h:Pln n d)(t:kb n ds):kb n (d::ds):=by
 unfold kb Pln at *
 rw[ABK,h,t];rfl
theorem Pln.tup(h:kb n ds):Pln (n+1) (.tup ds):=h
theorem kb.of(h:∀d∈ds,Pln n d):kb n ds:=AAU.mpr h
theorem cC:∀(n:Nat) (d:D),Pln n d->Bel k d:=by
 intro n
 induction n with
 | zero =>
  intro d h
  cases d with
  | tup xs=>cases h
  | ref i=>cases h
  | ty t=>cases h
  | non=>exact .non
  | bl b=>exact .bl b
  | int i=>exact .int i
  | str x=>exact .str x
 | succ n ih =>
  intro d h
  cases d with
  | tup xs=>exact .tup (Bels.of λx hx=>ih x (AAU.mp h x hx))
  | ref i=>cases h
  | ty t=>cases h
  | non=>exact .non
  | bl b=>exact .bl b
  | int i=>exact .int i
  | str x=>exact .str x
theorem mf:∀{xs:List D},(∀x∈xs,f x x=true)->eqL f xs xs=true
 | [],_=>rfl
 | x::xs,h=>by
  show (f x x&&eqL f xs xs)=true
  rw[h x (by simp),mf λy hy=>h y (AA9 _ hy)];rfl
theorem CG:∀(n m:Nat) (d:D),n<=m->Pln n d->okD M m d=true/\eqD M m d d=true:=by
 intro n
 induction n with
 | zero =>
  intro m d _ h
  cases d with
  | tup xs=>cases h
  | ref i=>cases h
  | ty t=>cases h
  | non=>exact⟨vp,by cases m<;>rfl⟩
  | bl b=>exact⟨yR,by cases m<;>cases b<;>rfl⟩
  | int i=>exact⟨lR,by rw[jG];exact beq_self_eq_true i⟩
  | str x=>exact⟨aZ,by rw[cc];exact beq_self_eq_true x⟩
 | succ n ih =>
  intro m d hm h
  cases m with
  | zero=>lia
  | succ m =>
   cases d with
   | tup xs=>exact⟨Ah λx hx=>(ih m x (by lia) (AAU.mp h x hx)).1,mf λx hx=>(ih m x (by lia) (AAU.mp h x hx)).2⟩
   | ref i=>cases h
   | ty t=>cases h
   | non=>exact⟨vp,rfl⟩
   | bl b=>exact⟨yR,by cases b<;>rfl⟩
   | int i=>exact⟨lR,by rw[jG];exact beq_self_eq_true i⟩
   | str x=>exact⟨aZ,by rw[cc];exact beq_self_eq_true x⟩
theorem yi(h:Hd d):Pln (n+1) d:=by
 obtain⟨x,i,rfl⟩:=h
 exact .tup (.cons (.str _) (.cons (.int _) .nil))
theorem El(h:Hd d):Bel k d:=cC 1 d (yi h)
def Deed(d:D):Prop:=∃(t:Int) (hd:D) (num:Int) (act:D),d=.tup [.int t,hd,.int num,act]/\Hd hd/\Pln 5 act
theorem Bs(h:Deed d):Pln 6 d:=by
 obtain⟨t,hd,num,act,rfl,hh,ha⟩:=h
 exact .tup (.cons (.int _) (.cons (yi hh) (.cons (.int _) (.cons ha .nil))))
theorem yB(h:Deed d):Bel k d:=cC 6 d (Bs h)
theorem EN(h:∀d∈ds,Deed d):Bels k ds:=Bels.of λd hd=>yB (h d hd)
noncomputable def handD:D->D
 | .tup (_::h::_)=>h
 | _=>.non
noncomputable def numD:D->Int
 | .tup (_::_::.int n::_)=>n
 | _=>0
noncomputable def many(log:List D)(hd:D):Nat:=(log.filter λd=>decide (handD d=hd)).length
theorem gk:aQ (eV kvs k d) k=some d:=by
 unfold eV
 split
 ·rename_i hs
  unfold aQ at hs ⊢
  rw[Option.isSome_map]at hs
  obtain⟨q,hq⟩:=ABy.mp hs
  rw[List.find?_map]
  have e:((λp:D×D=>decide (p.1=k)) ∘ λp:D×D=>if p.1=k then(p.1,d)else p)=λp=>decide (p.1=k):=by
   funext p
   show decide ((if p.1=k then(p.1,d)else p).1=k)=decide (p.1=k)
   split<;>rfl
  rw[e,hq]
  have hk:q.1=k:=by
   have:=AE8 hq
   exact of_decide_eq_true this
  show some (if q.1=k then(q.1,d)else q).2=_
  rw[if_pos hk]
 ·rename_i hs
  unfold aQ at hs ⊢
  rw[Option.isSome_map,Option.not_isSome_iff_eq_none]at hs
  rw[List.find?_append,hs]
  simp
theorem gn(h:j≠k):aQ (eV kvs k d) j=aQ kvs j:=by
 unfold eV
 split
 ·unfold aQ
  rw[List.find?_map]
  have e:((λp:D×D=>decide (p.1=j)) ∘ λp:D×D=>if p.1=k then(p.1,d)else p)=λp=>decide (p.1=j):=by
   funext p
   show decide ((if p.1=k then(p.1,d)else p).1=j)=decide (p.1=j)
   split<;>rfl
  rw[e]
  cases hf:kvs.find? λp=>decide (p.1=j) with
  | none=>rfl
  | some q =>
   have hq:q.1=j:=by
    have:=AE8 hf
    exact of_decide_eq_true this
   show some (if q.1=k then(q.1,d)else q).2=some q.2
   rw[if_neg (by rw[hq];exact h)]
 ·unfold aQ
  rw[List.find?_append]
  cases hf:kvs.find? λp=>decide (p.1=j) with
  | none=>simp[ABO h]
  | some q=>rfl
theorem lW:∀{kvs:List (D×D)}{p:D×D},(kvs.map (·.1)).Nodup->p∈kvs->aQ kvs p.1=some p.2
 | q::kvs,p,nd,h=>by
  rw[AAe,List.nodup_cons]at nd
  unfold aQ
  rw[ACq]
  rcases AAM.mp h with rfl | h
  ·rw[dT_ rfl];rfl
  ·have:q.1≠p.1:=λz=>nd.1 (by rw[z];exact ABo h)
   rw[dF_ this]
   exact lW nd.2 h
theorem br(h:aQ kvs k=some d):(k,d)∈kvs:=by
 unfold aQ at h
 obtain⟨q,hq,rfl⟩:=ABI.mp h
 have e:q.1=k:=by
  have:=AE8 hq
  exact of_decide_eq_true this
 rw[<-e]
 exact List.mem_of_find?_eq_some hq
theorem cx{α:Type}{P:List α->Prop}(h0:P [])(h1:∀l x,P l->P (l++[x]))(l:List α):P l:=by
 rw[<-List.reverse_reverse l]
 induction l.reverse with
 | nil=>exact h0
 | cons x xs ih=>rw[List.reverse_cons];exact h1 _ _ ih
theorem lU(hL:ao M n xs)(ok:∀x∈xs,okD (M++[MO.lst []]) 29 x=true):(okD (M++[MO.lst []]) eqN (.ref n)=true/\okD (M++[MO.lst []]) eqN (.ref M.length)=true)/\eqD (M++[MO.lst []]) eqN (.ref n) (.ref M.length)=xs.isEmpty:=by
 have h1:ao (M++[MO.lst []]) n xs:=hL.more _
 have h2:ao (M++[MO.lst []]) M.length []:=aF
 refine⟨⟨lQ (n:=29) h1 ok,lQ (n:=29) h2 λ_ z=>nomatch z⟩,?_⟩
 exact(rJ (n:=29) h1 h2).trans Bf
theorem lst_ne(h:m≠n)(l:ao M m xs):ao (M.set n x) m xs:=by
 rcases l with l | l | l
 ·exact .inl (by rw[AAb (ABO h)];exact l)
 ·exact .inr (.inl (by rw[AAb (ABO h)];exact l))
 ·exact .inr (.inr (by rw[AAb (ABO h)];exact l))
theorem ax{M:Mem}{m n:Nat}{x y:MO}(h:m≠n)(l:M[m]?=some y):(M.set n x)[m]?=some y:=by rw[AAb (ABO h)];exact l
theorem aC{M:Mem}{m:Nat}{y:MO}(l:M[m]?=some y):m<M.length:=(AA7.mp l).1
theorem Dp(l:ao M m xs):m<M.length:=by
 rcases l with l | l | l<;>exact aC l
theorem ah{B:Mem}{q:Nat}{x a:MO}(h:B[q]?=some x):(B++[a])[q]?=some x:=by
 rw[AAJ (AA7.mp h).1];exact h
theorem fx{B:Mem}{q:Nat}{x a:MO}(h:B[q]?=some x):(B.set q a)[q]?=some a:=AAV (AA7.mp h).1
theorem pJ(p:M <+: B)(l:ao M q xs):ao B q xs:=by
 obtain⟨L,rfl⟩:=p
 exact l.more L
theorem cY{M B:Mem}{q:Nat}{x:MO}(p:M <+: B)(l:M[q]?=some x):B[q]?=some x:=by
 obtain⟨L,rfl⟩:=p
 rw[AAJ (aC l)];exact l
theorem ints_bel(xs:List Int):Bels k (xs.map D.int):=Bels.of λd hd=>by
 obtain⟨x,_,rfl⟩:=AAZ.mp hd
 exact .int x
theorem qU(xs:List Str):Bels k (xs.map D.str):=Bels.of λd hd=>by
 obtain⟨x,_,rfl⟩:=AAZ.mp hd
 exact .str x
theorem rA{a b:Int}(h:0<b):0<=a % b:=Int.emod_nonneg _ (by lia)
theorem rB{a b:Int}(h:0<b):a % b<b:=Int.emod_lt_of_pos _ h
theorem at_mod{α:Type}{xs:List α}{i:Int}(h:1<=xs.length):∃x∈xs,atI xs (i % (xs.length:Int))=some x:=by
 obtain⟨j,hj,ej,_⟩:=fg (xs:=xs) (rA (a:=i) (b:=xs.length) (by lia)) (rB (by lia))
 exact⟨xs[j],AB4 hj,ej⟩
theorem fh(p:M <+: B)(h:M.length<=q):M <+: B.set q x:=by
 obtain⟨L,rfl⟩:=p
 rw[ADt _ _ h]
 exact AAY _ _
noncomputable def cb(p:Str×Int):List D:=(nw 0 p.2.toNat).map λk=>.tup [.str p.1,k]
noncomputable def aw(ps:List (Str×Int)):List D:=ps.flatMap cb
def Few(ps:List (Str×Int)):Prop:=ps.length<=4/\∀p∈ps,0<=p.2/\p.2<=3
theorem fv:(cb p).length=p.2.toNat:=by simp[cb,nw]
theorem kU(h:∀p∈ps,0<=p.2/\p.2<=3):(aw ps).length<=3*ps.length:=by
 induction ps with
 | nil=>simp[aw]
 | cons p ps ih =>
  have:=ih λq hq=>h q (AA9 _ hq)
  have h1:=h p AAG
  have e:(aw (p::ps)).length=p.2.toNat+(aw ps).length:=by
   rw[aw,List.flatMap_cons,AAE,fv];rfl
  rw[e,AAL]
  lia
theorem ma:∀d∈aw ps,Hd d:=λd hd=>by
 unfold aw at hd
 obtain⟨p,_,hp⟩:=List.mem_flatMap.mp hd
 unfold cb nw at hp
 simp only[ABT,AAZ]at hp
 obtain⟨i,_,rfl⟩:=hp
 exact⟨_,_,rfl⟩
theorem sZ:Bels k (aw ps):=Bels.of λd hd=>El (ma d hd)
noncomputable def lE(p:Str×List Str):D:=.tup [.str p.1,.tup (p.2.map .str)]
noncomputable def aH(ps:List (Str×Int))(rs:List (Str×List Str)):D:=.tup [.tup (ps.map cO),.tup (rs.map lE)]
structure HouseF(ps:List (Str×Int))(rs:List (Str×List Str)):Prop where
 len:1<=ps.length/\ps.length<=4
 many:∀p∈ps,1<=p.2/\p.2<=3
 nm:∀p∈ps,p.1.length<=8
 rl:1<=rs.length/\rs.length<=4
 pnd:(ps.map (·.1)).Nodup
 rnd:(rs.map (·.1)).Nodup
 rm:∀r∈rs,r.2.length<=4
def St(d:D):Prop:=∃(t:Int) (z:Str) (k:Int),d=.tup [.int t,.tup [.str z,.int k]]
theorem St.key(h:St d):bL 8 d=true:=by obtain⟨t,z,k,rfl⟩:=h;rfl
theorem St.ok(h:St d):okD M eqN d=true:=by obtain⟨t,z,k,rfl⟩:=h;rfl
theorem St.pl(h:St d):Pln (n+2) d:=by
 obtain⟨t,z,k,rfl⟩:=h
 exact .tup (.cons (.int _) (.cons (.tup (.cons (.str _) (.cons (.int _) .nil))) .nil))
theorem St.eq(ha:St a)(hb:St b):eqD M (n+2) a b=decide (a=b):=by
 obtain⟨t,z,k,rfl⟩:=ha
 obtain⟨t',z',k',rfl⟩:=hb
 have e:eqD M (n+2) (.tup [.int t,.tup [.str z,.int k]]) (.tup [.int t',.tup [.str z',.int k']])=((t==t')&&(((z==z')&&((k==k')&&true))&&true)):=by
  show (eqD M (n+1) (.int t) (.int t')&&((eqD M n (.str z) (.str z')&&(eqD M n (.int k) (.int k')&&true))&&true))=_
  rw[jG,cc,jG]
 rw[e]
 by_cases h:D.tup [.int t,.tup [.str z,.int k]]=.tup [.int t',.tup [.str z',.int k']]
 ·rw[dT_ h]
  simp only[D.tup.injEq,AC8,D.int.injEq,D.str.injEq,and_true]at h
  obtain⟨rfl,rfl,rfl⟩:=h
  simp
 ·rw[dF_ h]
  simp only[D.tup.injEq,AC8,D.int.injEq,D.str.injEq,and_true]at h
  refine ABG.mpr λq=>h ?_
  simpa using q
theorem St.tup(h:St d):∃ks,d=.tup ks:=by obtain⟨t,z,k,rfl⟩:=h;exact⟨_,rfl⟩
def lg(d:D):Prop:=(∃x:Str,d=.tup [.str (AA1 "room"),.str x])\/(∃x:Str,d=.tup [.str (AA1 "person"),.str x])\/∃(t:Int) (z:Str) (k:Int),d=.tup [.str (AA1 "under"),.tup [.int t,.tup [.str z,.int k]]]
theorem lg.tup(h:lg d):∃ks,d=.tup ks:=by
 rcases h with⟨x,rfl⟩|⟨x,rfl⟩|⟨t,z,k,rfl⟩<;>exact⟨_,rfl⟩
theorem lg.key(h:lg d):bL 8 d=true:=by
 rcases h with⟨x,rfl⟩|⟨x,rfl⟩|⟨t,z,k,rfl⟩<;>rfl
theorem lg.ok(h:lg d):okP eqN d=true:=by
 rcases h with⟨x,rfl⟩|⟨x,rfl⟩|⟨t,z,k,rfl⟩<;>rfl
theorem lg.pl(h:lg d):Pln 3 d:=by
 rcases h with⟨x,rfl⟩|⟨x,rfl⟩|⟨t,z,k,rfl⟩<;>rfl
theorem lg.pl4(h:lg d):Pln 4 d:=by
 rcases h with⟨x,rfl⟩|⟨x,rfl⟩|⟨t,z,k,rfl⟩<;>rfl
theorem lg.str(h:lg d):∃z r,d=.tup (.str z::r):=by
 rcases h with⟨x,rfl⟩|⟨x,rfl⟩|⟨t,z,k,rfl⟩<;>exact⟨_,_,rfl⟩
theorem lg.cm(ha:lg a)(hb:lg b):fE M eqN a b=true:=by
 have rp:(AA1 "room" == AA1 "person")=false:=by decide +kernel
 have ru:(AA1 "room" == AA1 "under")=false:=by decide +kernel
 have pr:(AA1 "person" == AA1 "room")=false:=by decide +kernel
 have pu:(AA1 "person" == AA1 "under")=false:=by decide +kernel
 have ur:(AA1 "under" == AA1 "room")=false:=by decide +kernel
 have up:(AA1 "under" == AA1 "person")=false:=by decide +kernel
 have ne:∀{x y:Str}{r r':List D},(x==y)=false->fE M eqN (.tup (.str x::r)) (.tup (.str y::r'))=true:=λ{x y r r'} h=>by
  show (if eqD M 29 (.str x) (.str y)=true then wG (eqD M 29) (fE M 29) r r' else fE M 29 (.str x) (.str y))=true
  rw[cc,h];rfl
 have ss:∀{x y:Str}{z:Str},fE M eqN (.tup [.str z,.str x]) (.tup [.str z,.str y])=true:=λ{x y z}=>by
  show (if eqD M 29 (.str z) (.str z)=true then(if eqD M 29 (.str x) (.str y)=true then true else true)else true)=true
  repeat' split
  all_goals rfl
 rcases ha with⟨x,rfl⟩|⟨x,rfl⟩|⟨t,z,k,rfl⟩<;>rcases hb with⟨y,rfl⟩|⟨y,rfl⟩|⟨t',z',k',rfl⟩
 ·exact ss
 ·exact ne rp
 ·exact ne ru
 ·exact ne pr
 ·exact ss
 ·exact ne pu
 ·exact ne ur
 ·exact ne up
 ·show (if eqD M 29 (.str (AA1 "under")) (.str (AA1 "under"))=true then(if eqD M 29 (.tup [.int t,.tup [.str z,.int k]]) (.tup [.int t',.tup [.str z',.int k']])=true then true else(if eqD M 28 (.int t) (.int t')=true then(if eqD M 28 (.tup [.str z,.int k]) (.tup [.str z',.int k'])=true then true else(if eqD M 27 (.str z) (.str z')=true then(if eqD M 27 (.int k) (.int k')=true then true else true)else true))else true))else true)=true
  repeat' split
  all_goals rfl
theorem BZ(h:∀x∈xs,lg x)(l:xs.length<64):SrtG M xs :=
 SrtOk.g ⟨l,λx hx=>(h x hx).ok,λx hx y hy=>(h x hx).cm (h y hy),.inr (.inr (.inl λx hx=>(h x hx).str))⟩
def VecK(vs:List D):Prop:=∃hs:List (D×Int),vs=vecD hs/\(∀p∈hs,Hd p.1)/\hs.length<=12
structure ActK(rs:List (Str×List Str))(x:Str)(ds:List D):Prop where
 say:x=AA1 "say"->∃(r:Str) (u:D) (s:Str),ds=[.str r,u,.str s]/\r∈rs.map (·.1)/\(u=.non\/St u)
 change:x=AA1 "change"->∃(m:D) (s:Str),ds=[m,.str s]/\St m
 back:x=AA1 "back"->∃m:D,ds=[m]/\St m
 like:x=AA1 "like"->∃(m:D) (s:Str) (b:Bool),ds=[m,.str s,.bl b]/\St m
 read:x=AA1 "read"->∃(r:Str) (vs:List D),ds=[.str r,.tup vs]/\VecK vs
 seen:x=AA1 "seen"->∃m:D,ds=[m]/\St m
 rung:x=AA1 "rung"->∃m:D,ds=[m]/\St m
 hush:x=AA1 "hush"->∃(w:D) (b:Bool),ds=[w,.bl b]/\lg w
 lenS:x=AA1 "say"->∀(r u:D) (s:Str),ds=[r,u,.str s]->s.length<=100
 lenC:x=AA1 "change"->∀(m:D) (s:Str),ds=[m,.str s]->s.length<=100
section
variable{rs:List (Str×List Str)}
theorem bd{a b:Str}{P:Prop}(h:(a==b)=false)(e:a=b):P:=absurd e (beq_eq_false_iff_ne.mp h)
theorem ActK.mkSay(hr:r∈rs.map (·.1))(hu:u=.non\/St u)(l:s.length<=100):ActK rs (AA1 "say") [.str r,u,.str s] :=
 ⟨λ_=>⟨r,u,s,rfl,hr,hu⟩,bd (by decide +kernel),bd (by decide +kernel),bd (by decide +kernel),bd (by decide +kernel),bd (by decide +kernel),bd (by decide +kernel),bd (by decide +kernel),λ_ _ _ _ e=>by cases e;exact l,bd (by decide +kernel)⟩
theorem ActK.mkChange(h:St m)(l:s.length<=100):ActK rs (AA1 "change") [m,.str s] :=
 ⟨bd (by decide +kernel),λ_=>⟨m,s,rfl,h⟩,bd (by decide +kernel),bd (by decide +kernel),bd (by decide +kernel),bd (by decide +kernel),bd (by decide +kernel),bd (by decide +kernel),bd (by decide +kernel),λ_ _ _ e=>by cases e;exact l⟩
theorem ActK.mkBack(h:St m):ActK rs (AA1 "back") [m] :=
 ⟨bd (by decide +kernel),bd (by decide +kernel),λ_=>⟨m,rfl,h⟩,bd (by decide +kernel),bd (by decide +kernel),bd (by decide +kernel),bd (by decide +kernel),bd (by decide +kernel),bd (by decide +kernel),bd (by decide +kernel)⟩
theorem ActK.mkLike(h:St m):ActK rs (AA1 "like") [m,.str s,.bl b] :=
 ⟨bd (by decide +kernel),bd (by decide +kernel),bd (by decide +kernel),λ_=>⟨m,s,b,rfl,h⟩,bd (by decide +kernel),bd (by decide +kernel),bd (by decide +kernel),bd (by decide +kernel),bd (by decide +kernel),bd (by decide +kernel)⟩
theorem ActK.mkRead(h:VecK vs):ActK rs (AA1 "read") [.str r,.tup vs] :=
 ⟨bd (by decide +kernel),bd (by decide +kernel),bd (by decide +kernel),bd (by decide +kernel),λ_=>⟨r,vs,rfl,h⟩,bd (by decide +kernel),bd (by decide +kernel),bd (by decide +kernel),bd (by decide +kernel),bd (by decide +kernel)⟩
theorem ActK.mkSeen(h:St m):ActK rs (AA1 "seen") [m] :=
 ⟨bd (by decide +kernel),bd (by decide +kernel),bd (by decide +kernel),bd (by decide +kernel),bd (by decide +kernel),λ_=>⟨m,rfl,h⟩,bd (by decide +kernel),bd (by decide +kernel),bd (by decide +kernel),bd (by decide +kernel)⟩
theorem ActK.mkRung(h:St m):ActK rs (AA1 "rung") [m] :=
 ⟨bd (by decide +kernel),bd (by decide +kernel),bd (by decide +kernel),bd (by decide +kernel),bd (by decide +kernel),bd (by decide +kernel),λ_=>⟨m,rfl,h⟩,bd (by decide +kernel),bd (by decide +kernel),bd (by decide +kernel)⟩
theorem ActK.mkHush{w:D}{b:Bool}(h:lg w):ActK rs (AA1 "hush") [w,.bl b] :=
 ⟨bd (by decide +kernel),bd (by decide +kernel),bd (by decide +kernel),bd (by decide +kernel),bd (by decide +kernel),bd (by decide +kernel),bd (by decide +kernel),λ_=>⟨w,b,rfl,h⟩,bd (by decide +kernel),bd (by decide +kernel)⟩
end
def aK(ps:List (Str×Int))(rs:List (Str×List Str))(d:D):Prop:=∃(t:Int) (z:Str) (k num:Int) (x:Str) (ds:List D),d=.tup [.int t,.tup [.str z,.int k],.int num,.tup (.str x::ds)]/\1<=t/\D.tup [.str z,.int k]∈aw ps/\kb 4 ds/\ActK rs x ds
section
variable{ps:List (Str×Int)}{rs:List (Str×List Str)}
theorem aK.pl(h:aK ps rs d):Pln 6 d:=by
 obtain⟨t,z,k,num,x,ds,rfl,_,_,hp,_⟩:=h
 exact .tup (.cons (.int _) (.cons (yi ⟨_,_,rfl⟩) (.cons (.int _) (.cons (.tup (.cons (.str _) hp)) .nil))))
theorem aK.bels(h:∀d∈ds,aK ps rs d):Bels k ds:=Bels.of λd hd=>cC 6 d (h d hd).pl
end
noncomputable def bK:D->Str
 | .tup [_,_,_,.tup (.str x::_)]=>x
 | _=>AA1 ""
noncomputable def nG:D->Str
 | .tup (_::.tup (.str z::_)::_)=>z
 | _=>AA1 ""
noncomputable def stD:D->D
 | .tup (t::h::_)=>.tup [t,h]
 | _=>.non
noncomputable def jR:D->Str
 | .tup [_,_,_,.tup (_::.str r::_)]=>r
 | _=>AA1 ""
noncomputable def mG:D->D
 | .tup [_,_,_,.tup (_::_::u::_)]=>u
 | _=>.non
noncomputable def rh:D->D
 | .tup [_,_,_,.tup (_::m::_)]=>m
 | _=>.non
noncomputable def sayO:D->D
 | .tup [_,_,_,.tup (_::_::_::s::_)]=>s
 | _=>.non
noncomputable def numO:D->D
 | .tup [_,_,n,_]=>n
 | _=>.non
noncomputable def sortO:D->Str
 | .tup [_,_,_,.tup (_::_::.str s::_)]=>s
 | _=>AA1 ""
noncomputable def onO:D->Bool
 | .tup [_,_,_,.tup (_::_::_::.bl b::_)]=>b
 | _=>false
noncomputable def tN(rs:List (Str×List Str))(r:Str):List Str:=((rs.find? λp=>decide (p.1=r)).map (·.2)).getD []
noncomputable def kinds(log:List D)(k:Str):List D:=log.filter λd=>decide (bK d=k)
section
variable{ps:List (Str×Int)}{rs:List (Str×List Str)}
theorem kN(h:aK ps rs d)(e:bK d=AA1 "say"):∃(t:Int) (z:Str) (k num:Int) (r:Str) (u:D) (s:Str),d=.tup [.int t,.tup [.str z,.int k],.int num,.tup [.str (AA1 "say"),.str r,u,.str s]]/\1<=t/\D.tup [.str z,.int k]∈aw ps/\r∈rs.map (·.1)/\(u=.non\/St u):=by
 obtain⟨t,z,k,num,x,ds,rfl,h1,h2,_,ha⟩:=h
 obtain rfl:x=AA1 "say":=e
 obtain⟨r,u,s,rfl,hr,hu⟩:=ha.say rfl
 exact⟨t,z,k,num,r,u,s,rfl,h1,h2,hr,hu⟩
theorem jJ(h:aK ps rs d)(e:bK d=AA1 "change"):∃(t:Int) (z:Str) (k num:Int) (m:D) (s:Str),d=.tup [.int t,.tup [.str z,.int k],.int num,.tup [.str (AA1 "change"),m,.str s]]/\St m:=by
 obtain⟨t,z,k,num,x,ds,rfl,h1,h2,_,ha⟩:=h
 obtain rfl:x=AA1 "change":=e
 obtain⟨m,s,rfl,hm⟩:=ha.change rfl
 exact⟨t,z,k,num,m,s,rfl,hm⟩
theorem wR(h:aK ps rs d)(e:bK d=AA1 "back"):∃(t:Int) (z:Str) (k num:Int) (m:D),d=.tup [.int t,.tup [.str z,.int k],.int num,.tup [.str (AA1 "back"),m]]/\St m:=by
 obtain⟨t,z,k,num,x,ds,rfl,h1,h2,_,ha⟩:=h
 obtain rfl:x=AA1 "back":=e
 obtain⟨m,rfl,hm⟩:=ha.back rfl
 exact⟨t,z,k,num,m,rfl,hm⟩
theorem like_of(h:aK ps rs d)(e:bK d=AA1 "like"):∃(t:Int) (z:Str) (k num:Int) (m:D) (s:Str) (b:Bool),d=.tup [.int t,.tup [.str z,.int k],.int num,.tup [.str (AA1 "like"),m,.str s,.bl b]]/\St m:=by
 obtain⟨t,z,k,num,x,ds,rfl,h1,h2,_,ha⟩:=h
 obtain rfl:x=AA1 "like":=e
 obtain⟨m,s,b,rfl,hm⟩:=ha.like rfl
 exact⟨t,z,k,num,m,s,b,rfl,hm⟩
end
section
variable{ps:List (Str×Int)}{rs:List (Str×List Str)}
theorem read_of(h:aK ps rs d)(e:bK d=AA1 "read"):∃(t:Int) (z:Str) (k num:Int) (r:Str) (hs:List (D×Int)),d=.tup [.int t,.tup [.str z,.int k],.int num,.tup [.str (AA1 "read"),.str r,.tup (vecD hs)]]/\(∀p∈hs,Hd p.1)/\hs.length<=12:=by
 obtain⟨t,z,k,num,x,ds,rfl,h1,h2,_,ha⟩:=h
 obtain rfl:x=AA1 "read":=e
 obtain⟨r,vs,rfl,hs,rfl,q1,q2⟩:=ha.read rfl
 exact⟨t,z,k,num,r,hs,rfl,q1,q2⟩
theorem seen_of(h:aK ps rs d)(e:bK d=AA1 "seen"\/bK d=AA1 "rung"):∃(t:Int) (z:Str) (k num:Int) (x:Str) (m:D),d=.tup [.int t,.tup [.str z,.int k],.int num,.tup [.str x,m]]/\St m:=by
 obtain⟨t,z,k,num,x,ds,rfl,h1,h2,_,ha⟩:=h
 obtain⟨m,rfl,hm⟩:∃m:D,ds=[m]/\St m:=e.elim (λe=>ha.seen e) λe=>ha.rung e
 exact⟨t,z,k,num,x,m,rfl,hm⟩
theorem hush_of(h:aK ps rs d)(e:bK d=AA1 "hush"):∃(t:Int) (z:Str) (k num:Int) (w:D) (b:Bool),d=.tup [.int t,.tup [.str z,.int k],.int num,.tup [.str (AA1 "hush"),w,.bl b]]/\lg w:=by
 obtain⟨t,z,k,num,x,ds,rfl,h1,h2,_,ha⟩:=h
 obtain rfl:x=AA1 "hush":=e
 obtain⟨w,b,rfl,hw⟩:=ha.hush rfl
 exact⟨t,z,k,num,w,b,rfl,hw⟩
theorem say_len(h:aK ps rs d)(e:bK d=AA1 "say"):∃s:Str,sayO d=.str s/\s.length<=100:=by
 obtain⟨t,z,k,num,x,ds,rfl,h1,h2,_,ha⟩:=h
 obtain rfl:x=AA1 "say":=e
 obtain⟨r,u,s,rfl,hr,hu⟩:=ha.say rfl
 exact⟨s,rfl,ha.lenS rfl _ _ _ rfl⟩
theorem BP(h:aK ps rs d)(e:bK d=AA1 "change"):∃s:Str,mG d=.str s/\s.length<=100:=by
 obtain⟨t,z,k,num,x,ds,rfl,h1,h2,_,ha⟩:=h
 obtain rfl:x=AA1 "change":=e
 obtain⟨m,s,rfl,hm⟩:=ha.change rfl
 exact⟨s,rfl,ha.lenC rfl _ _ rfl⟩
end
local macro_rules | `(tactic| walk_at "ifs")=>`(tactic| simp only[nC,AAA,↓reduceIte,AC3,Bool.not_false])
noncomputable def ia(rs:List (Str×List Str))(kvs:List (D×D))(d:D):Bool:=decide (nG d∈tN rs (jR d))&&(decide (mG d=.non)||match aQ kvs (mG d) with
 | some e=>decide (jR e=jR d)
 | none=>false)
noncomputable def uH(rs:List (Str×List Str))(kvs:List (D×D))(d:D):List (D×D):=if ia rs kvs d=true then eV kvs (stD d) d else kvs
noncomputable def aR(rs:List (Str×List Str))(l:List D):List (D×D):=l.foldl (uH rs) []
theorem fB:aR rs (l++[d])=uH rs (aR rs l) d:=by
 unfold aR
 rw[List.foldl_append];rfl
noncomputable def cy(rs:List (Str×List Str))(log:List D):List (D×D):=aR rs (kinds log (AA1 "say"))
theorem sT:kinds (log++[d]) k=kinds log k++if bK d=k then[d]else[]:=by
 unfold kinds
 rw[List.filter_append]
 congr 1
 by_cases h:bK d=k
 ·rw[ACH,dT_ h,if_pos rfl,if_pos h];rfl
 ·rw[ACH,dF_ h,if_neg (by decide),if_neg h];rfl
theorem bi(h:d∈kinds log k):d∈log/\bK d=k:=⟨(ABD.mp h).1,of_decide_eq_true (ABD.mp h).2⟩
theorem bZ:(kinds log k).length<=log.length:=ABx _ _
structure TabK(l:List D)(kvs:List (D×D)):Prop where
 nd:(kvs.map (·.1)).Nodup
 en:∀p∈kvs,p.1=stD p.2/\p.2∈l
 len:kvs.length<=l.length
theorem fV(h:p∈eV kvs k d):p=(k,d)\/p∈kvs:=by
 unfold eV at h
 split at h
 ·obtain⟨q,hq,rfl⟩:=AAZ.mp h
  split
  ·rename_i e;rw[e];exact .inl rfl
  ·exact .inr hq
 ·rcases AAk.mp h with h | h
  ·exact .inr h
  ·exact .inl (by simpa using h)
theorem lH:(eV kvs k d).length<=kvs.length+1:=by
 unfold eV
 split
 ·rw[AA6];lia
 ·simp
theorem gX(l:List D):TabK l (aR rs l):=by
 refine cx (P:=λl=>TabK l (aR rs l)) ⟨.nil,(λ_ z=>nomatch z),AA8 _⟩ (λl d ih=>?_) l
 rw[fB]
 unfold uH
 have hs:∀p∈aR rs l,p.1=stD p.2/\p.2∈l++[d]:=λp hp=>⟨(ih.en p hp).1,AAr _ (ih.en p hp).2⟩
 have hl:=ih.len
 split
 ·refine⟨pj ih.nd,λp hp=>?_,?_⟩
  ·rcases fV hp with rfl | hp
   ·exact⟨rfl,by simp⟩
   ·exact hs p hp
  ·have:=lH (kvs:=aR rs l) (k:=stD d) (d:=d)
   rw[AAE,AAg];lia
 ·exact⟨ih.nd,hs,by rw[AAE,AAg];lia⟩
theorem bw:TabK (kinds log (AA1 "say")) (cy rs log):=gX _
theorem zg(t:TabK l kvs)(h:aQ kvs k=some e):k=stD e/\e∈l:=t.en _ (br h)
noncomputable def byW(kvs:List (D×D))(d:D):Bool:=match aQ kvs (rh d) with
 | some e=>decide (nG d=nG e)
 | none=>false
def NmK(d:D):Prop:=∃(a:D) (z:Str) (r1 r2:List D),d=.tup (a::.tup (.str z::r1)::r2)
section
variable{ps:List (Str×Int)}{rs:List (Str×List Str)}
theorem aK.nm(h:aK ps rs d):NmK d:=by
 obtain⟨t,z,k,num,x,ds,rfl,_⟩:=h
 exact⟨_,_,_,_,rfl⟩
theorem aK.st(h:aK ps rs d):St (stD d):=by
 obtain⟨t,z,k,num,x,ds,rfl,_⟩:=h
 exact⟨_,_,_,rfl⟩
theorem St.cm(ha:St a)(hb:St b):fE M eqN a b=true:=by
 obtain⟨t,z,k,rfl⟩:=ha
 obtain⟨t',z',k',rfl⟩:=hb
 show (if eqD M 29 (.int t) (.int t')=true then(if eqD M 29 (.tup [.str z,.int k]) (.tup [.str z',.int k'])=true then true else(if eqD M 28 (.str z) (.str z')=true then(if eqD M 28 (.int k) (.int k')=true then true else true)else true))else true)=true
 repeat' split
 all_goals rfl
theorem uE(h:∀x∈xs,St x)(l:xs.length<64):SrtOk M xs:=by
 refine⟨l,λx hx=>?_,λx hx y hy=>(h x hx).cm (h y hy),.inr (.inr (.inr (.inl λx hx=>?_)))⟩
 ·obtain⟨t,z,k,rfl⟩:=h x hx;rfl
 ·obtain⟨t,z,k,rfl⟩:=h x hx;exact⟨_,_,rfl⟩
end
def gF(kvs:List (D×D))(log:List D)(k:D):Prop:=∃d∈kinds log (AA1 "back"),byW kvs d=true/\rh d=k
theorem qY(h:k∉kvs.map (·.1)):eV kvs k d=kvs++[(k,d)]:=by
 unfold eV
 rw[if_neg]
 intro z
 obtain⟨e,he⟩:=ABy.mp z
 exact h (ABo (f:=(·.1)) (br he))
theorem wy(ps:List (D×D))(h:(ps.map (·.1)).Nodup):dictOf ps=ps:=by
 revert h
 refine cx (P:=λps=>(ps.map (·.1)).Nodup->dictOf ps=ps) (λ_=>rfl) (λps p ih h=>?_) ps
 rw[AB8]at h
 have h':=ADn.mp h
 rw[cf,ih h'.1,qY]
 intro z
 exact h'.2.2 _ z _ (by simp) rfl
theorem qa{M:Mem}{x:Str}{l:List Str}:inD M (.str x) (l.map .str)=decide (x∈l):=by
 unfold inD
 rw[List.any_map]
 by_cases h:x∈l
 ·rw[dT_ h]
  exact ADH.mpr ⟨x,h,by show eqD M eqN (.str x) (.str x)=true;rw[cc];exact beq_self_eq_true x⟩
 ·rw[dF_ h]
  refine ABG.mpr λz=>?_
  obtain⟨y,hy,e⟩:=ADH.mp z
  have e':eqD M eqN (.str y) (.str x)=true:=e
  rw[cc]at e'
  exact h (eq_of_beq e' ▸ hy)
theorem uF{M:Mem}{l:List Str}:(l.map D.str).all (okD M eqN)=true:=AAU.mpr λx hx=>by
 obtain⟨y,_,rfl⟩:=AAZ.mp hx
 exact aZ
noncomputable def am(rs:List (Str×List Str))(log:List D):List (D×D):=(cy rs log).filter λp=>@decide (¬gF (cy rs log) log p.1) (ABP _)
theorem fR:p∈am rs log↔p∈cy rs log/\¬gF (cy rs log) log p.1:=by
 unfold am
 rw[List.mem_filter]
 exact and_congr Iff.rfl (@decide_eq_true_iff _ (ABP _))
theorem qW:((am rs log).map (·.1)).Nodup:=(List.filter_sublist.map _).nodup bw.nd
theorem Cq(h:aQ (cy rs log) k=some e)(hb:¬gF (cy rs log) log k):aQ (am rs log) k=some e:=lW (p:=(k,e)) qW (fR.mpr ⟨br h,hb⟩)
noncomputable def av(kvs:List (D×D))(log:List D):List (D×D):=dictOf (((kinds log (AA1 "change")).filter (byW kvs)).map λd=>(rh d,mG d))
noncomputable def lV(ch:List (D×D))(d:D):D:=.tup [stD d,.str (jR d),mG d,.str (nG d),(aQ ch (stD d)).getD (sayO d),.bl (aQ ch (stD d)).isSome]
noncomputable def ba(rs:List (Str×List Str))(log:List D):List D:=(am rs log).map λp=>lV (av (am rs log) log) p.2
structure BackL(rs:List (Str×List Str))(log:List D)(ys:List D):Prop where
 st:∀x∈ys,St x
 mem:∀x,x∈ys↔gF (cy rs log) log x
 nd:ys.Nodup
 up:ys.Pairwise λa b=>¬enc eqN b<enc eqN a
noncomputable def zk:D->D
 | .tup [_,_,_,a]=>a
 | _=>.non
noncomputable def iY(l:List D):List (D×D):=l.foldl (λkvs d=>eV kvs (stD d) (zk d)) []
noncomputable def xq(log:List D):List (D×D):=iY (kinds log (AA1 "say"))
theorem dZ:iY (l++[d])=eV (iY l) (stD d) (zk d):=by
 unfold iY
 rw[List.foldl_append];rfl
theorem BJ:xq (log++[d])=if bK d=AA1 "say" then eV (xq log) (stD d) (zk d)else xq log:=by
 unfold xq
 rw[sT]
 split
 ·rw[dZ]
 ·rw[ABE]
theorem said_en(l:List D):∀p∈iY l,∃d∈l,p=(stD d,zk d):=by
 refine cx (P:=λl=>∀p∈iY l,∃d∈l,p=(stD d,zk d)) (λ_ z=>nomatch z) (λl d ih p hp=>?_) l
 rw[dZ]at hp
 rcases fV hp with rfl | hp
 ·exact⟨d,by simp,rfl⟩
 ·obtain⟨e,he,r⟩:=ih p hp
  exact⟨e,AAr _ he,r⟩
theorem said_len(l:List D):(iY l).length<=l.length:=by
 refine cx (P:=λl=>(iY l).length<=l.length) (AA8 _) (λl d ih=>?_) l
 rw[dZ,AAE,AAg]
 have:=lH (kvs:=iY l) (k:=stD d) (d:=zk d)
 lia
def Ris(l:List D):Prop:=l.Pairwise λa b=>enc eqN (stD a)<enc eqN (stD b)
theorem Ris.one(h:Ris l):∀a∈l,∀b∈l,stD a=stD b->a=b:=by
 induction l with
 | nil=>intro a ha;cases ha
 | cons x l ih =>
  obtain⟨h1,h2⟩:=List.pairwise_cons.mp h
  intro a ha b hb e
  rcases AAM.mp ha with ea | ha'<;>rcases AAM.mp hb with eb | hb'
  ·rw[ea,eb]
  ·have:=h1 b hb';rw[<-ea,e]at this;exact absurd this (ABH _)
  ·have:=h1 a ha';rw[<-eb,e]at this;exact absurd this (ABH _)
  ·exact ih h2 a ha' b hb' e
theorem said_has(h:Ris l):∀d∈l,aQ (iY l) (stD d)=some (zk d):=by
 revert h
 refine cx (P:=λl=>Ris l->∀d∈l,aQ (iY l) (stD d)=some (zk d)) (λ_ _ z=>nomatch z) (λl x ih h d hd=>?_) l
 obtain⟨h1,_,h3⟩:=List.pairwise_append.mp h
 rw[dZ]
 rcases AAk.mp hd with hd | hd
 ·have:=h3 d hd x (by simp)
  rw[gn (λe=>by rw[e]at this;exact ABH _ this)]
  exact ih h1 d hd
 ·rw[show d=x by simpa using hd,gk]
inductive Stn(rs:List (Str×List Str))(l:List D):D->Prop
 | top {d:D} (h:d∈l) (m:nG d∈tN rs (jR d)) (u:mG d=.non):Stn rs l d
 | sub {d e:D} (h:d∈l) (m:nG d∈tN rs (jR d)) (s:Stn rs l e) (u:mG d=stD e) (o:enc eqN (stD e)<enc eqN (stD d)) (r:jR e=jR d):Stn rs l d
theorem Stn.mem(h:Stn rs l d):d∈l:=by cases h<;>assumption
theorem Stn.nm(h:Stn rs l d):nG d∈tN rs (jR d):=by cases h<;>assumption
theorem Stn.more(h:Stn rs l d):Stn rs (l++l') d:=by
 induction h with
 | top h m u=>exact .top (AAr _ h) m u
 | sub h m _ u o r ih=>exact .sub (AAr _ h) m ih u o r
theorem Stn.less(hl:∀y∈l,enc eqN (stD y)<enc eqN (stD x))(h:Stn rs (l++[x]) d):d∈l->Stn rs l d:=by
 induction h with
 | top h m u=>exact λhd=>.top hd m u
 | sub h m s u o r ih =>
  intro hd
  rename_i d e
  rcases AAk.mp s.mem with he | he
  ·exact .sub hd m (ih he) u o r
  ·rw[show e=x by simpa using he]at o
   exact absurd (List.lt_trans o (hl d hd)) (ABH _)
theorem EW(hu:∀d∈l,mG d=.non\/St (mG d))(hS:∀d∈l,St (stD d))(h:Ris l):∀d∈l,aQ (aR rs l) (stD d)=some d↔Stn rs l d:=by
 revert h hu hS
 refine cx (P:=λl=>(∀d∈l,mG d=.non\/St (mG d))->(∀d∈l,St (stD d))->Ris l->∀d∈l,aQ (aR rs l) (stD d)=some d↔Stn rs l d) (λ_ _ _ _ z=>nomatch z) (λl x ih hu hS h d hd=>?_) l
 obtain⟨h1,_,h3⟩:=List.pairwise_append.mp h
 have lx:∀y∈l,enc eqN (stD y)<enc eqN (stD x):=λy hy=>h3 y hy x (by simp)
 have ih':=ih (λd hd=>hu d (AAr _ hd)) (λd hd=>hS d (AAr _ hd)) h1
 have tb:=gX (rs:=rs) l
 have nx:aQ (aR rs l) (stD x)=none:=by
  cases e:aQ (aR rs l) (stD x) with
  | none=>rfl
  | some e' =>
   obtain⟨e1,e2⟩:=zg tb e
   have:=lx e' e2
   rw[<-e1]at this
   exact absurd this (ABH _)
 rw[fB]
 unfold uH
 rcases AAk.mp hd with hd | hd
 ·have ne:stD d≠stD x:=λe=>by have:=lx d hd;rw[e]at this;exact ABH _ this
  have:aQ (if ia rs (aR rs l) x=true then eV (aR rs l) (stD x) x else aR rs l) (stD d)=aQ (aR rs l) (stD d):=by
   split
   ·exact gn ne
   ·rfl
  rw[this,ih' d hd]
  exact⟨Stn.more,λz=>z.less lx hd⟩
 ·obtain rfl:d=x:=by simpa using hd
  have sb:aQ (if ia rs (aR rs l) d=true then eV (aR rs l) (stD d) d else aR rs l) (stD d)=some d↔ia rs (aR rs l) d=true:=by
   split
   ·rename_i e;rw[gk];exact⟨λ_=>e,λ_=>rfl⟩
   ·rename_i e;rw[nx];exact⟨λz=>(by cases z),λz=>absurd z e⟩
  rw[sb]
  unfold ia
  rw[AAS,AE3,decide_eq_true_eq,decide_eq_true_eq]
  constructor
  ·rintro⟨m,u | u⟩
   ·exact .top (by simp) m u
   ·cases e:aQ (aR rs l) (mG d) with
    | none=>rw[e]at u;cases u
    | some e' =>
     rw[e]at u
     obtain⟨e1,e2⟩:=zg tb e
     rw[e1]at e
     exact .sub (by simp) m ((ih' e' e2).mp e).more e1 (lx e' e2) (of_decide_eq_true u)
  ·intro s
   cases s with
   | top _ m u=>exact⟨m,.inl u⟩
   | @sub _ e _ m s u o r =>
    have he:e∈l:=by
     rcases AAk.mp s.mem with he | he
     ·exact he
     ·rw[show e=d by simpa using he]at o
      exact absurd o (ABH _)
    refine⟨m,.inr ?_⟩
    rw[u,(ih' e he).mpr (s.less lx he)]
    exact dT_ r
theorem Be{α:Type}{p q:α->Bool}{x:α}(hpq:∀y,p y=true->q y=true)(hq:q x=true)(hp:p x=false):∀{l:List α},x∈l->(l.filter p).length<(l.filter q).length
 | y::l,h=>by
  have mono:∀l:List α,(l.filter p).length<=(l.filter q).length:=λl=>by
   induction l with
   | nil=>exact AA8 _
   | cons z l ih =>
    rw[ACH,ACH]
    cases e:p z with
    | true=>rw[hpq z e,if_pos rfl,if_pos rfl,AAL,AAL];lia
    | false =>
     rw[if_neg (by decide)]
     split
     ·rw[AAL];lia
     ·exact ih
  rw[ACH,ACH]
  rcases AAM.mp h with rfl | h
  ·rw[hp,hq,if_neg (by decide),if_pos rfl,AAL]
   have:=mono l
   lia
  ·have ih:=Be hpq hq hp h
   cases e:p y with
   | true=>rw[hpq y e,if_pos rfl,if_pos rfl,AAL,AAL];lia
   | false =>
    rw[if_neg (by decide)]
    split
    ·rw[AAL];lia
    ·exact ih
def HdP(M:Mem)(q:Nat):Prop:=∃n:Int,M[q]?=some (.lst [.int n])
def Hl(M B:Mem)(q:Nat):Prop:=∃(n:Int) (L:Mem),B=M.set q (.lst [.int n])++L
section
variable{M B:Mem}{q m i:Nat}{n:Int}{x:MO}
theorem xm(h:M[q]?=some x):M.set q x=M:=by
 refine ADi λj=>?_
 by_cases e:q=j
 ·subst e;rw[AAV (aC h),h]
 ·rw[AAb e]
theorem HdP.lt(h:HdP M q):q<M.length:=by obtain⟨n,h⟩:=h;exact aC h
theorem HdP.start(h:HdP M q):Hl M M q:=by
 obtain⟨n,h⟩:=h
 exact⟨n,[],by rw[ABE,xm h]⟩
theorem Hl.len(h:Hl M B q):M.length<=B.length:=by
 obtain⟨n,L,rfl⟩:=h
 rw[AAE,AAu];lia
theorem Hl.hd(hq:q<M.length)(h:Hl M B q):HdP B q:=by
 obtain⟨n,L,rfl⟩:=h
 exact⟨n,by rw[AAJ (by rw[AAu];exact hq),AAV hq]⟩
theorem Hl.set(hq:q<M.length)(h:Hl M B q):Hl M (B.set q (.lst [.int n])) q:=by
 obtain⟨n',L,rfl⟩:=h
 exact⟨n,L,by rw[List.set_append_left _ _ (by rw[AAu];exact hq),List.set_set]⟩
theorem Hl.more(h:Hl M B q):Hl M (B++L) q:=by
 obtain⟨n',L',rfl⟩:=h
 exact⟨n',L'++L,by rw[AAw]⟩
theorem Hl.setO(h:Hl M B q)(hm:M.length<=m):Hl M (B.set m x) q:=by
 obtain⟨n',L,rfl⟩:=h
 exact⟨n',L.set (m-M.length) x,by rw[ADt _ _ (by rw[AAu];exact hm),AAu]⟩
theorem Hl.old(h:Hl M B q)(hi:i≠q)(e:M[i]?=some x):B[i]?=some x:=by
 obtain⟨n',L,rfl⟩:=h
 rw[AAJ (by rw[AAu];exact aC e),AAb (ABO hi)]
 exact e
theorem Hl.oldL(h:Hl M B q)(hi:i≠q)(e:ao M i xs):ao B i xs:=by
 rcases e with e | e | e
 ·exact .inl (h.old hi e)
 ·exact .inr (.inl (h.old hi e))
 ·exact .inr (.inr (h.old hi e))
theorem Hl.fin(h:Hl M B q)(b:Bel M.length d)(k:∀n:Int,R d (M.set q (.lst [.int n]))):aX M R d B:=by
 obtain⟨n',L,rfl⟩:=h
 exact aX.chg (Chg.set .refl (.cons (.int _) .nil)) (k n') b (AAY _ _)
theorem Hl.finL(h:Hl M B q)(hm:M.length<=m)(e:B[m]?=some (.lst xs))(b:Bels M.length xs)(k:∀n:Int,R (.ref M.length) (M.set q (.lst [.int n])++[.lst xs])):aX M R (.ref m) B:=by
 obtain⟨n',L,rfl⟩:=h
 exact aX.chgL (Chg.set .refl (.cons (.int _) .nil)) (k n') hm e (AAY _ _) b
end
theorem ye(u:Option Int)(n:Nat):ACu none u 1 n=ACu (some ((0:Nat):Int)) u 1 n:=by
 unfold ACu
 simp only[show (1:Int) > 0 by decide,if_true]
 congr 1
theorem xk(x:Str)(b:Nat):(AE2 x none (some (b:Int))).cps.toList=x.cps.toList.take b:=by
 have e:=uK x (a:=0) (b:=b) (AAW _)
 rw[fQ]at e ⊢
 rw[ye]
 rw[e];simp
theorem xj(x:Str)(b:Nat):(AE2 x none (some (b:Int))).length<=b:=by
 rw[jA,xk,AAx];lia
theorem xh{M:Mem}{l:List Str}(h:l.length<64):SrtOk M (l.map .str) :=
 ⟨by rw[AA6];exact h,λx hx=>by obtain⟨y,_,rfl⟩:=AAZ.mp hx;rfl,λx hx y hy=>by
  obtain⟨a,_,rfl⟩:=AAZ.mp hx
  obtain⟨b,_,rfl⟩:=AAZ.mp hy
  rfl,.inl λx hx=>by obtain⟨y,_,rfl⟩:=AAZ.mp hx;exact⟨y,rfl⟩⟩
theorem nB{ys:List D}{xs:List Str}(h:ys.Perm (xs.map .str)):∃zs:List Str,ys=zs.map .str/\zs.Perm xs:=xy D.str unS (λ_=>rfl) h
noncomputable def mE:D->Bool
 | .int _=>true
 | _=>false
def cq:DSp:=λds M R=>∃d,ds=[d]/\tyD M d∈oP/\R (.bl (mE d)) M
theorem nR:dj cq gL:=by rintro ds M R ⟨d,rfl,_⟩;rfl
def kC:DTS:=bu (gW (dCB yP (aa (ac 0) (aa (dC (.ty "int")) af))) (yD (dCB yP (aa (ac 0) (aa (dC (.ty "bool")) af)))))
theorem oS:WpT cq 1 kC:=by
 rintro ds M R ⟨d,rfl,ht,h⟩
 unfold kC
 cases d with
 | ref n =>
  have e:=mH ht
  simp only[tyD]at e
  walk_at "dl"
  simp only[e]
  exact⟨by decide,bF (aX.now h)⟩
 | ty n=>simp only[tyD]at ht;exact absurd ht (by decide)
 | int i=>walk_at "dl";exact⟨by decide,bQ ⟨by decide,aX.now h⟩⟩
 | bl i=>walk_at "dl";exact⟨by decide,bQ ⟨by decide,aX.now h⟩⟩
 | _=>walk_at "dl";exact⟨by decide,bF (aX.now h)⟩
theorem jq(T:Tops P w K mg base):Cal P w K mg base 1 "is_whole" gL cq :=
 Cal.byD (N:=["thing"]) T.b T.f_is_whole (by walk_at "sc") nR (by walk_at "dv") oS
noncomputable def iF(k:Int):D->Bool
 | .int i=>decide (k<=i)
 | _=>false
def bp:DSp:=λds M R=>∃(k:Int) (d:D),ds=[.int k,d]/\tyD M d∈oP/\R (.bl (iF k d)) M
theorem gP:dj bp bX:=by rintro ds M R ⟨k,d,rfl,_⟩;rfl
def dA:DTS:=bu (gW (dCB cq (aa (ac 1) af)) (dOp qGe (ac 1) (ac 0)))
theorem il:WpT bp 2 dA:=by
 rintro ds M R ⟨k,d,rfl,ht,h⟩
 unfold dA
 walk_at "dl"
 refine⟨d,rfl,ht,?_⟩
 cases d with
 | int i=>simp only[mE,↓reduceIte];exact aX.now h
 | _=>simp only[mE,AAA,↓reduceIte];exact aX.now h
theorem ip(T:Tops P w K mg base):Cal P w K mg base 2 "is_whole_from" bX bp :=
 Cal.byD (N:=["least","thing"]) T.b T.f_is_whole_from (by walk_at "sc") gP (by have:=jq T;walk_at "dv") il
noncomputable def xc(k:Int):D->Bool
 | .tup xs=>(xs.length:Int)==k
 | _=>false
def bn:DSp:=λds M R=>∃(k:Int) (d:D),ds=[.int k,d]/\tyD M d∈oP/\R (.bl (xc k d)) M
theorem jz:dj bn cS:=by rintro ds M R ⟨k,d,rfl,_⟩;rfl
def fM:DTS:=bu (gW (dCB yP (aa (ac 1) (aa (dC (.ty "tuple")) af))) (dOp qEq (dCB mB (aa (ac 1) af)) (ac 0)))
theorem jO:WpT bn 2 fM:=by
 rintro ds M R ⟨k,d,rfl,ht,h⟩
 unfold fM
 cases d with
 | ref n =>
  have e:=mH ht
  simp only[tyD]at e
  walk_at "dl"
  simp only[e]
  exact⟨by decide,bF (aX.now h)⟩
 | ty n=>simp only[tyD]at ht;exact absurd ht (by decide)
 | tup xs=>walk_at "dl";exact⟨by decide,bQ ⟨⟨rfl,rfl⟩,aX.now h⟩⟩
 | _=>walk_at "dl";exact⟨by decide,bF (aX.now h)⟩
theorem eX(T:Tops P w K mg base):Cal P w K mg base 1 "is_tuple_of" cS bn :=
 Cal.byD (N:=["many","thing"]) T.b T.f_is_tuple_of (by walk_at "sc") jz (by walk_at "dv") jO
noncomputable def gh(ps:List (Str×Int)):D->Int
 | .str x=>((ps.find? λp=>decide (p.1=x)).map (·.2)).getD 0
 | _=>0
def eI:DSp:=λds M R=>∃(ps:List (Str×Int)) (r:List D) (d:D),ds=[.tup (.tup (ps.map cO)::r),d]/\okD M eqN d=true/\R (.int (gh ps d)) M
theorem pR:dj eI jh:=by rintro ds M R ⟨ps,r,d,rfl,_⟩;rfl
theorem pH(p:Str×Int)(ps:List (Str×Int))(d:D)(M:Mem):gh (p::ps) d=if eqD M eqN (.str p.1) d=true then p.2 else gh ps d:=by
 cases d with
 | str x =>
  show ((List.find? _ (p::ps)).map _).getD 0=if (p.1==x)=true then _ else _
  by_cases h:p.1=x
  ·subst h;simp
  ·rw[if_neg (by simpa using h)]
   simp[gh,ACq,h]
 | _=>rfl
def iQ:DTS:=bu (dC (.int 0))
def mR:DTS:=aB (mn (dc (dOp qIx (ac 0) (dC (.int 0)))) (oq 2 (ci (ay 2) (ci (ay 3) ou))) (dIf (aG (dOp qEq (ac 2) (ac 1))) (bu (ac 3)) be)) (iQ)
theorem sd:WpT eI 4 mR:=by
 rintro ds M R ⟨ps,r,d,rfl,ok,h⟩
 simp only[mR,iQ]
 walk_at "dl"
 intro _
 refine gu (λys S M'=>∃qs a b,ys=qs.map cO/\M'=M/\S=[some (.tup (.tup (ps.map cO)::r)),some d,a,b]/\gh ps d=gh qs d) ?_ ?_ _ _ _ ⟨ps,_,_,rfl,rfl,rfl,rfl⟩
 ·rintro S M' ⟨qs,a,b,hq,rfl,rfl,e⟩
  have:qs=[]:=by cases qs<;>simp_all
  subst this
  rw[e]at h
  exact⟨trivial,aX.now (by cases d<;>exact h)⟩
 ·rintro x xs S M' ⟨qs,a,b,hq,rfl,rfl,e⟩ L hL
  cases qs with
  | nil=>cases hq
  | cons p qs =>
   rw[AAe]at hq
   injection hq with h1 h2
   subst h1
   refine⟨trivial,?_⟩
   unfold cO
   walk_at "dl"
   refine⟨trivial,⟨rfl,ok⟩,?_⟩
   rw[pH p qs d M']at e
   by_cases hq:eqD M' eqN (.str p.1) d=true
   ·rw[if_pos hq]at e
    rw[hq]
    refine bQ (aX.now ?_)
    rw[<-e];exact h
   ·rw[if_neg hq]at e
    rw[ABG.mpr hq]
    exact bF (Fgt.now (hL _ _ ⟨qs,_,_,h2,rfl,rfl,e⟩))
theorem sF(T:Tops P w K mg base):Cal P w K mg base 1 "many_of" jh eI :=
 Cal.byD (N:=["house","name","person","many"]) T.b T.f_many_of (by walk_at "sc") pR (by walk_at "dv") sd
noncomputable def bM(ps:List (Str×Int)):D->Bool
 | .tup [a,.int k]=>decide (0<=k)&&decide (k<gh ps a)
 | _=>false
def eJ:DSp:=λds M R=>∃(ps:List (Str×Int)) (r:List D) (d:D),ds=[.tup (.tup (ps.map cO)::r),d]/\tyD M d∈oP/\(∀a b,d=.tup [a,b]->okD M eqN a=true/\tyD M b∈oP)/\R (.bl (bM ps d)) M
theorem pS:dj eJ ji:=by rintro ds M R ⟨ps,r,d,rfl,_⟩;rfl
def mS:DTS:=bu (gW (dCB bn (aa (dC (.int 2)) (aa (ac 1) af))) (gW (dCB cq (aa (dOp qIx (ac 1) (dC (.int 1))) af)) (oA qLe qLt (dC (.int 0)) (dOp qIx (ac 1) (dC (.int 1))) (dCB eI (aa (ac 0) (aa (dOp qIx (ac 1) (dC (.int 0))) af))))))
theorem se:WpT eJ 2 mS:=by
 rintro ds M R ⟨ps,r,d,rfl,ht,hab,h⟩
 simp only[mS]
 simp only[bu,gW,dCB,aa,af,dC,ac,bv,AAe,List.map_nil,ACb,AB6,List.getElem?_cons_zero,ACZ,AAL,AAq,List.replicate_zero,ACo,Option.join_some]
 refine⟨2,d,rfl,ht,?_⟩
 by_cases ht2:∃a b,d=.tup [a,b]
 ·obtain⟨a,b,rfl⟩:=ht2
  obtain⟨oka,tyb⟩:=hab a b rfl
  walk_at "dl"
  refine bQ ⟨b,rfl,tyb,?_⟩
  cases b with
  | int k =>
   simp only[mE,if_true]
   by_cases h0:0<=k
   ·rw[dT_ h0]
    simp only[nC,↓reduceIte]
    refine⟨ps,r,a,rfl,oka,aX.now ?_⟩
    have e:bM ps (.tup [a,.int k])=decide (k<gh ps a):=by simp[bM,h0]
    rw[e]at h
    exact h
   ·rw[dF_ h0]
    have e:bM ps (.tup [a,.int k])=false:=by simp[bM,h0]
    rw[e]at h
    simp only[nC,↓reduceIte,AAA]
    exact aX.now h
  | _=>simp only[mE,AAA,↓reduceIte];exact aX.now h
 ·have e1:xc 2 d=false:=by
   cases d with
   | tup xs =>
    match xs with
    | []=>rfl
    | [_]=>rfl
    | [a,b]=>exact absurd ⟨a,b,rfl⟩ ht2
    | _::_::_::_=>simp[xc];lia
   | _=>rfl
  have e2:bM ps d=false:=by
   unfold bM
   split
   ·exact absurd ⟨_,_,rfl⟩ ht2
   ·rfl
  rw[e1]
  rw[e2]at h
  simp only[nC,AAA,↓reduceIte]
  exact aX.now h
theorem sG(T:Tops P w K mg base):Cal P w K mg base 2 "is_hand" ji eJ :=
 Cal.byD (N:=["house","thing"]) T.b T.f_is_hand (by walk_at "sc") pS (by have:=jq T;have:=eX T;have:=sF T;walk_at "dv") se
def bP:DSp:=λds M R=>∃(ps:List (Str×Int)) (rs:List (Str×List Str)) (r:Str),ds=[aH ps rs,.str r]/\r∈rs.map (·.1)/\R (.tup ((tN rs r).map .str)) M
theorem jY:dj bP dI:=by rintro ds M R ⟨ps,rs,r,rfl,_⟩;rfl
theorem vC:tN (p::rs) r=if p.1=r then p.2 else tN rs r:=by
 unfold tN
 rw[ACq]
 by_cases h:p.1=r
 ·rw[dT_ h,if_pos h];rfl
 ·rw[dF_ h,if_neg h]
def jP:DTS:=rO
def hZ:DTS:=aB (mn (dc (dOp qIx (ac 0) (dC (.int 1)))) (oq 2 (ci (ay 2) (ci (ay 3) ou))) (dIf (aG (dOp qEq (ac 2) (ac 1))) (bu (ac 3)) be)) (jP)
theorem lr:WpT bP 4 hZ:=by
 rintro ds M R ⟨ps,rs,r,rfl,hr,h⟩
 simp only[hZ,aH]
 walk_at "dl"
 intro _
 refine gu (λys S M'=>∃qs a b,ys=qs.map lE/\M'=M/\S=[some (aH ps rs),some (.str r),a,b]/\tN rs r=tN qs r/\r∈qs.map (·.1)) ?_ ?_ _ _ _ ⟨rs,_,_,rfl,rfl,rfl,rfl,hr⟩
 ·rintro S M' ⟨qs,a,b,hq,rfl,rfl,e,hm⟩
  have:qs=[]:=by cases qs<;>simp_all
  subst this
  cases hm
 ·rintro x xs S M' ⟨qs,a,b,hq,rfl,rfl,e,hm⟩ L hL
  cases qs with
  | nil=>cases hq
  | cons p qs =>
   rw[AAe]at hq
   injection hq with h1 h2
   subst h1
   refine⟨trivial,?_⟩
   unfold lE
   walk_at "dl"
   refine⟨trivial,⟨aZ,aZ⟩,?_⟩
   rw[cc]
   rw[vC]at e
   by_cases hq:p.1=r
   ·rw[beq_iff_eq.mpr hq]
    rw[if_pos hq]at e
    refine bQ (aX.now ?_)
    rw[<-e];exact h
   ·rw[beq_eq_false_iff_ne.mpr hq]
    rw[if_neg hq]at e
    rw[AAe,AAM]at hm
    exact bF (Fgt.now (hL _ _ ⟨qs,_,_,h2,rfl,rfl,e,hm.resolve_left (ABO hq)⟩))
theorem lP(T:Tops P w K mg base):Cal P w K mg base 1 "members_of" dI bP :=
 Cal.byD (N:=["house","room","told","members"]) T.b T.f_members_of (by walk_at "sc") jY (by walk_at "dv") lr
def dh:DSp:=λds M R=>∃(ps:List (Str×Int)) (rs:List (Str×List Str)) (t:Int) (z:Str) (k:Int),ds=[aH ps rs,.tup [.int t,.tup [.str z,.int k]]]/\R (.bl (decide (1<=t)&&bM ps (.tup [.str z,.int k]))) M
theorem nS:dj dh gM:=by rintro ds M R ⟨ps,rs,t,z,k,rfl,_⟩;rfl
theorem wo:∀{ps:List (Str×Int)},(ps.map (·.1)).Nodup->D.tup [.str z,.int k]∈aw ps->0<=k/\k<gh ps (.str z)
 | p::ps,nd,h=>by
  rw[aw,List.flatMap_cons]at h
  rw[AAe,List.nodup_cons]at nd
  have hm:∀q,D.tup [.str z,.int k]∈cb q->q.1=z/\0<=k/\k<q.2:=λq hq=>by
   unfold cb nw at hq
   simp only[ABT,AAZ,AAs]at hq
   obtain⟨i,hi,e⟩:=hq
   simp only[Function.comp_apply,D.tup.injEq,AC8,D.str.injEq,D.int.injEq,and_true]at e
   obtain⟨e1,e2⟩:=e
   exact⟨e1,by lia,by lia⟩
  show 0<=k/\k<(((p::ps).find? λp=>decide (p.1=z)).map (·.2)).getD 0
  rw[ACq]
  rcases AAk.mp h with h | h
  ·obtain⟨e,h1,h2⟩:=hm p h
   rw[dT_ e]
   exact⟨h1,h2⟩
  ·have hz:p.1≠z:=λe=>by
    obtain⟨q,hq,hh⟩:=List.mem_flatMap.mp h
    refine nd.1 ?_
    rw[e,<-(hm q hh).1]
    exact ABo hq
   rw[dF_ hz]
   exact wo nd.2 h
def kD:DTS:=bu (gW (dCB bn (aa (dC (.int 2)) (aa (ac 1) af))) (gW (dCB bp (aa (dC (.int 1)) (aa (dOp qIx (ac 1) (dC (.int 0))) af))) (dCB eJ (aa (ac 0) (aa (dOp qIx (ac 1) (dC (.int 1))) af)))))
theorem oT:WpT dh 2 kD:=by
 rintro ds M R ⟨ps,rs,t,z,k,rfl,h⟩
 simp only[kD]
 walk_at "dl"
 refine⟨2,_,rfl,by simp[tyD,oP],?_⟩
 rw[show xc 2 (.tup [.int t,.tup [.str z,.int k]])=true from rfl]
 walk_at "ifs"
 refine⟨1,_,rfl,by simp[tyD,oP],?_⟩
 rw[show iF 1 (.int t)=decide (1<=t)from by simp[iF]]
 by_cases h1:1<=t
 ·rw[dT_ h1]at h ⊢
  rw[Bool.true_and]at h
  walk_at "ifs"
  refine⟨ps,_,_,rfl,by simp[tyD,oP],λa b e=>?_,aX.now h⟩
  simp only[D.tup.injEq,AC8,and_true]at e
  obtain⟨rfl,rfl⟩:=e
  exact⟨aZ,by simp[tyD,oP]⟩
 ·rw[dF_ h1]at h ⊢
  walk_at "ifs"
  exact aX.now h
theorem pE(T:Tops P w K mg base):Cal P w K mg base 3 "is_stamp" gM dh :=
 Cal.byD (N:=["house","thing"]) T.b T.f_is_stamp (by walk_at "sc") nS (by have:=ip T;have:=eX T;have:=sG T;walk_at "dv") oT
def ck:DSp:=λds M R=>∃(a b:D) (r:List D),ds=[.tup (a::b::r)]/\R (.tup [a,b]) M
theorem nQ:dj ck gK:=by rintro ds M R ⟨a,b,r,rfl,_⟩;rfl
def kn:DTS:=bu (fH (aa (dOp qIx (ac 0) (dC (.int 0))) (aa (dOp qIx (ac 0) (dC (.int 1))) af)))
theorem oR:WpT ck 1 kn:=by
 rintro ds M R ⟨a,b,r,rfl,h⟩
 simp only[kn]
 walk_at "dl"
 exact⟨ap (by lia),aX.now h⟩
theorem jp(T:Tops P w K mg base):Cal P w K mg base 1 "stamp_of" gK ck :=
 Cal.byD (N:=["deed"]) T.b T.f_stamp_of (by walk_at "sc") nQ (by walk_at "dv") oR
def bb:DSp:=λds M R=>∃(t x:D) (r1 r2:List D),ds=[.tup (t::.tup (x::r1)::r2)]/\R x M
theorem lY:dj bb fi:=by rintro ds M R ⟨t,x,r1,r2,rfl,_⟩;rfl
def iN:DTS:=bu (dOp qIx (dOp qIx (ac 0) (dC (.int 1))) (dC (.int 0)))
theorem mC:WpT bb 1 iN:=by
 rintro ds M R ⟨t,x,r1,r2,rfl,h⟩
 simp only[iN]
 walk_at "dl"
 exact aX.now h
theorem dJ(T:Tops P w K mg base):Cal P w K mg base 1 "person_of" fi bb :=
 Cal.byD (N:=["deed"]) T.b T.f_person_of (by walk_at "sc") lY (by walk_at "dv") mC
def aT:DSp:=λds M R=>∃(ps:List (Str×Int)) (rs:List (Str×List Str)) (log:List D) (k:Str),ds=[.tup log,.str k]/\(∀d∈log,aK ps rs d)/\log.length<=1000/\R (.ref M.length) (M++[.lst (kinds log k)])
theorem gQ:dj aT bY:=by rintro ds M R ⟨ps,rs,log,k,rfl,_⟩;rfl
def dB:DTS:=bu (dLC 1 [1] (dc (ac 0)) (ay 0) (aG (dOp qEq (dOp qIx (dOp qIx (ac 0) (dC (.int 3))) (dC (.int 0))) (ac 1))) (ac 0))
theorem io:WpT aT 2 dB:=by
 rintro ds M R ⟨ps,rs,log,k,rfl,hd,hl,h⟩
 simp only[dB]
 walk_at "dl"
 intro _
 refine bR (λd=>decide (bK d=k)) id (λS=>∃a,S=[a,some (.str k)]) trivial _ _ _ ?_ ⟨_,rfl⟩ (by rw[AAq];exact ap (by lia)) (by rw[AB6,List.map_id];exact .inl h)
 rintro d hm S ⟨a,rfl⟩
 obtain⟨t,z,k',num,x,ds,rfl,_⟩:=hd d hm
 refine⟨[some (.tup [.int t,.tup [.str z,.int k'],.int num,.tup (.str x::ds)]),some (.str k)],⟨_,rfl⟩,λY Z hYZ=>?_⟩
 walk_at "dl"
 have e3:atI [D.int t,.tup [.str z,.int k'],.int num,.tup (.str x::ds)] 3=some (.tup (.str x::ds)):=az (j:=3) rfl
 rw[e3]
 dsimp only
 rw[at0]
 refine⟨⟨aZ,aZ⟩,?_⟩
 rw[cc]
 have e1:bK (.tup [.int t,.tup [.str z,.int k'],.int num,.tup (.str x::ds)])=x:=rfl
 rw[e1]at hYZ
 by_cases e:x=k
 ·rw[beq_iff_eq.mpr e]
  rw[dT_ e]at hYZ
  exact bQ hYZ
 ·rw[beq_eq_false_iff_ne.mpr e]
  rw[dF_ e]at hYZ
  exact bF hYZ
theorem dq(T:Tops P w K mg base):Cal P w K mg base 1 "deeds_of_kind" bY aT :=
 Cal.byD (N:=["log","kind"]) T.b T.f_deeds_of_kind (by walk_at "sc") gQ (by walk_at "dv") io
def bH:DSp:=λds M R=>∃(a b c x r:D) (l:List D),ds=[.tup [a,b,c,.tup (x::r::l)]]/\R r M
theorem pP:dj bH jf:=by rintro ds M R ⟨a,b,c,x,r,l,rfl,_⟩;rfl
def mK:DTS:=bu (dOp qIx (dOp qIx (ac 0) (dC (.int 3))) (dC (.int 1)))
theorem rY:WpT bH 1 mK:=by
 rintro ds M R ⟨a,b,c,x,r,l,rfl,h⟩
 simp only[mK]
 walk_at "dl"
 have e3:atI [a,b,c,.tup (x::r::l)] 3=some (.tup (x::r::l)):=az (j:=3) rfl
 rw[e3]
 dsimp only
 rw[at1]
 exact aX.now h
theorem kR(T:Tops P w K mg base):Cal P w K mg base 1 "room_of" jf bH :=
 Cal.byD (N:=["say"]) T.b T.f_room_of (by walk_at "sc") pP (by walk_at "dv") rY
def cj:DSp:=λds M R=>∃(a b c x r u:D) (l:List D),ds=[.tup [a,b,c,.tup (x::r::u::l)]]/\R u M
theorem nO:dj cj gJ:=by rintro ds M R ⟨a,b,c,x,r,u,l,rfl,_⟩;rfl
def kj:DTS:=bu (dOp qIx (dOp qIx (ac 0) (dC (.int 3))) (dC (.int 2)))
theorem oQ:WpT cj 1 kj:=by
 rintro ds M R ⟨a,b,c,x,r,u,l,rfl,h⟩
 simp only[kj]
 walk_at "dl"
 have e3:atI [a,b,c,.tup (x::r::u::l)] 3=some (.tup (x::r::u::l)):=az (j:=3) rfl
 have e2:atI (x::r::u::l) 2=some u:=az (j:=2) rfl
 rw[e3]
 dsimp only
 rw[e2]
 exact aX.now h
theorem jo(T:Tops P w K mg base):Cal P w K mg base 1 "under_of" gJ cj :=
 Cal.byD (N:=["say"]) T.b T.f_under_of (by walk_at "sc") nO (by walk_at "dv") oQ
def cB:DSp:=λds M R=>∃(ps:List (Str×Int)) (rs:List (Str×List Str)) (d:D) (q:Nat) (kvs:List (D×D)),ds=[aH ps rs,d,.ref q]/\aK ps rs d/\bK d=AA1 "say"/\M[q]?=some (.dkt kvs)/\(∀p∈kvs,aK ps rs p.2/\bK p.2=AA1 "say")/\R (.bl (ia rs kvs d)) M
theorem lZ:dj cB fj:=by rintro ds M R ⟨ps,rs,d,q,kvs,rfl,_⟩;rfl
def fN:DTS:=bu (dOrV (dOp qIs (ac 3) (dC .non)) (gW (dOp zK (ac 3) (ac 2)) (dOp qEq (dCB bH (aa (oy (ac 2) (ac 3)) af)) (dCB bH (aa (ac 1) af)))))
def fO:DTS:=aB (aW (dCB cj (aa (ac 1) af)) 3) (fN)
def iT:DTS:=aB (dIf (aG (dOp ny (dCB bb (aa (ac 1) af)) (dCB bP (aa (ac 0) (aa (dCB bH (aa (ac 1) af)) af))))) (bu (dC (.bl false))) be) (fO)
theorem mD:WpT cB 4 iT:=by
 rintro ds M R ⟨ps,rs,d,q,kvs,rfl,hd,hk,hq,hv,h⟩
 obtain⟨t,z,k,num,r,u,s,rfl,_,_,hr,hu⟩:=kN hd hk
 simp only[iT]
 walk_at "dl"
 refine⟨_,_,_,_,rfl,_,_,_,_,_,_,rfl,ps,rs,r,rfl,hr,⟨aZ,uF⟩,?_⟩
 rw[qa]
 have e0:ia rs kvs (.tup [.int t,.tup [.str z,.int k],.int num,.tup [.str (AA1 "say"),.str r,u,.str s]])=(decide (z∈tN rs r)&&(decide (u=.non)||match aQ kvs u with
  | some e=>decide (jR e=r)
  | none=>false)):=rfl
 rw[e0]at h
 by_cases hm:z∈tN rs r
 ·rw[dT_ hm]at h ⊢
  refine bF ?_
  simp only[fO,fN]
  walk_at "dl"
  refine⟨_,_,_,_,_,u,_,rfl,?_⟩
  rcases hu with rfl | hu
  ·walk_at "dl"
   refine aX.now ?_
   simpa using h
  ·obtain⟨t',z',k',rfl⟩:=hu
   rw[dF_ (by intro e;cases e)]at h
   walk_at "dl"
   refine⟨kvs,hq,rfl,?_⟩
   cases hg:aQ kvs (.tup [.int t',.tup [.str z',.int k']]) with
   | none =>
    rw[hg]at h
    exact bF (aX.now h)
   | some e =>
    rw[hg]at h
    obtain⟨he,hke⟩:=hv _ (br hg)
    obtain⟨t2,z2,k2,n2,r2,u2,s2,e2,_⟩:=kN he hke
    dsimp only at e2
    subst e2
    refine bQ ⟨kvs,_,hq,rfl,hg,_,_,_,_,_,_,rfl,_,_,_,_,_,_,rfl,⟨aZ,aZ⟩,?_⟩
    rw[cc]
    refine aX.now ?_
    have e5:(r2==r)=decide (r2=r):=by
     by_cases e:r2=r
     ·rw[dT_ e];exact beq_iff_eq.mpr e
     ·rw[dF_ e];exact beq_eq_false_iff_ne.mpr e
    rw[e5]
    exact h
 ·rw[dF_ hm]at h ⊢
  exact bQ (aX.now h)
theorem nD(T:Tops P w K mg base):Cal P w K mg base 2 "can_stand" fj cB :=
 Cal.byD (N:=["house","say","elders","under"]) T.b T.f_can_stand (by walk_at "sc") lZ (by have:=lP T;have:=dJ T;have:=kR T;have:=jo T;walk_at "dv") mD
def aU:DSp:=λds M R=>∃(ps:List (Str×Int)) (rs:List (Str×List Str)) (log:List D),ds=[aH ps rs,.tup log]/\(∀d∈log,aK ps rs d)/\log.length<=1000/\∀n B,M <+: B->B[n]?=some (.dkt (cy rs log))->R (.ref n) B
theorem fq:dj aU bE:=by rintro ds M R ⟨ps,rs,log,rfl,_⟩;rfl
theorem lz(hd:∀d∈log,aK ps rs d)(hl:∀d∈l,d∈kinds log (AA1 "say"))(t:TabK l kvs):∀p∈kvs,aK ps rs p.2/\bK p.2=AA1 "say":=λp hp=>by
 obtain⟨h1,h2⟩:=bi (hl _ (t.en p hp).2)
 exact⟨hd _ h1,h2⟩
def bU:DTS:=bu (ac 2)
def bV:DTS:=aB (mn (dc (dCB aT (aa (ac 1) (aa (dC (.str "say")) af)))) (ay 3) (dIf (aG (dCB cB (aa (ac 0) (aa (ac 3) (aa (ac 2) af))))) (qg (ac 2) (dCB ck (aa (ac 3) af)) (ac 3)) be)) (bU)
def cH:DTS:=aB (aW (qh) 2) (bV)
theorem fI:WpT aU 4 cH:=by
 rintro ds M R ⟨ps,rs,log,rfl,hd,hl,h⟩
 simp only[cH,bV]
 walk_at "dl"
 refine⟨ps,rs,log,_,rfl,hd,hl,?_⟩
 have kl:=bZ (log:=log) (k:=AA1 "say")
 have km:∀d∈kinds log (AA1 "say"),aK ps rs d/\bK d=AA1 "say":=λd q=>⟨hd d (bi q).1,(bi q).2⟩
 have hk:aR rs (kinds log (AA1 "say"))=cy rs log:=rfl
 generalize hK:kinds log (AA1 "say")=K at kl km hk
 refine⟨K,aF,λ_=>?_⟩
 refine bo (λi S M'=>∃a,M'=M++[.dkt (aR rs (K.take i)),.lst K]/\S=[some (aH ps rs),some (.tup log),some (.ref M.length),a]) ?_ ?_ ⟨_,by simp[aR],rfl⟩
 ·rintro S M' ⟨a,rfl,rfl⟩
  rw[ACB,hk]
  refine⟨.inl ?_,?_⟩
  ·have:(M++[MO.dkt []]).length=M.length+1:=by simp
   rw[this];exact rH
  ·simp only[bU]
   walk_at "dl"
   exact .inl (h _ _ (AAY _ _) fy)
 ·rintro i y S M' hy ⟨a,rfl,rfl⟩ G hG
  have hm:=AAo hy
  have et:K.take (i+1)=K.take i++[y]:=by rw[AD4,hy];rfl
  rw[et,fB]at hG
  have tb:=gX (rs:=rs) (K.take i)
  have hv:=lz hd (λd q=>hK ▸ List.mem_of_mem_take q) tb
  have tl:=tb.len
  rw[AAx]at tl
  generalize aR rs (K.take i)=kvs at hG hv tl
  obtain⟨dy,ky⟩:=km y hm
  refine⟨.inl ?_,?_⟩
  ·have:(M++[MO.dkt []]).length=M.length+1:=by simp
   rw[this];exact rH
  walk_at "dl"
  refine⟨ps,rs,y,_,kvs,rfl,dy,ky,fy,hv,?_⟩
  unfold uH at hG
  cases hs:ia rs kvs y with
  | true =>
   rw[hs,if_pos rfl]at hG
   refine bQ ?_
   obtain⟨t,z,k,num,x,ds,rfl,_⟩:=dy
   refine⟨_,_,_,rfl,kvs,fy,rfl,aY (by lia),?_⟩
   rw[iW]
   exact Fgt.now (hG _ _ ⟨_,rfl,rfl⟩)
  | false =>
   rw[hs,if_neg (by decide)]at hG
   exact bF (Fgt.now (hG _ _ ⟨_,rfl,rfl⟩))
theorem fZ(T:Tops P w K mg base):Cal P w K mg base 3 "says_that_count" bE aU :=
 Cal.byD (N:=["house","log","says","deed"]) T.b T.f_says_that_count (by walk_at "sc") fq (by have:=jp T;have:=dq T;have:=nD T;walk_at "dv") fI
def bD:DSp:=λds M R=>∃(t:Int) (z:Str) (k num:Int) (x m:D) (l:List D) (q:Nat) (kvs:List (D×D)),ds=[.tup [.int t,.tup [.str z,.int k],.int num,.tup (x::m::l)],.ref q]/\St m/\M[q]?=some (.dkt kvs)/\(∀p∈kvs,NmK p.2)/\R (.bl (byW kvs (.tup [.int t,.tup [.str z,.int k],.int num,.tup (x::m::l)]))) M
theorem ir:dj bD cF:=by rintro ds M R ⟨t,z,k,num,x,m,l,q,kvs,rfl,_⟩;rfl
def dm:DTS:=bu (gW (dOp zK (ac 2) (ac 1)) (dOp qEq (dCB bb (aa (ac 0) af)) (dCB bb (aa (oy (ac 1) (ac 2)) af))))
def eU:DTS:=aB (aW (dOp qIx (dOp qIx (ac 0) (dC (.int 3))) (dC (.int 1))) 2) (dm)
theorem iE:WpT bD 3 eU:=by
 rintro ds M R ⟨t,z,k,num,x,m,l,q,kvs,rfl,hm,hq,hv,h⟩
 simp only[eU,dm]
 obtain⟨t',z',k',rfl⟩:=hm
 walk_at "dl"
 have e3:atI [D.int t,.tup [.str z,.int k],.int num,.tup (x::.tup [.int t',.tup [.str z',.int k']]::l)] 3=some (.tup (x::.tup [.int t',.tup [.str z',.int k']]::l)):=az (j:=3) rfl
 rw[e3]
 dsimp only
 rw[at1]
 refine⟨kvs,hq,rfl,?_⟩
 have e0:byW kvs (.tup [.int t,.tup [.str z,.int k],.int num,.tup (x::.tup [.int t',.tup [.str z',.int k']]::l)])=match aQ kvs (.tup [.int t',.tup [.str z',.int k']]) with
  | some e=>decide (z=nG e)
  | none=>false:=rfl
 rw[e0]at h
 cases hg:aQ kvs (.tup [.int t',.tup [.str z',.int k']]) with
 | none =>
  rw[hg]at h
  exact bF (aX.now h)
 | some e =>
  rw[hg]at h
  obtain⟨a,y,r1,r2,rfl⟩:=hv _ (br hg)
  refine bQ ⟨_,_,_,_,rfl,kvs,_,hq,rfl,hg,_,_,_,_,rfl,⟨aZ,aZ⟩,?_⟩
  rw[cc]
  refine aX.now ?_
  have e5:(z==y)=decide (z=y):=by
   by_cases e:z=y
   ·rw[dT_ e];exact beq_iff_eq.mpr e
   ·rw[dF_ e];exact beq_eq_false_iff_ne.mpr e
  rw[e5]
  exact h
theorem jr(T:Tops P w K mg base):Cal P w K mg base 2 "is_by_writer" cF bD :=
 Cal.byD (N:=["deed","says","message"]) T.b T.f_is_by_writer (by walk_at "sc") ir (by have:=dJ T;walk_at "dv") iE
def bj:DSp:=λds M R=>∃(ps:List (Str×Int)) (rs:List (Str×List Str)) (log:List D) (k:Str) (q:Nat) (kvs:List (D×D)),ds=[.tup log,.str k,.ref q]/\(∀d∈log,aK ps rs d)/\log.length<=1000/\(k=AA1 "change"\/k=AA1 "back")/\M[q]?=some (.dkt kvs)/\(∀p∈kvs,NmK p.2)/\R (.ref M.length) (M++[.lst ((kinds log k).filter (byW kvs))])
theorem jx:dj bj cQ:=by rintro ds M R ⟨ps,rs,log,k,q,kvs,rfl,_⟩;rfl
theorem Do(h:aK ps rs d)(e:bK d=k)(hk:k=AA1 "change"\/k=AA1 "back"):∃(t:Int) (z:Str) (k num:Int) (x m:D) (l:List D),d=.tup [.int t,.tup [.str z,.int k],.int num,.tup (x::m::l)]/\St m:=by
 rcases hk with rfl | rfl
 ·obtain⟨t,z,k,num,m,s,rfl,hm⟩:=jJ h e
  exact⟨t,z,k,num,_,m,_,rfl,hm⟩
 ·obtain⟨t,z,k,num,m,rfl,hm⟩:=wR h e
  exact⟨t,z,k,num,_,m,_,rfl,hm⟩
def fK:DTS:=bu (dLC 1 [2] (dc (dCB aT (aa (ac 0) (aa (ac 1) af)))) (ay 0) (aG (dCB bD (aa (ac 0) (aa (ac 1) af)))) (ac 0))
theorem jM:WpT bj 3 fK:=by
 rintro ds M R ⟨ps,rs,log,k,q,kvs,rfl,hd,hl,hk,hq,hv,h⟩
 simp only[fK]
 walk_at "dl"
 refine⟨ps,rs,log,k,rfl,hd,hl,_,aF,λ_=>?_⟩
 have kl:=bZ (log:=log) (k:=k)
 refine bR (byW kvs) id (λS=>∃a,S=[a,some (.ref q)]) aF _ _ _ ?_ ⟨_,rfl⟩ (by rw[AAq];exact ap (by lia)) ?_
 ·rintro d hm S ⟨a,rfl⟩
  obtain⟨h1,h2⟩:=bi hm
  obtain⟨t,z,k',num,x,m,l,rfl,hs⟩:=Do (hd d h1) h2 hk
  refine⟨[some (.tup [.int t,.tup [.str z,.int k'],.int num,.tup (x::m::l)]),some (.ref q)],⟨_,rfl⟩,λY Z hYZ=>?_⟩
  walk_at "dl"
  refine⟨t,z,k',num,x,m,l,q,kvs,rfl,hs,ah hq,hv,?_⟩
  cases hb:byW kvs (.tup [.int t,.tup [.str z,.int k'],.int num,.tup (x::m::l)]) with
  | true=>rw[hb]at hYZ;exact bQ hYZ
  | false=>rw[hb]at hYZ;exact bF hYZ
 ·rw[AB6,List.map_id,AAw]
  exact aX.lst h (by simp) (by simp) (aK.bels (ps:=ps) (rs:=rs) λd m=>hd d (bi (ABD.mp m).1).1)
theorem eW(T:Tops P w K mg base):Cal P w K mg base 3 "writers_own" cQ bj :=
 Cal.byD (N:=["log","kind","says"]) T.b T.f_writers_own (by walk_at "sc") jx (by have:=dq T;have:=jr T;walk_at "dv") jM
def bc:DSp:=λds M R=>∃(ps:List (Str×Int)) (rs:List (Str×List Str)) (log:List D) (q:Nat) (kvs:List (D×D)),ds=[.tup log,.ref q]/\(∀d∈log,aK ps rs d)/\log.length<=1000/\M[q]?=some (.dkt kvs)/\(∀p∈kvs,NmK p.2)/\∀n B,M <+: B->B[n]?=some (.dkt (av kvs log))->R (.ref n) B
theorem iq:dj bc cE:=by rintro ds M R ⟨ps,rs,log,q,kvs,rfl,_⟩;rfl
theorem tE(ps:List (D×D))(h:p∈dictOf ps):p∈ps:=by
 revert h
 refine cx (P:=λps=>p∈dictOf ps->p∈ps) (λh=>h) (λps q ih h=>?_) ps
 rw[cf]at h
 rcases fV h with rfl | h
 ·simp
 ·exact AAr _ (ih h)
theorem fG(hd:∀d∈log,aK ps rs d):∀p∈av kvs log,∃s,p.2=.str s:=λp hp=>by
 obtain⟨d,hm,rfl⟩:=AAZ.mp (tE _ hp)
 obtain⟨h1,h2⟩:=bi (ABD.mp hm).1
 obtain⟨t,z,k,num,m,s,rfl,hs⟩:=jJ (hd d h1) h2
 exact⟨s,rfl⟩
def eT:DTS:=bu (dCB gI (aa (dLC 1 [] (dc (dCB bj (aa (ac 0) (aa (dC (.str "change")) (aa (ac 1) af))))) (ay 0) wD (fH (aa (dOp qIx (dOp qIx (ac 0) (dC (.int 3))) (dC (.int 1))) (aa (dOp qIx (dOp qIx (ac 0) (dC (.int 3))) (dC (.int 2))) af)))) af))
theorem iD:WpT bc 2 eT:=by
 rintro ds M R ⟨ps,rs,log,q,kvs,rfl,hd,hl,hq,hv,h⟩
 simp only[eT]
 walk_at "dl"
 refine⟨ps,rs,log,_,q,kvs,rfl,hd,hl,.inl rfl,hq,hv,_,aF,λ_=>?_⟩
 have kl:=bZ (log:=log) (k:=AA1 "change")
 have fl:=ABx (byW kvs) (kinds log (AA1 "change"))
 have km:∀d∈(kinds log (AA1 "change")).filter (byW kvs),∃(t:Int) (z:Str) (k num:Int) (m:D) (s:Str),d=.tup [.int t,.tup [.str z,.int k],.int num,.tup [.str (AA1 "change"),m,.str s]]/\St m:=λd m=>by
  obtain⟨h1,h2⟩:=bi (ABD.mp m).1
  exact jJ (hd d h1) h2
 have hc:dictOf (((kinds log (AA1 "change")).filter (byW kvs)).map λd=>(rh d,mG d))=av kvs log:=rfl
 generalize (kinds log (AA1 "change")).filter (byW kvs)=F at fl km hc
 refine dR (λd=>.tup [rh d,mG d]) (λS=>∃a,S=[a]) aF _ _ _ (λd hm S hS=>?_) ⟨_,rfl⟩ (by rw[AAq];exact ap (by lia)) ?_
 ·obtain⟨a,rfl⟩:=hS
  obtain⟨t,z,k,num,m,s,rfl,_⟩:=km d hm
  refine⟨[some (.tup [.int t,.tup [.str z,.int k],.int num,.tup [.str (AA1 "change"),m,.str s]])],⟨_,rfl⟩,λY hY=>?_⟩
  walk_at "dl"
  have e3:atI [D.int t,.tup [.str z,.int k],.int num,.tup [.str (AA1 "change"),m,.str s]] 3=some (.tup [.str (AA1 "change"),m,.str s]):=az (j:=3) rfl
  rw[e3]
  dsimp only
  rw[at1]
  dsimp only
  rw[at2]
  exact⟨ap (by lia),hY⟩
 ·rw[AB6]
  have el:F.map (λd=>D.tup [rh d,mG d])=(F.map λd=>(rh d,mG d)).map λp=>.tup [p.1,p.2]:=by
   rw[ABT];rfl
  rw[el]
  refine⟨F.map λd=>(rh d,mG d),aF,λp hm=>?_,by rw[AA6];lia,?_⟩
  ·obtain⟨d,hx,rfl⟩:=AAZ.mp hm
   obtain⟨t,z,k,num,m,s,rfl,hs⟩:=km d hx
   obtain⟨ks,e⟩:=hs.tup
   exact⟨hs.key,by show eY m=true;rw[e];rfl⟩
  ·rw[hc]
   exact .inl (h _ _ ((kO.trans kO).trans kO) ag)
theorem dL(T:Tops P w K mg base):Cal P w K mg base 4 "last_changes" cE bc :=
 Cal.byD (N:=["log","says"]) T.b T.f_last_changes (by walk_at "sc") iq (by have:=eW T;walk_at "dv") iD
def aM:DSp:=λds M R=>∃(ps:List (Str×Int)) (rs:List (Str×List Str)) (log:List D) (q:Nat) (kvs:List (D×D)),ds=[.tup log,.ref q]/\(∀d∈log,aK ps rs d)/\log.length<64/\M[q]?=some (.dkt kvs)/\(∀p∈kvs,NmK p.2)/\∀ys,(∀x∈ys,St x)->(∀x,x∈ys↔gF kvs log x)->ys.Nodup->(ys.Pairwise λa b=>¬enc eqN b<enc eqN a)->R (.ref M.length) (M++[.lst ys])
theorem dN:dj aM bq:=by rintro ds M R ⟨ps,rs,log,q,kvs,rfl,_⟩;rfl
def bT:DTS:=bu (gs (dLC 1 [] (dc (dCB bj (aa (ac 0) (aa (dC (.str "back")) (aa (ac 1) af))))) (ay 0) wD (dOp qIx (dOp qIx (ac 0) (dC (.int 3))) (dC (.int 1)))))
theorem eK:WpT aM 2 bT:=by
 rintro ds M R ⟨ps,rs,log,q,kvs,rfl,hd,hl,hq,hv,h⟩
 simp only[bT]
 walk_at "dl"
 refine⟨ps,rs,log,_,q,kvs,rfl,hd,by lia,.inr rfl,hq,hv,_,aF,λ_=>?_⟩
 have kl:=bZ (log:=log) (k:=AA1 "back")
 have fl:=ABx (byW kvs) (kinds log (AA1 "back"))
 have km:∀d∈(kinds log (AA1 "back")).filter (byW kvs),∃(t:Int) (z:Str) (k num:Int) (m:D),d=.tup [.int t,.tup [.str z,.int k],.int num,.tup [.str (AA1 "back"),m]]/\St m:=λd m=>by
  obtain⟨h1,h2⟩:=bi (ABD.mp m).1
  exact wR (hd d h1) h2
 have hb:∀x,x∈((kinds log (AA1 "back")).filter (byW kvs)).map rh↔gF kvs log x:=λx=>by
  constructor
  ·intro hx
   obtain⟨d,m,rfl⟩:=AAZ.mp hx
   exact⟨d,(ABD.mp m).1,(ABD.mp m).2,rfl⟩
  ·rintro⟨d,h1,h2,rfl⟩
   exact ABo (ABD.mpr ⟨h1,h2⟩)
 generalize (kinds log (AA1 "back")).filter (byW kvs)=F at fl km hb
 refine dR rh (λS=>∃a,S=[a]) aF _ _ _ (λd hm S hS=>?_) ⟨_,rfl⟩ (by rw[AAq];exact ap (by lia)) ?_
 ·obtain⟨a,rfl⟩:=hS
  obtain⟨t,z,k,num,m,rfl,_⟩:=km d hm
  refine⟨[some (.tup [.int t,.tup [.str z,.int k],.int num,.tup [.str (AA1 "back"),m]])],⟨_,rfl⟩,λY hY=>?_⟩
  walk_at "dl"
  have e3:atI [D.int t,.tup [.str z,.int k],.int num,.tup [.str (AA1 "back"),m]] 3=some (.tup [.str (AA1 "back"),m]):=az (j:=3) rfl
  rw[e3]
  dsimp only
  rw[at1]
  exact hY
 ·rw[AB6]
  have hs:∀x∈F.map rh,St x:=λx hx=>by
   obtain⟨d,hm,rfl⟩:=AAZ.mp hx
   obtain⟨t,z,k,num,m,rfl,hs⟩:=km d hm
   exact hs
  refine⟨8,_,AA8 _,.inl ⟨_,rfl,aF⟩,by rw[AA6];lia,λx hx=>?_,uE hs (by rw[AA6];lia),λys nd hy hr=>?_⟩
  ·obtain⟨ks,e⟩:=(hs x hx).tup
   exact⟨(hs x hx).key,by rw[e];rfl⟩
  ·have hys:∀x∈ys,St x:=λx hx=>hs x ((hy x).mp hx)
   rw[AAw,AAw]
   have up:ys.Pairwise λa b=>¬enc eqN b<enc eqN a:=(List.Pairwise.and_mem.mp hr).imp λ{a b} ⟨ha,hb,q⟩=>by
    have sa:=hys a ha
    have sb:=hys b hb
    have oa:okP eqN a=true:=by obtain⟨t,z,k,e⟩:=sa;rw[e];rfl
    have ob:okP eqN b=true:=by obtain⟨t,z,k,e⟩:=sb;rw[e];rfl
    rw[pI ob oa (sb.cm sa)]at q
    exact of_decide_eq_false q
   exact aX.lst (h ys hys (λx=>(hy x).trans (hb x)) nd up) (by simp) (by simp) (Bels.of λd m=>cC 2 d (hys d m).pl)
theorem eL(T:Tops P w K mg base):Cal P w K mg base 4 "stamps_taken_back" bq aM :=
 Cal.byD (N:=["log","says"]) T.b T.f_stamps_taken_back (by walk_at "sc") dN (by have:=eW T;walk_at "dv") eK
def bB:DSp:=λds M R=>∃(ps:List (Str×Int)) (rs:List (Str×List Str)) (d:D) (q:Nat) (tab:List (D×D)),ds=[d,.ref q]/\aK ps rs d/\bK d=AA1 "say"/\M[q]?=some (.dkt tab)/\R (lV tab d) M
theorem jW:dj bB dG:=by rintro ds M R ⟨ps,rs,d,q,tab,rfl,_⟩;rfl
def eP:DTS:=bu (fH (aa (ac 2) (aa (dCB bH (aa (ac 0) af)) (aa (dCB cj (aa (ac 0) af)) (aa (dCB bb (aa (ac 0) af)) (aa (ac 3) (aa (dOp zK (ac 2) (ac 1)) af)))))))
def eQ:DTS:=aB (aW (dMt fU (ac 1) (aa (ac 2) (aa (dOp qIx (dOp qIx (ac 0) (dC (.int 3))) (dC (.int 3))) af))) 3) (eP)
def hV:DTS:=aB (aW (dCB ck (aa (ac 0) af)) 2) (eQ)
theorem lp:WpT bB 4 hV:=by
 rintro ds M R ⟨ps,rs,d,q,tab,rfl,hd,hk,hq,h⟩
 obtain⟨t,z,k,num,r,u,s,rfl,_⟩:=kN hd hk
 simp only[hV,eQ]
 walk_at "dl"
 refine⟨_,_,_,rfl,⟨_,hq⟩,?_⟩
 have e3:atI [D.int t,.tup [.str z,.int k],.int num,.tup [.str (AA1 "say"),.str r,u,.str s]] 3=some (.tup [.str (AA1 "say"),.str r,u,.str s]):=az (j:=3) rfl
 have e4:atI [.str (AA1 "say"),.str r,u,.str s] 3=some (.str s):=az (j:=3) rfl
 rw[e3]
 dsimp only
 rw[e4]
 refine⟨tab,hq,rfl,?_⟩
 simp only[eP]
 walk_at "dl"
 refine⟨_,_,_,_,_,_,rfl,_,_,_,_,_,_,_,rfl,_,_,_,_,rfl,tab,hq,rfl,ap (by lia),aX.now h⟩
theorem gc(T:Tops P w K mg base):Cal P w K mg base 2 "message_of" dG bB :=
 Cal.byD (N:=["say","changes","stamp","saying"]) T.b T.f_message_of (by walk_at "sc") jW (by have:=jp T;have:=dJ T;have:=kR T;have:=jo T;walk_at "dv") lp
def bA:DSp:=λds M R=>∃(ps:List (Str×Int)) (rs:List (Str×List Str)) (log:List D),ds=[aH ps rs,.tup log]/\(∀d∈log,aK ps rs d)/\log.length<64/\∀n B,M <+: B->B[n]?=some (.dkt (am rs log))->R (.ref n) B
theorem jV:dj bA dF:=by rintro ds M R ⟨ps,rs,log,rfl,_⟩;rfl
theorem Cl{M:Mem}{l:List D}(h:∀x∈l,St x):l.all (okD M eqN)=true:=AAU.mpr λx hx=>(h x hx).ok
theorem Ee(hx:St x)(h:∀x∈l,St x):inD M x l=decide (x∈l):=by
 unfold inD
 by_cases hm:x∈l
 ·rw[dT_ hm]
  exact ADH.mpr ⟨x,hm,by rw[show eqN=28+2 from rfl,hx.eq hx];exact dT_ rfl⟩
 ·rw[dF_ hm]
  refine ABG.mpr λz=>?_
  obtain⟨y,hy,e⟩:=ADH.mp z
  rw[show eqN=28+2 from rfl,(h y hy).eq hx]at e
  exact hm (of_decide_eq_true e ▸ hy)
def eN:DTS:=bu (dCB gI (aa (dLC 1 [2,3] (rP (ac 2)) (ay 0) (aG (dOp ny (ac 0) (ac 2))) (fH (aa (ac 0) (aa (oy (ac 1) (ac 0)) af)))) af))
def eO:DTS:=aB (aW (dCB aM (aa (ac 1) (aa (ac 2) af))) 3) (eN)
def gZ:DTS:=aB (aW (dCB aU (aa (ac 0) (aa (ac 1) af))) 2) (eO)
theorem lh:WpT bA 4 gZ:=by
 rintro ds M R ⟨ps,rs,log,rfl,hd,hl,h⟩
 simp only[gZ]
 walk_at "dl"
 refine⟨ps,rs,log,rfl,hd,by lia,λn B pB hB=>?_⟩
 have tb:=bw (rs:=rs) (log:=log)
 have kl:=bZ (log:=log) (k:=AA1 "say")
 have hv:=lz hd (λ_ q=>q) tb
 have tl:=tb.len
 have nd:=tb.nd
 have en:=tb.en
 have hsh:am rs log=(cy rs log).filter λp=>@decide (¬gF (cy rs log) log p.1) (ABP _):=rfl
 rw[hsh]at h
 clear hsh
 generalize cy rs log=kvs at h tb tl hv nd en hB
 simp only[eO]
 walk_at "dl"
 refine⟨ps,rs,log,n,kvs,rfl,hd,hl,hB,λp hp=>(hv p hp).1.nm,λys hs hy _ _=>?_⟩
 simp only[eN]
 walk_at "dl"
 have hB2:(B++[MO.lst ys])[n]?=some (.dkt kvs):=ah hB
 refine⟨kvs,hB2,λ_=>?_⟩
 have sp:∀p∈kvs,St p.1:=λp hp=>by rw[(en p hp).1];exact(hv p hp).1.st
 refine bR (λk=>decide (k∉ys)) (λk=>.tup [k,(aQ kvs k).getD .non]) (λS=>∃a,S=[a,some (.ref n),some (.ref B.length)]) hB2 _ _ _ ?_ ⟨_,rfl⟩ (by rw[AAq,AA6];exact ap (by lia)) ?_
 ·rintro x hm S ⟨a,rfl⟩
  obtain⟨p,hp,rfl⟩:=AAZ.mp hm
  have sx:=sp p hp
  have hg:=lW nd hp
  refine⟨[some p.1,some (.ref n),some (.ref B.length)],⟨_,rfl⟩,λY Z hYZ=>?_⟩
  rw[hg]at hYZ
  obtain⟨ks,e⟩:=sx.tup
  have hk:=sx.key
  rw[e]at hYZ hg hk sx ⊢
  walk_at "dl"
  refine⟨ys,aF,⟨sx.ok,Cl hs⟩,?_⟩
  rw[Ee sx hs]
  by_cases hx:D.tup ks∈ys
  ·rw[dT_ hx]
   rw[dF_ (λz=>z hx)]at hYZ
   exact bF hYZ
  ·rw[dF_ hx]
   rw[dT_ hx,if_pos rfl]at hYZ
   exact bQ ⟨kvs,_,hB2,hk,hg,ap (by lia),hYZ⟩
 ·rw[AB6]
  have el:((kvs.map (·.1)).filter λk=>decide (k∉ys)).map (λk=>D.tup [k,(aQ kvs k).getD .non])=(kvs.filter λp=>decide (p.1∉ys)).map λp=>.tup [p.1,p.2]:=by
   rw[List.filter_map,ABT]
   refine AE5 λp hp=>?_
   show D.tup [p.1,(aQ kvs p.1).getD .non]=_
   rw[lW nd (ABD.mp hp).1];rfl
  rw[el]
  have nd2:((kvs.filter λp=>decide (p.1∉ys)).map (·.1)).Nodup:=(List.filter_sublist.map _).nodup nd
  refine⟨_,aF,λp hp=>?_,?_,?_⟩
  ·have sx:=sp p (ABD.mp hp).1
   obtain⟨ks,e⟩:=sx.tup
   exact⟨sx.key,by rw[e];rfl⟩
  ·have:=ABx (λp:D×D=>decide (p.1∉ys)) kvs
   lia
  ·rw[wy _ nd2]
   refine .inl (h _ _ (((pB.trans kO).trans kO).trans kO) ?_)
   have ef:(kvs.filter λp=>decide (p.1∉ys))=kvs.filter λp=>@decide (¬gF kvs log p.1) (ABP _):=List.filter_congr λp _=>by
    by_cases hb:gF kvs log p.1
    ·rw[dF_ (show ¬¬p.1∈ys from λz=>z ((hy _).mpr hb)),@decide_eq_false _ (ABP _) (λz=>z hb)]
    ·rw[dT_ (show ¬p.1∈ys from λz=>hb ((hy _).mp z)),@decide_eq_true _ (ABP _) hb]
   rw[<-ef]
   exact ag
theorem gb(T:Tops P w K mg base):Cal P w K mg base 5 "says_shown" dF bA :=
 Cal.byD (N:=["house","log","says","backs"]) T.b T.f_says_shown (by walk_at "sc") jV (by have:=fZ T;have:=eL T;walk_at "dv") lh
def bJ:DSp:=λds M R=>∃(ps:List (Str×Int)) (rs:List (Str×List Str)) (log:List D),ds=[aH ps rs,.tup log]/\(∀d∈log,aK ps rs d)/\log.length<64/\R (.ref M.length) (M++[.lst (ba rs log)])
theorem jy:dj bJ cR:=by rintro ds M R ⟨ps,rs,log,rfl,_⟩;rfl
theorem gH(hd:∀d∈log,aK ps rs d):∀p∈am rs log,p.1=stD p.2/\aK ps rs p.2/\bK p.2=AA1 "say":=λp hp=>by
 have h1:=(fR.mp hp).1
 have tb:=bw (rs:=rs) (log:=log)
 exact⟨(tb.en p h1).1,lz hd (λ_ q=>q) tb p h1⟩
theorem rj(hc:∀p∈ch,∃s,p.2=.str s)(hd:aK ps rs d)(hk:bK d=AA1 "say"):Bel n (lV ch d):=by
 obtain⟨t,z,k,num,r,u,s,rfl,_,_,_,hu⟩:=kN hd hk
 have hub:Bel n u:=by
  rcases hu with rfl | hu
  ·exact .non
  ·exact cC 2 u hu.pl
 refine .tup (.cons (cC 2 _ (St.pl (n:=0) ⟨t,z,k,rfl⟩)) (.cons (.str _) (.cons hub (.cons (.str _) (.cons ?_ (.cons (.bl _) .nil))))))
 cases e:aQ ch (stD (.tup [.int t,.tup [.str z,.int k],.int num,.tup [.str (AA1 "say"),.str r,u,.str s]])) with
 | none=>exact .str _
 | some v =>
  obtain⟨s',e'⟩:=hc _ (br e)
  dsimp only at e'
  rw[e']
  exact .str _
def du:DTS:=bu (dLC 1 [3] (rN (ac 2)) (ay 0) wD (dCB bB (aa (ac 0) (aa (ac 1) af))))
def dw:DTS:=aB (aW (dCB bc (aa (ac 1) (aa (ac 2) af))) 3) (du)
def fL:DTS:=aB (aW (dCB bA (aa (ac 0) (aa (ac 1) af))) 2) (dw)
theorem jN:WpT bJ 4 fL:=by
 rintro ds M R ⟨ps,rs,log,rfl,hd,hl,h⟩
 simp only[fL]
 walk_at "dl"
 refine⟨ps,rs,log,rfl,hd,hl,λn B pB hB=>?_⟩
 have sv:=gH (rs:=rs) hd
 have sl:(am rs log).length<=1000:=by
  have h1:=(bw (rs:=rs) (log:=log)).len
  have h2:=bZ (log:=log) (k:=AA1 "say")
  have h3:(am rs log).length<=(cy rs log).length:=ABx _ _
  lia
 have hm:ba rs log=(am rs log).map λp=>lV (av (am rs log) log) p.2:=rfl
 have hc:=fG (kvs:=am rs log) hd
 simp only[dw]
 walk_at "dl"
 refine⟨ps,rs,log,n,am rs log,rfl,hd,by lia,hB,λp hp=>(sv p hp).2.1.nm,λn2 B2 pB2 hB2=>?_⟩
 rw[hm]at h
 generalize am rs log=T at sv sl hB hB2 h hc
 generalize av T log=ch at hB2 h hc
 have hBT:=cY pB2 hB
 have pM:=pB.trans pB2
 simp only[du]
 walk_at "dl"
 refine⟨T,hBT,λ_=>?_⟩
 refine dR (lV ch) (λS=>∃a,S=[a,some (.ref n2)]) hBT _ _ _ (λd hm S hS=>?_) ⟨_,rfl⟩ (by rw[AAq,AA6];exact ap (by lia)) ?_
 ·obtain⟨a,rfl⟩:=hS
  obtain⟨p,hp,rfl⟩:=AAZ.mp hm
  refine⟨[some p.2,some (.ref n2)],⟨_,rfl⟩,λY hY=>?_⟩
  walk_at "dl"
  exact⟨ps,rs,p.2,n2,ch,rfl,(sv p hp).2.1,(sv p hp).2.2,hB2,hY⟩
 ·rw[AB6,ABT]
  obtain⟨L,rfl⟩:=pM
  rw[AAw]
  refine aX.lst h (by simp) (by simp) (Bels.of λd hd'=>?_)
  obtain⟨p,hp,rfl⟩:=AAZ.mp hd'
  exact rj hc (sv p hp).2.1 (sv p hp).2.2
theorem jS(T:Tops P w K mg base):Cal P w K mg base 6 "messages_of" cR bJ :=
 Cal.byD (N:=["house","log","says","changes"]) T.b T.f_messages_of (by walk_at "sc") jy (by have:=dL T;have:=gc T;have:=gb T;walk_at "dv") jN
def gz:wW:=λds M R RX=>∃(ps:List (Str×Int)) (rs:List (Str×List Str)) (log:List D) (s:D),ds=[aH ps rs,.tup log,s]/\St s/\(ps.map (·.1)).Nodup/\(∀d∈log,aK ps rs d)/\log.length<64/\(aQ (am rs log) s=none->RX (AA1 "NoMessage") M)/\∀e,aQ (am rs log) s=some e->R e M
theorem sQ:LenX gz lN:=by rintro ds M R RX ⟨ps,rs,log,s,rfl,_⟩;rfl
def kA:DTX:=xOf (bu (oy (ac 3) (ac 2)))
def kB:DTX:=BU (xIf (dOr (BO (aG (dCB dh (aa (ac 0) (aa (ac 2) af))))) (aG (dOp lF (ac 2) (ac 3)))) (qq "NoMessage" (aa (dC (.str "there is no such message")) af)) (xOf be)) (kA)
def qB:DTX:=BU (xOf (aW (dCB bA (aa (ac 0) (aa (ac 1) af))) 3)) (kB)
theorem tT:WpX gz 4 qB:=by
 rintro ds M R RX ⟨ps,rs,log,s,rfl,hs,pnd,hd,hl,hX,h⟩
 obtain⟨t,z,k,rfl⟩:=hs
 simp only[qB]
 walk_at "dl"
 refine⟨ps,rs,log,rfl,hd,hl,λn B pB hB=>?_⟩
 simp only[kB]
 walk_at "dl"
 refine⟨ps,rs,t,z,k,rfl,?_⟩
 have no:∀{b:Bool},aQ (am rs log) (.tup [.int t,.tup [.str z,.int k]])=none->1<=sizeLine/\XEnd M RX (AA1 "NoMessage") B:=λhg=>⟨ap (by decide),.inr ⟨M,.refl,pB,hX hg⟩⟩
 cases hg:aQ (am rs log) (.tup [.int t,.tup [.str z,.int k]]) with
 | none =>
  cases decide (1<=t)&&bM ps (.tup [.str z,.int k]) with
  | false=>exact bQ (no (b:=true) hg)
  | true =>
   refine bF ⟨_,hB,rfl,?_⟩
   rw[hg]
   exact bQ (no (b:=true) hg)
 | some e =>
  have hc:=(fR.mp (br hg)).1
  obtain⟨h1,h2⟩:=bw.en _ hc
  have hm:=bi h2
  have he:=hd _ hm.1
  have hst:D.tup [.int t,.tup [.str z,.int k]]=stD e:=h1
  obtain⟨t',z',k',num,r,u,s,rfl,h3,h4,_⟩:=kN he hm.2
  simp only[stD,D.tup.injEq,AC8,D.int.injEq,D.str.injEq,and_true]at hst
  obtain⟨rfl,rfl,rfl⟩:=hst
  obtain⟨k0,k1⟩:=wo pnd h4
  rw[show (decide (1<=t)&&bM ps (.tup [.str z,.int k]))=true from by rw[dT_ h3,show bM ps (.tup [.str z,.int k])=true from by simp[bM,k0,k1]];rfl]
  refine bF ⟨_,hB,rfl,?_⟩
  rw[hg]
  refine bF ?_
  simp only[kA]
  walk_at "dl"
  exact⟨_,_,hB,rfl,hg,aX.keep (h _ hg) (cC 6 _ he.pl) pB⟩
theorem vm(T:Tops P w K mg base):yI P w K mg base 6 "say_at" lN gz :=
 yI.by (N:=["house","log","stamp","says"]) T.b T.f_say_at (by walk_at "sc") sQ (by have:=pE T;have:=gb T;have:=T.cl;walk_at "dvx") tT
def bC:wW:=λds M R RX=>∃(ps:List (Str×Int)) (rs:List (Str×List Str)) (log:List D) (s:D),ds=[aH ps rs,.tup log,s]/\St s/\(ps.map (·.1)).Nodup/\(∀d∈log,aK ps rs d)/\log.length<64/\(aQ (am rs log) s=none->RX (AA1 "NoMessage") M)/\∀e,aQ (am rs log) s=some e->R (lV (av [(s,e)] log) e) M
theorem jX:LenX bC dH:=by rintro ds M R RX ⟨ps,rs,log,s,rfl,_⟩;rfl
def eS:DTX:=xOf (bu (dCB bB (aa (ac 3) (aa (dCB bc (aa (ac 1) (aa (wE (ac 2) (ac 3)) af))) af))))
def hW:DTX:=BU (xSet (xCB gz (aa (ac 0) (aa (ac 1) (aa (ac 2) af)))) 3) (eS)
theorem lq:WpX bC 4 hW:=by
 rintro ds M R RX ⟨ps,rs,log,s,rfl,hs,pnd,hd,hl,hX,h⟩
 simp only[hW]
 walk_at "dl"
 refine⟨ps,rs,log,s,rfl,hs,pnd,hd,hl,λg=>.inl (hX g),λe hg=>?_⟩
 have hc:=(fR.mp (br hg)).1
 obtain⟨h1,h2⟩:=bw.en _ hc
 have hm:=bi h2
 have he:=hd _ hm.1
 obtain⟨t,z,k,rfl⟩:=hs
 simp only[eS]
 walk_at "dl"
 refine⟨ag,rfl,?_⟩
 rw[iW]
 refine⟨ps,rs,log,_,_,rfl,hd,by lia,fy,λp hp=>?_,λn B pB hB=>?_⟩
 ·rw[show p=(D.tup [.int t,.tup [.str z,.int k]],e) by simpa using hp];exact he.nm
 ·refine⟨ps,rs,e,n,_,rfl,he,hm.2,hB,?_⟩
  refine aX.keep (h e hg) ?_ ((AAY _ _).trans pB)
  exact rj (fG hd) he hm.2
theorem gf(T:Tops P w K mg base):yI P w K mg base 7 "message_at" dH bC :=
 yI.by (N:=["house","log","stamp","say"]) T.b T.f_message_at (by walk_at "sc") jX (by have:=dL T;have:=gc T;have:=vm T;walk_at "dvx") lq
noncomputable def zj(ns:List Int)(k:Nat):Int:=ns.getD k 0
def cJ:DSp:=λds M R=>∃(n:Nat) (ns:List Int) (k:Nat),ds=[.ref n,.int k]/\ao M n (ns.map D.int)/\R (.int (zj ns k)) M
theorem pT:dj cJ jk:=by rintro ds M R ⟨n,ns,k,rfl,_⟩;rfl
def iS:DTS:=bu (dC (.int 0))
def ng:DTS:=aB (dIf (aG (dOp qLt (ac 1) (dCB mB (aa (ac 0) af)))) (bu (dOp qIx (ac 0) (ac 1))) be) (iS)
theorem sf:WpT cJ 2 ng:=by
 rintro ds M R ⟨n,ns,k,rfl,hL,h⟩
 simp only[ng,iS]
 walk_at "dl"
 refine⟨_,hL,?_⟩
 unfold zj at h
 by_cases hk:k<ns.length
 ·rw[dT_ (by simpa using hk)]
  refine bQ ⟨_,hL,?_⟩
  rw[az (v:=.int ns[k]) (by rw[AAT,AA5 hk];rfl)]
  rw[AAR,AA5 hk]at h
  exact aX.now h
 ·rw[dF_ (by simpa using hk)]
  rw[AAR,ABB (by lia)]at h
  exact bF (aX.now h)
theorem sH(T:Tops P w K mg base):Cal P w K mg base 1 "_law_cell_at" jk cJ :=
 Cal.byD (N:=["_law_script","_law_k"]) T.b T.f_cell_at (by walk_at "sc") pT (by walk_at "dv") sf
def cr:DSp:=λds M R=>∃(c:Int),ds=[.int c]/\∀n:Int,R (.ref M.length) (M++[.lst [.int n]])
theorem sR:dj cr lO:=by rintro ds M R ⟨c,rfl,_⟩;rfl
def kE:DTS:=bu (iw (aa (ac 3) af))
def kF:DTS:=aW (dOp aV (dOp lG (ac 3) (dC (.int 2147483587))) (dOp uP (dOp lG (ac 5) (dC (.int 69621))) (dC (.int 2147483587)))) 3
def kG:DTS:=aB (aW (dOp uP (dOp lG (ac 2) (ac 2)) (dC (.int 2147483629))) 5) (kF)
def kH:DTS:=aB (mn (db (aa (dC (.int 16)) af)) (ay 4) (aB (aW (dOp uP (dOp aV (dOp aV (dOp lG (ac 2) (dC (.int 48271))) (dOp lG (dC (.int 7919)) (ac 4))) (dC (.int 11))) (dC (.int 2147483647))) 2) (kG))) (kE)
def kI:DTS:=aB (aW (dC (.int 0)) 3) (kH)
def kJ:DTS:=aB (aW (dOp uP (ac 1) (dC (.int 2147483647))) 2) (kI)
def kK:DTS:=aB (dIf (aG (dOp qEq (dOp uP (ac 0) (dC (.int 2))) (dC (.int 0)))) (bu (iw (aa (ac 1) af))) be) (kJ)
def qP:DTS:=aB (aW (dOp ph (ac 0) (dC (.int 2))) 1) (kK)
theorem tU:WpT cr 6 qP:=by
 rintro ds M R ⟨c,rfl,h⟩
 simp only[qP,kK]
 walk_at "dl"
 refine⟨⟨by decide,by decide⟩,by decide,⟨rfl,rfl⟩,?_⟩
 generalize hb:eqD M eqN (.int (c % 2)) (.int 0)=b
 cases b with
 | true=>exact bQ ⟨ap (by lia),.inl (h _)⟩
 | false =>
  refine bF ?_
  simp only[kJ,kI,kH]
  walk_at "dl"
  have r0:=rA (a:=c / 2) (b:=2147483647) (by decide)
  have r1:=rB (a:=c / 2) (b:=2147483647) (by decide)
  refine⟨by decide,⟨by decide,by decide⟩,?_⟩
  refine bo (λi S M'=>M'=M/\∃(nu to:Int) (a b:Option D),0<=nu/\nu<2147483647/\S=[some (.int c),some (.int (c / 2)),some (.int nu),some (.int to),a,b]) ?_ ?_ ⟨rfl,_,_,_,_,r0,r1,rfl⟩
  ·rintro S M' ⟨rfl,nu,to,a,b,_,_,rfl⟩
   refine⟨trivial,?_⟩
   simp only[kE]
   walk_at "dl"
   exact⟨ap (by lia),.inl (h _)⟩
  ·rintro i y S M' hy ⟨rfl,nu,to,a,b,n0,n1,rfl⟩ G hG
   obtain⟨hi,rfl⟩:=eD.mp hy
   refine⟨trivial,?_⟩
   walk_at "dl"
   refine⟨.inr ⟨by decide,by decide⟩,.inl ⟨by decide,by decide⟩,by decide,?_⟩
   have a0:=rA (a:=nu*48271+7919*(0+(i:Int))+11) (b:=2147483647) (by decide)
   have a1:=rB (a:=nu*48271+7919*(0+(i:Int))+11) (b:=2147483647) (by decide)
   generalize (nu*48271+7919*(0+(i:Int))+11) % 2147483647=nv at a0 a1
   simp only[kG,kF]
   walk_at "dl"
   refine⟨.inl ⟨by lia,by lia⟩,by decide,.inr ⟨by decide,by decide⟩,.inr ⟨by decide,by decide⟩,by decide,?_⟩
   exact Fgt.now (hG _ _ ⟨rfl,_,_,_,_,a0,a1,rfl⟩)
theorem jt(T:Tops P w K mg base):Cal P w K mg base 1 "_law_digits" lO cr :=
 Cal.byD (N:=["_law_cell","_law_rest","_law_number","_law_total","_law_k","_law_other"]) T.b T.f_digits (by walk_at "sc") sR (by walk_at "dv") tU
def aq:DSp:=λds M R=>∃(q:Nat) (m:Int),ds=[.ref q,.int m]/\HdP M q/\0<m/\m<100000000000/\∀i n:Int,0<=i->i<m->R (.int i) (M.set q (.lst [.int n]))
theorem xO:dj aq va:=by rintro ds M R ⟨q,m,rfl,_⟩;rfl
def qy:DTS:=bu (ac 2)
def qz:DTS:=aB (dAsg (dOp ph (dOp qIx (ac 0) (dC (.int 0))) (ac 1)) (yA (ac 0) (dC (.int 0)))) (qy)
def yK:DTS:=aB (aW (dOp uP (dOp qIx (ac 0) (dC (.int 0))) (ac 1)) 2) (qz)
theorem zq:WpT aq 3 yK:=by
 rintro ds M R ⟨q,m,rfl,⟨n,hq⟩,m0,m1,h⟩
 simp only[yK,qz,qy]
 walk_at "dl"
 refine⟨_,.inl hq,?_⟩
 rw[at0]
 refine⟨m0,_,.inl hq,?_⟩
 rw[at0]
 exact⟨⟨m0,by lia⟩,_,0,hq,rfl,.inl (h _ _ (rA m0) (rB m0))⟩
theorem cT(T:Tops P w K mg base):Cal P w K mg base 1 "_law_take" va aq :=
 Cal.byD (N:=["_law_held","_law_many","_law_digit"]) T.b T.f_take (by walk_at "sc") xO (by walk_at "dv") zq
def gY:DSp:=λds M R=>∃(q:Nat),ds=[.ref q]/\HdP M q/\∀(z:Str) (n:Int),z.length<=8->R (.str z) (M.set q (.lst [.int n]))
theorem xQ:dj gY vc:=by rintro ds M R ⟨q,rfl,_⟩;rfl
def qF:DTS:=bu (ac 2)
def qG:DTS:=aB (mn (db (aa (dOp aV (dC (.int 1)) (dCB aq (aa (ac 0) (aa (dC (.int 8)) af)))) af)) (ay 3) (aW (dOp aV (ac 2) (dOp qIx (ac 1) (dCB aq (aa (ac 0) (aa (dC (.int 26)) af))))) 2)) (qF)
def qH:DTS:=aB (aW (dC (.str "")) 2) (qG)
def yM:DTS:=aB (aW (dC (.str "abcdefghijklmnopqrstuvwxyz")) 1) (qH)
theorem zt:WpT gY 4 yM:=by
 rintro ds M R ⟨q,rfl,hq,h⟩
 have ql:=hq.lt
 simp only[yM,qH,qG]
 walk_at "dl"
 refine⟨q,8,rfl,hq,by decide,by decide,λi n i0 i1=>?_⟩
 have g0:=hq.start.set (n:=n) ql
 generalize M.set q (.lst [.int n])=B0 at g0
 walk_at "dl"
 refine⟨⟨by lia,by lia⟩,?_⟩
 refine bo (λj S M'=>Hl M M' q/\∃(z:Str) (a:Option D),z.length=j/\S=[some (.ref q),some (.str (AA1 "abcdefghijklmnopqrstuvwxyz")),some (.str z),a]) ?_ ?_ ⟨g0,AA1 "",_,by decide +kernel,rfl⟩
 ·rintro S M' ⟨g,z,a,zl,rfl⟩
  refine⟨trivial,?_⟩
  simp only[qF]
  walk_at "dl"
  rw[eA]at zl
  exact g.fin (.str _) λn=>h z n (by lia)
 ·rintro j y S M' hy ⟨g,z,a,zl,rfl⟩ G hG
  have hj:=(eD.mp hy).1
  refine⟨trivial,?_⟩
  walk_at "dl"
  refine⟨q,26,rfl,g.hd ql,by decide,by decide,λk n k0 k1=>?_⟩
  have g1:=g.set (n:=n) ql
  generalize M'.set q (.lst [.int n])=B1 at g1
  walk_at "dl"
  have hl:(AA1 "abcdefghijklmnopqrstuvwxyz").cps.toList.length=26:=by decide +kernel
  have hz:(AA1 "abcdefghijklmnopqrstuvwxyz").length=26:=by decide +kernel
  obtain⟨j',hj',ej,_⟩:=fg (xs:=(AA1 "abcdefghijklmnopqrstuvwxyz").cps.toList) k0 (by rw[hl];exact k1)
  refine⟨by rw[hz];exact ap (by lia),?_⟩
  rw[ej]
  have o1:∀c:Nat,(⟨#[c]⟩:Str).length=1:=λ_=>rfl
  refine⟨by rw[o1];exact ap (by lia),Fgt.now (hG _ _ ⟨g1,_,_,?_,rfl⟩)⟩
  rw[bG,o1,zl]
theorem vn(T:Tops P w K mg base):Cal P w K mg base 2 "_law_name" vc gY :=
 Cal.byD (N:=["_law_held","_law_letters","_law_name_here","_law_k"]) T.b T.f_name (by walk_at "sc") xQ (by have:=cT T;walk_at "dv") zt
def gB:DSp:=λds M R=>∃(q:Nat) (m:Int),ds=[.ref q,.int m]/\HdP M q/\1<=m/\m<=4/\∀(xs:List Str) (n:Int),xs.Nodup->1<=xs.length->xs.length<=4->(∀x∈xs,x.length<=8)->R (.ref M.length) (M.set q (.lst [.int n])++[.lst (xs.map .str)])
theorem vJ:dj gB pp:=by rintro ds M R ⟨q,m,rfl,_⟩;rfl
def iO:DTS:=bu (dCB iZ (aa (ac 4) af))
def iP:DTS:=dIf (aG (dOp ny (ac 6) (ac 4))) (ix (dMl bW (ac 4) (aa (ac 6) af))) be
def mM:DTS:=aB (dIf (aG (ac 2)) (aW (dSl (dSl (dOp aV (dSl (ac 3) dP (jZ (dC (.int 7)))) (ac 6)) dP (jZ (dOp aV (dCB mB (aa (ac 3) af)) (ac 5)))) dP (jZ (dC (.int 8)))) 6) be) (iP)
def mO:DTS:=aB (mn (mj (aa (dC (.int 1)) (aa (ac 1) af))) (ay 5) (aB (aW (dCB gY (aa (ac 0) af)) 6) (mM))) (iO)
def mP:DTS:=aB (aW (iw (aa (ac 3) af)) 4) (mO)
def mQ:DTS:=aB (aW (dCB gY (aa (ac 0) af)) 3) (mP)
def ua:DTS:=aB (aW (dOp qEq (dCB aq (aa (ac 0) (aa (dC (.int 2)) af))) (dC (.int 1))) 2) (mQ)
theorem wX:WpT gB 7 ua:=by
 rintro ds M R ⟨q,m,rfl,hq,m1,m4,h⟩
 have ql:=hq.lt
 simp only[ua]
 walk_at "dl"
 refine⟨q,2,rfl,hq,by decide,by decide,λi n _ _=>?_⟩
 have g0:=hq.start.set (n:=n) ql
 generalize M.set q (.lst [.int n])=B0 at g0
 refine⟨⟨rfl,rfl⟩,?_⟩
 generalize eqD B0 eqN (.int i) (.int 1)=al
 simp only[mQ]
 walk_at "dl"
 refine⟨q,rfl,g0.hd ql,λz n zl=>?_⟩
 have g1:=g0.set (n:=n) ql
 generalize B0.set q (.lst [.int n])=B1 at g1
 simp only[mP]
 walk_at "dl"
 refine⟨ap (by lia),?_⟩
 have g2:Hl M (B1++[MO.lst [D.str z]]) q:=g1.more
 have gp:(B1++[MO.lst [D.str z]])[B1.length]?=some (.lst ([z].map D.str)):=ag
 have pM:=g1.len
 generalize B1++[MO.lst [D.str z]]=B2 at g2 gp
 generalize B1.length=p at gp pM
 simp only[mO]
 walk_at "dl"
 refine⟨⟨by decide,by decide,by lia,by lia⟩,?_⟩
 refine bo (λj S M'=>Hl M M' q/\∃(xs:List Str) (a b:Option D),xs.Nodup/\1<=xs.length/\xs.length<=1+j/\(∀x∈xs,x.length<=8)/\M'[p]?=some (.lst (xs.map .str))/\S=[some (.ref q),some (.int m),some (.bl al),some (.str z),some (.ref p),a,b]) ?_ ?_ ⟨g2,[z],_,_,by simp,by simp,by simp,by simpa using zl,gp,rfl⟩
 ·rintro S M' ⟨g,xs,a,b,nd,x1,xl,x8,gp,rfl⟩
  rw[eA]at xl
  refine⟨trivial,?_⟩
  simp only[iO]
  walk_at "dl"
  refine⟨_,.inl gp,(xh (by lia)).g,λys hy _=>?_⟩
  obtain⟨zs,rfl,hp⟩:=nB hy
  have hl:=hp.length_eq
  exact(g.more (L:=[.lst (zs.map .str)])).finL g.len ag (qU _) λn=>h zs n (hp.nodup_iff.mpr nd) (by lia) (by lia) λx hx=>x8 x (hp.mem_iff.mp hx)
 ·rintro j y S M' hy ⟨g,xs,a,b,nd,x1,xl,x8,gp,rfl⟩ G hG
  obtain⟨hj,rfl⟩:=eD.mp hy
  refine⟨trivial,?_⟩
  walk_at "dl"
  refine⟨q,rfl,g.hd ql,λy n yl=>?_⟩
  have g3:=g.set (n:=n) ql
  have gp3:(M'.set q (.lst [.int n]))[p]?=some (.lst (xs.map .str)):=ax (by lia) gp
  generalize M'.set q (.lst [.int n])=B3 at g3 gp3
  have fin:∀y:Str,y.length<=8->iP ⟨Fgt B2 G,aX M R,λS' M'=>iO (EE M R) S' M',Fgt B2 G⟩ [some (.ref q),some (.int m),some (.bl al),some (.str z),some (.ref p),some (.int (1+(j:Int))),some (.str y)] B3:=λy yl=>by
   simp only[iP]
   walk_at "dl"
   refine⟨_,.inl gp3,⟨aZ,uF⟩,?_⟩
   rw[qa]
   by_cases hm:y∈xs
   ·rw[dT_ hm]
    exact bF (Fgt.now (hG _ _ ⟨g3,xs,_,_,nd,x1,by lia,x8,gp3,rfl⟩))
   ·rw[dF_ hm]
    refine bQ ⟨⟨_,.inl gp3⟩,_,gp3,aY (by rw[AA6];lia),?_⟩
    refine Fgt.now (hG _ _ ⟨g3.setO pM,xs++[y],_,_,?_,?_,?_,λx hx=>?_,?_,rfl⟩)
    ·exact ADn.mpr ⟨nd,by simp,λa ha b hb e=>hm (by rw[show b=y by simpa using hb]at e;exact e ▸ ha)⟩
    ·rw[AAE];lia
    ·rw[AAE,AAg];lia
    ·rcases AAk.mp hx with hx | hx
     ·exact x8 x hx
     ·rw[show x=y by simpa using hx];exact yl
    ·rw[AB8];exact fx gp3
  simp only[mM]
  walk_at "dl"
  cases al with
  | false=>exact bF (fin y yl)
  | true =>
   have s1:=Txt.slice_le z none (some 7)
   have s2:=Txt.slice_le (AE2 z none (some 7)++y) none (some ((z.length:Int)+(1+(j:Int))))
   rw[bG]at s2
   refine bQ ⟨ap (by lia),ap (by lia),ap (by lia),by rw[bG];exact ap (by lia),ap (by lia),?_⟩
   exact fin _ (xj _ 8)
theorem xD(T:Tops P w K mg base):Cal P w K mg base 3 "_law_names" pp gB :=
 Cal.byD (N:=["_law_held","_law_many","_law_alike","_law_base","_law_names_here","_law_k","_law_name_here"]) T.b T.f_names (by walk_at "sc") vJ (by have:=cT T;have:=vn T;walk_at "dv") wX
def iC:DSp:=λds M R=>∃(c:Int),ds=[.int c]/\∀ps rs,HouseF ps rs->R (aH ps rs) M
theorem vK:dj iC pz:=by rintro ds M R ⟨c,rfl,_⟩;rfl
structure HsD(M B:Mem)(q p:Nat)(ns:List Str):Prop where
 pre:M <+: B
 qM:M.length<=q
 hd:HdP B q
 ne:p≠q
 nm:B[p]?=some (.lst (ns.map .str))
section
variable{M B:Mem}{q p m:Nat}{ns:List Str}{n:Int}{x:MO}
theorem HsD.set(g:HsD M B q p ns):HsD M (B.set q (.lst [.int n])) q p ns:=⟨fh g.pre g.qM,g.qM,⟨n,AAV g.hd.lt⟩,g.ne,ax g.ne g.nm⟩
theorem HsD.more(g:HsD M B q p ns):HsD M (B++L) q p ns:=⟨g.pre.trans (AAY _ _),g.qM,by obtain⟨n,h⟩:=g.hd;exact⟨n,cY (AAY _ _) h⟩,g.ne,cY (AAY _ _) g.nm⟩
theorem HsD.setO(g:HsD M B q p ns)(h1:M.length<=m)(h2:q≠m)(h3:p≠m):HsD M (B.set m x) q p ns:=⟨fh g.pre h1,g.qM,by obtain⟨n,h⟩:=g.hd;exact⟨n,ax h2 h⟩,g.ne,ax h3 g.nm⟩
end
def mT:DTS:=bu (fH (aa (ac 3) (aa (dCB fT (aa (ac 4) af)) af)))
def mU:DTS:=ix (dMl bW (ac 4) (aa (fH (aa (ac 5) (aa (dCB fT (aa (ac 7) af)) af))) af))
def mV:DTS:=aB (kZ 1 [2,6] (db (aa (dCB mB (aa (ac 2) af)) af)) (ay 0) (aG (dOp qEq (dOp uP (dOp ph (ac 2) (dOp BK (dC (.int 1)) (ac 0))) (dC (.int 2))) (dC (.int 1)))) (dOp qIx (ac 1) (ac 0)) 7) (mU)
def iR:DTS:=aB (mn (dc (dCB gB (aa (ac 1) (aa (dOp aV (dC (.int 1)) (dCB aq (aa (ac 1) (aa (dC (.int 4)) af)))) af)))) (ay 5) (aB (aW (dOp aV (dC (.int 1)) (dCB aq (aa (ac 1) (aa (dOp Cu (dOp BK (dC (.int 1)) (dCB mB (aa (ac 2) af))) (dC (.int 1))) af)))) 6) (mV))) (mT)
def mW:DTS:=aB (aW (iw af) 4) (iR)
def mX:DTS:=aB (aW (dCB fT (aa (dLC 1 [1] (dc (ac 2)) (ay 0) wD (fH (aa (ac 0) (aa (dOp aV (dC (.int 1)) (dCB aq (aa (ac 1) (aa (dC (.int 3)) af)))) af)))) af)) 3) (mW)
def mY:DTS:=aB (aW (dCB gB (aa (ac 1) (aa (dOp aV (dC (.int 1)) (dCB aq (aa (ac 1) (aa (dC (.int 4)) af)))) af))) 2) (mX)
def uw:DTS:=aB (aW (dCB cr (aa (ac 0) af)) 1) (mY)
theorem AV(g:HsD M B q p ns)(n1:1<=ns.length)(n4:ns.length<=4)(rM:M.length<=r)(rq:r≠q)(rp:r≠p)(gr:B[r]?=some (.lst []))
  (h:∀rs:List (Str×List Str),1<=rs.length/\rs.length<=4->(rs.map (·.1)).Nodup->(∀r∈rs,r.2.length<=4)->R (aH ps rs) M) :
  iR (EE M R) [y0,some (.ref q),some (.ref p),some (.tup (ps.map cO)),some (.ref r),y5,y6,y7] B:=by
 simp only[iR]
 walk_at "dl"
 refine⟨q,4,rfl,g.hd,by decide,by decide,λi n i0 i1=>?_⟩
 have g0:=g.set (n:=n)
 have gr0:(B.set q (.lst [.int n]))[r]?=some (.lst []):=ax rq gr
 generalize B.set q (.lst [.int n])=B0 at g0 gr0
 refine⟨q,1+i,rfl,g0.hd,by lia,by lia,λws n wn w1 w4 w8=>?_⟩
 have g1:=g0.set (n:=n)
 have gr1:(B0.set q (.lst [.int n]))[r]?=some (.lst []):=ax rq gr0
 have bl:(B0.set q (.lst [.int n])).length=B0.length:=AAu ..
 have g2:=g1.more (L:=[.lst (ws.map .str)])
 have gr2:=ah (a:=.lst (ws.map .str)) gr1
 have gw:(B0.set q (.lst [.int n])++[.lst (ws.map .str)])[B0.length]?=some (.lst (ws.map .str)):=by rw[<-bl];exact ag
 have wM:M.length<=B0.length:=g0.pre.length_le
 have wq:B0.length≠q:=by have:=g0.hd.lt;lia
 have wp:B0.length≠p:=by have:=aC g0.nm;lia
 have wr:B0.length≠r:=by have:=aC gr0;lia
 generalize B0.set q (.lst [.int n])++[.lst (ws.map .str)]=B2 at g2 gr2 gw
 generalize B0.length=w at gw wM wq wp wr
 refine⟨_,.inl gw,λ_=>?_⟩
 refine bo (λj S M'=>∃(rs:List (Str×List Str)) (a b c:Option D),HsD M M' q p ns/\M'[r]?=some (.lst (rs.map lE))/\M'[w]?=some (.lst (ws.map .str))/\rs.map (·.1)=ws.take j/\rs.length=j/\(∀x∈rs,x.2.length<=4)/\S=[y0,some (.ref q),some (.ref p),some (.tup (ps.map cO)),some (.ref r),a,b,c]) ?_ ?_ ⟨[],_,_,_,g2,gr2,gw,rfl,rfl,(λ_ z=>nomatch z),rfl⟩
 ·rintro S M' ⟨rs,a,b,c,g,gr,gw,hn,hl,hm,rfl⟩
  rw[AA6]at hn hl
  rw[ACB]at hn
  refine⟨.inl gw,?_⟩
  simp only[mT]
  walk_at "dl"
  refine⟨_,.inl gr,ap (by lia),?_⟩
  refine aX.keep (h rs ⟨by lia,by lia⟩ (by rw[hn];exact wn) hm) ?_ g.pre
  refine .tup (.cons (.tup (Bels.of λd hd=>?_)) (.cons (.tup (Bels.of λd hd=>?_)) .nil))
  ·obtain⟨x,_,rfl⟩:=AAZ.mp hd
   exact .tup (.cons (.str _) (.cons (.int _) .nil))
  ·obtain⟨x,_,rfl⟩:=AAZ.mp hd
   exact .tup (.cons (.str _) (.cons (.tup (qU _)) .nil))
 ·rintro j y S M' hy ⟨rs,a,b,c,g,gr,gw,hn,hl,hm,rfl⟩ G hG
  rw[AAT]at hy
  obtain⟨s,hs,rfl⟩:=ABI.mp hy
  have hj:=(AA7.mp hs).1
  have et:ws.take (j+1)=ws.take j++[s]:=by rw[AD4,hs];rfl
  refine⟨.inl gw,?_⟩
  walk_at "dl"
  have pw:0<(1:Int)*2 ^ ns.length-1/\(1:Int)*2 ^ ns.length-1<100:=by
   have:ns.length=1\/ns.length=2\/ns.length=3\/ns.length=4:=by lia
   rcases this with e | e | e | e<;>rw[e]<;>decide
  refine⟨_,.inl g.nm,⟨by lia,by rw[AA6];lia,by decide⟩,?_⟩
  rw[AA6,ABU]
  refine⟨q,_,rfl,g.hd,pw.1,by lia,λi n i0 i1=>?_⟩
  have g3:=g.set (n:=n)
  have gr3:(M'.set q (.lst [.int n]))[r]?=some (.lst (rs.map lE)):=ax rq gr
  have gw3:(M'.set q (.lst [.int n]))[w]?=some (.lst (ws.map .str)):=ax wq gw
  generalize M'.set q (.lst [.int n])=B3 at g3 gr3 gw3
  simp only[mV]
  walk_at "dl"
  refine⟨_,.inl g3.nm,⟨by lia,by rw[AA6];lia⟩,?_⟩
  rw[AA6,ABU]
  refine mq (λys acc S M2=>∃(xs:List Str) (a2:Option D),acc=xs.map D.str/\xs.length+ys.length<=4/\(∀y∈ys,∃j:Nat,y=.int (0+(j:Int))/\j<ns.length)/\M2=B3/\S=[a2,some (.ref p),some (.int (1+i))]) ?_ ?_ _ _ _ _ ⟨[],_,rfl,by rw[AAq,eA];lia,λy' hy'=>?_,rfl,rfl⟩
  ·rintro acc S M2 ⟨xs,a2,rfl,xl4,_,rfl,rfl⟩
   rw[AAq,Nat.add_zero]at xl4
   refine⟨trivial,?_⟩
   simp only[mU]
   walk_at "dl"
   have g4:=g3.more (L:=[.lst (xs.map .str)])
   have gr4:=ah (a:=.lst (xs.map .str)) gr3
   have gw4:=ah (a:=.lst (xs.map .str)) gw3
   refine⟨⟨_,.inl gr4⟩,_,aF,ap (by lia),_,gr4,aY (by rw[AA6];lia),?_⟩
   refine Fgt.now (hG _ _ ⟨rs++[(s,xs)],_,_,_,g4.setO rM (ABO rq) (ABO rp),?_,ax wr gw4,?_,?_,λx hx=>?_,rfl⟩)
   ·rw[AB8];exact fx gr4
   ·rw[AB8,hn,et];rfl
   ·rw[AAE,hl];rfl
   ·rcases AAk.mp hx with hx | hx
    ·exact hm x hx
    ·rw[show x=(s,xs) by simpa using hx];exact xl4
  ·rintro y' ys acc S M2 ⟨xs,a2,rfl,xl,hy',rfl,rfl⟩ K hK
   obtain⟨j,rfl,hj⟩:=hy' y' (by simp)
   rw[AAL]at xl
   refine⟨trivial,?_⟩
   walk_at "dl"
   have e3:atI (ns.map D.str) (0+(j:Int))=some (.str (ns[j]'(by lia))):=by
    rw[Int.zero_add]
    exact az (by rw[AAT,AA5 (by lia)];rfl)
   have pw:BI (1+i) (1*2 ^ (0+(j:Int)).toNat):=by
    rw[Int.zero_add,ABU]
    have:j=0\/j=1\/j=2\/j=3:=by lia
    rcases this with rfl | rfl | rfl | rfl<;>exact⟨by decide,by decide⟩
   refine⟨⟨by lia,by lia,by decide⟩,pw,by decide,⟨lR,lR⟩,?_⟩
   split
   ·refine⟨_,.inl g3.nm,?_⟩
    rw[e3]
    exact⟨by rw[AA6];exact aY (by lia),hK _ _ _ ⟨xs++[_],_,by simp;rfl,by rw[AAE,AAg];lia,λz hz'=>hy' z (AA9 _ hz'),rfl,rfl⟩⟩
   ·exact hK _ _ _ ⟨xs,_,rfl,by lia,λz hz'=>hy' z (AA9 _ hz'),rfl,rfl⟩
  ·obtain⟨j,hj⟩:=AB3 hy'
   obtain⟨hlt,rfl⟩:=eD.mp hj
   exact⟨j,rfl,hlt⟩
theorem wY:WpT iC 8 uw:=by
 rintro ds M R ⟨c,rfl,h⟩
 simp only[uw]
 walk_at "dl"
 refine⟨c,rfl,λn=>?_⟩
 simp only[mY]
 walk_at "dl"
 refine⟨M.length,4,rfl,⟨n,ag⟩,by decide,by decide,λi n' i0 i1=>?_⟩
 rw[iW]
 refine⟨M.length,1+i,rfl,⟨n',ag⟩,by lia,by lia,λns n' nd n1 n4 n8=>?_⟩
 rw[iW]
 have e1:(M++[MO.lst [D.int n']]).length=M.length+1:=by simp
 have g:HsD M (M++[MO.lst [D.int n']]++[MO.lst (ns.map .str)]) M.length (M.length+1) ns:=⟨kO.trans kO,AA8 _,⟨n',ah ag⟩,by lia,by rw[<-e1];exact ag⟩
 have e2:∀n:Int,(M++[MO.lst [D.int n]]).length=M.length+1:=λn=>by simp
 rw[e2]
 generalize M++[MO.lst [D.int n']]++[MO.lst (ns.map .str)]=B at g
 generalize hq:M.length=q at g
 generalize q+1=p at g
 simp only[mX]
 walk_at "dl"
 refine⟨_,.inl g.nm,λ_=>?_⟩
 refine mq (λys acc S M1=>∃(ps:List (Str×Int)) (a:Option D) (i:Nat),HsD M M1 q p ns/\acc=ps.map cO/\ps.length=i/\ps.map (·.1)=ns.take i/\(∀x∈ps,(1<=x.2/\x.2<=3)/\x.1.length<=8)/\ys=(ns.map D.str).drop i/\i<=ns.length/\S=[a,some (.ref q)]) ?_ ?_ _ _ _ _ ⟨[],_,0,g,rfl,rfl,rfl,(λ_ z=>nomatch z),by simp,AAW _,rfl⟩
 ·rintro acc S M1 ⟨ps,a,i,g,rfl,pi,pn,hp,hd,im,rfl⟩
  have hi:i=ns.length:=by
   have:=congrArg ABk hd
   rw[AAq,ABb,AA6]at this
   lia
  refine⟨.inl g.nm,_,aF,?_⟩
  simp only[mW]
  walk_at "dl"
  refine⟨AAW _,?_⟩
  have g2:=(g.more (L:=[.lst (ps.map cO)])).more (L:=[.lst []])
  have pl:=g.pre.length_le
  have ql:=g.hd.lt
  have pl2:=aC g.nm
  have el:(M1++[MO.lst (ps.map cO)]).length=M1.length+1:=by simp
  refine AV g2 n1 n4 (by rw[el];lia) (by rw[el];lia) (by rw[el];lia) ag λrs r1 rn r4=>h ps rs ⟨⟨by lia,by lia⟩,λx hx=>(hp x hx).1,λx hx=>(hp x hx).2,r1,by rw[pn];exact nd.sublist (ADg _ _),rn,r4⟩
 ·rintro y ys acc S M1 ⟨ps,a,i,g,rfl,pi,pn,hp,hd,im,rfl⟩ K hK
  have hi:i<ns.length:=by
   have:=congrArg ABk hd
   rw[AAL,ABb,AA6]at this
   lia
  have hlt:i<(ns.map D.str).length:=by rw[AA6];exact hi
  rw[List.drop_eq_getElem_cons hlt]at hd
  injection hd with h1 h2
  rw[ACE]at h1
  subst h1
  refine⟨.inl g.nm,?_⟩
  walk_at "dl"
  refine⟨q,3,rfl,g.hd,by decide,by decide,λk n' k0 k1=>?_⟩
  refine⟨ap (by lia),by rw[AA6];exact aY (by lia),hK _ _ _ ⟨ps++[(ns[i],1+k)],_,i+1,g.set,by rw[AB8];rfl,by rw[AAE,pi];rfl,?_,λx hx=>?_,h2,by lia,rfl⟩⟩
  ·rw[AB8,pn,AD4,AA5 hi];rfl
  ·rcases AAk.mp hx with hx | hx
   ·exact hp x hx
   ·rw[show x=(ns[i],1+k) by simpa using hx]
    exact⟨⟨by show 1<=1+k;lia,by show 1+k<=3;lia⟩,n8 _ (AB4 hi)⟩
theorem xE(T:Tops P w K mg base):Cal P w K mg base 4 "_law_house" pz iC :=
 Cal.byD (N:=["_law_cell","_law_held","_law_names_here","_law_people","_law_rooms","_law_room","_law_bits","_law_members"]) T.b T.f_house (by walk_at "sc") vK (by have:=jt T;have:=cT T;have:=xD T;walk_at "dv") wY
def dU:DSp:=λds M R=>∃(q p:Nat) (xs:List Str),ds=[.ref q,.ref p]/\HdP M q/\p≠q/\ao M p (xs.map .str)/\1<=xs.length/\xs.length<=1000/\(∀x∈xs,x.length<=8)/\∀(x:Str) (n:Int),x.length<=100->R (.str x) (M.set q (.lst [.int n]))
theorem sP:dj dU lM:=by rintro ds M R ⟨q,p,xs,rfl,_⟩;rfl
def ko:DTS:=bu (dSl (ac 3) dP (jZ (dC (.int 60))))
def kq:DTS:=aW (dOp aV (ac 3) (dOp qIx (ac 6) (dCB aq (aa (ac 0) (aa (dC (.int 7)) af))))) 3
def kr:DTS:=aB (aW (iw (aa (dOp aV (dC (.str "@")) (ac 5)) (aa (dOp aV (dOp aV (dC (.str "@")) (ac 5)) (dC (.str " "))) (aa (dOp aV (dOp aV (dC (.str "@")) (ac 5)) (dC (.str "x"))) (aa (ac 5) (aa (dC (.str "hi ")) (aa (dC (.str "@")) (aa (dOp aV (dC (.str "@")) (ac 5)) af)))))))) 6) (kq)
def kt:DTS:=aB (mn (db (aa (dOp aV (dC (.int 1)) (dCB aq (aa (ac 0) (aa (dC (.int 4)) af)))) af)) (ay 4) (aB (aW (dOp qIx (ac 1) (dCB aq (aa (ac 0) (aa (dCB mB (aa (ac 1) af)) af)))) 5) (kr))) (ko)
def ku:DTS:=bu (ac 3)
def kw:DTS:=aB (dIf (aG (dOp qEq (dCB aq (aa (ac 0) (aa (dC (.int 3)) af))) (dC (.int 0)))) (aB (mn (db (aa (dOp aV (dC (.int 1)) (dCB aq (aa (ac 0) (aa (dC (.int 60)) af)))) af)) (ay 4) (aW (dOp aV (ac 3) (dOp qIx (ac 2) (dCB aq (aa (ac 0) (aa (dC (.int 94)) af))))) 3)) (ku)) be) (kt)
def kz:DTS:=aB (aW (dC (.str "")) 3) (kw)
def qA:DTS:=aB (aW (dC (.str " !\"#$&'()*+,-./0123456789:;<=>?@ABCDEFGHIJKLMNOPQRSTUVWXYZ[\\]^_`abcdefghijklmnopqrstuvwxyz{|}~")) 2) (kz)
theorem tR:WpT dU 7 qA:=by
 rintro ds M R ⟨q,p,xs,rfl,hq,pq,hL,x1,xl,x8,h⟩
 have ql:=hq.lt
 have hl:(AA1 " !\"#$&'()*+,-./0123456789:;<=>?@ABCDEFGHIJKLMNOPQRSTUVWXYZ[\\]^_`abcdefghijklmnopqrstuvwxyz{|}~").cps.toList.length=94:=by decide +kernel
 have hz:(AA1 " !\"#$&'()*+,-./0123456789:;<=>?@ABCDEFGHIJKLMNOPQRSTUVWXYZ[\\]^_`abcdefghijklmnopqrstuvwxyz{|}~").length=94:=by decide +kernel
 simp only[qA,kz,kw]
 generalize AA1 " !\"#$&'()*+,-./0123456789:;<=>?@ABCDEFGHIJKLMNOPQRSTUVWXYZ[\\]^_`abcdefghijklmnopqrstuvwxyz{|}~" = sg at hl hz
 walk_at "dl"
 refine⟨q,3,rfl,hq,by decide,by decide,λi n _ _=>?_⟩
 have g0:=hq.start.set (n:=n) ql
 generalize M.set q (.lst [.int n])=B0 at g0
 refine⟨⟨rfl,rfl⟩,?_⟩
 generalize eqD B0 eqN (.int i) (.int 0)=b
 have o1:∀c:Nat,(⟨#[c]⟩:Str).length=1:=λ_=>rfl
 cases b with
 | true =>
  refine bQ ⟨q,60,rfl,g0.hd ql,by decide,by decide,λi n i0 i1=>?_⟩
  have g1:=g0.set (n:=n) ql
  generalize B0.set q (.lst [.int n])=B1 at g1
  walk_at "dl"
  refine⟨⟨by lia,by lia⟩,?_⟩
  refine bo (λj S M'=>Hl M M' q/\∃(z:Str) (a:Option D),z.length=j/\S=[some (.ref q),some (.ref p),some (.str sg),some (.str z),a,none,none]) ?_ ?_ ⟨g1,AA1 "",_,by decide +kernel,rfl⟩
  ·rintro S M' ⟨g,z,a,zl,rfl⟩
   refine⟨trivial,?_⟩
   simp only[ku]
   walk_at "dl"
   exact g.fin (.str _) λn=>h z n (by rw[eA]at zl;lia)
  ·rintro j y S M' hy ⟨g,z,a,zl,rfl⟩ G hG
   have hj:=(eD.mp hy).1
   refine⟨trivial,?_⟩
   walk_at "dl"
   refine⟨q,94,rfl,g.hd ql,by decide,by decide,λk n k0 k1=>?_⟩
   have g2:=g.set (n:=n) ql
   generalize M'.set q (.lst [.int n])=B2 at g2
   obtain⟨j',hj',ej,_⟩:=fg (xs:=sg.cps.toList) k0 (by rw[hl];exact k1)
   refine⟨by rw[hz];exact ap (by lia),?_⟩
   rw[ej]
   refine⟨by rw[o1];exact ap (by lia),Fgt.now (hG _ _ ⟨g2,_,_,?_,rfl⟩)⟩
   rw[bG,o1,zl]
 | false =>
  refine bF ?_
  simp only[kt]
  walk_at "dl"
  refine⟨q,4,rfl,g0.hd ql,by decide,by decide,λi n i0 i1=>?_⟩
  have g1:=g0.set (n:=n) ql
  generalize B0.set q (.lst [.int n])=B1 at g1
  walk_at "dl"
  refine⟨⟨by lia,by lia⟩,?_⟩
  refine bo (λj S M'=>Hl M M' q/\∃(z:Str) (a b c:Option D),z.length<=20*j/\S=[some (.ref q),some (.ref p),some (.str sg),some (.str z),a,b,c]) ?_ ?_ ⟨g1,AA1 "",_,_,_,by decide +kernel,rfl⟩
  ·rintro S M' ⟨g,z,a,b,c,zl,rfl⟩
   rw[eA]at zl
   refine⟨trivial,?_⟩
   simp only[ko]
   walk_at "dl"
   exact⟨ap (by lia),g.fin (.str _) λn=>h _ n (by have:=Txt.slice_le z none (some 60);lia)⟩
  ·rintro j y S M' hy ⟨g,z,a,b,c,zl,rfl⟩ G hG
   have hj:=(eD.mp hy).1
   have hL':=g.oldL pq hL
   refine⟨trivial,?_⟩
   walk_at "dl"
   refine⟨_,hL',q,_,rfl,g.hd ql,by rw[AA6];lia,by rw[AA6];lia,λk n k0 k1=>?_⟩
   have g2:=g.set (n:=n) ql
   have hL2:=g2.oldL pq hL
   generalize M'.set q (.lst [.int n])=B2 at g2 hL2
   obtain⟨j',hj',ej,_⟩:=fg (xs:=xs.map D.str) k0 k1
   rw[ACE]at ej
   have w8:=x8 _ (AB4 (by rw[AA6]at hj';exact hj'))
   refine⟨_,hL2,?_⟩
   rw[ej]
   generalize xs[j']'(by rw[AA6]at hj';exact hj')=w at w8
   have sa:(AA1 "@").length=1:=by decide +kernel
   have sb:(AA1 " ").length=1:=by decide +kernel
   have sx:(AA1 "x").length=1:=by decide +kernel
   have sh:(AA1 "hi ").length=3:=by decide +kernel
   simp only[kr]
   walk_at "dl"
   refine⟨by rw[sa];exact ap (by lia),by rw[sa];exact ap (by lia),by rw[bG,sa,sb];exact ap (by lia),by rw[sa];exact ap (by lia),by rw[bG,sa,sx];exact ap (by lia),by rw[sa];exact ap (by lia),ap (by lia),?_⟩
   simp only[kq]
   walk_at "dl"
   refine⟨q,7,rfl,(g2.more).hd ql,by decide,by decide,λk n k0 k1=>?_⟩
   have g3:=(g2.more (L:=[.lst [.str (AA1 "@" ++ w),.str (AA1 "@" ++ w++AA1 " "),.str (AA1 "@" ++ w++AA1 "x"),.str w,.str (AA1 "hi "),.str (AA1 "@"),.str (AA1 "@" ++ w)]])).set (n:=n) ql
   have gl:((B2++[MO.lst [.str (AA1 "@" ++ w),.str (AA1 "@" ++ w++AA1 " "),.str (AA1 "@" ++ w++AA1 "x"),.str w,.str (AA1 "hi "),.str (AA1 "@"),.str (AA1 "@" ++ w)]]).set q (.lst [.int n]))[B2.length]?=some (.lst [.str (AA1 "@" ++ w),.str (AA1 "@" ++ w++AA1 " "),.str (AA1 "@" ++ w++AA1 "x"),.str w,.str (AA1 "hi "),.str (AA1 "@"),.str (AA1 "@" ++ w)]):=ax (by have:=g2.len;lia) ag
   have ex:∃s:Str,atI [D.str (AA1 "@" ++ w),.str (AA1 "@" ++ w++AA1 " "),.str (AA1 "@" ++ w++AA1 "x"),.str w,.str (AA1 "hi "),.str (AA1 "@"),.str (AA1 "@" ++ w)] k=some (.str s)/\s.length<=20:=by
    have:k=0\/k=1\/k=2\/k=3\/k=4\/k=5\/k=6:=by lia
    rcases this with rfl | rfl | rfl | rfl | rfl | rfl | rfl
    ·exact⟨_,az (j:=0) rfl,by rw[bG,sa];lia⟩
    ·exact⟨_,az (j:=1) rfl,by rw[bG,bG,sa,sb];lia⟩
    ·exact⟨_,az (j:=2) rfl,by rw[bG,bG,sa,sx];lia⟩
    ·exact⟨_,az (j:=3) rfl,by lia⟩
    ·exact⟨_,az (j:=4) rfl,by rw[sh];lia⟩
    ·exact⟨_,az (j:=5) rfl,by rw[sa];lia⟩
    ·exact⟨_,az (j:=6) rfl,by rw[bG,sa];lia⟩
   obtain⟨s,es,sl⟩:=ex
   refine⟨_,.inl gl,?_⟩
   rw[es]
   refine⟨ap (by lia),Fgt.now (hG _ _ ⟨g3,_,_,_,_,?_,rfl⟩)⟩
   rw[bG];lia
theorem vj(T:Tops P w K mg base):Cal P w K mg base 2 "_law_saying" lM dU :=
 Cal.byD (N:=["_law_held","_law_names_here","_law_signs","_law_saying_here","_law_k","_law_name_here","_law_pieces"]) T.b T.f_saying (by walk_at "sc") sP (by have:=cT T;walk_at "dv") tR
def bN:DSp:=λds M R=>∃(q p s:Nat) (hs sts:List D),ds=[.ref q,.ref p,.ref s]/\HdP M q/\p≠q/\s≠q/\ao M p hs/\(∀x∈hs,Hd x)/\1<=hs.length/\hs.length<=12/\ao M s sts/\(∀x∈sts,St x)/\sts.length<=1000/\∀(d:D) (n:Int),St d->R d (M.set q (.lst [.int n]))
theorem xP:dj bN vb:=by rintro ds M R ⟨q,p,s,hs,sts,rfl,_⟩;rfl
theorem St.bel(h:St d):Bel k d:=cC 2 d h.pl
def qC:DTS:=bu (dOp qIx (ac 2) (dCB aq (aa (ac 0) (aa (dCB mB (aa (ac 2) af)) af))))
def qD:DTS:=aB (dIf (aG (dOp qEq (ac 3) (dC (.int 1)))) (bu (fH (aa (dOp aV (dC (.int 1)) (dCB aq (aa (ac 0) (aa (dOp zJ (dC (.int 10)) (dC (.int 9))) af)))) (aa (dOp qIx (ac 1) (dCB aq (aa (ac 0) (aa (dCB mB (aa (ac 1) af)) af)))) af)))) be) (qC)
def qE:DTS:=aB (dIf (dOr (aG (dOp qEq (ac 3) (dC (.int 0)))) (aG (dOp qEq (ac 2) (iw af)))) (bu (fH (aa (dOp aV (dC (.int 1)) (dCB aq (aa (ac 0) (aa (dC (.int 70)) af)))) (aa (dOp qIx (ac 1) (dCB aq (aa (ac 0) (aa (dCB mB (aa (ac 1) af)) af)))) af)))) be) (qD)
def yL:DTS:=aB (aW (dCB aq (aa (ac 0) (aa (dC (.int 8)) af))) 3) (qE)
theorem lJ(ql:q<M.length)(pq:p≠q)(hp:ao M p hs)(hh:∀x∈hs,Hd x)(h1:1<=hs.length)(h12:hs.length<=12)(h:∀(d:D) (n:Int),St d->R d (M.set q (.lst [.int n])))(g:Hl M B q)(ht:∀S B Q,Q (.int m) B->tm S B Q)(m0:0<m)(m1:m<100000000000) :
  (bu (fH (aa (dOp aV (dC (.int 1)) (dCB aq (aa (ac 0) (aa tm af)))) (aa (dOp qIx (ac 1) (dCB aq (aa (ac 0) (aa (dCB mB (aa (ac 1) af)) af)))) af)))) (EE M R) [some (.ref q),some (.ref p),y2,y3] B:=by
 walk_at "dl"
 refine ht _ _ _ ?_
 refine⟨q,m,rfl,g.hd ql,m0,m1,λi n i0 i1=>?_⟩
 have g1:=g.set (n:=n) ql
 generalize B.set q (.lst [.int n])=B1 at g1
 refine⟨hs,g1.oldL pq hp,q,_,rfl,g1.hd ql,by lia,by lia,λk n k0 k1=>?_⟩
 have g2:=g1.set (n:=n) ql
 generalize B1.set q (.lst [.int n])=B2 at g2
 obtain⟨j,hj,ej,_⟩:=fg (xs:=hs) k0 k1
 obtain⟨z,k2,ez⟩:=hh _ (AB4 hj)
 refine⟨hs,g2.oldL pq hp,?_⟩
 rw[ej]
 have:St (.tup [.int (1+i),hs[j]]):=⟨1+i,z,k2,by rw[ez]⟩
 exact⟨ap (by lia),g2.fin this.bel λn=>h _ n this⟩
theorem zr:WpT bN 4 yL:=by
 rintro ds M R ⟨q,p,s,hs,sts,rfl,hq,pq,sq,hp,hh,h1,h12,hs',hst,sl,h⟩
 have ql:=hq.lt
 have ok29:∀{B:Mem},∀x∈sts,okD B 29 x=true:=λ{B} x hx=>by obtain⟨t,z,k,rfl⟩:=hst x hx;rfl
 simp only[yL]
 walk_at "dl"
 refine⟨q,8,rfl,hq,by decide,by decide,λi n _ _=>?_⟩
 have g0:=hq.start.set (n:=n) ql
 generalize M.set q (.lst [.int n])=B0 at g0
 simp only[qE]
 walk_at "dl"
 refine⟨⟨rfl,rfl⟩,?_⟩
 generalize eqD B0 eqN (.int i) (.int 0)=b0
 cases b0 with
 | true=>exact bQ (lJ (m:=70) (tm:=dC (.int 70)) (y2:=some (.ref s)) (y3:=some (.int i)) ql pq hp hh h1 h12 h g0 (λ_ _ _ q=>q) (by decide) (by decide))
 | false =>
  refine bF ?_
  obtain⟨okk,ee⟩:=lU (g0.oldL sq hs') ok29
  refine⟨AAW _,okk,?_⟩
  rw[ee]
  have g1:=g0.more (L:=[.lst []])
  generalize B0++[MO.lst []]=B1 at g1
  cases he:sts.isEmpty with
  | true=>exact bQ (lJ (m:=70) (tm:=dC (.int 70)) (y2:=some (.ref s)) (y3:=some (.int i)) ql pq hp hh h1 h12 h g1 (λ_ _ _ q=>q) (by decide) (by decide))
  | false =>
   refine bF ?_
   simp only[qD]
   walk_at "dl"
   refine⟨⟨rfl,rfl⟩,?_⟩
   generalize eqD B1 eqN (.int i) (.int 1)=b1
   cases b1 with
   | true=>exact bQ (lJ (m:=10 ^ Int.toNat 9) (tm:=dOp zJ (dC (.int 10)) (dC (.int 9))) (y2:=some (.ref s)) (y3:=some (.int i)) ql pq hp hh h1 h12 h g1 (λ_ _ _ q=>⟨⟨by decide,by decide,by decide⟩,q⟩) (by decide) (by decide))
   | false =>
    refine bF ?_
    simp only[qC]
    walk_at "dl"
    have s1:1<=sts.length:=by
     cases sts with
     | nil=>cases he
     | cons x xs=>simp
    refine⟨sts,g1.oldL sq hs',q,_,rfl,g1.hd ql,by lia,by lia,λk n k0 k1=>?_⟩
    have g2:=g1.set (n:=n) ql
    generalize B1.set q (.lst [.int n])=B2 at g2
    obtain⟨j,hj,ej,_⟩:=fg (xs:=sts) k0 k1
    refine⟨sts,g2.oldL sq hs',?_⟩
    rw[ej]
    have hx:=hst _ (AB4 hj)
    exact g2.fin hx.bel λn=>h _ n hx
theorem pD(T:Tops P w K mg base):Cal P w K mg base 2 "_law_pick" vb bN :=
 Cal.byD (N:=["_law_held","_law_hands_here","_law_says","_law_way"]) T.b T.f_pick (by walk_at "sc") xP (by have:=cT T;walk_at "dv") zr
def gy:DSp:=λds M R=>∃(q p t:Nat) (hs:List D) (kvs:List (D×D)),ds=[.ref q,.ref p,.ref t]/\HdP M q/\p≠q/\t≠q/\ao M p hs/\(∀x∈hs,Hd x)/\hs.length<=12/\M[t]?=some (.dkt kvs)/\(∀x∈kvs,∃v:Int,x.2=.int v/\0<=v/\v<=1000)/\∀(vs:List D) (n:Int),kb 3 vs->VecK vs->R (.tup vs) (M.set q (.lst [.int n]))
theorem sO:dj gy lL:=by rintro ds M R ⟨q,p,t,hs,kvs,rfl,_⟩;rfl
theorem kb.snoc(h:kb n ds)(t:Pln n d):kb n (ds++[d]):=by
 unfold kb at h ⊢
 rw[List.all_append,h]
 simpa [Pln]using t
def kg:DTS:=bu (dCB fT (aa (ac 3) af))
def kh:DTS:=dIf (aG (dOp qGt (ac 5) (dC (.int 0)))) (ix (dMl bW (ac 3) (aa (fH (aa (ac 4) (aa (ac 5) af))) af))) be
def ki:DTS:=aB (mn (dc (ac 1)) (ay 4) (aB (aW (dCB aq (aa (ac 0) (aa (dOp aV (dMt fU (ac 2) (aa (ac 4) (aa (dC (.int 0)) af))) (dC (.int 3))) af))) 5) (kh))) (kg)
def qx:DTS:=aB (aW (iw af) 3) (ki)
theorem tQ:WpT gy 6 qx:=by
 rintro ds M R ⟨q,p,t,hs,kvs,rfl,hq,pq,tq,hp,hh,h12,ht,hv,h⟩
 have ql:=hq.lt
 simp only[qx,ki]
 walk_at "dl"
 refine⟨AAW _,_,hp.more _,λ_=>?_⟩
 have g0:Hl M (M++[MO.lst []]) q:=hq.start.more
 refine bo (λi S M'=>∃(vs:List D) (a b:Option D),Hl M M' q/\M'[M.length]?=some (.lst vs)/\kb 3 vs/\(∃ws:List (D×Int),vs=vecD ws/\(∀p∈ws,Hd p.1)/\ws.length<=i)/\vs.length<=i/\S=[some (.ref q),some (.ref p),some (.ref t),some (.ref M.length),a,b]) ?_ ?_ ⟨[],_,_,g0,ag,.nil,⟨[],rfl,(λ_ z=>nomatch z),AA8 _⟩,AA8 _,rfl⟩
 ·rintro S M' ⟨vs,a,b,g,gv,pv,⟨ws,ew,hw,wl⟩,vl,rfl⟩
  refine⟨g.oldL pq hp,?_⟩
  simp only[kg]
  walk_at "dl"
  exact⟨_,.inl gv,g.fin (cC 4 _ (.tup pv)) λn=>h vs n pv ⟨ws,ew,hw,by lia⟩⟩
 ·rintro i y S M' hy ⟨vs,a,b,g,gv,pv,⟨ws,ew,hw,wl⟩,vl,rfl⟩ G hG
  have hi:=(AA7.mp hy).1
  obtain⟨z,k,rfl⟩:=hh y (AAo hy)
  refine⟨g.oldL pq hp,?_⟩
  walk_at "dl"
  have gt:=g.old tq ht
  refine⟨⟨_,gt⟩,_,gt,rfl,?_⟩
  have hg:∃v:Int,(aQ kvs (.tup [.str z,.int k])).getD (.int 0)=.int v/\0<=v/\v<=1000:=by
   cases e:aQ kvs (.tup [.str z,.int k]) with
   | none=>exact⟨0,rfl,by decide,by decide⟩
   | some d=>exact hv _ (br e)
  obtain⟨v,ev,v0,v1⟩:=hg
  rw[ev]
  refine⟨q,v+3,rfl,g.hd ql,by lia,by lia,λc n c0 c1=>?_⟩
  have g1:=g.set (n:=n) ql
  have gv1:(M'.set q (.lst [.int n]))[M.length]?=some (.lst vs):=ax (by lia) gv
  generalize M'.set q (.lst [.int n])=B1 at g1 gv1
  simp only[kh]
  walk_at "dl"
  by_cases hc:c > 0
  ·rw[dT_ hc]
   refine bQ ⟨⟨_,.inl gv1⟩,ap (by lia),_,gv1,aY (by lia),?_⟩
   exact Fgt.now (hG _ _ ⟨_,_,_,g1.setO (AA8 _),fx gv1,pv.snoc (.tup (.cons (yi ⟨_,_,rfl⟩) (.cons (.int _) .nil))),⟨ws++[(.tup [.str z,.int k],c)],by rw[ew];unfold vecD;rw[AB8];rfl,λp hp=>by
    rcases AAk.mp hp with hp | hp
    ·exact hw p hp
    ·rw[ABA.mp hp];exact⟨_,_,rfl⟩,by rw[AAE,AAg];lia⟩,by rw[AAE,AAg];lia,rfl⟩)
  ·rw[dF_ hc]
   exact bF (Fgt.now (hG _ _ ⟨vs,_,_,g1,gv1,pv,⟨ws,ew,hw,by lia⟩,by lia,rfl⟩))
theorem vh(T:Tops P w K mg base):Cal P w K mg base 2 "_law_vector" lL gy :=
 Cal.byD (N:=["_law_held","_law_hands_here","_law_done","_law_found","_law_hand","_law_count"]) T.b T.f_vector (by walk_at "sc") sO (by have:=cT T;walk_at "dv") tQ
def mv:DSp:=λds M R=>∃(q p s:Nat) (ps:List (Str×Int)) (rs:List (Str×List Str)) (hs sts:List D),ds=[.ref q,aH ps rs,.ref p,.ref s]/\HdP M q/\HouseF ps rs/\p≠q/\s≠q/\ao M p hs/\(∀x∈hs,Hd x)/\1<=hs.length/\hs.length<=12/\ao M s sts/\(∀x∈sts,St x)/\sts.length<=1000/\∀(d:D) (n:Int),lg d->R d (M.set q (.lst [.int n]))
theorem xN:dj mv uZ:=by rintro ds M R ⟨q,p,s,ps,rs,hs,sts,rfl,_⟩;rfl
def qu:DTS:=bu (fH (aa (dC (.str "under")) (aa (dCB bN (aa (ac 0) (aa (ac 2) (aa (ac 3) af)))) af)))
def qv:DTS:=aB (dIf (aG (dOp qEq (ac 4) (dC (.int 1)))) (bu (fH (aa (dC (.str "person")) (aa (dOp qIx (dOp qIx (dOp qIx (ac 1) (dC (.int 0))) (dCB aq (aa (ac 0) (aa (dCB mB (aa (dOp qIx (ac 1) (dC (.int 0))) af)) af)))) (dC (.int 0))) af)))) be) (qu)
def qw:DTS:=aB (dIf (aG (dOp qEq (ac 4) (dC (.int 0)))) (bu (fH (aa (dC (.str "room")) (aa (dOp qIx (dOp qIx (dOp qIx (ac 1) (dC (.int 1))) (dCB aq (aa (ac 0) (aa (dCB mB (aa (dOp qIx (ac 1) (dC (.int 1))) af)) af)))) (dC (.int 0))) af)))) be) (qv)
def yJ:DTS:=aB (aW (dCB aq (aa (ac 0) (aa (dC (.int 3)) af))) 4) (qw)
theorem zp:WpT mv 5 yJ:=by
 rintro ds M R ⟨q,p,s,ps,rs,hs,sts,rfl,hq,hf,pq,sq,hp,hh,h1,h12,hs',hst,sl,h⟩
 have ql:=hq.lt
 have l1:=hf.len
 have l2:=hf.rl
 simp only[yJ,aH]
 walk_at "dl"
 refine⟨q,3,rfl,hq,by decide,by decide,λi n _ _=>?_⟩
 have g0:=hq.start.set (n:=n) ql
 generalize M.set q (.lst [.int n])=B0 at g0
 simp only[qw]
 walk_at "dl"
 refine⟨⟨rfl,rfl⟩,?_⟩
 generalize eqD B0 eqN (.int i) (.int 0)=b0
 cases b0 with
 | true =>
  refine bQ ⟨q,_,rfl,g0.hd ql,by rw[AA6];lia,by rw[AA6];lia,λk n k0 k1=>?_⟩
  have g1:=g0.set (n:=n) ql
  generalize B0.set q (.lst [.int n])=B1 at g1
  obtain⟨j,hj,ej,_⟩:=fg (xs:=rs.map lE) k0 k1
  rw[ACE]at ej
  walk_at "dl"
  rw[ej]
  unfold lE
  walk_at "dl"
  refine⟨ap (by lia),g1.fin (.tup (.cons (.str _) (.cons (.str _) .nil))) λn=>h _ n (.inl ⟨_,rfl⟩)⟩
 | false =>
  refine bF ?_
  simp only[qv]
  walk_at "dl"
  refine⟨⟨rfl,rfl⟩,?_⟩
  generalize eqD B0 eqN (.int i) (.int 1)=b1
  cases b1 with
  | true =>
   refine bQ ⟨q,_,rfl,g0.hd ql,by rw[AA6];lia,by rw[AA6];lia,λk n k0 k1=>?_⟩
   have g1:=g0.set (n:=n) ql
   generalize B0.set q (.lst [.int n])=B1 at g1
   obtain⟨j,hj,ej,_⟩:=fg (xs:=ps.map cO) k0 k1
   rw[ACE]at ej
   walk_at "dl"
   rw[ej]
   unfold cO
   walk_at "dl"
   refine⟨ap (by lia),g1.fin (.tup (.cons (.str _) (.cons (.str _) .nil))) λn=>h _ n (.inr (.inl ⟨_,rfl⟩))⟩
  | false =>
   refine bF ?_
   simp only[qu]
   walk_at "dl"
   refine⟨q,p,s,hs,sts,rfl,g0.hd ql,pq,sq,g0.oldL pq hp,hh,h1,h12,g0.oldL sq hs',hst,sl,λd n hd=>?_⟩
   have g1:=g0.set (n:=n) ql
   generalize B0.set q (.lst [.int n])=B1 at g1
   exact⟨ap (by lia),g1.fin (.tup (.cons (.str _) (.cons hd.bel .nil))) λn=>h _ n (.inr (.inr (by obtain⟨t,z,k,rfl⟩:=hd;exact⟨t,z,k,rfl⟩)))⟩
theorem Ag(T:Tops P w K mg base):Cal P w K mg base 3 "_law_what" uZ mv :=
 Cal.byD (N:=["_law_held","_law_house_here","_law_hands_here","_law_says","_law_way"]) T.b T.f_what (by walk_at "sc") xN (by have:=cT T;have:=pD T;walk_at "dv") zp
def rV:DSp:=λds M R=>∃(q p s t:Nat) (ps:List (Str×Int)) (rs:List (Str×List Str)) (hs sts:List D) (kvs:List (D×D)),ds=[.ref q,aH ps rs,.ref p,.ref s,.ref t]/\HdP M q/\HouseF ps rs/\(p≠q/\s≠q/\t≠q)/\ao M p hs/\(∀x∈hs,Hd x)/\1<=hs.length/\hs.length<=12/\ao M s sts/\(∀x∈sts,St x)/\sts.length<=1000/\M[t]?=some (.dkt kvs)/\(∀x∈kvs,∃v:Int,x.2=.int v/\0<=v/\v<=1000)/\∀(x:Str) (dl:List D) (n:Int),kb 4 dl->ActK rs x dl->R (.tup (.str x::dl)) (M.set q (.lst [.int n]))
theorem As:dj rV Ac:=by rintro ds M R ⟨q,p,s,t,ps,rs,hs,sts,kvs,rfl,_⟩;rfl
theorem dS(g:Hl M B q)(h:∀(x:Str) (dl:List D) (n:Int),kb 4 dl->ActK rs x dl->R (.tup (.str x::dl)) (M.set q (.lst [.int n])))(hp:kb 4 dl)(ha:ActK rs x dl):aX M R (.tup (.str x::dl)) B :=
 g.fin (cC 5 _ (.tup (.cons (.str _) hp))) λn=>h x dl n hp ha
def qQ:DTS:=bu (fH (aa (dC (.str "rung")) (aa (dCB bN (aa (ac 0) (aa (ac 2) (aa (ac 3) af)))) af)))
def qR:DTS:=aB (dIf (aG (dOp qEq (ac 5) (dC (.int 9)))) (bu (fH (aa (dC (.str "hush")) (aa (dCB mv (aa (ac 0) (aa (ac 1) (aa (ac 2) (aa (ac 3) af))))) (aa (dOp qGt (dCB aq (aa (ac 0) (aa (dC (.int 3)) af))) (dC (.int 0))) af))))) be) (qQ)
def qS:DTS:=aB (dIf (aG (dOp qEq (ac 5) (dC (.int 8)))) (bu (fH (aa (dC (.str "seen")) (aa (dCB bN (aa (ac 0) (aa (ac 2) (aa (ac 3) af)))) af)))) be) (qR)
def qT:DTS:=aB (dIf (aG (dOp qEq (ac 5) (dC (.int 7)))) (bu (fH (aa (dC (.str "read")) (aa (ac 7) (aa (dCB gy (aa (ac 0) (aa (ac 2) (aa (ac 4) af)))) af))))) be) (qS)
def uy:DTS:=bu (fH (aa (dC (.str "like")) (aa (dCB bN (aa (ac 0) (aa (ac 2) (aa (ac 3) af)))) (aa (ac 9) (aa (dOp qGt (dCB aq (aa (ac 0) (aa (dC (.int 3)) af))) (dC (.int 0))) af)))))
def uz:DTS:=aB (dIf (aG (dOp qEq (ac 5) (dC (.int 6)))) (aB (aW (dOp qIx (iw (aa (dC (.str "good")) (aa (dC (.str "no")) (aa (dCB gY (aa (ac 0) af)) af)))) (dCB aq (aa (ac 0) (aa (dC (.int 3)) af)))) 9) (uy)) be) (qT)
def uA:DTS:=aB (dIf (aG (dOp qEq (ac 5) (dC (.int 5)))) (bu (fH (aa (dC (.str "back")) (aa (dCB bN (aa (ac 0) (aa (ac 2) (aa (ac 3) af)))) af)))) be) (uz)
def lB:DTS:=aB (dIf (aG (dOp qEq (ac 5) (dC (.int 4)))) (bu (fH (aa (dC (.str "change")) (aa (dCB bN (aa (ac 0) (aa (ac 2) (aa (ac 3) af)))) (aa (dCB dU (aa (ac 0) (aa (ac 6) af))) af))))) be) (uA)
def oY:DTS:=bu (fH (aa (dC (.str "say")) (aa (ac 7) (aa (ac 8) (aa (dCB dU (aa (ac 0) (aa (ac 6) af))) af)))))
def oZ:DTS:=aB (dIf (EV (aG (dOp qGt (dCB aq (aa (ac 0) (aa (dC (.int 3)) af))) (dC (.int 0)))) (aG (dOp qNe (ac 3) (iw af)))) (aW (dCB bN (aa (ac 0) (aa (ac 2) (aa (ac 3) af)))) 8) be) (oY)
def uB:DTS:=aB (dIf (dOr (aG (dOp qLt (ac 5) (dC (.int 4)))) (EV (aG (dOp qEq (ac 3) (iw af))) (aG (dOp qLt (ac 5) (dC (.int 7)))))) (aB (aW (dC .non) 8) (oZ)) be) (lB)
def uC:DTS:=aB (aW (dOp qIx (dOp qIx (dOp qIx (ac 1) (dC (.int 1))) (dCB aq (aa (ac 0) (aa (dCB mB (aa (dOp qIx (ac 1) (dC (.int 1))) af)) af)))) (dC (.int 0))) 7) (uB)
def uD:DTS:=aB (kZ 2 [] (dc (dOp qIx (ac 1) (dC (.int 0)))) (oq 2 (ci (ay 0) (ci (ay 1) ou))) wD (ac 0) 6) (uC)
def Ch:DTS:=aB (aW (dCB aq (aa (ac 0) (aa (dC (.int 11)) af))) 5) (uD)
section
variable{M B:Mem}{R:DK}{q p s t w:Nat}{ps:List (Str×Int)}{rs:List (Str×List Str)}{hs sts:List D}{kvs:List (D×D)}{kind:Int}{xs:List Str}{room:Str}{y8 y9:Option D}
theorem act_6(ql:q<M.length)(hf:HouseF ps rs)(ne:p≠q/\s≠q/\t≠q)(hp:ao M p hs)(hh:∀x∈hs,Hd x)(h1:1<=hs.length)(h12:hs.length<=12)(hs':ao M s sts)(hst:∀x∈sts,St x)(sl:sts.length<=1000)(ht:M[t]?=some (.dkt kvs))(hv:∀x∈kvs,∃v:Int,x.2=.int v/\0<=v/\v<=1000)
  (g:Hl M B q) (wM:M.length<=w) (gw:B[w]?=some (.lst (xs.map .str))) (x1:1<=xs.length) (x4:xs.length<=4) (x8:∀x∈xs,x.length<=8)
  (h:∀(x:Str) (dl:List D) (n:Int),kb 4 dl->ActK rs x dl->R (.tup (.str x::dl)) (M.set q (.lst [.int n]))) :
  lB (EE M R) [some (.ref q),some (aH ps rs),some (.ref p),some (.ref s),some (.ref t),some (.int kind),some (.ref w),some (.str room),y8,y9] B:=by
 have pk:∀{B:Mem}{Q:DK},Hl M B q->(∀(d:D) (B':Mem),St d->Hl M B' q->(∀j x,M.length<=j->B[j]?=some x->B'[j]?=some x)->Q d B')->bN [.ref q,.ref p,.ref s] B Q:=λ{B Q} g k =>
  ⟨q,p,s,hs,sts,rfl,g.hd ql,ne.1,ne.2.1,g.oldL ne.1 hp,hh,h1,h12,g.oldL ne.2.1 hs',hst,sl,λd n hd=>k d _ hd (g.set ql) λj x hj e=>ax (by lia) e⟩
 simp only[lB]
 walk_at "dl"
 refine⟨⟨rfl,rfl⟩,?_⟩
 generalize eqD B eqN (.int kind) (.int 4)=b4
 cases b4 with
 | true =>
  refine bQ (pk g λd B1 hd g1 kp=>?_)
  refine⟨q,w,xs,rfl,g1.hd ql,by lia,.inl (kp _ _ wM gw),x1,by lia,x8,λz n zl=>?_⟩
  exact⟨ap (by lia),dS (g1.set ql) h (.cons hd.pl (.cons (.str _) .nil)) (.mkChange hd zl)⟩
 | false =>
 refine bF ?_
 simp only[uA]
 walk_at "dl"
 refine⟨⟨rfl,rfl⟩,?_⟩
 generalize eqD B eqN (.int kind) (.int 5)=b5
 cases b5 with
 | true=>exact bQ (pk g λd B1 hd g1 kp=>⟨ap (by lia),dS g1 h (.cons hd.pl .nil) (.mkBack hd)⟩)
 | false =>
 refine bF ?_
 simp only[uz]
 walk_at "dl"
 refine⟨⟨rfl,rfl⟩,?_⟩
 generalize eqD B eqN (.int kind) (.int 6)=b6
 cases b6 with
 | true =>
  refine bQ ⟨q,rfl,g.hd ql,λz n zl=>?_⟩
  have g1:=g.set (n:=n) ql
  generalize B.set q (.lst [.int n])=B1 at g1
  refine⟨ap (by lia),q,3,rfl,(g1.more).hd ql,by decide,by decide,λk n k0 k1=>?_⟩
  have g2:=(g1.more (L:=[.lst [.str (AA1 "good"),.str (AA1 "no"),.str z]])).set (n:=n) ql
  have gl:((B1++[MO.lst [.str (AA1 "good"),.str (AA1 "no"),.str z]]).set q (.lst [.int n]))[B1.length]?=some (.lst [.str (AA1 "good"),.str (AA1 "no"),.str z]):=ax (by have:=g1.len;lia) ag
  generalize (B1++[MO.lst [.str (AA1 "good"),.str (AA1 "no"),.str z]]).set q (.lst [.int n])=B2 at g2 gl
  have ex:∃s:Str,atI [D.str (AA1 "good"),.str (AA1 "no"),.str z] k=some (.str s):=by
   have:k=0\/k=1\/k=2:=by lia
   rcases this with rfl | rfl | rfl
   ·exact⟨_,az (j:=0) rfl⟩
   ·exact⟨_,az (j:=1) rfl⟩
   ·exact⟨_,az (j:=2) rfl⟩
  obtain⟨so,es⟩:=ex
  refine⟨_,.inl gl,?_⟩
  rw[es]
  simp only[uy]
  walk_at "dl"
  refine pk g2 λd B3 hd g3 kp=>?_
  refine⟨q,3,rfl,g3.hd ql,by decide,by decide,λk n k0 k1=>?_⟩
  exact⟨ap (by lia),dS (g3.set ql) h (.cons hd.pl (.cons (.str _) (.cons (.bl _) .nil))) (.mkLike hd)⟩
 | false =>
 refine bF ?_
 simp only[qT]
 walk_at "dl"
 refine⟨⟨rfl,rfl⟩,?_⟩
 generalize eqD B eqN (.int kind) (.int 7)=b7
 cases b7 with
 | true =>
  refine bQ ⟨q,p,t,hs,kvs,rfl,g.hd ql,ne.1,ne.2.2,g.oldL ne.1 hp,hh,h12,g.old ne.2.2 ht,hv,λvs n hvs hvk=>?_⟩
  exact⟨ap (by lia),dS (g.set ql) h (.cons (.str _) (.cons (.tup hvs) .nil)) (.mkRead hvk)⟩
 | false =>
 refine bF ?_
 simp only[qS]
 walk_at "dl"
 refine⟨⟨rfl,rfl⟩,?_⟩
 generalize eqD B eqN (.int kind) (.int 8)=b8
 cases b8 with
 | true=>exact bQ (pk g λd B1 hd g1 kp=>⟨ap (by lia),dS g1 h (.cons hd.pl .nil) (.mkSeen hd)⟩)
 | false =>
 refine bF ?_
 simp only[qR]
 walk_at "dl"
 refine⟨⟨rfl,rfl⟩,?_⟩
 generalize eqD B eqN (.int kind) (.int 9)=b9
 cases b9 with
 | true =>
  refine bQ ⟨q,p,s,ps,rs,hs,sts,rfl,g.hd ql,hf,ne.1,ne.2.1,g.oldL ne.1 hp,hh,h1,h12,g.oldL ne.2.1 hs',hst,sl,λd n hd=>?_⟩
  have g1:=g.set (n:=n) ql
  generalize B.set q (.lst [.int n])=B1 at g1
  refine⟨q,3,rfl,g1.hd ql,by decide,by decide,λk n k0 k1=>?_⟩
  exact⟨ap (by lia),dS (g1.set ql) h (.cons hd.pl4 (.cons (.bl _) .nil)) (.mkHush hd)⟩
 | false =>
 refine bF ?_
 simp only[qQ]
 walk_at "dl"
 exact pk g λd B1 hd g1 kp=>⟨ap (by lia),dS g1 h (.cons hd.pl .nil) (.mkRung hd)⟩
end
theorem BX:WpT rV 10 Ch:=by
 rintro ds M R ⟨q,p,s,t,ps,rs,hs,sts,kvs,rfl,hq,hf,ne,hp,hh,h1,h12,hs',hst,sl,ht,hv,h⟩
 have ql:=hq.lt
 have l1:=hf.len
 have l2:=hf.rl
 simp only[Ch]
 walk_at "dl"
 refine⟨q,11,rfl,hq,by decide,by decide,λkind n _ _=>?_⟩
 have g0:=hq.start.set (n:=n) ql
 generalize M.set q (.lst [.int n])=B0 at g0
 simp only[uD,aH]
 walk_at "dl"
 intro _
 refine dR (λd=>(match d with | .tup (x::_)=>x | _=>.non)) (λS=>∃a b,S=[a,b]) trivial _ _ _ (λx hx S hS=>?_) ⟨_,_,rfl⟩ (by rw[AAq,AA6];exact ap (by lia)) ?_
 ·obtain⟨a,b,rfl⟩:=hS
  obtain⟨y,_,rfl⟩:=AAZ.mp hx
  refine⟨[some (.str y.1),some (.int y.2)],⟨_,_,rfl⟩,λY hY=>?_⟩
  unfold cO
  walk_at "dl"
  exact⟨trivial,hY⟩
 ·rw[AB6]
  have en:(ps.map cO).map (λd=>(match d with | .tup (x::_)=>x | _=>.non))=(ps.map (·.1)).map D.str:=by
   rw[ABT,ABT];rfl
  rw[en]
  have g1:=g0.more (L:=[.lst ((ps.map (·.1)).map D.str)])
  have gw:(B0++[MO.lst ((ps.map (·.1)).map D.str)])[B0.length]?=some (.lst ((ps.map (·.1)).map D.str)):=ag
  have wM:=g0.len
  have x8:∀x∈ps.map (·.1),x.length<=8:=λx hx=>by
   obtain⟨y,hy,rfl⟩:=AAZ.mp hx
   exact hf.nm y hy
  have xl:(ps.map (·.1)).length=ps.length:=AA6 _
  generalize B0++[MO.lst ((ps.map (·.1)).map D.str)]=B1 at g1 gw
  generalize B0.length=w at gw wM
  generalize ps.map (·.1)=xs at gw x8 xl
  simp only[uC]
  walk_at "dl"
  refine⟨q,_,rfl,g1.hd ql,by rw[AA6];lia,by rw[AA6];lia,λk n k0 k1=>?_⟩
  have g2:=g1.set (n:=n) ql
  have gw2:(B1.set q (.lst [.int n]))[w]?=some (.lst (xs.map .str)):=ax (by lia) gw
  generalize B1.set q (.lst [.int n])=B2 at g2 gw2
  obtain⟨j,hj,ej,_⟩:=fg (xs:=rs.map lE) k0 k1
  rw[ACE]at ej
  have hj':j<rs.length:=by rw[AA6]at hj;exact hj
  have hr:(rs[j]'hj').1∈rs.map (·.1):=ABo (AB4 hj')
  walk_at "dl"
  rw[ej]
  unfold lE
  walk_at "dl"
  generalize (rs[j]'hj').1=room at hr
  have ok29:∀{B:Mem},∀x∈sts,okD B 29 x=true:=λ{B} x hx=>by obtain⟨t,z,k,rfl⟩:=hst x hx;rfl
  have six:∀{B:Mem}{y8 y9:Option D},Hl M B q->B[w]?=some (.lst (xs.map .str))->lB (EE M R) [some (.ref q),some (aH ps rs),some (.ref p),some (.ref s),some (.ref t),some (.int kind),some (.ref w),some (.str room),y8,y9] B:=λg gw=>act_6 ql hf ne hp hh h1 h12 hs' hst sl ht hv g wM gw (by lia) (by lia) x8 h
  have four:∀{E:DEnds}{B:Mem}{y9:Option D},E.rt=aX M R->Hl M B q->B[w]?=some (.lst (xs.map .str))->oZ E [some (.ref q),some (aH ps rs),some (.ref p),some (.ref s),some (.ref t),some (.int kind),some (.ref w),some (.str room),some .non,y9] B:=λ{E B y9} eR g gw=>by
   have five:∀{B:Mem}{u:D},Hl M B q->B[w]?=some (.lst (xs.map .str))->(u=.non\/St u)->oY E [some (.ref q),some (aH ps rs),some (.ref p),some (.ref s),some (.ref t),some (.int kind),some (.ref w),some (.str room),some u,y9] B:=λ{B u} g gw hu=>by
    simp only[oY]
    walk_at "dl"
    refine⟨q,w,xs,rfl,g.hd ql,by lia,.inl gw,by lia,by lia,x8,λz n zl=>?_⟩
    have up:Pln 4 u:=by
     rcases hu with rfl | hu
     ·exact .non
     ·exact hu.pl
    refine⟨ap (by lia),?_⟩
    rw[eR]
    exact dS (g.set ql) h (.cons (.str _) (.cons up (.cons (.str _) .nil))) (.mkSay hr hu zl)
   simp only[oZ]
   walk_at "dl"
   refine⟨q,3,rfl,g.hd ql,by decide,by decide,λk n k0 k1=>?_⟩
   have g3:=g.set (n:=n) ql
   have gw3:(B.set q (.lst [.int n]))[w]?=some (.lst (xs.map .str)):=ax (by lia) gw
   generalize B.set q (.lst [.int n])=B3 at g3 gw3
   walk_at "dl"
   by_cases hk:k > 0
   ·rw[dT_ hk]
    obtain⟨okk,ee⟩:=lU (g3.oldL ne.2.1 hs') ok29
    refine bQ ⟨AAW _,okk,?_⟩
    rw[ee]
    have g4:=g3.more (L:=[.lst []])
    have gw4:=ah (a:=.lst []) gw3
    generalize B3++[MO.lst []]=B4 at g4 gw4
    cases he:sts.isEmpty with
    | true=>exact bF (five g4 gw4 (.inl rfl))
    | false =>
     refine bQ ⟨q,p,s,hs,sts,rfl,g4.hd ql,ne.1,ne.2.1,g4.oldL ne.1 hp,hh,h1,h12,g4.oldL ne.2.1 hs',hst,sl,λd n hd=>?_⟩
     exact five (g4.set ql) (ax (by lia) gw4) (.inr hd)
   ·rw[dF_ hk]
    exact bF (five g3 gw3 (.inl rfl))
  simp only[uB]
  walk_at "dl"
  by_cases h4:kind<4
  ·rw[dT_ h4]
   exact bQ (four rfl g2 gw2)
  ·rw[dF_ h4]
   obtain⟨okk,ee⟩:=lU (g2.oldL ne.2.1 hs') ok29
   refine bF ⟨AAW _,okk,?_⟩
   rw[ee]
   have g4:=g2.more (L:=[.lst []])
   have gw4:=ah (a:=.lst []) gw2
   generalize B2++[MO.lst []]=B4 at g4 gw4
   cases he:sts.isEmpty with
   | true =>
    refine bQ ?_
    by_cases h7:kind<7
    ·rw[dT_ h7]
     exact bQ (four rfl g4 gw4)
    ·rw[dF_ h7]
     exact bF (six g4 gw4)
   | false=>exact bF (six g4 gw4)
theorem Dd(T:Tops P w K mg base):Cal P w K mg base 4 "_law_act" Ac rV :=
 Cal.byD (N:=["_law_held","_law_house_here","_law_hands_here","_law_says","_law_done","_law_kind","_law_names_here","_law_room","_law_under","_law_sort"]) T.b T.f_act (by walk_at "sc") As (by have:=cT T;have:=vn T;have:=vj T;have:=pD T;have:=vh T;have:=Ag T;walk_at "dv") BX
def gD:DSp:=λds M R=>∃(ps:List (Str×Int)) (r:List D),ds=[.tup (.tup (ps.map cO)::r)]/\Few ps/\R (.ref M.length) (M++[.lst (aw ps)])
theorem vL:dj gD pA:=by rintro ds M R ⟨ps,r,rfl,_⟩;rfl
def mZ:DTS:=bu (ac 1)
def nb:DTS:=aB (mn (dc (dOp qIx (ac 0) (dC (.int 0)))) (oq 2 (ci (ay 2) (ci (ay 3) ou))) (ix (dMl ja (ac 1) (aa (dLC 1 [2] (db (aa (ac 3) af)) (ay 0) wD (fH (aa (ac 1) (aa (ac 0) af)))) af)))) (mZ)
def ux:DTS:=aB (aW (iw af) 1) (nb)
theorem wZ:WpT gD 4 ux:=by
 rintro ds M R ⟨ps,r,rfl,⟨h4,h3⟩,h⟩
 simp only[ux,nb]
 walk_at "dl"
 refine⟨AAW _,λ_=>?_⟩
 have hb:∀qs:List (Str×Int),(∀p∈qs,p∈ps)->qs.length<=4->(aw qs).length<=12:=λqs h1 h2=>by
  have:=kU (ps:=qs) λp hp=>h3 p (h1 p hp)
  lia
 refine gu (λys S M'=>∃qs rs a b L,ps=qs++rs/\ys=rs.map cO/\M'=M++.lst (aw qs)::L/\S=[some (.tup (.tup (ps.map cO)::r)),some (.ref M.length),a,b]) ?_ ?_ _ _ _ ⟨[],ps,_,_,[],rfl,rfl,rfl,rfl⟩
 ·rintro S M' ⟨qs,rs,a,b,L,e,hq,rfl,rfl⟩
  have:rs=[]:=by cases rs<;>simp_all
  subst this
  rw[ABE]at e
  subst e
  refine⟨trivial,?_⟩
  simp only[mZ]
  walk_at "dl"
  exact aX.lst h (AA8 _) fy sZ
 ·rintro x xs S M' ⟨qs,rs,a,b,L,e,hq,rfl,rfl⟩ G hG
  cases rs with
  | nil=>cases hq
  | cons p rs =>
   rw[AAe]at hq
   injection hq with e1 e2
   subst e1
   have hp:=h3 p (by rw[e];simp)
   refine⟨trivial,?_⟩
   unfold cO
   walk_at "dl"
   refine⟨trivial,⟨_,.inl fy⟩,⟨by lia,by lia⟩,?_⟩
   refine dR (λk=>.tup [.str p.1,k]) (λS=>∃a,S=[a,some (.str p.1)]) trivial _ _ _ (λk hk S hS=>?_) ⟨_,rfl⟩ ?_ ?_
   ·obtain⟨a,rfl⟩:=hS
    refine⟨[some k,some (.str p.1)],⟨_,rfl⟩,λY hY=>?_⟩
    walk_at "dl"
    exact⟨ap (by lia),hY⟩
   ·simp only[AAq,eA]
    exact ap (by lia)
   ·rw[AB6]
    have eh:(nw 0 p.2.toNat).map (λk=>D.tup [.str p.1,k])=cb p:=rfl
    rw[eh]
    have l1:=hb qs (λz hz=>by rw[e];exact AAr _ hz) (by have:=congrArg ABk e;rw[AAE]at this;lia)
    have l2:(cb p).length<=3:=by rw[fv];lia
    rw[AAw,ACb]
    refine⟨_,cb p,fy,?_,?_,ap (by lia),?_⟩
    ·rw[<-ACb,<-AAw];exact ag
    ·rw[AAE,AAL];lia
    ·rw[iW]
     refine Fgt.now (hG _ _ ⟨qs++[p],rs,_,_,L++[.lst (cb p)],by rw[AAw];exact e,e2,?_,rfl⟩)
     rw[show aw (qs++[p])=aw qs++cb p by simp[aw]]
theorem re(T:Tops P w K mg base):Cal P w K mg base 1 "_law_hands" pA gD :=
 Cal.byD (N:=["_law_house_here","_law_found","_law_name_here","_law_many"]) T.b T.f_hands (by walk_at "sc") vL (by walk_at "dv") wZ
structure LogS(ps:List (Str×Int))(rs:List (Str×List Str))(log:List D):Prop where
 dk:∀d∈log,aK ps rs d
 up:log.Pairwise λa b=>enc eqN (stD a)<enc eqN (stD b)
 len:log.length<=60
def rU:DSp:=λds M R=>∃(ps:List (Str×Int)) (rs:List (Str×List Str)) (p tq:Nat) (cs:List Int),ds=[.ref p,aH ps rs]/\HouseF ps rs/\ao M p (cs.map .int)/\p≠tq/\cs.length<=60/\M[tq]?=some (.tb (AA1 "_law_log") false)/\∀log,LogS ps rs log->R (.tup log) (M.set tq (.tb (AA1 "_law_log") true))
theorem Aq:dj rU Aa:=by rintro ds M R ⟨ps,rs,p,tq,cs,rfl,_⟩;rfl
noncomputable def Ce:D->Int
 | .tup (.int t::_)=>t
 | _=>0
noncomputable def hdO:D->D
 | .tup (_::h::_)=>h
 | _=>.non
theorem jD(hf:HouseF ps rs):Few ps/\1<=(aw ps).length/\(aw ps).length<=12:=by
 have few:Few ps:=⟨hf.len.2,λq hq=>⟨by have:=hf.many q hq;lia,(hf.many q hq).2⟩⟩
 have hln:=kU few.2
 refine⟨few,?_,by have:=few.1;lia⟩
 match ps,hf with
 | [],hf=>have:=hf.len.1;simp at this
 | p::ps,hf =>
  have:=(hf.many p (by simp)).1
  rw[aw,List.flatMap_cons,AAE,fv]
  lia
structure GenD(ps:List (Str×Int))(rs:List (Str×List Str))(deeds sts:List D)(las cnt:List (D×D))(n:Nat):Prop where
 dk:∀d∈deeds,aK ps rs d
 nd:(deeds.map stD).Nodup
 la:∀d∈deeds,∃v:Int,aQ las (hdO d)=some (.int v)/\Ce d<=v
 lv:∀x∈las,∃v:Int,x.2=.int v/\0<=v
 cv:∀x∈cnt,∃v:Int,x.2=.int v/\0<=v/\v<=n
 so:∀x∈sts,St x
 dl:deeds.length<=n
 sl:sts.length<=n
 ll:las.length<=n
 cl:cnt.length<=n
theorem GenD.next{ps:List (Str×Int)}{rs:List (Str×List Str)}{deeds sts sts':List D}{las cnt:List (D×D)}{n:Nat}{t num:Int}{z x:Str}{k c:Int}{dl:List D}(g:GenD ps rs deeds sts las cnt n)(hx:D.tup [.str z,.int k]∈aw ps)(t1:1<=t)(tv:∀v:Int,aQ las (.tup [.str z,.int k])=some (.int v)->v<t)(c0:0<=c)(c1:c<=n)(hp:kb 4 dl)(ha:ActK rs x dl)
  (s1:∀x∈sts',St x) (s2:sts'.length<=n+1) :
  GenD ps rs (deeds++[.tup [.int t,.tup [.str z,.int k],.int num,.tup (.str x::dl)]]) sts' (eV las (.tup [.str z,.int k]) (.int t)) (eV cnt (.tup [.str z,.int k]) (.int (c+1))) (n+1):=by
 have h1:=g.dl
 have h2:=g.ll
 have h3:=g.cl
 refine⟨λd hd=>?_,?_,λd hd=>?_,λy hy=>?_,λy hy=>?_,s1,by rw[AAE,AAg];lia,s2,?_,?_⟩
 ·rcases AAk.mp hd with hd | hd
  ·exact g.dk d hd
  ·rw[show d=_ from by simpa using hd]
   exact⟨_,_,_,_,_,_,rfl,t1,hx,hp,ha⟩
 ·rw[AB8]
  refine ADn.mpr ⟨g.nd,by simp,λa ha b hb e=>?_⟩
  obtain⟨d,hd,rfl⟩:=AAZ.mp ha
  rw[show b=_ from by simpa using hb]at e
  obtain⟨t',z',k',num',x',ds',rfl,_⟩:=g.dk d hd
  obtain⟨v,e1,e2⟩:=g.la _ hd
  simp only[stD,D.tup.injEq,AC8,D.int.injEq,D.str.injEq,and_true]at e
  obtain⟨rfl,rfl,rfl⟩:=e
  have:=tv v e1
  simp only[Ce]at e2
  lia
 ·rcases AAk.mp hd with hd | hd
  ·obtain⟨v,e1,e2⟩:=g.la d hd
   by_cases e:hdO d=.tup [.str z,.int k]
   ·rw[e]at e1 ⊢
    exact⟨t,gk,by have:=tv v e1;lia⟩
   ·exact⟨v,by rw[gn e];exact e1,e2⟩
  ·rw[show d=_ from by simpa using hd]
   exact⟨t,gk,Int.le_refl _⟩
 ·rcases fV hy with rfl | hy
  ·exact⟨t,rfl,by lia⟩
  ·exact g.lv y hy
 ·rcases fV hy with rfl | hy
  ·exact⟨c+1,rfl,by lia,by lia⟩
  ·obtain⟨v,e1,e2,e3⟩:=g.cv y hy
   exact⟨v,e1,e2,by lia⟩
 ·have:=lH (kvs:=las) (k:=.tup [.str z,.int k]) (d:=.int t)
  lia
 ·have:=lH (kvs:=cnt) (k:=.tup [.str z,.int k]) (d:=.int (c+1))
  lia
structure LgD(M B:Mem)(hs deeds sts:List D)(las cnt:List (D×D)):Prop where
 pre:M <+: B
 hs:B[M.length]?=some (.lst hs)
 las:B[M.length+1]?=some (.dkt las)
 cnt:B[M.length+2]?=some (.dkt cnt)
 sts:B[M.length+3]?=some (.lst sts)
 deeds:B[M.length+4]?=some (.lst deeds)
section
variable{M B:Mem}{hs deeds sts:List D}{las cnt:List (D×D)}{q:Nat}{x:MO}
theorem LgD.more(g:LgD M B hs deeds sts las cnt):LgD M (B++L) hs deeds sts las cnt :=
 ⟨g.pre.trans (AAY _ _),cY (AAY _ _) g.hs,cY (AAY _ _) g.las,cY (AAY _ _) g.cnt,cY (AAY _ _) g.sts,cY (AAY _ _) g.deeds⟩
theorem LgD.lt(g:LgD M B hs deeds sts las cnt):M.length+5<=B.length:=aC g.deeds
theorem LgD.set(g:LgD M B hs deeds sts las cnt)(h:M.length+5<=q):LgD M (B.set q x) hs deeds sts las cnt :=
 ⟨fh g.pre (by lia),ax (by lia) g.hs,ax (by lia) g.las,ax (by lia) g.cnt,ax (by lia) g.sts,ax (by lia) g.deeds⟩
theorem LgD.setD(g:LgD M B hs deeds sts las cnt):LgD M (B.set (M.length+4) (.lst ds')) hs ds' sts las cnt :=
 ⟨fh g.pre (by lia),ax (by lia) g.hs,ax (by lia) g.las,ax (by lia) g.cnt,ax (by lia) g.sts,fx g.deeds⟩
theorem LgD.setS(g:LgD M B hs deeds sts las cnt):LgD M (B.set (M.length+3) (.lst ds')) hs deeds ds' las cnt :=
 ⟨fh g.pre (by lia),ax (by lia) g.hs,ax (by lia) g.las,ax (by lia) g.cnt,fx g.sts,ax (by lia) g.deeds⟩
theorem LgD.setC(g:LgD M B hs deeds sts las cnt):LgD M (B.set (M.length+2) (.dkt kvs)) hs deeds sts las kvs :=
 ⟨fh g.pre (by lia),ax (by lia) g.hs,ax (by lia) g.las,fx g.cnt,ax (by lia) g.sts,ax (by lia) g.deeds⟩
theorem LgD.setL(g:LgD M B hs deeds sts las cnt):LgD M (B.set (M.length+1) (.dkt kvs)) hs deeds sts kvs cnt :=
 ⟨fh g.pre (by lia),ax (by lia) g.hs,fx g.las,ax (by lia) g.cnt,ax (by lia) g.sts,ax (by lia) g.deeds⟩
end
theorem AS{kvs:List (D×D)}(h:∀x∈kvs,∃v:Int,x.2=.int v/\0<=v):∃vs:List Int,kvs.map (·.2)=vs.map D.int:=by
 induction kvs with
 | nil=>exact⟨[],rfl⟩
 | cons p kvs ih =>
  obtain⟨v,e,_⟩:=h p (by simp)
  obtain⟨vs,e2⟩:=ih λx hx=>h x (AA9 _ hx)
  exact⟨v::vs,by rw[AAe,AAe,e,e2]⟩
def qI:DTS:=bu (dCB fT (aa (iB "_law_log" ["_law_deed"] (dSl (ac 0) dP (jZ (dC (.int 2)))) (aa (ac 6) af)) af))
def qJ:DTS:=dIf (aG (dOp qEq (dOp qIx (ac 12) (dC (.int 0))) (dC (.str "say")))) (ix (dMl bW (ac 5) (aa (fH (aa (ac 11) (aa (ac 9) af))) af))) be
def qK:DTS:=aB (qg (ac 4) (ac 9) (dOp aV (dMt fU (ac 4) (aa (ac 9) (aa (dC (.int 0)) af))) (dC (.int 1)))) (qJ)
def qL:DTS:=aB (qg (ac 3) (ac 9) (ac 11)) (qK)
def qN:DTS:=aB (ix (dMl bW (ac 6) (aa (fH (aa (ac 11) (aa (ac 9) (aa (dMt fU (ac 4) (aa (ac 9) (aa (dC (.int 0)) af))) (aa (ac 12) af))))) af))) (qL)
def lA:DTS:=aB (aW (dCB rV (aa (ac 8) (aa (ac 1) (aa (ac 2) (aa (ac 5) (aa (ac 4) af)))))) 12) (qN)
def ub:DTS:=aB (dIf (aG (dOp qEq (ac 10) (dC (.int 3)))) (aW (dOp aV (dC (.int 1)) (dCB uQ (aa (dOp aV (iw (aa (dC (.int 0)) af)) (gx (ac 3))) af))) 11) be) (lA)
def uc:DTS:=aB (aW (dOp aV (dOp aV (dMt fU (ac 3) (aa (ac 9) (aa (dC (.int 0)) af))) (dC (.int 1))) (dCB aq (aa (ac 8) (aa (dOp qIx (iw (aa (dC (.int 3)) (aa (dC (.int 6)) (aa (dOp zJ (dC (.int 10)) (dC (.int 7))) (aa (dC (.int 1)) af))))) (ac 10)) af)))) 11) (ub)
def ud:DTS:=aB (aW (dCB aq (aa (ac 8) (aa (dC (.int 4)) af))) 10) (uc)
def oW:DTS:=aB (aW (dOp qIx (ac 2) (dCB aq (aa (ac 8) (aa (dCB mB (aa (ac 2) af)) af)))) 9) (ud)
def ue:DTS:=aB (mn (dc (ac 0)) (ay 7) (aB (aW (dCB cr (aa (ac 7) af)) 8) (oW))) (qI)
def uf:DTS:=aB (aW (iw af) 6) (ue)
def ug:DTS:=aB (aW (iw af) 5) (uf)
def uh:DTS:=aB (aW (qh) 4) (ug)
def ui:DTS:=aB (aW (qh) 3) (uh)
def Cf:DTS:=aB (aW (dCB gD (aa (ac 1) af)) 2) (ui)
theorem yU{M B:Mem}{E:DEnds}{deeds sts hs:List D}{las cnt:List (D×D)}{n q:Nat}{t way:Int}{z:Str}{k:Int}{ps:List (Str×Int)}{rs:List (Str×List Str)}{y0 y7 y12:Option D}(g:LgD M B hs deeds sts las cnt)(G:GenD ps rs deeds sts las cnt n)(hf:HouseF ps rs)(hh:∀x∈hs,Hd x)(h1:1<=hs.length)(h12:hs.length<=12)(n60:n<60)(hd:HdP B q)(qM:M.length+5<=q)(hx:D.tup [.str z,.int k]∈aw ps)(t1:1<=t)(tv:∀v:Int,aQ las (.tup [.str z,.int k])=some (.int v)->v<t)
  (hE:∀deeds' sts' las' cnt' B' y,LgD M B' hs deeds' sts' las' cnt'->GenD ps rs deeds' sts' las' cnt' (n+1)->E.nx [y0,some (aH ps rs),some (.ref M.length),some (.ref (M.length+1)),some (.ref (M.length+2)),some (.ref (M.length+3)),some (.ref (M.length+4)),y7,some (.ref q),some (.tup [.str z,.int k]),some (.int way),some (.int t),y] B') :
  lA E [y0,some (aH ps rs),some (.ref M.length),some (.ref (M.length+1)),some (.ref (M.length+2)),some (.ref (M.length+3)),some (.ref (M.length+4)),y7,some (.ref q),some (.tup [.str z,.int k]),some (.int way),some (.int t),y12] B:=by
 have dl:=G.dl
 have sl:=G.sl
 have ll:=G.ll
 have cl:=G.cl
 simp only[lA]
 walk_at "dl"
 refine⟨q,_,_,_,ps,rs,hs,sts,cnt,rfl,hd,hf,⟨by lia,by lia,by lia⟩,.inl g.hs,hh,h1,h12,.inl g.sts,G.so,by lia,g.cnt,λx hx=>by obtain⟨v,e1,e2,e3⟩:=G.cv x hx;exact⟨v,e1,e2,by lia⟩,λx dl' n' hp ha=>?_⟩
 have g1:=g.set (x:=.lst [.int n']) qM
 generalize B.set q (.lst [.int n'])=B1 at g1
 have hg:∃c:Int,(aQ cnt (.tup [.str z,.int k])).getD (.int 0)=.int c/\0<=c/\c<=n:=by
  cases e:aQ cnt (.tup [.str z,.int k]) with
  | none=>exact⟨0,rfl,by decide,by lia⟩
  | some d=>exact G.cv _ (br e)
 obtain⟨c,ec,c0,c1⟩:=hg
 simp only[qN]
 walk_at "dl"
 refine⟨⟨_,.inl g1.deeds⟩,⟨_,g1.cnt⟩,_,g1.cnt,rfl,?_⟩
 rw[ec]
 refine⟨ap (by lia),_,g1.deeds,aY (by lia),?_⟩
 have g2:=g1.setD (ds':=deeds++[.tup [.int t,.tup [.str z,.int k],.int c,.tup (.str x::dl')]])
 generalize B1.set (M.length+4) _=B2 at g2
 simp only[qL]
 walk_at "dl"
 refine⟨_,g2.las,rfl,aY (by lia),?_⟩
 have g3:=g2.setL (kvs:=eV las (.tup [.str z,.int k]) (.int t))
 generalize B2.set (M.length+1) _=B3 at g3
 simp only[qK]
 walk_at "dl"
 refine⟨⟨_,g3.cnt⟩,_,g3.cnt,rfl,?_⟩
 rw[ec]
 refine⟨_,g3.cnt,rfl,aY (by lia),?_⟩
 have g4:=g3.setC (kvs:=eV cnt (.tup [.str z,.int k]) (.int (c+1)))
 generalize B3.set (M.length+2) _=B4 at g4
 simp only[qJ]
 walk_at "dl"
 refine⟨⟨aZ,aZ⟩,?_⟩
 generalize eqD B4 eqN (.str x) (.str (AA1 "say"))=bs
 cases bs with
 | true =>
  refine bQ ⟨⟨_,.inl g4.sts⟩,ap (by lia),_,g4.sts,aY (by lia),?_⟩
  refine hE _ _ _ _ _ _ g4.setS (G.next hx t1 tv c0 c1 hp ha (λy hy=>?_) (by rw[AAE,AAg];lia))
  rcases AAk.mp hy with hy | hy
  ·exact G.so y hy
  ·rw[show y=_ from by simpa using hy];exact⟨_,_,_,rfl⟩
 | false=>exact bF (hE _ _ _ _ _ _ g4 (G.next hx t1 tv c0 c1 hp ha G.so (by lia)))
theorem xM{M B:Mem}{E:DEnds}{deeds sts:List D}{las cnt:List (D×D)}{n:Nat}{cell:Int}{ps:List (Str×Int)}{rs:List (Str×List Str)}{y0 y8 y9 y10 y11 y12:Option D}(g:LgD M B (aw ps) deeds sts las cnt)(G:GenD ps rs deeds sts las cnt n)(hf:HouseF ps rs)(n60:n<60)
  (hE:∀deeds' sts' las' cnt' B' a b c d y,LgD M B' (aw ps) deeds' sts' las' cnt'->GenD ps rs deeds' sts' las' cnt' (n+1)->E.nx [y0,some (aH ps rs),some (.ref M.length),some (.ref (M.length+1)),some (.ref (M.length+2)),some (.ref (M.length+3)),some (.ref (M.length+4)),some (.int cell),a,b,c,d,y] B') :
  (aB (aW (dCB cr (aa (ac 7) af)) 8) (oW)) E [y0,some (aH ps rs),some (.ref M.length),some (.ref (M.length+1)),some (.ref (M.length+2)),some (.ref (M.length+3)),some (.ref (M.length+4)),some (.int cell),y8,y9,y10,y11,y12] B:=by
 obtain⟨few,n1,n12⟩:=jD hf
 have hh:∀x∈aw ps,Hd x:=ma
 have ll:=G.ll
 walk_at "dl"
 refine⟨cell,rfl,λn'=>?_⟩
 have hd0:HdP (B++[MO.lst [.int n']]) B.length:=⟨n',ag⟩
 have g0:=g.more (L:=[.lst [.int n']])
 have qM:=g.lt
 generalize B++[MO.lst [D.int n']]=B0 at g0 hd0
 generalize B.length=q at hd0 qM
 have ql:=hd0.lt
 have hl0:=hd0.start
 have keep:∀{C:Mem},Hl B0 C q->LgD M C (aw ps) deeds sts las cnt:=λ{C} h=>by
  obtain⟨n2,L,rfl⟩:=h
  exact(g0.set (x:=.lst [.int n2]) qM).more
 simp only[oW]
 walk_at "dl"
 refine⟨_,.inl g0.hs,q,_,rfl,hd0,by lia,by lia,λi m i0 i1=>?_⟩
 have h1:=hl0.set (n:=m) ql
 generalize B0.set q (.lst [.int m])=B1 at h1
 obtain⟨j,hj,ej,_⟩:=fg (xs:=aw ps) i0 i1
 have hx:=AB4 hj
 refine⟨_,.inl (keep h1).hs,?_⟩
 rw[ej]
 obtain⟨z,k,ez⟩:=hh _ hx
 rw[ez]at hx ⊢
 simp only[ud]
 walk_at "dl"
 refine⟨q,4,rfl,h1.hd ql,by decide,by decide,λway m w0 w1=>?_⟩
 have h2:=h1.set (n:=m) ql
 generalize B1.set q (.lst [.int m])=B2 at h2
 have hl:∃v:Int,(aQ las (.tup [.str z,.int k])).getD (.int 0)=.int v/\0<=v/\∀u:Int,aQ las (.tup [.str z,.int k])=some (.int u)->u=v:=by
  cases e:aQ las (.tup [.str z,.int k]) with
  | none=>exact⟨0,rfl,by decide,λu w=>by cases w⟩
  | some d =>
   obtain⟨v,ev,v0⟩:=G.lv _ (br e)
   exact⟨v,ev,v0,λu w=>by rw[show d=.int v from ev]at w;cases w;rfl⟩
 obtain⟨v,ev,v0,vu⟩:=hl
 simp only[uc]
 walk_at "dl"
 refine⟨⟨_,(keep h2).las⟩,_,(keep h2).las,rfl,?_⟩
 rw[ev]
 have ex:∃m:Int,atI [D.int 3,.int 6,.int (10 ^ Int.toNat 7),.int 1] way=some (.int m)/\0<m/\m<100000000000:=by
  have:way=0\/way=1\/way=2\/way=3:=by lia
  rcases this with rfl | rfl | rfl | rfl
  ·exact⟨_,az (j:=0) rfl,by decide,by decide⟩
  ·exact⟨_,az (j:=1) rfl,by decide,by decide⟩
  ·exact⟨_,az (j:=2) rfl,by decide,by decide⟩
  ·exact⟨_,az (j:=3) rfl,by decide,by decide⟩
 obtain⟨m0,em,mp,ml⟩:=ex
 refine⟨⟨by decide,by decide,by decide⟩,ap (by lia),_,aF,?_⟩
 rw[em]
 refine⟨q,m0,rfl,(h2.more).hd ql,mp,ml,λa m a0 a1=>?_⟩
 have h3:=(h2.more (L:=[.lst [D.int 3,.int 6,.int (10 ^ Int.toNat 7),.int 1]])).set (n:=m) ql
 generalize (B2++[MO.lst [D.int 3,.int 6,.int (10 ^ Int.toNat 7),.int 1]]).set q (.lst [.int m])=B3 at h3
 simp only[ub]
 walk_at "dl"
 refine⟨⟨rfl,rfl⟩,?_⟩
 generalize eqD B3 eqN (.int way) (.int 3)=b3
 cases b3 with
 | false =>
  refine bF ?_
  exact yU (keep h3) G hf hh n1 n12 n60 (h3.hd ql) qM hx (by lia) (λu w=>by rw[vu u w];lia) λd' s' l' c' B' y g' G'=>hE _ _ _ _ _ _ _ _ _ _ g' G'
 | true =>
  obtain⟨vs,evs⟩:=AS G.lv
  have vl:vs.length=las.length:=by have:=congrArg ABk evs;rw[AA6,AA6]at this;exact this.symm
  have h4:=h3.more (L:=[.lst [.int 0]])
  have g4:=keep h4
  have e0:(B3++[MO.lst [D.int 0]])[B3.length]?=some (.lst [.int 0]):=ag
  generalize B3++[MO.lst [D.int 0]]=B4 at h4 g4 e0
  generalize B3.length=r4 at e0
  refine bQ ⟨ap (by lia),_,g4.las,?_⟩
  rw[evs]
  have h5:=h4.more (L:=[.lst (vs.map .int)])
  have e5:=ah (a:=.lst (vs.map .int)) e0
  have e6:(B4++[MO.lst (vs.map .int)])[B4.length]?=some (.lst (vs.map .int)):=ag
  generalize B4++[MO.lst (vs.map .int)]=B5 at h5 e5 e6
  generalize B4.length=r5 at e6
  refine⟨_,_,e5,e6,ap (by rw[AA6,AAg];lia),?_⟩
  have h6:=h5.more (L:=[.lst ([.int 0]++vs.map .int)])
  have e7:(B5++[MO.lst ([D.int 0]++vs.map .int)])[B5.length]?=some (.lst ((0::vs).map .int)):=ag
  generalize B5++[MO.lst ([D.int 0]++vs.map .int)]=B6 at h6 e7
  refine⟨0::vs,.inl e7,by simp,λmx mm mall=>?_⟩
  have mx0:=mall 0 (by simp)
  refine yU (keep h6) G hf hh n1 n12 n60 (h6.hd ql) qM hx (by lia) (λu w=>?_) λd' s' l' c' B' y g' G'=>hE _ _ _ _ _ _ _ _ _ _ g' G'
  have hu:D.int u∈las.map (·.2):=ABo (f:=(·.2)) (br w)
  rw[evs]at hu
  obtain⟨u',hu',eu⟩:=AAZ.mp hu
  cases eu
  have:=mall u (AA9 _ hu')
  lia
theorem BV:WpT rU 13 Cf:=by
 rintro ds M R ⟨ps,rs,p,tq,cs,rfl,hf,hp,pt,cl,ht,h⟩
 obtain⟨few,n1,n12⟩:=jD hf
 simp only[Cf,aH]
 walk_at "dl"
 refine⟨ps,_,rfl,few,?_⟩
 simp only[ui,uh,ug,uf]
 walk_at "dl"
 refine⟨AAW _,AAW _,?_⟩
 have e1:(M++[MO.lst (aw ps)]).length=M.length+1:=by simp
 have e2:(M++[MO.lst (aw ps)]++[MO.dkt []]).length=M.length+2:=by simp
 have e3:(M++[MO.lst (aw ps)]++[MO.dkt []]++[MO.dkt []]).length=M.length+3:=by simp
 have e4:(M++[MO.lst (aw ps)]++[MO.dkt []]++[MO.dkt []]++[MO.lst []]).length=M.length+4:=by simp
 rw[e1,e2,e3,e4]
 have g0:LgD M (M++[MO.lst (aw ps)]++[MO.dkt []]++[MO.dkt []]++[MO.lst []]++[MO.lst []]) (aw ps) [] [] [] []:=by
  refine⟨(((kO.trans kO).trans kO).trans kO).trans kO,ah (ah (ah (ah ag))),?_,?_,?_,?_⟩
  ·rw[<-e1];exact ah (ah (ah ag))
  ·rw[<-e2];exact ah (ah ag)
  ·rw[<-e3];exact ah ag
  ·rw[<-e4];exact ag
 generalize M++[MO.lst (aw ps)]++[MO.dkt []]++[MO.dkt []]++[MO.lst []]++[MO.lst []]=B0 at g0
 simp only[ue]
 walk_at "dl"
 refine⟨_,pJ g0.pre hp,λ_=>?_⟩
 refine bo (λi S M'=>∃(deeds sts:List D) (las cnt:List (D×D)) (a b c d e f:Option D),LgD M M' (aw ps) deeds sts las cnt/\GenD ps rs deeds sts las cnt i/\S=[some (.ref p),some (aH ps rs),some (.ref M.length),some (.ref (M.length+1)),some (.ref (M.length+2)),some (.ref (M.length+3)),some (.ref (M.length+4)),a,b,c,d,e,f]) ?_ ?_ ⟨[],[],[],[],_,_,_,_,_,_,g0,⟨(λ_ z=>nomatch z),.nil,(λ_ z=>nomatch z),(λ_ z=>nomatch z),(λ_ z=>nomatch z),(λ_ z=>nomatch z),AA8 _,AA8 _,AA8 _,AA8 _⟩,rfl⟩
 ·rintro S M' ⟨deeds,sts,las,cnt,a,b,c,d,e,f,g,G,rfl⟩
  rw[AA6]at G
  have dl:=G.dl
  refine⟨pJ g.pre hp,?_⟩
  simp only[qI]
  walk_at "dl"
  have tl:=aC ht
  have gd:(M'.set tq (.tb (AA1 "_law_log") true))[M.length+4]?=some (.lst deeds):=ax (by lia) g.deeds
  have hS:∀x∈deeds.map stD,St x:=λx hx=>by
   obtain⟨d,hd,rfl⟩:=AAZ.mp hx
   exact(G.dk d hd).st
  refine⟨tq,deeds,stD,cY g.pre ht,.inr ⟨_,rfl,.inl gd⟩,λd hd=>?_,(uE hS (by rw[AA6];lia)).g,λys hy hr=>?_⟩
  ·obtain⟨t,z,k,num,x,ds,rfl,_⟩:=G.dk d hd
   walk_at "dl"
   exact .inl ⟨rfl,rfl⟩
  ·have ml:M'.length=(M'.set tq (.tb (AA1 "_law_log") true)).length:=(AAu ..).symm
   refine⟨ys,by rw[ml];exact aF,?_⟩
   have hk:∀d∈ys,aK ps rs d:=λd hd=>G.dk d (hy.mem_iff.mp hd)
   have nd:(ys.map stD).Nodup:=(hy.map _).nodup_iff.mpr G.nd
   have ls:LogS ps rs ys:=by
    refine⟨hk,?_,by rw[hy.length_eq];lia⟩
    have n2:ys.Pairwise λa b=>stD a≠stD b:=List.pairwise_map.mp (ABe.mp nd)
    refine(List.Pairwise.and_mem.mp (hr.and n2)).imp λ{a b} ⟨ha,hb,q1,q2⟩=>?_
    have sa:=(hk a ha).st
    have sb:=(hk b hb).st
    have oa:okP eqN (stD a)=true:=by obtain⟨t,z,k,e⟩:=sa;rw[e];rfl
    have ob:okP eqN (stD b)=true:=by obtain⟨t,z,k,e⟩:=sb;rw[e];rfl
    rw[pI ob oa (sb.cm sa)]at q1
    have q3:=of_decide_eq_false q1
    refine AAv λq4=>q2 ?_
    exact Bh (M:=[]) oa ob (sa.cm sb) (List.le_antisymm (List.not_lt.mp q3) (List.not_lt.mp q4))
   obtain⟨L,hL⟩:=g.pre
   have eB:M'.set tq (.tb (AA1 "_law_log") true)=M.set tq (.tb (AA1 "_law_log") true)++L:=by rw[<-hL,List.set_append_left _ _ tl]
   rw[eB]
   refine aX.chg (Chg.set .refl .nil) (h ys ls) (.tup (aK.bels hk)) ?_
   rw[AAw]
   exact AAY _ _
 ·rintro i y S M' hy ⟨deeds,sts,las,cnt,a,b,c,d,e,f,g,G,rfl⟩ K hK
  rw[AAT]at hy
  obtain⟨cell,hc,rfl⟩:=ABI.mp hy
  have hi:=(AA7.mp hc).1
  refine⟨pJ g.pre hp,?_⟩
  simp only[ay,List.set_cons_zero,List.set_cons_succ]
  exact xM g G hf (by lia) λd' s' l' c' B' a b c d y g' G'=>Fgt.now (hK _ _ ⟨d',s',l',c',_,_,_,_,_,_,g',G',rfl⟩)
theorem Dc(T:Tops P w K mg base):Cal P w K mg base 8 "_law_log" Aa rU :=
 Cal.byL (N:=["_law_cells","_law_house_here","_law_hands_here","_law_last","_law_done","_law_says","_law_deeds","_law_cell","_law_held","_law_hand","_law_way","_law_time","_law_act_here"]) T.b T.f_log (by walk_at "sc") Aq (by have:=T.bm;have:=jt T;have:=cT T;have:=Dd T;have:=re T;walk_at "dvl") BV
def eH:DSp:=λds M R=>∃(ps:List (Str×Int)) (rs:List (Str×List Str)) (log:List D) (s:D),ds=[aH ps rs,.tup log,s]/\(ps.map (·.1)).Nodup/\(∀d∈log,aK ps rs d)/\log.length<64/\St s/\aQ (am rs log) s=none/\R (.ref M.length) (M++[.lst [.bl false,.bl true]])
theorem pQ:dj eH jg:=by rintro ds M R ⟨ps,rs,log,s,rfl,_⟩;rfl
def iG:DTS:=bu (iw (aa (rQ T_ "NoRoom" (ac 3)) (aa (rQ T_ "NoMessage" (ac 3)) af)))
def iH:DTS:=aB (dIf (dOr (aG (dOp qIn (dC (.bl true)) (ac 5))) (dOr (aG (rQ T_ "Gap" (ac 3))) (BO (aG (dIsV T_ (ac 3)))))) (bu (dC (.str "another"))) be) (iG)
def iI:DTS:=aB (aW (dOp aV (ac 5) (iw (aa (rQ T_ "Strange" (ac 3)) (aa (rQ T_ "NoRow" (ac 3)) (aa (rQ T_ "Clash" (ac 3)) af))))) 5) (iH)
def iJ:DTS:=aB (aW (dOp aV (ac 5) (iw (aa (rQ T_ "NoName" (ac 3)) (aa (rQ T_ "NoWhat" (ac 3)) (aa (rQ T_ "NoDeed" (ac 3)) af))))) 5) (iI)
def iK:DTS:=aB (aW (iw (aa (rQ T_ "NoHouse" (ac 3)) (aa (rQ T_ "NotYours" (ac 3)) (aa (rQ T_ "NoSaying" (ac 3)) af)))) 5) (iJ)
def iL:DTS:=aB (dIf (aG (dOp qIs (ac 3) (dC .non))) (bu (dC (.str "none"))) be) (iK)
def iM:DTS:=aB (dTry T_ "TalkError" 4 (zo (xCB bC (aa (ac 0) (aa (ac 1) (aa (ac 2) af))))) (aW (ac 4) 3)) (iL)
def mL:DTS:=aB (aW (dC .non) 3) (iM)
theorem rZ:WpT eH 6 mL:=by
 rintro ds M R ⟨ps,rs,log,s,rfl,pnd,hd,hl,hs,hr,h⟩
 simp only[mL,iM]
 walk_at "dl"
 refine⟨ps,rs,log,s,rfl,hs,pnd,hd,hl,λ_=>⟨by decide +kernel,?_⟩,λe he=>by rw[hr]at he;cases he⟩
 have g:(M++[MO.exc (AA1 "NoMessage")])[M.length]?=some (.exc (AA1 "NoMessage")):=ag
 have p:M <+: M++[MO.exc (AA1 "NoMessage")]:=kO
 generalize M++[MO.exc (AA1 "NoMessage")]=B at g p
 simp only[iL]
 walk_at "dl"
 simp only[iK]
 walk_at "dl"
 have e1:jQ T_ (AA1 "NoMessage") (AA1 "NoHouse")=some false:=by decide +kernel
 have e2:jQ T_ (AA1 "NoMessage") (AA1 "NotYours")=some false:=by decide +kernel
 have e3:jQ T_ (AA1 "NoMessage") (AA1 "NoSaying")=some false:=by decide +kernel
 simp only[g,e1,e2,e3]
 refine⟨ap (by decide),?_⟩
 have g2:=ah (a:=MO.lst [.bl false,.bl false,.bl false]) g
 have l2:(B++[MO.lst [.bl false,.bl false,.bl false]])[B.length]?=some (.lst [.bl false,.bl false,.bl false]):=ag
 have p2:=p.trans (kO (mo:=MO.lst [.bl false,.bl false,.bl false]))
 generalize B++[MO.lst [.bl false,.bl false,.bl false]]=B2 at g2 l2 p2
 generalize B.length=q2 at l2
 simp only[iJ]
 walk_at "dl"
 have e1:jQ T_ (AA1 "NoMessage") (AA1 "NoName")=some false:=by decide +kernel
 have e2:jQ T_ (AA1 "NoMessage") (AA1 "NoWhat")=some false:=by decide +kernel
 have e3:jQ T_ (AA1 "NoMessage") (AA1 "NoDeed")=some false:=by decide +kernel
 simp only[g2,e1,e2,e3]
 refine⟨ap (by decide),_,_,ah l2,ag,ap (by decide),?_⟩
 have g3:=ah (a:=MO.lst [.bl false,.bl false,.bl false,.bl false,.bl false,.bl false]) (ah (a:=MO.lst [.bl false,.bl false,.bl false]) g2)
 have l3:(B2++[MO.lst [.bl false,.bl false,.bl false]]++[MO.lst [.bl false,.bl false,.bl false,.bl false,.bl false,.bl false]])[(B2++[MO.lst [.bl false,.bl false,.bl false]]).length]?=some (.lst [.bl false,.bl false,.bl false,.bl false,.bl false,.bl false]):=ag
 have p3:=(p2.trans (kO (mo:=MO.lst [.bl false,.bl false,.bl false]))).trans (kO (mo:=MO.lst [.bl false,.bl false,.bl false,.bl false,.bl false,.bl false]))
 simp only[ACb,AB6]
 generalize B2++[MO.lst [.bl false,.bl false,.bl false]]++[MO.lst [.bl false,.bl false,.bl false,.bl false,.bl false,.bl false]]=B3 at g3 l3 p3
 generalize (B2++[MO.lst [.bl false,.bl false,.bl false]]).length=q3 at l3
 simp only[iI]
 walk_at "dl"
 have e1:jQ T_ (AA1 "NoMessage") (AA1 "Strange")=some false:=by decide +kernel
 have e2:jQ T_ (AA1 "NoMessage") (AA1 "NoRow")=some false:=by decide +kernel
 have e3:jQ T_ (AA1 "NoMessage") (AA1 "Clash")=some false:=by decide +kernel
 simp only[g3,e1,e2,e3]
 refine⟨ap (by decide),_,_,ah l3,ag,ap (by decide),?_⟩
 simp only[ACb,AB6]
 have g4:=ah (a:=MO.lst [.bl false,.bl false,.bl false,.bl false,.bl false,.bl false,.bl false,.bl false,.bl false]) (ah (a:=MO.lst [.bl false,.bl false,.bl false]) g3)
 have l4:(B3++[MO.lst [.bl false,.bl false,.bl false]]++[MO.lst [.bl false,.bl false,.bl false,.bl false,.bl false,.bl false,.bl false,.bl false,.bl false]])[(B3++[MO.lst [.bl false,.bl false,.bl false]]).length]?=some (.lst [.bl false,.bl false,.bl false,.bl false,.bl false,.bl false,.bl false,.bl false,.bl false]):=ag
 have p4:=(p3.trans (kO (mo:=MO.lst [.bl false,.bl false,.bl false]))).trans (kO (mo:=MO.lst [.bl false,.bl false,.bl false,.bl false,.bl false,.bl false,.bl false,.bl false,.bl false]))
 generalize B3++[MO.lst [.bl false,.bl false,.bl false]]++[MO.lst [.bl false,.bl false,.bl false,.bl false,.bl false,.bl false,.bl false,.bl false,.bl false]]=B4 at g4 l4 p4
 generalize (B3++[MO.lst [.bl false,.bl false,.bl false]]).length=q4 at l4
 simp only[iH]
 walk_at "dl"
 refine⟨_,.inl l4,⟨rfl,rfl⟩,?_⟩
 have e1:jQ T_ (AA1 "NoMessage") (AA1 "Gap")=some false:=by decide +kernel
 have e2:(List.lookup (AA1 "NoMessage") T_).isSome=true:=by decide +kernel
 have e3:inD B4 (.bl true) [.bl false,.bl false,.bl false,.bl false,.bl false,.bl false,.bl false,.bl false,.bl false]=false:=rfl
 rw[e3]
 simp only[g4,e1,e2]
 refine bF (bF ⟨trivial,bF ?_⟩)
 simp only[iG]
 walk_at "dl"
 have e1:jQ T_ (AA1 "NoMessage") (AA1 "NoRoom")=some false:=by decide +kernel
 have e2:jQ T_ (AA1 "NoMessage") (AA1 "NoMessage")=some true:=by decide +kernel
 simp only[g4,e1,e2]
 exact⟨ap (by decide),aX.chgL .refl h p4.length_le ag (p4.trans kO) (.cons (.bl _) (.cons (.bl _) .nil))⟩
theorem sE(T:Tops P w K mg base):Cal P w K mg base 8 "_law_refused" jg eH :=
 Cal.byD (N:=["_law_house_here","_law_log_here","_law_thing","_law_error","e","_law_some"]) T.b T.f_refused (by walk_at "sc") pQ (by have:=gf T;have:=T.cl;walk_at "dv") rZ
theorem Ar:dj (sS (AA1 "_law_log")) Ab:=by rintro ds M R ⟨ns,mo,_,_,rfl,_⟩;rfl
theorem tw{α:Type}{p:α->Bool}{x:α}:[x].filter p=if p x=true then[x]else[]:=by rw[ACH];rfl
theorem kY(ps:List (D×D)):aQ (dictOf ps) k=((ps.filter λp=>decide (p.1=k)).getLast?).map (·.2):=by
 refine cx (P:=λps=>aQ (dictOf ps) k=((ps.filter λp=>decide (p.1=k)).getLast?).map (·.2)) rfl (λps p ih=>?_) ps
 rw[cf,List.filter_append,tw]
 by_cases e:p.1=k
 ·rw[dT_ e,<-e,gk]
  simp
 ·rw[dF_ e,gn (ABO e),ih]
  simp
theorem nH:(ba rs log).length<=log.length:=by
 unfold ba
 rw[AA6]
 exact AB0 (ABx _ _) (AB0 bw.len bZ)
theorem qb(f:D->D)(s:D)(kvs:List (D×D)):aQ (kvs.map λp=>(p.1,f p.2)) s=(aQ kvs s).map f:=by
 unfold aQ
 rw[List.find?_map,Option.map_map,Option.map_map]
 rfl
theorem xp(hg:aQ (am rs log) s=some e)(hs:s=stD e):lV (av [(s,e)] log) e=lV (av (am rs log) log) e:=by
 subst hs
 have:aQ (av [(stD e,e)] log) (stD e)=aQ (av (am rs log) log) (stD e):=by
  unfold av
  rw[kY,kY,List.filter_map,List.filter_map,List.filter_filter,List.filter_filter]
  congr 3
  refine List.filter_congr λd _=>?_
  show (decide (rh d=stD e)&&byW [(stD e,e)] d)=(decide (rh d=stD e)&&byW (am rs log) d)
  by_cases h:rh d=stD e
  ·unfold byW
   rw[h,hg,show aQ [(stD e,e)] (stD e)=some e from by simp[aQ]]
  ·rw[dF_ h];rfl
 unfold lV
 rw[this]
def MsgK(d:D):Prop:=∃(st u:D) (r w s:Str) (b:Bool),d=.tup [st,.str r,u,.str w,.str s,.bl b]/\St st/\(u=.non\/St u)
theorem MsgK.pl(h:MsgK d):Pln 3 d:=by
 obtain⟨st,u,r,w,s,b,rfl,h1,h2⟩:=h
 refine .tup (.cons (h1.pl (n:=0)) (.cons (.str _) (.cons ?_ (.cons (.str _) (.cons (.str _) (.cons (.bl _) .nil))))))
 rcases h2 with rfl | h2
 ·exact .non
 ·exact h2.pl
theorem Dm(hd:∀d∈log,aK ps rs d):∀x∈ba rs log,MsgK x:=λx hx=>by
 obtain⟨p,hp,rfl⟩:=AAZ.mp hx
 obtain⟨_,h2,h3⟩:=gH hd p hp
 generalize p.2=d at h2 h3
 obtain⟨t,z,k,num,r,u,s,rfl,_,_,_,hu⟩:=kN h2 h3
 have hv:∃s',(aQ (av (am rs log) log) (stD (.tup [.int t,.tup [.str z,.int k],.int num,.tup [.str (AA1 "say"),.str r,u,.str s]]))).getD (.str s)=.str s':=by
  cases e:aQ (av (am rs log) log) (stD (.tup [.int t,.tup [.str z,.int k],.int num,.tup [.str (AA1 "say"),.str r,u,.str s]])) with
  | none=>exact⟨s,rfl⟩
  | some v=>exact fG hd _ (br e)
 obtain⟨s',e⟩:=hv
 exact⟨.tup [.int t,.tup [.str z,.int k]],u,r,z,s',_,congrArg (λv=>D.tup [.tup [.int t,.tup [.str z,.int k]],.str r,u,.str z,v,.bl _]) e,⟨_,_,_,rfl⟩,hu⟩
theorem uN(hi:ao M i xs)(hj:ao M j xs)(h:∀x∈xs,okD M 29 x=true/\eqD M 29 x x=true):(okD M eqN (.ref i)=true/\okD M eqN (.ref j)=true)/\eqD M eqN (.ref i) (.ref j)=true :=
 ⟨⟨lQ (n:=29) hi λx hx=>(h x hx).1,lQ (n:=29) hj λx hx=>(h x hx).1⟩,(rJ (n:=29) hi hj).trans (mf λx hx=>(h x hx).2)⟩
def qO:DTS:=bu (dC (.bl true))
def uj:DTS:=dIf (dOr (BO (aG (dCB yP (aa (ac 12) (aa (dC (.ty "tuple")) af))))) (aG (dOp qNe (ac 12) (oy (ac 9) (ac 11))))) (bu (dC (.bl false))) be
def uk:DTS:=aB (mn (dc (ac 4)) (ay 11) (dIf (aG (dOp zK (ac 11) (ac 9))) (aB (aW (dCB (prN bC) (aa (ac 1) (aa (ac 2) (aa (ac 11) af)))) 12) (uj)) (dIf (aG (dOp qNe (dCB eH (aa (ac 1) (aa (ac 2) (aa (ac 11) af)))) (iw (aa (dC (.bl false)) (aa (dC (.bl true)) af))))) (bu (dC (.bl false))) be))) (qO)
def ul:DTS:=aB (mn (dc (dCB bJ (aa (ac 1) (aa (ac 2) af)))) (ay 10) (qg (ac 9) (dOp qIx (ac 10) (dC (.int 0))) (ac 10))) (uk)
def um:DTS:=aB (aW (qh) 9) (ul)
def uo:DTS:=dIf (aG (dOp qIn (dOp qIx (ac 8) (dC (.int 0))) (fH (aa (dC (.str "change")) (aa (dC (.str "back")) (aa (dC (.str "like")) (aa (dC (.str "seen")) (aa (dC (.str "rung")) af)))))))) (ix (dMl bW (ac 4) (aa (dOp qIx (ac 8) (dC (.int 1))) af))) be
def ut:DTS:=aB (mn (dc (ac 2)) (oq 4 (ci (ay 5) (ci (ay 6) (ci (ay 7) (ci (ay 8) ou))))) (aB (ix (dMl bW (ac 4) (aa (fH (aa (ac 5) (aa (ac 6) af))) af))) (uo))) (um)
def uu:DTS:=aB (aW (iw (aa (dCB bN (aa (ac 3) (aa (dCB gD (aa (ac 1) af)) (aa (iw af) af)))) af)) 4) (ut)
def oX:DTS:=aB (aW (dCB cr (aa (dCB cJ (aa (ac 0) (aa (dC (.int 1)) af))) af)) 3) (uu)
def uv:DTS:=aB (aW (dCB rU (aa (dSl (ac 0) (jZ (dC (.int 2))) (jZ (dC (.int 62)))) (aa (ac 1) af))) 2) (oX)
def Cg:DTS:=aB (aW (dCB iC (aa (dCB cJ (aa (ac 0) (aa (dC (.int 0)) af))) af)) 1) (uv)
theorem BW:WpT (sS (AA1 "_law_log")) 13 Cg:=by
 rintro ds M R ⟨ns,mo,h63,⟨hmo,hml⟩,rfl,rfl,h⟩
 have hL0:ao [mo,.tb (AA1 "_law_log") false] 0 (ns.map D.int):=by
  have:=jw (M:=[mo,.tb (AA1 "_law_log") false]) (n:=0) (mo:=mo) rfl hml
  rw[hmo]at this
  exact this
 simp only[Cg]
 walk_at "dl"
 refine⟨0,ns,0,rfl,hL0,_,rfl,λps rs hf=>?_⟩
 simp only[uv]
 walk_at "dl"
 refine⟨_,hL0,?_⟩
 have ec:∃cs:List Int,cutD (ns.map D.int) (some 2) (some 62)=cs.map D.int/\cs.length<=60:=by
  unfold cutD
  refine⟨(ns.drop (HT.sIx (ns.map D.int).length 0 (some 2))).take (HT.sIx (ns.map D.int).length (ns.map D.int).length (some 62)-HT.sIx (ns.map D.int).length 0 (some 2)),by rw[List.map_take,List.map_drop],?_⟩
  rw[AAx]
  unfold HT.sIx
  simp
  lia
 obtain⟨cs,ec,cl⟩:=ec
 rw[ec]
 refine⟨ps,rs,2,1,cs,rfl,hf,.inl rfl,by decide,cl,rfl,λlog hl=>?_⟩
 have l60:=hl.len
 have hL:ao ([mo,.tb (AA1 "_law_log") true,.lst (cs.map D.int)]:Mem) 0 (ns.map D.int):=by
  have:=jw (M:=[mo,.tb (AA1 "_law_log") true,.lst (cs.map D.int)]) (n:=0) (mo:=mo) rfl hml
  rw[hmo]at this
  exact this
 show oX _ _ ([mo,.tb (AA1 "_law_log") true,.lst (cs.map D.int)]:Mem)
 generalize ([mo,.tb (AA1 "_law_log") true,.lst (cs.map D.int)]:Mem)=B0 at hL
 obtain⟨few,n1,n12⟩:=jD hf
 simp only[oX]
 walk_at "dl"
 refine⟨0,ns,1,rfl,hL,_,rfl,λn0=>?_⟩
 have q0:HdP (B0++[MO.lst [.int n0]]) B0.length:=⟨n0,ag⟩
 generalize B0++[MO.lst [.int n0]]=B1 at q0
 generalize B0.length=q3 at q0
 simp only[uu]
 walk_at "dl"
 refine⟨ps,_,rfl,few,AAW _,?_⟩
 have g5:(B1++[MO.lst (aw ps)]++[MO.lst []])[B1.length]?=some (.lst (aw ps)):=ah ag
 have hq:=q0.lt
 refine⟨q3,_,_,aw ps,[],rfl,by obtain⟨n,e⟩:=q0;exact⟨n,ah (ah e)⟩,by lia,by simp;lia,.inl g5,ma,n1,n12,aF,(λ_ z=>nomatch z),AAW _,λs0 n2 hs0=>⟨ap (by decide),?_⟩⟩
 generalize (B1++[MO.lst (aw ps)]++[MO.lst []]).set q3 (.lst [.int n2])=B2
 have g4:(B2++[MO.lst [s0]])[B2.length]?=some (.lst [s0]):=ag
 generalize B2++[MO.lst [s0]]=B3 at g4
 generalize B2.length=q4 at g4
 simp only[ut]
 walk_at "dl"
 intro _
 refine bo (λi S M=>∃sts a b c d,S=[some (.ref 0),some (aH ps rs),some (.tup log),some (.ref q3),some (.ref q4),a,b,c,d,none,none,none,none]/\M[q4]?=some (.lst sts)/\(∀x∈sts,St x)/\sts.length<=1+2*i) ?_ ?_ ⟨[s0],_,_,_,_,rfl,g4,λx hx=>by rw[ABA.mp hx];exact hs0,AA8 _⟩
 case refine_2 =>
  rintro i x S M hx ⟨sts,a,b,c,d,rfl,g4,hst,nl⟩ L hK
  have hi:=(AA7.mp hx).1
  obtain⟨t,z,k,num,kd,ds,rfl,h1,h2,hp,ha⟩:=hl.dk x (AAo hx)
  refine⟨trivial,?_⟩
  walk_at "dl"
  refine⟨trivial,⟨_,.inl g4⟩,ap (by decide),_,g4,ap (by lia),?_⟩
  have lt4:=aC g4
  have g5:(M.set q4 (.lst (sts++[D.tup [.int t,.tup [.str z,.int k]]])))[q4]?=some (.lst (sts++[D.tup [.int t,.tup [.str z,.int k]]])):=AAV lt4
  have hst2:∀x∈sts++[D.tup [.int t,.tup [.str z,.int k]]],St x:=λx hx=>by
   rcases AAk.mp hx with hx | hx
   ·exact hst x hx
   ·rw[ABA.mp hx];exact⟨t,z,k,rfl⟩
  have nl2:(sts++[D.tup [.int t,.tup [.str z,.int k]]]).length<=2+2*i:=by rw[AAE,AAg];lia
  generalize sts++[D.tup [.int t,.tup [.str z,.int k]]]=st2 at g5 hst2 nl2
  generalize M.set q4 (.lst st2)=M2 at g5
  simp only[uo]
  walk_at "dl"
  refine⟨ap (by decide),⟨aZ,rfl⟩,?_⟩
  have ein:inD M2 (.str kd) [.str (AA1 "change"),.str (AA1 "back"),.str (AA1 "like"),.str (AA1 "seen"),.str (AA1 "rung")]=decide (kd∈[AA1 "change",AA1 "back",AA1 "like",AA1 "seen",AA1 "rung"]):=qa (l:=[AA1 "change",AA1 "back",AA1 "like",AA1 "seen",AA1 "rung"])
  rw[ein]
  by_cases hk:kd∈[AA1 "change",AA1 "back",AA1 "like",AA1 "seen",AA1 "rung"]
  ·rw[dT_ hk]
   have hm:∃m r,ds=m::r/\St m:=by
    simp only[AAM,ADF,or_false]at hk
    rcases hk with e | e | e | e | e
    ·obtain⟨m,s,rfl,h⟩:=ha.change e;exact⟨m,_,rfl,h⟩
    ·obtain⟨m,rfl,h⟩:=ha.back e;exact⟨m,_,rfl,h⟩
    ·obtain⟨m,s,b,rfl,h⟩:=ha.like e;exact⟨m,_,rfl,h⟩
    ·obtain⟨m,rfl,h⟩:=ha.seen e;exact⟨m,_,rfl,h⟩
    ·obtain⟨m,rfl,h⟩:=ha.rung e;exact⟨m,_,rfl,h⟩
   obtain⟨m,r,rfl,hm⟩:=hm
   refine bQ ⟨⟨_,.inl g5⟩,?_⟩
   rw[at1]
   refine⟨_,g5,ap (by lia),Fgt.now (hK _ _ ⟨st2++[m],_,_,_,_,rfl,AAV (aC g5),λx hx=>?_,by rw[AAE,AAg];lia⟩)⟩
   rcases AAk.mp hx with hx | hx
   ·exact hst2 x hx
   ·rw[ABA.mp hx];exact hm
  ·rw[dF_ hk]
   exact bF (Fgt.now (hK _ _ ⟨st2,_,_,_,_,rfl,g5,hst2,by lia⟩))
 rintro S M ⟨sts,a,b,c,d,rfl,g4,hst,nl⟩
 refine⟨trivial,?_⟩
 simp only[um]
 walk_at "dl"
 have g9:(M++[MO.dkt []])[M.length]?=some (.dkt []):=ag
 have n49:q4≠M.length:=by have:=aC g4;lia
 replace g4:=ah (a:=MO.dkt []) g4
 generalize M++[MO.dkt []]=B4 at g4 g9
 generalize M.length=q9 at g9 n49
 simp only[ul]
 walk_at "dl"
 refine⟨ps,rs,log,rfl,hl.dk,by lia,_,aF,λ_=>?_⟩
 have ml:=nH (rs:=rs) (log:=log)
 have gm:(B4++[MO.lst (ba rs log)])[B4.length]?=some (.lst (ba rs log)):=ag
 have lt9:=aC g9
 have lt4:=aC g4
 have tb:=bw (rs:=rs) (log:=log)
 have snd:=qW (rs:=rs) (log:=log)
 have sv:=gH (rs:=rs) hl.dk
 have sl:(am rs log).length<=100:=by unfold ba at ml;rw[AA6]at ml;lia
 refine bo (λi S M=>∃e,S=[some (.ref 0),some (aH ps rs),some (.tup log),some (.ref q3),some (.ref q4),a,b,c,d,some (.ref q9),e,none,none]/\M[q4]?=some (.lst sts)/\M[q9]?=some (.dkt (((am rs log).take i).map λp=>(p.1,lV (av (am rs log) log) p.2)))/\M[B4.length]?=some (.lst (ba rs log))) ?_ ?_ ⟨_,rfl,ah g4,ah g9,gm⟩
 case refine_2 =>
  rintro i x S M hx ⟨e,rfl,g4,g9,gm⟩ L hK
  refine⟨.inl gm,?_⟩
  unfold ba at hx
  rw[AAT]at hx
  obtain⟨p,hp,rfl⟩:=ABI.mp hx
  obtain⟨h1,h2,h3⟩:=sv p (AAo hp)
  obtain⟨t0,z0,k0,e0⟩:=h2.st
  have et:(am rs log).take (i+1)=(am rs log).take i++[p]:=by rw[AD4,hp];rfl
  have hi:=(AA7.mp hp).1
  have new:p.1∉(((am rs log).take i).map λp=>(p.1,lV (av (am rs log) log) p.2)).map (·.1):=λhm=>by
   rw[ABT]at hm
   have nd2:(((am rs log).take (i+1)).map (·.1)).Nodup:=snd.sublist ((ADg _ _).map _)
   rw[et,AB8]at nd2
   exact(ADn.mp nd2).2.2 _ hm p.1 (by simp) rfl
  have fin:eV (((am rs log).take i).map λp=>(p.1,lV (av (am rs log) log) p.2)) p.1 (lV (av (am rs log) log) p.2)=((am rs log).take (i+1)).map λp=>(p.1,lV (av (am rs log) log) p.2):=by
   rw[qY new,et,AB8];rfl
  have lt9:=aC g9
  have n9:q9≠B4.length:=by lia
  obtain⟨r,em⟩:∃r,lV (av (am rs log) log) p.2=.tup (stD p.2::r):=⟨_,rfl⟩
  rw[h1]at fin
  rw[em,e0]at fin ⊢
  walk_at "dl"
  refine⟨_,g9,rfl,by rw[AA6,AAx];exact ap (by lia),?_⟩
  rw[fin]
  exact Fgt.now (hK _ _ ⟨_,rfl,ax n49 g4,AAV lt9,ax (ABO n9) gm⟩)
 rintro S M ⟨e,rfl,g4,g9,gm⟩
 rw[show (ba rs log).length=(am rs log).length from AA6 ..,ACB]at g9
 refine⟨.inl gm,?_⟩
 simp only[uk]
 walk_at "dl"
 refine⟨_,.inl g4,λ_=>?_⟩
 refine bo (λi S M=>∃e f g,S=[some (.ref 0),some (aH ps rs),some (.tup log),some (.ref q3),some (.ref q4),a,b,c,d,some (.ref q9),e,f,g]/\M[q4]?=some (.lst sts)/\M[q9]?=some (.dkt ((am rs log).map λp=>(p.1,lV (av (am rs log) log) p.2)))) ?_ ?_ ⟨_,_,_,rfl,g4,g9⟩
 case refine_1 =>
  rintro S M ⟨e,f,g,rfl,g4,g9⟩
  refine⟨.inl g4,?_⟩
  simp only[qO]
  walk_at "dl"
  exact .inl (h _)
 rintro i x S M hx ⟨e,f,g,rfl,g4,g9⟩ L hK
 have hx:=hst x (AAo hx)
 obtain⟨t,z,k,rfl⟩:=id hx
 refine⟨.inl g4,?_⟩
 walk_at "dl"
 refine⟨_,g9,rfl,?_⟩
 rw[qb]
 cases hg:aQ (am rs log) (.tup [.int t,.tup [.str z,.int k]]) with
 | some e1 =>
  obtain⟨h1,h2,h3⟩:=sv _ (br hg)
  refine bQ ?_
  refine⟨ps,rs,log,_,rfl,hx,hf.pnd,hl.dk,by lia,(λz=>by rw[hg]at z;cases z),λe2 he2=>?_⟩
  rw[hg]at he2
  cases he2
  rw[xp hg h1]
  have mk:=(Dm hl.dk _ (AAZ.mpr ⟨_,br hg,rfl⟩)).pl
  have eg:aQ ((am rs log).map λp=>(p.1,lV (av (am rs log) log) p.2)) (.tup [.int t,.tup [.str z,.int k]])=some (lV (av (am rs log) log) e1):=by rw[qb,hg];rfl
  dsimp only at mk
  obtain⟨l,em⟩:∃l,lV (av (am rs log) log) e1=.tup l:=⟨_,rfl⟩
  rw[em]at mk eg ⊢
  have ok:=CG (M:=M) 3 eqN _ (by decide) mk
  simp only[uj]
  walk_at "dl"
  refine⟨⟨by decide,by decide⟩,bF ⟨_,_,g9,rfl,eg,⟨ok.1,ok.1⟩,?_⟩⟩
  rw[ok.2]
  exact bF (Fgt.now (hK _ _ ⟨_,_,_,rfl,g4,g9⟩))
 | none =>
  refine bF ?_
  refine⟨ps,rs,log,_,rfl,hf.pnd,hl.dk,by lia,hx,hg,ap (by decide),?_⟩
  have rf:=uN (M:=M++[MO.lst [.bl false,.bl true]]++[MO.lst [.bl false,.bl true]]) (i:=M.length) (j:=(M++[MO.lst [.bl false,.bl true]]).length) (xs:=[.bl false,.bl true]) (.inl (ah ag)) aF λx hx=>by
   rcases AAM.mp hx with rfl | hx
   ·exact⟨rfl,rfl⟩
   ·rw[ABA.mp hx];exact⟨rfl,rfl⟩
  refine⟨rf.1,?_⟩
  rw[rf.2]
  exact bF (Fgt.now (hK _ _ ⟨_,_,_,rfl,ah (ah g4),ah (ah g9)⟩))
theorem ok_law(T:Tops P w K mg base)(F:Fun K "law" "law" (top 57) f fd):FnOk P w K mg base CX0 9 f fd Ab (spL K (sS "_law_log")) :=
 ym (N:=["_law_script","_law_house_here","_law_log_here","_law_held","_law_stamps","_law_time","_law_hand","_law_number","_law_act_here","_law_due","_law_message","_law_stamp","_law_told"]) T.b F (by walk_at "sc") Ar (by have:=jS T;have:=(gf T).nev;have:=sH T;have:=jt T;have:=xE T;have:=pD T;have:=re T;have:=Dc T;have:=sE T;walk_at "dv") BW
end
end LW
namespace PySem.W.Fast
def tw10053248786412142453:=Nat
def tw10197560978465325485:=Nat
def tw1020616191205431746:=Nat
def tw10254185207122456855:=Nat
def tw10285198141523246695:=Nat
def tw10300730507884780464:=Nat
def tw10384272228571356173:=Nat
def tw10460321393785659783:=Nat
def tw10471121561806428358:=Nat
def tw10560706619882821481:=Nat
def tw10568312281920038395:=Nat
def tw10602608538007953526:=Nat
def tw10685142879666037747:=Nat
def tw10963670516419821438:=Nat
def tw11102580017221023342:=Nat
def tw11122935549737759071:=Nat
def tw11125472395271070471:=Nat
def tw1114142034913418990:=Nat
def tw11271114755291364756:=Nat
def tw11292534606309783013:=Nat
def tw11295078355532337375:=Nat
def tw11330542623891576236:=Nat
def tw11545539928103249720:=Nat
def tw11564790308916687107:=Nat
def tw11755824573789337743:=Nat
def tw11847823784422743167:=Nat
def tw1185803058260035808:=Nat
def tw11965494768532169424:=Nat
def tw11981092616940183144:=Nat
def tw12010705741017137690:=Nat
def tw12063450570715990682:=Nat
def tw12167940672167010292:=Nat
def tw12181984029755544480:=Nat
def tw12365841392730324962:=Nat
def tw12401374264506887090:=Nat
def tw12456824145994157789:=Nat
def tw12490501902780209063:=Nat
def tw12601524187940648093:=Nat
def tw12602735628196862238:=Nat
def tw12691737198064779209:=Nat
def tw12750386894918020214:=Nat
def tw12790745298242915197:=Nat
def tw12814333398092557721:=Nat
def tw1285182945868406292:=Nat
def tw12869321447151256407:=Nat
def tw12891771491228816511:=Nat
def tw12914253375083059718:=Nat
def tw12920756976283311294:=Nat
def tw13275667277235701577:=Nat
def tw13338657340842031151:=Nat
def tw13351209240400986746:=Nat
def tw1347845540135459747:=Nat
def tw13495397210832757363:=Nat
def tw13555264358124079942:=Nat
def tw13557065244017086959:=Nat
def tw13659806809686914100:=Nat
def tw13724640760969628441:=Nat
def tw13823730749675854122:=Nat
def tw13847065586656853750:=Nat
def tw13904162863575084078:=Nat
def tw13907196470439689175:=Nat
def tw13962742145981439852:=Nat
def tw14008209980464702717:=Nat
def tw14018538737433711420:=Nat
def tw14052609030394395455:=Nat
def tw14081035936709918234:=Nat
def tw14350336371614627303:=Nat
def tw14351660682055340983:=Nat
def tw14410168636364640775:=Nat
def tw14479280230612911646:=Nat
def tw14765016762548087023:=Nat
def tw14778973751689602309:=Nat
def tw14818058182951853473:=Nat
def tw14826129221614119039:=Nat
def tw14891732142080308232:=Nat
def tw15011806447660418148:=Nat
def tw15026481259556420857:=Nat
def tw15077910510566343127:=Nat
def tw15157301127638573491:=Nat
def tw15170958096038240653:=Nat
def tw15353597478682123739:=Nat
def tw15408728668015992068:=Nat
def tw15429804366974250589:=Nat
def tw15448911730536036249:=Nat
def tw15474596640830124660:=Nat
def tw15510890328973238335:=Nat
def tw15527863779024756471:=Nat
def tw15544664488750426394:=Nat
def tw15562710232875148453:=Nat
def tw15609006992857077663:=Nat
def tw15909118210599600890:=Nat
def tw16038580751510804114:=Nat
def tw16053051926819606904:=Nat
def tw16204116617294577613:=Nat
def tw16233762032897998708:=Nat
def tw1629736519134505177:=Nat
def tw16300693375024534194:=Nat
def tw16332124242750029146:=Nat
def tw16364586848753857470:=Nat
def tw16397650608942001298:=Nat
def tw16516818266275768110:=Nat
def tw16558344621118142943:=Nat
def tw16596350324904791626:=Nat
def tw16714099227821090938:=Nat
def tw1698616480721128060:=Nat
def tw17132513365806852976:=Nat
def tw17207724872609423399:=Nat
def tw17305982615211939542:=Nat
def tw17365999082573939512:=Nat
def tw17386908581212826316:=Nat
def tw17437420745545645888:=Nat
def tw17499100331240690825:=Nat
def tw17518177061820329190:=Nat
def tw17522396814744396792:=Nat
def tw17531254014942086997:=Nat
def tw17549623949924439147:=Nat
def tw17578676604175664166:=Nat
def tw17621657403426205838:=Nat
def tw17668072784935691924:=Nat
def tw17688048299061399309:=Nat
def tw17756998919580762565:=Nat
def tw177923381223361794:=Nat
def tw17837261292741780232:=Nat
def tw17884481055204341663:=Nat
def tw17950640238866314991:=Nat
def tw17973161392735122670:=Nat
def tw18050696553025980044:=Nat
def tw1805615419831017164:=Nat
def tw18151267056713652889:=Nat
def tw18319527083344772286:=Nat
def tw1833053812519392290:=Nat
def tw1910837339628540777:=Nat
def tw1922808883348401790:=Nat
def tw1946845702010092315:=Nat
def tw1974743959203600117:=Nat
def tw1988113266393281727:=Nat
def tw2003192030329959144:=Nat
def tw2023252780725672898:=Nat
def tw2033520077809273181:=Nat
def tw2219829126241684192:=Nat
def tw229863994984060286:=Nat
def tw2307497280504652057:=Nat
def tw2309602242174329584:=Nat
def tw2328447743816957328:=Nat
def tw235081999654315382:=Nat
def tw2394122972944941430:=Nat
def tw2412559771875799500:=Nat
def tw2531552386583424199:=Nat
def tw2679849537258994004:=Nat
def tw269109459201346141:=Nat
def tw2914298670341065549:=Nat
def tw2982827122335190978:=Nat
def tw317369116558309419:=Nat
def tw3272142504725397123:=Nat
def tw3331719220579006039:=Nat
def tw3477235095641969998:=Nat
def tw3520782570914274105:=Nat
def tw3572186473070710132:=Nat
def tw3873092007294389069:=Nat
def tw3901278122799275921:=Nat
def tw3946222347392219642:=Nat
def tw4020290192509195355:=Nat
def tw4078003669114421096:=Nat
def tw431422702497614053:=Nat
def tw4402158453292771443:=Nat
def tw4412226588910098346:=Nat
def tw4474747677586491289:=Nat
def tw4527678941853023400:=Nat
def tw475547950846189805:=Nat
def tw4800609768631907127:=Nat
def tw5020711358831154817:=Nat
def tw515877372229678906:=Nat
def tw5190967624898142553:=Nat
def tw5322549651496455565:=Nat
def tw5396750110499656691:=Nat
def tw5424943652013613148:=Nat
def tw5441228187239394898:=Nat
def tw5565363864411066821:=Nat
def tw5577409238324081545:=Nat
def tw5630361306094938919:=Nat
def tw5667228784805002060:=Nat
def tw5686314429959748979:=Nat
def tw5827316912531115445:=Nat
def tw5853734482253791978:=Nat
def tw5885450554247761806:=Nat
def tw5958357602951908137:=Nat
def tw5990525444985245609:=Nat
def tw6015181824080272812:=Nat
def tw6052268152826418286:=Nat
def tw6056068935130613626:=Nat
def tw6142190806045994750:=Nat
def tw619587912320336770:=Nat
def tw6322484112461885092:=Nat
def tw6326507940083900106:=Nat
def tw6342706066582458857:=Nat
def tw6374400168682774831:=Nat
def tw6400529938117669080:=Nat
def tw6620585741462618080:=Nat
def tw6718603086211423396:=Nat
def tw68186368516733533:=Nat
def tw6868450653225577687:=Nat
def tw696842462303342061:=Nat
def tw7044166187908066726:=Nat
def tw7128275901275841069:=Nat
def tw7328894145097980880:=Nat
def tw7440240097152764790:=Nat
def tw7486803447261663766:=Nat
def tw7552082859667101071:=Nat
def tw7684082109396674723:=Nat
def tw7715323894873864808:=Nat
def tw7717507129165256410:=Nat
def tw783089882305642118:=Nat
def tw7844785197093455509:=Nat
def tw7983329124845382867:=Nat
def tw80064223252554270:=Nat
def tw8016907627135363078:=Nat
def tw8083421098613720193:=Nat
def tw8131778311361967668:=Nat
def tw8158990099292687445:=Nat
def tw8195922313641708118:=Nat
def tw8239881063640303310:=Nat
def tw8400254793296690759:=Nat
def tw8424795295086216095:=Nat
def tw8469450604666682658:=Nat
def tw8475709744851302799:=Nat
def tw8508033166125268825:=Nat
def tw8619380868665503297:=Nat
def tw8626237489398591434:=Nat
def tw8634310994293847441:=Nat
def tw8731117798230931286:=Nat
def tw8764430352695379951:=Nat
def tw8796881044778819152:=Nat
def tw886419288064345865:=Nat
def tw8963298315424707598:=Nat
def tw9028787164523792259:=Nat
def tw9038589491835337474:=Nat
def tw9105468211026792783:=Nat
def tw9166835505683520319:=Nat
def tw9168490828473234025:=Nat
def tw9367911201677863650:=Nat
def tw9428390444107156505:=Nat
def tw9475424236567151169:=Nat
def tw9476606062491859800:=Nat
def tw9568397054865459468:=Nat
def tw9609696429867391039:=Nat
def tw9663556250088290471:=Nat
def tw9710782483748278868:=Nat
def tw9792772810168953360:=Nat
def tw9960352478195355007:=Nat
def tw9992857896971257651:=Nat
end PySem.W.Fast
theorem L2.us1{P:List ACa->Prop}(h:∀a0,P [a0]):∀us:List ACa,us.length=1->P us
 | [a0],_=>h a0
theorem L2.us2{P:List ACa->Prop}(h:∀a0 a1,P [a0,a1]):∀us:List ACa,us.length=2->P us
 | [a0,a1],_=>h a0 a1
theorem L2.us3{P:List ACa->Prop}(h:∀a0 a1 a2,P [a0,a1,a2]):∀us:List ACa,us.length=3->P us
 | [a0,a1,a2],_=>h a0 a1 a2
theorem L2.us4{P:List ACa->Prop}(h:∀a0 a1 a2 a3,P [a0,a1,a2,a3]):∀us:List ACa,us.length=4->P us
 | [a0,a1,a2,a3],_=>h a0 a1 a2 a3
theorem L2.us5{P:List ACa->Prop}(h:∀a0 a1 a2 a3 a4,P [a0,a1,a2,a3,a4]):∀us:List ACa,us.length=5->P us
 | [a0,a1,a2,a3,a4],_=>h a0 a1 a2 a3 a4
local macro_rules | `(tactic| walk_at "fk")=>`(tactic| ((case a=>k_is);(case l=>k_is);(case c=>k_is);(case k=>k_is)))
local macro_rules | `(tactic| walk_at "f1")=>`(tactic| (refine' L2.fnat_mk (by assumption) (by assumption) ?a ?l ?c ?k (λ_ _ _ _ _ _=>L2.us1 (λ_=>rfl));walk_at "fk"))
local macro_rules | `(tactic| walk_at "f2")=>`(tactic| (refine' L2.fnat_mk (by assumption) (by assumption) ?a ?l ?c ?k (λ_ _ _ _ _ _=>L2.us2 (λ_ _=>rfl));walk_at "fk"))
local macro_rules | `(tactic| walk_at "f3")=>`(tactic| (refine' L2.fnat_mk (by assumption) (by assumption) ?a ?l ?c ?k (λ_ _ _ _ _ _=>L2.us3 (λ_ _ _=>rfl));walk_at "fk"))
local macro_rules | `(tactic| walk_at "f4")=>`(tactic| (refine' L2.fnat_mk (by assumption) (by assumption) ?a ?l ?c ?k (λ_ _ _ _ _ _=>L2.us4 (λ_ _ _ _=>rfl));walk_at "fk"))
local macro_rules | `(tactic| walk_at "f5")=>`(tactic| (refine' L2.fnat_mk (by assumption) (by assumption) ?a ?l ?c ?k (λ_ _ _ _ _ _=>L2.us5 (λ_ _ _ _ _=>rfl));walk_at "fk"))
open PySem PySem.W PyProof.Rows
set_option maxRecDepth 100000 in
set_option maxHeartbeats 0 in
theorem PySem.Challenge.cw_talkmarks_k22_the_message_of_a_stamp_holds : PySem.Challenge.rw_talkmarks_k22_the_message_of_a_stamp.Holds := by
 w_on; o_law; k_head; (case hw=>w_witness2)
 k_fill
 refine L2.law_walkL (z:="_law_log") (l:=PySem.Challenge.rw_talkmarks_k22_the_message_of_a_stamp) (k:=9) (st:=LW.top 57) (x:="_law_script") rfl rfl rfl ⟨rfl,by decide,by decide⟩ (fun w h Y=>PySem.W.km_in_of Y) (fun _=>by kernel_rfl) rfl (fun _=>rfl) ?F (fun _ _ _ _ _ _ _=>rfl)
 case F =>
  intro w mg h KX G
  have T:∀ P base,L2.BMain mg base→LW.Tops P w (L2.KOf KX) mg base:=by
   intro P base bm
   dsimp only [L2.KOf]
   constructor
   ·walk_at "f1"
   ·walk_at "f2"
   ·walk_at "f2"
   ·walk_at "f2"
   ·walk_at "f2"
   ·walk_at "f2"
   ·walk_at "f2"
   ·walk_at "f1"
   ·walk_at "f1"
   ·walk_at "f2"
   ·walk_at "f1"
   ·walk_at "f1"
   ·walk_at "f3"
   ·walk_at "f2"
   ·walk_at "f2"
   ·walk_at "f3"
   ·walk_at "f2"
   ·walk_at "f2"
   ·walk_at "f2"
   ·walk_at "f2"
   ·walk_at "f2"
   ·walk_at "f3"
   ·walk_at "f3"
   ·walk_at "f2"
   ·walk_at "f1"
   ·walk_at "f2"
   ·walk_at "f1"
   ·walk_at "f2"
   ·walk_at "f1"
   ·walk_at "f2"
   ·walk_at "f3"
   ·walk_at "f3"
   ·walk_at "f4"
   ·walk_at "f5"
   ·walk_at "f1"
   ·walk_at "f2"
   ·walk_at "f3"
   ·walk_at "f1"
   ·unfold LW.B_ LW.C_
    iterate 12 (refine' L2.TopB.b ?tq ?_; (case tq=>refine' PySem.W.mg_none_of KX G ?tr; (case tr=>k_is)))
    exact .nil
   ·kernel_rfl
   ·exact bm
  refine ⟨?_,fun base f fd bm F=>LW.ok_law (T _ base bm) F⟩
  try dsimp only [L2.KOf]
  walk_at "f1"
