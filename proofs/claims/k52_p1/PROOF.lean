import PyProof.Rows.All
import Wide.All
import OpenK.AllK
import Wide.FinOn
import Lean
import PyProof.EqAt
import PyProof.EqKinds
import PyProof.TupleCall
import PyProof.CompFree
import PyProof.NeKinds
import KE.KSortTup
import KE.KRevSl
import KE.KDictSum
import KE.KEqDict
import PyProof.Conv_int_bool
import PyProof.AttrMissHeap
import KE.KLam
import KE.KRevIter
import PySem.Challenge.RW_talkmarks_k52_bells_behind_hushes
open PySem.Str renaming ofString->AA0
open PySem renaming wpAny_bind->AA1,wpAny_pure->AA2,Spec->AAD,wpAny_newObj_type->AAp,wpAny_holding->AAr,wpAny_call_entry->AAw,wpAny_callSpecial?_slot->AB3,wpAny_mono->ABF,wpAny_setState_of->ABL,mem_of_lookup->ABU,wpAny_fieldsOf->ABZ,codeAny_builtin->ABg,wpAny_ite_split->ABh,sizeLine_eq->ABr,eqIsQuiet_byValue->ABu,wpAny_setField->ABw,wpAny_specialOf->AC0,wpAny_Call_Name_kw->AC4,wpAny_forIn_list->AC8,wpAny_typeNameOfWhole_keyiter->AC9,wpAny_typeNameOfWhole_valiter->ACA,wpAny_truthy_bool->ACC,wpAny_askSetting->ACM,wpAny_isInstance->ACN,wpAny_attempt->ACO,wpAny_passesOwn->ACV,wpAny_dictEntries->ACa,wpAny_typeNameOf_keyiter->ACb,wpAny_typeNameOf_valiter->ACc,wpAny_typeOf->ACe,wpAny_setEntries_of->ACi,wpAny_seqItems->ACn,wpAny_callSpecialIfBoundUnlessNone?_slot->ACt,builtinLookup_eq_fast->ACw,wpAny_notOrdered_dict->ACy,wpAny_dictEpoch->AD1,wpAny_rule->AD5,wpAny_newList->AD7,plainId_quiet->AD9,wpAny_pyHash_int->ADK,wpAny_pyHash_str->ADL,codeAny_mono->ADP,wpAny_loadPart'->ADW,wpAny_Call_method_late->ADk,wpAny_pyIter_slot->ADq,atKey_none_of_get->ADs,wpAny_isOneOf_valiter->AE6,wpAny_execs_nil->AEF,typeLookup_type->AEL
open PySem.Heap renaming get?_push_of_some->AA3,get?_push_size->AAA,lt_size->AAF,get?_update_self->AAj,size_push->ABW,get?_update_other->ABo,get?_update_ne->ABt,SameBut->ACB
open List renaming length_map->AA4,getElem?_eq_getElem->AA6,getElem?_eq_some_iff->AA7,mem_cons_of_mem->AA9,length_append->AAB,size_toArray->AAC,mem_cons_self->AAG,mem_map->AAH,mem_append_right->AAI,length_cons->AAK,getD_eq_getElem?_getD->AAL,getElem?_append_left->AAP,mem_cons->AAQ,getElem?_map->AAR,mem_append->AAT,length_nil->AAU,length_singleton->AAV,all_eq_true->AAZ,mem_filter->AAa,prefix_append->AAb,mem_append_left->AAc,map_cons->AAf,append_assoc->AAg,getElem?_append_right->AAh,mem_of_getElem?->AAi,range->AAk,nil_append->AAl,length_filter_le->AAn,getElem?_set_self->AAo,getElem?_set_ne->AAs,mem_singleton->AAt,length_take->AAv,mem_range->AAz,length_set->AB0,map_append->AB1,mem_map_of_mem->AB2,filterMap_cons->AB5,append_nil->AB7,any_eq_true->AB9,getElem_mem->ABA,lt_irrefl->ABD,getElem?_of_mem->ABE,cons_lt_cons_iff->ABH,map_map->ABI,getElem?_eq_none->ABO,length_drop->ABQ,all_cons->ABT,find?_cons->ABV,take_length->ABa,filter_cons->ABb,getElem?_take_of_lt->ABc,mem_filterMap->ABe,length->ABf,toArray->ABl,nodup_iff_pairwise_ne->ABm,take_add_one->ABv,nodup_cons->ABy,zip_cons_cons->AC6,lookup_cons->AC7,take_of_length_le->ACH,getElem_map->ACL,getElem?_drop->ACQ,filter_append->ACR,prefix_rfl->ACX,length_range->ACZ,getElem?_replicate->ACf,map_id->ACh,eq_nil_of_length_eq_zero->ACk,length_replicate->ACv,find?_some->ACx,pairwise_append->ADD,pairwise_iff_getElem->ADI,filter_cons_of_neg->ADc,pairwise_singleton->ADe,getElem?_cons_succ->ADf,ext_getElem?->ADn,pairwise_map->ADr,foldl_append->ADt,find?_append->ADu,filter_congr->ADv,replicate->ADx,nodup_nil->AE1,set_append_right->AE5,cons_append->AE8,mem_of_mem_take->AEB,map_drop->AEC,of_mem_zip->AEG,map_congr_left->AEK,find?_map->AET,getD->AEW
open PySem.W renaming Frag->AA5,kas_desc->AC5,keepIn->ACS,fnOf->ACd,kas_rev->ADB,kas_place->ADH,cellsFrom_some->ADi,kas_asc->ADm,findIn->ADw,kas_sort->ADz,kas_descPart->AE3,codeIn->AEQ,methodObj->AEV
open Nat renaming le_refl->AA8,ne_of_lt->AAN,zero_le->AAX,lt_of_lt_of_le->AAd,lt_irrefl->AAm,le_trans->AAq,lt_succ_self->AB6,lt_succ_of_lt->ABs,not_lt_zero->ABz,lt_or_ge->AC1,not_lt->AD4,lt_trichotomy->AD6,le_add_right->ADM,sub_self->ADT,le_of_lt->AE2,le_succ->AEI
open Bool renaming false_eq_true->AAE,and_eq_true->AAW,eq_false_iff->AB4,or_eq_true->ABG,false_ne_true->ABS,not_true->ABi,eq_iff_iff->ACE,or_false->ADY,and_false->ADy,not_false->AE0,or_true->AE7,false_or->AEE
open Array renaming getElem?_eq_getElem->AAJ,length_toList->AAO,getElem?_toList->AAS,getElem?_eq_some_iff->AAu,getD_eq_getD_getElem?->ABB,forIn_toList->ABj,getElem?_eq_none->ABq,getD->ACK,toList_push->ADo
open Option.some renaming inj->AAM
open Classical renaming propDecidable->AAY,byContradiction->AB8
open PySem.SetTable renaming below->AAe,runEnd->AAy,bits->ABx,leap->ACP,Probe->ACU,grown->ACo,turns->ADJ,fits->ADg,insertAt->ADp,sizeAbove->AEP,fill->AEa
open PySem.Heap.SameBut renaming update->AAx
open Option renaming map_eq_some_iff->ABC,filter_some->ACs,isSome_iff_exists->ADQ
open PySem.Obj renaming mapSeq->ABJ,mapFields->ADA,data_mapDictKeys->ADC,isFreed_of_dict->ADN,data_mapFields->ADh,data_mapDict->AE9,putSet->AEY
open PyProof.Rows renaming slot_tuple_getitem->ABK,get?_update_seq->ACY,callWith_type1->ACu,listUpdate_at->AD8,listItems_at->AE4
open Ne renaming symm->ABM
open PySem.Builtin.Str renaming strKind->ABN,strSliceIndices->AD2,occurrences->ADb
open PySem.NameKind renaming free->ABP,cell->ACg
open PySem.Builtin.Tuple renaming tupleHashOf->ABR,tupleItemsOf->ACI,tupleExact->ACW
open Int renaming toNat_natCast->ABX
open Sum renaming inr->ABY
open PySem.Builtin.Dict_items renaming ownsTuple->ABd
open PySem.Around renaming under_plainId->ABk
open PySem.Value renaming ref->ABn,none->AC3,type->ADO,bool->AEU
open PySem.Txt renaming split->ABp,slice->ADG,startswith->AER
open PySem.F renaming slot_list_getattribute->AC2,plainAttrs_dict->ACj,slot_dict_get->ACz,args_tuple_add_2->ADR,slot_dict_values->ADU,entry_tuple_add->ADX,slot_tuple_add->ADj
open PySem.SetTable.below renaming go->ACD
open PySem.Builtin.List renaming listExtendWith->ACF,listTooLong->ADS,listLengthHint->AEM
open PySem.Calls renaming callWith_builtin->ACG,spliced_cons->ADV,spliced_nil->ADl,evalArgs_plain->AEA
open PySem.SeqAt renaming EqAt->ACJ
open PySem.Builtin.Slice renaming slicePlaces->ACT,sliceAdjust->ADF,sliceApplied->AEO
open False renaming elim->ACl
open List.Perm renaming refl->ACm,cons->AES
open PySem.SetTable.layClean renaming free->ACp
open PySem.SeqAt.EqAt renaming int_str->ACq,str_int->ACr,int_int->ADZ,str_str->ADa,same->AEJ
open PySem.Builtin.Dict renaming showsAll->AD0
open List.Pairwise renaming nil->AD3,filter->ADE
open List.cons renaming injEq->ADd,inj->AEZ
open PySem.Shared renaming TypeIs->AED
open ForInStep renaming yield->AEH
open PySem.Expr renaming Call->AEN
open PySem.SetTable.probe renaming go->AEX
set_option autoImplicit true
set_option relaxedAutoImplicit true
set_option compiler.extract_closed false
set_option Elab.async false
set_option linter.all false
set_option maxRecDepth 100000
-- CHANGE: your row's module here,as the last of these rows
def dF_{p:Prop}[Decidable p](h:¬p):decide p=false:=decide_eq_false h
def dT_{p:Prop}[Decidable p](h:p):decide p=true:=decide_eq_true h
def oT_{p:Prop}[Decidable p](h:decide p=true):p:=of_decide_eq_true h
namespace L2
open PySem PySem.Spec PyProof.Rows
abbrev Key:=Sum Int Str
def xE:Key->Value->Bool
 | .inl k,v=>Value.isInt k v
 | .inr x,v=>Value.isStrOf x v
def keyH(w:World):Key->Int
 | .inl k=>hashInt k
 | .inr x=>hashStr w x
def bp:∀{k:Key}{v:Value},xE k v=true->(∃i t,k=Sum.inl i/\v=Value.int i t)\/(∃x t,k=ABY x/\v=Value.str x t)
 | .inl i,v,h=>by
  obtain⟨t,e⟩:=Value.isInt_shape (k:=i) (v:=v) h;exact .inl ⟨i,t,rfl,e⟩
 | .inr x,v,h=>by
  obtain⟨t,e⟩:=Value.isStrOf_shape (x:=x) (v:=v) h;exact .inr ⟨x,t,rfl,e⟩
def Ab(i:Int)(t:Tok):xE (.inl i) (.int i t)=true:=by simp[xE,Value.isInt]
def Aa(x:Str)(t:Tok):xE (.inr x) (.str x t)=true:=by simp[xE,Value.isStrOf]
def Iq(a b:Int):decide ((Sum.inl a:Key)=Sum.inl b)=(a==b):=by
 by_cases e:a=b
 ·subst e;simp
 ·have h:¬(Sum.inl a:Key)=Sum.inl b:=λq=>e (Sum.inl.inj q)
  rw[dF_ h];exact(beq_eq_false_iff_ne.mpr e).symm
def DX(a b:Str):decide ((ABY a:Key)=ABY b)=decide (a=b):=by
 by_cases e:a=b
 ·subst e;simp
 ·have h:¬(ABY a:Key)=ABY b:=λq=>e (Sum.inr.inj q)
  rw[dF_ h,dF_ e]
def Ip(a:Int)(b:Str):decide ((Sum.inl a:Key)=ABY b)=false:=dF_ (λq=>nomatch q)
def Io(a:Str)(b:Int):decide ((ABY a:Key)=Sum.inl b)=false:=dF_ (λq=>nomatch q)
def dL(prog:Program)(w:World):PySem.KeyKind prog w Key where
 is:=xE
 hash:=keyH w
 inj:=λv a b ha hb=>by
  rcases bp ha with⟨i,t,rfl,rfl⟩|⟨x,t,rfl,rfl⟩
  ·rcases bp hb with⟨j,u,rfl,e⟩|⟨y,u,rfl,e⟩
   ·injection e with e1 _;rw[e1]
   ·exact nomatch e
  ·rcases bp hb with⟨j,u,rfl,e⟩|⟨y,u,rfl,e⟩
   ·exact nomatch e
   ·injection e with e1 _;rw[e1]
 byValue:=λk v h=>by
  rcases bp h with⟨i,t,rfl,rfl⟩|⟨x,t,rfl,rfl⟩<;>rfl
 pyHash:=λhv h=>by
  rcases bp hv with⟨i,t,rfl,rfl⟩|⟨x,t,rfl,rfl⟩
  ·exact ADK h
  ·exact ADL h
 eqBool:=λhu hv h=>by
  rcases bp hu with⟨i,t,rfl,rfl⟩|⟨x,t,rfl,rfl⟩
  ·rcases bp hv with⟨j,u,rfl,rfl⟩|⟨y,u,rfl,rfl⟩
   ·rw[Iq]at h;exact wpAny_eqBool_int h
   ·rw[Ip]at h;exact ACq i t y u _ _ _ _ h
  ·rcases bp hv with⟨j,u,rfl,rfl⟩|⟨y,u,rfl,rfl⟩
   ·rw[Io]at h;exact ACr x t j u _ _ _ _ h
   ·rw[DX]at h;exact wpAny_eqBool_str h
 «strs»:=λk x t v h=>by
  rcases bp h with⟨i,u,rfl,e⟩|⟨y,u,rfl,e⟩
  ·exact nomatch e
  ·injection e with e1 _
   subst e1;cases v<;>rfl
def tU(prog:Program)(w:World)(i:Int)(t:Tok):(dL prog w).is (.inl i) (.int i t)=true:=Ab i t
def tT(prog:Program)(w:World)(x:Str)(t:Tok):(dL prog w).is (.inr x) (.str x t)=true:=Aa x t
inductive V where
 | non | bl (b:Bool) | int (i:Int) | str (x:Str) | byt (b:Array UInt8) | flt (b:UInt64) | ref (a:Addr) | ty (n:String)
 deriving DecidableEq
def aU:V->Value->Prop
 | .non,u=>u=AC3
 | .bl b,u=>u=AEU b
 | .int i,u=>∃t,u=Value.int i t
 | .str x,u=>∃t,u=Value.str x t
 | .byt b,u=>∃t,u=Value.bytes b t
 | .flt b,u=>∃t,u=Value.float b t
 | .ref a,u=>u=ABn a
 | .ty n,u=>u=ADO n
abbrev aw:List V->List Value->Prop:=Paired aU
def aw.length(r:aw xs us):xs.length=us.length:=Paired.length r
def aw.get:∀{xs:List V}{us:List Value}{i:Nat}{x:V},aw xs us->xs[i]?=some x->∃u,us[i]?=some u/\aU x u
 | _,_,_,_,.nil,e=>by simp at e
 | _,_,0,_,.cons r _,e=>by simp at e;subst e;exact⟨_,rfl,r⟩
 | _,_,i+1,x,.cons _ t,e=>by
  obtain⟨u,h1,h2⟩:=aw.get (i:=i) (x:=x) t (by simpa using e)
  exact⟨u,by simpa using h1,h2⟩
def aw.set(r:aU x u):∀{xs:List V}{us:List Value} (i:Nat),aw xs us->aw (xs.set i x) (us.set i u)
 | _,_,_,.nil=>.nil
 | _,_,0,.cons _ t=>.cons r t
 | _,_,i+1,.cons q t=>.cons q (aw.set r i t)
def aw.append:∀{xs ys:List V}{us ws:List Value},aw xs us->aw ys ws->aw (xs++ys) (us++ws)
 | _,_,_,_,.nil,s=>s
 | _,_,_,_,.cons r t,s=>.cons r (aw.append t s)
def aw.take:∀{xs:List V}{us:List Value} (n:Nat),aw xs us->aw (xs.take n) (us.take n)
 | _,_,0,_=>.nil
 | _,_,_+1,.nil=>.nil
 | _,_,n+1,.cons r t=>.cons r (aw.take n t)
def aw.drop:∀{xs:List V}{us:List Value} (n:Nat),aw xs us->aw (xs.drop n) (us.drop n)
 | _,_,0,r=>r
 | _,_,_+1,.nil=>.nil
 | _,_,n+1,.cons _ t=>aw.drop n t
def JL:Option V->Option Value->Prop
 | some v,some u=>aU v u
 | none,none=>True
 | _,_=>False
def KV{κ:Type}:List (κ×V)->List (κ×Value)->Prop:=Paired λ(p:κ×V) (q:κ×Value)=>p.1=q.1/\aU p.2 q.2
def kV:Key->V
 | .inl i=>.int i
 | .inr x=>.str x
inductive HO where
 | lst (xs:List V)
 | tup (xs:List V)
 | dK (kvs:List (Key×V)) | dT (kvs:List (List Key×V))
 | set (S:Int->Bool) (n:Nat)
 | ins (C dx:Addr) (fs:List (Str×V))
 | own (x:Addr)
 | xd (fs:List (Str×V))
 | met (f x:Addr)
 | rng (lo hi:Int)
 | frz (o:Obj) (u:HO)
 | tbl (ps:Array Value)
 | ext (φ:Program->World->Heap->Prop)
abbrev Hp:=Addr->Option HO
def upd(H:Hp)(a:Addr)(o:HO):Hp:=λb=>if b=a then some o else H b
def aJ:upd H a o a=some o:=by unfold upd;rw[if_pos rfl]
def ah(h:b≠a):upd H a o b=H b:=by unfold upd;rw[if_neg h]
def xq{H:Hp}{a b:Addr}{o u:HO}(h:H a=some o)(h':H b=some u)(d:o≠u):a≠b:=by
 intro e;subst e;rw[h]at h';exact d (AAM h')
def ad{H:Hp}{a b:Addr}{o:HO}(h:H a=some o)(h':H b=none):a≠b:=by
 intro e;subst e;rw[h]at h';cases h'
section
variable(P:Program)(w:World)
def Es(h:Heap)(a:Addr)(items:Array Value):Prop:=∃o,h.get? a=some o/\o.cls=.type "tuple"/\(∃n,o.data=.seq items n)/\o.dict=none
def Es.tup:Es h a items->IsTup h a items:=λ⟨o,e,c,⟨n,d⟩,_⟩=>⟨o,e,c,n,d⟩
def Es.new(h:Heap)(items:Array Value):Es (h.push { cls:=.type "tuple",data:=.seq items }) h.objs.size items:=⟨_,AAA _ rfl,rfl,⟨_,rfl⟩,rfl⟩
def cL(H:Hp)(h:Heap)(a:Addr):HO->Prop
 | .lst xs=>xs.length<=sizeLine/\∃(its:List Value) (n:Nat),aw xs its/\h.get? a=some { cls:=.type "list",data:=.seq its.toArray n }
 | .tup xs=>xs.length<=sizeLine/\∃its:List Value,aw xs its/\Es h a its.toArray
 | .dK kvs=>kvs.length<=sizeLine/\(a==sysModules)=false/\∃vs,KV kvs vs/\h.DictOf (dL P w) a vs
 | .dT kvs=>kvs.length<=sizeLine/\(a==sysModules)=false/\∃xs:List (List Key×Addr×Value),
   Paired (λ(p:List Key×V) (q:List Key×Addr×Value)=>p.1=q.1/\H q.2.1=some (.tup (p.1.map kV))/\aU p.2 q.2.2) kvs xs /\
   ∃o es ep,h.get? a=some o/\o.ExactDict/\o.data=.dict es ep/\es.toList=xs.map (entryOfKey (tupleKind (dL P w)))/\(xs.map (·.1)).Nodup
 | .set S n=>h.SetOf (intKind P w) a S n
 | .ins C dx fs=>H dx=some (.own a)/\fs.length<=1000/\dx≠a/\h.get? a=some (PySem.W.instObj C dx) /\
   ∃mA,h.Ns1 dx mA/\(∀f,JL (fs.lookup f) (mA f))/\PySem.Within mA (fs.map (·.1))
 | .own _=>∃o,h.get? a=some o
 | .xd fs=>∃mA,h.Ns1 a mA/\∀f,JL (fs.lookup f) (mA f)
 | .rng lo hi=>∃t u v,h.get? a=some { cls:=.type "range",data:=.fields #[.int lo t,.int hi u,.int 1 v] }
 | .frz o u=>h.get? a=some o/\cL H h a u
 | .tbl ps=>h.get? a=some { cls:=.none,data:=.fields ps }
 | .met f x=>h.get? a=some (AEV (.ref f) (.ref x))
 | .ext φ=>φ P w h/\(∃o,h.get? a=some o)/\∀h1 h2:Heap,φ P w h1->(∀o,h1.get? a=some o->h2.get? a=some o)->φ P w h2
def HOk(H:Hp)(h:Heap):Prop:=∀a o,H a=some o->cL P w H h a o
end
section
variable{P:Program}{w:World}{H H':Hp}{h h':Heap}{a:Addr}{o:HO}
def cL.lt(x:cL P w H h a o):a<h.objs.size:=by
 cases o with
 | lst xs=>obtain⟨_,_,_,_,e⟩:=x;exact AAF e
 | tup xs=>obtain⟨_,_,_,p⟩:=x;exact p.tup.lt
 | dK kvs=>obtain⟨_,_,_,_,o,_,_,e,_⟩:=x;exact AAF e
 | dT kvs=>obtain⟨_,_,_,_,o,_,_,e,_⟩:=x;exact AAF e
 | set S n=>obtain⟨o,_,_,_,e,_⟩:=x;exact AAF e
 | ins C dx fs=>obtain⟨_,_,_,e,_⟩:=x;exact AAF e
 | own y=>obtain⟨_,e⟩:=x;exact AAF e
 | xd fs=>obtain⟨_,⟨_,_,_,e,_⟩,_⟩:=x;exact AAF e
 | rng lo hi=>obtain⟨_,_,_,e⟩:=x;exact AAF e
 | frz ob u=>obtain⟨e,_⟩:=x;exact AAF e
 | tbl ps=>exact AAF (show h.get? a=some _ from x)
 | met f y=>exact AAF (show h.get? a=some _ from x)
 | ext φ=>obtain⟨_,⟨_,e⟩,_⟩:=x;exact AAF e
def Paired.mapP{α β:Type}{F G:α->β->Prop}:∀{l₁:List α}{l₂:List β},Paired F l₁ l₂->(∀a b,F a b->G a b)->Paired G l₁ l₂
 | _,_,.nil,_=>.nil
 | _,_,.cons r t,f=>.cons (f _ _ r) (Paired.mapP t f)
def cL.stay(x:cL P w H h a o)(k:∀b u,(b=a\/H b=some (.own a))->h.get? b=some u->h'.get? b=some u)
  (ho:∀b,H b=some (.own a)->H' b=some (.own a)) (ht:∀b xs,H b=some (.tup xs)->H' b=some (.tup xs)):cL P w H' h' a o:=by
 induction o with
 | lst xs=>obtain⟨z,its,n,r,e⟩:=x;exact⟨z,its,n,r,k _ _ (.inl rfl) e⟩
 | tup xs=>obtain⟨z,its,r,ob,e,c⟩:=x;exact⟨z,its,r,ob,k _ _ (.inl rfl) e,c⟩
 | dK kvs=>obtain⟨z,y,vs,r,ob,es,ep,e,c⟩:=x;exact⟨z,y,vs,r,ob,es,ep,k _ _ (.inl rfl) e,c⟩
 | dT kvs =>
  obtain⟨z,y,xs,r,ob,es,ep,e,c⟩:=x;exact⟨z,y,xs,Paired.mapP r λp q z=>⟨z.1,ht _ _ z.2.1,z.2.2⟩,ob,es,ep,k _ _ (.inl rfl) e,c⟩
 | set S n=>obtain⟨ob,es,ep,t,e,c⟩:=x;exact⟨ob,es,ep,t,k _ _ (.inl rfl) e,c⟩
 | ins C dx fs =>
  obtain⟨d,z,ne,e,mA,⟨od,es,ep,e2,c⟩,r⟩:=x;exact⟨ho _ d,z,ne,k _ _ (.inl rfl) e,mA,⟨od,es,ep,k _ _ (.inr d) e2,c⟩,r⟩
 | own y=>obtain⟨ob,e⟩:=x;exact⟨ob,k _ _ (.inl rfl) e⟩
 | xd fs=>obtain⟨mA,⟨od,es,ep,e,c⟩,r⟩:=x;exact⟨mA,⟨od,es,ep,k _ _ (.inl rfl) e,c⟩,r⟩
 | rng lo hi=>obtain⟨t,u,v,e⟩:=x;exact⟨t,u,v,k _ _ (.inl rfl) e⟩
 | frz ob u ih=>obtain⟨e,q⟩:=x;exact⟨k _ _ (.inl rfl) e,ih q⟩
 | tbl ps =>
  have e:h.get? a=some { cls:=.none,data:=.fields ps }:=x;show h'.get? a=some { cls:=.none,data:=.fields ps };exact k a _ (.inl rfl) e
 | met f y =>
  have e:h.get? a=some (AEV (.ref f) (.ref y)):=x;show h'.get? a=some (AEV (.ref f) (.ref y));exact k a _ (.inl rfl) e
 | ext φ=>obtain⟨p,⟨o,e⟩,st⟩:=x;exact⟨st _ _ p λo q=>k _ _ (.inl rfl) q,⟨o,k _ _ (.inl rfl) e⟩,st⟩
def HOk.lt(x:HOk P w H h)(e:H a=some o):a<h.objs.size:=(x a o e).lt
def HOk.fresh(x:HOk P w H h)(e:h.objs.size<=a):H a=none:=by
 cases q:H a with
 | none=>rfl
 | some u=>exact absurd (AAd (x.lt q) e) (AAm _)
def HOk.kept(x:HOk P w H h)(k:∀b u,h.get? b=some u->h'.get? b=some u):HOk P w H h':=λa o e =>
 (x a o e).stay (λb u _ q=>k b u q) (λ_ q=>q) λ_ _ q=>q
def HOk.laid(x:HOk P w H h)(k:∀b u,h.get? b=some u->h'.get? b=some u)(hp:h.objs.size<=a)(new:cL P w (upd H a o) h' a o):HOk P w (upd H a o) h':=λb u e=>by
 have hn:=x.fresh hp;by_cases hb:b=a
 ·subst hb;rw[aJ]at e;cases e;exact new
 ·rw[ah hb]at e
  exact(x b u e).stay (λc v _ q=>k c v q) (λc q=>by rw[ah (ad q hn)];exact q) λc xs q=>by rw[ah (ad q hn)];exact q
end
def Rd(H:Hp)(a:Addr)(u:HO):Prop:=H a=some u\/∃o,H a=some (.frz o u)
def Rd.ok(r:Rd H a u)(x:HOk P w H h):cL P w H h a u:=by
 rcases r with r | ⟨o,r⟩
 ·exact x a u r
 ·obtain⟨_,q⟩:=x a _ r
  exact q
def Mut:Option HO->Prop
 | some (.lst _)=>True
 | some (.dK _)=>True
 | some (.dT _)=>True
 | some (.set _ _)=>True
 | some (.ins _ _ _)=>True
 | some (.ext _)=>True
 | _=>False
section
variable{P:Program}{w:World}{H:Hp}{h h':Heap}{x e:Addr}{o':HO}
def HOk.write(ok:HOk P w H h)(mu:Mut (H x))(he:e=x\/H e=some (.own x))(k:∀b u,b≠e->h.get? b=some u->h'.get? b=some u)(heo:∃u,h'.get? e=some u)
  (new:cL P w (upd H x o') h' x o'):HOk P w (upd H x o') h':=λb u q=>by
 have nown:∀c y,H c=some (.own y)->c≠x:=λc y r z=>by subst z;rw[r]at mu;exact mu
 have ntup:∀c xs,H c=some (.tup xs)->c≠x:=λc xs r z=>by subst z;rw[r]at mu;exact mu
 by_cases hb:b=x
 ·subst hb;rw[aJ]at q;cases q;exact new
 ·rw[ah hb]at q
  by_cases hbe:b=e
  ·have q':H b=some (.own x):=by
    rcases he with z | z
    ·exact absurd (hbe.trans z) hb
    ·rw[hbe];exact z
   rw[q]at q';cases q';obtain⟨v,hv⟩:=heo;exact⟨v,by rw[hbe];exact hv⟩
  ·refine(ok b u q).stay (λc v hc r=>k c v ?_ r) (λc r=>by rw[ah (nown c b r)];exact r) λc xs r=>by rw[ah (ntup c xs r)];exact r
   rcases hc with rfl | hc
   ·exact hbe
   ·rintro rfl
    rcases he with z | z
    ·exact nown c b hc z
    ·rw[hc]at z;cases z;exact hb rfl
end
structure Un(fs ex:List Addr)(H H':Hp)(h h':Heap):Prop where
 keep:∀b o,h.get? b=some o->H b=none->b∉fs->b∉ex->h'.get? b=some o
 slot:∀b o,h.get? b=some o->H b=none->b∈fs->b∉ex->∃sl,h'.get? b=some { o with slots:=sl }
 free:∀b o,h.get? b=some o->H b=none->b∉ex->H' b=none
 there:∀b o,h.get? b=some o->b∉ex->∃o',h'.get? b=some o'
 tups:∀b xs,H b=some (.tup xs)->H' b=some (.tup xs)
 frzs:∀b o u,H b=some (.frz o u)->H' b=some (.frz o u)
 tbls:∀b ps,H b=some (.tbl ps)->∃more,H' b=some (.tbl (ps++more))
section
variable{fs fs' ex ex':List Addr}{H H1 H2:Hp}{h h1 h2 h':Heap}{a x e:Addr}{o:HO}
def Un.any(u:Un fs ex H H1 h h1)(q:h.get? b=some ob)(n:H b=none)(hx:b∉ex):∃sl,h1.get? b=some { ob with slots:=sl }:=by
 by_cases hb:b∈fs
 ·exact u.slot b ob q n hb hx
 ·exact⟨ob.slots,u.keep b ob q n hb hx⟩
def Un.kept(k:∀b u,h.get? b=some u->h'.get? b=some u):Un fs ex H H h h' :=
 ⟨λb ob q _ _ _=>k b ob q,λb ob q _ _ _=>⟨ob.slots,k b ob q⟩,λ_ _ _ n _=>n,λb ob q _=>⟨ob,k b ob q⟩,λ_ _ q=>q,λ_ _ _ q=>q,λ_ ps q=>⟨#[],by rw[q];simp⟩⟩
def Un.refl:Un fs ex H H h h:=Un.kept λ_ _ q=>q
def Un.laid(k:∀b u,h.get? b=some u->h'.get? b=some u)(hp:h.objs.size<=a)(hn:H a=none):Un fs ex H (upd H a o) h h' where
 keep:=λb u q _ _ _=>k b u q
 slot:=λb u q _ _ _=>⟨u.slots,k b u q⟩
 free:=λb u q n _=>by rw[ah (AAN (AAd (AAF q) hp))];exact n
 there:=λb u q _=>⟨u,k b u q⟩
 tups:=λb xs q=>by rw[ah (ad q hn)];exact q
 frzs:=λb u xs q=>by rw[ah (ad q hn)];exact q
 tbls:=λb ps q=>⟨#[],by rw[ah (ad q hn),q];simp⟩
def Un.write(mu:Mut (H x))(he:e=x\/H e=some (.own x))(k:∀b u,b≠e->h.get? b=some u->h'.get? b=some u)(heo:∃u,h'.get? e=some u):Un fs ex H (upd H x o) h h':=by
 have hx:∀b,H b=none->b≠x:=λb n z=>by subst z;rw[n]at mu;exact mu
 have hb:∀b,H b=none->b≠e:=λb n z=>by
  subst z;rcases he with r | r
  ·exact hx b n r
  ·rw[n]at r;cases r
 have hm:∀b u,H b=some u->¬Mut (some u)->b≠x:=λb u q nm z=>by subst z;rw[q]at mu;exact nm mu
 refine⟨λb u q n _ _=>k b u (hb b n) q,λb u q n _ _=>⟨u.slots,k b u (hb b n) q⟩,λb u q n _=>by rw[ah (hx b n)];exact n,λb u q _=>?_,
  λb xs q=>by rw[ah (hm b _ q λz=>z)];exact q,λb u xs q=>by rw[ah (hm b _ q λz=>z)];exact q,λb ps q=>⟨#[],by rw[ah (hm b _ q λz=>z),q];simp⟩⟩
 by_cases hbe:b=e
 ·subst hbe;exact heo
 ·exact⟨u,k b u hbe q⟩
end
def trk(h:Heap)(H:Hp):List Addr:=(AAk h.objs.size).filter λa=>(H a).isSome
def Bh(h:Heap)(H:Hp):Heap:=PySem.W.hideAll h (trk h H)
def At(h:Heap)(H:Hp):(Bh h H).objs.size=h.objs.size:=PySem.W.hideAll_size _ _
def CJ(e:h.get? b=some o)(n:H b=none):(Bh h H).get? b=some o :=
 PySem.W.hideAll_get _ e λhm=>by
  have q:(H b).isSome=true:=(AAa.mp hm).2;rw[n]at q;simp at q
def Fq(e:(Bh h H).get? b=some o):h.get? b=some o/\H b=none:=by
 have e':h.get? b=some o:=PySem.W.of_hideAll (trk h H) e;refine⟨e',?_⟩;cases q:H b with
 | none=>rfl
 | some x =>
  have hm:b∈trk h H:=AAa.mpr ⟨AAz.mpr (AAF e'),by simp[q]⟩
  have z:(Bh h H).get? b=none:=PySem.W.hideAll_none (trk h H) hm;rw[z]at e;cases e
def Gy(g h:Heap)(L:Addr):List (Addr×Obj):=(AAk h.objs.size).filterMap λa=>if a=L\/(g.get? a).isSome=true then none else(h.get? a).map λo=>(a,o)
def bc(g h:Heap)(L d:Addr):List (Addr×Obj):=(Gy g h L).filter λp=>decide (p.1≠d)
structure Mod(K:AA5)(mg:Str->Option Value)(base:Heap):Prop where
 kin:K.In base
 glob:base.Ns mainGlobals mg
 blt:∃mb,base.Ns builtinsNs mb/\∀x:Str,x≠"__name__"->mb x=bootBuiltins x
 nolimit:base.NoLimit
/-- the context: a def's body (or a comprehension's block) running. base: fixed through the whole law;s₀,H₀: the entry;outer: the frames whose slots others may change (a def's callers);stack: all frames that run;
  ex: iterators that were made ff of the entry and are walked here (a comprehension's);fn: the names whose cells were made at the entry (a def: all;a comprehension's block: its own);calm: not fq an except suite;pn: pins that every state bears;xe: what is wanted of an exception that leaves the code -/
structure Cx where
 prog:Program
 w:World
 K:AA5
 mg:Str->Option Value
 base:Heap
 A:Around
 N:List Str
 s₀:Shared
 H₀:Hp
 env:Env
 outer:List Env
 stack:List Env
 ex:List Addr
 fn:Str->Bool
 calm:Bool
 pn:List (Addr×Obj)
 xe:Value->Shared->Prop
def frs(l:List Env):List Addr:=l.filterMap (·.frame)
abbrev Cx.fs(X:Cx):List Addr:=frs X.outer
def Vis(sc:Scope)(x:Str):Prop:=sc.names.lookup x=some .local\/sc.names.lookup x=some .cell\/sc.names.lookup x=some .free
def Loc(sc:Scope)(x:Str):Prop:=sc.names.lookup x=some .local\/sc.names.lookup x=some .cell
def Look(env:Env)(h:Heap)(m:Str->Option Value)(x:Str)(u:Value):Prop :=
 (env.kindOf x=some .local/\m x=some u)\/((env.kindOf x=some .cell\/env.kindOf x=some .free)/\∃c,env.cells.lookup x=some c/\h.IsCell c (some u))
structure Cx.Ok(X:Cx):Prop where
 mod:Mod X.K X.mg X.base
 kind:X.env.scope.kind=.function
 glob:X.env.globals=mainGlobals
 blt:X.env.builtins=builtinsNs
 above:X.s₀.heap.objs.size<=X.env.locals
 inj:∀x y c,X.env.cells.lookup x=some c->X.env.cells.lookup y=some c->x=y
 has:∀x,(X.env.kindOf x=some .cell\/X.env.kindOf x=some .free)->∃c,X.env.cells.lookup x=some c
 cab:∀x c,X.fn x=true->X.env.cells.lookup x=some c->X.s₀.heap.objs.size<=c
 hd:X.calm=true->X.A.handled=none
 frames:X.A.frames=some X.stack
 stk:X.stack=X.outer\/(X.stack=X.env::X.outer/\X.env.frame=some X.env.locals)
 exf:∀b∈X.ex,b≠X.env.locals/\∀x c,X.env.cells.lookup x=some c->c≠b
 bs:∀b o,X.base.get? b=some o->X.s₀.heap.get? b=some o/\X.H₀ b=none
 bsz:X.base.objs.size<=X.s₀.heap.objs.size
 noex:∀b o,X.base.get? b=some o->b∉X.ex
 exfs:∀b∈X.ex,b∉X.fs
 funs:X.s₀.heap.FunFrames X.base X.outer
 frf:∀b∈X.fs,X.H₀ b=none
structure Inv(X:Cx)(pins:List (Addr×Obj))(σ:List (Option V))(H:Hp)(s:Shared):Prop where
 ok:X.Ok
 os:s.os=X.s₀.os
 bare:AllBare s.gens
 base:Un X.fs X.ex X.H₀ H X.s₀.heap s.heap
 loc:∃m,s.heap.Ns X.env.locals m/\∀(i:Nat) (x:Str) (v:V),X.N[i]?=some x->σ[i]?=some (some v)->Vis X.env.scope x->∃u,aU v u/\Look X.env s.heap m x u
 cell:∀x c,X.env.cells.lookup x=some c->∃v,s.heap.IsCell c v
 free:H X.env.locals=none
 freeC:∀x c,X.env.cells.lookup x=some c->H c=none
 pin:∀p∈X.pn++pins,s.heap.get? p.1=some p.2/\H p.1=none/\p.1≠X.env.locals/\p.1∉X.fs/\∀v,p.2.data≠.cell v
 hok:HOk X.prog X.w H s.heap
 len:σ.length=X.N.length
section
variable{X:Cx}{pins:List (Addr×Obj)}{σ:List (Option V)}{H H':Hp}{s:Shared}{h':Heap}
def Cx.Ok.nofr(ok:X.Ok)(e:X.base.get? b=some o):b∉X.fs:=λhb=>by
 have:=(ok.funs.mem hb).1;rw[e]at this;cases this
def Inv.bs(I:Inv X pins σ H s):∀b o,X.base.get? b=some o->s.heap.get? b=some o/\H b=none:=λb o e =>
 ⟨I.base.keep b o (I.ok.bs b o e).1 (I.ok.bs b o e).2 (I.ok.nofr e) (I.ok.noex b o e),I.base.free b o (I.ok.bs b o e).1 (I.ok.bs b o e).2 (I.ok.noex b o e)⟩
def Inv.bk(I:Inv X pins σ H s):∀b o,X.base.get? b=some o->s.heap.get? b=some o:=λb o e=>(I.bs b o e).1
def Inv.mod(I:Inv X pins σ H s):Mod X.K X.mg X.base:=I.ok.mod
def Inv.kIn(I:Inv X pins σ H s):X.K.In s.heap:=I.ok.mod.kin.keeps I.bk
def Inv.lt(I:Inv X pins σ H s):X.env.locals<s.heap.objs.size:=let ⟨_,hn,_⟩:=I.loc;hn.lt
def Inv.sz(I:Inv X pins σ H s):X.s₀.heap.objs.size<=s.heap.objs.size:=AAq I.ok.above (AE2 I.lt)
def Inv.nofs(I:Inv X pins σ H s)(h:s.heap.objs.size<=a):a∉X.fs:=λhb=>by
 obtain⟨_,o,ho,_⟩:=I.ok.funs.mem hb;exact absurd (AAd (AAF ho) (AAq I.sz h)) (AAm _)
def Inv.cne(I:Inv X pins σ H s):∀x c,X.env.cells.lookup x=some c->c≠X.env.locals:=λx c e z=>by
 obtain⟨v,o,ho,hd⟩:=I.cell x c e;obtain⟨m,⟨o',es,ep,ho',hd',_⟩,_⟩:=I.loc;rw[z,ho']at ho;cases ho;rw[hd']at hd;cases hd
def Inv.funs(I:Inv X pins σ H s):s.heap.FunFrames X.base X.outer:=by
 have all:∀(l:List Env),(∀b∈frs l,b∈X.fs)->X.s₀.heap.FunFrames X.base l->s.heap.FunFrames X.base l:=by
  intro l;induction l with
  | nil=>intro _ _;trivial
  | cons env r ih =>
   intro hs hl;obtain⟨hk,⟨L,o,hf,hn,ho,hd⟩,hr⟩:=hl;have hL:L∈X.fs:=hs L (by unfold frs;rw[AB5,hf];exact AAG)
   obtain⟨sl,e⟩:=I.base.slot L o ho (I.ok.frf L hL) hL λz=>I.ok.exfs L z hL
   exact⟨hk,⟨L,_,hf,hn,e,hd⟩,ih (λb hb=>hs b (by unfold frs;rw[AB5,hf];exact AA9 _ hb)) hr⟩
 exact all X.outer (λ_ hb=>hb) I.ok.funs
def Inv.stack(I:Inv X pins σ H s):s.heap.FunFrames X.base X.stack:=by
 rcases I.ok.stk with e | ⟨e,hf⟩
 ·rw[e];exact I.funs
 ·rw[e]
  obtain⟨m,hn,_⟩:=I.loc;refine .cons (by rw[I.ok.kind];decide) hf hn ?_ I.funs
  exact Heap.get?_none_of_le (AAq I.ok.bsz I.ok.above)
def Inv.stkSub(I:Inv X pins σ H s):∀b∈frs X.stack,b∈X.env.locals::X.fs:=λb hb=>by
 rcases I.ok.stk with e | ⟨e,hf⟩
 ·rw[e]at hb;exact AA9 _ hb
 ·rw[e]at hb
  unfold frs at hb;rw[AB5,hf]at hb;exact hb
def Inv.stkFree(I:Inv X pins σ H s):∀b∈frs X.stack,H b=none:=λb hb=>by
 rcases AAQ.mp (I.stkSub b hb)with e | hb
 ·rw[e];exact I.free
 ·obtain⟨_,o,ho,_⟩:=I.ok.funs.mem hb
  exact I.base.free b o ho (I.ok.frf b hb) λz=>I.ok.exfs b z hb
def Inv.step{g':Array GenState}{t':Nat}{d':Drawn}{ch:List Addr}(I:Inv X pins σ H s)
  (hch:∀b∈ch,(b∈X.ex\/X.s₀.heap.objs.size<=b)/\b≠X.env.locals/\(∀x c,X.env.cells.lookup x=some c->c≠b)/\∀p∈X.pn++pins,p.1≠b)
  (keep:∀b o,b≠X.env.locals->b∉X.fs->b∉ch->s.heap.get? b=some o->H b=none->h'.get? b=some o)
  (slot:∀b o,b≠X.env.locals->b∈X.fs->b∉ch->s.heap.get? b=some o->H b=none->∃sl,h'.get? b=some { o with slots:=sl }) (free:∀b o,b∉ch->s.heap.get? b=some o->H b=none->H' b=none)
  (there:∀b o,b∉ch->s.heap.get? b=some o->∃o',h'.get? b=some o')
  (tups:∀b xs,H b=some (.tup xs)->H' b=some (.tup xs)) (frzs:∀b o u,H b=some (.frz o u)->H' b=some (.frz o u)) (tbls:∀b ps,H b=some (.tbl ps)->∃more,H' b=some (.tbl (ps++more)))
  (ns:∀m,s.heap.Ns X.env.locals m->h'.Ns X.env.locals m) (hok:HOk X.prog X.w H' h') (hg:AllBare g') :
  Inv X pins σ H' { s with heap:=h',gens:=g',drawn:=d',toks:=t' }:=by
 have neL:∀b o,X.s₀.heap.get? b=some o->b≠X.env.locals:=λb o e=>AAN (AAd (AAF e) I.ok.above)
 have neC:∀b o,X.s₀.heap.get? b=some o->b∉X.ex->b∉ch:=λb o e hx hb=>by
  rcases(hch b hb).1 with z | z
  ·exact hx z
  ·exact absurd (AAd (AAF e) z) (AAm _)
 have cellK:∀x c,X.env.cells.lookup x=some c->∀v,s.heap.IsCell c v->h'.IsCell c v:=λx c e v ⟨o,ho,hd⟩=>by
  have nch:c∉ch:=λz=>(hch c z).2.2.1 x c e rfl
  by_cases hc:c∈X.fs
  ·obtain⟨sl,q⟩:=slot c o (I.cne x c e) hc nch ho (I.freeC x c e)
   exact⟨_,q,hd⟩
  ·exact⟨o,keep c o (I.cne x c e) hc nch ho (I.freeC x c e),hd⟩
 refine⟨I.ok,I.os,hg,⟨λb o e n hb hx=>?_,λb o e n hb hx=>?_,λb o e n hx=>?_,λb o e hx=>?_,λb xs e=>tups b xs (I.base.tups b xs e),λb o xs e=>frzs b o xs (I.base.frzs b o xs e),λb ps e=>?_⟩,?_,λx c e=>?_,?_,λx c e=>?_,λp hp=>?_,hok,I.len⟩
 ·exact keep b o (neL b o e) hb (neC b o e hx) (I.base.keep b o e n hb hx) (I.base.free b o e n hx)
 ·obtain⟨sl,e1⟩:=I.base.slot b o e n hb hx
  obtain⟨sl',e2⟩:=slot b _ (neL b o e) hb (neC b o e hx) e1 (I.base.free b o e n hx);exact⟨sl',e2⟩
 ·obtain⟨o',e1⟩:=I.base.there b o e hx
  exact free b o' (neC b o e hx) e1 (I.base.free b o e n hx)
 ·obtain⟨o',e1⟩:=I.base.there b o e hx
  exact there b o' (neC b o e hx) e1
 ·obtain⟨m1,e1⟩:=I.base.tbls b ps e
  obtain⟨m2,e2⟩:=tbls b _ e1;exact⟨m1++m2,by rw[e2,Array.append_assoc]⟩
 ·obtain⟨m,hn,hl⟩:=I.loc
  refine⟨m,ns m hn,λi x v e1 e2 e3=>?_⟩
  obtain⟨u,r,l⟩:=hl i x v e1 e2 e3;refine⟨u,r,?_⟩;rcases l with l | ⟨k,c,e,z⟩
  ·exact .inl l
  ·exact .inr ⟨k,c,e,cellK x c e _ z⟩
 ·obtain⟨v,z⟩:=I.cell x c e
  exact⟨v,cellK x c e v z⟩
 ·obtain⟨m,⟨o,_,_,ho,_⟩,_⟩:=I.loc
  exact free _ o (λz=>(hch _ z).2.1 rfl) ho I.free
 ·obtain⟨v,o,ho,hd⟩:=I.cell x c e
  exact free c o (λz=>(hch c z).2.2.1 x c e rfl) ho (I.freeC x c e)
 ·obtain⟨e,n,ne,nf,d⟩:=I.pin p hp
  have nch:p.1∉ch:=λz=>(hch p.1 z).2.2.2 p hp rfl
  exact⟨keep p.1 p.2 ne nf nch e n,free p.1 p.2 nch e n,ne,nf,d⟩
theorem Inv.un{t':Nat}(I:Inv X pins σ H s)(u:Un X.fs [] H H' s.heap h')(hok:HOk X.prog X.w H' h'):Inv X pins σ H' { s with heap:=h',toks:=t' }:=by
 obtain⟨m,⟨o,es,ep,ho,r⟩,_⟩:=id I.loc;obtain⟨sl,hL⟩:=u.any ho I.free (by simp)
 exact I.step (g':=s.gens) (d':=s.drawn) (ch:=[]) (λ_ z=>nomatch z) (λb o _ hb _ e n=>u.keep b o e n hb (by simp)) (λb o _ hb _ e n=>u.slot b o e n hb (by simp)) (λb o _ e n=>u.free b o e n (by simp)) (λb o _ e=>u.there b o e (by simp)) u.tups u.frzs u.tbls (λm' hm=>by
  obtain⟨o',es',ep',ho',r'⟩:=hm;rw[ho]at ho';cases ho';exact⟨_,es',ep',hL,r'⟩) hok I.bare
theorem Inv.call{g':Array GenState}{t':Nat}{d':Drawn}{ch:List Addr}(I:Inv X pins σ H s)(u:Un (frs X.stack) ch H H' s.heap h')(hok:HOk X.prog X.w H' h')(hg:AllBare g')
  (hch:∀b∈ch,(b∈X.ex\/X.s₀.heap.objs.size<=b)/\b≠X.env.locals/\(∀x c,X.env.cells.lookup x=some c->c≠b)/\∀p∈X.pn++pins,p.1≠b) :
  Inv X pins σ H' { s with heap:=h',gens:=g',drawn:=d',toks:=t' }:=by
 obtain⟨m,⟨o,es,ep,ho,r⟩,_⟩:=id I.loc;obtain⟨sl,hL⟩:=u.any ho I.free λz=>(hch _ z).2.1 rfl
 exact I.step (ch:=ch) hch (λb o hL hb hc e n=>u.keep b o e n (λz=>(AAQ.mp (I.stkSub b z)).elim hL hb) hc) (λb o _ _ hc e n=>u.any e n hc) (λb o hc e n=>u.free b o e n hc) (λb o hc e=>u.there b o e hc) u.tups u.frzs u.tbls (λm' hm=>by
  obtain⟨o',es',ep',ho',r'⟩:=hm;rw[ho]at ho';cases ho';exact⟨_,es',ep',hL,r'⟩) hok hg
def Inv.turned{t':Nat}{it:Addr}(I:Inv X pins σ H s)(k:∀b o,b≠it->s.heap.get? b=some o->h'.get? b=some o)(hn:H it=none)(hL:it≠X.env.locals)
  (h1:it∈X.ex\/X.s₀.heap.objs.size<=it) (h2:∀x c,X.env.cells.lookup x=some c->c≠it) (h3:∀p∈X.pn++pins,p.1≠it):Inv X pins σ H { s with heap:=h',toks:=t' }:=by
 have nit:∀b u,H b=some u->b≠it:=λb u e z=>by rw[z,hn]at e;cases e
 refine I.step (g':=s.gens) (d':=s.drawn) (ch:=[it]) (λb hb=>?_) (λb o _ _ hc e _=>k b o (λz=>hc (by simp[z])) e) (λb o _ _ hc e _=>⟨o.slots,k b o (λz=>hc (by simp[z])) e⟩) (λ_ _ _ _ n=>n)
  (λb o hc e=>⟨o,k b o (λz=>hc (by simp[z])) e⟩) (λ_ _ e=>e) (λ_ _ _ e=>e) (λb ps e=>⟨#[],by rw[e];simp⟩) (λm hm=>?_) (λb u e=>?_) I.bare
 ·have e:b=it:=by simpa using hb
  subst e;exact⟨h1,hL,h2,h3⟩
 ·obtain⟨o,es,ep,ho,r⟩:=hm
  exact⟨o,es,ep,k _ o (ABM hL) ho,r⟩
 ·refine(I.hok b u e).stay (λc v hc q=>k c v ?_ q) (λ_ q=>q) λ_ _ q=>q
  rcases hc with z | z
  ·rw[z];exact nit b u e
  ·exact nit c _ z
def Inv.tok(I:Inv X pins σ H s)(t:Nat):Inv X pins σ H { s with toks:=t }:=I.un (h':=s.heap) (t':=t) Un.refl I.hok
def Inv.kept(I:Inv X pins σ H s)(k:∀b u,s.heap.get? b=some u->h'.get? b=some u):Inv X pins σ H { s with heap:=h',toks:=t' }:=I.un (Un.kept k) (I.hok.kept k)
def Inv.laid(I:Inv X pins σ H s)(k:∀b u,s.heap.get? b=some u->h'.get? b=some u)(hp:s.heap.objs.size<=a)(new:cL X.prog X.w (upd H a o) h' a o) :
  Inv X pins σ (upd H a o) { s with heap:=h',toks:=t' }:=I.un (Un.laid k hp (I.hok.fresh hp)) (I.hok.laid k hp new)
def Inv.write(I:Inv X pins σ H s)(mu:Mut (H x))(he:e=x\/H e=some (.own x))(k:∀b u,b≠e->s.heap.get? b=some u->h'.get? b=some u)(heo:∃u,h'.get? e=some u)
  (new:cL X.prog X.w (upd H x o) h' x o):Inv X pins σ (upd H x o) { s with heap:=h',toks:=t' }:=I.un (Un.write mu he k heo) (I.hok.write mu he k heo new)
def Inv.pins_of(I:Inv X pins σ H s)(h:∀p∈pins',s.heap.get? p.1=some p.2/\H p.1=none/\p.1≠X.env.locals/\p.1∉X.fs/\∀v,p.2.data≠.cell v):Inv X pins' σ H s :=
 ⟨I.ok,I.os,I.bare,I.base,I.loc,I.cell,I.free,I.freeC,λp hp=>(AAT.mp hp).elim (λz=>I.pin p (AAc _ z)) (h p),I.hok,I.len⟩
def vV{N:List Str}(hN:N.Nodup){i j:Nat}{x:Str}(a:N[i]?=some x)(b:N[j]?=some x):i=j:=by
 obtain⟨h1,e1⟩:=AA7.mp a;obtain⟨h2,e2⟩:=AA7.mp b;exact(List.getElem_inj hN).mp (e1.trans e2.symm)
theorem yO{M:Model}{A:Around}{E:Value->Shared->Prop}{i:Nat}{x:Str}{v:V}{u:Value}{Q:Unit->Shared->Prop}(I:Inv X pins σ H s)(hN:X.N.Nodup)(hi:X.N[i]?=some x)(hx:Loc X.env.scope x)(r:aU v u)
  (h:∀s',Inv X pins (σ.set i (some v)) H s'->(∃a,ACB a s.heap s'.heap/\(a=X.env.locals\/X.env.cells.lookup x=some a))->Q () s') (hf:X.fn x=true\/X.env.scope.names.lookup x=some .local:=by first | exact .inl rfl | exact .inr rfl | assumption):wpAny M A (storeName X.env x u) Q E s:=by
 obtain⟨m,hn,hl⟩:=id I.loc;have hcls:(X.env.scope.kind==.class||(X.env.scope.kind==.module&&X.env.locals != X.env.globals))=false:=by rw[I.ok.kind];rfl
 have hiσ:i<σ.length:=by rw[I.len];exact(AA7.mp hi).1
 have cne:=I.cne;have tracked:∀{a:Addr}{h':Heap},(∃o,s.heap.get? a=some o/\H a=none)->ACB a s.heap h'->HOk X.prog X.w H h':=λ{a h'} ha hs b ob e=>by
  obtain⟨_,_,hfree⟩:=ha;refine(I.hok b ob e).stay (λc w' hc q=>(hs.2 c ?_).trans q) (λ_ q=>q) λ_ _ q=>q
  rintro rfl;rcases hc with rfl | hc
  ·rw[hfree]at e;cases e
  ·rw[hfree]at hc;cases hc
 rcases hx with hk | hk
 ·refine wpAny_storeName_local hk hn (λh' hn' hs=>?_) hcls
  obtain⟨oL,_,_,hoL,_⟩:=id hn;refine h _ ⟨I.ok,I.os,I.bare,⟨λb o e n hb hx=>?_,λb o e n hb hx=>?_,I.base.free,λb o e hx=>?_,I.base.tups,I.base.frzs,I.base.tbls⟩,⟨_,hn',λj y v' e1 e2 e3=>?_⟩,λy c e=>?_,I.free,I.freeC,λp hp=>?_,tracked ⟨oL,hoL,I.free⟩ hs,by simpa using I.len⟩ ⟨_,hs,.inl rfl⟩
  ·exact(hs.2 b (AAN (AAd (AAF e) I.ok.above))).trans (I.base.keep b o e n hb hx)
  ·obtain⟨sl,e1⟩:=I.base.slot b o e n hb hx
   exact⟨sl,(hs.2 b (AAN (AAd (AAF e) I.ok.above))).trans e1⟩
  ·obtain⟨o',e1⟩:=I.base.there b o e hx
   exact⟨o',(hs.2 b (AAN (AAd (AAF e) I.ok.above))).trans e1⟩
  ·by_cases hj:j=i
   ·subst hj
    rw[hi]at e1;cases e1;rw[AAo hiσ]at e2;cases e2
    exact⟨u,r,.inl ⟨hk,by simp⟩⟩
   ·rw[AAs (ABM hj)]at e2
    obtain⟨u',r',q⟩:=hl j y v' e1 e2 e3;refine⟨u',r',?_⟩;rcases q with⟨k,e⟩|⟨k,c,e,z⟩
    ·refine .inl ⟨k,?_⟩
     have:y≠x:=λe=>hj (vV hN e1 (e ▸ hi))
     simp[this,e]
    ·exact .inr ⟨k,c,e,z.sameBut hs (cne y c e)⟩
  ·obtain⟨w',z⟩:=I.cell y c e
   exact⟨w',z.sameBut hs (cne y c e)⟩
  ·obtain⟨e,n,ne,nf,d⟩:=I.pin p hp
   exact⟨(hs.2 p.1 ne).trans e,n,ne,nf,d⟩
 ·have hfn:X.fn x=true:=by
   rcases hf with z | z
   ·exact z
   ·rw[z]at hk;cases hk
  obtain⟨c,hc⟩:=I.ok.has x (.inl hk);obtain⟨w',z⟩:=I.cell x c hc;refine wpAny_storeName_cell I.ok.kind hk hc z (λh' hc' hs=>?_)
  obtain⟨oc,hoc,hocd⟩:=id z;refine h { s with heap:=h' } ⟨I.ok,I.os,I.bare,⟨λb o e n hb hx=>?_,λb o e n hb hx=>?_,I.base.free,λb o e hx=>?_,I.base.tups,I.base.frzs,I.base.tbls⟩,⟨m,hn.sameBut hs (ABM (cne x c hc)),λj y v' e1 e2 e3=>?_⟩,λy c' e=>?_,I.free,I.freeC,λp hp=>?_,tracked ⟨oc,hoc,I.freeC x c hc⟩ hs,by simpa using I.len⟩ ⟨c,hs,.inr hc⟩
  ·exact(hs.2 b (AAN (AAd (AAF e) (I.ok.cab x c hfn hc)))).trans (I.base.keep b o e n hb hx)
  ·obtain⟨sl,e1⟩:=I.base.slot b o e n hb hx
   exact⟨sl,(hs.2 b (AAN (AAd (AAF e) (I.ok.cab x c hfn hc)))).trans e1⟩
  ·obtain⟨o',e1⟩:=I.base.there b o e hx
   exact⟨o',(hs.2 b (AAN (AAd (AAF e) (I.ok.cab x c hfn hc)))).trans e1⟩
  ·by_cases hj:j=i
   ·subst hj
    rw[hi]at e1;cases e1;rw[AAo hiσ]at e2;cases e2
    exact⟨u,r,.inr ⟨.inl hk,c,hc,hc'⟩⟩
   ·rw[AAs (ABM hj)]at e2
    obtain⟨u',r',q⟩:=hl j y v' e1 e2 e3;refine⟨u',r',?_⟩;rcases q with q | ⟨k,c',e,z'⟩
    ·exact .inl q
    ·refine .inr ⟨k,c',e,z'.sameBut hs ?_⟩
     rintro rfl;exact hj (vV hN e1 (I.ok.inj _ _ _ e hc ▸ hi))
  ·by_cases hcc:c'=c
   ·subst hcc;exact⟨_,hc'⟩
   ·obtain⟨w2,z2⟩:=I.cell y c' e
    exact⟨w2,z2.sameBut hs hcc⟩
  ·obtain⟨e,n,ne,nf,d⟩:=I.pin p hp
   refine⟨(hs.2 p.1 ?_).trans e,n,ne,nf,d⟩;intro q;rw[q,hoc]at e;have q':oc=p.2:=AAM e;exact d w' (by rw[<-q'];exact hocd)
def vM(I:Inv X pins σ H s)(hN:X.N.Nodup)(hi:X.N[i]?=some x)(hx:Loc X.env.scope x)(r:aU v u)
  (h:∀s',Inv X pins (σ.set i (some v)) H s'->Q () s') (hf:X.fn x=true\/X.env.scope.names.lookup x=some .local:=by first | exact .inl rfl | exact .inr rfl | assumption):wpAny M A (storeName X.env x u) Q E s :=
 yO I hN hi hx r (λs' I' _=>h s' I') hf
def Inv.call'(I:Inv X pins σ H s)(ho:s'.os=s.os)(u:Un (frs X.stack) ch H H' s.heap s'.heap)(hok:HOk X.prog X.w H' s'.heap)(hg:AllBare s'.gens)
  (hch:∀b∈ch,(b∈X.ex\/X.s₀.heap.objs.size<=b)/\b≠X.env.locals/\(∀x c,X.env.cells.lookup x=some c->c≠b)/\∀p∈X.pn++pins,p.1≠b):Inv X pins σ H' s':=by
 obtain⟨h',g',d',t',o'⟩:=s';have e:o'=s.os:=ho;subst e;exact I.call (g':=g') (t':=t') (d':=d') u hok hg hch
end
abbrev XK:=Value->Option Addr->Hp->Prop
abbrev St:=List (Option V)
abbrev VK:=V->Hp->Prop
abbrev TE:=St->Hp->VK->Prop
abbrev TT:=St->Hp->(Bool->Hp->Prop)->Prop
abbrev TA:=St->Hp->(List V->Hp->Prop)->Prop
structure Ends where
 nx:St->Hp->Prop
 rt:VK
 bk:St->Hp->Prop:=λ_ _=>False
 ct:St->Hp->Prop:=λ_ _=>False
abbrev TS:=Ends->St->Hp->Prop
inductive EP(X:Cx)(pins:List (Addr×Obj))(σ:St)(Q:VK)(u:Value)(s':Shared):Prop
 | mk (v:_) (H':_) (f0:Inv X pins σ H' s') (f1:aU v u) (f2:Q v H')
inductive TP(X:Cx)(pins:List (Addr×Obj))(σ:St)(Q:Bool->Hp->Prop)(b:Bool)(s':Shared):Prop
 | mk (H':_) (f0:Inv X pins σ H' s') (f1:Q b H')
inductive AP(X:Cx)(pins:List (Addr×Obj))(σ:St)(Q:List V->Hp->Prop)(us:List Value)(s':Shared):Prop
 | mk (vs:_) (H':_) (f0:Inv X pins σ H' s') (f1:aw vs us) (f2:Q vs H')
def SP(X:Cx)(pins:List (Addr×Obj))(D:Ends)(f:Flow)(s':Shared):Prop :=
 match f with
 | .next=>∃σ' H',Inv X pins σ' H' s'/\D.nx σ' H'
 | .brk=>∃σ' H',Inv X pins σ' H' s'/\D.bk σ' H'
 | .cont=>∃σ' H',Inv X pins σ' H' s'/\D.ct σ' H'
 | .ret u=>∃v σ' H',Inv X pins σ' H' s'/\aU v u/\D.rt v H'
def PE(X:Cx)(e:Expr)(t:TE):Prop :=
 ∀(pins:List (Addr×Obj)) (s:Shared) (σ:St) (H:Hp) (Q:VK),Inv X pins σ H s->t σ H Q->wpAny (model X.prog X.w) X.A (eval e X.env) (EP X pins σ Q) X.xe s
def PT(X:Cx)(e:Expr)(t:TT):Prop :=
 ∀(pins:List (Addr×Obj)) (s:Shared) (σ:St) (H:Hp) (Q:Bool->Hp->Prop),Inv X pins σ H s->t σ H Q->wpAny (model X.prog X.w) X.A (isTrue e X.env (eval e X.env)) (TP X pins σ Q) X.xe s
def PW(X:Cx)(e:Expr)(t:TT):Prop :=
 ∀(whole:Sem Value) (pins:List (Addr×Obj)) (s:Shared) (σ:St) (H:Hp) (Q:Bool->Hp->Prop),Inv X pins σ H s->t σ H Q->wpAny (model X.prog X.w) X.A (isTrue e X.env whole) (TP X pins σ Q) X.xe s
def PW.pt(h:PW X e t):PT X e t:=h _
def PA(X:Cx)(es:List Expr)(t:TA):Prop :=
 ∀(pos:Pos) (pins:List (Addr×Obj)) (s:Shared) (σ:St) (H:Hp) (Q:List V->Hp->Prop),Inv X pins σ H s->t σ H Q->wpAny (model X.prog X.w) X.A (spliced (backTo pos (starEach es X.env))) (AP X pins σ Q) X.xe s
def PS(X:Cx)(st:Stmt)(t:TS):Prop :=
 ∀(pins:List (Addr×Obj)) (s:Shared) (σ:St) (H:Hp) (D:Ends),Inv X pins σ H s->t D σ H->wpAny (model X.prog X.w) X.A (exec st X.env) (SP X pins D) X.xe s
def PSs(X:Cx)(st:List Stmt)(t:TS):Prop :=
 ∀(pins:List (Addr×Obj)) (s:Shared) (σ:St) (H:Hp) (D:Ends),Inv X pins σ H s->t D σ H->wpAny (model X.prog X.w) X.A (execs st X.env) (SP X pins D) X.xe s
def thn{α:Type}{t:Sem α}{Q Q':α->Shared->Prop}{M:Model}{A:Around}{E:Value->Shared->Prop}{s:Shared}(h:wpAny M A t Q E s)(hQ:∀a s,Q a s->Q' a s):wpAny M A t Q' E s:=ABF h hQ λ_ _ x=>x
section
variable{X:Cx}
def tVar(i:Nat):TE:=λσ H Q=>∃v,σ[i]?=some (some v)/\Q v H
def tC(v:V):TE:=λ_ H Q=>Q v H
def Dw(hN:X.N[i]?=some x)(hv:Vis X.env.scope x)(hd:(x==("__debug__":Str))=false:=by decide)(hcd:(x==("__classdict__":Str))=false:=by decide):PE X (.Name x pos) (tVar i):=by
 intro pins s σ H Q I h;obtain⟨v,e,h⟩:=h;obtain⟨m,hn,hl⟩:=I.loc;obtain⟨u,r,l⟩:=hl i x v hN e hv;have fin:EP X pins σ Q u s:=⟨v,H,I,r,h⟩;rcases l with⟨hk,hm⟩|⟨hk,c,hc,hcell⟩
 ·exact wpAny_Name (wpAny_loadName_local I.ok.kind hk hn hm fin) hd
 ·rcases hk with hk | hk
  ·exact wpAny_Name (wpAny_loadName_cell I.ok.kind hk hc hcell fin) hd
  ·exact wpAny_Name (wpAny_loadName_free I.ok.kind hk hc hcell fin hcd) hd
def HJ{i j pos}:PE X (.Constant (.int i) j pos) (tC (.int i)):=λ_ _ _ H _ I h=>wpAny_Constant_int ⟨.int i,H,I.tok _,⟨_,rfl⟩,h⟩
def pe_bl{b j pos}:PE X (.Constant (.bool b) j pos) (tC (.bl b)):=λ_ _ _ H _ I h=>Constant_bool ⟨.bl b,H,I,rfl,h⟩
def HF{j pos}:PE X (.Constant .none j pos) (tC .non):=λ_ _ _ H _ I h=>Constant_none ⟨.non,H,I,rfl,h⟩
def Hy{x j pos}:PE X (.Constant (.str x) j pos) (tC (.str x)):=λ_ _ _ H _ I h=>Calls.Constant_str ⟨.str x,H,I.tok _,⟨_,rfl⟩,h⟩
def Gl(X:Cx)(x:Str):Prop:=X.env.kindOf x=some .globalImplicit
def FC(I:Inv X pins σ H s)(hg:Gl X x)(hm:X.mg x=some u)(h:Q u s)
  (hd:(x==("__debug__":Str))=false:=by decide):wpAny (model X.prog X.w) X.A (eval (.Name x pos) X.env) Q E s :=
 Calls.Name_function_global I.ok.kind hg (Calls.loadGlobal_global (by rw[I.ok.glob];exact I.mod.glob.keeps I.bk) hm h) hd
def ki(I:Inv X pins σ H s)(hg:Gl X x)(hm:X.mg x=none)(hv:bootBuiltins x=some u)(h:Q u s)
  (hn:x≠"__name__":=by decide) (hd:(x==("__debug__":Str))=false:=by decide):wpAny (model X.prog X.w) X.A (eval (.Name x pos) X.env) Q E s:=by
 obtain⟨mb,h1,h2⟩:=I.mod.blt;exact Calls.Name_function_global I.ok.kind hg (Calls.loadGlobal_builtin (by rw[I.ok.glob];exact I.mod.glob.keeps I.bk) hm (by rw[I.ok.blt];exact h1.keeps I.bk) ((h2 x hn).trans hv) h) hd
variable{a b:Expr}{ta tb:TE}{pos:Pos}
def aU.none_iff(r:aU x v):(v==AC3)=decide (x=.non):=by
 cases x with
 | non=>cases r;rfl
 | bl _=>cases r;rfl
 | int _=>obtain⟨t,rfl⟩:=r;rfl
 | str _=>obtain⟨t,rfl⟩:=r;rfl
 | byt _=>obtain⟨t,rfl⟩:=r;rfl
 | flt _=>obtain⟨t,rfl⟩:=r;rfl
 | ref _=>cases r;rfl
 | ty _=>cases r;rfl
def tB(t:TE):TT:=λσ H Q=>t σ H λx H1=>∃c,x=.bl c/\Q c H1
def Hm(h:PE X e t)(he:∀whole,isTrue e X.env whole=(do let v <-whole;standAt e.pos;holding [v] (truthy v)):=by intro _;rfl):PT X e (tB t):=by
 intro pins s σ H Q I hw;refine isTrue_plain (thn (h pins s σ H _ I hw) λv s1 ⟨x,H1,I1,r1,q1⟩=>?_) (he _)
 obtain⟨d,rfl,q⟩:=q1;cases r1
 exact ACC ⟨H1,I1,q⟩
variable{tA tB':TT}{bc:List Expr}
def tAnd(t u:TT):TT:=λσ H Q=>t σ H λc H1=>if c=true then u σ H1 Q else Q false H1
def tOr(t u:TT):TT:=λσ H Q=>t σ H λc H1=>if c=true then Q true H1 else u σ H1 Q
def tNot(t:TT):TT:=λσ H Q=>t σ H λc H1=>Q (!c) H1
def ES(ha:PT X a tA):PW X (.BoolOp .And [a] pos) tA:=by
 intro wh pins s σ H Q I h;refine isTrue_and (thn (ha pins s σ H Q I h) λc s1 e=>?_)
 cases c with
 | true=>exact isTrue_and_nil e
 | false=>exact e
def Hj(ha:PT X a tA):PW X (.BoolOp .Or [a] pos) tA:=by
 intro wh pins s σ H Q I h;refine isTrue_or (thn (ha pins s σ H Q I h) λc s1 e=>?_)
 cases c with
 | false=>exact isTrue_or_nil e
 | true=>exact e
def Hk(ha:PT X a tA)(hb:PW X (.BoolOp .And (b::bc) pos) tB'):PW X (.BoolOp .And (a::b::bc) pos) (tAnd tA tB'):=by
 intro wh pins s σ H Q I h;refine isTrue_and (thn (ha pins s σ H _ I h) λc s1 ⟨H1,I1,q1⟩=>?_)
 cases c with
 | true=>exact hb wh pins s1 σ H1 Q I1 q1
 | false=>exact⟨H1,I1,q1⟩
def pw_or(ha:PT X a tA)(hb:PW X (.BoolOp .Or (b::bc) pos) tB'):PW X (.BoolOp .Or (a::b::bc) pos) (tOr tA tB'):=by
 intro wh pins s σ H Q I h;refine isTrue_or (thn (ha pins s σ H _ I h) λc s1 ⟨H1,I1,q1⟩=>?_)
 cases c with
 | true=>exact⟨H1,I1,q1⟩
 | false=>exact hb wh pins s1 σ H1 Q I1 q1
def Hn(ha:PT X a tA):PT X (.UnaryOp .Not a pos) (tNot tA):=by
 intro pins s σ H Q I h;exact isTrue_not (thn (ha pins s σ H (λc H1=>Q (!c) H1) I h) λc s1 ⟨H1,I1,q1⟩=>⟨H1,I1,q1⟩)
def tAndV(ta tb:TE):TE:=λσ H Q=>ta σ H λx H1=>∃c,x=.bl c/\if c=true then tb σ H1 Q else Q (.bl false) H1
def tOrV(ta tb:TE):TE:=λσ H Q=>ta σ H λx H1=>∃c,x=.bl c/\if c=true then Q (.bl true) H1 else tb σ H1 Q
def tNotV(ta:TE):TE:=λσ H Q=>ta σ H λx H1=>∃c,x=.bl c/\Q (.bl (!c)) H1
def Hz{op}(h:PE X a t):PE X (.BoolOp op [a] pos) t:=λpins s σ H Q I hw=>BoolOp_one (h pins s σ H Q I hw)
def HL(ha:PE X a ta)(hb:PE X (.BoolOp .And (b::bc) pos) tb):PE X (.BoolOp .And (a::b::bc) pos) (tAndV ta tb):=by
 intro pins s σ H Q I h;refine BoolOp_and (thn (ha pins s σ H _ I h) λv s1 ⟨x,H1,I1,r1,q1⟩=>?_)
 obtain⟨c,rfl,q1⟩:=q1;cases r1
 refine ACC ?_
 cases c with
 | true=>exact hb pins s1 σ H1 Q I1 q1
 | false=>exact⟨.bl false,H1,I1,rfl,q1⟩
def pe_or(ha:PE X a ta)(hb:PE X (.BoolOp .Or (b::bc) pos) tb):PE X (.BoolOp .Or (a::b::bc) pos) (tOrV ta tb):=by
 intro pins s σ H Q I h;refine BoolOp_or (thn (ha pins s σ H _ I h) λv s1 ⟨x,H1,I1,r1,q1⟩=>?_)
 obtain⟨c,rfl,q1⟩:=q1;cases r1
 refine ACC ?_
 cases c with
 | false=>exact hb pins s1 σ H1 Q I1 q1
 | true=>exact⟨.bl true,H1,I1,rfl,q1⟩
def HD(ha:PE X a ta):PE X (.UnaryOp .Not a pos) (tNotV ta):=by
 intro pins s σ H Q I h;refine UnaryOp_ (thn (ha pins s σ H _ I h) λv s1 ⟨x,H1,I1,r1,q1⟩=>?_)
 obtain⟨c,rfl,q1⟩:=q1;cases r1
 exact not_of (ACC ⟨.bl (!c),H1,I1,rfl,q1⟩)
def tIf(t:TT)(ta tb:TE):TE:=λσ H Q=>t σ H λc H1=>if c=true then ta σ H1 Q else tb σ H1 Q
def BR(hc:PT X c tA)(ha:PE X a ta)(hb:PE X b tb):PE X (.IfExp c a b pos) (tIf tA ta tb):=by
 intro pins s σ H Q I h;refine wpAny_IfExp (thn (hc pins s σ H _ I h) λd s1 ⟨H1,I1,q1⟩=>?_)
 cases d with
 | true=>exact ha pins s1 σ H1 Q I1 q1
 | false=>exact hb pins s1 σ H1 Q I1 q1
end
def SqL(K:AA5)(H:Hp)(a:Addr)(xs:List V):Prop :=
 Rd H a (.lst xs) \/
  ∃(o:Obj) (its:Array Value) (n:Nat),K.lookup a=some o/\o.cls=.type "list"/\o.dict=none/\o.data=.seq its n/\its.size<=sizeLine/\aw xs its.toList
def SqT(K:AA5)(H:Hp)(a:Addr)(xs:List V):Prop :=
 Rd H a (.tup xs) \/
  ∃(o:Obj) (its:Array Value) (n:Nat),K.lookup a=some o/\o.cls=.type "tuple"/\o.dict=none/\o.data=.seq its n/\its.size<=sizeLine/\aw xs its.toList
def absV:Value->Option V
 | .none=>some .non
 | .bool b=>some (.bl b)
 | .int i _=>some (.int i)
 | .str x _=>some (.str x)
 | .bytes b _=>some (.byt b)
 | .float b _=>some (.flt b)
 | .ref a=>some (.ref a)
 | .type n=>some (.ty n)
 | _=>none
def aU.abs(r:aU x u):absV u=some x:=by
 cases x with
 | non=>cases r;rfl
 | bl _=>cases r;rfl
 | int _=>obtain⟨t,rfl⟩:=r;rfl
 | str _=>obtain⟨t,rfl⟩:=r;rfl
 | byt _=>obtain⟨t,rfl⟩:=r;rfl
 | flt _=>obtain⟨t,rfl⟩:=r;rfl
 | ref _=>cases r;rfl
 | ty _=>cases r;rfl
def aU.inj(r:aU x u)(q:aU y u):x=y:=AAM (r.abs.symm.trans q.abs)
def aw.inj:∀{xs ys:List V}{us:List Value},aw xs us->aw ys us->xs=ys
 | _,_,_,.nil,.nil=>rfl
 | _,_,_,.cons r t,.cons r' t'=>by rw[r.inj r',aw.inj t t']
section
variable{X:Cx}{pins:List (Addr×Obj)}{σ:St}{H:Hp}{s:Shared}{a:Addr}{xs ys:List V}
def SqT.of{K:AA5}(h:H a=some (.tup xs)):SqT K H a xs:=.inl (.inl h)
def Inv.list(I:Inv X pins σ H s)(h:SqL X.K H a xs):∃its:List Value,aw xs its/\PlainL s.heap a its.toArray/\xs.length<=sizeLine:=by
 rcases h with h | ⟨o,its,n,hk,hc,hd,hs,hz,r⟩
 ·obtain⟨z,its,n,r,e⟩:=h.ok I.hok
  exact⟨its,r,⟨_,n,e,rfl,rfl,rfl⟩,z⟩
 ·refine⟨its.toList,r,⟨o,n,I.kIn a o hk,hc,hd,by simpa using hs⟩,?_⟩
  have e:=r.length;simp only[AAO]at e;lia
def Inv.tuple(I:Inv X pins σ H s)(h:SqT X.K H a xs):∃its:List Value,aw xs its/\IsTup s.heap a its.toArray/\xs.length<=sizeLine:=by
 rcases h with h | ⟨o,its,n,hk,hc,_,hs,hz,r⟩
 ·obtain⟨z,its,r,p⟩:=h.ok I.hok
  exact⟨its,r,p.tup,z⟩
 ·refine⟨its.toList,r,⟨o,I.kIn a o hk,hc,n,by simpa using hs⟩,?_⟩
  have e:=r.length;simp only[AAO]at e;lia
def Inv.list_inj(I:Inv X pins σ H s)(h:SqL X.K H a xs)(h':SqL X.K H a ys):xs=ys:=by
 obtain⟨its,r,⟨o,n,e,_,_,d⟩,_⟩:=I.list h;obtain⟨its',r',⟨o',n',e',_,_,d'⟩,_⟩:=I.list h';rw[e]at e';cases e';rw[d]at d';injection d' with d1 _
 have:its=its':=by simpa using congrArg Array.toList d1
 subst this;exact r.inj r'
def Inv.tuple_inj(I:Inv X pins σ H s)(h:SqT X.K H a xs)(h':SqT X.K H a ys):xs=ys:=by
 obtain⟨its,r,⟨o,e,_,n,d⟩,_⟩:=I.tuple h;obtain⟨its',r',⟨o',e',_,n',d'⟩,_⟩:=I.tuple h';rw[e]at e';cases e';rw[d]at d';injection d' with d1 _
 have:its=its':=by simpa using congrArg Array.toList d1
 subst this;exact r.inj r'
end
abbrev Cx.wish(X:Cx)(E:Value->Shared->Prop):Cx:={ X with xe:=E }
abbrev Cx.nox(X:Cx):Cx:=X.wish λ_ _=>False
def Cx.Ok.wish{X:Cx}(ok:X.Ok)(E:Value->Shared->Prop):(X.wish E).Ok :=
 ⟨ok.mod,ok.kind,ok.glob,ok.blt,ok.above,ok.inj,ok.has,ok.cab,ok.hd,ok.frames,ok.stk,ok.exf,ok.bs,ok.bsz,ok.noex,ok.exfs,ok.funs,ok.frf⟩
def Cx.Ok.unwish{X:Cx}{E:Value->Shared->Prop}(ok:(X.wish E).Ok):X.Ok :=
 ⟨ok.mod,ok.kind,ok.glob,ok.blt,ok.above,ok.inj,ok.has,ok.cab,ok.hd,ok.frames,ok.stk,ok.exf,ok.bs,ok.bsz,ok.noex,ok.exfs,ok.funs,ok.frf⟩
section
variable{X:Cx}{pins:List (Addr×Obj)}{σ:St}{H:Hp}{s:Shared}{E:Value->Shared->Prop}
def Inv.wish(I:Inv X pins σ H s)(E:Value->Shared->Prop):Inv (X.wish E) pins σ H s:=⟨I.ok.wish E,I.os,I.bare,I.base,I.loc,I.cell,I.free,I.freeC,I.pin,I.hok,I.len⟩
def Inv.unwish(I:Inv (X.wish E) pins σ H s):Inv X pins σ H s:=⟨I.ok.unwish,I.os,I.bare,I.base,I.loc,I.cell,I.free,I.freeC,I.pin,I.hok,I.len⟩
def SP.unwish(h:SP (X.wish E) pins D f s'):SP X pins D f s':=by
 cases f with
 | next=>obtain⟨σ',H',I,q⟩:=h;exact⟨σ',H',I.unwish,q⟩
 | brk=>obtain⟨σ',H',I,q⟩:=h;exact⟨σ',H',I.unwish,q⟩
 | cont=>obtain⟨σ',H',I,q⟩:=h;exact⟨σ',H',I.unwish,q⟩
 | ret u=>obtain⟨v,σ',H',I,r,q⟩:=h;exact⟨v,σ',H',I.unwish,r,q⟩
def PE.nox(h:PE X.nox e t):PE X e t:=λpins s σ H Q I hw =>
 ABF (h pins s σ H Q (I.wish _) hw) (λ_ _ ⟨v,H',I',r,q⟩=>⟨v,H',I'.unwish,r,q⟩) λ_ _ z=>ACl z
def PSs.nox{st:List Stmt}{t:TS}(h:PSs X.nox st t):PSs X st t:=λpins s σ H D I hw =>
 ABF (h pins s σ H D (I.wish _) hw) (λ_ _ q=>q.unwish) λ_ _ z=>ACl z
end
section
variable{X:Cx}{st:Stmt}{bc:List Stmt}{t u:TS}{e:Expr}{te:TE}{pos:Pos}
def tNext:TS:=λD σ H=>D.nx σ H
def tSeq(t u:TS):TS:=λD σ H=>t { D with nx:=u D } σ H
def EY:PSs X [] tNext:=λ_ _ σ H _ I h=>AEF ⟨σ,H,I,h⟩
def BI(h1:PS X st t)(h2:PSs X bc u):PSs X (st::bc) (tSeq t u):=by
 intro pins s σ H D I h;refine wpAny_execs_cons (thn (h1 pins s σ H { D with nx:=u D } I h) λf s1 q=>?_)
 cases f with
 | next =>
  obtain⟨σ',H',I',q⟩:=q;exact h2 pins s1 σ' H' D I' q
 | ret v=>exact q
 | brk=>exact q
 | cont=>exact q
def EX(h1:PS X st t):PSs X [st] t:=by
 intro pins s σ H D I h;refine wpAny_execs_cons (thn (h1 pins s σ H D I h) λf s1 q=>?_)
 cases f with
 | next=>exact AEF q
 | ret v=>exact q
 | brk=>exact q
 | cont=>exact q
def Inv.quiet(I:Inv X pins σ H s):interactive X.env=false:=by simp[interactive,I.ok.kind]
def tDrop(te:TE):TS:=λD σ H=>te σ H λ_ H1=>D.nx σ H1
def EZ(he:PE X e te)(hs:swapsWith e none pos.line X.env=pure false:=by rfl):PS X (.Expr e pos) (tDrop te):=by
 intro pins s σ H D I h;exact wpAny_Expr_any (thn (he pins s σ H _ I h) λv s1 ⟨x,H1,I1,r1,q1⟩=>⟨σ,H1,I1,q1⟩) I.quiet hs
def tRet(te:TE):TS:=λD σ H=>te σ H D.rt
def Hq(he:PE X e te):PS X (.Return (some e) pos) (tRet te):=by
 intro pins s σ H D I h;exact wpAny_Return_some (thn (he pins s σ H _ I h) λv s1 ⟨x,H1,I1,r1,q1⟩=>⟨x,σ,H1,I1,r1,q1⟩)
def tIfS(c:TT)(t u:TS):TS:=λD σ H=>c σ H λb H1=>if b=true then t D σ H1 else u D σ H1
def ps_if(hc:PT X c tc)(ha:PSs X a t)(hb:PSs X b u):PS X (.If c a b pos) (tIfS tc t u):=by
 intro pins s σ H D I h;refine wpAny_If (thn (hc pins s σ H _ I h) λd s1 ⟨H1,I1,q1⟩=>?_)
 cases d with
 | true=>exact ha pins s1 σ H1 D I1 q1
 | false=>exact hb pins s1 σ H1 D I1 q1
end
abbrev TG:=V->St->Hp->(St->Hp->Prop)->Prop
abbrev TGs:=List V->St->Hp->(St->Hp->Prop)->Prop
def PG(X:Cx)(target:Expr)(t:TG):Prop :=
 ∀(pins:List (Addr×Obj)) (s:Shared) (σ:St) (H:Hp) (v:V) (u:Value) (Q:St->Hp->Prop),Inv X pins σ H s->aU v u->t v σ H Q ->
  wpAny (model X.prog X.w) X.A (assign target X.env u) (λ_ s'=>∃σ' H',Inv X pins σ' H' s'/\Q σ' H') X.xe s
def PGs(X:Cx)(ts:List Expr)(t:TGs):Prop :=
 ∀(pins:List (Addr×Obj)) (s:Shared) (σ:St) (H:Hp) (vs:List V) (us:List Value) (Q:St->Hp->Prop),Inv X pins σ H s->aw vs us->t vs σ H Q ->
  wpAny (model X.prog X.w) X.A (assignInOrder ((assignEach ts X.env).map (·.2)) us) (λ_ s'=>∃σ' H',Inv X pins σ' H' s'/\Q σ' H') X.xe s
abbrev TSet:=V->V->V->Hp->(Hp->Prop)->Prop
def PSet(X:Cx)(t:TSet):Prop :=
 ∀(pins:List (Addr×Obj)) (s:Shared) (σ:St) (H:Hp) (o i v:V) (ov iv u:Value) (Q:Hp->Prop),Inv X pins σ H s->aU o ov->aU i iv->aU v u->t o i v H Q ->
  wpAny (model X.prog X.w) X.A (setItem ov iv u) (λ_ s'=>∃H',Inv X pins σ H' s'/\Q H') X.xe s
section
variable{X:Cx}{pos:Pos}
def IZ(i:Nat):TG:=λv σ H Q=>Q (σ.set i (some v)) H
def Fd(hN:X.N.Nodup)(hi:X.N[i]?=some x)(hx:Loc X.env.scope x)(hf:X.fn x=true\/X.env.scope.names.lookup x=some .local:=by first | exact .inl rfl | exact .inr rfl | assumption):PG X (.Name x pos) (IZ i):=by
 intro pins s σ H v u Q I r h;exact wpAny_assign_Name (vM I hN hi hx r (λs' I'=>⟨_,H,I',h⟩) hf)
def gNil:TGs:=λvs σ H Q=>vs=[]/\Q σ H
def gCons(t:TG)(u:TGs):TGs:=λvs σ H Q=>∃v r,vs=v::r/\t v σ H λσ' H'=>u r σ' H' Q
def Fc:PGs X [] gNil:=by
 intro pins s σ H vs us Q I r h;obtain⟨e,h⟩:=h;subst e;cases r
 exact assignInOrder_nil ⟨σ,H,I,h⟩
def BN(h1:PG X e t)(h2:PGs X es u)
  (hs:(assignEach (e::es) X.env).map (·.2)=assign e X.env::(assignEach es X.env).map (·.2):=by rfl):PGs X (e::es) (gCons t u):=by
 intro pins s σ H vs us Q I r h;obtain⟨v,vr,e1,h⟩:=h;subst e1;cases r with
 | cons r rr =>
  rw[hs];refine assignInOrder_cons (thn (h1 pins s σ H _ _ _ I r h) λ_ s1 ⟨σ1,H1,I1,q1⟩=>?_)
  exact h2 pins s1 σ1 H1 _ _ Q I1 rr q1
def gTup(K:AA5)(n:Nat)(t:TGs):TG:=λv σ H Q=>∃a xs,v=.ref a/\SqT K H a xs/\xs.length=n/\t xs σ H Q
def Hu(hc:X.calm=true)(h:PGs X es t)
  (hn:(assignEach es X.env).length=n:=by rfl) (hst:(assignEach es X.env).findIdx? (·.1)=none:=by rfl):PG X (.Tuple es k pos) (gTup X.K n t):=by
 intro pins s σ H v u Q I r hw;obtain⟨a,xs,e1,hq,hl,hw⟩:=hw;subst e1;cases r
 obtain⟨its,rv,ht,hz⟩:=I.tuple hq;refine assign_Tuple_tuple (I.ok.hd hc) ht (by simp[hn,<-hl,rv.length]) hst λh' hx=>?_
 have I1:Inv X pins σ H { s with heap:=h' }:=I.kept (t':=s.toks) λb o e=>hx b o (AAN (AAF e)) e
 exact h pins _ σ H xs _ Q I1 (by simpa using rv) hw
def gSub(to ti:TE)(t:TSet):TG:=λv σ H Q=>to σ H λo H1=>ti σ H1 λi H2=>t o i v H2 λH3=>Q σ H3
def Hv(ho:PE X o to)(hi:PE X i ti)(hs:PSet X t)
  (ha:∀v,assign (.Subscript o i pos) X.env v=(do
   let ov <-holding [v] (eval o X.env)
   let iv <-holding [v,ov] (eval i X.env)
   standAt pos
   holding [v,ov,iv] (setItem ov iv v)
   release [v,ov,iv] []):=by intro _;rfl):PG X (.Subscript o i pos) (gSub to ti t):=by
 intro pins s σ H v u Q I r h;rw[ha];refine AA1 (AAr (thn (ho pins s σ H _ I h) λov s1 ⟨x,H1,I1,r1,q1⟩=>?_))
 refine AA1 (AAr (thn (hi pins s1 σ H1 _ I1 q1) λiv s2 ⟨y,H2,I2,r2,q2⟩=>?_))
 refine AA1 (wpAny_standAt (AA1 (AAr (thn (hs pins s2 σ H2 x y v ov iv u _ I2 r1 r2 r q2) λ_ s3 ⟨H3,I3,q3⟩=>?_))))
 exact wpAny_release ⟨σ,H3,I3,q3⟩
def tAsg(te:TE)(g:TG):TS:=λD σ H=>te σ H λx H1=>g x σ H1 D.nx
def Hs(he:PE X e te)(hg:PG X tg g)(hs:swapsWithSole [tg] e pos.line X.env=pure false:=by rfl)(hw:swappedStores [tg] e X.env=pure none:=by rfl)
  (h1:(assignEach [tg] X.env).map (·.2)=[assign tg X.env]:=by rfl):PS X (.Assign [tg] e pos) (tAsg te g):=by
 intro pins s σ H D I h;refine wpAny_Assign_stores (thn (he pins s σ H _ I h) λv s1 ⟨x,H1,I1,r1,q1⟩=>?_) hs hw
 rw[h1];exact thn (hg pins s1 σ H1 x v _ I1 r1 q1) λ_ s2 q=>q
def Ho(hN:X.N.Nodup)(hi:X.N[i]?=some x)(hx:Loc X.env.scope x)(he:PE X e te)(hs:swapsWith e (some (.Name x pos')) pos.line X.env=pure false:=by rfl)(hf:X.fn x=true\/X.env.scope.names.lookup x=some .local:=by first | exact .inl rfl | exact .inr rfl | assumption) :
  PS X (.Assign [.Name x pos'] e pos) (tAsg te (IZ i)):=by
 intro pins s σ H D I h;refine wpAny_Assign_Name (thn (he pins s σ H _ I h) λv s1 ⟨y,H1,I1,r1,q1⟩=>?_) hs
 exact vM I1 hN hi hx r1 (λs2 I2=>⟨_,H1,I2,q1⟩) hf
end
section
variable{X:Cx}{pos:Pos}
def Dt(c:TT)(tb:TS):TS:=λD σ H=>∃W:Nat->St->Hp->Prop,(∃m,W m σ H)/\∀m σ H,W m σ H ->
 c σ H λb H1=>if b=true then ∃N:St->Hp->Prop,(∀σ' H',N σ' H'->∃m',m' < m/\W m' σ' H')/\tb { D with nx:=N,ct:=N,bk:=D.nx } σ H1 else D.nx σ H1
def BJ(hp:PassesOwn (model X.prog X.w) X.A X.env X.xe)(hc:PT X c tc)(hb:PSs X body tb):PS X (.While c body [] pos) (Dt tc tb):=by
 intro pins s σ H D I h;obtain⟨W,⟨m0,w0⟩,turn⟩:=h;refine wpAny_While (codeAny_whileLoop (λn s'=>∃σ' H',Inv X pins σ' H' s'/\W n σ' H') ?_ m0 ⟨σ,H,I,w0⟩)
 rintro n s1 ⟨σ1,H1,I1,w1⟩;refine ACV hp (thn (hc pins s1 σ1 H1 _ I1 (turn n σ1 H1 w1)) λb s2 ⟨H2,I2,q2⟩=>?_)
 cases b with
 | true =>
  obtain⟨N,hN,q2⟩:=q2;rw[if_pos rfl];refine ACV hp (thn (hb pins s2 σ1 H2 _ I2 q2) λf s3 q3=>?_)
  cases f with
  | next =>
   obtain⟨σ3,H3,I3,n3⟩:=q3;obtain⟨m',hm,w3⟩:=hN σ3 H3 n3;exact⟨m',hm,σ3,H3,I3,w3⟩
  | cont =>
   obtain⟨σ3,H3,I3,n3⟩:=q3;obtain⟨m',hm,w3⟩:=hN σ3 H3 n3;exact⟨m',hm,σ3,H3,I3,w3⟩
  | brk=>exact q3
  | ret v=>exact q3
 | false =>
  rw[if_neg ABS];exact AEF ⟨σ1,H2,I2,q2⟩
end
structure It where
 go:Nat->Hp->Prop
 yld:Nat->Hp->V->Hp->Prop
 stop:Nat->Hp->Prop
def xY(X:Cx)(pins:List (Addr×Obj))(H:Hp)(b:Addr):Prop :=
 H b=none/\b≠X.env.locals/\b∉X.fs/\(b∈X.ex\/X.s₀.heap.objs.size<=b)/\(∀x c,X.env.cells.lookup x=some c->c≠b)/\∀p∈X.pn++pins,p.1≠b
def Inv.fpOk(I:Inv X pins σ H s)(hb:s.heap.objs.size<=b)(hn:H' b=none):xY X pins H' b:=by
 refine⟨hn,Nat.ne_of_gt (AAd I.lt hb),I.nofs hb,.inr (AAq I.sz hb),λx c e z=>?_,λp hp z=>?_⟩
 ·obtain⟨v,q⟩:=I.cell x c e
  exact absurd (AAd q.lt (by rw[z];exact hb)) (AAm _)
 ·exact absurd (AAd (AAF (I.pin p hp).1) (by rw[z];exact hb)) (AAm _)
structure Turn(P:Program)(w:World)(K:AA5)(tg:Expr)(J:It)(fp:List Addr)(it:Addr)(tn:Nat->Heap->Prop):Prop where
 mem:it∈fp
 obj:∀i h,tn i h->∀b∈fp,∃o,h.get? b=some o/\∀v,o.data≠.cell v
 keep:∀i h h',tn i h->(∀b∈fp,∀o,h.get? b=some o->h'.get? b=some o)->tn i h'
 item:∀(X:Cx),X.prog=P->X.w=w->X.K=K->X.calm=true->∀(i:Nat) (pins:List (Addr×Obj)) (s:Shared) (σ:St) (H:Hp) (E:Value->Shared->Prop),Inv X pins σ H s->(∀b∈fp,xY X pins H b)->tn i s.heap->J.go i H ->
  wpAny (model P w) X.A (pyNext (.ref it)) (λr s1=>∃u,r=some u /\
   wpAny (model P w) X.A (letOwnedTupleGo tg (.ref it) u) (λ_ s2=>∃x H',Inv X pins σ H' s2/\aU x u/\J.yld i H x H'/\tn (i+1) s2.heap/\∀b∈fp,H' b=none) E s1) E s
 done:∀(X:Cx),X.prog=P->X.w=w->X.K=K->X.calm=true->∀(i:Nat) (pins:List (Addr×Obj)) (s:Shared) (σ:St) (H:Hp) (E:Value->Shared->Prop),Inv X pins σ H s->(∀b∈fp,xY X pins H b)->tn i s.heap->J.stop i H ->
  wpAny (model P w) X.A (pyNext (.ref it)) (λr s1=>r=none/\Inv X pins σ H s1) E s
 self:∀(A:Around) (i:Nat) (s:Shared) (Q:Value->Shared->Prop) (E:Value->Shared->Prop),tn i s.heap->Q (.ref it) s->wpAny (model P w) A (pyIter (.ref it)) Q E s
abbrev TI:=St->Hp->(It->Hp->Prop)->Prop
inductive PIE(X:Cx)(pins:List (Addr×Obj))(σ:St)(tg:Expr)(R:It->Hp->Prop)(itv:Value)(s2:Shared):Prop
 | mk (it:Addr) (fp:List Addr) (tn:Nat->Heap->Prop) (J:It) (H':Hp) (f0:itv=.ref it) (f1:Inv X pins σ H' s2) (f2:Turn X.prog X.w X.K tg J fp it tn) (f3:tn 0 s2.heap) (f4:(∀b∈fp,xY X pins H' b)) (f5:R J H')
def PI(X:Cx)(tg iter:Expr)(wi:TI):Prop :=
 ∀(pins:List (Addr×Obj)) (s:Shared) (σ:St) (H:Hp) (R:It->Hp->Prop),Inv X pins σ H s->wi σ H R ->
  wpAny (model X.prog X.w) X.A (eval iter X.env) (λv s1=>wpAny (model X.prog X.w) X.A (pyIter v) (PIE X pins σ tg R) X.xe s1) X.xe s
def xI(ho:s.heap.get? it=some o)(hc:o.cls=.type n)(hd:o.data=.fields vs)
  (hn:["enumerate","zip","dict_itemiterator","dict_reverseitemiterator","odict_iterator","itertools.zip_longest","itertools.pairwise"].contains n=false) (hQ:Q () s):wpAny M A (letOwnedTupleGo tg (.ref it) u) Q E s:=by
 unfold letOwnedTupleGo;cases tg<;>first
  | exact AA2 hQ
  | (cases u<;>first
    | exact AA2 hQ
    | (refine AA1 (wpAny_load ho ?_);rw[hc,hd];show wpAny M A (if (["enumerate","zip","dict_itemiterator","dict_reverseitemiterator","odict_iterator","itertools.zip_longest","itertools.pairwise"].contains n&&vs[0]?==some (rawInt _))=true then _ else _) Q E s;rw[if_neg (by intro h;rw[hn,Bool.false_and]at h;cases h)];exact AA2 hQ))
def Itl(K:AA5)(a:Addr):It :=
 ⟨λi H=>∃xs x,SqL K H a xs/\xs[i]?=some x,λi H x H'=>H'=H/\∀xs,SqL K H a xs->xs[i]?=some x,λi H=>∃xs,SqL K H a xs/\xs.length<=i⟩
def Itt(K:AA5)(a:Addr):It :=
 ⟨λi H=>∃xs x,SqT K H a xs/\xs[i]?=some x,λi H x H'=>H'=H/\∀xs,SqT K H a xs->xs[i]?=some x,λi H=>∃xs,SqT K H a xs/\xs.length<=i⟩
def Itr(lo:Int)(n:Nat):It:=⟨λi _=>i<n,λi H x H'=>H'=H/\x=.int (lo+i),λi _=>n<=i⟩
theorem yi{P:Program}{w:World}{K:AA5}{tg:Expr}(a it:Addr):Turn P w K tg (Itl K a) [it] it (λi h=>h.IsListIter it a i) where
 mem:=by simp
 obj:=λi h st b hb=>by
  have e:b=it:=by simpa using hb
  subst e;obtain⟨o,e,c,d⟩:=st;exact⟨o,e,λv z=>by rw[d]at z;cases z⟩
 keep:=λi h h' st k=>st.at λo e=>k it (by simp) o e
 item:=by
  intro X hP hw hK hc i pins s σ H E I hf st hg;subst hP hw hK;obtain⟨xs,x,hq,hx⟩:=hg;obtain⟨its,rv,p,hz⟩:=I.list hq;obtain⟨u,hu,ru⟩:=rv.get hx;obtain⟨f0,f1,f2,f3,f4,f5⟩:=hf it (by simp)
  refine wpAny_pyNext_list_item st p.isList (x:=u) (by simpa using hu) λh' st' sb=>?_
  have I1:Inv X pins σ H { s with heap:=h' }:=I.turned (t':=s.toks) (λb o hb e=>(sb.2 b hb).trans e) f0 f1 f3 f4 f5
  obtain⟨o,e,c,d⟩:=id st';exact⟨u,rfl,xI (s:={ s with heap:=h' }) e c d (by decide) ⟨x,H,I1,ru,⟨rfl,λys hy=>by rw[I.list_inj hy hq];exact hx⟩,st',λb hb=>(hf b hb).1⟩⟩
 done:=by
  intro X hP hw hK hc i pins s σ H E I hf st hg;subst hP hw hK;obtain⟨xs,hq,hx⟩:=hg;obtain⟨its,rv,p,hz⟩:=I.list hq;obtain⟨f0,f1,f2,f3,f4,f5⟩:=hf it (by simp)
  have hl:=rv.length;exact wpAny_pyNext_list_end (I.ok.hd hc) st p.isList (by simp;lia) λh' eb=>⟨rfl,I.turned (t':=s.toks) (λb o hb e=>eb b o hb e) f0 f1 f3 f4 f5⟩
 self:=λ_ _ _ _ _ st h=>wpAny_pyIter_listiter st h
theorem wY{P:Program}{w:World}{K:AA5}{tg:Expr}(a it:Addr):Turn P w K tg (Itt K a) [it] it (λi h=>h.IsTupleIter it a i) where
 mem:=by simp
 obj:=λi h st b hb=>by
  have e:b=it:=by simpa using hb
  subst e;obtain⟨o,e,c,d⟩:=st;exact⟨o,e,λv z=>by rw[d]at z;cases z⟩
 keep:=λi h h' st k=>st.at λo e=>k it (by simp) o e
 item:=by
  intro X hP hw hK hc i pins s σ H E I hf st hg;subst hP hw hK;obtain⟨xs,x,hq,hx⟩:=hg;obtain⟨its,rv,p,hz⟩:=I.tuple hq;obtain⟨u,hu,ru⟩:=rv.get hx;obtain⟨f0,f1,f2,f3,f4,f5⟩:=hf it (by simp)
  refine wpAny_pyNext_tuple_item st (show s.heap.IsTuple a its.toArray from p) (x:=u) (by simpa using hu) λh' st' sb=>?_
  have I1:Inv X pins σ H { s with heap:=h' }:=I.turned (t':=s.toks) (λb o hb e=>(sb.2 b hb).trans e) f0 f1 f3 f4 f5
  obtain⟨o,e,c,d⟩:=id st';exact⟨u,rfl,xI (s:={ s with heap:=h' }) e c d (by decide) ⟨x,H,I1,ru,⟨rfl,λys hy=>by rw[I.tuple_inj hy hq];exact hx⟩,st',λb hb=>(hf b hb).1⟩⟩
 done:=by
  intro X hP hw hK hc i pins s σ H E I hf st hg;subst hP hw hK;obtain⟨xs,hq,hx⟩:=hg;obtain⟨its,rv,p,hz⟩:=I.tuple hq;obtain⟨f0,f1,f2,f3,f4,f5⟩:=hf it (by simp)
  have hl:=rv.length;exact wpAny_pyNext_tuple_end (I.ok.hd hc) st (show s.heap.IsTuple a its.toArray from p) (by simp;lia) λh' eb=>⟨rfl,I.turned (t':=s.toks) (λb o hb e=>eb b o hb e) f0 f1 f3 f4 f5⟩
 self:=λ_ _ _ _ _ st h=>wpAny_pyIter_tupleiter st h
def wZ{P:Program}{w:World}{K:AA5}{tg:Expr}(it:Addr)(lo:Int)(n:Nat):Turn P w K tg (Itr lo n) [it] it (λi h=>IsRangeIter h it (lo+(i:Nat)*1) ((n:Int)-(i:Nat)) 1) where
 mem:=by simp
 obj:=λi h st b hb=>by
  have e:b=it:=by simpa using hb
  subst e;exact⟨_,st,λv z=>by
   have z':Data.fields _=Data.cell v:=z;cases z'⟩
 keep:=λi h h' st k=>k it (by simp) _ st
 item:=by
  intro X hP hw hK hc i pins s σ H E I hf st hg;subst hP hw hK;obtain⟨f0,f1,f2,f3,f4,f5⟩:=hf it (by simp)
  have W:=Walks.range (prog:=X.prog) (w:=X.w) (I.ok.hd hc) it lo 1 n;refine W.item i s _ _ hg st λv h' tk hv st' kk=>?_
  obtain⟨t,rfl⟩:=hv;have I1:Inv X pins σ H { s with heap:=h',toks:=tk }:=I.turned (λb o hb e=>kk b o (by simpa using hb) e) f0 f1 f3 f4 f5
  refine⟨_,rfl,xI (s:={ s with heap:=h',toks:=tk }) (n:="range_iterator") st' rfl rfl (by decide) ⟨.int (lo+i),H,I1,⟨t,?_⟩,⟨rfl,rfl⟩,st',λb hb=>(hf b hb).1⟩⟩
  rw[Int.mul_one]
 done:=by
  intro X hP hw hK hc i pins s σ H E I hf st hg;subst hP hw hK;obtain⟨f0,f1,f2,f3,f4,f5⟩:=hf it (by simp)
  exact wpAny_pyNext_range_end (I.ok.hd hc) st (by have:n<=i:=hg;lia) λh' eb=>⟨rfl,I.turned (t':=s.toks) (λb o hb e=>eb b o hb e) f0 f1 f3 f4 f5⟩
 self:=λ_ _ _ _ _ st h=>wpAny_pyIter_rangeiter st h
section
variable{X:Cx}{tg:Expr}
def vQ{pins:List (Addr×Obj)}{σ:St}{H:Hp}{s:Shared}{R:It->Hp->Prop}{E:Value->Shared->Prop}{lo hi:Int}{t u v:Tok}{tk:Nat}(I:Inv X pins σ H s)(h1:-(2 ^ 62)<=lo)(h2:lo<2 ^ 62)(h3:-(2 ^ 62)<=hi)(h4:hi<2 ^ 62)
  (q:R (Itr lo (hi-lo).toNat) H):wpAny (model X.prog X.w) X.A (pyIter (.ref s.heap.objs.size)) (PIE X pins σ tg R) E { s with heap:=s.heap.push { cls:=.type "range",data:=.fields #[.int lo t,.int hi u,.int 1 v] },toks:=tk }:=by
 refine wpAny_pyIter_range (IsRange.new ..) (small_one h1 h2 h3 h4) ?_
 have I1:Inv X pins σ H { s with heap:=s.heap.push { cls:=.type "range",data:=.fields #[.int lo t,.int hi u,.int 1 v] },toks:=tk }:=I.kept λb o e=>AA3 _ e
 refine⟨(s.heap.push { cls:=.type "range",data:=.fields #[.int lo t,.int hi u,.int 1 v] }).objs.size,[(s.heap.push { cls:=.type "range",data:=.fields #[.int lo t,.int hi u,.int 1 v] }).objs.size],_,_,H,rfl,
  I1.kept (t':=tk) λb o e=>AA3 _ e,wZ _ lo (hi-lo).toNat,?_,λb hb=>?_,q⟩
 ·have e1:lo+((0:Nat):Int)*1=lo:=by simp
  have e2:(((hi-lo).toNat:Nat):Int)-((0:Nat):Int)=Builtin.Range.rangeSize lo hi 1:=by rw[rangeSize_one];split<;>lia
  show IsRangeIter _ _ (lo+((0:Nat):Int)*1) ((((hi-lo).toNat:Nat):Int)-((0:Nat):Int)) 1;rw[e1,e2];exact AAA _ rfl
 ·have e:b=(s.heap.push { cls:=.type "range",data:=.fields #[.int lo t,.int hi u,.int 1 v] }).objs.size:=by simpa using hb
  subst e;exact I1.fpOk (AA8 _) (I1.hok.fresh (AA8 _))
def iRng1(ta:TA):TI:=λσ H R=>ta σ H λvs H1=>∃j:Int,vs=[.int j]/\-(2 ^ 62)<=j/\j<2 ^ 62/\R (Itr 0 j.toNat) H1
def iRng2(ta:TA):TI:=λσ H R=>ta σ H λvs H1=>∃i j:Int,vs=[.int i,.int j]/\(-(2 ^ 62)<=i/\i<2 ^ 62/\-(2 ^ 62)<=j/\j<2 ^ 62)/\R (Itr i (j-i).toNat) H1
def ze{a:Expr}{ta:TA}{p pos:Pos}(hg:Gl X "range")(hm:X.mg "range" = none)(ha:PA X [a] ta)(hs:starEach [a] X.env=[(false,eval a X.env)]:=by rfl):PI X tg (.Call (.Name "range" p) [a] [] pos) (iRng1 ta):=by
 intro pins s σ H R I h;refine Call_ (ki I hg hm boot_range (ACu (thn (ha pos pins s σ H _ I h) λus s1 ⟨vs,H1,I1,r1,q1⟩=>?_) hs rfl))
 obtain⟨j,e,q1,q2,q⟩:=q1;subst e;cases r1 with
 | cons r rr =>
  cases rr
  obtain⟨t,rfl⟩:=r;exact call_range_1 (vQ I1 (by lia) (by lia) q1 q2 (by simpa using q))
def zd(hg:Gl X "range")(hm:X.mg "range" = none)(ha:PA X [a,b] ta)(hs:starEach [a,b] X.env=[(false,eval a X.env),(false,eval b X.env)]:=by rfl)(hs2:starEach [b] X.env=[(false,eval b X.env)]:=by rfl) :
  PI X tg (.Call (.Name "range" p) [a,b] [] pos) (iRng2 ta):=by
 intro pins s σ H R I h;refine Call_ (ki I hg hm boot_range (ACu (thn (ha pos pins s σ H _ I h) λus s1 ⟨vs,H1,I1,r1,q1⟩=>?_) (by rw[hs,hs2]) (by rw[hs2];rfl)))
 obtain⟨i,j,e,⟨q1,q2,q3,q4⟩,q⟩:=q1;subst e;cases r1 with
 | cons r rr =>
  cases rr with
  | cons r' rr =>
   cases rr
   obtain⟨t,rfl⟩:=r;obtain⟨t',rfl⟩:=r';exact call_range_2 (vQ I1 q1 q2 q3 q4 q)
def tFor(wi:TI)(g:TG)(tb:TS):TS:=λD σ H=>wi σ H λJ H1=>∃W:Nat->Nat->St->Hp->Prop,(∃m,W 0 m σ H1)/\∀i m σ H,W i m σ H ->
 (J.stop i H/\D.nx σ H)\/(J.go i H/\∃N:St->Hp->Prop,(∀σ' H',N σ' H'->∃m',m' < m/\W (i+1) m' σ' H')/\∀x H',J.yld i H x H'->g x σ H' λσ2 H2=>tb { D with nx:=N,ct:=N,bk:=D.nx } σ2 H2)
def jk(fp:List Addr)(h:Heap):List (Addr×Obj):=fp.filterMap λb=>(h.get? b).map λo=>(b,o)
def ga(hb:b∈fp)(e:h.get? b=some o):(b,o)∈jk fp h:=ABe.mpr ⟨b,hb,by rw[e];rfl⟩
def rj(hp:p∈jk fp h):p.1∈fp/\h.get? p.1=some p.2:=by
 obtain⟨b,hb,e⟩:=ABe.mp hp;cases q:h.get? b with
 | none=>rw[q]at e;cases e
 | some o =>
  rw[q]at e;have e':(b,o)=p:=AAM e;subst e';exact⟨hb,q⟩
def Inv.pinned(I:Inv X pins σ H s)(hf:∀b∈fp,xY X pins H b)(ho:∀b∈fp,∃o,s.heap.get? b=some o/\∀v,o.data≠.cell v):Inv X (pins++jk fp s.heap) σ H s :=
 I.pins_of λp hp=>(AAT.mp hp).elim (λz=>I.pin p (AAI _ z)) λz=>by
  obtain⟨hb,e⟩:=rj z;obtain⟨f0,f1,f2,_⟩:=hf p.1 hb;obtain⟨o,e',d⟩:=ho p.1 hb;rw[e]at e';cases e';exact⟨e,f0,f1,f2,d⟩
def Inv.unpinned(I:Inv X (pins++pl) σ H s):Inv X pins σ H s:=I.pins_of λp hp=>I.pin p (AAI _ (AAc _ hp))
def Hr(hp:PassesOwn (model X.prog X.w) X.A X.env X.xe)(hc:X.calm=true)(hi:PI X tg iter wi)(hg:PG X tg g)(hb:PSs X body tb)
  (hs:∀x,foldedSetIterable iter X.env x=pure x:=by intro _;rfl):PS X (.For tg iter body [] pos) (tFor wi g tb):=by
 intro pins s σ H D I h;refine wpAny_For (thn (hi pins s σ H _ I h) λv s1 h1=>thn h1 λitv s2 h2=>?_) hs
 obtain⟨it,fp,tn,J,H2,e,I2,T,st2,f2,W,⟨m0,w0⟩,turn⟩:=h2;subst e
 -- what stays true of the iterator's objects through the loop
 have stat:∀{H':Hp},(∀b∈fp,H' b=none)->∀b∈fp,xY X pins H' b:=λhn b hb=>⟨hn b hb,(f2 b hb).2⟩
 refine codeAny_forLoop_any (λn s'=>∃i σ' H',Inv X pins σ' H' s'/\tn i s'.heap/\(∀b∈fp,H' b=none)/\W i n σ' H') ?_ m0 ⟨0,σ,H2,I2,st2,λb hb=>(f2 b hb).1,w0⟩
 rintro n s3 ⟨i,σ3,H3,I3,st3,fr3,w3⟩;rcases turn i n σ3 H3 w3 with⟨stop,qn⟩|⟨go,N,hN,step⟩
 ·refine ACV hp (thn (T.done X rfl rfl rfl hc i pins s3 σ3 H3 X.xe I3 (stat fr3) st3 stop) λr s4 ⟨hr,I4⟩=>?_)
  subst hr;exact AEF ⟨σ3,H3,I4,qn⟩
 ·refine ACV hp (thn (T.item X rfl rfl rfl hc i pins s3 σ3 H3 X.xe I3 (stat fr3) st3 go) λr s4 ⟨u,hr,h4⟩=>?_)
  subst hr;refine ACV hp (thn h4 λ_ s5 ⟨x,H5,I5,r5,y5,st5,fr5⟩=>?_)
  have I5':=I5.pinned (stat fr5) (T.obj _ _ st5);refine ACV hp (thn (hg _ s5 σ3 H5 x u _ I5' r5 (step x H5 y5)) λ_ s6 ⟨σ6,H6,I6,q6⟩=>?_)
  refine ACV hp (thn (hb _ s6 σ6 H6 _ I6 q6) λf s7 q7=>?_)
  have again:∀{σ7:St}{H7:Hp},Inv X (pins++jk fp s5.heap) σ7 H7 s7->N σ7 H7->∃m,m<n/\∃i σ' H',Inv X pins σ' H' s7/\tn i s7.heap/\(∀b∈fp,H' b=none)/\W i m σ' H':=λ{σ7 H7} I7 n7=>by
   obtain⟨m',hm,w7⟩:=hN σ7 H7 n7;refine⟨m',hm,i+1,σ7,H7,I7.unpinned,T.keep _ _ _ st5 λb hb o e=>(I7.pin (b,o) (AAI _ (AAI _ (ga hb e)))).1,λb hb=>?_,w7⟩
   obtain⟨o,e,d⟩:=T.obj _ _ st5 b hb;exact(I7.pin (b,o) (AAI _ (AAI _ (ga hb e)))).2.1
  cases f with
  | next=>obtain⟨σ7,H7,I7,n7⟩:=q7;exact again I7 n7
  | cont=>obtain⟨σ7,H7,I7,n7⟩:=q7;exact again I7 n7
  | brk=>obtain⟨σ7,H7,I7,q7⟩:=q7;exact⟨σ7,H7,I7.unpinned,q7⟩
  | ret v=>obtain⟨x7,σ7,H7,I7,r7,q7⟩:=q7;exact⟨x7,σ7,H7,I7.unpinned,r7,q7⟩
end
abbrev R2:=V->V->Hp->VK->Prop
def OpR(X:Cx)(f:Value->Value->Sem Value)(r:R2):Prop :=
 ∀(pins:List (Addr×Obj)) (s:Shared) (σ:St) (H:Hp) (x y:V) (v u:Value) (Q:VK),Inv X pins σ H s->aU x v->aU y u->r x y H Q ->
  wpAny (model X.prog X.w) X.A (f v u) (EP X pins σ Q) X.xe s
def UnR(X:Cx)(f:Value->Sem Value)(r:V->Hp->VK->Prop):Prop :=
 ∀(pins:List (Addr×Obj)) (s:Shared) (σ:St) (H:Hp) (x:V) (v:Value) (Q:VK),Inv X pins σ H s->aU x v->r x H Q ->
  wpAny (model X.prog X.w) X.A (f v) (EP X pins σ Q) X.xe s
def iI(X:Cx)(f:Value)(r:List V->Hp->VK->Prop):Prop :=
 ∀(pins:List (Addr×Obj)) (s:Shared) (σ:St) (H:Hp) (xs:List V) (us:List Value) (Q:VK),Inv X pins σ H s->aw xs us->r xs H Q ->
  wpAny (model X.prog X.w) X.A (call f us) (EP X pins σ Q) X.xe s
def tOp(r:R2)(ta tb:TE):TE:=λσ H Q=>ta σ H λx H1=>tb σ H1 λy H2=>r x y H2 Q
def tUn(r:V->Hp->VK->Prop)(ta:TE):TE:=λσ H Q=>ta σ H λx H1=>r x H1 Q
def rI(C:Int->Int->Prop)(g:Int->Int->V):R2:=λx y H Q=>∃i j,x=.int i/\y=.int j/\C i j/\Q (g i j) H
def rI0(g:Int->Int->V):R2:=λx y H Q=>∃i j,x=.int i/\y=.int j/\Q (g i j) H
def rU(g:Int->V):V->Hp->VK->Prop:=λx H Q=>∃i,x=.int i/\Q (g i) H
section
variable{X:Cx}{a b c:Expr}{ta tb tc:TE}{pos:Pos}
def binT(ha:PE X a ta)(hb:PE X b tb){pins:List (Addr×Obj)}{s:Shared}{σ:St}{H:Hp}{R:V->V->Hp->Prop}(I:Inv X pins σ H s)
  (h:ta σ H λx H1=>tb σ H1 λy H2=>R x y H2) {Q:Value->Shared->Prop}{f:Value->Value->Sem Value}
  (hf:∀v u s2 x y H2,Inv X pins σ H2 s2->aU x v->aU y u->R x y H2->wpAny (model X.prog X.w) X.A (f v u) Q X.xe s2) :
  wpAny (model X.prog X.w) X.A (eval a X.env) (λv s₁=>wpAny (model X.prog X.w) X.A (eval b X.env) (λu s₂=>wpAny (model X.prog X.w) X.A (f v u) Q X.xe s₂) X.xe s₁) X.xe s:=by
 refine thn (ha pins s σ H _ I h) λv s1 ⟨x,H1,I1,r1,q1⟩=>?_
 refine thn (hb pins s1 σ H1 _ I1 q1) λu s2 ⟨y,H2,I2,r2,q2⟩=>?_
 exact hf v u s2 x y H2 I2 r1 r2 q2
def pe_op{op:Operator}{r:R2}(ho:OpR X (binaryOp op) r)(ha:PE X a ta)(hb:PE X b tb):PE X (.BinOp a op b pos) (tOp r ta tb):=by
 intro pins s σ H Q I h;exact wpAny_BinOp (binT ha hb I h λv u s2 x y H2 I2 rx ry q=>ho pins s2 σ H2 x y v u Q I2 rx ry q)
def pe_un(ho:UnR X (unaryOp op) r)(ha:PE X a ta):PE X (.UnaryOp op a pos) (tUn r ta):=by
 intro pins s σ H Q I h;exact UnaryOp_ (thn (ha pins s σ H _ I h) λv s1 ⟨x,H1,I1,r1,q1⟩=>ho pins s1 σ H1 x v Q I1 r1 q1)
def opI{f:Value->Value->Sem Value}{C:Int->Int->Prop}{g:Int->Int->Int}
  (rule:∀(i j:Int) (t u:Tok) (s:Shared) (Q:Value->Shared->Prop) (E:Value->Shared->Prop),C i j->Q (.int (g i j) s.toks) { s with toks:=s.toks+1 }->wpAny (model X.prog X.w) X.A (f (.int i t) (.int j u)) Q E s) :
  OpR X f (rI C λi j=>.int (g i j)):=by
 intro pins s σ H x y v u Q I rx ry h;obtain⟨i,j,rfl,rfl,hc,q⟩:=h;obtain⟨t,rfl⟩:=rx;obtain⟨t',rfl⟩:=ry;exact rule i j t t' s _ _ hc ⟨.int (g i j),H,I.tok _,⟨_,rfl⟩,q⟩
def opI0{f:Value->Value->Sem Value}{g:Int->Int->Int}
  (rule:∀(i j:Int) (t u:Tok) (s:Shared) (Q:Value->Shared->Prop) (E:Value->Shared->Prop),Q (.int (g i j) s.toks) { s with toks:=s.toks+1 }->wpAny (model X.prog X.w) X.A (f (.int i t) (.int j u)) Q E s) :
  OpR X f (rI0 λi j=>.int (g i j)):=by
 intro pins s σ H x y v u Q I rx ry h;obtain⟨i,j,rfl,rfl,q⟩:=h;obtain⟨t,rfl⟩:=rx;obtain⟨t',rfl⟩:=ry;exact rule i j t t' s _ _ ⟨.int (g i j),H,I.tok _,⟨_,rfl⟩,q⟩
def opB0{f:Value->Value->Sem Value}{g:Int->Int->Bool}
  (rule:∀(i j:Int) (t u:Tok) (s:Shared) (Q:Value->Shared->Prop) (E:Value->Shared->Prop),Q (.bool (g i j)) s->wpAny (model X.prog X.w) X.A (f (.int i t) (.int j u)) Q E s) :
  OpR X f (rI0 λi j=>.bl (g i j)):=by
 intro pins s σ H x y v u Q I rx ry h;obtain⟨i,j,rfl,rfl,q⟩:=h;obtain⟨t,rfl⟩:=rx;obtain⟨t',rfl⟩:=ry;exact rule i j t t' s _ _ ⟨.bl (g i j),H,I,rfl,q⟩
def CPow(i j:Int):Prop:=0<=j/\j<=1000000/\i.natAbs<2 ^ 64
def CMul(i j:Int):Prop:=(-(2 ^ 64)<i/\i<2 ^ 64)\/(-(2 ^ 64)<j/\j<2 ^ 64)
def CMul.ok(h:CMul i j):IntMulOk i j:=by
 rcases h with⟨h1,h2⟩|⟨h1,h2⟩
 ·exact .of_left (intBits_le_64 h1 h2)
 ·exact .of_right (intBits_le_64 h1 h2)
def HX:OpR X (binaryOp .Add) (rI0 λi j=>.int (i+j)):=opI0 λ_ _ _ _ _ _ _ q=>add_int q
def HN:OpR X (binaryOp .Sub) (rI0 λi j=>.int (i-j)):=opI0 λ_ _ _ _ _ _ _ q=>sub_int q
def HR:OpR X (binaryOp .Mult) (rI CMul λi j=>.int (i*j)):=opI λ_ _ _ _ _ _ _ hc q=>mul_int q hc.ok
def HU:OpR X (binaryOp .Mod) (rI (λ_ j=>0<j) λi j=>.int (i % j)):=opI λi j _ _ _ _ _ hc q=>by
 have h1:(0:Int)<j:=hc;exact mod_int' (by lia) (by rw[Int.fmod_eq_emod_of_nonneg i (by lia)];exact q)
def HQ:OpR X (binaryOp .Pow) (rI CPow λi j=>.int (i ^ j.toNat)):=opI λ_ _ _ _ _ _ _ hc q=>pow_int_small hc.1 hc.2.1 hc.2.2 q
def HP:OpR X (binaryOp .LShift) (rI CPow λi j=>.int (i*2 ^ j.toNat)):=opI λ_ _ _ _ _ _ _ hc q=>lshift_int_small hc.1 hc.2.1 hc.2.2 q
def unI{f:Value->Sem Value}{g:Int->Int}
  (rule:∀(i:Int) (t:Tok) (s:Shared) (Q:Value->Shared->Prop) (E:Value->Shared->Prop),Q (.int (g i) s.toks) { s with toks:=s.toks+1 }->wpAny (model X.prog X.w) X.A (f (.int i t)) Q E s) :
  UnR X f (rU λi=>.int (g i)):=by
 intro pins s σ H x v Q I rx h;obtain⟨i,rfl,q⟩:=h;obtain⟨t,rfl⟩:=rx;exact rule i t s _ _ ⟨.int (g i),H,I.tok _,⟨_,rfl⟩,q⟩
def GN:UnR X (unaryOp .USub) (rU λi=>.int (-i)):=unI λ_ _ _ _ _ q=>neg_int q
end
section
variable{X:Cx}{a b c:Expr}{ta tb tc:TE}{pos:Pos}
def op_lt:OpR X (compareOp .Lt) (rI0 λi j=>.bl (decide (i<j))):=opB0 λ_ _ _ _ _ _ _ q=>lt_int q
def op_le:OpR X (compareOp .LtE) (rI0 λi j=>.bl (decide (i<=j))):=opB0 λ_ _ _ _ _ _ _ q=>le_int q
def op_gt:OpR X (compareOp .Gt) (rI0 λi j=>.bl (decide (j<i))):=opB0 λ_ _ _ _ _ _ _ q=>gt_int q
def OpR.or(h:OpR X f r)(h':OpR X f r'):OpR X f (λx y H Q=>r x y H Q\/r' x y H Q):=by
 intro pins s σ H x y v u Q I rx ry q;rcases q with q | q
 ·exact h pins s σ H x y v u Q I rx ry q
 ·exact h' pins s σ H x y v u Q I rx ry q
def Fe(ho:OpR X (compareOp op) r)(ha:PE X a ta)(hb:PE X b tb)(hm:behindInMarks op b=false):PE X (.Compare a [op] [b] pos) (tOp r ta tb):=by
 intro pins s σ H Q I h;exact wpAny_Compare1 (binT ha hb I h λv u s2 x y H2 I2 rx ry q=>ho pins s2 σ H2 x y v u Q I2 rx ry q) hm
def GU(t:TE):TT:=λσ H Q=>t σ H λx H'=>∃k,x=.bl k/\Q k H'
def EW(ho:OpR X (compareOp op) r)(ha:PE X a ta)(hb:PE X b tb)(hm:behindInMarks op b=false):PT X (.Compare a [op] [b] pos) (GU (tOp r ta tb)):=by
 intro pins s σ H Q I h;refine wpAny_isTrue_Compare1 (thn (ha pins s σ H _ I h) λv s1 ⟨x,H1,I1,r1,q1⟩=>thn (hb pins s1 σ H1 _ I1 q1) λu s2 ⟨y,H2,I2,r2,q2⟩ =>
  thn (ho pins s2 σ H2 x y v u _ I2 r1 r2 q2) λc s3 ⟨z,H3,I3,r3,k,e,q3⟩=>?_) hm
 subst e;cases r3
 exact ACC ⟨H3,I3,q3⟩
def Du(r r':R2)(ta tb tc:TE):TE:=λσ H Q=>ta σ H λx H1=>tb σ H1 λy H2=>r x y H2 λz H3=>∃k,z=.bl k /\
 (if k=true then tc σ H3 λw' H4=>r' y w' H4 Q else Q (.bl false) H3)
def BT(ho:OpR X (compareOp op) r)(ho':OpR X (compareOp op') r')(ha:PE X a ta)(hb:PE X b tb)(hc:PE X c tc)
  (hm:lastMarks [op,op'] [b,c]=false:=by with_unfolding_all rfl):PE X (.Compare a [op,op'] [b,c] pos) (Du r r' ta tb tc):=by
 intro pins s σ H Q I h;refine Compare_chain (thn (ha pins s σ H _ I h) λv s1 ⟨x,H1,I1,r1,q1⟩=>chain_link (thn (hb pins s1 σ H1 _ I1 q1) λu s2 ⟨y,H2,I2,r2,q2⟩ =>
  thn (ho pins s2 σ H2 x y v u _ I2 r1 r2 q2) λd s3 ⟨z,H3,I3,r3,k,e,q3⟩=>?_)) hm
 subst e;cases r3
 refine ACC ?_
 cases k with
 | false=>exact ite_ff ⟨.bl false,H3,I3,rfl,q3⟩
 | true=>exact ite_tt (chain_last (thn (hc pins s3 σ H3 _ I3 q3) λw' s4 ⟨z',H4,I4,r4,q4⟩=>ho' pins s4 σ H4 y z' u w' Q I4 r2 r4 q4))
def nW:(sizeLine:Nat)<2 ^ 63:=by rw[ABr];decide
def xm:OpR X (binaryOp .Add) (λx y H Q=>∃i j,x=.str i/\y=.str j/\i.length+j.length<=sizeLine/\Q (.str (i++j)) H):=by
 intro pins s σ H x y v u Q I rx ry h;obtain⟨i,j,rfl,rfl,hz,q⟩:=h;obtain⟨t,rfl⟩:=rx;obtain⟨t',rfl⟩:=ry;exact add_str (λt' tk=>⟨.str (i++j),H,I.tok _,⟨_,rfl⟩,q⟩) hz
def EB(r:aw [x] us):∃u,us=[u]/\aU x u:=by
 cases r with
 | cons r1 r2=>cases r2;exact⟨_,rfl,r1⟩
end
structure ObjM(h:Heap)(x dx C:Addr)(mA:Str->Option Value):Prop where
 obj:h.get? x=some (PySem.W.instObj C dx)
 ns:h.Ns1 dx mA
 ne:dx≠x
structure Cls(K:AA5)(C:Addr):Prop where
 pg:PySem.W.plainGet K C Str.empty=true
 hd:PySem.W.hasDictIn K C=true
 po:PySem.W.plainOver K C=true
 sa:ADw K (.ref C) "__setattr__" = some (some (.builtin "object.__setattr__"))
structure Con(K:AA5)(C:Addr)(f:Str)(v:V)(u:Value):Prop where
 at_:ADw K (.ref C) f=some (some u)
 rel:aU v u
 get:PySem.W.specialIn K u "__get__" = some none
 cp:PySem.W.copiedNames.contains f=false
structure Meth(K:AA5)(C:Addr)(m:Str)(f:Addr):Prop where
 at_:ADw K (.ref C) m=some (some (.ref f))
 fn:PySem.W.isFn K (.ref f)=true
 kp:ACS K (.ref f)=true
section
variable{X:Cx}{pins:List (Addr×Obj)}{σ:St}{H:Hp}{s:Shared}{A:Around}{E:Value->Shared->Prop}{Q:Value->Shared->Prop}{c:Value}{b:Bool}
inductive TyOf(K:AA5)(H:Hp):V->Value->Prop where
 | non:TyOf K H .non (.type "NoneType")
 | bl (x:Bool):TyOf K H (.bl x) (.type "bool")
 | int (i:Int):TyOf K H (.int i) (.type "int")
 | str (x:Str):TyOf K H (.str x) (.type "str")
 | flt (x:UInt64):TyOf K H (.flt x) (.type "float")
 | lst {a:Addr}{xs:List V} (e:H a=some (.lst xs)):TyOf K H (.ref a) (.type "list")
 | frz {a:Addr}{o:Obj}{xs:List V} (e:H a=some (.frz o (.lst xs))):TyOf K H (.ref a) (.type "list")
 | tup {a:Addr}{xs:List V} (e:H a=some (.tup xs)):TyOf K H (.ref a) (.type "tuple")
 | dK {a:Addr}{kvs:List (Key×V)} (e:H a=some (.dK kvs)):TyOf K H (.ref a) (.type "dict")
 | dT {a:Addr}{kvs:List (List Key×V)} (e:H a=some (.dT kvs)):TyOf K H (.ref a) (.type "dict")
 | ins {a C dx:Addr}{fs:List (Str×V)} (e:H a=some (.ins C dx fs)) (cl:Cls K C) (ha:ADw K (.ref C) "__class__" = some (some (.builtin "object.__class__")))
   (hn:PySem.W.specialIn K (.builtin "object.__class__") "__get__" = some (some (.builtin "getset_descriptor.__get__"))) (htk:PySem.W.takesIn K (.builtin "object.__class__")=some true)
   (hm:PySem.W.mroIn K C (.type "object")=some true):TyOf K H (.ref a) (.ref C)
end
structure Room(k:Nat)(A:Around):Prop where
 hd:A.handled=none
 dp:A.depth+3*k+5<recursionLimit
 un:A.units+16*k+200<cLine
def Room.mono(r:Room k A)(h:j<=k):Room j A:=⟨r.hd,by have:=r.dp;lia,by have:=r.un;lia⟩
def Room.deeper(r:Room (k+1) A)(env:Env):Room k (A.deeper env) :=
 ⟨r.hd,by have:=r.dp;show A.depth+1+3*k+5<_;lia,by have:=r.un;show A.units+3+16*k+200<_;lia⟩
def Room.in1(r:Room (k+1) A):Room k A.in1 :=
 ⟨r.hd,by have:=r.dp;show A.depth+3*k+5<_;lia,by have:=r.un;show A.units+1+16*k+200<_;lia⟩
def Room.depth(r:Room k A):A.depth<recursionLimit:=by have:=r.dp;lia
def tNil:TA:=λ_ H Q=>Q [] H
def tCons(ta:TE)(tr:TA):TA:=λσ H Q=>ta σ H λx H1=>tr σ H1 λxs H2=>Q (x::xs) H2
section
variable{X:Cx}{e:Expr}{es:List Expr}{te:TE}{t:TA}{pos:Pos}
def HM:PA X [] tNil:=λ_ _ _ _ H Q I h=>ADl ⟨[],H,I,.nil,h⟩
def Fg(ha:PE X e te)(hr:PA X es t)(hs:starEach (e::es) X.env=(false,eval e X.env)::starEach es X.env:=by rfl):PA X (e::es) (tCons te t):=by
 intro pos pins s σ H Q I h;rw[hs];show wpAny _ _ (spliced ((false,eval e X.env)::backTo pos (starEach es X.env))) _ _ s;refine ADV (thn (ha pins s σ H _ I h) λu s1 ⟨x,H1,I1,r1,q1⟩=>?_)
 exact thn (hr pos pins s1 σ H1 _ I1 q1) λus s2 ⟨xs,H2,I2,r2,q2⟩=>⟨x::xs,H2,I2,.cons r1 r2,q2⟩
def tTup(t:TA):TE:=λσ H Q=>t σ H λxs H1=>xs.length<=sizeLine/\∀p,H1 p=none->Q (.ref p) (upd H1 p (.tup xs))
def tLst(t:TA):TE:=λσ H Q=>t σ H λxs H1=>xs.length<=sizeLine/\∀p,H1 p=none->Q (.ref p) (upd H1 p (.lst xs))
def Hw{x1}(h:PA X es t):PE X (.Tuple es x1 pos) (tTup t):=by
 intro pins s σ H Q I hq;refine wpAny_Tuple_spliced (thn (h pos pins s σ H _ I hq) λus s1 ⟨xs,H1,I1,r,z,q⟩=>⟨by rw[<-r.length];exact z,?_⟩)
 have hf:H1 s1.heap.objs.size=none:=I1.hok.fresh (AA8 _);refine⟨.ref s1.heap.objs.size,upd H1 s1.heap.objs.size (.tup xs),I1.laid (t':=s1.toks) (λb u e=>AA3 _ e) (AA8 _) ?_,rfl,q _ hf⟩
 exact⟨z,us,r,⟨_,AAA _ rfl,rfl,⟨_,rfl⟩,rfl⟩⟩
def HH(h:PA X es t):PE X (.List es pos) (tLst t):=by
 intro pins s σ H Q I hq;refine wpAny_List_spliced (thn (h pos pins s σ H _ I hq) λus s1 ⟨xs,H1,I1,r,z,q⟩=>⟨by rw[<-r.length];exact z,?_⟩)
 have hf:H1 s1.heap.objs.size=none:=I1.hok.fresh (AA8 _);refine⟨.ref s1.heap.objs.size,upd H1 s1.heap.objs.size (.lst xs),I1.laid (t':=s1.toks) (λb u e=>AA3 _ e) (AA8 _) ?_,rfl,q _ hf⟩
 exact⟨z,us,0,r,AAA _ rfl⟩
end
abbrev Sp:=List V->Hp->VK->XK->Prop
abbrev CXT:=List Env->Hp->Shared->XK->Value->Shared->Prop
structure Env0(P:Program)(w:World)(K:AA5)(mg:Str->Option Value)(base:Heap)(A:Around)(outer:List Env)(s:Shared)(H:Hp):Prop where
 frames:A.frames=some outer
 mod:Mod K mg base
 bs:∀b o,base.get? b=some o->s.heap.get? b=some o/\H b=none
 bsz:base.objs.size<=s.heap.objs.size
 funs:s.heap.FunFrames base outer
 frf:∀b∈frs outer,H b=none
 hok:HOk P w H s.heap
 bare:AllBare s.gens
inductive CE(outer:List Env)(P:Program)(w:World)(H:Hp)(s:Shared)(Q:VK)(u:Value)(s':Shared):Prop
 | mk (v:_) (H':_) (f0:s'.os=s.os) (f1:AllBare s'.gens) (f2:Un (frs outer) [] H H' s.heap s'.heap) (f3:HOk P w H' s'.heap) (f4:aU v u) (f5:Q v H')
def CR(CX:CXT)(outer:List Env)(P:Program)(w:World)(H:Hp)(s:Shared)(Q:VK)(E:XK)(r:Result)(s':Shared):Prop :=
 match r with
 | .ok (.ret u)=>CE outer P w H s Q u s'
 | .ok _=>False
 | .error e=>CX outer H s E e s'
structure FnOk(P:Program)(w:World)(K:AA5)(mg:Str->Option Value)(base:Heap)(CX:CXT)(k:Nat)(f:Addr)(fd:FuncData)(ps:List Str)(sp:Sp):Prop where
 len:∀vs H Q E,sp vs H Q E->vs.length=ps.length
 run:∀(A:Around) (outer:List Env) (s:Shared) (H:Hp) (args:Args) (us:List Value) (vs:List V) (Q:VK) (E:XK),Room k A->Env0 P w K mg base A outer s H->BindsTo s fd args (ps.zip us)->aw vs us->sp vs H Q E ->
  codeAny (model P w) A (.call (.ref f) args) (CR CX outer P w H s Q E) s
def Env0.in1{P:Program}{w:World}{K:AA5}{mg:Str->Option Value}{base:Heap}{A:Around}{outer:List Env}{s:Shared}{H:Hp}(e:Env0 P w K mg base A outer s H) :
  Env0 P w K mg base A.in1 outer s H:=⟨e.frames,e.mod,e.bs,e.bsz,e.funs,e.frf,e.hok,e.bare⟩
section
variable{X:Cx}{pins:List (Addr×Obj)}{σ:St}{H:Hp}{s s':Shared}
def Inv.env0(I:Inv X pins σ H s):Env0 X.prog X.w X.K X.mg X.base X.A X.stack s H :=
 ⟨I.ok.frames,I.ok.mod,I.bs,AAq I.ok.bsz I.sz,I.stack,I.stkFree,I.hok,I.bare⟩
def Inv.after(I:Inv X pins σ H s)(h:CE X.stack X.prog X.w H s Q u s'):EP X pins σ Q u s':=by
 obtain⟨v,H',os,bare,un,hok,r,q⟩:=h;obtain⟨hh,g,d,t,os'⟩:=s';obtain rfl:os'=s.os:=os;exact⟨v,H',I.call (h':=hh) (g':=g) (d':=d) (t':=t) (ch:=[]) un hok bare (λb z=>absurd z (by simp)),r,q⟩
end
def GX(sp:Sp)(dvs:List V)(E:XK)(t:TA):TE:=λσ H Q=>t σ H λvs H1=>sp (vs++dvs) H1 Q E
def sM(K:AA5)(fd:FuncData)(ps:List Str)(ds:List Value):Prop :=
 ∀(s:Shared) (us:List Value),K.In s.heap->(us++ds).length=ps.length->BindsTo s fd ⟨us,[]⟩ (ps.zip (us++ds))
def sM.all{K:AA5}{fd:FuncData}{ps:List Str}(h:∀us:List Value,us.length=ps.length->bindArgs fd ⟨us,[]⟩=pure (ps.zip us)):sM K fd ps []:=λs us _ hl=>by
 rw[AB7]at hl ⊢;exact .of_eq (h us hl)
def Bc(CX:CXT)(X:Cx)(E:XK):Prop:=∀(pins:List (Addr×Obj)) (σ:St) (H:Hp) (s:Shared) (e:Value) (s':Shared),Inv X pins σ H s->CX X.stack H s E e s'->X.xe e s'
section
variable{X:Cx}{CX:CXT}{k:Nat}{f C:Addr}{fd:FuncData}{ps:List Str}{sp:Sp}{dvs:List V}{ds:List Value}{E:XK}{x m:Str}{p pos apos:Pos}{e o:Expr}{es:List Expr}{ta:TE}{t:TA}
def Hg(F:FnOk X.prog X.w X.K X.mg X.base CX k f fd ps sp)(hr:Room k X.A)(hb:sM X.K fd ps ds)(hd:aw dvs ds)(hx:Bc CX X E)
  (I:Inv X pins σ H s) (r:aw vs us) (h:sp (vs++dvs) H Q E):wpAny (model X.prog X.w) X.A (call (.ref f) us) (EP X pins σ Q) X.xe s:=by
 have r2:aw (vs++dvs) (us++ds):=r.append hd;have hl:(us++ds).length=ps.length:=by rw[<-r2.length];exact F.len _ _ _ _ h
 refine wpAny_call (ADP (F.run X.A X.stack s H ⟨us,[]⟩ (us++ds) (vs++dvs) Q E hr I.env0 (hb s us I.kIn hl) r2 h) λr s' hq=>?_)
 cases r with
 | error e=>exact hx pins σ H s e s' I hq
 | ok fl =>
  cases fl with
  | ret u=>exact I.after hq
  | next=>exact ACl hq
  | brk=>exact ACl hq
  | cont=>exact ACl hq
def Ff(F:FnOk X.prog X.w X.K X.mg X.base CX k f fd ps sp)(hr:Room k X.A)(hg:Gl X x)(hm:X.mg x=some (.ref f))(hk:ACS X.K (.ref f)=true)(hb:sM X.K fd ps ds)(hd:aw dvs ds)(hx:Bc CX X E)
  (ha:PA X (e::es) t) (hdb:(x==("__debug__":Str))=false:=by decide) (he:starEach (e::es) X.env=(false,eval e X.env)::starEach es X.env:=by rfl) (hpl:(backTo pos (starEach es X.env)).any (·.1)=false:=by rfl) :
  PE X (.Call (.Name x p) (e::es) [] pos) (GX sp dvs E t):=by
 intro pins s σ H Q I h;refine AC4 (FC I hg hm ?_ hdb);refine PySem.W.callWith_K (h₀:=X.base) I.ok.mod.kin hk (thn (ha pos pins s σ H _ I h) λus s1 ⟨vs,H1,I1,r,q⟩=>⟨I1.kIn,?_⟩) he hpl
 exact Hg F hr hb hd hx I1 r q
structure Mk(K:AA5)(C f:Addr):Prop where
 makes:PySem.W.makesIn K C=true
 init:ADw K (.ref C) "__init__" = some (some (.ref f))
 fn:PySem.W.isFn K (.ref f)=true
 kp:ACS K (.ref C)=true
end
section
variable{X:Cx}{CX:CXT}{k:Nat}{f C:Addr}{fd:FuncData}{ps ks:List Str}{sp:Sp}{E:XK}{x m:Str}{p pos apos kpos:Pos}{e o:Expr}{es:List Expr}{kws:List Keyword}{te ta:TE}{t tk:TA}{nm:Option Str}
structure KBinds(K:AA5)(fd:FuncData)(ps ks:List Str)(g:List Value->List Value->List Value)(gV:List V->List V->List V):Prop where
 to:∀(s:Shared) (us ws:List Value),K.In s.heap->(g us ws).length=ps.length->BindsTo s fd ⟨us,ks.zip ws⟩ (ps.zip (g us ws))
 rel:∀{vs:List V}{us:List Value}{zs:List V}{ws:List Value},aw vs us->aw zs ws->aw (gV vs zs) (g us ws)
variable{g:List Value->List Value->List Value}{gV:List V->List V->List V}
end
structure FnScope(N P:List Str)(sc:Scope):Prop where
 kind:sc.kind=.function
 co:sc.isCoroutine=false
 gen:sc.isGenerator=false
 nd:N.Nodup
 pre:N.take P.length=P
 par:∀x∈P,sc.names.lookup x=some .local\/sc.names.lookup x=some .cell
 nofree:∀y∈sc.names,y.2≠.free
def sE{kindOf:Str->Option NameKind}{x:Str}:∀{binds:List (Str×Value)}{m:Str->Option Value},(∀v,(x,v)∉binds)->bindL kindOf binds m x=m x
 | [],_,_=>rfl
 | (n,v)::r,m,h=>by
  unfold bindL;rw[sE λw hw=>h w (AA9 _ hw)]
  split
  ·have:x≠n:=by rintro rfl;exact h v AAG
   simp[this]
  ·rfl
def sG{kindOf:Str->Option NameKind}{x:Str}:∀{binds:List (Str×Value)}{m:Str->Option Value},(∀v,(x,v)∉binds)->bindC kindOf binds m x=m x
 | [],_,_=>rfl
 | (n,v)::r,m,h=>by
  unfold bindC;rw[sG λw hw=>h w (AA9 _ hw)]
  split
  ·rfl
  ·have:x≠n:=by rintro rfl;exact h v AAG
   simp[this]
def sF{kindOf:Str->Option NameKind}{x:Str}{v:Value}:∀{P:List Str}{vs:List Value}{i:Nat}{m:Str->Option Value},P.Nodup->P[i]?=some x->vs[i]?=some v->kindOf x=some .local ->
  bindL kindOf (P.zip vs) m x=some v
 | [],_,_,_,_,h,_,_=>by simp at h
 | _::_,[],_,_,_,_,h,_=>by simp at h
 | p::P,w::vs,0,m,nd,h1,h2,hk=>by
  simp at h1 h2;subst h1;subst h2;show bindL kindOf ((p,w)::P.zip vs) m p=_;unfold bindL;rw[sE λv hv=>(ABy.mp nd).1 (AEG hv).1,if_pos hk]
  simp
 | p::P,w::vs,i+1,m,nd,h1,h2,hk=>by
  show bindL kindOf ((p,w)::P.zip vs) m x=_;unfold bindL;exact sF (i:=i) (ABy.mp nd).2 (by simpa using h1) (by simpa using h2) hk
def sH{kindOf:Str->Option NameKind}{x:Str}{v:Value}:∀{P:List Str}{vs:List Value}{i:Nat}{m:Str->Option Value},P.Nodup->P[i]?=some x->vs[i]?=some v->kindOf x≠some .local ->
  bindC kindOf (P.zip vs) m x=some v
 | [],_,_,_,_,h,_,_=>by simp at h
 | _::_,[],_,_,_,_,h,_=>by simp at h
 | p::P,w::vs,0,m,nd,h1,h2,hk=>by
  simp at h1 h2;subst h1;subst h2;show bindC kindOf ((p,w)::P.zip vs) m p=_;unfold bindC;rw[sG λv hv=>(ABy.mp nd).1 (AEG hv).1,if_neg hk]
  simp
 | p::P,w::vs,i+1,m,nd,h1,h2,hk=>by
  show bindC kindOf ((p,w)::P.zip vs) m x=_;unfold bindC;exact sH (i:=i) (ABy.mp nd).2 (by simpa using h1) (by simpa using h2) hk
def start(N:List Str)(vs:List V):St:=vs.map some++ADx (N.length-vs.length) none
def sA(CX:CXT)(P:Program)(w:World)(K:AA5)(mg:Str->Option Value)(base:Heap)(N:List Str)(qual:Str)(scope:Scope)(f:Addr)(cd:Value)(A:Around)(outer:List Env)(s:Shared)(H:Hp)(E:XK):Cx where
 prog:=P
 w:=w
 K:=K
 mg:=mg
 base:=base
 A:=A.deeper (envOfC qual scope s.heap.objs.size f cd)
 N:=N
 s₀:=s
 H₀:=H
 env:=envOfC qual scope s.heap.objs.size f cd
 outer:=outer
 stack:=envOfC qual scope s.heap.objs.size f cd::outer
 ex:=[]
 calm:=true
 fn:=λ_=>true
 pn:=[]
 xe:=λe s'=>wpAny (model P w) (A.deeper (envOfC qual scope s.heap.objs.size f cd)) (leaving (envOfC qual scope s.heap.objs.size f cd) e) (λ_ s''=>CX outer H s E e s'') (λe' s''=>CX outer H s E e' s'') s'
def wJ{sc:Scope}{n:Nat}{x:Str}(h:sc.names.lookup x=some .cell):∃c,(cellsFrom n sc.names []).lookup x=some c:=by
 have q:=ADi sc.names n [] (.inl h);exact ADQ.mp q
def rS{CX:CXT}{P:Program}{w:World}{K:AA5}{mg:Str->Option Value}{base:Heap}{N ps:List Str}{qual:Str}{scope:Scope}{f:Addr}{cd:Value}{A:Around}{outer:List Env}{s s1:Shared}{H:Hp}{E:XK}{us:List Value}{vs:List V}
  (S:FnScope N ps scope) (hd:A.handled=none) (e0:Env0 P w K mg base A outer s H) (hl:vs.length=ps.length) (r:aw vs us)
  (x:InCallC s s.heap.objs.size (bindL (envOfC qual scope s.heap.objs.size f cd).kindOf (ps.zip us) λ_=>none) (cellsFrom (s.heap.objs.size+1) scope.names []) (bindC (envOfC qual scope s.heap.objs.size f cd).kindOf (ps.zip us) λ_=>none) s1) :
  Inv (sA CX P w K mg base N qual scope f cd A outer s H E) [] (start N vs) H s1:=by
 have hpl:ps.length<=N.length:=by have:=congrArg ABf S.pre;rw[AAv]at this;lia
 obtain⟨h1,tk,rfl,hk⟩:=x.done;have noA:∀b:Addr,b∉(sA CX P w K mg base N qual scope f cd A outer s H E).ex:=λb z=>absurd (show b∈([]:List Addr)from z) (by simp)
 refine⟨⟨e0.mod,S.kind,rfl,rfl,AA8 _,λy z c h1 h2=>?_,λy hy=>?_,λy c _ h=>?_,λ_=>hd,Around.frames_deeper e0.frames,.inr ⟨rfl,rfl⟩,λb z=>absurd z (noA b),e0.bs,e0.bsz,λb _ _=>noA b,λb z=>absurd z (noA b),e0.funs,e0.frf⟩,
  rfl,e0.bare,Un.kept hk,⟨_,x.toInCall.ns,λi y v h1 h2 h3=>?_⟩,λy c h=>⟨_,x.cell y c h⟩,e0.hok.fresh (AA8 _),λy c h=>?_,λp hp=>absurd (show p∈([]:List (Addr×Obj))from hp) (by simp),e0.hok.kept hk,?_⟩
 ·exact name_of_addr x.apart (ABU h1) (ABU h2)
 ·have hy:scope.names.lookup y=some .cell\/scope.names.lookup y=some .free:=hy
  rcases hy with hy | hy
  ·exact wJ hy
  ·exact absurd rfl (S.nofree _ (ABU hy))
 ·exact AE2 (x.above y c (ABU h))
 ·have hi:i<vs.length:=by
   unfold start at h2;by_cases hi:i<vs.length
   ·exact hi
   ·rw[AAh (by simpa using hi)]at h2
    rw[ACf]at h2;split at h2<;>cases h2
  have ha:vs[i]?=some v:=by
   unfold start at h2;rw[AAP (by simpa using hi),AAR]at h2
   cases e:vs[i]? with
   | none=>rw[e]at h2;cases h2
   | some a=>rw[e]at h2;cases h2;rfl
  obtain⟨u,hu,rv⟩:=r.get ha;have hp:ps[i]?=some y:=by
   rw[<-S.pre,ABc (by lia)];exact h1
  have ndP:ps.Nodup:=by rw[<-S.pre];exact S.nd.sublist (List.take_sublist _ _)
  refine⟨u,rv,?_⟩;rcases S.par y (AAi hp)with k | k
  ·exact .inl ⟨k,sF ndP hp hu k⟩
  ·obtain⟨c,e⟩:=wJ (n:=s.heap.objs.size+1) k
   refine .inr ⟨.inl k,c,e,?_⟩;have q:=x.cell y c e;rw[sH ndP hp hu (by show scope.names.lookup y≠_;rw[k];decide)]at q
   exact q
 ·exact e0.hok.fresh (AE2 (x.above y c (ABU h)))
 ·unfold start
  show _=N.length;rw[AAB,AA4,ACv];lia
def Jd{CX:CXT}{P:Program}{w:World}{K:AA5}{mg:Str->Option Value}{base:Heap}{k:Nat}{f:Addr}{name qual:Str}{params:Arguments}{body:List Stmt}{scope:Scope}{dV kV doc pm cdv ct oc:Value}{an od:Option Addr}
  {osl:Array (Option Value)}{N ps:List Str}{sp:Sp} (lk:K.lookup f=some ⟨oc,od,.func (ACd name qual params body scope dV kV doc pm an cdv ct),osl⟩) (hcd:AEQ K cdv qual=true) (S:FnScope N ps scope)
  (len:∀vs H Q E,sp vs H Q E->vs.length=ps.length)
  (hbody:∀(A:Around) (outer:List Env) (s:Shared) (H:Hp) (vs:List V) (Q:VK) (E:XK),Room k (A.deeper (envOfC qual scope s.heap.objs.size f cdv))->sp vs H Q E ->
   ∃t,PSs (sA CX P w K mg base N qual scope f cdv A outer s H E) body t/\t { nx:=λ_ H'=>Q .non H',rt:=Q } (start N vs) H) :
  FnOk P w K mg base CX (k+1) f (ACd name qual params body scope dV kV doc pm an cdv ct) ps sp:=by
 refine⟨len,λA outer s H args us vs Q E hr e0 hb r hsp=>?_⟩
 have hl:=len _ _ _ _ hsp;have KX:K.In s.heap:=e0.mod.kin.keeps λb o e=>(e0.bs b o e).1
 have lim:s.heap.NoLimit:=e0.mod.nolimit.keeps λb o e=>(e0.bs b o e).1
 have hkind:∀y∈ps.zip us,scope.names.lookup y.1=some .local\/(scope.names.lookup y.1=some .cell/\((cellsFrom (s.heap.objs.size+1) scope.names []).lookup y.1).isSome=true):=λ⟨n,v⟩ hy=>by
  rcases S.par n (AEG hy).1 with q | q
  ·exact .inl q
  ·exact .inr ⟨q,ADi _ _ _ (.inl q)⟩
 refine codeAny_call_function hr.depth (KX _ _ lk) rfl S.co S.gen rfl (PySem.W.codeRec_of KX hcd) (hb _ _ _ _ ?_);refine wpAny_newFunctionEnv_cells S.kind hkind λenv he s1 x=>?_
 subst he;refine⟨lim.keeps x.toInCall.keep,codeAny_func ?_⟩;obtain⟨t,ht,hq⟩:=hbody A outer s H vs Q E (hr.deeper _) hsp;have I:Inv (sA CX P w K mg base N qual scope f cdv A outer s H E) [] (start N vs) H s1:=rS S hr.hd e0 hl r x;refine ABF (ht [] s1 (start N vs) H _ I hq) (λfl s' hs=>?_) λe s' hs=>hs
 have fin:∀{σ':St}{H':Hp}{v:V}{u:Value},Inv (sA CX P w K mg base N qual scope f cdv A outer s H E) [] σ' H' s'->aU v u->Q v H'->CE outer P w H s Q u s' :=
  λ{σ' H' v u} J rv q=>⟨v,H',J.os,J.bare,J.base,J.hok,rv,q⟩
 cases fl with
 | ret u =>
  obtain⟨v,σ',H',J,rv,q⟩:=hs;exact fin J rv q
 | next =>
  obtain⟨σ',H',J,q⟩:=hs;exact fin (v:=V.non) (u:=AC3) J rfl q
 | brk =>
  obtain⟨_,_,_,q⟩:=hs;exact ACl q
 | cont =>
  obtain⟨_,_,_,q⟩:=hs;exact ACl q
section
variable{X:Cx}{x:Str}{p pos:Pos}{e:Expr}{es:List Expr}{t:TA}{id T:String}{r:List V->Hp->VK->Prop}
def tCB(r:List V->Hp->VK->Prop)(t:TA):TE:=λσ H Q=>t σ H λvs H1=>r vs H1 Q
theorem BU(hc:iI X (.builtin id) r)(hg:Gl X x)(hm:X.mg x=none)(hv:bootBuiltins x=some (.builtin id))(ha:PA X (e::es) t)(hn:x≠"__name__":=by decide)(hdb:(x==("__debug__":Str))=false:=by decide)
  (he:starEach (e::es) X.env=(false,eval e X.env)::starEach es X.env:=by rfl) (hpl:(backTo pos (starEach es X.env)).any (·.1)=false:=by rfl):PE X (.Call (.Name x p) (e::es) [] pos) (tCB r t):=by
 intro pins s σ H Q I h;refine AC4 (ki I hg hm hv ?_ hn hdb);exact PyProof.Rows.callWith_builtin1 (thn (ha pos pins s σ H _ I h) λus s1 ⟨vs,H1,I1,r1,q1⟩=>hc pins s1 σ H1 vs us Q I1 r1 q1) he hpl
def zg(hc:iI X (.type T) r)(hg:Gl X x)(hm:X.mg x=none)(hv:bootBuiltins x=some (.type T))(ha:PA X (e::es) t)(hn:x≠"__name__":=by decide)(hdb:(x==("__debug__":Str))=false:=by decide)
  (he:starEach (e::es) X.env=(false,eval e X.env)::starEach es X.env:=by rfl) (hpl:(backTo pos (starEach es X.env)).any (·.1)=false:=by rfl):PE X (.Call (.Name x p) (e::es) [] pos) (tCB r t):=by
 intro pins s σ H Q I h;refine AC4 (ki I hg hm hv ?_ hn hdb);exact ACu (thn (ha pos pins s σ H _ I h) λus s1 ⟨vs,H1,I1,r1,q1⟩=>hc pins s1 σ H1 vs us Q I1 r1 q1) he hpl
end
end L2
namespace HT
open PySem PyProof.Rows
def rcLt_int(A:Around)(s:Shared)(a:Int)(t:Tok)(c:Int)(u:Tok)(prog:Program)(w:World)(E:Value->Shared->Prop)(Q:Value->Shared->Prop)(h:Q (.bool (decide (a<c))) s) :
  wpAny (model prog w) A (richCompare .Lt (.int a t) (.int c u)) Q E s :=
 (PyProof.Rows.lt_int h:wpAny (model prog w) A (compareOp .Lt (.int a t) (.int c u)) Q E s)
section
variable{prog:Program}{w:World}{A:Around}{E:Value->Shared->Prop}{s:Shared}
theorem cat_tup(ht:IsTup s.heap t vs.toArray)(hb:IsTup s.heap b ws.toArray)(hv:vs≠[])
  (h1:ws=[]->Q (.ref t) s) (h2:ws≠[]->Q (.ref s.heap.objs.size) { s with heap:=s.heap.push { cls:=.type "tuple",data:=.seq (vs++ws).toArray } })
  (hsz:vs.length+ws.length<=sizeLine):wpAny (model prog w) A (binaryOp .Add (.ref t) (.ref b)) Q E s:=by
 obtain⟨⟨cls,dd,data,sl⟩,ho,hc,n,hd⟩:=id ht;obtain⟨⟨cls2,dd2,data2,sl2⟩,ho2,hc2,n2,hd2⟩:=id hb;simp only at hc hd hc2 hd2;subst hc hd hc2 hd2;have e:vs.toArray++ws.toArray=(vs++ws).toArray:=by simp
 by_cases hw:ws=[]
 ·exact concat_meets ⟨_,ho,rfl⟩ ⟨_,ho2,rfl⟩ noFill_tuple_add seq_tuple_add ADj ADX (ADR _ _)
   (tuple_addW1 t b vs.toArray ws.toArray n n2 dd dd2 sl sl2 (by simpa using hv) (by simp[hw])) ⟨ho,ho2,h1 hw⟩
 ·refine concat_meets ⟨_,ho,rfl⟩ ⟨_,ho2,rfl⟩ noFill_tuple_add seq_tuple_add ADj ADX (ADR _ _)
   (tuple_addW2 t b vs.toArray ws.toArray n n2 dd dd2 sl sl2 (by simpa using hv) (by simpa using hw) (by rw[AAC,AAC];exact hsz)) ⟨ho,ho2,?_⟩
  rw[e];exact h2 hw
def sIx(n d:Nat):Option Int->Nat
 | none=>d
 | some v=>if v<0 then(v+(n:Int)).toNat else min v.toNat n
def sIx_none(n d:Nat):sIx n d none=d:=rfl
def sIx_nat(n d k:Nat):sIx n d (some (k:Int))=min k n:=by
 show (if (k:Int)<0 then((k:Int)+(n:Int)).toNat else min (k:Int).toNat n)=min k n;rw[if_neg (by lia),ABX]
def He(n d:Nat)(hd:d<=n)(o:Option Int):sIx n d o<=n:=by
 cases o with
 | none=>exact hd
 | some v =>
  show (if v<0 then(v+(n:Int)).toNat else min v.toNat n)<=n;by_cases hv:v<0
  ·rw[if_pos hv];lia
  ·rw[if_neg hv];exact Nat.min_le_right _ _
def AN(v:Int)(n d:Nat):(if v<0 then max (v+(n:Int)) 0 else min v (n:Int))=((sIx n d (some v):Nat):Int):=by
 show (if v<0 then max (v+(n:Int)) 0 else min v (n:Int))=(((if v<0 then(v+(n:Int)).toNat else min v.toNat n):Nat):Int);by_cases hv:v<0
 ·simp only[if_pos hv];lia
 ·simp only[if_neg hv];lia
def xU(lo hi:Option Int)(n:Nat):ADF lo hi 1 (n:Int)=(((sIx n 0 lo:Nat):Int),((sIx n n hi:Nat):Int)):=by
 have h1:¬((1:Int)<0):=by lia
 unfold ADF;simp only[h1,if_false];refine Prod.ext ?_ ?_
 ·cases lo with
  | none=>rfl
  | some v=>exact AN v n 0
 ·cases hi with
  | none=>rfl
  | some v=>exact AN v n n
def xk(i j:Nat):ACT (i:Int) (j:Int) 1=j-i:=by
 unfold ACT;have h1:(1:Int) > 0:=by lia
 simp only[h1,if_true,Int.ediv_one];split<;>lia
def nQ(p:IsPart v o)(h:Q o s):wpAny (model prog w) A (Builtin.Slice.slicePartIndex v) Q E s:=by
 cases p with
 | none=>exact slicePart_none h
 | int i t=>exact slicePart_int h
theorem fv{sl:Addr}{vl vu:Value}{lo hi:Option Int}{n:Nat}{Q:Int×Int×Nat->Shared->Prop}(hs:s.heap.IsSliceOf sl vl vu .none)(pl:IsPart vl lo)(pu:IsPart vu hi)
  (h:Q (((sIx n 0 lo:Nat):Int),1,sIx n n hi-sIx n 0 lo) s):wpAny (model prog w) A (AEO (.ref sl) (pure (n:Int))) Q E s:=by
 obtain⟨os,hos,hcs,hds⟩:=id hs;unfold AEO Builtin.Slice.sliceFields;refine AA1 (AA1 (wpAny_field hos hds (x:=vl) rfl (AA1 (wpAny_field hos hds (x:=vu) rfl (AA1 (wpAny_field hos hds (x:=.none) rfl (AA2 ?_)))))));refine AA1 (slicePart_none ?_);show wpAny _ _ (if ((1:Int)==0)=true then _ else _) _ _ s;rw[if_neg (by decide)]
 refine AA1 (nQ pl (AA1 (nQ pu (AA1 (AA2 ?_)))));show wpAny _ _ (match ADF lo hi 1 (n:Int)with | (lo,hi)=>pure (lo,(1:Int),ACT lo hi 1)) _ _ s
 rw[xU lo hi n];show wpAny _ _ (pure (((sIx n 0 lo:Nat):Int),(1:Int),ACT ((sIx n 0 lo:Nat):Int) ((sIx n n hi:Nat):Int) 1)) _ _ s;rw[xk];exact AA2 h
def BL(xs:Array Value)(i k:Nat):((AAk k).filterMap λ(m:Nat)=>xs[((i:Int)+(m:Int)*1).toNat]?).toArray=((xs.toList.drop i).take k).toArray:=by
 have e:(λ(m:Nat)=>xs[((i:Int)+(m:Int)*1).toNat]?)=λm=>xs[i+m]?:=by
  funext m;have:((i:Int)+(m:Int)*1).toNat=i+m:=by lia
  rw[this]
 rw[e];have:=pick_run xs i k;rw[List.filterMap_map]at this;have e2:((λx=>xs[x]?) ∘ λx=>i+x)=λm=>xs[i+m]?:=rfl
 rw[e2]at this;rw[this]
theorem getItem_tuple_cut{t sl:Addr}{items:Array Value}{vl vu:Value}{lo hi:Option Int}{Q:Value->Shared->Prop}(ht:IsTup s.heap t items)(hs:s.heap.IsSliceOf sl vl vu .none)(pl:IsPart vl lo)(pu:IsPart vu hi)
  (hw:¬(sIx items.size 0 lo=0/\sIx items.size items.size hi=items.size))
  (h:Q (.ref s.heap.objs.size) { s with heap:=s.heap.push { cls:=.type "tuple",data:=.seq ((items.toList.drop (sIx items.size 0 lo)).take (sIx items.size items.size hi-sIx items.size 0 lo)).toArray } })
  (hsz:items.size<=sizeLine):wpAny (model prog w) A (getItem (.ref t) (.ref sl)) Q E s:=by
 have htake:sizeOk (.seq ((items.toList.drop (sIx items.size 0 lo)).take (sIx items.size items.size hi-sIx items.size 0 lo)).toArray):=by
  show ((items.toList.drop (sIx items.size 0 lo)).take (sIx items.size items.size hi-sIx items.size 0 lo)).toArray.size<=sizeLine;rw[AAC,AAv,ABQ,AAO];lia
 have hj:sIx items.size items.size hi<=items.size:=He _ _ (AA8 _) hi;obtain⟨os,hos,hcs,hds⟩:=id hs;have hTs:s.TypeIs (.ref sl) "slice":=⟨os,hos,hcs⟩;unfold getItem
 try with_reducible refine AAr ?_
 first | refine AA1 (AA2 ?_) | skip
 refine AA1 (wpAny_sequenceKey ht.typeIs (by decide) ?_)
 refine AA1 (AB3 (name:=AA0 "__getitem__") ht.typeIs ABK
  (AAw ABK ht.typeIs entry_tuple_getitem ?_ (args_tuple_getitem _ _)))
 show wpAny _ _ (ACI (.ref t) >>= _) _ _ s;refine AA1 (tupleItemsOf_ ht ?_);refine AA1 (ACe hTs ?_);rw[if_pos (by decide)]
 refine AA1 (fv hs pl pu ?_);have hno:¬((((sIx items.size 0 lo:Nat):Int)==0&&(1:Int)==1&&(sIx items.size items.size hi-sIx items.size 0 lo)==items.size)=true):=by
  intro q;rw[AAW,AAW]at q;have q1:((sIx items.size 0 lo:Nat):Int)=0:=eq_of_beq q.1.1;have q2:sIx items.size items.size hi-sIx items.size 0 lo=items.size:=eq_of_beq q.2;exact hw ⟨by lia,by lia⟩
 show wpAny _ _ (if (((sIx items.size 0 lo:Nat):Int)==0&&(1:Int)==1&&(sIx items.size items.size hi-sIx items.size 0 lo)==items.size)=true then _ else _) _ _ s;rw[if_neg hno,BL];first
  | exact AA1 (m:=ACW _) (AAp (AA2 ⟨_,rfl,AA2 h⟩) htake)
  | exact AA1 (m:=ACW _) (AAp (AA1 (AA2 (AA2 ⟨_,rfl,AA2 h⟩))) htake)
  | exact AA1 (AA1 (m:=ACW _) (AAp (AA2 (AA2 ⟨_,rfl,AA2 h⟩)) htake))
  | exact AA1 (AA1 (m:=ACW _) (AAp (AA2 ⟨_,rfl,AA2 h⟩) htake))
end
end HT
namespace L2
open PySem PySem.Spec PyProof.Rows
abbrev TO:=St->Hp->(Option Int->Hp->Prop)->Prop
def PO(X:Cx)(e:Option Expr)(t:TO):Prop :=
 ∀(pins:List (Addr×Obj)) (s:Shared) (σ:St) (H:Hp) (Q:Option Int->Hp->Prop),Inv X pins σ H s->t σ H Q ->
  wpAny (model X.prog X.w) X.A (evalPart e X.env) (λu s'=>∃o H',Inv X pins σ H' s'/\IsPart u o/\Q o H') X.xe s
def EC:TO:=λ_ H Q=>Q none H
def tPart(t:TE):TO:=λσ H Q=>t σ H λx H1=>∃i,x=.int i/\Q (some i) H1
section
variable{X:Cx}{e:Expr}{te:TE}{lo hi:Option Expr}{tl th:TO}{pos p2:Pos}
def Fb:PO X none EC:=by
 intro pins s σ H Q I h;rw[evalPart_none];exact AA2 ⟨none,H,I,.none,h⟩
def Fa(h:PE X e te):PO X (some e) (tPart te):=by
 intro pins s σ H Q I hw;rw[evalPart_some];refine thn (h pins s σ H _ I hw) λu s1 ⟨x,H1,I1,r1,q1⟩=>?_
 obtain⟨i,rfl,q⟩:=q1;obtain⟨t,rfl⟩:=r1;exact⟨some i,H1,I1,.int i t,q⟩
def SlR(X:Cx)(r:V->Option Int->Option Int->Hp->VK->Prop):Prop :=
 ∀(pins:List (Addr×Obj)) (s:Shared) (σ:St) (H:Hp) (x:V) (v vl vu:Value) (lo hi:Option Int) (sl:Addr) (Q:VK),Inv X pins σ H s->aU x v->s.heap.IsSliceOf sl vl vu .none->IsPart vl lo->IsPart vu hi->r x lo hi H Q ->
  ∃T id,typeLookup (.type T) "__getitem__" = pure (some (.builtin id))/\s.TypeIs v T/\wpAny (model X.prog X.w) X.A (getItem v (.ref sl)) (EP X pins σ Q) X.xe s
def tSl(r:V->Option Int->Option Int->Hp->VK->Prop)(te:TE)(tl th:TO):TE:=λσ H Q=>te σ H λx H1=>tl σ H1 λl H2=>th σ H2 λu H3=>r x l u H3 Q
theorem BP(hr:SlR X r)(he:PE X e te)(hl:PO X lo tl)(hu:PO X hi th):PE X (.Subscript e (.Slice lo hi none p2) pos) (tSl r te tl th):=by
 intro pins s σ H Q I h;refine Subscript_ (thn (he pins s σ H _ I h) λv s1 ⟨x,H1,I1,r1,q1⟩=>?_)
 refine wpAny_Slice (thn (hl pins s1 σ H1 _ I1 q1) λvl s2 ⟨l,H2,I2,pl,q2⟩=>thn (hu pins s2 σ H2 _ I2 q2) λvu s3 ⟨u,H3,I3,pu,q3⟩=>?_)
 rw[evalPart_none];refine AA2 ?_
 have I4:Inv X pins σ H3 { s3 with heap:=s3.heap.push { cls:=.type "slice",data:=.fields #[vl,vu,.none] } }:=I3.kept (t':=s3.toks) λb ob q=>AA3 _ q
 obtain⟨T,id,hT,ht,hg⟩:=hr pins { s3 with heap:=s3.heap.push { cls:=.type "slice",data:=.fields #[vl,vu,.none] } } σ H3 x v vl vu l u s3.heap.objs.size Q I4 r1 (Heap.IsSliceOf.new ..) pl pu q3
 show wpAny (model X.prog X.w) X.A (subscriptTail e (.Slice lo hi none p2) v (.ref s3.heap.objs.size)) (EP X pins σ Q) X.xe { s3 with heap:=s3.heap.push { cls:=.type "slice",data:=.fields #[vl,vu,.none] } }
 exact tail_any (ops:=[.ref s3.heap.objs.size,v]) ht hT hg (by with_unfolding_all rfl)
def En(xs:List V)(lo hi:Option Int):List V:=(xs.drop (HT.sIx xs.length 0 lo)).take (HT.sIx xs.length xs.length hi-HT.sIx xs.length 0 lo)
def mC(xs:List V)(lo hi:Option Int):(En xs lo hi).length<=xs.length:=by
 unfold En;rw[AAv,ABQ];lia
def rSlT(K:AA5):V->Option Int->Option Int->Hp->VK->Prop:=λx lo hi H Q=>∃a xs,x=.ref a/\SqT K H a xs /\
 ¬(HT.sIx xs.length 0 lo=0/\HT.sIx xs.length xs.length hi=xs.length)/\∀p,H p=none->Q (.ref p) (upd H p (.tup (En xs lo hi)))
def Ha:SlR X (rSlT X.K):=by
 intro pins s σ H x v vl vu lo hi sl Q I rx hs pl pu h;obtain⟨a,xs,rfl,hx,hw,q⟩:=h;cases rx
 obtain⟨its,r,ht,hz⟩:=I.tuple hx;have hlen:its.toArray.size=xs.length:=by rw[AAC];exact r.length.symm
 refine⟨"tuple",_,ABK.lookup,ht.typeIs,?_⟩;refine HT.getItem_tuple_cut ht hs pl pu (by rw[hlen];exact hw) ?_ (by rw[hlen];exact hz)
 rw[hlen];refine⟨.ref s.heap.objs.size,_,I.laid (t':=s.toks) (o:=.tup (En xs lo hi)) (λb ob q=>AA3 _ q) (AA8 _) ?_,rfl,q _ (I.hok.fresh (AA8 _))⟩
 exact⟨AAq (mC xs lo hi) hz,_,(r.drop (HT.sIx xs.length 0 lo)).take (HT.sIx xs.length xs.length hi-HT.sIx xs.length 0 lo),Es.new _ _⟩
def rCatT(K:AA5):R2:=λx y H Q=>∃a b xs ys,x=.ref a/\y=.ref b/\SqT K H a xs/\SqT K H b ys/\xs≠[]/\xs.length+ys.length<=sizeLine /\
 (ys=[]->Q (.ref a) H)/\(ys≠[]->∀p,H p=none->Q (.ref p) (upd H p (.tup (xs++ys))))
def aw.nil_iff(r:aw xs us):us=[]↔xs=[]:=by
 cases r with
 | nil=>simp
 | cons _ _=>simp
def Fl:OpR X (binaryOp .Add) (rCatT X.K):=by
 intro pins s σ H x y v u Q I rx ry h;obtain⟨a,b,xs,ys,rfl,rfl,ha,hb,hx,hz,q1,q2⟩:=h;cases rx
 cases ry
 obtain⟨its,r1,p1,_⟩:=I.tuple ha;obtain⟨its2,r2,p2,_⟩:=I.tuple hb;refine HT.cat_tup p1 p2 (λz=>hx (r1.nil_iff.mp z)) (λz=>⟨.ref a,H,I,rfl,q1 (r2.nil_iff.mp z)⟩) (λz=>?_) (by rw[<-r1.length,<-r2.length];exact hz)
 refine⟨.ref s.heap.objs.size,_,I.laid (t':=s.toks) (o:=.tup (xs++ys)) (λb ob q=>AA3 _ q) (AA8 _) ?_,rfl,q2 (λw=>z (r2.nil_iff.mpr w)) _ (I.hok.fresh (AA8 _))⟩
 exact⟨by rw[AAB];exact hz,_,r1.append r2,Es.new _ _⟩
end
def ixN(n:Nat)(i:Int):Option Nat:=if 0<=i then(if i<n then some i.toNat else none)else if -(n:Int)<=i then some (i+n).toNat else none
def atI{α:Type}(xs:List α)(i:Int):Option α:=(ixN xs.length i).bind λj=>xs[j]?
def Al(h:ixN n i=some j):seqIndex? i n=some j/\j<n/\-(n:Int)<=i/\i<n:=by
 unfold ixN at h;by_cases h0:0<=i
 ·rw[if_pos h0]at h
  by_cases h1:i<n
  ·rw[if_pos h1]at h
   have e:i.toNat=j:=AAM h;exact⟨by rw[seqIndex_of h0 h1,e],by lia,by lia,h1⟩
  ·rw[if_neg h1]at h;cases h
 ·rw[if_neg h0]at h
  by_cases h1:-(n:Int)<=i
  ·rw[if_pos h1]at h
   have e:(i+n).toNat=j:=AAM h;exact⟨by rw[seqIndex_neg (by lia) h1,e],by lia,h1,by lia⟩
  ·rw[if_neg h1]at h;cases h
def uC{α:Type}{xs:List α}{i:Int}{v:α}(h:atI xs i=some v):∃j,seqIndex? i xs.length=some j/\xs[j]?=some v/\j<xs.length/\-(xs.length:Int)<=i/\i<xs.length:=by
 unfold atI at h;cases e:ixN xs.length i with
 | none=>rw[e]at h;cases h
 | some j =>
  rw[e]at h;obtain⟨h1,h2,h3,h4⟩:=Al e;exact⟨j,h1,h,h2,h3,h4⟩
def az{α:Type}{xs:List α}{j:Nat}{v:α}(h:xs[j]?=some v):atI xs (j:Int)=some v:=by
 have hj:j<xs.length:=(AA7.mp h).1;have e:ixN xs.length (j:Int)=some j:=by
  unfold ixN;rw[if_pos (by lia),if_pos (by lia)];simp
 unfold atI;rw[e];exact h
def Dj{α:Type}(xs:List α)(v:α):atI (xs++[v]) (-1)=some v:=by
 have hl:(xs++[v]).length=xs.length+1:=by simp
 have e:ixN (xs++[v]).length (-1)=some xs.length:=by
  unfold ixN;rw[hl,if_neg (by decide),if_pos (by lia)]
  congr 1;lia
 unfold atI;rw[e];show (xs++[v])[xs.length]?=some v;simp
def uE(b:Expr):Prop:=∀o i,subscripted b false o i=operate [o,i] (getItem o i)
def IxR(X:Cx)(r:R2):Prop :=
 ∀(value slice:Expr) (pins:List (Addr×Obj)) (s:Shared) (σ:St) (H:Hp) (x y:V) (v u:Value) (Q:VK),Inv X pins σ H s->aU x v->aU y u->r x y H Q ->
  subscripted slice false v u=operate [v,u] (getItem v u)->wpAny (model X.prog X.w) X.A (subscriptTail value slice v u) (EP X pins σ Q) X.xe s
def MtR(X:Cx)(id:String)(r:V->List V->Hp->VK->Prop):Prop :=
 ∀(pins:List (Addr×Obj)) (s:Shared) (σ:St) (H:Hp) (x:V) (xs:List V) (v:Value) (us:List Value) (Q:VK),Inv X pins σ H s->aU x v->aw xs us->r x xs H Q ->
  wpAny (model X.prog X.w) X.A (call (.builtin id) (v::us)) (EP X pins σ Q) X.xe s
section
variable{X:Cx}{a b:Expr}{ta tb:TE}{pos:Pos}
def IxR.or(h:IxR X r)(h':IxR X r'):IxR X (λx y H Q=>r x y H Q\/r' x y H Q):=by
 intro value slice pins s σ H x y v u Q I rx ry q hs;rcases q with q | q
 ·exact h value slice pins s σ H x y v u Q I rx ry q hs
 ·exact h' value slice pins s σ H x y v u Q I rx ry q hs
def pe_ix(hr:IxR X r)(ha:PE X a ta)(hb:PE X b tb)(hs:uE b):PE X (.Subscript a b pos) (tOp r ta tb):=by
 intro pins s σ H Q I h;exact Subscript_ (binT ha hb I h λv u s2 x y H2 I2 rx ry q=>hr a b pins s2 σ H2 x y v u Q I2 rx ry q (hs _ _))
def rIxL(K:AA5):R2:=λx y H Q=>∃p xs i v,x=.ref p/\y=.int i/\SqL K H p xs/\atI xs i=some v/\Q v H
def rIxT(K:AA5):R2:=λx y H Q=>∃p xs i v,x=.ref p/\y=.int i/\SqT K H p xs/\atI xs i=some v/\Q v H
def rIxS:R2:=λx y H Q=>∃z i c,x=.str z/\y=.int i/\z.length<=sizeLine/\atI z.cps.toList i=some c/\Q (.str ⟨#[c]⟩) H
def FJ:IxR X (rIxL X.K):=by
 intro value slice pins s σ H x y v u Q I rx ry h hs;obtain⟨p,xs,i,z,rfl,rfl,hq,he,q⟩:=h;cases rx
 obtain⟨t,rfl⟩:=ry;obtain⟨its,r,pl,hz⟩:=I.list hq;obtain⟨j,h1,h2,h3,h4,h5⟩:=uC he;obtain⟨w,ew,rw'⟩:=r.get h2;have hl:=r.length;have hn:=nW;have fin:EP X pins σ Q w s:=⟨z,H,I,rw',q⟩;by_cases h0:0<=i
 ·have hj:i.toNat=j:=by
   rw[seqIndex_of h0 h5]at h1;exact AAM h1
  exact item_listR pl.isList h0 (by lia) (by rw[hj];simpa using ew) fin hs
 ·have hj:(i+(its.toArray.size:Int)).toNat=j:=by
   rw[seqIndex_neg (by lia) h4]at h1
   rw[AAC,<-hl];exact AAM h1
  exact subscriptTail_builtinR (x:=w) pl.isList.typeIs slot_list_getitem.lookup
   (wpAny_getItem_list_neg (Q:=λr s'=>r=w/\EP X pins σ Q r s') pl.isList (by lia) (by rw[AAC]<;>lia) (by lia) (by rw[hj];simpa using ew) ⟨rfl,fin⟩) hs
def IH:IxR X (rIxT X.K):=by
 intro value slice pins s σ H x y v u Q I rx ry h hs;obtain⟨p,xs,i,z,rfl,rfl,hq,he,q⟩:=h;cases rx
 obtain⟨t,rfl⟩:=ry;obtain⟨its,r,pl,hz⟩:=I.tuple hq;obtain⟨j,h1,h2,h3,h4,h5⟩:=uC he;obtain⟨w,ew,rw'⟩:=r.get h2;have hl:=r.length;have hn:=nW;have fin:EP X pins σ Q w s:=⟨z,H,I,rw',q⟩;exact subscriptTail_builtinR (x:=w) pl.typeIs slot_tuple_getitem.lookup
  (getItem_tuple (j:=j) (Q:=λr s'=>r=w/\EP X pins σ Q r s') pl (by lia) (by lia) (by rw[AAC,<-hl];exact h1) (by simpa using ew) ⟨rfl,fin⟩) hs
def II:IxR X rIxS:=by
 intro value slice pins s σ H x y v u Q I rx ry h hs;obtain⟨z,i,c,rfl,rfl,hz,he,q⟩:=h;obtain⟨t,rfl⟩:=rx;obtain⟨t',rfl⟩:=ry;obtain⟨j,h1,h2,h3,h4,h5⟩:=uC he;have hl:z.cps.toList.length=z.length:=by simp[Str.length]
 rw[hl]at h1 h4 h5;have hn:=nW;exact tail_any (typeIs_str s z t) slot_str_getitem.lookup (getItem_str (c:=c) (by
  have e1:decide (i < -(2 ^ 63:Int))=false:=dF_ (by lia)
  have e2:decide (i ≥ 2 ^ 63)=false:=dF_ (by lia)
  rw[e1,e2,ADY]) (by rw[h1];simpa using h2) ⟨.str ⟨#[c]⟩,H,I.tok _,⟨_,rfl⟩,q⟩) hs
def rIx(K:AA5):R2:=λx y H Q=>rIxL K x y H Q\/rIxT K x y H Q\/rIxS x y H Q
def IJ:IxR X (rIx X.K):=FJ.or (IH.or II)
def xv(its:List Value)(n j:Nat)(u:Value):ABJ (·.setIfInBounds j u) { cls:=.type "list",data:=.seq its.toArray n }={ cls:=.type "list",data:=.seq (its.set j u).toArray n }:=by
 simp[ABJ]
def Inv.lst(I:Inv X pins σ H s)(h:H p=some (.lst xs)) :
  ∃(its:List Value) (n:Nat),aw xs its/\s.heap.get? p=some { cls:=.type "list",data:=.seq its.toArray n }/\xs.length<=sizeLine:=by
 obtain⟨z,its,n,r,e⟩:=I.hok p _ h;exact⟨its,n,r,e,z⟩
def Inv.lstUpd{pins:List (Addr×Obj)}{σ:St}{H:Hp}{s:Shared}{p:Addr}{xs ys:List V}{its its':List Value}{n n':Nat}{f:Obj->Obj}(I:Inv X pins σ H s)(h:H p=some (.lst xs))
  (ho:s.heap.get? p=some { cls:=.type "list",data:=.seq its.toArray n }) (hf:f { cls:=.type "list",data:=.seq its.toArray n }={ cls:=.type "list",data:=.seq its'.toArray n' }) (r:aw ys its') (hz:ys.length<=sizeLine) (t:Nat) :
  Inv X pins σ (upd H p (.lst ys)) { s with heap:=s.heap.update p f,toks:=t }:=by
 have e:(s.heap.update p f).get? p=some { cls:=.type "list",data:=.seq its'.toArray n' }:=by
  rw[AAj f ho (by rw[hf]<;>rfl),hf]
 refine I.write (x:=p) (e:=p) (by rw[h];trivial) (.inl rfl) (λb u hb q=>(ABo _ _ (ABM hb)).trans q) ⟨_,e⟩ ?_
 exact⟨hz,its',n',r,e⟩
def rSetL:V->V->V->Hp->(Hp->Prop)->Prop:=λo i v H Q=>∃p xs k j,o=.ref p/\i=.int k/\H p=some (.lst xs)/\ixN xs.length k=some j/\Q (upd H p (.lst (xs.set j v)))
def BC:PSet X rSetL:=by
 intro pins s σ H o i v ov iv u Q I ro ri rv h;obtain⟨p,xs,k,j,rfl,rfl,hp,hj,q⟩:=h;cases ro
 obtain⟨t,rfl⟩:=ri;obtain⟨its,n,r,ho,hz⟩:=I.lst hp;obtain⟨h1,h2,h3,h4⟩:=Al hj;have hl:=r.length;have hn:=nW;have I':Inv X pins σ (upd H p (.lst (xs.set j v))) { s with heap:=s.heap.update p (ABJ (·.setIfInBounds j u)) } :=
  I.lstUpd hp ho (xv its n j u) (r.set rv j) (by rw[AB0];exact hz) s.toks
 by_cases h0:0<=k
 ·have hk:k.toNat=j:=by
   rw[seqIndex_of h0 h4]at h1;exact AAM h1
  exact PySem.W.ki_setAt ho h0 (by lia) (by rw[AAC,<-hl];exact h4) (by rw[hk];exact⟨_,I',q⟩)
 ·have hk:(k+(its.toArray.size:Int)).toNat=j:=by
   rw[seqIndex_neg (by lia) h3]at h1
   rw[AAC,<-hl];exact AAM h1
  exact PySem.W.ki_setBack ho (by lia) (by rw[AAC,<-hl];exact h3) (by lia) (by rw[hk];exact⟨_,I',q⟩)
def qQ(lo hi:Option Int)(n:Nat):(sliceBounds lo hi none n).1=((HT.sIx n 0 lo:Nat):Int)/\(sliceBounds lo hi none n).2.1=((HT.sIx n n hi:Nat):Int)/\(sliceBounds lo hi none n).2.2=1:=by
 refine⟨?_,?_,rfl⟩
 ·cases lo with
  | none=>simp[sliceBounds,HT.sIx]
  | some i =>
   simp only[sliceBounds,HT.sIx,Option.getD_none,show (1:Int) > 0 by decide,if_true]
   by_cases h:i<0
   ·simp only[h,if_true]<;>lia
   ·simp only[h,if_false]<;>lia
 ·cases hi with
  | none=>simp[sliceBounds,HT.sIx]
  | some i =>
   simp only[sliceBounds,HT.sIx,Option.getD_none,show (1:Int) > 0 by decide,if_true]
   by_cases h:i<0
   ·simp only[h,if_true]<;>lia
   ·simp only[h,if_false]<;>lia
def oJ(its:List Value)(lo hi:Option Int):slicePick its.toArray lo hi none=((its.drop (HT.sIx its.length 0 lo)).take (HT.sIx its.length its.length hi-HT.sIx its.length 0 lo)).toArray:=by
 obtain⟨h1,h2,h3⟩:=qQ lo hi its.toArray.size;unfold slicePick;rw[h1,h2,h3];simp only[sliceRange_one,pick_run,AAC]<;>rfl
def rSlL(K:AA5):V->Option Int->Option Int->Hp->VK->Prop:=λx lo hi H Q=>∃a xs,x=.ref a/\SqL K H a xs/\∀p,H p=none->Q (.ref p) (upd H p (.lst (En xs lo hi)))
def EG:SlR X (rSlL X.K):=by
 intro pins s σ H x v vl vu lo hi sl Q I rx hs pl pu h;obtain⟨a,xs,rfl,hx,q⟩:=h;cases rx
 obtain⟨its,r,ht,hz⟩:=I.list hx;have hlen:=r.length;refine⟨"list",_,slot_list_getitem.lookup,ht.isList.typeIs,?_⟩;refine wpAny_getItem_list_slice ht.isList hs pl pu .none (by simp) ?_ (by rw[AAC]<;>lia)
 rw[oJ,<-hlen];refine⟨.ref s.heap.objs.size,_,I.laid (t':=s.toks) (o:=.lst (En xs lo hi)) (λb ob q=>AA3 _ q) (AA8 _) ?_,rfl,q _ (I.hok.fresh (AA8 _))⟩
 exact⟨AAq (mC xs lo hi) hz,_,0,(r.drop (HT.sIx xs.length 0 lo)).take (HT.sIx xs.length xs.length hi-HT.sIx xs.length 0 lo),AAA _ rfl⟩
def sD:iI X (.builtin "len") (λxs H Q=>∃p ys,xs=[.ref p]/\(SqL X.K H p ys\/SqT X.K H p ys)/\Q (.int ys.length) H):=by
 intro pins s σ H xs us Q I r h;obtain⟨p,ys,rfl,hq,q⟩:=h;obtain⟨u,rfl,rx⟩:=EB r;cases rx
 have hn:=nW;rcases hq with hq | hq
 ·obtain⟨its,r',pl,hz⟩:=I.list hq
  have hlen:=r'.length;exact Calls.call_len_list pl.isList (by simp only[AAC]<;>lia) ⟨.int ys.length,H,I.tok _,⟨s.toks+1,by rw[AAC,hlen]⟩,q⟩
 ·obtain⟨its,r',pl,hz⟩:=I.tuple hq
  have hlen:=r'.length;exact len_tuple pl (by simp only[AAC]<;>lia) ⟨.int ys.length,H,I.tok _,⟨s.toks+1,by rw[AAC,hlen]⟩,q⟩
def sC:iI X (.builtin "len") (λxs H Q=>∃z,xs=[.str z]/\z.length<=sizeLine/\Q (.int z.length) H):=by
 intro pins s σ H xs us Q I r h;obtain⟨z,rfl,hz,q⟩:=h;obtain⟨u,rfl,t,rfl⟩:=EB r;have hn:=nW;exact len_str (by lia) ⟨.int z.length,H,I.tok _,⟨_,rfl⟩,q⟩
def iI.or(h:iI X f r)(h':iI X f r'):iI X f (λxs H Q=>r xs H Q\/r' xs H Q):=by
 intro pins s σ H xs us Q I rs q;rcases q with q | q
 ·exact h pins s σ H xs us Q I rs q
 ·exact h' pins s σ H xs us Q I rs q
def pQ:iI X (.type "tuple") (λxs H Q=>∃p ys,xs=[.ref p]/\((SqL X.K H p ys/\∀l,H l=none->Q (.ref l) (upd H l (.tup ys)))\/(SqT X.K H p ys/\Q (.ref p) H))):=by
 intro pins s σ H xs us Q I r h;obtain⟨p,ys,rfl,h⟩:=h;obtain⟨u,rfl,rx⟩:=EB r;cases rx
 rcases h with⟨hq,q⟩|⟨hq,q⟩
 ·obtain⟨its,r',pl,hz⟩:=I.list hq
  have hlen:=r'.length;refine call_tuple_list pl.isList (λh' kp=>?_) (by simp only[AAC]<;>lia)
  have I1:Inv X pins σ H { s with heap:=h' }:=I.kept (t':=s.toks) kp
  have I2:Inv X pins σ (upd H h'.objs.size (.tup ys)) { s with heap:=h'.push { cls:=.type "tuple",data:=.seq its.toArray } } :=
   I1.laid (t':=s.toks) (λb o e=>AA3 _ e) (AA8 _) (show cL X.prog X.w _ _ _ (.tup ys)from⟨hz,its,r',Es.new _ _⟩)
  exact⟨.ref h'.objs.size,_,I2,rfl,q _ (I1.hok.fresh (AA8 _))⟩
 ·obtain⟨its,r',pl,hz⟩:=I.tuple hq
  exact call_tuple_same pl ⟨.ref p,H,I,rfl,q⟩
def tyV(K:AA5)(T:String)(x:V)(H:Hp):Prop:=match x with
 | .str _=>T = "str"
 | .int _=>T = "int"
 | .ref p=>(T = "list"/\∃xs,SqL K H p xs)\/(T = "tuple"/\∃o,K.lookup p=some o/\o.cls=.type "tuple"/\o.dict=none) \/
   (T = "dict"/\((∃kvs,H p=some (.dK kvs))\/∃kvs,H p=some (.dT kvs)))\/(T = "set"/\∃S n,H p=some (.set S n))
 | _=>False
def GP(I:Inv X pins σ H s)(r:aU x v)(ty:tyV X.K T x H) :
  s.TypeIs v T/\∀a,v=.ref a->∃ob,s.heap.get? a=some ob/\ob.dict=none:=by
 cases x with
 | str z =>
  obtain⟨t,rfl⟩:=r;cases (show T = "str" from ty)
  exact⟨typeIs_str s z t,λ_ e=>nomatch e⟩
 | int i =>
  obtain⟨t,rfl⟩:=r;cases (show T = "int" from ty)
  exact⟨typeIs_int s i t,λ_ e=>nomatch e⟩
 | ref p =>
  cases r
  rcases ty with⟨rfl,xs,hq⟩|⟨rfl,o,hk,hc,hd⟩|⟨rfl,hk⟩|⟨rfl,S,n,hk⟩
  ·obtain⟨its,_,pl,_⟩:=I.list hq
   refine⟨pl.isList.typeIs,λa e=>?_⟩
   cases e
   obtain⟨o,n,e,c,hd,_⟩:=pl;exact⟨o,e,hd⟩
  ·refine⟨⟨o,I.kIn p o hk,hc⟩,λa e=>?_⟩
   cases e
   exact⟨o,I.kIn _ o hk,hd⟩
  ·have z:∃o,s.heap.get? p=some o/\o.ExactDict:=by
    rcases hk with⟨kvs,hk⟩|⟨kvs,hk⟩
    ·obtain⟨_,_,_,_,o,_,_,e,ex,_⟩:=I.hok p _ hk
     exact⟨o,e,ex⟩
    ·obtain⟨_,_,_,_,o,_,_,e,ex,_⟩:=I.hok p _ hk
     exact⟨o,e,ex⟩
   obtain⟨o,e,ex⟩:=z;refine⟨⟨o,e,ex.1⟩,λa e2=>?_⟩
   cases e2
   exact⟨o,e,ex.2.1⟩
  ·obtain⟨o,_,_,_,e,ex,_⟩:=I.hok p _ hk
   refine⟨⟨o,e,ex.1⟩,λa e2=>?_⟩
   cases e2
   exact⟨o,e,ex.2.1⟩
 | _=>exact ACl ty
def tBM(K:AA5)(T:String)(r:V->List V->Hp->VK->Prop)(to:TE)(t:TA):TE:=λσ H Q=>to σ H λx H1=>tyV K T x H1/\t σ H1 λxs H2=>r x xs H2 Q
variable{o e:Expr}{es:List Expr}{to:TE}{t:TA}{name:Str}{apos cpos:Pos}{T id:String}{r:V->List V->Hp->VK->Prop}
theorem HK(pa:PlainAttrs T)(slot:Slot T name id)(hty:typeOf (.builtin id)=pure (.type "method_descriptor"))(hm:MtR X id r)(ho:PE X o to)(ha:PA X (e::es) t)
  (hbase:attributeBase o name X.env (eval o X.env)=eval o X.env:=by rfl)
  (hfew:((backTo cpos (starEach (e::es) X.env)).all (λx=>!x.1)&&(backToKw cpos (keywordEach [] X.env)).all (λx=>x.1.isSome)
   && decide ((e::es).length+([]:List Keyword).length+(if ([]:List Keyword).isEmpty then 0 else 1)<30))=true:=by rfl)
  (hline:(apos.endLine==cpos.line)=true:=by rfl) (hs:starEach (e::es) X.env=(false,eval e X.env)::starEach es X.env:=by rfl) (hplain:(backTo cpos (starEach es X.env)).any (·.1)=false:=by rfl) :
  PE X (.Call (.Attribute o name apos) (e::es) [] cpos) (tBM X.K T r to t):=by
 intro pins s σ H Q I h;refine ADk hbase hfew hline rfl (thn (ho pins s σ H _ I h) λv s1 ⟨x,H1,I1,r1,ty,q1⟩=>?_)
 obtain⟨h1,h2⟩:=GP I1 r1 ty;refine⟨T,id,pa,slot,hty,h1,h2,?_⟩;have hA:=ha cpos pins s1 σ H1 _ I1 q1;rw[hs]at hA ⊢;refine ACG (by show (false||(backTo cpos (starEach es X.env)).any (·.1))=false;rw[hplain]<;>rfl) (AEA ?_)
 exact thn hA λus s2 ⟨vs,H2,I2,r2,q2⟩=>hm pins s2 σ H2 x vs v us Q I2 r1 r2 q2
/- xs.append(e),list.index on a module's tuple .. are MtR facts of 06m -/
end
def MtM(X:Cx)(id:String)(r:V->List V->Hp->VK->Prop):Prop :=
 ∀(pins:List (Addr×Obj)) (s:Shared) (σ:St) (H:Hp) (x:V) (xs:List V) (v:Value) (us:List Value) (Q:VK),Inv X pins σ H s->aU x v->aw xs us->r x xs H Q ->
  wpAny (model X.prog X.w) X.A (call (.builtin id) (v::us)) (EP X pins σ Q) X.xe s
def aw.one:∀{x:V}{us:List Value},aw [x] us->∃u,us=[u]/\aU x u
 | _,_,.cons r .nil=>⟨_,rfl,r⟩
def aw.two:∀{x y:V}{us:List Value},aw [x,y] us->∃u v,us=[u,v]/\aU x u/\aU y v
 | _,_,_,.cons r (.cons q .nil)=>⟨_,_,rfl,r,q⟩
section
variable{X:Cx}{pins:List (Addr×Obj)}{σ:St}{H:Hp}{s:Shared}{l b:Addr}{xs ys zs:List V}
def Inv.lset{its its':List Value}{n:Nat}{f:Array Value->Array Value}{t':Nat}(I:Inv X pins σ H s)(hH:H l=some (.lst xs))
  (e:s.heap.get? l=some { cls:=.type "list",data:=.seq its.toArray n }) (hf:f its.toArray=its'.toArray) (hv:aw ys its') (hz:ys.length<=sizeLine) :
  Inv X pins σ (upd H l (.lst ys)) { s with heap:=s.heap.update l (ABJ f),toks:=t' }:=by
 have q:=PySem.IsL.update e f;rw[hf]at q;refine I.write (x:=l) (e:=l) (by rw[hH];exact trivial) (.inl rfl) (λb' u hb hu=>(ABo s.heap (ABJ f) (ABM hb)).trans hu) ⟨_,q⟩ ?_
 exact⟨hz,its',_,hv,q⟩
def Inv.lnew(I:Inv X pins σ H s)(hv:aw ys its)(hz:ys.length<=sizeLine) :
  Inv X pins σ (upd H s.heap.objs.size (.lst ys)) { s with heap:=s.heap.push { cls:=.type "list",data:=.seq its.toArray },toks:=t' } :=
 I.laid (λ_ _ q=>AA3 _ q) (AA8 _) ⟨hz,its,0,hv,AAA _ rfl⟩
def Inv.fresh(I:Inv X pins σ H s):H s.heap.objs.size=none:=I.hok.fresh (AA8 _)
def Inv.lstM(I:Inv X pins σ H s)(hH:H l=some (.lst xs)):xs.length<=sizeLine/\∃(its:List Value) (n:Nat),aw xs its/\xs.length=its.length/\s.heap.get? l=some { cls:=.type "list",data:=.seq its.toArray n }:=by
 obtain⟨z,its,n,r,e⟩:=I.hok l _ hH;exact⟨z,its,n,r,r.length,e⟩
def Cd(h:n<=sizeLine):ADS n=false:=by
 unfold ADS;exact dF_ (by lia)
end
section
variable{X:Cx}
def EQ:V->List V->Hp->VK->Prop:=λx vs H Q=>∃l xs y,x=.ref l/\vs=[y]/\H l=some (.lst xs)/\xs.length<sizeLine/\Q .non (upd H l (.lst (xs++[y])))
def zC:MtM X "list.append" EQ:=by
 intro pins s σ H x vs v us Q I rx rv h;obtain⟨l,xs,y,rfl,rfl,hH,hz,q⟩:=h;cases rx
 obtain⟨u,rfl,ru⟩:=rv.one;obtain⟨z,its,n,r,hl,e⟩:=I.lstM hH;refine call_meets F.slot_list_append ⟨_,e,rfl⟩ F.entry_list_append (F.args_list_append_2 _ _) (PySem.list_append l its.toArray n u (by rw[AAC];lia)) ⟨e,?_⟩
 refine⟨.non,_,I.lset (its':=its++[u]) hH e (by simp) (r.append (.cons ru .nil)) ?_,rfl,q⟩
 rw[AAB,AAV];lia
def EO:V->List V->Hp->VK->Prop:=λx vs H Q=>∃l b xs zs,x=.ref l/\vs=[.ref b]/\H l=some (.lst xs)/\H b=some (.lst zs)/\xs.length+zs.length<=sizeLine/\Q .non (upd H l (.lst (xs++zs)))
def zB:MtM X "list.extend" EO:=by
 intro pins s σ H x vs v us Q I rx rv h;obtain⟨l,b,xs,zs,rfl,rfl,hH,hB,hz,q⟩:=h;cases rx
 obtain⟨u,rfl,ru⟩:=rv.one;cases ru
 obtain⟨z,its,n,r,hl,e⟩:=I.lstM hH;obtain⟨z2,its2,n2,r2,hl2,e2⟩:=I.lstM hB;have hsz:its.toArray.size+its2.toArray.size<=sizeLine:=by rw[AAC,AAC];lia
 have hlong:¬(!its.toArray.isEmpty&&ADS (its.toArray.size+its2.toArray.size))=true:=by
  rw[Cd hsz,ADy];exact ABS
 refine call_meets F.slot_list_extend ⟨_,e,rfl⟩ F.entry_list_extend (F.args_list_extend_2 _ _)
  (AutoSeq1.list_extend_list_list_0 l its.toArray n b its2.toArray n2 hlong (by rw[AAC];lia) (by lia)) ⟨e,e2,?_⟩
 refine⟨.non,_,I.lset (its':=its++its2) hH e (by simp) (r.append r2) ?_,rfl,q⟩
 rw[AAB];lia
def rCat:R2:=λx y H Q=>∃l b xs zs,x=.ref l/\y=.ref b/\H l=some (.lst xs)/\H b=some (.lst zs)/\xs.length+zs.length<=sizeLine/\∀p,H p=none->Q (.ref p) (upd H p (.lst (xs++zs)))
def HV:OpR X (binaryOp .Add) rCat:=by
 intro pins s σ H x y v u Q I rx ry h;obtain⟨l,b,xs,zs,rfl,rfl,hH,hB,hz,q⟩:=h;cases rx
 cases ry
 obtain⟨z,its,n,r,hl,e⟩:=I.lstM hH;obtain⟨z2,its2,n2,r2,hl2,e2⟩:=I.lstM hB;refine PySem.P.add_list e e2 ?_ (by rw[AAC,AAC];lia)
 have ea:its.toArray++its2.toArray=(its++its2).toArray:=by simp
 rw[ea];exact⟨.ref _,_,I.lnew (t':=s.toks) (r.append r2) (by rw[AAB];lia),rfl,q _ I.fresh⟩
end
end L2
namespace Att
open PySem PySem.W PySem.Calls PyProof.Rows
def mi:∀(ns:List Int) (vs:List Value),WellAll P h vs (ns.map WData.int)->IntsAre vs ns:=by
 intro ns;induction ns with
 | nil =>
  intro vs w;rw[List.map_nil]at w;cases w
  exact .nil
 | cons n ns ih =>
  intro vs w;rw[AAf]at w;cases w with
  | cons a b =>
   cases a
   exact .cons _ _ (ih _ b)
def yV{l:OpenLaw}{n:Nat}(hn:l.most=some n){P:Params}{h:Heap}{args:List WData}{vals:List Value}
  (hpre:l.row.toRowW.claim.pre args=true) (hwl:WellAll P h vals args) :
  ∃a vs ns,vals=[ABn a]/\args=[WData.list (ns.map WData.int)]/\h.get? a=some { cls:=.type "list",data:=.seq vs.toArray }/\IntsAre vs ns/\ns.length<=n:=by
 have hsh:WShape.hasAll [] args [.list .int]=true:=(pre_splitW hpre).1;have hc:l.pre.holds [] { args:=args }=true:=(pre_splitW hpre).2;obtain⟨d,r,rfl,h1,h2⟩:=hasAllW_cons hsh;obtain rfl:=hasAllW_nil h2;obtain⟨xs,rfl,h3⟩:=hasW_list h1;obtain⟨ns,rfl⟩:=items_int h3;have hlen:ns.length<=n:=by
  unfold OpenLaw.pre at hc;have h4:(WTm.not (.lt (.lit (.int (n:Int))) (.len (.arg 0)))).holds [] { args:=[.list (ns.map .int)] }=true:=by
   have h4:=(holds_andW hc).1;rw[hn]at h4;exact h4
  have h5:=condW_of h4 (w_not (w_lt w_lit (w_len_list (w_arg rfl))));rw[AA4]at h5;refine Nat.le_of_not_lt λq=>?_
  have q':(n:Int)<((ns.length:Nat):Int):=by lia
  first
   | (rw[dT_ q']at h5;exact absurd h5 (by decide))
   | (simp at h5;lia)
 cases hwl with
 | cons w1 w2 =>
  cases w2
  cases w1 with
  | list ho hall=>exact⟨_,_,ns,rfl,rfl,ho,mi ns _ hall,hlen⟩
def zc(l:OpenLaw)(args:List WData):l.row.toRowW.claim.post args (.bool true) args=true :=
 postW_of (r:=l.row.toRowW) (X:=(true==true))
  (show WShape.has [] (.bool true) .bool=true by first | rfl | decide | simp[WShape.has,WShape.arms,WShape.armsAll])
  (show (WTm.eq .res (.lit (.bool true))).value [] { args:=args,res:=some (.bool true),after:=args }=some (.bool (true==true))from w_eq_bool (w_res rfl) w_lit) rfl
def attach_call{l:OpenLaw}{n:Nat}{q:Program}{loose:List Str}{XP:(Str->Option Value)->Heap->Prop}{YP:World->Heap->Prop}{d:DefRec}
  (hn:l.most=some n) (hdf:d.params.defaults=[])
  (call:∀(w:World) (s₀ s₁:Shared) (mg mb:Str->Option Value) (fa:Addr) (o:Obj) (pm cd doc:Value) (a:Addr) (vs:List Value) (ns:List Int),
   Ground q loose [] XP w s₀ mg mb s₁.heap->YP w s₁.heap ->
   s₁.heap.get? fa=some o->o.data=.func (docDef d.name d.params d.body d.scope pm cd doc)->s₁.heap.CodeRec cd d.name->mg d.name=some (.ref fa) ->
   s₁.heap.get? a=some { cls:=.type "list",data:=.seq vs.toArray }->IntsAre vs ns->ns.length<=n->s₁.gens = #[] ->
   codeAny (model l.prog w) callerA (.call (.ref fa) ⟨[.ref a],[]⟩) (λr s'=>r=.ok (.ret (.bool true))/\OldK s₁.heap s'.heap/\s'.os=s₁.os/\AllBare s'.gens) s₁) :
  WalkO q loose XP YP l.row.toRowW d [] (λf vs=>PySem.call f vs):=by
 intro w s₀ s₁ mg mb G Y fa o pm cd doc dV kV ho hd hcd hD hmg hg args vals as hpre hlay hrd hwl hlo;obtain rfl:dV=.none:=Dflts.none hD hdf;obtain rfl:kV=.none:=Dflts.noKw hD;obtain⟨a,vs,ns,rfl,rfl,hobj,hints,hlen⟩:=yV hn hpre hwl;refine enter_call (ADP (call w s₀ s₁ mg mb fa o pm cd doc a vs ns G Y ho (fd_plain hd) hcd hmg hobj hints hlen hg) λr s' hq=>?_)
 obtain⟨rfl,h2,h3,h4⟩:=hq;exact⟨.inl ⟨.bool true,.bool true,[],rfl,λ_=>rfl,.bool true,zc l _,λ_=>⟨AD3,λ_ hm=>(nomatch hm)⟩⟩,h2,h3,h4⟩
section
variable{prog:Program}{w:World}{A:Around}{E:Value->Shared->Prop}{s:Shared}{K:Frag}
def noObjs(h:Heap):Heap:={ h with objs:=#[] }
def noObjs_get(h:Heap)(b:Addr):(noObjs h).get? b=none:=by
 cases e:(noObjs h).get? b with
 | none=>rfl
 | some o=>exact absurd (AAF e) (ABz _)
def ledger(h:Heap)(L d:Addr):List (Addr×Obj):=(AAk h.objs.size).filterMap λa=>if a=L\/a=d then none else(h.get? a).map λo=>(a,o)
def mem_ledger:(a,o)∈ledger h L d↔a≠L/\a≠d/\h.get? a=some o:=by
 unfold ledger;rw[ABe];constructor
 ·rintro⟨b,_,e⟩
  split at e
  ·cases e
  ·rename_i hb
   obtain⟨o',ho,e'⟩:=ABC.mp e;cases e'
   exact⟨λq=>hb (.inl q),λq=>hb (.inr q),ho⟩
 ·rintro⟨n1,n2,ho⟩
  refine⟨a,AAz.mpr (AAF ho),?_⟩;rw[if_neg (show ¬(a=L\/a=d)from λq=>q.elim n1 n2),ho]<;>rfl
def news_ledger(hne:d≠L)(ho:h.get? d=some od):News (noObjs h) L h ([]++(d,od)::ledger h L d):=by
 rintro⟨a,o⟩ hp;rcases AAQ.mp hp with e | hp
 ·cases e
  exact⟨ho,hne,noObjs_get _ _⟩
 ·obtain⟨n1,n2,e⟩:=mem_ledger.mp hp
  exact⟨e,n1,noObjs_get _ _⟩
def fr_all(n:h.Ns L m):Fr (noObjs h) L h m :=
 ⟨n,λb o e=>(by rw[noObjs_get]at e;cases e),AAX _⟩
end
end Att
namespace L2
open PySem PySem.Spec PyProof.Rows
def qg:∀{vs:List Value}{ns:List Int},IntsAre vs ns->aw (ns.map V.int) vs
 | _,_,.nil=>.nil
 | _,_,.cons n t h=>.cons ⟨t,rfl⟩ (qg h)
abbrev KOf{K:AA5}{h:Heap}(_:K.In h):AA5:=K
def iF(s:Stmt):Arguments:=match s with
 | .FunctionDef _ a _ _ _ _ _ _ _ _=>a
 | _=>{ posonlyargs:=[],args:=[],vararg:=none,kwonlyargs:=[],kw_defaults:=[],kwarg:=none,defaults:=[] }
def bO(s:Stmt):List Stmt:=match s with
 | .FunctionDef _ _ b _ _ _ _ _ _ _=>b
 | _=>[]
def ap(s:Stmt):Scope:=match s with
 | .FunctionDef _ _ _ _ _ _ sc _ _ _=>sc
 | _=>{ kind:=.function,names:=[],isGenerator:=false,isCoroutine:=false }
abbrev CX0:CXT:=λ_ _ _ _ _ _=>False
abbrev E0:XK:=λ_ _ _=>False
def pass0:Bc CX0 X E0:=λ_ _ _ _ _ _ _ h=>h.elim
structure Fun(K:AA5)(x qual:Str)(st:Stmt)(f:Addr)(fd:FuncData):Prop where
 ex:∃(oc:Value) (od:Option Addr) (kV doc pm:Value) (an:Option Addr) (cdv ct:Value) (osl:Array (Option Value)),
  fd=ACd x qual (iF st) (bO st) (ap st) .none kV doc pm an cdv ct/\K.lookup f=some ⟨oc,od,.func fd,osl⟩/\AEQ K cdv qual=true
 kp:ACS K (.ref f)=true
section
variable{P:Program}{w:World}{K:AA5}{mg:Str->Option Value}{base:Heap}
def Fun.ok{x qual:Str}{st:Stmt}{f:Addr}{fd:FuncData}{N ps:List Str}{k:Nat}{sp:Sp}(F:Fun K x qual st f fd)(S:FnScope N ps (ap st))(len:∀vs H Q E,sp vs H Q E->vs.length=ps.length)
  (hbody:∀(cdv:Value) (A:Around) (outer:List Env) (s:Shared) (H:Hp) (vs:List V) (Q:VK) (E:XK),Room k (A.deeper (envOfC qual (ap st) s.heap.objs.size f cdv))->sp vs H Q E ->
   ∃t,PSs (sA CX0 P w K mg base N qual (ap st) f cdv A outer s H E).nox (bO st) t/\t { nx:=λ_ H'=>Q .non H',rt:=Q } (start N vs) H):FnOk P w K mg base CX0 (k+1) f fd ps sp:=by
 obtain⟨oc,od,kV,doc,pm,an,cdv,ct,osl,rfl,lk,hcd⟩:=F.ex;refine Jd lk hcd S len λA outer s H vs Q E hr hsp=>?_
 obtain⟨t,h,q⟩:=hbody cdv A outer s H vs Q E hr hsp;exact⟨t,h.nox,q⟩
def Fun.binds{x qual:Str}{st:Stmt}{f:Addr}{fd:FuncData}{ps:List Str}(F:Fun K x qual st f fd)
  (h:∀(kV doc pm:Value) (an:Option Addr) (cdv ct:Value) (us:List Value),us.length=ps.length->bindArgs (ACd x qual (iF st) (bO st) (ap st) .none kV doc pm an cdv ct) ⟨us,[]⟩=pure (ps.zip us)):sM K fd ps []:=by
 obtain⟨oc,od,kV,doc,pm,an,cdv,ct,osl,rfl,lk,hcd⟩:=F.ex;exact .all (h kV doc pm an cdv ct)
def Jb{x qual:Str}{st:Stmt}{f:Addr}{oc:Value}{od an:Option Addr}{osl:Array (Option Value)}{kV doc pm cdv ct:Value}(l:K.lookup f=some ⟨oc,od,.func (ACd x qual (iF st) (bO st) (ap st) .none kV doc pm an cdv ct),osl⟩)
  (c:AEQ K cdv qual=true) (k:ACS K (.ref f)=true):Fun K x qual st f (ACd x qual (iF st) (bO st) (ap st) .none kV doc pm an cdv ct):=⟨⟨oc,od,kV,doc,pm,an,cdv,ct,osl,rfl,l,c⟩,k⟩
end
def aI(h:n<=1000):n<sizeLine:=Nat.lt_of_le_of_lt h (by decide)
section
variable{X:Cx}
def pv(i:Nat)(hN:X.N[i]?=some x:=by rfl)(hv:Vis X.env.scope x:=by first | exact Or.inl rfl | exact Or.inr (Or.inl rfl) | exact Or.inr (Or.inr rfl))(hd:(x==("__debug__":Str))=false:=by decide)
  (hcd:(x==("__classdict__":Str))=false:=by decide):PE X (.Name x pos) (tVar i):=Dw hN hv hd hcd
end
def bJ{A B:Prop}(h:B):if false=true then A else B:=by
 rw[if_neg ABS];exact h
def bT{A B:Prop}(h:A):if true=true then A else B:=by
 rw[if_pos rfl];exact h
section
variable{κ:Type}[DecidableEq κ]
def yf(kvs:List (κ×V))(k:κ):Option V:=(kvs.find? λkv=>decide (kv.1=k)).map (·.2)
def putK(kvs:List (κ×V))(k:κ)(v:V):List (κ×V) :=
 if (kvs.any λkv=>decide (kv.1=k))=true then kvs.map (λkv=>if kv.1=k then(kv.1,v)else kv)else kvs++[(k,v)]
def Br{p:κ×V}{r:List (κ×V)}{k:κ}(e:p.1=k):yf (p::r) k=some p.2:=by simp[yf,ABV,e]
def uI{p:κ×V}{r:List (κ×V)}{k:κ}(e:¬p.1=k):yf (p::r) k=yf r k:=by simp[yf,ABV,e]
def JL.getD(r:JL o u)(rd:aU d d'):aU (o.getD d) (u.getD d'):=by
 cases o with
 | none=>cases u with
  | none=>exact rd
  | some _=>exact(show False from r).elim
 | some _=>cases u with
  | none=>exact(show False from r).elim
  | some _=>exact r
def KV.val{kvs:List (κ×V)}{vs:List (κ×Value)}(r:KV kvs vs)(k:κ):JL (yf kvs k) (valueAt vs k):=by
 unfold KV at r;induction r with
 | nil=>exact True.intro
 | @cons p q ps qs h t ih =>
  obtain⟨h1,h2⟩:=h;by_cases e:p.1=k
  ·have e':q.1=k:=h1.symm.trans e
   have b:valueAt (q::qs) k=some q.2:=by simp[valueAt,ABV,e']
   rw[Br e,b];exact h2
  ·have e':¬q.1=k:=λz=>e (h1.trans z)
   have b:valueAt (q::qs) k=valueAt qs k:=by simp[valueAt,ABV,e']
   rw[uI e,b];exact ih
def KV.any(r:KV kvs vs)(k:κ):(kvs.any λkv=>decide (kv.1=k))=vs.any λkv=>decide (kv.1=k):=by
 unfold KV at r;induction r with
 | nil=>rfl
 | cons h t ih=>rw[List.any_cons,List.any_cons,ih,h.1]
def KV.repl(r:KV kvs vs)(k:κ)(ry:aU y u) :
  KV (kvs.map λkv=>if kv.1=k then(kv.1,y)else kv) (vs.map λkv=>if kv.1=k then(kv.1,u)else kv):=by
 unfold KV at r ⊢;induction r with
 | nil=>exact .nil
 | @cons p q ps qs h t ih =>
  rw[AAf,AAf];refine .cons ?_ ih;obtain⟨h1,h2⟩:=h;by_cases e:p.1=k
  ·rw[if_pos e,if_pos (h1.symm.trans e)];exact⟨h1,ry⟩
  ·rw[if_neg e,if_neg (λz=>e (h1.trans z))];exact⟨h1,h2⟩
def KV.put(r:KV kvs vs)(k:κ)(ry:aU y u):KV (putK kvs k y) (stored vs k u):=by
 unfold putK stored;rw[r.any k];by_cases e:(vs.any λkv=>decide (kv.1=k))=true
 ·rw[if_pos e,if_pos e];exact r.repl k ry
 ·rw[if_neg e,if_neg e];exact Paired.snoc r ⟨rfl,ry⟩
def KV.length(r:KV kvs vs):kvs.length=vs.length:=Paired.length r
end
def IG(r:aU (kV k) u):(dL P w).is k u=true:=by
 cases k with
 | inl i=>obtain⟨t,e⟩:=(show ∃t,u=Value.int i t from r);subst e;exact tU P w i t
 | inr x=>obtain⟨t,e⟩:=(show ∃t,u=Value.str x t from r);subst e;exact tT P w x t
section
variable{P:Program}{w:World}{H:Hp}{h:Heap}{a:Addr}
def rd_of(ok:HOk P w H h)(e:Rd H a u):cL P w H h a u:=e.ok ok
def dk_rd(ok:HOk P w H h)(e:Rd H a (.dK kvs)):kvs.length<=sizeLine/\(a==sysModules)=false/\∃vs,KV kvs vs/\h.DictOf (dL P w) a vs :=
 show cL P w H h a (.dK kvs)from rd_of ok e
def Ge(ok:HOk P w H h)(e:H a=some (.dK kvs)):kvs.length<=sizeLine/\(a==sysModules)=false/\∃vs,KV kvs vs/\h.DictOf (dL P w) a vs:=dk_rd ok (.inl e)
end
section
variable{X:Cx}{pins:List (Addr×Obj)}{σ:St}{H:Hp}{s:Shared}{a:Addr}{y v:V}{u r:Value}{o:Option V}{A:Around}{E:Value->Shared->Prop}
def Inv.big(I:Inv X pins σ H s):sysModules<s.heap.objs.size:=by
 have h:mainGlobals<s.heap.objs.size:=(I.mod.glob.keeps I.bk).lt;exact Nat.lt_trans (by decide) h
def AJ(I:Inv X pins σ H s)(mu:Mut (H a))(hs:ACB a s.heap h')(he:∃q,h'.get? a=some q)(new:cL X.prog X.w (upd H a ob) h' a ob) :
  Inv X pins σ (upd H a ob) { s with heap:=h',toks:=t' } :=
 I.write (x:=a) (e:=a) mu (.inl rfl) (λb q hb z=>(hs.2 b hb).trans z) he new
def Js(z:kvs.length<=sizeLine)(hd:(a==sysModules)=false)(rel:KV kvs vs)(dd:h'.DictOf (dL P w) a vs) :
  cL P w H' h' a (.dK kvs):=⟨z,hd,vs,rel,dd⟩
end
def NoSl(i:Expr):Prop:=∀ov iv,subscripted i false ov iv=operate [ov,iv] (getItem ov iv)
theorem ED{prog:Program}{w:World}{A:Around}{E:Value->Shared->Prop}{s:Shared}{env:Env}{value slice:Expr}{pos:Pos}{T id:String}{Q:Value->Shared->Prop}
  (hl:typeLookup (.type T) "__getitem__" = pure (some (.builtin id))) (hs:NoSl slice)
  (h:wpAny (model prog w) A (eval value env) (λo s₁=>wpAny (model prog w) A (eval slice env) (λi s₂=>s₂.TypeIs o T/\wpAny (model prog w) A (getItem o i) Q E s₂) E s₁) E s) :
  wpAny (model prog w) A (eval (.Subscript value slice pos) env) Q E s:=by
 refine Subscript_ (ABF h (λo s₁ h₁=>ABF h₁ (λi s₂ h₂=>?_) λ_ _ x=>x) λ_ _ x=>x)
 obtain⟨hT,h₂⟩:=h₂;unfold subscriptTail;refine AA1 ?_
 rw[getitemInPython_of_ne hT.not_modules];refine AA1 (AC0 hT hl ?_);have fin:wpAny (model prog w) A (subscripted slice false o i) (λr s₃=>wpAny (model prog w) A (letTemporaryGo value o r >>= λ_=>pure r) Q E s₃) E s₂:=by
  rw[hs o i];exact wpAny_operating (ABF h₂ (λr s₃ h₃=>AA1 (wpAny_letTemporaryGo (AA2 h₃))) λ_ _ x=>x)
 first
  | exact AA2 (AA1 fin)
  | exact AA1 (AA2 (AA1 fin))
  | exact AA1 fin
def CV(h:Heap)(hb:sysModules<h.objs.size):cL P w H (h.push { cls:=.type "dict",data:=.dict #[] }) h.objs.size (.dK []) :=
 ⟨AAX _,beq_eq_false_iff_ne.mpr (ABM (AAN hb)),[],.nil,Heap.DictOf.new h⟩
def GW:TE:=λ_ H Q=>∀p,H p=none->Q (.ref p) (upd H p (.dK []))
section
variable{X:Cx}{pos:Pos}
def BS:PE X (.Dict [] [] pos) GW:=λpins s σ H Q I h =>
 wpAny_Dict_empty ⟨.ref s.heap.objs.size,_,I.laid (a:=s.heap.objs.size) (o:=.dK []) (t':=s.toks) (λ_ _ q=>AA3 _ q) (AA8 _) (CV s.heap I.big),rfl,h _ (I.hok.fresh (AA8 _))⟩
end
end L2
namespace DL
open PySem
def iH(env:Env):∀(names:List (Str×NameKind)) (acc:List (Str×Addr)),
  (∀p∈names,p.2=ABP->∃c,env.cells.lookup p.1=some c) ->
  ∃cl,(forIn (m:=Sem) names acc λ(p:Str×NameKind) (r:List (Str×Addr)) =>
    if (p.2==ABP)=true then(do let a <-cellOf env p.1;pure (AEH ((p.1,a)::r)))else pure (AEH r))=pure cl /\
   (∀z c,cl.lookup z=some c->acc.lookup z=some c\/env.cells.lookup z=some c) /\
   (∀z c,acc.lookup z=some c->∃c',cl.lookup z=some c') /\
   (∀p∈names,p.2=ABP->∃c,cl.lookup p.1=some c)
 | [],acc,_=>⟨acc,rfl,λ_ _ h=>.inl h,λz c h=>⟨c,h⟩,λ_ h=>nomatch h⟩
 | (n,k)::bc,acc,hyp=>by
  by_cases hk:k=ABP
  ·subst hk
   obtain⟨c0,hc0⟩:=hyp (n,.free) AAG rfl;obtain⟨cl,e,h1,h2,h3⟩:=iH env bc ((n,c0)::acc) λp hp=>hyp p (AA9 _ hp)
   have ce:cellOf env n=pure c0:=by unfold cellOf;rw[hc0]
   have own:∃c',cl.lookup n=some c':=h2 n c0 (by simp[AC7])
   refine⟨cl,?_,λz c hz=>?_,λz c hz=>?_,λp hp hf=>?_⟩
   ·rw[List.forIn_cons]
    simp only[beq_self_eq_true,if_true,ce,pure_bind];exact e
   ·rcases h1 z c hz with q | q
    ·rw[AC7]at q
     by_cases hz':(z==n)=true
     ·rw[hz']at q
      have:z=n:=by simpa using hz'
      subst this;cases q
      exact .inr hc0
     ·have hz'':(z==n)=false:=by simpa using hz'
      rw[hz'']at q;exact .inl q
    ·exact .inr q
   ·by_cases hz':z=n
    ·subst hz';exact own
    ·refine h2 z c ?_
     rw[AC7];have hz'':(z==n)=false:=by simpa using hz'
     rw[hz''];exact hz
   ·rcases AAQ.mp hp with rfl | hp
    ·exact own
    ·exact h3 p hp hf
  ·have hb:(k==ABP)=false:=by simpa using hk
   obtain⟨cl,e,h1,h2,h3⟩:=iH env bc acc λp hp=>hyp p (AA9 _ hp)
   refine⟨cl,?_,h1,h2,λp hp hf=>?_⟩
   ·rw[List.forIn_cons]
    simp only[hb,AAE,if_false,pure_bind];exact e
   ·rcases AAQ.mp hp with rfl | hp
    ·exact absurd hf hk
    ·exact h3 p hp hf
def kq(hyp:∀p∈scope.names,p.2=ABP->∃c,env.cells.lookup p.1=some c) :
  ∃cl,closureFor scope env=pure cl/\(∀z c,cl.lookup z=some c->env.cells.lookup z=some c)/\(∀p∈scope.names,p.2=ABP->∃c,cl.lookup p.1=some c):=by
 obtain⟨cl,e,h1,h2,h3⟩:=iH env scope.names [] hyp;refine⟨cl,?_,λz c hz=>?_,h3⟩
 ·unfold closureFor
  simp only[bind_pure];exact e
 ·rcases h1 z c hz with q | q
  ·simp at q
  ·exact q
def fI{env:Env}:∀{names:List (Str×NameKind)}{x:Str}{k:NameKind},
  (names.map λ(p:Str×NameKind)=>if (p.2==ABP&&env.scope.kind==.function&&env.kindOf p.1==some .cell)=true then(p.1,ACg)else(p.1,p.2)).lookup x=some k ->
   (names.lookup x=some k\/(k=ACg/\names.lookup x=some .free))
 | [],_,_,h=>by simp at h
 | (n,j)::bc,x,k,h=>by
  have ih:=@fI env bc x k;rw[AAf,AC7]at h;by_cases hx:(x==n)=true
  ·have hl:List.lookup x ((n,j)::bc)=some j:=by rw[AC7,hx]
   rw[hl];by_cases hc:(j==ABP&&env.scope.kind==.function&&env.kindOf n==some .cell)=true
   ·simp only[hc,if_true,hx]at h
    cases h
    have:j=ABP:=by
     simp only[AAW]at hc;simpa using hc.1.1
    exact .inr ⟨rfl,by rw[this]⟩
   ·simp only[hc,AAE,if_false,hx]at h
    exact .inl h
  ·have hx':(x==n)=false:=by simpa using hx
   have hl:List.lookup x ((n,j)::bc)=List.lookup x bc:=by rw[AC7,hx']
   rw[hl];refine ih ?_
   by_cases hc:(j==ABP&&env.scope.kind==.function&&env.kindOf n==some .cell)=true
   ·simp only[hc,if_true,hx']at h
    exact h
   ·simp only[hc,AAE,if_false,hx']at h
    exact h
section
variable{prog:Program}{w:World}{A:Around}{R:Result->Shared->Prop}{s:Shared}
def oB(ifs:List Expr)(env:Env):compTests ifs env =
  (forIn ifs true λc r=>if r=true then do let ok <-isTrue c env (eval c env);pure (AEH ok)else pure (AEH r)):=by
 unfold compTests;simp only[bind_pure]
def xP(J:Nat->Shared->Prop)(ne:Value->Shared->Prop)
  (hne:∀e s',ne e s'->notedBy (model prog w) A env (λe s'=>R (.error e) s') e s')
  (turn:∀n s,J n s->wpAny (model prog w) A (pyNext it) (λr s1=>match r with
   | none=>R (.ok .next) s1
   | some v=>wpAny (model prog w) A (letOwnedTupleGo target it v) (λ_ s2=>wpAny (model prog w) A (assign target env v) (λ_ s3 =>
     wpAny (model prog w) A (compTests ifs env) (λok s4 =>
      if ok=true then wpAny (model prog w) A (eval elt env) (λy s5=>wpAny (model prog w) A (call (.builtin "list.append") [acc,y]) (λ_ s6=>∃m,m<n/\J m s6) ne s5) ne s4
      else ∃m,m<n/\J m s4) ne s3) ne s2) ne s1) ne s)
  (n:Nat) (h:J n s):codeAny (model prog w) A (.compLoop (.ListComp elt [⟨target,iter,ifs,0⟩] scope pos) 0 it acc env) R s:=by
 refine codeAny_loop rfl J (λn s hJ=>?_) n h
 show wpAny _ A ((compTurn (.ListComp elt [⟨target,iter,ifs,0⟩] scope pos) 0 it acc env).onRaise (λx=>do noteFrame x env;theTreesLotGoes x)) _ _ s
 refine wpAny_noted ?_
 rw[compTurn_list];refine AA1 (wpAny_standAt (AA1 (ABF (turn n s hJ) (λr s1 h1=>?_) hne)))
 cases r with
 | none=>exact AA2 h1
 | some v =>
  refine AA1 (ABF h1 (λ_ s2 h2=>?_) hne)
  refine AA1 (ABF h2 (λ_ s3 h3=>?_) hne)
  rw[oB]at h3;refine AA1 (ABF h3 (λok s4 h4=>?_) hne)
  cases ok with
  | false=>exact AA2 ⟨rfl,h4⟩
  | true =>
   exact AA1 (AA1 (ABF h4 (λy s5 h5=>AA1 (ABF h5 (λ_ s6 h6=>AA2 (AA2 ⟨rfl,h6⟩)) hne)) hne))
end
end DL
namespace L2
open PySem PySem.Spec PyProof.Rows DL
def kh{env:Env}:∀{names:List (Str×NameKind)}{x:Str},names.lookup x=some .free ->
  ((names.map λ(p:Str×NameKind)=>if (p.2==ABP&&env.scope.kind==.function&&env.kindOf p.1==some .cell)=true then(p.1,ACg)else(p.1,p.2)).lookup x=some .cell \/
   (names.map λ(p:Str×NameKind)=>if (p.2==ABP&&env.scope.kind==.function&&env.kindOf p.1==some .cell)=true then(p.1,ACg)else(p.1,p.2)).lookup x=some .free)
 | [],_,h=>by simp at h
 | (n,j)::bc,x,h=>by
  have ih:=@kh env bc x;rw[AAf,AC7];rw[AC7]at h;by_cases hc:(j==ABP&&env.scope.kind==.function&&env.kindOf n==some .cell)=true
  ·by_cases hx:(x==n)=true
   ·simp[hc,hx]
   ·have hx':(x==n)=false:=by simpa using hx
    rw[hx']at h;simp only[hc,if_true,hx'];exact ih h
  ·by_cases hx:(x==n)=true
   ·rw[hx]at h
    cases h
    right
    simp only[hc,AAE,if_false,hx]
   ·have hx':(x==n)=false:=by simpa using hx
    rw[hx']at h;simp only[hc,AAE,if_false,hx'];exact ih h
def blk(X:Cx)(N':List Str)(scope:Scope)(cl:List (Str×Addr))(s₀:Shared)(H₀:Hp)(ex:List Addr):Cx :=
 { X with N:=N',s₀:=s₀,H₀:=H₀,env:=compEnvC scope cl s₀.heap.objs.size X.env,outer:=X.stack,ex:=ex,fn:=λx=>scope.names.lookup x==some .cell,pn:=[],xe:=λ_ _=>False }
structure BlkSc(X:Cx)(N':List Str)(nt:Nat)(js:List Nat)(scope:Scope):Prop where
 kind:scope.kind=.function
 nocell:∀y∈scope.names,y.2≠.cell
 loc:∀y∈scope.names,y.2=.local->scope.names.lookup y.1=some .local
 free:∀y∈scope.names,y.2=.free->(X.env.kindOf y.1=some .cell\/X.env.kindOf y.1=some .free)
 len:N'.length=nt+js.length
 fr:∀(k j:Nat),js[k]?=some j->∃x,N'[nt+k]?=some x/\X.N[j]?=some x/\scope.names.lookup x=some .free/\(X.env.kindOf x=some .cell\/X.env.kindOf x=some .free)
def bst(nt:Nat)(js:List Nat)(σ:St):St:=ADx nt none++js.map λj=>(σ[j]?).join
def AV(nt:Nat)(js:List Nat)(σ:St):(bst nt js σ).length=nt+js.length:=by simp[bst]
def Gu(h:(bst nt js σ)[i]?=some (some v)):∃k j,i=nt+k/\js[k]?=some j/\σ[j]?=some (some v):=by
 unfold bst at h;by_cases hi:i<nt
 ·rw[AAP (by simpa using hi),ACf]at h
  simp[hi]at h
 ·rw[AAh (by simpa using AD4.mp hi),ACv,AAR]at h
  cases e:js[i-nt]? with
  | none=>rw[e]at h;cases h
  | some j =>
   rw[e]at h;refine⟨i-nt,j,by lia,e,?_⟩
   have h':(σ[j]?).join=some v:=by simpa using h
   cases q:σ[j]? with
   | none=>rw[q]at h';cases h'
   | some o=>rw[q]at h';exact congrArg some h'
def PTs(X:Cx)(ifs:List Expr)(t:TT):Prop :=
 ∀(pins:List (Addr×Obj)) (s:Shared) (σ:St) (H:Hp) (Q:Bool->Hp->Prop),Inv X pins σ H s->t σ H Q->wpAny (model X.prog X.w) X.A (compTests ifs X.env) (TP X pins σ Q) X.xe s
def ttNil:TT:=λ_ H Q=>Q true H
def EV:PTs X [] ttNil:=λpins s σ H Q I h=>by
 rw[oB];exact wpAny_tests_nil ⟨H,I,h⟩
def EU(h:PT X c t):PTs X [c] t:=λpins s σ H Q I hq=>by
 rw[oB];exact wpAny_tests_one (h pins s σ H Q I hq)
def tLC(nt:Nat)(js:List Nat)(wi:TI)(g:TG)(tt:TT)(te:TE):TE:=λσ H Q=>wi σ H λJ H1=>∃W:Nat->Nat->List V->St->Hp->Prop,(∃m,W 0 m [] (bst nt js σ) H1) /\
 ∀i m vs τ H,W i m vs τ H->(J.stop i H/\∀p,H p=none->Q (.ref p) (upd H p (.lst vs))) \/
  (J.go i H/\∀x H',J.yld i H x H'->g x τ H' λτ2 H2=>tt τ2 H2 λb H3=>if b=true then te τ2 H3 λy H4=>vs.length<sizeLine/\∃m',m' < m/\W (i+1) m' (vs++[y]) τ2 H4 else ∃m',m' < m/\W (i+1) m' vs τ2 H3)
abbrev cG(its:List Value)(k:Nat):Obj:={ cls:=.type "list",data:=.seq its.toArray k }
section
variable{X:Cx}{pins:List (Addr×Obj)}{σ:St}{H:Hp}{s:Shared}
def Inv.blkOk(B:BlkSc X N' nt js scope)(I:Inv X pins σ H s)
  (hcl1:∀z c,cl.lookup z=some c->X.env.cells.lookup z=some c) (hcl2:∀p∈scope.names,p.2=ABP->∃c,cl.lookup p.1=some c) (hf:∀b∈fp,xY X pins H b) (hfs:∀b∈fp,b<s.heap.objs.size) :
  (blk X N' scope cl { s with heap:=s.heap.push ob } H (s.heap.objs.size::fp)).Ok:=by
 have J:Inv X pins σ H { s with heap:=s.heap.push ob }:=I.kept (t':=s.toks) λb o e=>AA3 _ e
 have ltc:∀z c,cl.lookup z=some c->c<s.heap.objs.size:=λz c e=>by
  obtain⟨v,q⟩:=I.cell z c (hcl1 z c e);exact q.lt
 have hC:(s.heap.push ob).objs.size=s.heap.objs.size+1:=ABW ..;refine⟨I.ok.mod,B.kind,I.ok.glob,I.ok.blt,AA8 _,λy z c h1 h2=>I.ok.inj y z c (hcl1 y c h1) (hcl1 z c h2),λy hy=>?_,λy c h=>?_,I.ok.hd,I.ok.frames,.inl rfl,λb hb=>?_,λb o e=>?_,?_,λb o e hb=>?_,λb hb=>?_,J.stack,I.stkFree⟩
 ·have key:scope.names.lookup y=some .free:=by
   rcases hy with hy | hy
   ·rcases fI (env:=X.env) (names:=scope.names) (x:=y) (k:=.cell) hy with q | ⟨_,q⟩
    ·exact absurd rfl (B.nocell _ (ABU q))
    ·exact q
   ·rcases fI (env:=X.env) (names:=scope.names) (x:=y) (k:=.free) hy with q | ⟨q,_⟩
    ·exact q
    ·cases q
  exact hcl2 (y,.free) (ABU key) rfl
 ·exact absurd rfl (B.nocell _ (ABU (beq_iff_eq.mp (show (scope.names.lookup y==some ACg)=true from h))))
 ·show b≠(s.heap.push ob).objs.size/\∀x c,cl.lookup x=some c->c≠b
  rw[hC];rcases AAQ.mp hb with rfl | hb
  ·exact⟨AAN (AB6 _),λx c e=>AAN (ltc x c e)⟩
  ·exact⟨AAN (ABs (hfs b hb)),λx c e=>(hf b hb).2.2.2.2.1 x c (hcl1 x c e)⟩
 ·exact⟨AA3 _ (I.bs b o e).1,(I.bs b o e).2⟩
 ·show X.base.objs.size<=(s.heap.push ob).objs.size
  rw[hC];exact Nat.le_succ_of_le (AAq I.ok.bsz I.sz)
 ·rcases AAQ.mp hb with rfl | hb
  ·exact absurd (AAF (I.bs _ o e).1) (AAm _)
  ·rcases(hf b hb).2.2.2.1 with z | z
   ·exact I.ok.noex b o e z
   ·exact absurd (AAd (AAF (I.ok.bs b o e).1) z) (AAm _)
 ·intro hz
  have hz':=I.stkSub b hz;rcases AAQ.mp hb with rfl | hb
  ·rcases AAQ.mp hz' with q | q
   ·exact absurd I.lt (by rw[<-q];exact AAm _)
   ·exact I.nofs (AA8 _) q
  ·rcases AAQ.mp hz' with q | q
   ·exact(hf b hb).2.1 q
   ·exact(hf b hb).2.2.1 q
def Inv.blkStart(B:BlkSc X N' nt js scope)(I:Inv X pins σ H s)
  (hcl1:∀z c,cl.lookup z=some c->X.env.cells.lookup z=some c) (hcl2:∀p∈scope.names,p.2=ABP->∃c,cl.lookup p.1=some c) (hf:∀b∈fp,xY X pins H b) (hfs:∀b∈fp,b<s.heap.objs.size)
  (old:∀b o,(s.heap.push (cG [] 0)).get? b=some o->h1.get? b=some o) (hn:h1.Ns (s.heap.push (cG [] 0)).objs.size mm) :
  Inv (blk X N' scope cl { s with heap:=s.heap.push (cG [] 0) } H (s.heap.objs.size::fp)) [(s.heap.objs.size,cG [] 0)] (bst nt js σ) H { s with heap:=h1,toks:=tk }:=by
 have old2:∀b o,s.heap.get? b=some o->h1.get? b=some o:=λb o e=>old b o (AA3 _ e)
 have hC:(s.heap.push (cG [] 0)).objs.size=s.heap.objs.size+1:=ABW ..;refine⟨I.blkOk B hcl1 hcl2 hf hfs,rfl,I.bare,Un.kept old,⟨mm,hn,λi x v e1 e2 e3=>?_⟩,λx c e=>?_,?_,λx c e=>I.freeC x c (hcl1 x c e),λp hp=>?_,I.hok.kept old2,?_⟩
 ·obtain⟨k,j,rfl,hj,hσ⟩:=Gu e2
  obtain⟨x',n1,n2,lf,kf⟩:=B.fr k j hj;have ex:x=x':=AAM (e1.symm.trans n1);subst ex;obtain⟨m2,hn2,hl2⟩:=I.loc;have vis:Vis X.env.scope x:=kf.elim (λz=>.inr (.inl z)) λz=>.inr (.inr z)
  obtain⟨u,r,look⟩:=hl2 j x v n2 hσ vis;refine⟨u,r,?_⟩;rcases look with⟨q,_⟩|⟨q,c,hc,hcell⟩
  ·rcases kf with z | z<;>(rw[q]at z;cases z)
  ·obtain⟨c',hc'⟩:=hcl2 (x,.free) (ABU lf) rfl
   have:c'=c:=AAM ((hcl1 x c' hc').symm.trans hc);subst this;exact .inr ⟨kh (env:=X.env) lf,c',hc',hcell.keeps old2⟩
 ·obtain⟨v,q⟩:=I.cell x c (hcl1 x c e)
  exact⟨v,q.keeps old2⟩
 ·exact I.hok.fresh (by show s.heap.objs.size<=(s.heap.push (cG [] 0)).objs.size;rw[hC];exact AEI _)
 ·have e:p=(s.heap.objs.size,cG [] 0):=by simpa [blk]using hp
  subst e;refine⟨old _ _ (AAA _ rfl),I.hok.fresh (AA8 _),?_,?_,λv z=>by cases z⟩
  ·show s.heap.objs.size≠(s.heap.push (cG [] 0)).objs.size
   rw[hC];exact AAN (AB6 _)
  ·intro hz
   rcases AAQ.mp (I.stkSub _ hz)with q | q
   ·exact absurd I.lt (by rw[<-q];exact AAm _)
   ·exact I.nofs (AA8 _) q
 ·rw[AV]
  exact B.len.symm
def Inv.blkEnd(I:Inv X pins σ H s)
  (hf:∀b∈fp,xY X pins H b)
  (I4:Inv (blk X N' scope cl { s with heap:=s.heap.push (cG [] 0) } H (s.heap.objs.size::fp)) [(s.heap.objs.size,cG its k)] τ H' s')
  (rv:aw vs its) (hl:vs.length<=sizeLine) (sb:ACB (s.heap.push (cG [] 0)).objs.size s'.heap h') :
  Inv X pins σ (upd H' s.heap.objs.size (.lst vs)) { s' with heap:=h' }:=by
 have hC:(s.heap.push (cG [] 0)).objs.size=s.heap.objs.size+1:=ABW ..;have hDC:s.heap.objs.size≠(s.heap.push (cG [] 0)).objs.size:=by rw[hC];exact AAN (AB6 _)
 obtain⟨oD,fD,_⟩:=I4.pin (s.heap.objs.size,cG its k) (by simp[blk])
 have oD':s'.heap.get? s.heap.objs.size=some (cG its k):=oD;have fD':H' s.heap.objs.size=none:=fD;have fC:H' (s.heap.push (cG [] 0)).objs.size=none:=I4.free;have u:Un (frs X.stack) (s.heap.objs.size::fp) H H' (s.heap.push (cG [] 0)) s'.heap:=I4.base;have ne:∀b o,s.heap.get? b=some o->b≠s.heap.objs.size/\b≠(s.heap.push (cG [] 0)).objs.size:=λb o e=>by
  have:=AAF e;exact⟨AAN this,by rw[hC];exact AAN (ABs this)⟩
 have up:∀b o,s.heap.get? b=some o->(s.heap.push (cG [] 0)).get? b=some o:=λb o e=>AA3 _ e
 have nx:∀b o,s.heap.get? b=some o->b∉fp->b∉s.heap.objs.size::fp:=λb o e hx hz=>by
  rcases AAQ.mp hz with q | q
  ·exact(ne b o e).1 q
  ·exact hx q
 refine I.call' (s':={ s' with heap:=h' }) (ch:=fp) I4.os ⟨λb o e n hb hx=>?_,λb o e n hb hx=>?_,λb o e n hx=>?_,λb o e hx=>?_,λb xs e=>?_,λb o w e=>?_,λb ps e=>?_⟩ (λb w q=>?_) I4.bare λb hb=>?_
 ·exact(sb.2 b (ne b o e).2).trans (u.keep b o (up b o e) n hb (nx b o e hx))
 ·obtain⟨sl,z⟩:=u.slot b o (up b o e) n hb (nx b o e hx)
  exact⟨sl,(sb.2 b (ne b o e).2).trans z⟩
 ·rw[ah (ne b o e).1]
  exact u.free b o (up b o e) n (nx b o e hx)
 ·obtain⟨o',z⟩:=u.there b o (up b o e) (nx b o e hx)
  exact⟨o',(sb.2 b (ne b o e).2).trans z⟩
 ·have z:=u.tups b xs e
  rw[ah (ad z fD')];exact z
 ·have z:=u.frzs b o w e
  rw[ah (ad z fD')];exact z
 ·obtain⟨more,z⟩:=u.tbls b ps e
  exact⟨more,by rw[ah (ad z fD')];exact z⟩
 ·by_cases hb:b=s.heap.objs.size
  ·subst hb
   rw[aJ]at q;cases q
   exact⟨hl,its,k,rv,(sb.2 _ hDC).trans oD'⟩
  ·rw[ah hb]at q
   refine(I4.hok b w q).stay (λc v hc r=>(sb.2 c ?_).trans r) (λc z=>by rw[ah (ad z fD')];exact z) λc xs z=>by rw[ah (ad z fD')];exact z
   rcases hc with rfl | hc
   ·exact ad q fC
   ·exact ad hc fC
 ·obtain⟨_,f1,_,f3,f4,f5⟩:=hf b hb
  exact⟨f3,f1,f4,f5⟩
def zO{elt tg iter:Expr}{ifs:List Expr}{scope:Scope}{pos:Pos}{N':List Str}{cl:List (Str×Addr)}{J:It}{fp:List Addr}{it:Addr}{tn:Nat->Heap->Prop}{g:TG}{tt:TT}{te:TE}{Q:VK}
  {W:Nat->Nat->List V->St->Hp->Prop}{R:Result->Shared->Prop}{s0:Shared}{H0:Hp}{D:Addr} (hc:X.calm=true)
  (hg:PG (blk X N' scope cl s0 H0 (D::fp)) tg g) (ht:PTs (blk X N' scope cl s0 H0 (D::fp)) ifs tt) (he:PE (blk X N' scope cl s0 H0 (D::fp)) elt te)
  (T:Turn X.prog X.w X.K tg J fp it tn) (hDf:D∉fp)
  (turn:∀i m vs τ H,W i m vs τ H->(J.stop i H/\∀p,H p=none->Q (.ref p) (upd H p (.lst vs))) \/
   (J.go i H/\∀x H',J.yld i H x H'->g x τ H' λτ2 H2=>tt τ2 H2 λb H3=>if b=true then te τ2 H3 λy H4=>vs.length<sizeLine/\∃m',m' < m/\W (i+1) m' (vs++[y]) τ2 H4 else ∃m',m' < m/\W (i+1) m' vs τ2 H3))
  (hstat:∀b∈fp,b≠s0.heap.objs.size/\b∉frs X.stack/\∀x c,cl.lookup x=some c->c≠b) (hDC:D≠s0.heap.objs.size) (hDs:D∉frs X.stack) (hDc:∀x c,cl.lookup x=some c->c≠D)
  (fin:∀τ H' s' vs its k,Inv (blk X N' scope cl s0 H0 (D::fp)) [(D,cG its k)] τ H' s'->aw vs its->vs.length<=sizeLine->Q (.ref D) (upd H' D (.lst vs))->R (.ok .next) s')
  (m0:Nat) {τ0:St}{s3:Shared}{H3:Hp} (I3:Inv (blk X N' scope cl s0 H0 (D::fp)) [(D,cG [] 0)] τ0 H3 s3) (st3:tn 0 s3.heap) (fr3:∀b∈fp,H3 b=none) (w0:W 0 m0 [] τ0 H3) :
  codeAny (model X.prog X.w) X.A (.compLoop (.ListComp elt [⟨tg,iter,ifs,0⟩] scope pos) 0 (.ref it) (.ref D) (compEnvC scope cl s0.heap.objs.size X.env)) R s3:=by
 have fok:∀{ob:Obj}{H':Hp},(∀b∈fp,H' b=none)->∀b∈fp,xY (blk X N' scope cl s0 H0 (D::fp)) [(D,ob)] H' b:=λ{ob H'} hn b hb=>by
  obtain⟨a1,a2,a3⟩:=hstat b hb;refine⟨hn b hb,a1,a2,.inl (AA9 _ hb),a3,λp hp z=>?_⟩
  have e:p=(D,ob):=by simpa [blk]using hp
  subst e;exact hDf (by rw[show D=b from z];exact hb)
 refine xP (λn s'=>∃i τ H' vs its k,Inv (blk X N' scope cl s0 H0 (D::fp)) [(D,cG its k)] τ H' s'/\tn i s'.heap/\(∀b∈fp,H' b=none)/\aw vs its/\vs.length<=sizeLine/\W i n vs τ H')
  (λ_ _=>False) (λ_ _ z=>z.elim) ?_ m0 ⟨0,τ0,H3,[],[],0,I3,st3,fr3,.nil,AAX _,w0⟩
 rintro n s' ⟨i,τ,H',vs,its,k,I',st',fr',rv,hl,w'⟩;rcases turn i n vs τ H' w' with⟨stop,q⟩|⟨go,step⟩
 ·refine thn (T.done (blk X N' scope cl s0 H0 (D::fp)) rfl rfl rfl hc i _ s' τ H' (λ_ _=>False) I' (fok fr') st' stop) λr s4 ⟨hr,I4⟩=>?_
  subst hr;exact fin τ H' s4 vs its k I4 rv hl (q D (I'.pin (D,cG its k) (by simp[blk])).2.1)
 ·refine thn (T.item (blk X N' scope cl s0 H0 (D::fp)) rfl rfl rfl hc i _ s' τ H' (λ_ _=>False) I' (fok fr') st' go) λr s4 ⟨u,hr,h4⟩=>?_
  subst hr;refine thn h4 λ_ s5 ⟨x,H5,I5,r5,y5,st5,fr5⟩=>?_
  have I5':=I5.pinned (fok fr5) (T.obj _ _ st5);refine thn (hg _ s5 τ H5 x u _ I5' r5 (step x H5 y5)) λ_ s6 ⟨τ6,H6,I6,q6⟩=>?_
  refine thn (ht _ s6 τ6 H6 _ I6 q6) λok s7 ⟨H7,I7,q7⟩=>?_
  have memF:∀{b:Addr}{o:Obj},b∈fp->s5.heap.get? b=some o->(b,o)∈(blk X N' scope cl s0 H0 (D::fp)).pn++([(D,cG its k)]++jk fp s5.heap):=λhb e=>AAI _ (AAI _ (ga hb e))
  cases ok with
  | false =>
   obtain⟨m',hm,w7⟩:=(show ∃m',m' < n/\W (i+1) m' vs τ6 H7 from q7);refine⟨m',hm,i+1,τ6,H7,vs,its,k,I7.unpinned,T.keep _ _ _ st5 λb hb o e=>(I7.pin (b,o) (memF hb e)).1,λb hb=>?_,rv,hl,w7⟩
   obtain⟨o,e,_⟩:=T.obj _ _ st5 b hb;exact(I7.pin (b,o) (memF hb e)).2.1
  | true =>
   refine thn (he _ s7 τ6 H7 _ I7 q7) λyv s8 ⟨y,H8,I8,r8,q8⟩=>?_
   obtain⟨hsz,m',hm,w8⟩:=q8;obtain⟨oD,fD,_⟩:=I8.pin (D,cG its k) (AAI _ (AAc _ (by simp)))
   have fD':H8 D=none:=fD;refine append_at (its:=its.toArray) (n:=k) oD (λh9 sb9 o9=>?_) (by rw[AAC,<-rv.length];exact hl)
   have J8:Inv (blk X N' scope cl s0 H0 (D::fp)) (jk fp s5.heap) τ6 H8 s8:=I8.pins_of λp hp=>I8.pin p (AAI _ (AAI _ hp))
   have J9:Inv (blk X N' scope cl s0 H0 (D::fp)) (jk fp s5.heap) τ6 H8 { s8 with heap:=h9 }:=J8.turned (t':=s8.toks) (it:=D) (λb o hb e=>(sb9.2 b hb).trans e) fD' hDC (.inl AAG) hDc λp hp z=>by
    have hp':p∈jk fp s5.heap:=by simpa [blk]using hp
    exact hDf (by rw[<-z];exact(rj hp').1)
   have memG:∀{b:Addr}{o:Obj},b∈fp->s5.heap.get? b=some o->(b,o)∈(blk X N' scope cl s0 H0 (D::fp)).pn++jk fp s5.heap:=λhb e=>AAI _ (ga hb e)
   refine⟨m',hm,i+1,τ6,H8,vs++[y],its++[yv],k+1,J9.pins_of λp hp=>?_,T.keep _ _ _ st5 λb hb o e=>(J9.pin (b,o) (memG hb e)).1,λb hb=>?_,rv.append (.cons r8 .nil),?_,w8⟩
   ·have e:p=(D,cG (its++[yv]) (k+1)):=by simpa using hp
    subst e;refine⟨?_,fD',hDC,hDs,λv z=>by cases z⟩
    rw[show cG (its++[yv]) (k+1)=({ cls:=.type "list",data:=.seq (its.toArray.push yv) (k+1) }:Obj) by rw[List.push_toArray]]
    exact o9
   ·obtain⟨o,e,_⟩:=T.obj _ _ st5 b hb
    exact(J9.pin (b,o) (memG hb e)).2.1
   ·rw[AAB]
    exact hsz
end
section
variable{X:Cx}
theorem pe_lc{elt tg iter:Expr}{ifs:List Expr}{scope:Scope}{pos:Pos}{N':List Str}{nt:Nat}{js:List Nat}{wi:TI}{g:TG}{tt:TT}{te:TE}(B:BlkSc X N' nt js scope)(hc:X.calm=true)(hi:PI X tg iter wi)
  (hg:∀cl s0 H0 ex,PG (blk X N' scope cl s0 H0 ex) tg g) (ht:∀cl s0 H0 ex,PTs (blk X N' scope cl s0 H0 ex) ifs tt) (he:∀cl s0 H0 ex,PE (blk X N' scope cl s0 H0 ex) elt te)
  (hs:∀x,foldedSetIterable iter X.env x=pure x:=by intro _;rfl):PE X (.ListComp elt [⟨tg,iter,ifs,0⟩] scope pos) (tLC nt js wi g tt te):=by
 intro pins s σ H Q I h;rw[eval_ListComp];obtain⟨cl,ecl,hcl1,hcl2⟩:=kq (scope:=scope) (env:=X.env) λp hp hf=>I.ok.has p.1 (B.free p hp hf)
 refine wpAny_comprehension_free (use:=none) rfl hs ecl B.kind B.loc ?_
 refine thn (hi pins s σ H _ I h) λv s1 h1=>thn h1 λitv s2 h2=>?_
 obtain⟨it,fp,tn,J,H2,e,I2,T,st2,f2,W,⟨m0,w0⟩,turn⟩:=h2;subst e;refine AAp (wpAny_newFunctionEnv B.nocell (by intro y hy;simp at hy) (λh1 hns1 hsb1=>?_) B.kind)
 have hfs:∀b∈fp,b<s2.heap.objs.size:=λb hb=>by
  obtain⟨o,e,_⟩:=T.obj _ _ st2 b hb;exact AAF e
 have hC:(s2.heap.push (cG [] 0)).objs.size=s2.heap.objs.size+1:=ABW ..;have old:∀b o,(s2.heap.push (cG [] 0)).get? b=some o->h1.get? b=some o:=λb o e=>(hsb1.2 b (AAN (AAF e))).trans (AA3 _ e)
 have I3:=I2.blkStart (tk:=s2.toks+([]:List (Str×Value)).length) B hcl1 hcl2 f2 hfs old hns1;have st3:tn 0 h1:=T.keep _ _ _ st2 λb _ o e=>old b o (AA3 _ e)
 have hDf:s2.heap.objs.size∉fp:=λz=>AAm _ (hfs _ z)
 have hDs:s2.heap.objs.size∉frs X.stack:=λz=>by
  rcases AAQ.mp (I2.stkSub _ z)with q | q
  ·exact absurd I2.lt (by rw[<-q];exact AAm _)
  ·exact I2.nofs (AA8 _) q
 have hDC:s2.heap.objs.size≠(s2.heap.push (cG [] 0)).objs.size:=by rw[hC];exact AAN (AB6 _)
 have ltc:∀z c,cl.lookup z=some c->c<s2.heap.objs.size:=λz c e=>by
  obtain⟨v,q⟩:=I2.cell z c (hcl1 z c e);exact q.lt
 have hstat:∀b∈fp,b≠(s2.heap.push (cG [] 0)).objs.size/\b∉frs X.stack/\∀x c,cl.lookup x=some c->c≠b:=λb hb=>by
  refine⟨by rw[hC];exact AAN (ABs (hfs b hb)),λz=>?_,λx c e=>(f2 b hb).2.2.2.2.1 x c (hcl1 x c e)⟩
  rcases AAQ.mp (I2.stkSub b z)with q | q
  ·exact(f2 b hb).2.1 q
  ·exact(f2 b hb).2.2.1 q
 have loop:codeAny (model X.prog X.w) X.A (.compLoop (.ListComp elt [⟨tg,iter,ifs,0⟩] scope pos) 0 (.ref it) (.ref s2.heap.objs.size) (compEnvC scope cl (s2.heap.push (cG [] 0)).objs.size X.env))
   (compPost (model X.prog X.w) X.A X.xe none (EP X pins σ Q) (.ref s2.heap.objs.size) (s2.heap.push (cG [] 0)).objs.size) { s2 with heap:=h1,toks:=s2.toks+([]:List (Str×Value)).length }:=by
  refine zO (s0:={ s2 with heap:=s2.heap.push (cG [] 0) }) (H0:=H2) (N':=N') (Q:=Q) hc (hg _ _ _ _) (ht _ _ _ _) (he _ _ _ _) T hDf turn hstat hDC hDs (λx c e=>AAN (ltc x c e)) ?_ m0 I3 st3 (λb hb=>(f2 b hb).1) w0
  intro τ H' s' vs its k I4 rv hl q;obtain⟨mm,hn,_⟩:=id I4.loc;exact⟨mm,hn,λh' sb=>⟨.ref s2.heap.objs.size,_,I2.blkEnd f2 I4 rv hl sb,rfl,q⟩⟩
 exact codeAny_compStart_list loop (T.self _ 0 _ _ _ st3 loop)
end
inductive D where
 | non | bl (b:Bool) | int (i:Int) | str (x:Str) | ty (n:String) | tup (ds:List D) | ref (n:Nat)
inductive MO where
 | lst (xs:List D)
 | fz (xs:List D)
 | kl (xs:List D)
 | dct (kvs:List (Str×D))
 | dkt (kvs:List (D×D))
 | dkq (kvs:List (D×D))
 | dkm (kvs:List (D×D))
 | fdc (o:Obj) (kvs:List (Str×D))
 | tb (x:Str) (b:Bool)
abbrev Mem:=List MO
def MO.isL:MO->Bool
 | .dct _=>false
 | .dkt _=>false
 | .dkq _=>false
 | .fdc _ _=>false
 | .dkm _=>false
 | .tb _ _=>false
 | _=>true
def kK(ks:List Str)(vs:List V):List (Key×V):=(ks.zip vs).map λp=>(ABY p.1,p.2)
mutual
inductive Rep(K:AA5)(ρ:List Addr)(H:Hp):D->V->Prop
 | non:Rep K ρ H .non .non
 | bl (b:Bool):Rep K ρ H (.bl b) (.bl b)
 | int (i:Int):Rep K ρ H (.int i) (.int i)
 | str (x:Str):Rep K ρ H (.str x) (.str x)
 | ty (n:String):Rep K ρ H (.ty n) (.ty n)
 | tup {a:Addr}{vs:List V}{ds:List D} (h:SqT K H a vs) (r:Reps K ρ H ds vs):Rep K ρ H (.tup ds) (.ref a)
 | ref {n:Nat}{a:Addr} (h:ρ[n]?=some a):Rep K ρ H (.ref n) (.ref a)
inductive Reps(K:AA5)(ρ:List Addr)(H:Hp):List D->List V->Prop
 | nil:Reps K ρ H [] []
 | cons {d:D}{v:V}{ds:List D}{vs:List V} (h:Rep K ρ H d v) (t:Reps K ρ H ds vs):Reps K ρ H (d::ds) (v::vs)
end
def KList(K:AA5)(a:Addr)(xs:List V):Prop :=
 ∃(o:Obj) (its:Array Value) (n:Nat),K.lookup a=some o/\o.cls=.type "list"/\o.dict=none/\o.data=.seq its n/\its.size<=sizeLine/\aw xs its.toList
def cH:Nat->D->Bool
 | _,.str _=>true
 | _,.int _=>true
 | n+1,.tup ds=>ds.all (cH n)
 | _,_=>false
def hkD(w:World):Nat->D->Int
 | _,.str x=>hashStr w x
 | _,.int i=>hashInt i
 | n+1,.tup ds=>reduceHash (ABR (ds.map (hkD w n)))
 | _,_=>0
def dX(a:Addr)(xs:List (D×Addr×Value)):Program->World->Heap->Prop:=λ_ w h =>
 ∃(o:Obj) (es:Array DictEntry),h.get? a=some o/\o.ExactDict/\o.data=.dict es xs.length/\es.toList=xs.map λx=>⟨hkD w 8 x.1,.ref x.2.1,x.2.2⟩
def dQ(a:Addr)(e:Nat)(xs:List (D×Addr×Value)):Program->World->Heap->Prop:=λ_ w h =>
 ∃(o:Obj) (es:Array DictEntry),h.get? a=some o/\o.ExactDict/\o.data=.dict es e/\es.toList=xs.map λx=>⟨hkD w 8 x.1,.ref x.2.1,x.2.2⟩
def keyM:D->Bool
 | .non=>true
 | .tup ks=>cH 8 (.tup ks)
 | _=>false
def hkM(w:World):D->Int
 | .non=>reduceHash 0xFCA86420
 | d=>hkD w 8 d
def entM(hs:D->Int)(x:D×Value×Value):DictEntry:=⟨hs x.1,x.2.1,x.2.2⟩
def dM(a:Addr)(xs:List (D×Value×Value)):Program->World->Heap->Prop:=λ_ w h =>
 ∃(o:Obj) (es:Array DictEntry),h.get? a=some o/\o.ExactDict/\o.data=.dict es xs.length/\es.toList=xs.map (entM (hkM w))
def KvM(K:AA5)(ρ:List Addr)(H:Hp)(p:D×D)(q:D×Value×Value):Prop:=p.1=q.1/\keyM p.1=true/\(∃u,Rep K ρ H p.1 u/\aU u q.2.1)/\∃v,Rep K ρ H p.2 v/\aU v q.2.2
def wP(K:AA5)(ρ:List Addr)(H:Hp)(p:D×D)(q:D×Addr×Value):Prop:=p.1=q.1/\cH 8 p.1=true/\Rep K ρ H p.1 (.ref q.2.1)/\∃v,Rep K ρ H p.2 v/\aU v q.2.2
def xX(K:AA5)(ρ:List Addr)(H:Hp)(a:Addr):MO->Prop
 | .lst ds=>∃vs,H a=some (.lst vs)/\Reps K ρ H ds vs
 | .fz ds=>∃o vs,H a=some (.frz o (.lst vs))/\Reps K ρ H ds vs
 | .kl ds=>∃vs,KList K a vs/\Reps K ρ H ds vs
 | .dct kvs=>∃vs,H a=some (.dK (kK (kvs.map (·.1)) vs))/\Reps K ρ H (kvs.map (·.2)) vs
 | .dkt kvs=>kvs.length<=sizeLine/\(a==sysModules)=false/\(kvs.map (·.1)).Nodup/\∃xs,H a=some (.ext (dX a xs))/\Paired (wP K ρ H) kvs xs
 | .dkq kvs=>kvs.length<=sizeLine/\(a==sysModules)=false/\(kvs.map (·.1)).Nodup/\∃xs,(∃e,H a=some (.ext (dQ a e xs)))/\Paired (wP K ρ H) kvs xs
 | .dkm kvs=>kvs.length<=sizeLine/\(a==sysModules)=false/\(kvs.map (·.1)).Nodup/\∃xs,H a=some (.ext (dM a xs))/\Paired (KvM K ρ H) kvs xs
 | .fdc o kvs=>∃vs,H a=some (.frz o (.dK (kK (kvs.map (·.1)) vs)))/\Reps K ρ H (kvs.map (·.2)) vs
 | .tb x b=>(∃c,PySem.W.tabIn K x=some (c,a)/\∀h:Heap,K.In h->PySem.W.CodeHd h c a)/\∃ps,H a=some (.tbl ps)/\(b=false->ps = #[])
def isK(mo:Option MO):Prop:=∃ds,mo=some (.kl ds)
def ar(M:Mem)(n:Nat)(xs:List D):Prop:=M[n]?=some (.lst xs)\/M[n]?=some (.fz xs)\/M[n]?=some (.kl xs)
structure Sim(K:AA5)(ρ:List Addr)(M:Mem)(H:Hp):Prop where
 nd:∀(n m:Nat) (a:Addr),n≠m->ρ[n]?=some a->ρ[m]?=some a->isK M[n]?\/isK M[m]?
 len:ρ.length=M.length
 obj:∀(n:Nat) (a:Addr) (mo:MO),ρ[n]?=some a->M[n]?=some mo->xX K ρ H a mo
structure Grow(K:AA5)(ρ:List Addr)(H:Hp)(ρ':List Addr)(H':Hp):Prop where
 pre:ρ <+: ρ'
 tup:∀a xs,SqT K H a xs->SqT K H' a xs
def Grow.refl{K:AA5}{ρ:List Addr}{H:Hp}:Grow K ρ H ρ H:=⟨ACX,λ_ _ h=>h⟩
def Grow.trans{K:AA5}{ρ ρ1 ρ2:List Addr}{H H1 H2:Hp}(a:Grow K ρ H ρ1 H1)(b:Grow K ρ1 H1 ρ2 H2):Grow K ρ H ρ2 H2:=⟨a.pre.trans b.pre,λx xs h=>b.tup x xs (a.tup x xs h)⟩
def aF{α:Type}{l l':List α}(h:l <+: l'){n:Nat}{a:α}(e:l[n]?=some a):l'[n]?=some a:=by
 obtain⟨t,rfl⟩:=h;rw[AAP (AA7.mp e).1];exact e
mutual
def Rep.grow{K:AA5}{ρ ρ':List Addr}{H H':Hp}(g:Grow K ρ H ρ' H'):∀{d:D}{v:V},Rep K ρ H d v->Rep K ρ' H' d v
 | _,_,.non=>.non
 | _,_,.bl b=>.bl b
 | _,_,.int i=>.int i
 | _,_,.str x=>.str x
 | _,_,.ty n=>.ty n
 | _,_,.tup h r=>.tup (g.tup _ _ h) (Reps.grow g r)
 | _,_,.ref h=>.ref (aF g.pre h)
def Reps.grow{K:AA5}{ρ ρ':List Addr}{H H':Hp}(g:Grow K ρ H ρ' H'):∀{ds:List D}{vs:List V},Reps K ρ H ds vs->Reps K ρ' H' ds vs
 | _,_,.nil=>.nil
 | _,_,.cons h t=>.cons (Rep.grow g h) (Reps.grow g t)
end
section
variable{K:AA5}{ρ ρ':List Addr}{H H':Hp}{M:Mem}
def Reps.length:∀{ds:List D}{vs:List V},Reps K ρ H ds vs->ds.length=vs.length
 | _,_,.nil=>rfl
 | _,_,.cons _ t=>by rw[AAK,AAK,Reps.length t]
def Reps.append:∀{ds es:List D}{vs ws:List V},Reps K ρ H ds vs->Reps K ρ H es ws->Reps K ρ H (ds++es) (vs++ws)
 | _,_,_,_,.nil,s=>s
 | _,_,_,_,.cons r t,s=>.cons r (Reps.append t s)
def Reps.get:∀{ds:List D}{vs:List V}{i:Nat}{d:D},Reps K ρ H ds vs->ds[i]?=some d->∃v,vs[i]?=some v/\Rep K ρ H d v
 | _,_,_,_,.nil,e=>by simp at e
 | _,_,0,_,.cons r _,e=>by simp at e;subst e;exact⟨_,rfl,r⟩
 | _,_,i+1,d,.cons _ t,e=>by
  obtain⟨v,h1,h2⟩:=Reps.get (i:=i) (d:=d) t (by simpa using e)
  exact⟨v,by simpa using h1,h2⟩
def Reps.getV:∀{ds:List D}{vs:List V}{i:Nat}{v:V},Reps K ρ H ds vs->vs[i]?=some v->∃d,ds[i]?=some d/\Rep K ρ H d v
 | _,_,_,_,.nil,e=>by simp at e
 | _,_,0,_,.cons r _,e=>by simp at e;subst e;exact⟨_,rfl,r⟩
 | _,_,i+1,d,.cons _ t,e=>by
  obtain⟨v,h1,h2⟩:=Reps.getV (i:=i) (v:=d) t (by simpa using e)
  exact⟨v,by simpa using h1,h2⟩
def Reps.take:∀{ds:List D}{vs:List V} (n:Nat),Reps K ρ H ds vs->Reps K ρ H (ds.take n) (vs.take n)
 | _,_,0,_=>by simpa using .nil
 | _,_,_+1,.nil=>.nil
 | _,_,n+1,.cons r t=>.cons r (Reps.take n t)
def Reps.drop:∀{ds:List D}{vs:List V} (n:Nat),Reps K ρ H ds vs->Reps K ρ H (ds.drop n) (vs.drop n)
 | _,_,0,r=>r
 | _,_,_+1,.nil=>.nil
 | _,_,n+1,.cons _ t=>Reps.drop n t
def SqT.laid(hp:H p=none)(h:SqT K H a xs):SqT K (upd H p o) a xs:=by
 rcases h with h | h
 ·rcases h with h | ⟨ob,h⟩
  ·exact .inl (.inl (by rw[ah (ad h hp)];exact h))
  ·exact .inl (.inr ⟨ob,by rw[ah (ad h hp)];exact h⟩)
 ·exact .inr h
def SqT.written(hp:H p=some (.lst vs))(h:SqT K H a xs):SqT K (upd H p o) a xs:=by
 rcases h with h | h
 ·rcases h with h | ⟨ob,h⟩
  ·exact .inl (.inl (by rw[ah (xq h hp (by intro z;cases z))];exact h))
  ·exact .inl (.inr ⟨ob,by rw[ah (xq h hp (by intro z;cases z))];exact h⟩)
 ·exact .inr h
def Grow.laid(hp:H p=none):Grow K ρ H ρ (upd H p o):=⟨ACX,λ_ _ h=>SqT.laid hp h⟩
def Grow.laidR(hp:H p=none):Grow K ρ H (ρ++[p]) (upd H p o):=⟨AAb _ _,λ_ _ h=>SqT.laid hp h⟩
def Sim.tracked(S:Sim K ρ M H){n:Nat}{a:Addr}(e:ρ[n]?=some a):(∃o,H a=some o)\/isK M[n]?:=by
 have hn:n<M.length:=by rw[<-S.len];exact(AA7.mp e).1
 have hm:M[n]?=some M[n]:=AA6 hn;have h:=S.obj n a _ e hm;rw[hm];cases hmo:M[n] with
 | lst ds=>rw[hmo]at h;obtain⟨vs,h,_⟩:=h;exact .inl ⟨_,h⟩
 | fz ds=>rw[hmo]at h;obtain⟨o,vs,h,_⟩:=h;exact .inl ⟨_,h⟩
 | kl ds=>exact .inr ⟨ds,rfl⟩
 | dct kvs=>rw[hmo]at h;obtain⟨vs,h,_⟩:=h;exact .inl ⟨_,h⟩
 | dkt kvs=>rw[hmo]at h;obtain⟨_,_,_,xs,h,_⟩:=h;exact .inl ⟨_,h⟩
 | dkq kvs=>rw[hmo]at h;obtain⟨_,_,_,xs,⟨_,h⟩,_⟩:=h;exact .inl ⟨_,h⟩
 | fdc o kvs=>rw[hmo]at h;obtain⟨vs,h,_⟩:=h;exact .inl ⟨_,h⟩
 | dkm kvs=>rw[hmo]at h;obtain⟨_,_,_,xs,h,_⟩:=h;exact .inl ⟨_,h⟩
 | tb x b=>rw[hmo]at h;obtain⟨_,ps,h,_⟩:=h;exact .inl ⟨_,h⟩
def xX.grow(g:Grow K ρ H ρ' H')(hs:H' a=H a\/isK (some mo))(h:xX K ρ H a mo):xX K ρ' H' a mo:=by
 cases mo with
 | lst ds =>
  obtain⟨vs,e,r⟩:=h;rcases hs with hs | ⟨_,z⟩
  ·exact⟨vs,by rw[hs];exact e,r.grow g⟩
  ·cases z
 | fz ds =>
  obtain⟨o,vs,e,r⟩:=h;rcases hs with hs | ⟨_,z⟩
  ·exact⟨o,vs,by rw[hs];exact e,r.grow g⟩
  ·cases z
 | fdc o kvs =>
  obtain⟨vs,e,r⟩:=h;rcases hs with hs | ⟨_,z⟩
  ·exact⟨vs,by rw[hs];exact e,r.grow g⟩
  ·cases z
 | tb x b =>
  obtain⟨c,ps,e,q⟩:=h;rcases hs with hs | ⟨_,z⟩
  ·exact⟨c,ps,by rw[hs];exact e,q⟩
  ·cases z
 | kl ds=>obtain⟨vs,e,r⟩:=h;exact⟨vs,e,r.grow g⟩
 | dkm kvs =>
  obtain⟨h1,h2,h3,xs,e,r⟩:=h;rcases hs with hs | ⟨_,z⟩
  ·exact⟨h1,h2,h3,xs,by rw[hs];exact e,Paired.mapP r λ_ _ ⟨q1,q2,⟨u,q3,q3'⟩,v,q4,q5⟩=>⟨q1,q2,⟨u,q3.grow g,q3'⟩,v,q4.grow g,q5⟩⟩
  ·cases z
 | dct kvs =>
  obtain⟨vs,e,r⟩:=h;rcases hs with hs | ⟨_,z⟩
  ·exact⟨vs,by rw[hs];exact e,r.grow g⟩
  ·cases z
 | dkt kvs =>
  obtain⟨h1,h2,h3,xs,e,r⟩:=h;rcases hs with hs | ⟨_,z⟩
  ·exact⟨h1,h2,h3,xs,by rw[hs];exact e,Paired.mapP r λ_ _ ⟨q1,q2,q3,v,q4,q5⟩=>⟨q1,q2,q3.grow g,v,q4.grow g,q5⟩⟩
  ·cases z
 | dkq kvs =>
  obtain⟨h1,h2,h3,xs,e,r⟩:=h;rcases hs with hs | ⟨_,z⟩
  ·exact⟨h1,h2,h3,xs,by rw[hs];exact e,Paired.mapP r λ_ _ ⟨q1,q2,q3,v,q4,q5⟩=>⟨q1,q2,q3.grow g,v,q4.grow g,q5⟩⟩
  ·cases z
def Sim.keeps{p:Addr}{o:HO}(S:Sim K ρ M H)(hp:H p=none){n:Nat}{a:Addr}{mo:MO}(e1:ρ[n]?=some a)(e2:M[n]?=some mo):upd H p o a=H a\/isK (some mo):=by
 rcases S.tracked e1 with⟨ob,hob⟩ | q
 ·exact .inl (ah (ad hob hp))
 ·rw[e2]at q
  exact .inr q
def Sim.laid{p:Addr}{o:HO}(S:Sim K ρ M H)(hp:H p=none):Sim K ρ M (upd H p o) :=
 ⟨S.nd,S.len,λn a mo e1 e2=>(S.obj n a mo e1 e2).grow (Grow.laid hp) (S.keeps hp e1 e2)⟩
def aY{α:Type}{l:List α}{x y:α}{n:Nat}(h:(l++[x])[n]?=some y):l[n]?=some y\/(n=l.length/\y=x):=by
 by_cases hn:n<l.length
 ·rw[AAP hn]at h
  exact .inl h
 ·have hn':n=l.length:=by
   have:=(AA7.mp h).1;rw[AAB,AAV]at this;lia
  subst hn';rw[AAh (AA8 _),ADT]at h;simp at h;exact .inr ⟨rfl,h.symm⟩
def isK.more{mo:MO}{n:Nat}(h:isK M[n]?):isK (M++[mo])[n]?:=by
 obtain⟨ds,e⟩:=h;exact⟨ds,by rw[AAP (AA7.mp e).1];exact e⟩
def Sim.laidL{p:Addr}{ds:List D}{vs:List V}(S:Sim K ρ M H)(hp:H p=none)(r:Reps K ρ H ds vs):Sim K (ρ++[p]) (M++[.lst ds]) (upd H p (.lst vs)):=by
 have g:Grow K ρ H (ρ++[p]) (upd H p (.lst vs)):=Grow.laidR hp;have old:∀(n:Nat),ρ[n]?=some p->isK M[n]?:=λn e=>by
  rcases S.tracked e with⟨o,q⟩ | q
  ·rw[hp]at q;cases q
  ·exact q
 refine⟨λn m a hnm e1 e2=>?_,by rw[AAB,AAB,S.len];rfl,λn a mo e1 e2=>?_⟩
 ·rcases aY e1 with f1 | ⟨f1,g1⟩
  ·rcases aY e2 with f2 | ⟨f2,g2⟩
   ·exact(S.nd n m a hnm f1 f2).elim (λz=>.inl z.more) λz=>.inr z.more
   ·subst g2
    exact .inl (old n f1).more
  ·rcases aY e2 with f2 | ⟨f2,g2⟩
   ·subst g1
    exact .inr (old m f2).more
   ·exact absurd (f1.trans f2.symm) hnm
 ·rcases aY e1 with f1 | ⟨f1,g1⟩
  ·have hn:n<M.length:=by rw[<-S.len];exact(AA7.mp f1).1
   rw[AAP hn]at e2;exact(S.obj n a mo f1 e2).grow g (S.keeps hp f1 e2)
  ·subst g1 f1
   rw[S.len,AAh (AA8 _),ADT]at e2;simp at e2;subst e2;exact⟨vs,aJ,r.grow g⟩
def Sim.last(S:Sim K ρ M H):(ρ++[p])[M.length]?=some p:=by
 rw[<-S.len,AAh (AA8 _),ADT];rfl
def Sim.write(S:Sim K ρ M H)(e1:ρ[n]?=some a)(hM:M[n]?=some (.lst ds))(hH:H a=some (.lst vs))(r:Reps K ρ H ds' vs') :
  Sim K ρ (M.set n (.lst ds')) (upd H a (.lst vs'))/\Grow K ρ H ρ (upd H a (.lst vs')):=by
 have g:Grow K ρ H ρ (upd H a (.lst vs')):=⟨ACX,λ_ _ h=>SqT.written hH h⟩
 have hk:∀m,m≠n->(M.set n (.lst ds'))[m]?=M[m]?:=λm hm=>AAs (ABM hm)
 have notK:¬isK M[n]?:=λ⟨_,z⟩=>by rw[hM]at z;cases z
 refine⟨⟨λm m' b hne f1 f2=>?_,by rw[AB0];exact S.len,λm b mo f1 f2=>?_⟩,g⟩
 ·have q:=S.nd m m' b hne f1 f2
  by_cases h1:m=n
  ·subst h1
   rw[hk m' (ABM hne)];exact .inr (q.resolve_left notK)
  ·rw[hk m h1]
   by_cases h2:m'=n
   ·subst h2
    exact .inl (q.resolve_right notK)
   ·rw[hk m' h2]
    exact q
 by_cases hm:m=n
 ·subst hm
  have hb:b=a:=AAM (f1.symm.trans e1);subst hb;rw[AAo (by rw[<-S.len];exact(AA7.mp e1).1)]at f2
  cases f2
  exact⟨vs',aJ,r.grow g⟩
 ·rw[hk m hm]at f2
  by_cases hb:b=a
  ·subst hb
   have q:=S.nd m n b hm f1 e1;have q':=q.resolve_right notK;rw[f2]at q';exact(S.obj m b mo f1 f2).grow g (.inr q')
  ·exact(S.obj m b mo f1 f2).grow g (.inl (ah hb))
def ar.seq(S:Sim K ρ M H)(h:ar M n xs)(e:ρ[n]?=some a):∃vs,SqL K H a vs/\Reps K ρ H xs vs:=by
 rcases h with h | h | h
 ·obtain⟨vs,q,r⟩:=S.obj n a _ e h
  exact⟨vs,.inl (.inl q),r⟩
 ·obtain⟨o,vs,q,r⟩:=S.obj n a _ e h
  exact⟨vs,.inl (.inr ⟨o,q⟩),r⟩
 ·obtain⟨vs,q,r⟩:=S.obj n a _ e h
  exact⟨vs,.inr q,r⟩
def Sim.get(S:Sim K ρ M H){n:Nat}{mo:MO}(e:M[n]?=some mo):∃a,ρ[n]?=some a/\xX K ρ H a mo:=by
 have hn:n<ρ.length:=by rw[S.len];exact(AA7.mp e).1
 exact⟨ρ[n],AA6 hn,S.obj n _ mo (AA6 hn) e⟩
end
abbrev SD:=List (Option D)
structure SRep(K:AA5)(ρ:List Addr)(H:Hp)(S:SD)(σ:St):Prop where
 len:S.length=σ.length
 get:∀(i:Nat) (d:D),S[i]?=some (some d)->∃v,σ[i]?=some (some v)/\Rep K ρ H d v
def SRep.grow{K:AA5}{ρ ρ':List Addr}{H H':Hp}{S:SD}{σ:St}(r:SRep K ρ H S σ)(g:Grow K ρ H ρ' H'):SRep K ρ' H' S σ :=
 ⟨r.len,λi d e=>let ⟨v,h1,h2⟩:=r.get i d e;⟨v,h1,h2.grow g⟩⟩
def SRep.set{K:AA5}{ρ:List Addr}{H:Hp}{S:SD}{σ:St}(r:SRep K ρ H S σ)(i:Nat){d:D}{v:V}(h:Rep K ρ H d v):SRep K ρ H (S.set i (some d)) (σ.set i (some v)):=by
 refine⟨by rw[AB0,AB0];exact r.len,λj e hj=>?_⟩
 by_cases hij:i=j
 ·subst hij
  by_cases hl:i<S.length
  ·rw[AAo hl]at hj
   cases hj
   exact⟨v,by rw[AAo (by rw[<-r.len];exact hl)],h⟩
  ·rw[ABO (by rw[AB0];lia)]at hj
   cases hj
 ·rw[AAs hij]at hj
  rw[AAs hij];exact r.get j e hj
abbrev DK:=D->Mem->Prop
abbrev DTE:=SD->Mem->DK->Prop
abbrev DTT:=SD->Mem->(Bool->Mem->Prop)->Prop
abbrev DTA:=SD->Mem->(List D->Mem->Prop)->Prop
structure DEnds where
 nx:SD->Mem->Prop
 rt:DK
 bk:SD->Mem->Prop:=λ_ _=>False
 ct:SD->Mem->Prop:=λ_ _=>False
abbrev DTS:=DEnds->SD->Mem->Prop
abbrev DTG:=D->SD->Mem->(SD->Mem->Prop)->Prop
abbrev Et:=List D->SD->Mem->(SD->Mem->Prop)->Prop
abbrev DR2:=D->D->Mem->DK->Prop
abbrev DR1:=D->Mem->DK->Prop
abbrev DRA:=List D->Mem->DK->Prop
section
variable(K:AA5)
inductive VQ(ρ:List Addr)(H:Hp)(Q:DK)(v:V)(H':Hp):Prop
 | mk (d:D) (M':Mem) (ρ':List Addr) (s:Sim K ρ' M' H') (g:Grow K ρ H ρ' H') (r:Rep K ρ' H' d v) (q:Q d M')
inductive BQ(ρ:List Addr)(H:Hp)(Q:Bool->Mem->Prop)(b:Bool)(H':Hp):Prop
 | mk (M':Mem) (ρ':List Addr) (s:Sim K ρ' M' H') (g:Grow K ρ H ρ' H') (q:Q b M')
inductive AQ(ρ:List Addr)(H:Hp)(Q:List D->Mem->Prop)(vs:List V)(H':Hp):Prop
 | mk (ds:List D) (M':Mem) (ρ':List Addr) (s:Sim K ρ' M' H') (g:Grow K ρ H ρ' H') (r:Reps K ρ' H' ds vs) (q:Q ds M')
inductive SQ(ρ:List Addr)(H:Hp)(Q:SD->Mem->Prop)(σ':St)(H':Hp):Prop
 | mk (S':SD) (M':Mem) (ρ':List Addr) (s:Sim K ρ' M' H') (g:Grow K ρ H ρ' H') (r:SRep K ρ' H' S' σ') (q:Q S' M')
structure Ups(ρ:List Addr)(H:Hp)(F:DEnds)(E:Ends):Prop where
 nx:∀σ' H',SQ K ρ H F.nx σ' H'->E.nx σ' H'
 rt:∀v H',VQ K ρ H F.rt v H'->E.rt v H'
 bk:∀σ' H',SQ K ρ H F.bk σ' H'->E.bk σ' H'
 ct:∀σ' H',SQ K ρ H F.ct σ' H'->E.ct σ' H'
inductive lowE(t:DTE)(σ:St)(H:Hp)(R:VK):Prop
 | mk (S:SD) (M:Mem) (ρ:List Addr) (Q:DK) (s:Sim K ρ M H) (sr:SRep K ρ H S σ) (q:t S M Q) (k:∀v H',VQ K ρ H Q v H'->R v H')
inductive lowT(t:DTT)(σ:St)(H:Hp)(R:Bool->Hp->Prop):Prop
 | mk (S:SD) (M:Mem) (ρ:List Addr) (Q:Bool->Mem->Prop) (s:Sim K ρ M H) (sr:SRep K ρ H S σ) (q:t S M Q) (k:∀v H',BQ K ρ H Q v H'->R v H')
inductive lowA(t:DTA)(σ:St)(H:Hp)(R:List V->Hp->Prop):Prop
 | mk (S:SD) (M:Mem) (ρ:List Addr) (Q:List D->Mem->Prop) (s:Sim K ρ M H) (sr:SRep K ρ H S σ) (q:t S M Q) (k:∀v H',AQ K ρ H Q v H'->R v H')
inductive lowS(t:DTS)(E:Ends)(σ:St)(H:Hp):Prop
 | mk (S:SD) (M:Mem) (ρ:List Addr) (F:DEnds) (s:Sim K ρ M H) (sr:SRep K ρ H S σ) (q:t F S M) (k:Ups K ρ H F E)
inductive lowG(g:DTG)(v:V)(σ:St)(H:Hp)(R:St->Hp->Prop):Prop
 | mk (d:D) (S:SD) (M:Mem) (ρ:List Addr) (Q:SD->Mem->Prop) (s:Sim K ρ M H) (sr:SRep K ρ H S σ) (r:Rep K ρ H d v) (q:g d S M Q) (k:∀σ' H',SQ K ρ H Q σ' H'->R σ' H')
inductive lowGs(g:Et)(vs:List V)(σ:St)(H:Hp)(R:St->Hp->Prop):Prop
 | mk (ds:List D) (S:SD) (M:Mem) (ρ:List Addr) (Q:SD->Mem->Prop) (s:Sim K ρ M H) (sr:SRep K ρ H S σ) (r:Reps K ρ H ds vs) (q:g ds S M Q) (k:∀σ' H',SQ K ρ H Q σ' H'->R σ' H')
inductive lowR(r:DR2)(vx vy:V)(H:Hp)(R:VK):Prop
 | mk (x y:D) (M:Mem) (ρ:List Addr) (Q:DK) (s:Sim K ρ M H) (r1:Rep K ρ H x vx) (r2:Rep K ρ H y vy) (q:r x y M Q) (k:∀v H',VQ K ρ H Q v H'->R v H')
inductive lowU(r:DR1)(vx:V)(H:Hp)(R:VK):Prop
 | mk (x:D) (M:Mem) (ρ:List Addr) (Q:DK) (s:Sim K ρ M H) (r1:Rep K ρ H x vx) (q:r x M Q) (k:∀v H',VQ K ρ H Q v H'->R v H')
inductive lowC(r:DRA)(vs:List V)(H:Hp)(R:VK):Prop
 | mk (ds:List D) (M:Mem) (ρ:List Addr) (Q:DK) (s:Sim K ρ M H) (r1:Reps K ρ H ds vs) (q:r ds M Q) (k:∀v H',VQ K ρ H Q v H'->R v H')
end
def DE(X:Cx)(e:Expr)(t:DTE):Prop:=PE X e (lowE X.K t)
def DT(X:Cx)(e:Expr)(t:DTT):Prop:=PT X e (lowT X.K t)
def DW(X:Cx)(e:Expr)(t:DTT):Prop:=PW X e (lowT X.K t)
def DA(X:Cx)(es:List Expr)(t:DTA):Prop:=PA X es (lowA X.K t)
def DS(X:Cx)(st:Stmt)(t:DTS):Prop:=PS X st (lowS X.K t)
def DSs(X:Cx)(st:List Stmt)(t:DTS):Prop:=PSs X st (lowS X.K t)
def DG(X:Cx)(tg:Expr)(g:DTG):Prop:=PG X tg (lowG X.K g)
def DGs(X:Cx)(tg:List Expr)(g:Et):Prop:=PGs X tg (lowGs X.K g)
def OpD(X:Cx)(f:Value->Value->Sem Value)(r:DR2):Prop:=OpR X f (lowR X.K r)
def UnD(X:Cx)(f:Value->Sem Value)(r:DR1):Prop:=UnR X f (lowU X.K r)
def mX(X:Cx)(f:Value)(r:DRA):Prop:=iI X f (lowC X.K r)
section
variable{K:AA5}{ρ ρ1:List Addr}{H H1:Hp}
def VQ.trans(g:Grow K ρ H ρ1 H1)(h:VQ K ρ1 H1 Q v H'):VQ K ρ H Q v H':=by
 obtain⟨d,M',ρ',s,g',r,q⟩:=h;exact⟨d,M',ρ',s,g.trans g',r,q⟩
def BQ.trans(g:Grow K ρ H ρ1 H1)(h:BQ K ρ1 H1 Q v H'):BQ K ρ H Q v H':=by
 obtain⟨M',ρ',s,g',q⟩:=h;exact⟨M',ρ',s,g.trans g',q⟩
def SQ.trans(g:Grow K ρ H ρ1 H1)(h:SQ K ρ1 H1 Q v H'):SQ K ρ H Q v H':=by
 obtain⟨d,M',ρ',s,g',r,q⟩:=h;exact⟨d,M',ρ',s,g.trans g',r,q⟩
def Ups.trans(g:Grow K ρ H ρ1 H1)(h:Ups K ρ H F E):Ups K ρ1 H1 F E :=
 ⟨λσ' H' q=>h.nx σ' H' (SQ.trans g q),λv H' q=>h.rt v H' (VQ.trans g q),λσ' H' q=>h.bk σ' H' (SQ.trans g q),λσ' H' q=>h.ct σ' H' (SQ.trans g q)⟩
def VQ.now(s:Sim K ρ M H)(r:Rep K ρ H d v)(q:Q d M):VQ K ρ H Q v H:=⟨d,M,ρ,s,.refl,r,q⟩
end
section
variable{K:AA5}{ρ:List Addr}{H:Hp}{v:V}{vs:List V}
def Rep.inv_non(h:Rep K ρ H .non v):v=.non:=by cases h;rfl
def Rep.inv_bl(h:Rep K ρ H (.bl b) v):v=.bl b:=by cases h;rfl
def Rep.inv_int(h:Rep K ρ H (.int i) v):v=.int i:=by cases h;rfl
def Rep.inv_str(h:Rep K ρ H (.str x) v):v=.str x:=by cases h;rfl
def Rep.inv_ty(h:Rep K ρ H (.ty n) v):v=.ty n:=by cases h;rfl
def Rep.inv_tup(h:Rep K ρ H (.tup ds) v):∃a vs,v=.ref a/\SqT K H a vs/\Reps K ρ H ds vs:=by cases h with | tup h r=>exact⟨_,_,rfl,h,r⟩
def Rep.inv_ref(h:Rep K ρ H (.ref n) v):∃a,v=.ref a/\ρ[n]?=some a:=by cases h with | ref h=>exact⟨_,rfl,h⟩
def aw.inv_cons(h:aw (x::vs) us):∃u ws,us=u::ws/\aU x u/\aw vs ws:=by cases h with | cons h t=>exact⟨_,_,rfl,h,t⟩
def aw.inv_nil(h:aw [] us):us=[]:=by cases h;rfl
def Reps.inv_nil(h:Reps K ρ H [] vs):vs=[]:=by cases h;rfl
def Reps.inv_cons(h:Reps K ρ H (d::ds) vs):∃v ws,vs=v::ws/\Rep K ρ H d v/\Reps K ρ H ds ws:=by cases h with | cons h t=>exact⟨_,_,rfl,h,t⟩
end
def PE.imp(h:PE X e t')(i:∀σ H R,t σ H R->t' σ H R):PE X e t:=λpins s σ H R I q=>h pins s σ H R I (i σ H R q)
def PT.imp(h:PT X e t')(i:∀σ H R,t σ H R->t' σ H R):PT X e t:=λpins s σ H R I q=>h pins s σ H R I (i σ H R q)
def PW.imp(h:PW X e t')(i:∀σ H R,t σ H R->t' σ H R):PW X e t:=λw pins s σ H R I q=>h w pins s σ H R I (i σ H R q)
def PA.imp(h:PA X e t')(i:∀σ H R,t σ H R->t' σ H R):PA X e t:=λpos pins s σ H R I q=>h pos pins s σ H R I (i σ H R q)
def PS.imp(h:PS X e t')(i:∀E σ H,t E σ H->t' E σ H):PS X e t:=λpins s σ H R I q=>h pins s σ H R I (i R σ H q)
def PSs.imp(h:PSs X e t')(i:∀E σ H,t E σ H->t' E σ H):PSs X e t:=λpins s σ H R I q=>h pins s σ H R I (i R σ H q)
def OpR.imp(h:OpR X f r')(i:∀x y H R,r x y H R->r' x y H R):OpR X f r:=λpins s σ H x y v u R I a b q=>h pins s σ H x y v u R I a b (i x y H R q)
def iI.imp(h:iI X f r')(i:∀xs H R,r xs H R->r' xs H R):iI X f r:=λpins s σ H xs us R I a q=>h pins s σ H xs us R I a (i xs H R q)
section
variable{X:Cx}{a b c:Expr}{ta tb tc:DTE}{pos:Pos}
def ab(i:Nat):DTE:=λS M Q=>match S[i]? with
 | some (some d)=>Q d M
 | _=>False
def dC(d:D):DTE:=λ_ M Q=>Q d M
def Cm{K:AA5}{i:Nat}(σ:St)(H:Hp)(R:VK)(h:lowE K (ab i) σ H R):tVar i σ H R:=by
 obtain⟨S,M,ρ,Q,s,r,q,k⟩:=h;unfold ab at q;cases e:S[i]? with
 | none=>rw[e]at q;exact q.elim
 | some o =>
  cases o with
  | none=>rw[e]at q;exact q.elim
  | some d =>
   rw[e]at q;obtain⟨v,hv,rv⟩:=r.get i d e;exact⟨v,hv,k v H (VQ.now s rv q)⟩
def d_var(hN:X.N[i]?=some x:=by rfl)(hv:Vis X.env.scope x:=by first | exact Or.inl rfl | exact Or.inr (Or.inl rfl) | exact Or.inr (Or.inr rfl))(hd:(x==("__debug__":Str))=false:=by decide)
  (hcd:(x==("__classdict__":Str))=false:=by decide):DE X (.Name x pos) (ab i):=PE.imp (Dw hN hv hd hcd) Cm
def cV:D->Option V
 | .non=>some .non
 | .bl b=>some (.bl b)
 | .int i=>some (.int i)
 | .str x=>some (.str x)
 | .ty n=>some (.ty n)
 | _=>none
def AT{K:AA5}{ρ:List Addr}{H:Hp}{d:D}{v:V}(h:cV d=some v):Rep K ρ H d v:=by
 cases d with
 | non=>cases h;exact .non
 | bl b=>cases h;exact .bl b
 | int b=>cases h;exact .int b
 | str b=>cases h;exact .str b
 | ty b=>cases h;exact .ty b
 | tup b=>cases h
 | ref b=>cases h
def vZ{K:AA5}{d:D}{v:V}(hd:cV d=some v)(σ:St)(H:Hp)(R:VK)(h:lowE K (dC d) σ H R):tC v σ H R:=by
 obtain⟨S,M,ρ,Q,s,r,q,k⟩:=h;exact k v H (VQ.now s (AT hd) q)
def d_int{i:Int}{j:Nat}:DE X (.Constant (.int i) j pos) (dC (.int i)):=PE.imp HJ (vZ rfl)
def d_bl{i:Bool}{j:Nat}:DE X (.Constant (.bool i) j pos) (dC (.bl i)):=PE.imp pe_bl (vZ rfl)
def d_non{j:Nat}:DE X (.Constant .none j pos) (dC .non):=PE.imp HF (vZ rfl)
def d_str{i:Str}{j:Nat}:DE X (.Constant (.str i) j pos) (dC (.str i)):=PE.imp Hy (vZ rfl)
def low2{K:AA5}{S:SD}{M:Mem}{ρ:List Addr}{σ:St}{H:Hp}{P:D->D->Mem->Prop}{G:V->V->Hp->Prop}(s:Sim K ρ M H)(r:SRep K ρ H S σ)(h:ta S M λx M1=>tb S M1 λy M2=>P x y M2)
  (k:∀x y vx vy M2 ρ2 H2,Sim K ρ2 M2 H2->Grow K ρ H ρ2 H2->Rep K ρ2 H2 x vx->Rep K ρ2 H2 y vy->P x y M2->G vx vy H2):lowE K ta σ H λvx H1=>lowE K tb σ H1 λvy H2=>G vx vy H2:=by
 refine⟨S,M,ρ,_,s,r,h,λvx H1 ⟨x,M1,ρ1,s1,g1,r1,q1⟩=>⟨S,M1,ρ1,_,s1,r.grow g1,q1,λvy H2 ⟨y,M2,ρ2,s2,g2,r2,q2⟩=>?_⟩⟩
 exact k x y vx vy M2 ρ2 H2 s2 (g1.trans g2) (r1.grow g2) r2 q2
def dOp(r:DR2)(ta tb:DTE):DTE:=λS M Q=>ta S M λx M1=>tb S M1 λy M2=>r x y M2 Q
def pf{K:AA5}{r:DR2}(σ:St)(H:Hp)(R:VK)(h:lowE K (dOp r ta tb) σ H R):tOp (lowR K r) (lowE K ta) (lowE K tb) σ H R:=by
 obtain⟨S,M,ρ,Q,s,sr,q,k⟩:=h;exact low2 s sr q λx y vx vy M2 ρ2 H2 s2 g2 r1 r2 q2=>⟨x,y,M2,ρ2,Q,s2,r1,r2,q2,λv H' w=>k v H' (VQ.trans g2 w)⟩
def d_op(ho:OpD X (binaryOp op) r)(ha:DE X a ta)(hb:DE X b tb):DE X (.BinOp a op b pos) (dOp r ta tb):=PE.imp (pe_op ho ha hb) pf
def d_cmp(ho:OpD X (compareOp op) r)(ha:DE X a ta)(hb:DE X b tb)(hm:behindInMarks op b=false:=by with_unfolding_all rfl):DE X (.Compare a [op] [b] pos) (dOp r ta tb):=PE.imp (Fe ho ha hb hm) pf
def aB(t:DTE):DTT:=λS M Q=>t S M λx M'=>match x with
 | .bl b=>Q b M'
 | _=>False
def rA{K:AA5}{t:DTE}(σ:St)(H:Hp)(R:Bool->Hp->Prop)(h:lowT K (aB t) σ H R):GU (lowE K t) σ H R:=by
 obtain⟨S,M,ρ,Q,s,sr,q,k⟩:=h;refine⟨S,M,ρ,_,s,sr,q,λv H' ⟨d,M',ρ',s',g',r',q'⟩=>?_⟩
 cases r' with
 | bl b=>exact⟨b,rfl,k b H' ⟨M',ρ',s',g',q'⟩⟩
 | _=>exact q'.elim
def Jl(ho:OpD X (compareOp op) r)(ha:DE X a ta)(hb:DE X b tb)(hm:behindInMarks op b=false:=by with_unfolding_all rfl):DT X (.Compare a [op] [b] pos) (aB (dOp r ta tb)):=by
 refine PT.imp (EW ho ha hb hm) λσ H R h=>?_
 obtain⟨S,M,ρ,Q,s,sr,q,k⟩:=rA σ H R h;exact pf σ H _ ⟨S,M,ρ,Q,s,sr,q,k⟩
def Jj(h:DE X e t)(he:∀whole,isTrue e X.env whole=(do let v <-whole;standAt e.pos;holding [v] (truthy v)):=by intro _;rfl):DT X e (aB t):=PT.imp (Hm h he) rA
def onB(z:D)(k:Bool->Prop):Prop:=match z with
 | .bl b=>k b
 | _=>False
def Dx{b:Bool}{k:Bool->Prop}:onB (.bl b) k=k b:=rfl
def sw(r r':DR2)(ta tb tc:DTE):DTE:=λS M Q=>ta S M λx M1=>tb S M1 λy M2=>r x y M2 λz M3=>onB z λb=>if b=true then tc S M3 λw M4=>r' y w M4 Q else Q (.bl false) M3
def xy{K:AA5}{r r':DR2}(σ:St)(H:Hp)(R:VK)(h:lowE K (sw r r' ta tb tc) σ H R):Du (lowR K r) (lowR K r') (lowE K ta) (lowE K tb) (lowE K tc) σ H R:=by
 obtain⟨S,M,ρ,Q,s,sr,q,k⟩:=h;refine low2 s sr q λx y vx vy M2 ρ2 H2 s2 g2 r1 r2 q2=>⟨x,y,M2,ρ2,_,s2,r1,r2,q2,λvz H3 ⟨z,M3,ρ3,s3,g3,r3,q3⟩=>?_⟩
 cases r3 with
 | bl b =>
  cases b with
  | false=>exact⟨false,rfl,bJ (k _ H3 ⟨_,M3,ρ3,s3,g2.trans g3,.bl false,(show Q (.bl false) M3 from q3)⟩)⟩
  | true =>
   refine⟨true,rfl,bT ⟨S,M3,ρ3,_,s3,sr.grow (g2.trans g3),(show tc S M3 _ from q3),λvw H4 ⟨w,M4,ρ4,s4,g4,r4,q4⟩=>?_⟩⟩
   exact⟨y,w,M4,ρ4,Q,s4,r2.grow (g3.trans g4),r4,q4,λv H' w'=>k v H' (VQ.trans ((g2.trans g3).trans g4) w')⟩
 | _=>exact q3.elim
def Gn(ho:OpD X (compareOp op) r)(ho':OpD X (compareOp op') r')(ha:DE X a ta)(hb:DE X b tb)(hc:DE X c tc)(hm:lastMarks [op,op'] [b,c]=false:=by with_unfolding_all rfl) :
  DE X (.Compare a [op,op'] [b,c] pos) (sw r r' ta tb tc):=PE.imp (BT ho ho' ha hb hc hm) xy
variable{tA tB:DTT}{bc:List Expr}
def Gp(t u:DTT):DTT:=λS M Q=>t S M λb M1=>if b=true then u S M1 Q else Q false M1
def dOr(t u:DTT):DTT:=λS M Q=>t S M λb M1=>if b=true then Q true M1 else u S M1 Q
def dNot(t:DTT):DTT:=λS M Q=>t S M λb M1=>Q (!b) M1
def FV(ha:DT X a tA):DW X (.BoolOp .And [a] pos) tA:=ES ha
def Jh(ha:DT X a tA):DW X (.BoolOp .Or [a] pos) tA:=Hj ha
def Ji(ha:DT X a tA)(hb:DW X (.BoolOp .And (b::bc) pos) tB):DW X (.BoolOp .And (a::b::bc) pos) (Gp tA tB):=by
 refine PW.imp (Hk ha hb) λσ H R ⟨S,M,ρ,Q,s,sr,q,k⟩=>⟨S,M,ρ,_,s,sr,q,λc H1 ⟨M1,ρ1,s1,g1,q1⟩=>?_⟩
 cases c with
 | true=>exact bT ⟨S,M1,ρ1,Q,s1,sr.grow g1,(show tB S M1 Q from q1),λv H' w=>k v H' (BQ.trans g1 w)⟩
 | false=>exact bJ (k false H1 ⟨M1,ρ1,s1,g1,q1⟩)
def dw_or(ha:DT X a tA)(hb:DW X (.BoolOp .Or (b::bc) pos) tB):DW X (.BoolOp .Or (a::b::bc) pos) (dOr tA tB):=by
 refine PW.imp (pw_or ha hb) λσ H R ⟨S,M,ρ,Q,s,sr,q,k⟩=>⟨S,M,ρ,_,s,sr,q,λc H1 ⟨M1,ρ1,s1,g1,q1⟩=>?_⟩
 cases c with
 | false=>exact bJ ⟨S,M1,ρ1,Q,s1,sr.grow g1,(show tB S M1 Q from q1),λv H' w=>k v H' (BQ.trans g1 w)⟩
 | true=>exact bT (k true H1 ⟨M1,ρ1,s1,g1,q1⟩)
def dw_t(h:DW X e t):DT X e t:=PW.pt h
def Jk(ha:DT X a tA):DT X (.UnaryOp .Not a pos) (dNot tA) :=
 PT.imp (Hn ha) λσ H R ⟨S,M,ρ,Q,s,sr,q,k⟩=>⟨S,M,ρ,_,s,sr,q,λc H1 ⟨M1,ρ1,s1,g1,q1⟩=>k (!c) H1 ⟨M1,ρ1,s1,g1,q1⟩⟩
def sy(ta tb:DTE):DTE:=λS M Q=>ta S M λx M1=>onB x λb=>if b=true then tb S M1 Q else Q (.bl false) M1
def JD(ta tb:DTE):DTE:=λS M Q=>ta S M λx M1=>onB x λb=>if b=true then Q (.bl true) M1 else tb S M1 Q
def Dd(ta:DTE):DTE:=λS M Q=>ta S M λx M1=>match x with
 | .bl b=>Q (.bl (!b)) M1
 | _=>False
def d_one{op}(h:DE X a ta):DE X (.BoolOp op [a] pos) ta:=Hz h
def d_and(ha:DE X a ta)(hb:DE X (.BoolOp .And (b::bc) pos) tb):DE X (.BoolOp .And (a::b::bc) pos) (sy ta tb):=by
 refine PE.imp (HL ha hb) λσ H R ⟨S,M,ρ,Q,s,sr,q,k⟩=>⟨S,M,ρ,_,s,sr,q,λv H1 ⟨d,M1,ρ1,s1,g1,r1,q1⟩=>?_⟩
 cases r1 with
 | bl c =>
  cases c with
  | true=>exact⟨true,rfl,bT ⟨S,M1,ρ1,Q,s1,sr.grow g1,(show tb S M1 Q from q1),λv H' w=>k v H' (VQ.trans g1 w)⟩⟩
  | false=>exact⟨false,rfl,bJ (k _ H1 ⟨_,M1,ρ1,s1,g1,.bl false,(show Q (.bl false) M1 from q1)⟩)⟩
 | _=>exact q1.elim
def d_or(ha:DE X a ta)(hb:DE X (.BoolOp .Or (b::bc) pos) tb):DE X (.BoolOp .Or (a::b::bc) pos) (JD ta tb):=by
 refine PE.imp (pe_or ha hb) λσ H R ⟨S,M,ρ,Q,s,sr,q,k⟩=>⟨S,M,ρ,_,s,sr,q,λv H1 ⟨d,M1,ρ1,s1,g1,r1,q1⟩=>?_⟩
 cases r1 with
 | bl c =>
  cases c with
  | false=>exact⟨false,rfl,bJ ⟨S,M1,ρ1,Q,s1,sr.grow g1,(show tb S M1 Q from q1),λv H' w=>k v H' (VQ.trans g1 w)⟩⟩
  | true=>exact⟨true,rfl,bT (k _ H1 ⟨_,M1,ρ1,s1,g1,.bl true,(show Q (.bl true) M1 from q1)⟩)⟩
 | _=>exact q1.elim
def d_not(ha:DE X a ta):DE X (.UnaryOp .Not a pos) (Dd ta):=by
 refine PE.imp (HD ha) λσ H R ⟨S,M,ρ,Q,s,sr,q,k⟩=>⟨S,M,ρ,_,s,sr,q,λv H1 ⟨d,M1,ρ1,s1,g1,r1,q1⟩=>?_⟩
 cases r1 with
 | bl c=>exact⟨c,rfl,k _ H1 ⟨_,M1,ρ1,s1,g1,.bl (!c),q1⟩⟩
 | _=>exact q1.elim
def dIfE(t:DTT)(ta tb:DTE):DTE:=λS M Q=>t S M λb M1=>if b=true then ta S M1 Q else tb S M1 Q
def Gm(hc:DT X t tA)(ha:DE X a ta)(hb:DE X b tb):DE X (.IfExp t a b pos) (dIfE tA ta tb):=by
 refine PE.imp (BR hc ha hb) λσ H R ⟨S,M,ρ,Q,s,sr,q,k⟩=>⟨S,M,ρ,_,s,sr,q,λc H1 ⟨M1,ρ1,s1,g1,q1⟩=>?_⟩
 cases c with
 | true=>exact bT ⟨S,M1,ρ1,Q,s1,sr.grow g1,(show ta S M1 Q from q1),λv H' w=>k v H' (VQ.trans g1 w)⟩
 | false=>exact bJ ⟨S,M1,ρ1,Q,s1,sr.grow g1,(show tb S M1 Q from q1),λv H' w=>k v H' (VQ.trans g1 w)⟩
variable{e:Expr}{es:List Expr}{te:DTE}{t:DTA}
def af:DTA:=λ_ M Q=>Q [] M
def aa(te:DTE)(t:DTA):DTA:=λS M Q=>te S M λd M1=>t S M1 λds M2=>Q (d::ds) M2
def Jy:DA X [] af:=PA.imp HM λσ H R ⟨S,M,ρ,Q,s,sr,q,k⟩=>k [] H ⟨[],M,ρ,s,.refl,.nil,q⟩
def Gj(ha:DE X e te)(hr:DA X es t)(hs:starEach (e::es) X.env=(false,eval e X.env)::starEach es X.env:=by rfl):DA X (e::es) (aa te t) :=
 PA.imp (Fg ha hr hs) λσ H R ⟨S,M,ρ,Q,s,sr,q,k⟩=>⟨S,M,ρ,_,s,sr,q,λv H1 ⟨d,M1,ρ1,s1,g1,r1,q1⟩=>⟨S,M1,ρ1,_,s1,sr.grow g1,q1,λvs H2 ⟨ds,M2,ρ2,s2,g2,r2,q2⟩ =>
  k _ H2 ⟨d::ds,M2,ρ2,s2,g1.trans g2,.cons (r1.grow g2) r2,q2⟩⟩⟩
def fy(t:DTA):DTE:=λS M Q=>t S M λds M1=>ds.length<=sizeLine/\Q (.tup ds) M1
def kD(t:DTA):DTE:=λS M Q=>t S M λds M1=>ds.length<=sizeLine/\Q (.ref M1.length) (M1++[.lst ds])
def VQ.laidT{K:AA5}{ρ ρ1:List Addr}{H H1:Hp}{M1:Mem}{ds:List D}{vs:List V}{Q:DK}{p:Addr}(s1:Sim K ρ1 M1 H1)(g1:Grow K ρ H ρ1 H1)(r1:Reps K ρ1 H1 ds vs)(hp:H1 p=none)(q:Q (.tup ds) M1):VQ K ρ H Q (.ref p) (upd H1 p (.tup vs)) :=
 ⟨.tup ds,M1,ρ1,s1.laid hp,g1.trans (Grow.laid hp),.tup (SqT.of aJ) (r1.grow (Grow.laid hp)),q⟩
def VQ.laidL{K:AA5}{ρ ρ1:List Addr}{H H1:Hp}{M1:Mem}{ds:List D}{vs:List V}{Q:DK}{p:Addr}(s1:Sim K ρ1 M1 H1)(g1:Grow K ρ H ρ1 H1)(r1:Reps K ρ1 H1 ds vs)(hp:H1 p=none)(q:Q (.ref M1.length) (M1++[.lst ds])):VQ K ρ H Q (.ref p) (upd H1 p (.lst vs)) :=
 ⟨.ref M1.length,M1++[.lst ds],ρ1++[p],s1.laidL hp r1,g1.trans (Grow.laidR hp),.ref s1.last,q⟩
def d_tup{x1}(h:DA X es t):DE X (.Tuple es x1 pos) (fy t) :=
 PE.imp (Hw h) λσ H R ⟨S,M,ρ,Q,s,sr,q,k⟩=>⟨S,M,ρ,_,s,sr,q,λvs H1 ⟨ds,M1,ρ1,s1,g1,r1,z,q1⟩=>⟨by rw[<-r1.length];exact z,λp hp=>k _ _ (VQ.laidT s1 g1 r1 hp q1)⟩⟩
def d_lst(h:DA X es t):DE X (.List es pos) (kD t) :=
 PE.imp (HH h) λσ H R ⟨S,M,ρ,Q,s,sr,q,k⟩=>⟨S,M,ρ,_,s,sr,q,λvs H1 ⟨ds,M1,ρ1,s1,g1,r1,z,q1⟩=>⟨by rw[<-r1.length];exact z,λp hp=>k _ _ (VQ.laidL s1 g1 r1 hp q1)⟩⟩
def dCB(r:DRA)(t:DTA):DTE:=λS M Q=>t S M λds M1=>r ds M1 Q
def zG{K:AA5}{r:DRA}(σ:St)(H:Hp)(R:VK)(h:lowE K (dCB r t) σ H R):tCB (lowC K r) (lowA K t) σ H R:=by
 obtain⟨S,M,ρ,Q,s,sr,q,k⟩:=h;exact⟨S,M,ρ,_,s,sr,q,λvs H1 ⟨ds,M1,ρ1,s1,g1,r1,q1⟩=>⟨ds,M1,ρ1,Q,s1,r1,q1,λv H' w=>k v H' (VQ.trans g1 w)⟩⟩
theorem Go{x:Str}{p:Pos}{id:String}{r:DRA}(hc:mX X (.builtin id) r)(hm:X.mg x=none)(hv:bootBuiltins x=some (.builtin id))(ha:DA X (e::es) t)(hg:Gl X x:=by rfl)(hn:x≠"__name__":=by decide)(hdb:(x==("__debug__":Str))=false:=by decide)
  (he:starEach (e::es) X.env=(false,eval e X.env)::starEach es X.env:=by rfl) (hpl:(backTo pos (starEach es X.env)).any (·.1)=false:=by rfl):DE X (.Call (.Name x p) (e::es) [] pos) (dCB r t) :=
 PE.imp (BU hc hg hm hv ha hn hdb he hpl) zG
def Dc(hc:mX X (.type T) r)(hm:X.mg x=none)(hv:bootBuiltins x=some (.type T))(ha:DA X (e::es) t)(hg:Gl X x:=by rfl)(hn:x≠"__name__":=by decide)(hdb:(x==("__debug__":Str))=false:=by decide)
  (he:starEach (e::es) X.env=(false,eval e X.env)::starEach es X.env:=by rfl) (hpl:(backTo pos (starEach es X.env)).any (·.1)=false:=by rfl):DE X (.Call (.Name x p) (e::es) [] pos) (dCB r t) :=
 PE.imp (zg hc hg hm hv ha hn hdb he hpl) zG
abbrev DSp:=List D->Mem->DK->Prop
def spL(K:AA5)(P:DSp):Sp:=λvs H Q _=>∃ds M ρ R,Sim K ρ M H/\Reps K ρ H ds vs/\P ds M R/\∀v H',VQ K ρ H R v H'->Q v H'
def zE{K:AA5}{P:DSp}(σ:St)(H:Hp)(R:VK)(h:lowE K (dCB P t) σ H R):GX (spL K P) [] E0 (lowA K t) σ H R:=by
 obtain⟨S,M,ρ,Q,s,sr,q,k⟩:=h;exact⟨S,M,ρ,_,s,sr,q,λvs H1 ⟨ds,M1,ρ1,s1,g1,r1,q1⟩=>⟨ds,M1,ρ1,Q,s1,by rw[AB7];exact r1,q1,λv H' w=>k v H' (VQ.trans g1 w)⟩⟩
def JC(F:FnOk X.prog X.w X.K X.mg X.base CX0 k f fd ps (spL X.K P))(hr:Room k X.A)(hm:X.mg x=some (.ref f))(hk:ACS X.K (.ref f)=true)(hb:sM X.K fd ps [])
  (ha:DA X (e::es) t) (hg:Gl X x:=by rfl) (hdb:(x==("__debug__":Str))=false:=by decide) (he:starEach (e::es) X.env=(false,eval e X.env)::starEach es X.env:=by rfl) (hpl:(backTo pos (starEach es X.env)).any (·.1)=false:=by rfl) :
  DE X (.Call (.Name x p) (e::es) [] pos) (dCB P t):=PE.imp (Ff F hr hg hm hk hb .nil pass0 ha hdb he hpl) zE
end
section
variable{X:Cx}{st:Stmt}{bc:List Stmt}{t u:DTS}{e:Expr}{te:DTE}{pos:Pos}
def bq:DTS:=λE S M=>E.nx S M
def ax(t u:DTS):DTS:=λE S M=>t { E with nx:=λS' M'=>u E S' M' } S M
def Jp:DSs X [] bq:=PSs.imp EY λE σ H ⟨S,M,ρ,F,s,sr,q,k⟩=>k.nx σ H ⟨S,M,ρ,s,.refl,sr,q⟩
def Jo(h:DS X st t):DSs X [st] t:=EX h
def Ga(h1:DS X st t)(h2:DSs X bc u):DSs X (st::bc) (ax t u) :=
 PSs.imp (BI h1 h2) λE σ H ⟨S,M,ρ,F,s,sr,q,k⟩=>⟨S,M,ρ,_,s,sr,q,⟨λσ' H' ⟨S',M',ρ',s',g',sr',q'⟩=>⟨S',M',ρ',F,s',sr',q',k.trans g'⟩,k.rt,k.bk,k.ct⟩⟩
def jW(te:DTE):DTS:=λE S M=>te S M λ_ M1=>E.nx S M1
def FZ(he:DE X e te)(hs:swapsWith e none pos.line X.env=pure false:=by rfl):DS X (.Expr e pos) (jW te) :=
 PS.imp (EZ he hs) λE σ H ⟨S,M,ρ,F,s,sr,q,k⟩=>⟨S,M,ρ,_,s,sr,q,λv H1 ⟨d,M1,ρ1,s1,g1,r1,q1⟩=>k.nx σ H1 ⟨S,M1,ρ1,s1,g1,sr.grow g1,q1⟩⟩
def bw(te:DTE):DTS:=λE S M=>te S M E.rt
def Jn(he:DE X e te):DS X (.Return (some e) pos) (bw te) :=
 PS.imp (Hq he) λE σ H ⟨S,M,ρ,F,s,sr,q,k⟩=>⟨S,M,ρ,_,s,sr,q,λv H1 w=>k.rt v H1 w⟩
def dIf(c:DTT)(t u:DTS):DTS:=λE S M=>c S M λb M1=>if b=true then t E S M1 else u E S M1
def ds_if(hc:DT X c tc)(ha:DSs X a t)(hb:DSs X b u):DS X (.If c a b pos) (dIf tc t u):=by
 refine PS.imp (ps_if hc ha hb) λE σ H ⟨S,M,ρ,F,s,sr,q,k⟩=>⟨S,M,ρ,_,s,sr,q,λc H1 ⟨M1,ρ1,s1,g1,q1⟩=>?_⟩
 cases c with
 | true=>exact bT ⟨S,M1,ρ1,F,s1,sr.grow g1,(show t F S M1 from q1),k.trans g1⟩
 | false=>exact bJ ⟨S,M1,ρ1,F,s1,sr.grow g1,(show u F S M1 from q1),k.trans g1⟩
def aX(te:DTE)(i:Nat):DTS:=λE S M=>te S M λd M1=>E.nx (S.set i (some d)) M1
def Jm(hN:X.N.Nodup)(he:DE X e te)(hi:X.N[i]?=some x:=by rfl)(hx:Loc X.env.scope x:=by first | exact Or.inl rfl | exact Or.inr rfl)(hs:swapsWith e (some (.Name x pos')) pos.line X.env=pure false:=by rfl)
  (hf:X.fn x=true\/X.env.scope.names.lookup x=some .local:=by first | exact .inl rfl | exact .inr rfl | assumption):DS X (.Assign [.Name x pos'] e pos) (aX te i) :=
 PS.imp (Ho hN hi hx he hs hf) λE σ H ⟨S,M,ρ,F,s,sr,q,k⟩=>⟨S,M,ρ,_,s,sr,q,λv H1 ⟨d,M1,ρ1,s1,g1,r1,q1⟩=>k.nx _ H1 ⟨_,M1,ρ1,s1,g1,(sr.grow g1).set i r1,q1⟩⟩
def am(i:Nat):DTG:=λd S M Q=>Q (S.set i (some d)) M
def ut(hN:X.N.Nodup)(hi:X.N[i]?=some x:=by rfl)(hx:Loc X.env.scope x:=by first | exact Or.inl rfl | exact Or.inr rfl)(hf:X.fn x=true\/X.env.scope.names.lookup x=some .local:=by first | exact .inl rfl | exact .inr rfl | assumption):DG X (.Name x pos) (am i) :=
 λpins s σ H v u R I r ⟨d,S,M,ρ,Q,sm,sr,rd,q,k⟩=>Fd hN hi hx hf pins s σ H v u R I r (k _ H ⟨_,M,ρ,sm,.refl,sr.set i rd,q⟩)
end
def wX{P:Program}{w:World}{K:AA5}{tg:Expr}(it:Addr)(n:Nat)(PV:Nat->Value->Prop)(PX:Nat->V->Prop)(Sx:Nat->Heap->Prop)
  (W:∀A':Around,A'.handled=none->Walks P w A' it [it] [it] n PV Sx) (hrel:∀i v,PV i v->∃x,aU x v/\PX i x)
  (hobj:∀i h,Sx i h->∃(o:Obj) (nm:String) (vs:Array Value),h.get? it=some o/\o.cls=.type nm/\o.data=.fields vs/\["enumerate","zip","dict_itemiterator","dict_reverseitemiterator","odict_iterator","itertools.zip_longest","itertools.pairwise"].contains nm=false)
  (hframe:∀(i:Nat) (h h':Heap),Sx i h->(∀o,h.get? it=some o->h'.get? it=some o)->Sx i h')
  (hself:∀(A:Around) (i:Nat) (s:Shared) (Q:Value->Shared->Prop) (E:Value->Shared->Prop),Sx i s.heap->Q (.ref it) s->wpAny (model P w) A (pyIter (.ref it)) Q E s) :
  Turn P w K tg ⟨λi _=>i<n,λi H x H'=>H'=H/\PX i x,λi _=>i=n⟩ [it] it Sx where
 mem:=by simp
 obj:=λi h st b hb=>by
  have e:b=it:=by simpa using hb
  subst e;obtain⟨o,nm,vs,e,_,d,_⟩:=hobj i h st;exact⟨o,e,λv z=>by rw[d]at z;cases z⟩
 keep:=λi h h' st k=>hframe i h h' st λo e=>k it (by simp) o e
 item:=by
  intro X hP hw hK hc i pins s σ H E I hf st hg;subst hP hw hK;obtain⟨f0,f1,f2,f3,f4,f5⟩:=hf it (by simp)
  refine(W X.A (I.ok.hd hc)).item i s _ _ hg st λv h' tk hv st' kk=>?_
  obtain⟨x,rx,px⟩:=hrel i v hv;have I1:Inv X pins σ H { s with heap:=h',toks:=tk }:=I.turned (λb o hb e=>kk b o (by simpa using hb) e) f0 f1 f3 f4 f5
  obtain⟨o,nm,vs,e,c,d,hn⟩:=hobj _ _ st';exact⟨v,rfl,xI (s:={ s with heap:=h',toks:=tk }) e c d hn ⟨x,H,I1,rx,⟨rfl,px⟩,st',λb hb=>(hf b hb).1⟩⟩
 done:=by
  intro X hP hw hK hc i pins s σ H E I hf st hg;subst hP hw hK;obtain⟨f0,f1,f2,f3,f4,f5⟩:=hf it (by simp)
  have hi:i=n:=hg;subst hi;exact(W X.A (I.ok.hd hc)).done s _ _ st λh' tk kk=>⟨rfl,I.turned (λb o hb e=>kk b o (by simpa using hb) e) f0 f1 f3 f4 f5⟩
 self:=hself
def yU(x:Str):List D:=x.cps.toList.map λc=>.str ⟨#[c]⟩
structure Src where
 items:List D
 ok:Mem->Prop
abbrev DTI:=SD->Mem->(Src->Mem->Prop)->Prop
structure ItD(K:AA5)(src:Src)(ρ0:List Addr)(H0:Hp)(J:It):Prop where
 go:∀(i:Nat) ρ M H,Sim K ρ M H->Grow K ρ0 H0 ρ H->src.ok M->i<src.items.length->J.go i H
 yld:∀(i:Nat) ρ M H x H',Sim K ρ M H->Grow K ρ0 H0 ρ H->src.ok M->i<src.items.length->J.yld i H x H'->∃d ρ',src.items[i]?=some d/\Sim K ρ' M H'/\Grow K ρ H ρ' H'/\Rep K ρ' H' d x
 stop:∀(ρ:List Addr) M H,Sim K ρ M H->Grow K ρ0 H0 ρ H->src.ok M->J.stop src.items.length H
def IQ(K:AA5)(ρ:List Addr)(H:Hp)(Q:Src->Mem->Prop):It->Hp->Prop:=λJ H'=>∃src M' ρ',Sim K ρ' M' H'/\Grow K ρ H ρ' H'/\ItD K src ρ' H' J/\Q src M'
def lowI(K:AA5)(di:DTI):TI:=λσ H R=>∃S M ρ Q,Sim K ρ M H/\SRep K ρ H S σ/\di S M Q/\∀J H',IQ K ρ H Q J H'->R J H'
def DI(X:Cx)(tg iter:Expr)(di:DTI):Prop:=PI X tg iter (lowI X.K di)
def ItD.tup{K:AA5}{ρ:List Addr}{H:Hp}{a:Addr}{vs:List V}{ds:List D}(h:SqT K H a vs)(r:Reps K ρ H ds vs)(uniq:∀ys,SqT K H a ys->ys=vs):ItD K ⟨ds,λ_=>True⟩ ρ H (Itt K a) where
 go:=λi ρ' M H' s g _ hi=>by
  have hl:i<vs.length:=by rw[<-r.length];exact hi
  exact⟨vs,vs[i],g.tup a vs h,AA6 hl⟩
 yld:=λi ρ' M H' x H2 s g _ hi y=>by
  obtain⟨rfl,y⟩:=y;obtain⟨d,hd,rd⟩:=(r.grow g).getV (y vs (g.tup a vs h));exact⟨d,ρ',hd,s,.refl,rd⟩
 stop:=λρ' M H' s g _=>⟨vs,g.tup a vs h,by rw[<-r.length];exact AA8 _⟩
def ItD.lst{K:AA5}{ρ:List Addr}{H:Hp}{n:Nat}{a:Addr}{ds:List D}(e:ρ[n]?=some a):ItD K ⟨ds,λM=>ar M n ds⟩ ρ H (Itl K a) where
 go:=λi ρ' M H' s g ok hi=>by
  obtain⟨vs,h,r⟩:=ar.seq s ok (aF g.pre e);have hl:i<vs.length:=by rw[<-r.length];exact hi
  exact⟨vs,vs[i],h,AA6 hl⟩
 yld:=λi ρ' M H' x H2 s g ok hi y=>by
  obtain⟨rfl,y⟩:=y;obtain⟨vs,h,r⟩:=ar.seq s ok (aF g.pre e);obtain⟨d,hd,rd⟩:=r.getV (y vs h);exact⟨d,ρ',hd,s,.refl,rd⟩
 stop:=λρ' M H' s g ok=>by
  obtain⟨vs,h,r⟩:=ar.seq s ok (aF g.pre e);exact⟨vs,h,by rw[<-r.length];exact AA8 _⟩
def ItD.plain{K:AA5}{ρ:List Addr}{H:Hp}{ds:List D}{J:It}(hg:∀i H,i<ds.length->J.go i H)(hy:∀i H x H',i<ds.length->J.yld i H x H'->H'=H/\∃d,ds[i]?=some d/\cV d=some x)(hs:∀H,J.stop ds.length H):ItD K ⟨ds,λ_=>True⟩ ρ H J where
 go:=λi ρ' M H' s g _ hi=>hg i H' hi
 yld:=λi ρ' M H' x H2 s g _ hi y=>by
  obtain⟨rfl,d,hd,hv⟩:=hy i _ x H2 hi y;exact⟨d,ρ',hd,s,.refl,AT hv⟩
 stop:=λρ' M H' s g _=>hs H'
section
variable{X:Cx}{tg:Expr}
def bP(te:DTE):DTI:=λS M R=>te S M λd M1=>match d with
 | .tup ds=>ds.length<=sizeLine->R ⟨ds,λ_=>True⟩ M1
 | .str x=>R ⟨yU x,λ_=>True⟩ M1
 | .ref n=>∃xs,ar M1 n xs/\(xs.length<=sizeLine->R ⟨xs,λM=>ar M n xs⟩ M1)
 | _=>False
def Jt(hl:DE X l tl):DI X tg l (bP tl):=by
 intro pins s σ H R I h;obtain⟨S,M,ρ,Q,sm,sr,q,k⟩:=h;refine thn (hl pins s σ H _ I ⟨S,M,ρ,_,sm,sr,q,λv H' w=>w⟩) λu s1 ⟨v,H1,I1,rv,d,M1,ρ1,sm1,g1,r1,q1⟩=>?_
 cases r1 with
 | non=>exact q1.elim
 | bl b=>exact q1.elim
 | int i=>exact q1.elim
 | ty n=>exact q1.elim
 | @tup a vs ds hq r =>
  cases rv
  obtain⟨its,rr,p,hz⟩:=I1.tuple hq;refine wpAny_pyIter_tuple (show s1.heap.IsTuple a its.toArray from p) ?_
  refine⟨s1.heap.objs.size,[s1.heap.objs.size],_,_,H1,rfl,I1.kept (t':=s1.toks) λb o e=>AA3 _ e,wY a _,⟨_,AAA _ rfl,rfl,rfl⟩,λb hb=>?_,k _ H1 ⟨⟨ds,λ_=>True⟩,M1,ρ1,sm1,g1,ItD.tup hq r λys hy=>I1.tuple_inj hy hq,?_⟩⟩
  ·have e:b=s1.heap.objs.size:=by simpa using hb
   subst e;exact I1.fpOk (AA8 _) (I1.hok.fresh (AA8 _))
  ·exact(show ds.length<=sizeLine->Q ⟨ds,λ_=>True⟩ M1 from q1) (by rw[r.length];exact hz)
 | @ref n a hn =>
  cases rv
  obtain⟨xs,hL,q2⟩:=(show ∃xs,ar M1 n xs/\(xs.length<=sizeLine->Q ⟨xs,λM=>ar M n xs⟩ M1)from q1)
  obtain⟨vs,hq,r⟩:=ar.seq sm1 hL hn;obtain⟨its,rr,p,hz⟩:=I1.list hq;refine wpAny_pyIter_list p.isList ?_
  refine⟨s1.heap.objs.size,[s1.heap.objs.size],_,_,H1,rfl,I1.kept (t':=s1.toks) λb o e=>AA3 _ e,yi a _,⟨_,AAA _ rfl,rfl,rfl⟩,λb hb=>?_,k _ H1 ⟨⟨xs,λM=>ar M n xs⟩,M1,ρ1,sm1,g1,ItD.lst hn,q2 (by rw[r.length];exact hz)⟩⟩
  have e:b=s1.heap.objs.size:=by simpa using hb
  subst e;exact I1.fpOk (AA8 _) (I1.hok.fresh (AA8 _))
 | str x =>
  obtain⟨t,rfl⟩:=rv;have fin:∀(nm:String) (ob:Obj),(ob.cls=.type nm/\ob.data=.fields #[.str x t,.int 0 0]) ->
    (∀A':Around,A'.handled=none->Walks X.prog X.w A' s1.heap.objs.size [s1.heap.objs.size] [s1.heap.objs.size] x.cps.size (SignAt x) (λi h=>h.IsStrIter s1.heap.objs.size nm x t i)) ->
    (∀(A:Around) (i:Nat) (s:Shared) (Q:Value->Shared->Prop) (E:Value->Shared->Prop),s.heap.IsStrIter s1.heap.objs.size nm x t i->Q (.ref s1.heap.objs.size) s->wpAny (model X.prog X.w) A (pyIter (.ref s1.heap.objs.size)) Q E s) ->
    ["enumerate","zip","dict_itemiterator","dict_reverseitemiterator","odict_iterator","itertools.zip_longest","itertools.pairwise"].contains nm=false->(s1.heap.push ob).IsStrIter s1.heap.objs.size nm x t 0 ->
    PIE X pins σ tg R (.ref s1.heap.objs.size) { s1 with heap:=s1.heap.push ob }:=λnm ob hob W hself hnm st=>by
   refine⟨s1.heap.objs.size,[s1.heap.objs.size],_,_,H1,rfl,I1.kept (t':=s1.toks) λb o e=>AA3 _ e,
    wX (PX:=λi v=>∃c,x.cps[i]?=some c/\v=.str ⟨#[c]⟩) _ _ _ _ W (λi v ⟨c,u,e1,e2⟩=>⟨.str ⟨#[c]⟩,⟨u,e2⟩,c,e1,rfl⟩) (λi h st=>?_) (λi h h' st k=>?_) hself,st,λb hb=>?_,k _ H1 ⟨⟨yU x,λ_=>True⟩,M1,ρ1,sm1,g1,ItD.plain ?_ ?_ ?_,q1⟩⟩
   ·obtain⟨o,e,c,d⟩:=st
    exact⟨o,nm,_,e,c,d,hnm⟩
   ·obtain⟨o,e,r⟩:=st
    exact⟨o,k o e,r⟩
   ·have e:b=s1.heap.objs.size:=by simpa using hb
    subst e;exact I1.fpOk (AA8 _) (I1.hok.fresh (AA8 _))
   ·intro i _ hi
    simpa [yU]using hi
   ·rintro i H x' H' _ ⟨rfl,c,e,rfl⟩
    exact⟨rfl,.str ⟨#[c]⟩,by simp[yU,e],rfl⟩
   ·intro H
    simp[yU]
  cases ha:x.cps.all (· < 128)
  ·exact wpAny_pyIter_wide ha (fin _ _ ⟨rfl,rfl⟩ (λA' hA=>Walks.strWide hA _ x t) (λ_ _ _ _ _ st h=>wpAny_pyIter_striter_wide st h) (by decide) ⟨_,AAA _ rfl,rfl,rfl⟩)
  ·exact wpAny_pyIter_ascii ha (fin _ _ ⟨rfl,rfl⟩ (λA' hA=>Walks.strAscii hA _ x t) (λ_ _ _ _ _ st h=>wpAny_pyIter_striter_ascii st h) (by decide) ⟨_,AAA _ rfl,rfl,rfl⟩)
def sN(lo:Int)(n:Nat):List D:=(AAk n).map λi=>.int (lo+((i:Nat):Int))
def ItD.rng{K:AA5}{ρ:List Addr}{H:Hp}(lo:Int)(n:Nat):ItD K ⟨sN lo n,λ_=>True⟩ ρ H (Itr lo n):=by
 refine ItD.plain (λi _ hi=>?_) (λi H x H' hi y=>?_) λH=>?_
 ·show i<n
  simpa [sN]using hi
 ·obtain⟨e,rfl⟩:=y
  have hi':i<n:=by simpa [sN]using hi
  exact⟨e,.int (lo+i),by simp[sN,hi'],rfl⟩
 ·show n<=(sN lo n).length
  simp[sN]
def eZ(ta:DTA):DTI:=λS M R=>ta S M λds M1=>match ds with
 | [.int j]=>(-(2 ^ 62)<=j/\j<2 ^ 62)/\R ⟨sN 0 j.toNat,λ_=>True⟩ M1
 | _=>False
def pO(ta:DTA):DTI:=λS M R=>ta S M λds M1=>match ds with
 | [.int i,.int j]=>(-(2 ^ 62)<=i/\i<2 ^ 62/\-(2 ^ 62)<=j/\j<2 ^ 62)/\R ⟨sN i (j-i).toNat,λ_=>True⟩ M1
 | _=>False
def PI.imp(h:PI X tg iter t')(i:∀σ H R,t σ H R->t' σ H R):PI X tg iter t:=λpins s σ H R I q=>h pins s σ H R I (i σ H R q)
def AI(hm:X.mg "range" = none)(ha:DA X [a] ta)(hg:Gl X "range":=by rfl)(hs:starEach [a] X.env=[(false,eval a X.env)]:=by rfl):DI X tg (.Call (.Name "range" p) [a] [] pos) (eZ ta):=by
 refine PI.imp (ze hg hm ha hs) λσ H R ⟨S,M,ρ,Q,s,sr,q,k⟩=>⟨S,M,ρ,_,s,sr,q,λvs H1 ⟨ds,M1,ρ1,s1,g1,r1,q1⟩=>?_⟩
 try dsimp only at q1
 split at q1
 ·rename_i j
  obtain⟨⟨h1,h2⟩,q2⟩:=q1;first | have hzz:=Reps.inv_cons r1 | have hzz:=aw.inv_cons r1
  clear r1;obtain⟨_,_,rfl,r,t⟩:=hzz;cases r
  cases t
  exact⟨j,rfl,h1,h2,k _ H1 ⟨_,M1,ρ1,s1,g1,ItD.rng 0 j.toNat,q2⟩⟩
 ·exact q1.elim
def AH(hm:X.mg "range" = none)(ha:DA X [a,b] ta)(hg:Gl X "range":=by rfl)(hs:starEach [a,b] X.env=[(false,eval a X.env),(false,eval b X.env)]:=by rfl)(hs2:starEach [b] X.env=[(false,eval b X.env)]:=by rfl) :
  DI X tg (.Call (.Name "range" p) [a,b] [] pos) (pO ta):=by
 refine PI.imp (zd hg hm ha hs hs2) λσ H R ⟨S,M,ρ,Q,s,sr,q,k⟩=>⟨S,M,ρ,_,s,sr,q,λvs H1 ⟨ds,M1,ρ1,s1,g1,r1,q1⟩=>?_⟩
 try dsimp only at q1
 split at q1
 ·rename_i i j
  obtain⟨h,q2⟩:=q1;first | have hzz:=Reps.inv_cons r1 | have hzz:=aw.inv_cons r1
  clear r1;obtain⟨_,_,rfl,r,t⟩:=hzz;cases r
  cases t with
  | cons r t =>
   cases r
   cases t
   exact⟨i,j,rfl,h,k _ H1 ⟨_,M1,ρ1,s1,g1,ItD.rng i (j-i).toNat,q2⟩⟩
 ·exact q1.elim
end
mutual
inductive Bel(k:Nat):D->Prop
 | non:Bel k .non
 | bl (b:Bool):Bel k (.bl b)
 | int (i:Int):Bel k (.int i)
 | str (x:Str):Bel k (.str x)
 | ty (n:String):Bel k (.ty n)
 | tup {ds:List D} (h:Bels k ds):Bel k (.tup ds)
 | ref {n:Nat} (h:n<k):Bel k (.ref n)
inductive Bels(k:Nat):List D->Prop
 | nil:Bels k []
 | cons {d:D}{ds:List D} (h:Bel k d) (t:Bels k ds):Bels k (d::ds)
end
def MO.items:MO->List D
 | .lst xs=>xs
 | .fz xs=>xs
 | .kl xs=>xs
 | .dct kvs=>kvs.map (·.2)
 | .dkt kvs=>kvs.map (·.2)
 | .dkq kvs=>kvs.map (·.2)
 | .fdc _ kvs=>kvs.map (·.2)
 | .dkm kvs=>kvs.map (·.2)
 | .tb _ _=>[]
mutual
def Rep.bel{K:AA5}{ρ:List Addr}{H:Hp}:∀{d:D}{v:V},Rep K ρ H d v->Bel ρ.length d
 | _,_,.non=>.non
 | _,_,.bl b=>.bl b
 | _,_,.int i=>.int i
 | _,_,.str x=>.str x
 | _,_,.ty n=>.ty n
 | _,_,.tup h r=>.tup (Reps.bel r)
 | _,_,.ref h=>.ref (AA7.mp h).1
def Reps.bel{K:AA5}{ρ:List Addr}{H:Hp}:∀{ds:List D}{vs:List V},Reps K ρ H ds vs->Bels ρ.length ds
 | _,_,.nil=>.nil
 | _,_,.cons h t=>.cons (Rep.bel h) (Reps.bel t)
end
mutual
def Rep.cut{K:AA5}{ρ:List Addr}{H:Hp}{k:Nat}:∀{d:D}{v:V},Rep K ρ H d v->Bel k d->Rep K (ρ.take k) H d v
 | _,_,.non,_=>.non
 | _,_,.bl b,_=>.bl b
 | _,_,.int i,_=>.int i
 | _,_,.str x,_=>.str x
 | _,_,.ty n,_=>.ty n
 | _,_,.tup h r,.tup b=>.tup h (Reps.cut r b)
 | _,_,.ref h,.ref b=>.ref (by rw[ABc b];exact h)
def Reps.cut{K:AA5}{ρ:List Addr}{H:Hp}{k:Nat}:∀{ds:List D}{vs:List V},Reps K ρ H ds vs->Bels k ds->Reps K (ρ.take k) H ds vs
 | _,_,.nil,_=>.nil
 | _,_,.cons h t,.cons b c=>.cons (Rep.cut h b) (Reps.cut t c)
end
mutual
def Bel.mono{j k:Nat}(h:j<=k):∀{d:D},Bel j d->Bel k d
 | _,.non=>.non
 | _,.bl b=>.bl b
 | _,.int i=>.int i
 | _,.str x=>.str x
 | _,.ty n=>.ty n
 | _,.tup b=>.tup (Bels.mono h b)
 | _,.ref b=>.ref (AAd b h)
def Bels.mono{j k:Nat}(h:j<=k):∀{ds:List D},Bels j ds->Bels k ds
 | _,.nil=>.nil
 | _,.cons b c=>.cons (Bel.mono h b) (Bels.mono h c)
end
def Bels.of:∀{xs:List D},(∀d∈xs,Bel k d)->Bels k xs
 | [],_=>.nil
 | d::ds,h=>.cons (h d AAG) (Bels.of λe he=>h e (AA9 _ he))
section
variable{K:AA5}{ρ ρ':List Addr}{H H':Hp}{M M':Mem}
def wm:∀(n:Nat) (d:D),cH n d=true->Bel k d:=by
 intro n;induction n with
 | zero =>
  intro d h;cases d with
  | str x=>exact .str x
  | int x=>exact .int x
  | _=>cases h
 | succ n ih =>
  intro d h;cases d with
  | str x=>exact .str x
  | int x=>exact .int x
  | tup ds=>exact .tup (Bels.of λx hx=>ih x (AAZ.mp (show ds.all (cH n)=true from h) x hx))
  | _=>cases h
def zS(r:Paired (wP K ρ H) kvs xs):Bels ρ.length (kvs.map (·.2)):=by
 induction r with
 | nil=>exact .nil
 | cons q _ ih =>
  obtain⟨_,_,_,v,q4,_⟩:=q;exact .cons q4.bel ih
def zR(r:Paired (wP K ρ H) kvs xs)(b:Bels k (kvs.map (·.2))):Paired (wP K (ρ.take k) H) kvs xs:=by
 induction r with
 | nil=>exact .nil
 | cons q _ ih =>
  obtain⟨q1,q2,q3,v,q4,q5⟩:=q;rw[AAf]at b;cases b with
  | cons b1 b2=>exact .cons ⟨q1,q2,q3.cut (wm _ _ q2),v,q4.cut b1,q5⟩ (ih b2)
def CA:∀(d:D),keyM d=true->Bel k d
 | .non,_=>.non
 | .tup ks,h=>wm 8 _ h
 | .bl _,h=>nomatch h
 | .int _,h=>nomatch h
 | .str _,h=>nomatch h
 | .ty _,h=>nomatch h
 | .ref _,h=>nomatch h
def FG(r:Paired (KvM K ρ H) kvs xs):Bels ρ.length (kvs.map (·.2)):=by
 induction r with
 | nil=>exact .nil
 | cons q _ ih =>
  obtain⟨_,_,_,v,q4,_⟩:=q;exact .cons q4.bel ih
def FF(r:Paired (KvM K ρ H) kvs xs)(b:Bels k (kvs.map (·.2))):Paired (KvM K (ρ.take k) H) kvs xs:=by
 induction r with
 | nil=>exact .nil
 | cons q _ ih =>
  obtain⟨q1,q2,⟨u,q3,q3'⟩,v,q4,q5⟩:=q;rw[AAf]at b;cases b with
  | cons b1 b2=>exact .cons ⟨q1,q2,⟨u,q3.cut (CA _ q2),q3'⟩,v,q4.cut b1,q5⟩ (ih b2)
def xX.bels(h:xX K ρ H a mo):Bels ρ.length mo.items:=by
 cases mo with
 | lst ds=>obtain⟨vs,_,r⟩:=h;exact r.bel
 | fz ds=>obtain⟨o,vs,_,r⟩:=h;exact r.bel
 | kl ds=>obtain⟨vs,_,r⟩:=h;exact r.bel
 | dct kvs=>obtain⟨vs,_,r⟩:=h;exact r.bel
 | dkt kvs=>obtain⟨_,_,_,xs,_,r⟩:=h;exact zS r
 | dkq kvs=>obtain⟨_,_,_,xs,_,r⟩:=h;exact zS r
 | fdc o kvs=>obtain⟨vs,_,r⟩:=h;exact r.bel
 | dkm kvs=>obtain⟨_,_,_,xs,_,r⟩:=h;exact FG r
 | tb x b=>exact .nil
def xX.cut(h:xX K ρ H a mo)(b:Bels k mo.items):xX K (ρ.take k) H a mo:=by
 cases mo with
 | lst ds=>obtain⟨vs,e,r⟩:=h;exact⟨vs,e,r.cut b⟩
 | fz ds=>obtain⟨o,vs,e,r⟩:=h;exact⟨o,vs,e,r.cut b⟩
 | kl ds=>obtain⟨vs,e,r⟩:=h;exact⟨vs,e,r.cut b⟩
 | dct kvs=>obtain⟨vs,e,r⟩:=h;exact⟨vs,e,r.cut b⟩
 | dkt kvs=>obtain⟨h1,h2,h3,xs,e,r⟩:=h;exact⟨h1,h2,h3,xs,e,zR r b⟩
 | dkq kvs=>obtain⟨h1,h2,h3,xs,e,r⟩:=h;exact⟨h1,h2,h3,xs,e,zR r b⟩
 | fdc o kvs=>obtain⟨vs,e,r⟩:=h;exact⟨vs,e,r.cut b⟩
 | dkm kvs=>obtain⟨h1,h2,h3,xs,e,r⟩:=h;exact⟨h1,h2,h3,xs,e,FF r b⟩
 | tb x b=>exact h
def Sim.bels(S:Sim K ρ M H){n:Nat}{mo:MO}(e:M[n]?=some mo):Bels M.length mo.items:=by
 obtain⟨a,_,h⟩:=S.get e;rw[<-S.len];exact h.bels
def Sim.cut(S:Sim K ρ M H)(k:Nat)(hb:∀(n:Nat) (mo:MO),n<k->M[n]?=some mo->Bels k mo.items):Sim K (ρ.take k) (M.take k) H:=by
 have lt:∀{n:Nat}{a:Addr},(ρ.take k)[n]?=some a->n<k/\ρ[n]?=some a:=λ{n a} e=>by
  have h1:=(AA7.mp e).1;rw[AAv]at h1;have h2:n<k:=by lia
  rw[ABc h2]at e;exact⟨h2,e⟩
 refine⟨λn m a hne e1 e2=>?_,by rw[AAv,AAv,S.len],λn a mo e1 e2=>?_⟩
 ·obtain⟨l1,f1⟩:=lt e1
  obtain⟨l2,f2⟩:=lt e2;rw[ABc l1,ABc l2];exact S.nd n m a hne f1 f2
 ·obtain⟨l1,f1⟩:=lt e1
  rw[ABc l1]at e2;exact(S.obj n a mo f1 e2).cut (hb n mo l1 e2)
def SRep.cut(r:SRep K ρ H S σ)(hl:S'.length=S.length)(h:∀(i:Nat) d,S'[i]?=some (some d)->S[i]?=some (some d)/\Bel k d):SRep K (ρ.take k) H S' σ :=
 ⟨hl.trans r.len,λi d e=>let ⟨e',b⟩:=h i d e;let ⟨v,hv,rv⟩:=r.get i d e';⟨v,hv,rv.cut b⟩⟩
def Grow.cut(g:Grow K ρ H ρ' H')(h:ρ.length<=k):Grow K ρ H (ρ'.take k) H':=by
 refine⟨?_,g.tup⟩;obtain⟨t,rfl⟩:=g.pre;rw[List.take_append];rw[ACH h];exact AAb _ _
end
inductive FgtS(k:Nat):SD->SD->Prop
 | nil:FgtS k [] []
 | keep {d:D}{S S':SD} (h:Bel k d) (t:FgtS k S S'):FgtS k (some d::S) (some d::S')
 | drop {o:Option D}{S S':SD} (t:FgtS k S S'):FgtS k (o::S) (none::S')
def FgtS.len(h:FgtS k S S'):S'.length=S.length:=by
 induction h with
 | nil=>rfl
 | keep _ _ ih=>rw[AAK,AAK,ih]
 | drop _ ih=>rw[AAK,AAK,ih]
def FgtS.get(h:FgtS k S S'):∀(i:Nat) d,S'[i]?=some (some d)->S[i]?=some (some d)/\Bel k d:=by
 induction h with
 | nil=>intro i d e;simp at e
 | keep b _ ih =>
  intro i d e;cases i with
  | zero=>simp at e;subst e;exact⟨rfl,b⟩
  | succ i=>exact ih i d (by simpa using e)
 | drop _ ih =>
  intro i d e;cases i with
  | zero=>simp at e
  | succ i=>exact ih i d (by simpa using e)
def Fgt(M0:Mem)(P:SD->Mem->Prop)(S:SD)(M:Mem):Prop :=
 P S M\/(∃k S',M0.length<=k/\FgtS k S S'/\(∀(n:Nat) mo,n<k->M[n]?=some mo->Bels k mo.items)/\P S' (M.take k))\/∃S',FgtS M0.length S S'/\M0 <+: M/\P S' M0
def Bu{α:Type}{l l':List α}(h:l <+: l'):l'.take l.length=l:=by
 obtain⟨t,rfl⟩:=h;rw[List.take_append_of_le_length (AA8 _),ABa]
def SQ.fgt{K:AA5}{ρ:List Addr}{H:Hp}{M0:Mem}{P:SD->Mem->Prop}{σ':St}{H':Hp}(s0:Sim K ρ M0 H)(h:SQ K ρ H (Fgt M0 P) σ' H'):SQ K ρ H P σ' H':=by
 have hk:ρ.length<=M0.length:=by rw[s0.len];exact AA8 _
 obtain⟨S',M',ρ',s',g',sr',q'⟩:=h;rcases q' with q' | ⟨k,S2,h1,h2,h4,q⟩|⟨S2,h2,hp,q⟩
 ·exact⟨S',M',ρ',s',g',sr',q'⟩
 ·exact⟨S2,M'.take k,ρ'.take k,s'.cut k h4,g'.cut (AAq hk h1),sr'.cut h2.len h2.get,q⟩
 ·have sc:=s'.cut M0.length λn mo hn e=>by
   obtain⟨t,rfl⟩:=hp;rw[AAP hn]at e;exact s0.bels e
  rw[Bu hp]at sc;exact⟨S2,M0,ρ'.take M0.length,sc,g'.cut hk,sr'.cut h2.len h2.get,q⟩
def su(ok:Mem->Prop)(g:DTG)(tb:DTS)(E:DEnds)(k0:Mem):List D->SD->Mem->Prop
 | [],S,M=>ok M/\E.nx S M
 | x::xs,S,M=>ok M/\g x S M λS2 M2=>tb ⟨Fgt k0 (su ok g tb E k0 xs),E.rt,E.nx,Fgt k0 (su ok g tb E k0 xs)⟩ S2 M2
def mV(di:DTI)(g:DTG)(tb:DTS):DTS:=λE S M=>di S M λsrc M1=>su src.ok g tb E M1 src.items S M1
def sj{α:Type}{l:List α}{i:Nat}{x:α}(h:l[i]?=some x):l.drop i=x::l.drop (i+1):=by
 obtain⟨hi,e⟩:=AA7.mp h;rw[List.drop_eq_getElem_cons hi,e]
def Ck{K:AA5}{di:DTI}{g:DTG}{tb:DTS}(E:Ends)(σ:St)(H:Hp)(h:lowS K (mV di g tb) E σ H):tFor (lowI K di) (lowG K g) (lowS K tb) E σ H:=by
 obtain⟨S,M,ρ,F,s,sr,q,k⟩:=h;refine⟨S,M,ρ,_,s,sr,q,λJ H1 ⟨src,M1,ρ1,s1,g1,it,q1⟩=>?_⟩
 have k1:=k.trans g1;refine⟨λi m τ H2=>∃S2 M2 ρ2,Sim K ρ2 M2 H2/\Grow K ρ1 H1 ρ2 H2/\SRep K ρ2 H2 S2 τ/\i<=src.items.length/\m=src.items.length-i/\su src.ok g tb F M1 (src.items.drop i) S2 M2,
  ⟨_,S,M1,ρ1,s1,.refl,sr.grow g1,AAX _,rfl,q1⟩,?_⟩
 rintro i m τ H2 ⟨S2,M2,ρ2,s2,g2,sr2,hi,rfl,q2⟩;by_cases hlt:i<src.items.length
 ·have hx:src.items[i]?=some src.items[i]:=AA6 hlt
  rw[sj hx]at q2;obtain⟨ok,q3⟩:=(show src.ok M2/\g src.items[i] S2 M2 _ from q2);refine .inr ⟨it.go i ρ2 M2 H2 s2 g2 ok hlt,_,λτ' H' z=>z,λx H3 y=>?_⟩
  obtain⟨d,ρ3,hd,s3,g3,r3⟩:=it.yld i ρ2 M2 H2 x H3 s2 g2 ok hlt y;have ed:d=src.items[i]:=AAM (hd.symm.trans hx);subst ed;refine⟨_,S2,M2,ρ3,_,s3,sr2.grow g3,r3,q3,λτ4 H4 ⟨S4,M4,ρ4,s4,g4,sr4,q4⟩=>?_⟩
  have g14:=(g2.trans g3).trans g4;refine⟨S4,M4,ρ4,_,s4,sr4,q4,?_⟩;have again:∀τ5 H5,SQ K ρ4 H4 (Fgt M1 (su src.ok g tb F M1 (src.items.drop (i+1)))) τ5 H5 ->
    ∃m',m' < src.items.length-i/\∃S2 M2 ρ2,Sim K ρ2 M2 H5/\Grow K ρ1 H1 ρ2 H5/\SRep K ρ2 H5 S2 τ5/\i+1<=src.items.length/\m'=src.items.length-(i+1)/\su src.ok g tb F M1 (src.items.drop (i+1)) S2 M2:=λτ5 H5 z=>by
   obtain⟨S5,M5,ρ5,s5,g5,sr5,q5⟩:=SQ.fgt (ρ:=ρ1) (H:=H1) s1 (SQ.trans g14 z);exact⟨_,by lia,S5,M5,ρ5,s5,g5,sr5,hlt,rfl,q5⟩
  exact⟨again,λv H5 z=>k1.rt v H5 (VQ.trans g14 z),λτ5 H5 z=>k1.nx τ5 H5 (SQ.trans g14 z),again⟩
 ·have e:i=src.items.length:=by lia
  subst e;rw[List.drop_of_length_le (AA8 _)]at q2;obtain⟨ok,q3⟩:=(show src.ok M2/\F.nx S2 M2 from q2);exact .inl ⟨it.stop ρ2 M2 H2 s2 g2 ok,k1.nx τ H2 ⟨S2,M2,ρ2,s2,g2,sr2,q3⟩⟩
section
variable{X:Cx}
def Jq(hi:DI X tg iter di)(hg:DG X tg g)(hb:DSs X body tb)(hp:PassesOwn (model X.prog X.w) X.A X.env X.xe:=by exact PassesOwn.never)(hc:X.calm=true:=by rfl)
  (hs:∀x,foldedSetIterable iter X.env x=pure x:=by intro _;rfl):DS X (.For tg iter body [] pos) (mV di g tb):=PS.imp (Hr hp hc hi hg hb hs) Ck
def Jx(nt:Nat)(js:List Nat)(S:SD):SD:=ADx nt none++js.map λj=>(S[j]?).join
def mB(ok:Mem->Prop)(g:DTG)(tt:DTT)(te:DTE)(Q:DK):List D->List D->SD->Mem->Prop
 | [],acc,S,M=>ok M/\Q (.ref M.length) (M++[.lst acc])
 | x::xs,acc,S,M=>ok M/\g x S M λS2 M2=>tt S2 M2 λb M3=>if b=true then te S2 M3 λy M4=>acc.length<sizeLine/\mB ok g tt te Q xs (acc++[y]) S2 M4 else mB ok g tt te Q xs acc S2 M3
def dLC(nt:Nat)(js:List Nat)(di:DTI)(g:DTG)(tt:DTT)(te:DTE):DTE:=λS M Q=>di S M λsrc M1=>mB src.ok g tt te Q src.items [] (Jx nt js S) M1
def SRep.bst{K:AA5}{ρ:List Addr}{H:Hp}{S:SD}{σ:St}(r:SRep K ρ H S σ)(nt:Nat)(js:List Nat):SRep K ρ H (Jx nt js S) (L2.bst nt js σ):=by
 refine⟨by simp[Jx,AV],λi d e=>?_⟩
 unfold Jx at e;unfold L2.bst;by_cases hi:i<nt
 ·rw[AAP (by simpa using hi),ACf]at e
  simp[hi]at e
 ·rw[AAh (by simpa using AD4.mp hi),ACv,AAR]at e
  rw[AAh (by simpa using AD4.mp hi),ACv,AAR]
  cases q:js[i-nt]? with
  | none=>rw[q]at e;cases e
  | some j =>
   rw[q]at e;have e':(S[j]?).join=some d:=by simpa using e
   cases q2:S[j]? with
   | none=>rw[q2]at e';cases e'
   | some o =>
    rw[q2]at e';have e2:o=some d:=e';subst e2;obtain⟨v,hv,rv⟩:=r.get j d q2;exact⟨v,by simp[hv],rv⟩
def zF{K:AA5}{nt:Nat}{js:List Nat}{di:DTI}{g:DTG}{tt:DTT}{te:DTE}(σ:St)(H:Hp)(R:VK)(h:lowE K (dLC nt js di g tt te) σ H R):tLC nt js (lowI K di) (lowG K g) (lowT K tt) (lowE K te) σ H R:=by
 obtain⟨S,M,ρ,Q,s,sr,q,k⟩:=h;refine⟨S,M,ρ,_,s,sr,q,λJ H1 ⟨src,M1,ρ1,s1,g1,it,q1⟩=>?_⟩
 refine⟨λi m vs τ H2=>∃S2 M2 ρ2 acc,Sim K ρ2 M2 H2/\Grow K ρ1 H1 ρ2 H2/\SRep K ρ2 H2 S2 τ/\Reps K ρ2 H2 acc vs/\i<=src.items.length/\m=src.items.length-i/\mB src.ok g tt te Q (src.items.drop i) acc S2 M2,
  ⟨_,_,M1,ρ1,[],s1,.refl,(sr.grow g1).bst nt js,.nil,AAX _,rfl,q1⟩,?_⟩
 rintro i m vs τ H2 ⟨S2,M2,ρ2,acc,s2,g2,sr2,ra,hi,rfl,q2⟩;by_cases hlt:i<src.items.length
 ·have hx:src.items[i]?=some src.items[i]:=AA6 hlt
  rw[sj hx]at q2;obtain⟨ok,q3⟩:=(show src.ok M2/\g src.items[i] S2 M2 _ from q2);refine .inr ⟨it.go i ρ2 M2 H2 s2 g2 ok hlt,λx H3 y=>?_⟩
  obtain⟨d,ρ3,hd,s3,g3,r3⟩:=it.yld i ρ2 M2 H2 x H3 s2 g2 ok hlt y;have ed:d=src.items[i]:=AAM (hd.symm.trans hx);subst ed;refine⟨_,S2,M2,ρ3,_,s3,sr2.grow g3,r3,q3,λτ4 H4 ⟨S4,M4,ρ4,s4,g4,sr4,q4⟩=>?_⟩
  refine⟨S4,M4,ρ4,_,s4,sr4,q4,λb H5 ⟨M5,ρ5,s5,g5,q5⟩=>?_⟩
  have g15:=((g2.trans g3).trans g4).trans g5;cases b with
  | false=>exact bJ ⟨_,by lia,S4,M5,ρ5,acc,s5,g15,sr4.grow g5,ra.grow ((g3.trans g4).trans g5),hlt,rfl,(show mB src.ok g tt te Q (src.items.drop (i+1)) acc S4 M5 from q5)⟩
  | true =>
   refine bT ⟨S4,M5,ρ5,_,s5,sr4.grow g5,(show te S4 M5 _ from q5),λv H6 ⟨y',M6,ρ6,s6,g6,r6,hl,q6⟩=>?_⟩
   have ra6:=ra.grow (((g3.trans g4).trans g5).trans g6);exact⟨by rw[<-ra.length];exact hl,_,by lia,S4,M6,ρ6,acc++[y'],s6,g15.trans g6,sr4.grow (g5.trans g6),ra6.append (.cons r6 .nil),hlt,rfl,q6⟩
 ·have e:i=src.items.length:=by lia
  subst e;rw[List.drop_of_length_le (AA8 _)]at q2;obtain⟨ok,q3⟩:=(show src.ok M2/\Q (.ref M2.length) (M2++[.lst acc])from q2);exact .inl ⟨it.stop ρ2 M2 H2 s2 g2 ok,λp hp=>k _ _ (VQ.laidL s2 (g1.trans g2) ra hp q3)⟩
def d_lc(B:BlkSc X N' nt js scope)(hi:DI X tg iter di)
  (hg:∀cl s0 H0 ex,DG (blk X N' scope cl s0 H0 ex) tg g) (ht:∀cl s0 H0 ex,PTs (blk X N' scope cl s0 H0 ex) ifs (lowT X.K tt)) (he:∀cl s0 H0 ex,DE (blk X N' scope cl s0 H0 ex) elt te) (hc:X.calm=true:=by rfl)
  (hs:∀x,foldedSetIterable iter X.env x=pure x:=by intro _;rfl):DE X (.ListComp elt [⟨tg,iter,ifs,0⟩] scope pos) (dLC nt js di g tt te):=PE.imp (pe_lc (g:=lowG X.K g) (tt:=lowT X.K tt) (te:=lowE X.K te) B hc hi (λcl s0 H0 ex=>hg cl s0 H0 ex) ht (λcl s0 H0 ex=>he cl s0 H0 ex) hs) zF
def uu:DTT:=λ_ M Q=>Q true M
def FX:PTs X [] (lowT X.K uu):=λpins s σ H R I ⟨S,M,ρ,Q,sm,sr,q,k⟩=>EV pins s σ H R I (k true H ⟨M,ρ,sm,.refl,q⟩)
def FW(h:DT X c t):PTs X [c] (lowT X.K t):=EU h
end
def Chg(M M1:Mem):Prop:=M1.length=M.length/\∀(i:Nat) (mo:MO),M1[i]?=some mo->M[i]?=some mo\/Bels M.length mo.items
def Chg.refl:Chg M M:=⟨rfl,λ_ _ h=>.inl h⟩
def Chg.set(c:Chg M M1)(b:Bels M.length mo.items):Chg M (M1.set n mo):=by
 refine⟨by rw[AB0];exact c.1,λi mo' h=>?_⟩
 by_cases e:n=i
 ·subst e
  by_cases hl:n<M1.length
  ·rw[AAo hl]at h
   cases h
   exact .inr b
  ·rw[ABO (by rw[AB0];lia)]at h
   cases h
 ·rw[AAs e]at h
  exact c.2 i mo' h
def bj(M:Mem)(R:DK):DK:=λd M'=>R d M'\/(∃M1,Chg M M1/\Bel M.length d/\M1 <+: M'/\R d M1)\/∃M1 n xs,Chg M M1/\d=.ref n/\M.length<=n/\M'[n]?=some (.lst xs)/\M1 <+: M'/\Bels M.length xs/\R (.ref M.length) (M1++[.lst xs])
def dF{α:Type}{l l':List α}(h:l <+: l'):l'.take l.length=l:=by
 obtain⟨t,rfl⟩:=h;rw[List.take_append_of_le_length (AA8 _),ABa]
theorem VQ.endq{K:AA5}{ρ:List Addr}{M:Mem}{H:Hp}{R:DK}{v:V}{H':Hp}(s:Sim K ρ M H)(h:VQ K ρ H (bj M R) v H'):VQ K ρ H R v H':=by
 obtain⟨d,M',ρ',s',g',r',q'⟩:=h;have hρ:ρ'.take M.length=ρ:=by rw[<-s.len];exact dF g'.pre
 rcases q' with q | ⟨M1,c,b,pre,q⟩|⟨M1,n,xs,c,rfl,hnM,e,pre,b,q⟩
 ·exact⟨d,M',ρ',s',g',r',q⟩
 ·have sc:=s'.cut M.length λn mo hn e=>by
   have e':M1[n]?=some mo:=by
    obtain⟨t,rfl⟩:=pre;rw[AAP (by rw[c.1];exact hn)]at e
    exact e
   exact(c.2 n mo e').elim (λz=>s.bels z) id
  have tk:M'.take M.length=M1:=by rw[<-c.1];exact dF pre
  rw[hρ,tk]at sc;have rc:=r'.cut b;rw[hρ]at rc;exact⟨d,M1,ρ,sc,⟨ACX,g'.tup⟩,rc,q⟩
 ·have sc:=s'.cut M.length λn mo hn e=>by
   have e':M1[n]?=some mo:=by
    obtain⟨t,rfl⟩:=pre;rw[AAP (by rw[c.1];exact hn)]at e
    exact e
   exact(c.2 n mo e').elim (λz=>s.bels z) id
  have tk:M'.take M.length=M1:=by rw[<-c.1];exact dF pre
  rw[hρ,tk]at sc;obtain⟨a,rfl,hn⟩:=Rep.inv_ref r';obtain⟨vs,hH,rr⟩:=s'.obj n a _ hn e;have rc:=rr.cut b;rw[hρ]at rc;have g2:Grow K ρ H' (ρ++[a]) H':=⟨AAb _ _,λ_ _ h=>h⟩
  have old:∀(m:Nat),ρ[m]?=some a->isK M1[m]?:=λm em=>by
   have hm:m≠n:=λz=>by
    have:m<M.length:=by rw[<-s.len];exact(AA7.mp em).1
    lia
   have q:=s'.nd m n a hm (aF g'.pre em) hn;have hlt:m<M.length:=by rw[<-s.len];exact(AA7.mp em).1
   rcases q with⟨ds,z⟩|⟨ds,z⟩
   ·refine⟨ds,?_⟩
    have hlt1:m<M1.length:=by rw[c.1];exact hlt
    have:=aF pre (AA6 hlt1);rw[z]at this;rw[AA6 hlt1];exact this.symm
   ·rw[e]at z;cases z
  refine⟨.ref M.length,M1++[.lst xs],ρ++[a],⟨λn1 m1 a1 hne e1 e2=>?_,by rw[AAB,AAB,sc.len];rfl,λn1 a1 mo e1 e2=>?_⟩,⟨AAb _ _,g'.tup⟩,.ref (by have:=sc.last (p:=a);rw[c.1]at this;exact this),q⟩
  ·rcases aY e1 with f1 | ⟨f1,w1⟩
   ·rcases aY e2 with f2 | ⟨f2,w2⟩
    ·exact(sc.nd n1 m1 a1 hne f1 f2).elim (λz=>.inl z.more) λz=>.inr z.more
    ·subst w2
     exact .inl (old n1 f1).more
   ·rcases aY e2 with f2 | ⟨f2,w2⟩
    ·subst w1
     exact .inr (old m1 f2).more
    ·exact absurd (f1.trans f2.symm) hne
  ·rcases aY e1 with f1 | ⟨f1,w1⟩
   ·have hn1:n1<M1.length:=by rw[<-sc.len];exact(AA7.mp f1).1
    rw[AAP hn1]at e2;exact(sc.obj n1 a1 mo f1 e2).grow g2 (.inl rfl)
   ·subst w1 f1
    rw[sc.len,AAh (AA8 _),ADT]at e2;simp at e2;subst e2;exact⟨vs,hH,rc.grow g2⟩
def cC(N:List Str)(ds:List D):SD:=ds.map some++ADx (N.length-ds.length) none
def SRep.start{K:AA5}{ρ:List Addr}{H:Hp}{ds:List D}{vs:List V}(r:Reps K ρ H ds vs)(N:List Str):SRep K ρ H (cC N ds) (L2.start N vs):=by
 refine⟨by simp[cC,L2.start,r.length],λi d e=>?_⟩
 unfold cC at e;unfold L2.start;by_cases hi:i<ds.length
 ·rw[AAP (by simpa using hi),AAR]at e
  rw[AAP (by simpa [<-r.length]using hi),AAR]
  have e':ds[i]?=some d:=by
   rw[AA6 hi]at e ⊢;simpa using e
  obtain⟨v,hv,rv⟩:=r.get e';exact⟨v,by rw[hv];rfl,rv⟩
 ·rw[AAh (by simpa using AD4.mp hi),ACf]at e
  split at e<;>cases e
def d_fn{P:Program}{w:World}{K:AA5}{mg:Str->Option Value}{base:Heap}{x qual:Str}{st:Stmt}{f:Addr}{fd:FuncData}{N ps:List Str}{k:Nat}(Pr:DSp)(F:Fun K x qual st f fd)(Sc:FnScope N ps (ap st))
  (len:∀ds M R,Pr ds M R->ds.length=ps.length)
  (hbody:∀(cdv:Value) (A:Around) (outer:List Env) (s:Shared) (H:Hp) (E:XK),Room k (A.deeper (envOfC qual (ap st) s.heap.objs.size f cdv)) ->
   ∃t,DSs (sA CX0 P w K mg base N qual (ap st) f cdv A outer s H E).nox (bO st) t/\∀ds M R,Pr ds M R->t ⟨λ_ M'=>bj M R .non M',bj M R,λ_ _=>False,λ_ _=>False⟩ (cC N ds) M) :
  FnOk P w K mg base CX0 (k+1) f fd ps (spL K Pr):=by
 refine F.ok Sc (λvs H Q E ⟨ds,M,ρ,R,s,r,q,_⟩=>by rw[<-r.length];exact len ds M R q) λcdv A outer s H vs Q E hr h=>?_
 obtain⟨ds,M,ρ,R,sm,r,q,kk⟩:=h;obtain⟨t,ht,hq⟩:=hbody cdv A outer s H E hr;refine⟨lowS K t,ht,cC N ds,M,ρ,_,sm,SRep.start r N,hq ds M R q,⟨λσ' H' ⟨S',M',ρ',s',g',sr',q'⟩=>?_,λv H' z=>kk v H' (VQ.endq sm z),λσ' H' ⟨S',M',ρ',s',g',sr',q'⟩=>q'.elim,λσ' H' ⟨S',M',ρ',s',g',sr',q'⟩=>q'.elim⟩⟩
 exact kk .non H' (VQ.endq sm ⟨.non,M',ρ',s',g',.non,q'⟩)
section
variable{X:Cx}
def dfin(I:Inv X pins σ H s)(sm:Sim X.K ρ M H)(k:∀v H',VQ X.K ρ H Q v H'->R v H')(hv:cV d=some v)(rel:aU v u)(q:Q d M):EP X pins σ R u s :=
 ⟨v,H,I,rel,k v H (VQ.now sm (AT hv) q)⟩
def iE(I:Inv X pins σ H s)(sm:Sim X.K ρ M H)(k:∀v H',VQ X.K ρ H Q v H'->R v H')(q:Q (.bl b) M):EP X pins σ R (.bool b) s :=
 ⟨.bl b,H,I,rfl,k _ H (VQ.now sm (.bl b) q)⟩
def qAdd:DR2:=λx y M Q=>match x,y with
 | .int i,.int j=>Q (.int (i+j)) M
 | .str a,.str b=>a.length+b.length<=sizeLine/\Q (.str (a++b)) M
 | .ref n,.ref m=>∃xs ys,M[n]?=some (.lst xs)/\M[m]?=some (.lst ys)/\xs.length+ys.length<=sizeLine/\Q (.ref M.length) (M++[.lst (xs++ys)])
 | _,_=>False
def Ii:OpD X (binaryOp .Add) qAdd:=by
 refine OpR.imp (HX.or (xm.or HV)) λvx vy H R ⟨x,y,M,ρ,Q,sm,r1,r2,q,k⟩=>?_
 unfold qAdd at q;split at q
 ·cases r1
  cases r2
  exact .inl ⟨_,_,rfl,rfl,k _ H (VQ.now sm (.int _) q)⟩
 ·cases r1
  cases r2
  exact .inr (.inl ⟨_,_,rfl,rfl,q.1,k _ H (VQ.now sm (.str _) q.2)⟩)
 ·obtain⟨xs,ys,e1,e2,hl,q⟩:=q
  obtain⟨_,rfl,h1⟩:=Rep.inv_ref r1;obtain⟨_,rfl,h2⟩:=Rep.inv_ref r2;obtain⟨vs,f1,g1⟩:=sm.obj _ _ _ h1 e1;obtain⟨ws,f2,g2⟩:=sm.obj _ _ _ h2 e2;exact .inr (.inr ⟨_,_,vs,ws,rfl,rfl,f1,f2,by rw[<-g1.length,<-g2.length];exact hl,λp hp=>k _ _ (VQ.laidL sm .refl (g1.append g2) hp q)⟩)
 ·exact q.elim
def Hh:DR2:=λx y M Q=>match x,y with
 | .int i,.int j=>Q (.int (i-j)) M
 | _,_=>False
def Ib:OpD X (binaryOp .Sub) Hh:=by
 refine OpR.imp HN λvx vy H R ⟨x,y,M,ρ,Q,sm,r1,r2,q,k⟩=>?_
 unfold Hh at q;split at q
 ·cases r1
  cases r2
  exact⟨_,_,rfl,rfl,k _ H (VQ.now sm (.int _) q)⟩
 ·exact q.elim
def GA(i j:Int):Prop:=0<j/\j<340282366920938463463374607431768211456
def BV:OpR X (binaryOp .FloorDiv) (rI GA λi j=>.int (i / j)):=opI λi j _ _ _ _ _ hc q=>by
 have h1:(0:Int)<j:=hc.1;have h2:j<340282366920938463463374607431768211456:=hc.2;have h3:j.natAbs.log2<128:=(Nat.log2_lt (by lia)).mpr (by rw[show (2:Nat) ^ 128=340282366920938463463374607431768211456 by decide];lia)
 exact floordiv_int (by lia) (by rw[Int.fdiv_eq_ediv_of_nonneg i (by lia)];exact q) (.inl (PyProof.noPylong_of_log2 (by lia)))
def tH:DR2:=λx y M Q=>match x,y with
 | .int i,.int j=>GA i j/\Q (.int (i / j)) M
 | _,_=>False
def Ft:OpD X (binaryOp .FloorDiv) tH:=by
 refine OpR.imp BV λvx vy H R ⟨x,y,M,ρ,Q,sm,r1,r2,q,k⟩=>?_
 unfold tH at q;split at q
 ·cases r1
  cases r2
  exact⟨_,_,rfl,rfl,q.1,k _ H (VQ.now sm (.int _) q.2)⟩
 ·exact q.elim
def za:DR2:=λx y M Q=>match x,y with
 | .int i,.int j=>0<j/\Q (.int (i % j)) M
 | _,_=>False
def Ig:OpD X (binaryOp .Mod) za:=by
 refine OpR.imp HU λvx vy H R ⟨x,y,M,ρ,Q,sm,r1,r2,q,k⟩=>?_
 unfold za at q;split at q
 ·cases r1
  cases r2
  exact⟨_,_,rfl,rfl,q.1,k _ H (VQ.now sm (.int _) q.2)⟩
 ·exact q.elim
def gB(a b:Str):Bool:=decide (a.cps.toList<b.cps.toList)
def qLt:DR2:=λx y M Q=>match x,y with
 | .int i,.int j=>Q (.bl (decide (i<j))) M
 | .str a,.str b=>Q (.bl (gB a b)) M
 | _,_=>False
def qLe:DR2:=λx y M Q=>match x,y with
 | .int i,.int j=>Q (.bl (decide (i<=j))) M
 | .str a,.str b=>Q (.bl (!gB b a)) M
 | _,_=>False
def qGt:DR2:=λx y M Q=>match x,y with
 | .int i,.int j=>Q (.bl (decide (j<i))) M
 | .str a,.str b=>Q (.bl (gB b a)) M
 | _,_=>False
def od_lt:OpD X (compareOp .Lt) qLt:=by
 intro pins s σ H vx vy v u R I rx ry ⟨x,y,M,ρ,Q,sm,r1,r2,q,k⟩;unfold qLt at q;split at q
 ·cases r1
  cases r2
  exact op_lt pins s σ H _ _ v u R I rx ry ⟨_,_,rfl,rfl,k _ H (VQ.now sm (.bl _) q)⟩
 ·cases r1
  cases r2
  obtain⟨t,rfl⟩:=rx;obtain⟨t',rfl⟩:=ry;exact PySem.P.lt_str (iE I sm k q)
 ·exact q.elim
def od_le:OpD X (compareOp .LtE) qLe:=by
 intro pins s σ H vx vy v u R I rx ry ⟨x,y,M,ρ,Q,sm,r1,r2,q,k⟩;unfold qLe at q;split at q
 ·cases r1
  cases r2
  exact op_le pins s σ H _ _ v u R I rx ry ⟨_,_,rfl,rfl,k _ H (VQ.now sm (.bl _) q)⟩
 ·cases r1
  cases r2
  obtain⟨t,rfl⟩:=rx;obtain⟨t',rfl⟩:=ry;exact PySem.P.le_str (iE I sm k q)
 ·exact q.elim
def od_gt:OpD X (compareOp .Gt) qGt:=by
 intro pins s σ H vx vy v u R I rx ry ⟨x,y,M,ρ,Q,sm,r1,r2,q,k⟩;unfold qGt at q;split at q
 ·cases r1
  cases r2
  exact op_gt pins s σ H _ _ v u R I rx ry ⟨_,_,rfl,rfl,k _ H (VQ.now sm (.bl _) q)⟩
 ·cases r1
  cases r2
  obtain⟨t,rfl⟩:=rx;obtain⟨t',rfl⟩:=ry;exact PySem.P.gt_str (iE I sm k q)
 ·exact q.elim
def qIs:DR2:=λx y M Q=>match x,y with
 | .bl a,.bl b=>Q (.bl (a==b)) M
 | .non,.non=>Q (.bl true) M
 | _,.non=>Q (.bl false) M
 | _,_=>False
def nT:DR2:=λx y M Q=>match x,y with
 | .bl a,.bl b=>Q (.bl (a != b)) M
 | .non,.non=>Q (.bl false) M
 | _,.non=>Q (.bl true) M
 | _,_=>False
def yX{K:AA5}{ρ:List Addr}{H:Hp}{x:D}{v:V}(r:Rep K ρ H x v)(h:x≠.non):v≠.non:=by
 cases r<;>first | exact absurd rfl h | (intro z;cases z)
def od_is:OpD X (compareOp .Is) qIs:=by
 intro pins s σ H vx vy v u R I rx ry ⟨x,y,M,ρ,Q,sm,r1,r2,q,k⟩;unfold qIs at q;split at q
 ·cases r1
  cases r2
  cases rx
  cases ry
  exact is_bool (iE I sm k q)
 ·cases r1
  cases r2
  cases rx
  cases ry
  exact is_none_gen (dfin (d:=.bl true) I sm k rfl rfl q)
 ·rename_i h1 h2
  cases r2
  cases ry
  refine is_none_gen (dfin (d:=.bl false) I sm k rfl ?_ q);have:=yX r1 λz=>by subst z;exact h2 rfl
  rw[rx.none_iff,dF_ this];rfl
 ·exact q.elim
def Cc:OpD X (compareOp .IsNot) nT:=by
 intro pins s σ H vx vy v u R I rx ry ⟨x,y,M,ρ,Q,sm,r1,r2,q,k⟩;unfold nT at q;split at q
 ·cases r1
  cases r2
  cases rx
  cases ry
  exact isnot_bool (iE I sm k q)
 ·cases r1
  cases r2
  cases rx
  cases ry
  exact isnot_none_gen (dfin (d:=.bl false) I sm k rfl rfl q)
 ·rename_i h1 h2
  cases r2
  cases ry
  refine isnot_none_gen (dfin (d:=.bl true) I sm k rfl ?_ q);have:=yX r1 λz=>by subst z;exact h2 rfl
  rw[rx.none_iff,dF_ this];rfl
 ·exact q.elim
def tyD(M:Mem):D->String
 | .non=>"NoneType"
 | .bl _=>"bool"
 | .int _=>"int"
 | .str _=>"str"
 | .ty _=>"type"
 | .tup _=>"tuple"
 | .ref n=>match M[n]? with
  | some mo=>if mo.isL=true then "list" else "?"
  | none=>"?"
def mN:DRA:=λds M Q=>match ds with
 | [.str x]=>x.length<=sizeLine/\Q (.int x.length) M
 | [.tup xs]=>Q (.int xs.length) M
 | [.ref n]=>∃xs,ar M n xs/\Q (.int xs.length) M
 | _=>False
def JG:mX X (.builtin "len") mN:=by
 refine iI.imp (sD.or sC) λvs H R ⟨ds,M,ρ,Q,sm,rs,q,k⟩=>?_
 unfold mN at q;split at q
 ·first | have hzz:=Reps.inv_cons rs | have hzz:=aw.inv_cons rs
  clear rs;obtain⟨_,_,rfl,r1,rs⟩:=hzz;cases rs
  cases r1
  exact .inr ⟨_,rfl,q.1,k _ H (VQ.now sm (.int _) q.2)⟩
 ·first | have hzz:=Reps.inv_cons rs | have hzz:=aw.inv_cons rs
  clear rs;obtain⟨_,_,rfl,r1,rs⟩:=hzz;cases rs
  cases r1 with
  | tup h r=>exact .inl ⟨_,_,rfl,.inr h,k _ H (VQ.now sm (by rw[<-r.length];exact .int _) q)⟩
 ·obtain⟨xs,hL,q⟩:=q
  first | have hzz:=Reps.inv_cons rs | have hzz:=aw.inv_cons rs
  clear rs;obtain⟨_,_,rfl,r1,rs⟩:=hzz;cases rs
  obtain⟨_,rfl,e⟩:=Rep.inv_ref r1;obtain⟨ws,hq,r⟩:=ar.seq sm hL e;exact .inl ⟨_,_,rfl,.inl hq,k _ H (VQ.now sm (by rw[<-r.length];exact .int _) q)⟩
 ·exact q.elim
def bls(bs:List Bool):List D:=bs.map .bl
def Reps.bls{K:AA5}{ρ:List Addr}{H:Hp}:∀{bs:List Bool}{vs:List V},Reps K ρ H (L2.bls bs) vs->vs=bs.map V.bl
 | [],_,h=>by cases h;rfl
 | b::bs,_,h=>by
  cases h with
  | cons r t =>
   cases r
   rw[Reps.bls t];rfl
def uH:∀{bs:List Bool}{us:List Value},aw (bs.map V.bl) us->us=bs.map AEU
 | [],_,h=>by cases h;rfl
 | b::bs,_,h=>by
  cases h with
  | cons r t =>
   cases r
   rw[uH t];rfl
def xS{pins:List (Addr×Obj)}{σ:St}{H:Hp}{s:Shared}{a:Addr}{bs:List Bool}{G:Shared->Prop}(I:Inv X pins σ H s)(hc:X.calm=true)(hq:SqL X.K H a (bs.map V.bl))(fin:∀s',Inv X pins σ H s'->G s') :
  ∀(E:Value->Shared->Prop),wpAny (model X.prog X.w) X.A.in1 (pyIter (.ref a)) (λit s₂=>∃I fp wr n P St tr,it=ABn I/\Walks X.prog X.w X.A.in1 I fp wr n P St/\St 0 s₂.heap/\TruthOf X.prog X.w X.A.in1 P tr /\
   (n=bs.length/\(∀i,i<bs.length->tr i=bs.getD i false))/\∀h' tk,(∀b o,b∉wr->s₂.heap.get? b=some o->h'.get? b=some o)->G { s₂ with heap:=h',toks:=tk }) E s:=by
 intro E;obtain⟨its,rr,p,hz⟩:=I.list hq;have eits:=uH rr;subst eits;have hl:=p.isList;have hlt:a<s.heap.objs.size:=by obtain⟨o,n,e,_⟩:=p;exact AAF e
 refine wpAny_pyIter_list hl ?_
 have I1:Inv X pins σ H { s with heap:=s.heap.push { cls:=.type "list_iterator",data:=.fields #[.ref a,.int 0 0] } }:=I.kept (t':=s.toks) λb o e=>AA3 _ e
 refine⟨s.heap.objs.size,_,_,_,_,_,λi=>bs.getD i false,rfl,Walks.list (A:=X.A.in1) (I.ok.hd hc) s.heap.objs.size a (AAN hlt) (bs.map AEU).toArray,⟨⟨_,AAA _ rfl,rfl,rfl⟩,hl.push _⟩,?_,⟨by simp,λi _=>rfl⟩,λh' tk kk=>?_⟩
 ·intro i v s' Q' E' hP hQ
  have hP':(bs.map AEU).toArray[i]?=some v:=hP;rw[List.getElem?_toArray,AAR]at hP';cases e:bs[i]? with
  | none=>rw[e]at hP';cases hP'
  | some b =>
   rw[e]at hP';cases hP'
   refine ACC ?_
   have:bs.getD i false=b:=by rw[AAL,e];rfl
   have hQ':Q' (bs.getD i false) s':=hQ;rw[this]at hQ';exact hQ'
 ·have f:=I.fpOk (H':=H) (AA8 _) (I.hok.fresh (AA8 _))
  obtain⟨f0,f1,f2,f3,f4,f5⟩:=f;exact fin _ (I1.turned (t':=tk) (it:=s.heap.objs.size) (λb o hb e=>kk b o (by simpa using hb) e) f0 f1 f3 f4 f5)
theorem Ba{bs:List Bool}{tr:Nat->Bool}(h:∀i,i<bs.length->tr i=bs.getD i false):(AAk bs.length).any tr=bs.any id:=by
 rw[ACE,AB9,AB9];constructor
 ·rintro⟨i,hi,g⟩
  have hi':=AAz.mp hi;rw[h i hi',AAL,AA6 hi']at g;exact⟨_,ABA hi',g⟩
 ·rintro⟨b,hb,g⟩
  obtain⟨i,hi,e⟩:=List.mem_iff_getElem.mp hb;refine⟨i,AAz.mpr hi,?_⟩;rw[h i hi,AAL,AA6 hi,e];exact g
def GF:DRA:=λds M Q=>match ds with
 | [.ref n]=>∃bs,ar M n (bls bs)/\Q (.bl (bs.any id)) M
 | _=>False
theorem JH(hc:X.calm=true:=by rfl):mX X (.builtin "any") GF:=by
 intro pins s σ H vs us R I rv ⟨ds,M,ρ,Q,sm,rs,q,k⟩;unfold GF at q;split at q
 ·obtain⟨bs,hL,q⟩:=q
  first | have hzz:=Reps.inv_cons rs | have hzz:=aw.inv_cons rs
  clear rs;obtain⟨_,_,rfl,r1,rs⟩:=hzz;cases rs
  obtain⟨u,rfl,e1⟩:=aw.one rv;obtain⟨_,rfl,e⟩:=Rep.inv_ref r1;cases e1
  obtain⟨ws,hq,r⟩:=ar.seq sm hL e;rw[r.bls]at hq;refine call_any_walk (thn (xS (G:=λs'=>EP X pins σ R (.bool (bs.any id)) s') I hc hq (λs' I'=>iE I' sm k q) _) λit s2 ⟨J,fp,wr,n,P,Sx,tr,e1,W,st,T,⟨en,et⟩,fin⟩=>?_)
  subst en;exact⟨J,fp,wr,_,P,Sx,tr,e1,W,st,T,λh' tk kk=>by rw[Ba et];exact fin h' tk kk⟩
 ·exact q.elim
end
end L2
namespace L2
open PySem PySem.Spec PyProof.Rows DL _root_.HT
section
variable{prog:Program}{w:World}{A:Around}{E:Value->Shared->Prop}{s:Shared}
theorem pI{t sl:Addr}{items:Array Value}{vl vu:Value}{lo hi:Option Int}{Q:Value->Shared->Prop}(ht:IsTup s.heap t items)(hs:s.heap.IsSliceOf sl vl vu .none)(pl:IsPart vl lo)(pu:IsPart vu hi)
  (hw:sIx items.size 0 lo=0/\sIx items.size items.size hi=items.size) (h:Q (.ref t) s):wpAny (model prog w) A (getItem (.ref t) (.ref sl)) Q E s:=by
 obtain⟨os,hos,hcs,hds⟩:=id hs;have hTs:s.TypeIs (.ref sl) "slice":=⟨os,hos,hcs⟩;unfold getItem
 try with_reducible refine AAr ?_
 first | refine AA1 (AA2 ?_) | skip
 refine AA1 (wpAny_sequenceKey ht.typeIs (by decide) (AA1 (AB3 (name:=AA0 "__getitem__") ht.typeIs ABK (AAw ABK ht.typeIs entry_tuple_getitem ?_ (args_tuple_getitem _ _)))))
 refine(show wpAny (model prog w) _ (ACI (.ref t) >>= _) _ _ s from AA1 (tupleItemsOf_ ht (AA1 (ACe hTs ?_))));rw[if_pos (by decide)]
 refine AA1 (fv hs pl pu ?_);refine(show wpAny (model prog w) _ (if (((sIx items.size 0 lo:Nat):Int)==0&&(1:Int)==1&&(sIx items.size items.size hi-sIx items.size 0 lo)==items.size)=true then _ else _) _ _ s from ?_);rw[if_pos (by rw[hw.1,hw.2];simp)]
 unfold Builtin.Tuple.tupleIsExact;refine AA1 (AA1 (ACe ht.typeIs (AA2 ?_)));rw[if_pos (by decide)]
 exact AA1 (AD5 (AA2 ⟨_,rfl,AA2 h⟩))
end
end L2
namespace L2
open PySem PySem.Spec PyProof.Rows DL
section
variable{X:Cx}{a b:Expr}{ta tb:DTE}{pos:Pos}
def IxR.imp(h:IxR X r')(i:∀x y H R,r x y H R->r' x y H R):IxR X r:=λvalue slice pins s σ H x y v u R I rx ry q hs=>h value slice pins s σ H x y v u R I rx ry (i x y H R q) hs
def Reps.atI{K:AA5}{ρ:List Addr}{H:Hp}{ds:List D}{vs:List V}{i:Int}{d:D}(r:Reps K ρ H ds vs)(h:L2.atI ds i=some d):∃v,L2.atI vs i=some v/\Rep K ρ H d v:=by
 unfold L2.atI at h ⊢;rw[r.length]at h;cases e:ixN vs.length i with
 | none=>rw[e]at h;cases h
 | some j =>
  rw[e]at h;obtain⟨v,hv,rv⟩:=r.get (show ds[j]?=some d from h);exact⟨v,hv,rv⟩
def qIx:DR2:=λx y M Q=>match x,y with
 | .tup xs,.int i=>match L2.atI xs i with
  | some d=>Q d M
  | none=>False
 | .str z,.int i=>z.length<=sizeLine/\match L2.atI z.cps.toList i with
  | some c=>Q (.str ⟨#[c]⟩) M
  | none=>False
 | .ref n,.int i=>∃xs,ar M n xs/\match L2.atI xs i with
  | some d=>Q d M
  | none=>False
 | _,_=>False
def FI:IxR X (lowR X.K qIx):=by
 refine IxR.imp IJ λvx vy H R ⟨x,y,M,ρ,Q,sm,r1,r2,q,k⟩=>?_
 unfold qIx at q;split at q
 ·rename_i xs i
  split at q
  ·rename_i d e
   cases r2
   obtain⟨_,_,rfl,h,r⟩:=Rep.inv_tup r1;obtain⟨v,hv,rv⟩:=r.atI e;exact .inr (.inl ⟨_,_,_,v,rfl,rfl,h,hv,k _ H (VQ.now sm rv q)⟩)
  ·exact q.elim
 ·rename_i z i
  obtain⟨hz,q⟩:=q;split at q
  ·rename_i c e
   cases r2
   cases r1
   exact .inr (.inr ⟨z,i,c,rfl,rfl,hz,e,k _ H (VQ.now sm (.str _) q)⟩)
  ·exact q.elim
 ·rename_i n i
  obtain⟨xs,hL,q⟩:=q;split at q
  ·rename_i d e
   cases r2
   obtain⟨_,rfl,hn⟩:=Rep.inv_ref r1;obtain⟨vs,hq,r⟩:=ar.seq sm hL hn;obtain⟨v,hv,rv⟩:=r.atI e;exact .inl ⟨_,_,_,v,rfl,rfl,hq,hv,k _ H (VQ.now sm rv q)⟩
  ·exact q.elim
 ·exact q.elim
def d_ix(ha:DE X a ta)(hb:DE X b tb)(hs:uE b:=by intro _ _;rfl):DE X (.Subscript a b pos) (dOp qIx ta tb):=PE.imp (pe_ix FI ha hb hs) pf
abbrev DTO:=SD->Mem->(Option Int->Mem->Prop)->Prop
def Im(K:AA5)(t:DTO):TO:=λσ H R=>∃S M ρ Q,Sim K ρ M H/\SRep K ρ H S σ/\t S M Q/\∀o H',(∃M' ρ',Sim K ρ' M' H'/\Grow K ρ H ρ' H'/\Q o M')->R o H'
def fe:DTO:=λ_ M Q=>Q none M
def jV(t:DTE):DTO:=λS M Q=>t S M λx M1=>match x with
 | .int i=>Q (some i) M1
 | _=>False
def PO.imp(h:PO X e t')(i:∀σ H R,t σ H R->t' σ H R):PO X e t:=λpins s σ H R I q=>h pins s σ H R I (i σ H R q)
def Gd:PO X none (Im X.K fe):=PO.imp Fb λσ H R ⟨S,M,ρ,Q,s,sr,q,k⟩=>k none H ⟨M,ρ,s,.refl,q⟩
def Gc(h:DE X e te):PO X (some e) (Im X.K (jV te)):=by
 refine PO.imp (Fa h) λσ H R ⟨S,M,ρ,Q,s,sr,q,k⟩=>⟨S,M,ρ,_,s,sr,q,λv H1 ⟨d,M1,ρ1,s1,g1,r1,q1⟩=>?_⟩
 cases r1 with
 | int i=>exact⟨i,rfl,k _ H1 ⟨M1,ρ1,s1,g1,q1⟩⟩
 | _=>exact q1.elim
def Hb:SlR X (λx lo hi H Q=>∃z,x=.str z/\z.length<=sizeLine/\Q (.str (ADG z lo hi)) H):=by
 intro pins s σ H x v vl vu lo hi sl Q I rx hs pl pu h;obtain⟨z,rfl,hz,q⟩:=h;obtain⟨t,rfl⟩:=rx;have part:∀{v:Value}{o:Option Int},IsPart v o->∃p:Option (Int×Tok),v=partValue p/\p.map (·.1)=o:=λh=>by
  cases h with
  | none=>exact⟨none,rfl,rfl⟩
  | int i t=>exact⟨some (i,t),rfl,rfl⟩
 obtain⟨p1,rfl,e1⟩:=part pl;obtain⟨p2,rfl,e2⟩:=part pu;subst e1 e2;refine⟨"str",_,slot_str_getitem.lookup,typeIs_str _ _ _,wpAny_getItem_str_slice (l:=p1) (u:=p2) (st:=none) hs rfl ?_⟩;exact post_val_or_str ⟨AAq (Txt.slice_le z _ _) hz,λt' k=>⟨.str _,H,I.tok k,⟨t',rfl⟩,q⟩⟩
def cutD(xs:List D)(lo hi:Option Int):List D:=(xs.drop (HT.sIx xs.length 0 lo)).take (HT.sIx xs.length xs.length hi-HT.sIx xs.length 0 lo)
def Reps.cutD{K:AA5}{ρ:List Addr}{H:Hp}{ds:List D}{vs:List V}(r:Reps K ρ H ds vs)(lo hi:Option Int):Reps K ρ H (L2.cutD ds lo hi) (En vs lo hi):=by
 unfold L2.cutD En;rw[r.length];exact(r.drop _).take _
def qSl:D->Option Int->Option Int->Mem->DK->Prop:=λx lo hi M Q=>match x with
 | .str z=>z.length<=sizeLine/\Q (.str (ADG z lo hi)) M
 | .ref n=>∃xs,ar M n xs/\Q (.ref M.length) (M++[.lst (cutD xs lo hi)])
 | .tup xs=>Q (.tup (cutD xs lo hi)) M
 | _=>False
def lowSl(K:AA5)(r:D->Option Int->Option Int->Mem->DK->Prop):V->Option Int->Option Int->Hp->VK->Prop:=λvx lo hi H R=>∃x M ρ Q,Sim K ρ M H/\Rep K ρ H x vx/\r x lo hi M Q/\∀v H',VQ K ρ H Q v H'->R v H'
def sld:SlR X (lowSl X.K qSl):=by
 intro pins s σ H x v vl vu lo hi sl R I rx hs pl pu ⟨d,M,ρ,Q,sm,r1,q,k⟩;unfold qSl at q;split at q
 ·cases r1
  exact Hb pins s σ H _ v vl vu lo hi sl R I rx hs pl pu ⟨_,rfl,q.1,k _ H (VQ.now sm (.str _) q.2)⟩
 ·obtain⟨xs,hL,q⟩:=q
  obtain⟨_,rfl,hn⟩:=Rep.inv_ref r1;obtain⟨vs,hq,r⟩:=ar.seq sm hL hn;exact EG pins s σ H _ v vl vu lo hi sl R I rx hs pl pu ⟨_,vs,rfl,hq,λp hp=>k _ _ (VQ.laidL sm .refl (r.cutD lo hi) hp q)⟩
 ·obtain⟨_,_,rfl,h,r⟩:=Rep.inv_tup r1
  rename_i xs a vs;by_cases hw:HT.sIx xs.length 0 lo=0/\HT.sIx xs.length xs.length hi=xs.length
  ·cases rx
   obtain⟨its,rr,ht,hz⟩:=I.tuple h;have hlen:its.toArray.size=xs.length:=by rw[AAC,r.length];exact rr.length.symm
   have e:L2.cutD xs lo hi=xs:=by unfold L2.cutD;rw[hw.1,hw.2,List.drop_zero,Nat.sub_zero,ABa]
   rw[e]at q;exact⟨"tuple",_,ABK.lookup,ht.typeIs,pI ht hs pl pu (by rw[hlen];exact hw) ⟨.ref _,H,I,rfl,k _ H (VQ.now sm (.tup h r) q)⟩⟩
  ·exact Ha pins s σ H _ v vl vu lo hi sl R I rx hs pl pu ⟨_,_,rfl,h,by rw[<-r.length];exact hw,λp hp=>k _ _ (VQ.laidT sm .refl (r.cutD lo hi) hp q)⟩
 ·exact q.elim
def dSl(te:DTE)(tl th:DTO):DTE:=λS M Q=>te S M λx M1=>tl S M1 λl M2=>th S M2 λu M3=>qSl x l u M3 Q
def Gk{e:Expr}{te:DTE}{lo hi:Option Expr}{tl th:DTO}{p2:Pos}(he:DE X e te)(hl:PO X lo (Im X.K tl))(hu:PO X hi (Im X.K th)):DE X (.Subscript e (.Slice lo hi none p2) pos) (dSl te tl th):=by
 refine PE.imp (BP sld he hl hu) λσ H R ⟨S,M,ρ,Q,s,sr,q,k⟩=>⟨S,M,ρ,_,s,sr,q,λv H1 ⟨d,M1,ρ1,s1,g1,r1,q1⟩=>⟨S,M1,ρ1,_,s1,sr.grow g1,q1,λl H2 ⟨M2,ρ2,s2,g2,q2⟩=>⟨S,M2,ρ2,_,s2,sr.grow (g1.trans g2),q2,λu H3 ⟨M3,ρ3,s3,g3,q3⟩=>?_⟩⟩⟩
 exact⟨d,M3,ρ3,Q,s3,r1.grow (g2.trans g3),q3,λv H' w=>k v H' (VQ.trans ((g1.trans g2).trans g3) w)⟩
def oK:DR2:=λx y M Q=>match x,y with
 | .int i,.int j=>CMul i j/\Q (.int (i*j)) M
 | .str z,.int n=>(0<=n/\n<2 ^ 63/\z.length*n.toNat<=sizeLine)/\Q (.str (Txt.mul z n)) M
 | _,_=>False
def tS(h0:0<=n)(h:z.length*n.toNat<=sizeLine)(hn:n<2 ^ 63):MulOk z n:=by
 refine⟨?_,λh1 h2=>?_,λh1 h2=>?_⟩
 ·have e1:decide (n < -(2 ^ 63:Int))=false:=dF_ (by lia)
  have e2:decide (n ≥ 2 ^ 63)=false:=dF_ (by lia)
  rw[e1,e2];rfl
 ·have hz:(z.length:Int)*n<=2 ^ 24:=by
   have e:((z.length*n.toNat:Nat):Int)=(z.length:Int)*n:=by
    rw[Int.natCast_mul,Int.toNat_of_nonneg h0]
   have h':((z.length*n.toNat:Nat):Int)<=(2 ^ 24:Nat):=Int.ofNat_le.mpr h;rw[e]at h';exact h'
  have hpos:0<n:=by lia
  intro hgt;have:=Int.lt_of_lt_of_le (Int.lt_mul_of_ediv_lt hpos hgt) hz;lia
 ·unfold PySem.Builtin.Str.tooLong
  simpa using h
def Fs:OpD X (binaryOp .Mult) oK:=by
 intro pins s σ H vx vy v u R I rx ry ⟨x,y,M,ρ,Q,sm,r1,r2,q,k⟩;unfold oK at q;split at q
 ·cases r1
  cases r2
  exact HR pins s σ H _ _ v u R I rx ry ⟨_,_,rfl,rfl,q.1,k _ H (VQ.now sm (.int _) q.2)⟩
 ·rename_i z n
  cases r1
  cases r2
  obtain⟨t,rfl⟩:=rx;obtain⟨t',rfl⟩:=ry;obtain⟨⟨h0,h2,h1⟩,q⟩:=q;exact PySem.SB.mul (tS h0 h1 h2) λt' j=>⟨.str _,H,I.tok j,⟨t',rfl⟩,k _ H (VQ.now sm (.str _) q)⟩
 ·exact q.elim
variable{o e:Expr}{es:List Expr}{to:DTE}{t:DTA}{name:Str}{apos cpos:Pos}{id:String}
def Cl(K:AA5)(r:Str->DRA):V->List V->Hp->VK->Prop:=λvx vs H R=>∃z ds M ρ Q,vx=.str z/\Sim K ρ M H/\Reps K ρ H ds vs/\r z ds M Q/\∀v H',VQ K ρ H Q v H'->R v H'
def pe(K:AA5)(r:Nat->DRA):V->List V->Hp->VK->Prop:=λvx vs H R=>∃n a ds M ρ Q,vx=.ref a/\ρ[n]?=some a/\Sim K ρ M H/\Reps K ρ H ds vs/\r n ds M Q/\∀v H',VQ K ρ H Q v H'->R v H'
def dMs(r:Str->DRA)(to:DTE)(t:DTA):DTE:=λS M Q=>to S M λx M1=>match x with
 | .str z=>t S M1 λds M2=>r z ds M2 Q
 | _=>False
def dMl(r:Nat->DRA)(to:DTE)(t:DTA):DTE:=λS M Q=>to S M λx M1=>match x with
 | .ref n=>(∃xs,ar M1 n xs)/\t S M1 λds M2=>r n ds M2 Q
 | _=>False
theorem d_ms(slot:Slot "str" name id)(hty:typeOf (.builtin id)=pure (.type "method_descriptor"))(hm:MtR X id (Cl X.K r))(ho:DE X o to)(ha:DA X (e::es) t)
  (hbase:attributeBase o name X.env (eval o X.env)=eval o X.env:=by rfl)
  (hfew:((backTo cpos (starEach (e::es) X.env)).all (λx=>!x.1)&&(backToKw cpos (keywordEach [] X.env)).all (λx=>x.1.isSome)
   && decide ((e::es).length+([]:List Keyword).length+(if ([]:List Keyword).isEmpty then 0 else 1)<30))=true:=by rfl)
  (hline:(apos.endLine==cpos.line)=true:=by rfl) (hs:starEach (e::es) X.env=(false,eval e X.env)::starEach es X.env:=by rfl) (hplain:(backTo cpos (starEach es X.env)).any (·.1)=false:=by rfl) :
  DE X (.Call (.Attribute o name apos) (e::es) [] cpos) (dMs r to t):=by
 refine PE.imp (HK PySem.F.plainAttrs_str slot hty hm ho ha hbase hfew hline hs hplain) λσ H R ⟨S,M,ρ,Q,s,sr,q,k⟩=>⟨S,M,ρ,_,s,sr,q,λv H1 ⟨d,M1,ρ1,s1,g1,r1,q1⟩=>?_⟩
 cases r1 with
 | str z=>exact⟨rfl,S,M1,ρ1,_,s1,sr.grow g1,q1,λvs H2 ⟨ds,M2,ρ2,s2,g2,r2,q2⟩=>⟨z,ds,M2,ρ2,Q,rfl,s2,r2,q2,λv H' w=>k v H' (VQ.trans (g1.trans g2) w)⟩⟩
 | _=>exact q1.elim
theorem d_ml(slot:Slot "list" name id)(hty:typeOf (.builtin id)=pure (.type "method_descriptor"))(hm:MtR X id (pe X.K r))(ho:DE X o to)(ha:DA X (e::es) t)
  (hbase:attributeBase o name X.env (eval o X.env)=eval o X.env:=by rfl)
  (hfew:((backTo cpos (starEach (e::es) X.env)).all (λx=>!x.1)&&(backToKw cpos (keywordEach [] X.env)).all (λx=>x.1.isSome)
   && decide ((e::es).length+([]:List Keyword).length+(if ([]:List Keyword).isEmpty then 0 else 1)<30))=true:=by rfl)
  (hline:(apos.endLine==cpos.line)=true:=by rfl) (hs:starEach (e::es) X.env=(false,eval e X.env)::starEach es X.env:=by rfl) (hplain:(backTo cpos (starEach es X.env)).any (·.1)=false:=by rfl) :
  DE X (.Call (.Attribute o name apos) (e::es) [] cpos) (dMl r to t):=by
 refine PE.imp (HK PySem.F.plainAttrs_list slot hty hm ho ha hbase hfew hline hs hplain) λσ H R ⟨S,M,ρ,Q,s,sr,q,k⟩=>⟨S,M,ρ,_,s,sr,q,λv H1 ⟨d,M1,ρ1,s1,g1,r1,q1⟩=>?_⟩
 cases r1 with
 | @ref n a hn =>
  obtain⟨⟨xs,hL⟩,q1⟩:=(show (∃xs,ar M1 n xs)/\t S M1 _ from q1);obtain⟨vs,hq,_⟩:=ar.seq s1 hL hn;exact⟨.inl ⟨rfl,vs,hq⟩,S,M1,ρ1,_,s1,sr.grow g1,q1,λvs H2 ⟨ds,M2,ρ2,s2,g2,r2,q2⟩=>⟨n,a,ds,M2,ρ2,Q,rfl,aF g2.pre hn,s2,r2,q2,λv H' w=>k v H' (VQ.trans (g1.trans g2) w)⟩⟩
 | _=>exact q1.elim
def cf(n:Nat):DRA:=λds M Q=>match ds with
 | [d]=>∃xs,M[n]?=some (.lst xs)/\xs.length<sizeLine/\Q .non (M.set n (.lst (xs++[d])))
 | _=>False
def xt:MtR X "list.append" (pe X.K cf):=by
 intro pins s σ H x xs v us R I rx rs ⟨n,a,ds,M,ρ,Q,ez,hn,sm,rr,q,k⟩;unfold cf at q;split at q
 ·rename_i d
  obtain⟨ys,e,hl,q⟩:=q;first | have hzz:=Reps.inv_cons rr | have hzz:=aw.inv_cons rr
  clear rr;obtain⟨_,_,rfl,r1,rr⟩:=hzz;cases rr
  obtain⟨vs,hH,r⟩:=sm.obj n a _ hn e;obtain⟨w1,w2⟩:=sm.write hn e hH (r.append (.cons r1 .nil));exact zC pins s σ H x _ v us R I rx rs ⟨a,vs,_,ez,rfl,hH,by rw[<-r.length];exact hl,k _ _ ⟨.non,_,ρ,w1,w2,.non,q⟩⟩
 ·exact q.elim
end
def cy(K:AA5)(mg:Str->Option Value)(x:Str)(st:Stmt)(ps:List Str):Prop :=
 ∃f fd,Fun K x x st f fd/\mg x=some (.ref f)/\sM K fd ps []
def Cal(P:Program)(w:World)(K:AA5)(mg:Str->Option Value)(base:Heap)(k:Nat)(x:Str)(ps:List Str)(Pr:DSp):Prop :=
 ∃f fd,FnOk P w K mg base CX0 k f fd ps (spL K Pr)/\mg x=some (.ref f)/\ACS K (.ref f)=true/\sM K fd ps []
def fnat_mk{K:AA5}{h:Heap}{mg:Str->Option Value}{x:Str}{st:Stmt}{ps:List Str}{f:Addr}{oc:Value}{od an:Option Addr}{osl:Array (Option Value)}{kV doc pm cdv ct:Value}
  (X:K.In h) (G:h.Ns mainGlobals mg) (a:PySem.W.nsIn K mainGlobals x=some (some (.ref f)))
  (l:K.lookup f=some ⟨oc,od,.func (ACd x x (iF st) (bO st) (ap st) .none kV doc pm an cdv ct),osl⟩)
  (c:AEQ K cdv x=true) (k:ACS K (.ref f)=true)
  (h:∀(kV doc pm:Value) (an:Option Addr) (cdv ct:Value) (us:List Value),us.length=ps.length->bindArgs (ACd x x (iF st) (bO st) (ap st) .none kV doc pm an cdv ct) ⟨us,[]⟩=pure (ps.zip us)):cy K mg x st ps :=
 have F:=Jb (st:=st) l c k
 ⟨f,_,F,PySem.W.mg_of X G a,F.binds h⟩
def Cal.of{P:Program}{w:World}{K:AA5}{mg:Str->Option Value}{base:Heap}{x:Str}{st:Stmt}{N ps:List Str}{k:Nat}{Pr:DSp}(F:cy K mg x st ps)(Sc:FnScope N ps (ap st))
  (len:∀ds M R,Pr ds M R->ds.length=ps.length) {t:DTS}
  (der:∀(f:Addr) (cdv:Value) (A:Around) (outer:List Env) (s:Shared) (H:Hp) (E:XK),Room k (A.deeper (envOfC x (ap st) s.heap.objs.size f cdv))->DSs (sA CX0 P w K mg base N x (ap st) f cdv A outer s H E).nox (bO st) t)
  (wp:∀ds M R,Pr ds M R->t ⟨λ_ M'=>bj M R .non M',bj M R,λ_ _=>False,λ_ _=>False⟩ (cC N ds) M):Cal P w K mg base (k+1) x ps Pr:=by
 obtain⟨f,fd,F1,hm,hb⟩:=F;exact⟨f,fd,d_fn Pr F1 Sc len λcdv A outer s H E hr=>⟨t,der f cdv A outer s H E hr,wp⟩,hm,F1.kp,hb⟩
def FR{P:Program}{w:World}{K:AA5}{mg:Str->Option Value}{base:Heap}{x:Str}{st:Stmt}{N ps:List Str}{k:Nat}{Pr:DSp}{f:Addr}{fd:FuncData}(F:Fun K x x st f fd)(Sc:FnScope N ps (ap st))
  (len:∀ds M R,Pr ds M R->ds.length=ps.length) {t:DTS}
  (der:∀(f:Addr) (cdv:Value) (A:Around) (outer:List Env) (s:Shared) (H:Hp) (E:XK),Room k (A.deeper (envOfC x (ap st) s.heap.objs.size f cdv))->DSs (sA CX0 P w K mg base N x (ap st) f cdv A outer s H E).nox (bO st) t)
  (wp:∀ds M R,Pr ds M R->t ⟨λ_ M'=>bj M R .non M',bj M R,λ_ _=>False,λ_ _=>False⟩ (cC N ds) M):FnOk P w K mg base CX0 (k+1) f fd ps (spL K Pr) :=
 d_fn Pr F Sc len λcdv A outer s H E hr=>⟨t,der f cdv A outer s H E hr,wp⟩
section
variable{X:Cx}{e:Expr}{es:List Expr}{t:DTA}{pos:Pos}
def d_cal(C:Cal X.prog X.w X.K X.mg X.base j x ps P)(hr:Room k X.A)(ha:DA X (e::es) t)(hj:j<=k:=by decide)
  (hg:Gl X x:=by rfl) (hdb:(x==("__debug__":Str))=false:=by decide) (he:starEach (e::es) X.env=(false,eval e X.env)::starEach es X.env:=by rfl) (hpl:(backTo pos (starEach es X.env)).any (·.1)=false:=by rfl) :
  DE X (.Call (.Name x p) (e::es) [] pos) (dCB P t):=by
 obtain⟨f,fd,F,hm,hk,hb⟩:=C;exact JC F (hr.mono hj) hm hk hb ha hg hdb he hpl
end
def md(h:M[n]?=some mo)(hl:mo.isL=true):ar M n mo.items:=by
 cases mo with
 | lst xs=>exact .inl h
 | fz xs=>exact .inr (.inl h)
 | kl xs=>exact .inr (.inr h)
 | dct xs=>cases hl
 | dkt xs=>cases hl
 | dkq xs=>cases hl
 | fdc o xs=>cases hl
 | dkm xs=>cases hl
 | tb x b=>cases hl
def jd{K:AA5}{ρ:List Addr}{H:Hp}:∀(ns:List Int),Reps K ρ H (ns.map D.int) (ns.map V.int)
 | []=>.nil
 | n::ns=>.cons (.int n) (jd ns)
def oq(nm:List (Str×NameKind))(N N':List Str)(nt:Nat)(js:List Nat)(sc:Scope):Bool :=
 sc.kind==.function&&sc.names.all (λy=>y.2 != .cell&&(y.2 != .local||sc.names.lookup y.1==some .local)&&(y.2 != .free||(nm.lookup y.1==some .cell||nm.lookup y.1==some .free))) &&
 N'.length==nt+js.length&&(AAk js.length).all λk=>match js[k]?,N'[nt+k]? with
  | some j,some x=>N[j]?==some x&&sc.names.lookup x==some .free&&(nm.lookup x==some .cell||nm.lookup x==some .free)
  | _,_=>false
def BlkSc.chk(h:oq X.env.scope.names X.N N' nt js scope=true):BlkSc X N' nt js scope:=by
 unfold oq at h;simp only[AAW,AAZ,beq_iff_eq,ABG,bne_iff_ne]at h;obtain⟨⟨⟨h1,h2⟩,h3⟩,h4⟩:=h;refine⟨h1,λy hy=>(h2 y hy).1.1,λy hy e=>((h2 y hy).1.2.resolve_left (λz=>z e)),λy hy e=>((h2 y hy).2.resolve_left (λz=>z e)),h3,λk j e=>?_⟩
 have hk:k<js.length:=(AA7.mp e).1;have q:=h4 k (AAz.mpr hk);rw[e]at q;cases f:N'[nt+k]? with
 | none=>rw[f]at q;exact absurd q (by simp)
 | some x =>
  rw[f]at q;simp only[AAW,beq_iff_eq,ABG]at q;exact⟨x,rfl,q.1.1,q.1.2,q.2⟩
section
variable{X:Cx}{a:Expr}{ta:DTE}{pos:Pos}
def dUn(r:DR1)(ta:DTE):DTE:=λS M Q=>ta S M λx M1=>r x M1 Q
def d_un(ho:UnD X (unaryOp op) r)(ha:DE X a ta):DE X (.UnaryOp op a pos) (dUn r ta):=by
 refine PE.imp (pe_un ho ha) λσ H R ⟨S,M,ρ,Q,s,sr,q,k⟩=>⟨S,M,ρ,_,s,sr,q,λv H1 ⟨d,M1,ρ1,s1,g1,r1,q1⟩=>?_⟩
 exact⟨d,M1,ρ1,Q,s1,r1,q1,λv H' w=>k v H' (VQ.trans g1 w)⟩
def GD:DR1:=λx M Q=>match x with
 | .int i=>Q (.int (-i)) M
 | _=>False
def GO:UnD X (unaryOp .USub) GD:=by
 intro pins s σ H vx v R I rx ⟨x,M,ρ,Q,sm,r1,q,k⟩;unfold GD at q;split at q
 ·cases r1
  exact GN pins s σ H _ v R I rx ⟨_,rfl,k _ H (VQ.now sm (.int _) q)⟩
 ·exact q.elim
end
def eqL(f:D->D->Bool):List D->List D->Bool
 | [],[]=>true
 | x::xs,y::ys=>f x y&&eqL f xs ys
 | _,_=>false
def eqD(M:Mem):Nat->D->D->Bool
 | _,.non,.non=>true
 | _,.bl a,.bl b=>a==b
 | _,.bl a,.int b=>(if a then 1 else 0)==b
 | _,.int a,.bl b=>a==(if b then 1 else 0)
 | _,.int a,.int b=>a==b
 | _,.str a,.str b=>a==b
 | n+1,.tup xs,.tup ys=>eqL (eqD M n) xs ys
 | n+1,.ref i,.ref j=>match M[i]?,M[j]? with
  | some a,some b=>eqL (eqD M n) a.items b.items
  | _,_=>false
 | _,_,_=>false
def okD(M:Mem):Nat->D->Bool
 | _,.ty _=>false
 | n+1,.tup xs=>xs.all (okD M n)
 | n+1,.ref i=>match M[i]? with
  | some a=>a.isL&&a.items.all (okD M n)
  | none=>false
 | 0,.tup _=>false
 | 0,.ref _=>false
 | _,_=>true
def AC:∀{xs ys:List D},eqL f xs ys=true->xs.length=ys.length
 | [],[],_=>rfl
 | [],_::_,h=>by simp[eqL]at h
 | _::_,[],h=>by simp[eqL]at h
 | x::xs,y::ys,h=>by
  simp only[eqL,AAW]at h;rw[AAK,AAK,AC h.2]
def Bb(n:Nat)(e:Nat->Bool):(AAk (n+1)).all e=(e 0&&(AAk n).all λj=>e (j+1)):=by
 rw[List.range_succ_eq_map,ABT,List.all_map];rfl
def mv:∀{xs ys:List D}{e:Nat->Bool},xs.length=ys.length->(∀(j:Nat) x y,xs[j]?=some x->ys[j]?=some y->e j=f x y)->(AAk xs.length).all e=eqL f xs ys
 | [],[],e,_,_=>by simp[eqL]
 | [],_::_,_,h,_=>by simp at h
 | _::_,[],_,h,_=>by simp at h
 | x::xs,y::ys,e,h,he=>by
  rw[AAK,Bb,eqL,he 0 x y rfl rfl,mv (by simpa using h) λj x' y' h1 h2=>he (j+1) x' y' (by simpa using h1) (by simpa using h2)]
def AB(h:xs.length≠ys.length):eqL f xs ys=false:=by
 cases q:eqL f xs ys with
 | false=>rfl
 | true=>exact absurd (AC q) h
def iM{vs:List V}{us:List Value}(h:aw vs us){j:Nat}{v:V}(e:vs[j]?=some v):∃u,us[j]?=some u/\aU v u:=by
 induction h generalizing j with
 | nil=>simp at e
 | cons r _ ih =>
  cases j with
  | zero=>simp at e;subst e;exact⟨_,rfl,r⟩
  | succ j=>exact ih (by simpa using e)
section
variable{X:Cx}{pins:List (Addr×Obj)}{σ:St}{H:Hp}{s:Shared}{ρ:List Addr}{M:Mem}
def lI(I:Inv X pins σ H s)(sm:Sim X.K ρ M H){i:Nat}{a:Addr}{mo:MO}(e:ρ[i]?=some a)(hm:M[i]?=some mo)(hl:mo.isL=true):∃vs its,SqL X.K H a vs/\Reps X.K ρ H mo.items vs/\aw vs its/\PlainL s.heap a its.toArray:=by
 obtain⟨vs,hq,r⟩:=ar.seq sm (md hm hl) e;obtain⟨its,rr,pl,_⟩:=I.list hq;exact⟨vs,its,hq,r,rr,pl⟩
def dY(hm:M[i]?=some mo)(o:okD M (n+1) (.ref i)=true):mo.isL=true/\mo.items.all (okD M n)=true:=by
 have o':(match M[i]? with | some a=>a.isL&&a.items.all (okD M n) | none=>false)=true:=o
 rw[hm]at o';exact(AAW _ _).mp o'
def CP(I:Inv X pins σ H s)(sm:Sim X.K ρ M H):∀(n:Nat) (x y:D) (v:V),Rep X.K ρ H x v->Rep X.K ρ H y v->okD M n x=true->okD M n y=true->eqD M n x y=true:=by
 have all:∀(n:Nat),(∀(x y:D) (v:V),Rep X.K ρ H x v->Rep X.K ρ H y v->okD M n x=true->okD M n y=true->eqD M n x y=true) ->
   ∀(xs ys:List D) (vs:List V),Reps X.K ρ H xs vs->Reps X.K ρ H ys vs->xs.all (okD M n)=true->ys.all (okD M n)=true->eqL (eqD M n) xs ys=true:=by
  intro n ih xs;induction xs with
  | nil=>intro ys vs h1 h2 _ _;cases h1;cases h2;rfl
  | cons x xs hi =>
   intro ys vs h1 h2 o1 o2;cases h1 with
   | cons r1 t1 =>
    cases h2 with
    | cons r2 t2 =>
     rw[ABT,AAW]at o1 o2;rw[eqL,ih _ _ _ r1 r2 o1.1 o2.1,hi _ _ t1 t2 o1.2 o2.2];rfl
 intro n;induction n with
 | zero =>
  intro x y v h1 h2 o1 o2;cases h1<;>cases h2<;>first | (simp[okD]at o1;done) | rfl | simp[eqD]
 | succ n ih =>
  intro x y v h1 h2 o1 o2;cases h1 with
  | non=>cases h2;rfl
  | bl b=>cases h2;simp[eqD]
  | int b=>cases h2;simp[eqD]
  | str b=>cases h2;simp[eqD]
  | ty b=>simp[okD]at o1
  | @tup a vs ds hq r =>
   cases h2 with
   | tup hq' r' =>
    have e:=I.tuple_inj hq hq';subst e;exact all n ih _ _ _ r r' (by simpa [okD]using o1) (by simpa [okD]using o2)
   | @ref i _ e =>
    exfalso
    obtain⟨its,_,⟨o,e1,e2,_⟩,_⟩:=I.tuple hq;have hi:i<M.length:=by rw[<-sm.len];exact(AA7.mp e).1
    obtain⟨vs',its',_,_,_,⟨o',n',f1,f2,_⟩⟩:=lI I sm e (AA6 hi) (dY (AA6 hi) o2).1;rw[e1]at f1;cases f1;rw[e2]at f2;injection f2 with f3;exact absurd f3 (by decide)
  | @ref i a e =>
   have hi:i<M.length:=by rw[<-sm.len];exact(AA7.mp e).1
   have hm:=AA6 hi;obtain⟨vs,its,hq,r,rr,pl⟩:=lI I sm e hm (dY hm o1).1;cases h2 with
   | tup hq' r' =>
    exfalso
    obtain⟨its',_,⟨o,e1,e2,_⟩,_⟩:=I.tuple hq';obtain⟨o',n',f1,f2,_⟩:=pl;rw[e1]at f1;cases f1;rw[e2]at f2;injection f2 with f3;exact absurd f3 (by decide)
   | @ref j _ e' =>
    have hj:j<M.length:=by rw[<-sm.len];exact(AA7.mp e').1
    have hm':=AA6 hj;obtain⟨vs',its',hq',r',rr',pl'⟩:=lI I sm e' hm' (dY hm' o2).1;have ev:vs=vs':=I.list_inj hq hq';subst ev;have o1':=(dY hm o1).2;have o2':=(dY hm' o2).2;simp only[eqD,hm,hm'];exact all n ih _ _ _ r r' o1' o2'
def my(I:Inv X pins σ H s)(sm:Sim X.K ρ M H):∀(n:Nat) (A:Around) (x y:D) (vx vy:V) (u v:Value),A.units+n<cLine->Rep X.K ρ H x vx->aU vx u->Rep X.K ρ H y vy->aU vy v->okD M n x=true->okD M n y=true ->
  ACJ A s u v (eqD M n x y)/\SeqAt.RcAt A s u v (eqD M n x y)/\SeqAt.RcNeAt A s u v (!eqD M n x y):=by
 intro n;induction n with
 | zero =>
  intro A x y vx vy u v hu r1 e1 r2 e2 o1 o2;cases r1 with
  | ty b=>simp[okD]at o1
  | tup b=>simp[okD]at o1
  | ref b=>simp[okD]at o1
  | non =>
   cases e1
   cases r2 with
   | ty b=>simp[okD]at o2
   | tup b=>simp[okD]at o2
   | ref b=>simp[okD]at o2
   | non=>cases e2;exact⟨AEJ _,SeqAt.RcAt.none_none,SeqAt.RcNeAt.none_none⟩
   | bl b=>cases e2;exact⟨SeqAt.EqAt.none_bool _,SeqAt.RcAt.none_bool _,SeqAt.RcNeAt.none_bool _⟩
   | int b=>obtain⟨t,rfl⟩:=e2;exact⟨SeqAt.EqAt.none_int _ _,SeqAt.RcAt.none_int _ _,SeqAt.RcNeAt.none_int _ _⟩
   | str b=>obtain⟨t,rfl⟩:=e2;exact⟨SeqAt.EqAt.none_str _ _,SeqAt.RcAt.none_str _ _,SeqAt.RcNeAt.none_str _ _⟩
  | bl a =>
   cases e1
   cases r2 with
   | ty b=>simp[okD]at o2
   | tup b=>simp[okD]at o2
   | ref b=>simp[okD]at o2
   | non=>cases e2;exact⟨SeqAt.EqAt.bool_none _,SeqAt.RcAt.bool_none _,SeqAt.RcNeAt.bool_none _⟩
   | bl b=>cases e2;exact⟨SeqAt.EqAt.bool_bool _ _,SeqAt.RcAt.bool_bool _ _,SeqAt.RcNeAt.bool_bool _ _⟩
   | int b=>obtain⟨t,rfl⟩:=e2;exact⟨SeqAt.EqAt.bool_int _ _ _,SeqAt.RcAt.bool_int _ _ _,SeqAt.RcNeAt.bool_int _ _ _⟩
   | str b=>obtain⟨t,rfl⟩:=e2;exact⟨SeqAt.EqAt.bool_str _ _ _,SeqAt.RcAt.bool_str _ _ _,SeqAt.RcNeAt.bool_str _ _ _⟩
  | int a =>
   obtain⟨t0,rfl⟩:=e1;cases r2 with
   | ty b=>simp[okD]at o2
   | tup b=>simp[okD]at o2
   | ref b=>simp[okD]at o2
   | non=>cases e2;exact⟨SeqAt.EqAt.int_none _ _,SeqAt.RcAt.int_none _ _,SeqAt.RcNeAt.int_none _ _⟩
   | bl b=>cases e2;exact⟨SeqAt.EqAt.int_bool _ _ _,SeqAt.RcAt.int_bool _ _ _,SeqAt.RcNeAt.int_bool _ _ _⟩
   | int b=>obtain⟨t,rfl⟩:=e2;exact⟨ADZ _ _ _ _,SeqAt.RcAt.int_int _ _ _ _,SeqAt.RcNeAt.int_int _ _ _ _⟩
   | str b=>obtain⟨t,rfl⟩:=e2;exact⟨ACq _ _ _ _,SeqAt.RcAt.int_str _ _ _ _,SeqAt.RcNeAt.int_str _ _ _ _⟩
  | str a =>
   obtain⟨t0,rfl⟩:=e1;cases r2 with
   | ty b=>simp[okD]at o2
   | tup b=>simp[okD]at o2
   | ref b=>simp[okD]at o2
   | non=>cases e2;exact⟨SeqAt.EqAt.str_none _ _,SeqAt.RcAt.str_none _ _,SeqAt.RcNeAt.str_none _ _⟩
   | bl b=>cases e2;exact⟨SeqAt.EqAt.str_bool _ _ _,SeqAt.RcAt.str_bool _ _ _,SeqAt.RcNeAt.str_bool _ _ _⟩
   | int b=>obtain⟨t,rfl⟩:=e2;exact⟨ACr _ _ _ _,SeqAt.RcAt.str_int _ _ _ _,SeqAt.RcNeAt.str_int _ _ _ _⟩
   | str b=>obtain⟨t,rfl⟩:=e2;exact⟨ADa _ _ _ _,SeqAt.RcAt.str_str _ _ _ _,SeqAt.RcNeAt.str_str _ _ _ _⟩
 | succ n ih =>
  intro A x y vx vy u v hu r1 e1 r2 e2 o1 o2;have hu0:A.units<cLine:=by lia
  have hu1:A.in1.units+n<cLine:=by show A.units+1+n<cLine;lia
  -- what a list or a tuple is,as the heap has it
  have tupAt:∀{a:Addr}{vs:List V}{ds:List D},SqT X.K H a vs->Reps X.K ρ H ds vs->∃its:List Value,aw vs its/\s.heap.IsTuple a its.toArray/\ds.length=its.length:=λ{a vs ds} hq r=>by
   obtain⟨its,rr,pl,_⟩:=I.tuple hq;exact⟨its,rr,pl,r.length.trans rr.length⟩
  have lstAt:∀{i:Nat}{a:Addr},ρ[i]?=some a->okD M (n+1) (.ref i)=true->∃mo,M[i]?=some mo/\∃vs its,Reps X.K ρ H mo.items vs/\aw vs its/\s.heap.IsList a its.toArray/\mo.items.length=its.length:=λ{i a} e ok=>by
   have hi:i<M.length:=by rw[<-sm.len];exact(AA7.mp e).1
   have hm:=AA6 hi;obtain⟨vs,its,hq,r,rr,pl⟩:=lI I sm e hm (dY hm ok).1;exact⟨_,hm,vs,its,r,rr,pl.isList,r.length.trans rr.length⟩
  have items:∀{xs ys:List D}{vs ws:List V}{its jts:List Value},Reps X.K ρ H xs vs->aw vs its->Reps X.K ρ H ys ws->aw ws jts->xs.all (okD M n)=true->ys.all (okD M n)=true ->
    ∀(j:Nat) (h1:j<its.toArray.size) (h2:j<jts.toArray.size),ACJ A.in1 s its.toArray[j] jts.toArray[j] (eqD M n (xs.getD j .non) (ys.getD j .non)):=λ{xs ys vs ws its jts} r1 q1 r2 q2 o1 o2 j h1 h2=>by
   have l1:j<xs.length:=by rw[r1.length,q1.length];simpa using h1
   have l2:j<ys.length:=by rw[r2.length,q2.length];simpa using h2
   obtain⟨v1,g1,p1⟩:=r1.get (AA6 l1);obtain⟨v2,g2,p2⟩:=r2.get (AA6 l2);obtain⟨u1,k1,m1⟩:=iM q1 g1;obtain⟨u2,k2,m2⟩:=iM q2 g2;have z1:its.toArray[j]=u1:=by
    have:=(AA7.mp k1).2;simpa using this
   have z2:jts.toArray[j]=u2:=by
    have:=(AA7.mp k2).2;simpa using this
   rw[z1,z2];have y1:xs.getD j .non=xs[j]:=by simp[AEW,AA6 l1]
   have y2:ys.getD j .non=ys[j]:=by simp[AEW,AA6 l2]
   rw[y1,y2];exact(ih A.in1 _ _ _ _ _ _ hu1 p1 m1 p2 m2 (AAZ.mp o1 _ (ABA l1)) (AAZ.mp o2 _ (ABA l2))).1
  have rng:∀(xs ys:List D),xs.length=ys.length->(AAk xs.length).all (λj=>eqD M n (xs.getD j .non) (ys.getD j .non))=eqL (eqD M n) xs ys:=λxs ys h=>mv h λj x y h1 h2=>by
   simp[AEW,h1,h2]
  have fin:∀{a b:Addr}{k:Bool},Rep X.K ρ H x (.ref a)->Rep X.K ρ H y (.ref b)->eqD M (n+1) x y=k->SeqAt.RcAt A s (.ref a) (.ref b) k->SeqAt.RcNeAt A s (.ref a) (.ref b) (!k) ->
    ACJ A s (.ref a) (.ref b) (eqD M (n+1) x y)/\SeqAt.RcAt A s (.ref a) (.ref b) (eqD M (n+1) x y)/\SeqAt.RcNeAt A s (.ref a) (.ref b) (!eqD M (n+1) x y):=λ{a b k} p1 p2 ek h1 h2=>by
   subst ek;refine⟨?_,h1,h2⟩;by_cases hab:a=b
   ·subst hab
    rw[CP I sm (n+1) x y _ p1 p2 o1 o2];exact AEJ _
   ·exact SeqAt.EqAt.of_refs hab h1
  cases r1 with
  | ty b=>simp[okD]at o1
  | non =>
   cases e1
   cases r2 with
   | ty b=>simp[okD]at o2
   | tup hq r=>cases e2;obtain⟨its,rr,pl,_⟩:=tupAt hq r;exact⟨SeqAt.EqAt.none_tuple pl hu0,SeqAt.RcAt.none_tuple pl hu0,SeqAt.RcNeAt.none_tuple pl hu0⟩
   | ref e=>cases e2;obtain⟨mo,hm,vs,its,r,rr,pl,_⟩:=lstAt e o2;exact⟨SeqAt.EqAt.none_list pl hu0,SeqAt.RcAt.none_list pl hu0,SeqAt.RcNeAt.none_list pl hu0⟩
   | non=>cases e2;exact⟨AEJ _,SeqAt.RcAt.none_none,SeqAt.RcNeAt.none_none⟩
   | bl b=>cases e2;exact⟨SeqAt.EqAt.none_bool _,SeqAt.RcAt.none_bool _,SeqAt.RcNeAt.none_bool _⟩
   | int b=>obtain⟨t,rfl⟩:=e2;exact⟨SeqAt.EqAt.none_int _ _,SeqAt.RcAt.none_int _ _,SeqAt.RcNeAt.none_int _ _⟩
   | str b=>obtain⟨t,rfl⟩:=e2;exact⟨SeqAt.EqAt.none_str _ _,SeqAt.RcAt.none_str _ _,SeqAt.RcNeAt.none_str _ _⟩
  | bl a =>
   cases e1
   cases r2 with
   | ty b=>simp[okD]at o2
   | tup hq r=>cases e2;obtain⟨its,rr,pl,_⟩:=tupAt hq r;exact⟨SeqAt.EqAt.bool_tuple _ pl hu0,SeqAt.RcAt.bool_tuple _ pl hu0,SeqAt.RcNeAt.bool_tuple _ pl hu0⟩
   | ref e=>cases e2;obtain⟨mo,hm,vs,its,r,rr,pl,_⟩:=lstAt e o2;exact⟨SeqAt.EqAt.bool_list _ pl hu0,SeqAt.RcAt.bool_list _ pl hu0,SeqAt.RcNeAt.bool_list _ pl hu0⟩
   | non=>cases e2;exact⟨SeqAt.EqAt.bool_none _,SeqAt.RcAt.bool_none _,SeqAt.RcNeAt.bool_none _⟩
   | bl b=>cases e2;exact⟨SeqAt.EqAt.bool_bool _ _,SeqAt.RcAt.bool_bool _ _,SeqAt.RcNeAt.bool_bool _ _⟩
   | int b=>obtain⟨t,rfl⟩:=e2;exact⟨SeqAt.EqAt.bool_int _ _ _,SeqAt.RcAt.bool_int _ _ _,SeqAt.RcNeAt.bool_int _ _ _⟩
   | str b=>obtain⟨t,rfl⟩:=e2;exact⟨SeqAt.EqAt.bool_str _ _ _,SeqAt.RcAt.bool_str _ _ _,SeqAt.RcNeAt.bool_str _ _ _⟩
  | int a =>
   obtain⟨t0,rfl⟩:=e1;cases r2 with
   | ty b=>simp[okD]at o2
   | tup hq r=>cases e2;obtain⟨its,rr,pl,_⟩:=tupAt hq r;exact⟨SeqAt.EqAt.int_tuple _ _ pl hu0,SeqAt.RcAt.int_tuple _ _ pl hu0,SeqAt.RcNeAt.int_tuple _ _ pl hu0⟩
   | ref e=>cases e2;obtain⟨mo,hm,vs,its,r,rr,pl,_⟩:=lstAt e o2;exact⟨SeqAt.EqAt.int_list _ _ pl hu0,SeqAt.RcAt.int_list _ _ pl hu0,SeqAt.RcNeAt.int_list _ _ pl hu0⟩
   | non=>cases e2;exact⟨SeqAt.EqAt.int_none _ _,SeqAt.RcAt.int_none _ _,SeqAt.RcNeAt.int_none _ _⟩
   | bl b=>cases e2;exact⟨SeqAt.EqAt.int_bool _ _ _,SeqAt.RcAt.int_bool _ _ _,SeqAt.RcNeAt.int_bool _ _ _⟩
   | int b=>obtain⟨t,rfl⟩:=e2;exact⟨ADZ _ _ _ _,SeqAt.RcAt.int_int _ _ _ _,SeqAt.RcNeAt.int_int _ _ _ _⟩
   | str b=>obtain⟨t,rfl⟩:=e2;exact⟨ACq _ _ _ _,SeqAt.RcAt.int_str _ _ _ _,SeqAt.RcNeAt.int_str _ _ _ _⟩
  | str a =>
   obtain⟨t0,rfl⟩:=e1;cases r2 with
   | ty b=>simp[okD]at o2
   | tup hq r=>cases e2;obtain⟨its,rr,pl,_⟩:=tupAt hq r;exact⟨SeqAt.EqAt.str_tuple _ _ pl hu0,SeqAt.RcAt.str_tuple _ _ pl hu0,SeqAt.RcNeAt.str_tuple _ _ pl hu0⟩
   | ref e=>cases e2;obtain⟨mo,hm,vs,its,r,rr,pl,_⟩:=lstAt e o2;exact⟨SeqAt.EqAt.str_list _ _ pl hu0,SeqAt.RcAt.str_list _ _ pl hu0,SeqAt.RcNeAt.str_list _ _ pl hu0⟩
   | non=>cases e2;exact⟨SeqAt.EqAt.str_none _ _,SeqAt.RcAt.str_none _ _,SeqAt.RcNeAt.str_none _ _⟩
   | bl b=>cases e2;exact⟨SeqAt.EqAt.str_bool _ _ _,SeqAt.RcAt.str_bool _ _ _,SeqAt.RcNeAt.str_bool _ _ _⟩
   | int b=>obtain⟨t,rfl⟩:=e2;exact⟨ACr _ _ _ _,SeqAt.RcAt.str_int _ _ _ _,SeqAt.RcNeAt.str_int _ _ _ _⟩
   | str b=>obtain⟨t,rfl⟩:=e2;exact⟨ADa _ _ _ _,SeqAt.RcAt.str_str _ _ _ _,SeqAt.RcNeAt.str_str _ _ _ _⟩
  | @tup a vs ds hq r =>
   cases e1
   obtain⟨its,rr,pl,ll⟩:=tupAt hq r;cases r2 with
   | ty b=>simp[okD]at o2
   | non=>cases e2;exact⟨SeqAt.EqAt.tuple_none pl hu0,SeqAt.RcAt.tuple_none pl hu0,SeqAt.RcNeAt.tuple_none pl hu0⟩
   | bl b=>cases e2;exact⟨SeqAt.EqAt.tuple_bool _ pl hu0,SeqAt.RcAt.tuple_bool _ pl hu0,SeqAt.RcNeAt.tuple_bool _ pl hu0⟩
   | int b=>obtain⟨t,rfl⟩:=e2;exact⟨SeqAt.EqAt.tuple_int _ _ pl hu0,SeqAt.RcAt.tuple_int _ _ pl hu0,SeqAt.RcNeAt.tuple_int _ _ pl hu0⟩
   | str b=>obtain⟨t,rfl⟩:=e2;exact⟨SeqAt.EqAt.tuple_str _ _ pl hu0,SeqAt.RcAt.tuple_str _ _ pl hu0,SeqAt.RcNeAt.tuple_str _ _ pl hu0⟩
   | ref e=>cases e2;obtain⟨mo,hm,vs',its',r',rr',pl',_⟩:=lstAt e o2;exact⟨SeqAt.EqAt.tuple_list pl pl' hu0,SeqAt.RcAt.tuple_list pl pl' hu0,SeqAt.RcNeAt.tuple_list pl pl' hu0⟩
   | @tup b ws es hq' r' =>
    cases e2
    obtain⟨jts,rr',pl',ll'⟩:=tupAt hq' r';have ok1:ds.all (okD M n)=true:=by simpa [okD]using o1
    have ok2:es.all (okD M n)=true:=by simpa [okD]using o2
    have key:((AAk (min its.toArray.size jts.toArray.size)).all (λj=>eqD M n (ds.getD j .non) (es.getD j .non))&&its.toArray.size==jts.toArray.size)=eqL (eqD M n) ds es:=by
     rw[AAC,AAC];by_cases hl:ds.length=es.length
     ·rw[<-ll,<-ll',<-hl,Nat.min_self,rng ds es hl]
      simp
     ·rw[AB hl,<-ll,<-ll']
      simp[hl]
    have h1:=SeqAt.RcAt.tuples pl pl' hu0 (items r rr r' rr' ok1 ok2);have h2:=SeqAt.RcNeAt.tuples pl pl' hu0 (items r rr r' rr' ok1 ok2);rw[key]at h1 h2;exact fin (.tup hq r) (.tup hq' r') rfl h1 h2
  | @ref i a e =>
   cases e1
   obtain⟨mo,hm,vs,its,r,rr,pl,ll⟩:=lstAt e o1;cases r2 with
   | ty b=>simp[okD]at o2
   | non=>cases e2;exact⟨SeqAt.EqAt.list_none pl hu0,SeqAt.RcAt.list_none pl hu0,SeqAt.RcNeAt.list_none pl hu0⟩
   | bl b=>cases e2;exact⟨SeqAt.EqAt.list_bool _ pl hu0,SeqAt.RcAt.list_bool _ pl hu0,SeqAt.RcNeAt.list_bool _ pl hu0⟩
   | int b=>obtain⟨t,rfl⟩:=e2;exact⟨SeqAt.EqAt.list_int _ _ pl hu0,SeqAt.RcAt.list_int _ _ pl hu0,SeqAt.RcNeAt.list_int _ _ pl hu0⟩
   | str b=>obtain⟨t,rfl⟩:=e2;exact⟨SeqAt.EqAt.list_str _ _ pl hu0,SeqAt.RcAt.list_str _ _ pl hu0,SeqAt.RcNeAt.list_str _ _ pl hu0⟩
   | tup hq' r'=>cases e2;obtain⟨its',rr',pl',_⟩:=tupAt hq' r';exact⟨SeqAt.EqAt.list_tuple pl pl' hu0,SeqAt.RcAt.list_tuple pl pl' hu0,SeqAt.RcNeAt.list_tuple pl pl' hu0⟩
   | @ref j b e' =>
    cases e2
    obtain⟨mo',hm',ws,jts,r',rr',pl',ll'⟩:=lstAt e' o2;have ok1:mo.items.all (okD M n)=true:=(dY hm o1).2;have ok2:mo'.items.all (okD M n)=true:=(dY hm' o2).2;have ek:eqD M (n+1) (.ref i) (.ref j)=eqL (eqD M n) mo.items mo'.items:=by simp only[eqD,hm,hm']
    by_cases hl:mo.items.length=mo'.items.length
    ·have hsz:its.toArray.size=jts.toArray.size:=by rw[AAC,AAC,<-ll,<-ll',hl]
     have h1:=SeqAt.RcAt.lists pl pl' hsz hu0 (items r rr r' rr' ok1 ok2);have h2:=SeqAt.RcNeAt.lists pl pl' hsz hu0 (items r rr r' rr' ok1 ok2);rw[AAC,<-ll,rng _ _ hl]at h1 h2;exact fin (.ref e) (.ref e') ek h1 h2
    ·have hsz:(its.toArray.size != jts.toArray.size)=true:=by
      rw[AAC,AAC,<-ll,<-ll'];simpa using hl
     have h1:=SeqAt.RcAt.lists_lengths pl pl' hsz hu0;have h2:=SeqAt.RcNeAt.lists_lengths pl pl' hsz hu0;exact fin (.ref e) (.ref e') (ek.trans (AB hl)) h1 h2
def eqN:Nat:=30
def qEq:DR2:=λx y M Q=>(okD M eqN x=true/\okD M eqN y=true)/\Q (.bl (eqD M eqN x y)) M
def qNe:DR2:=λx y M Q=>(okD M eqN x=true/\okD M eqN y=true)/\Q (.bl (!eqD M eqN x y)) M
def inD(M:Mem)(x:D)(ys:List D):Bool:=ys.any λy=>eqD M eqN y x
def Hi(neg:Bool):DR2:=λx y M Q=>match y with
 | .tup ys=>(okD M eqN x=true/\ys.all (okD M eqN)=true)/\Q (.bl (inD M x ys != neg)) M
 | .ref n=>∃ys,ar M n ys/\(okD M eqN x=true/\ys.all (okD M eqN)=true)/\Q (.bl (inD M x ys != neg)) M
 | .str z=>match x with
  | .str p=>Q (.bl ((!(ADb z p 0 z.length 1).isEmpty) != neg)) M
  | _=>False
 | _=>False
abbrev qIn:DR2:=Hi false
abbrev jh:DR2:=Hi true
end
section
variable{X:Cx}
def uJ(hr:Room k A):A.units+eqN<cLine:=by have:=hr.un;unfold eqN;lia
def od_eq(hr:Room k X.A):OpD X (compareOp .Eq) qEq:=by
 intro pins s σ H vx vy v u R I rx ry ⟨x,y,M,ρ,Q,sm,r1,r2,⟨⟨o1,o2⟩,q⟩,k⟩;exact(my I sm eqN X.A x y vx vy v u (uJ hr) r1 rx r2 ry o1 o2).2.1 _ _ _ _ (iE I sm k q)
def od_ne(hr:Room k X.A):OpD X (compareOp .NotEq) qNe:=by
 intro pins s σ H vx vy v u R I rx ry ⟨x,y,M,ρ,Q,sm,r1,r2,⟨⟨o1,o2⟩,q⟩,k⟩;exact(my I sm eqN X.A x y vx vy v u (uJ hr) r1 rx r2 ry o1 o2).2.2 _ _ _ _ (iE I sm k q)
def sd{pins:List (Addr×Obj)}{σ:St}{H:Hp}{s:Shared}{ρ:List Addr}{M:Mem}(I:Inv X pins σ H s)(sm:Sim X.K ρ M H):∀(n:Nat) (x y z:D) (v:V),Rep X.K ρ H x v->Rep X.K ρ H y v->okD M n x=true->okD M n y=true->eqD M n x z=eqD M n y z:=by
 have all:∀(n:Nat),(∀(x y z:D) (v:V),Rep X.K ρ H x v->Rep X.K ρ H y v->okD M n x=true->okD M n y=true->eqD M n x z=eqD M n y z) ->
   ∀(xs ys zs:List D) (vs:List V),Reps X.K ρ H xs vs->Reps X.K ρ H ys vs->xs.all (okD M n)=true->ys.all (okD M n)=true->eqL (eqD M n) xs zs=eqL (eqD M n) ys zs:=by
  intro n ih xs;induction xs with
  | nil=>intro ys zs vs h1 h2 _ _;cases h1;cases h2;rfl
  | cons x xs hi =>
   intro ys zs vs h1 h2 o1 o2;cases h1 with
   | cons r1 t1 =>
    cases h2 with
    | cons r2 t2 =>
     cases zs with
     | nil=>rfl
     | cons z zs =>
      rw[ABT,AAW]at o1 o2;rw[eqL,eqL,ih _ _ z _ r1 r2 o1.1 o2.1,hi _ zs _ t1 t2 o1.2 o2.2]
 intro n;induction n with
 | zero =>
  intro x y z v h1 h2 o1 o2;cases h1<;>cases h2<;>first | rfl | (cases z<;>rfl)
 | succ n ih =>
  intro x y z v h1 h2 o1 o2;cases h1 with
  | non=>cases h2;rfl
  | bl b=>cases h2;rfl
  | int b=>cases h2;rfl
  | str b=>cases h2;rfl
  | ty b=>cases h2;rfl
  | @tup a vs ds hq r =>
   cases h2 with
   | tup hq' r' =>
    have e:=I.tuple_inj hq hq';subst e;cases z with
    | tup zs=>exact all n ih _ _ zs _ r r' o1 o2
    | _=>rfl
   | @ref i _ e =>
    exfalso
    obtain⟨its,_,⟨o,e1,e2,_⟩,_⟩:=I.tuple hq;have hi:i<M.length:=by rw[<-sm.len];exact(AA7.mp e).1
    obtain⟨vs',its',_,_,_,⟨o',n',f1,f2,_⟩⟩:=lI I sm e (AA6 hi) (dY (AA6 hi) o2).1;rw[e1]at f1;cases f1;rw[e2]at f2;injection f2 with f3;exact absurd f3 (by decide)
  | @ref i a e =>
   have hi:i<M.length:=by rw[<-sm.len];exact(AA7.mp e).1
   have hm:=AA6 hi;obtain⟨vs,its,hq,r,rr,pl⟩:=lI I sm e hm (dY hm o1).1;cases h2 with
   | tup hq' r' =>
    exfalso
    obtain⟨its',_,⟨o,e1,e2,_⟩,_⟩:=I.tuple hq';obtain⟨o',n',f1,f2,_⟩:=pl;rw[e1]at f1;cases f1;rw[e2]at f2;injection f2 with f3;exact absurd f3 (by decide)
   | @ref j _ e' =>
    have hj:j<M.length:=by rw[<-sm.len];exact(AA7.mp e').1
    have hm':=AA6 hj;obtain⟨vs',its',hq',r',rr',pl'⟩:=lI I sm e' hm' (dY hm' o2).1;have ev:vs=vs':=I.list_inj hq hq';subst ev;cases z with
    | ref k =>
     simp only[eqD,hm,hm'];cases M[k]? with
     | none=>rfl
     | some mo=>exact all n ih _ _ _ _ r r' (dY hm o1).2 (dY hm' o2).2
    | _=>rfl
def Am{k:Nat}(hr:Room k X.A){pins:List (Addr×Obj)}{σ:St}{H:Hp}{s:Shared}{ρ:List Addr}{M:Mem}(I:Inv X pins σ H s)(sm:Sim X.K ρ M H){x:D}{vx:V}{v:Value}(r1:Rep X.K ρ H x vx)(rx:aU vx v)(o1:okD M eqN x=true) :
  ∀{ys:List D}{ws:List V}{its:List Value},Reps X.K ρ H ys ws->aw ws its->ys.all (okD M eqN)=true->∃e:Value->Bool,(∀u∈its,ACJ X.A.in1 s u v (e u))/\its.any e=inD M x ys:=by
 have hu:X.A.in1.units+eqN<cLine:=by have:=hr.un;show X.A.units+1+eqN<cLine;unfold eqN;lia
 intro ys ws its rs vs ok
 classical
 refine⟨λu=>if h:∃d v',Rep X.K ρ H d v'/\aU v' u/\okD M eqN d=true then eqD M eqN h.choose x else false,λu hm=>?_,?_⟩
 ·obtain⟨j,hj,ej⟩:=List.getElem_of_mem hm
  have lj:j<ws.length:=by rw[vs.length];exact hj
  obtain⟨d,hd,rd⟩:=rs.getV (AA6 lj);obtain⟨u',hu',ru⟩:=iM vs (AA6 lj);have:u'=u:=by rw[AA6 hj]at hu';cases hu';exact ej
  subst this;have okd:=AAZ.mp ok _ (AAi hd);have h:∃d v',Rep X.K ρ H d v'/\aU v' u'/\okD M eqN d=true:=⟨d,_,rd,ru,okd⟩;show ACJ X.A.in1 s u' v (if h:_ then _ else _);rw[dif_pos h];obtain⟨v',p1,p2,p3⟩:=h.choose_spec;have ev:=aU.inj p2 ru;subst ev;rw[sd I sm eqN _ d x _ p1 rd p3 okd];exact(my I sm eqN X.A.in1 d x _ vx _ v hu rd ru r1 rx (AAZ.mp ok _ (AAi hd)) o1).1
 ·clear hu o1
  unfold inD;induction ys generalizing ws its with
  | nil=>cases rs;cases vs;rfl
  | cons d ds ih =>
   cases rs with
   | cons r t =>
   cases vs with
   | cons q t' =>
    rename_i v' vs' u us;rw[ABT,AAW]at ok;have h:∃d v',Rep X.K ρ H d v'/\aU v' u/\okD M eqN d=true:=⟨d,_,r,q,ok.1⟩;rw[List.any_cons,List.any_cons,ih t t' ok.2,dif_pos h];obtain⟨v2,p1,p2,p3⟩:=h.choose_spec;have ev:=aU.inj p2 q;subst ev;rw[sd I sm eqN _ d x _ p1 r p3 ok.1]
def Dz(neg:Bool)(hr:Room k X.A):OpD X (compareOp (if neg then .NotIn else .In)) (Hi neg):=by
 intro pins s σ H vx vy v u R I rx ry ⟨x,y,M,ρ,Q,sm,r1,r2,q,k⟩;cases r2 with
 | non=>exact q.elim
 | bl b=>exact q.elim
 | int b=>exact q.elim
 | ty b=>exact q.elim
 | str z =>
  cases r1 with
  | str p =>
   obtain⟨t,rfl⟩:=rx;obtain⟨t',rfl⟩:=ry;cases neg with
   | false=>exact in_str (iE I sm k (by simpa [Hi]using q))
   | true=>exact notIn_str (iE I sm k (by simpa [Hi]using q))
  | _=>exact q.elim
 | @tup a ws ys hq r =>
  cases ry
  obtain⟨⟨o1,o2⟩,q⟩:=(show (okD M eqN x=true/\_)/\_ from q);obtain⟨its,rr,pl,hz⟩:=I.tuple hq;obtain⟨e,he,ee⟩:=Am hr I sm r1 rx o1 r rr o2;have ea:its.toArray.any e=inD M x ys:=by rw[<-ee];simp
  cases neg with
  | false=>exact SeqAt.in_tupleAt e pl (λw hw=>he w (by simpa using hw)) (by rw[ea];exact iE I sm k (by simpa using q))
  | true=>exact SeqAt.notIn_tupleAt e pl (λw hw=>he w (by simpa using hw)) (by rw[ea];exact iE I sm k (by simpa using q))
 | ref h =>
  cases ry
  obtain⟨ys,hL,⟨o1,o2⟩,q⟩:=(show ∃ys,ar M _ ys/\(okD M eqN x=true/\_)/\_ from q);obtain⟨ws,hq,r⟩:=ar.seq sm hL h;obtain⟨its,rr,pl,hz⟩:=I.list hq;obtain⟨e,he,ee⟩:=Am hr I sm r1 rx o1 r rr o2;have ea:its.toArray.any e=inD M x ys:=by rw[<-ee];simp
  cases neg with
  | false=>exact SeqAt.in_listAt e pl.isList (λw hw=>he w (by simpa using hw)) (by rw[ea];exact iE I sm k (by simpa using q))
  | true=>exact SeqAt.notIn_listAt e pl.isList (λw hw=>he w (by simpa using hw)) (by rw[ea];exact iE I sm k (by simpa using q))
def od_in(hr:Room k X.A):OpD X (compareOp .In) qIn:=Dz false hr
def Cb(hr:Room k X.A):OpD X (compareOp .NotIn) jh:=Dz true hr
end
def JJ:bootBuiltins "len" = some (.builtin "len"):=by decide +kernel
def JK:bootBuiltins "any" = some (.builtin "any"):=by decide +kernel
def sK:bootBuiltins "sorted" = some (.builtin "sorted"):=by decide +kernel
def Di:bootBuiltins "tuple" = some (.type "tuple"):=by decide +kernel
def Gw:bootBuiltins "dict" = some (.type "dict"):=by decide +kernel
def visB(sc:Scope)(x:Str):Bool:=match sc.names.lookup x with
 | some .local=>true
 | some .cell=>true
 | some .free=>true
 | _=>false
def GM(h:visB sc x=true):Vis sc x:=by
 unfold visB at h;unfold Vis;split at h
 ·rename_i e;exact .inl e
 ·rename_i e;exact .inr (.inl e)
 ·rename_i e;exact .inr (.inr e)
 ·cases h
def GG(sc:Scope)(x:Str):Bool:=match sc.names.lookup x with
 | some .local=>true
 | some .cell=>true
 | _=>false
def zH(h:GG sc x=true):Loc sc x:=by
 unfold GG at h;unfold Loc;split at h
 ·rename_i e;exact .inl e
 ·rename_i e;exact .inr e
 ·cases h
structure HE(X:Cx)(e:Expr)(t:DTE):Prop where
 ok:DE X e t
structure HT(X:Cx)(e:Expr)(t:DTT):Prop where
 ok:DT X e t
structure HW(X:Cx)(e:Expr)(t:DTT):Prop where
 ok:DW X e t
structure HA(X:Cx)(es:List Expr)(t:DTA):Prop where
 ok:DA X es t
structure HS(X:Cx)(e:Stmt)(t:DTS):Prop where
 ok:DS X e t
structure HB(X:Cx)(e:List Stmt)(t:DTS):Prop where
 ok:DSs X e t
structure HG(X:Cx)(e:Expr)(t:DTG):Prop where
 ok:DG X e t
structure HI(X:Cx)(tg e:Expr)(t:DTI):Prop where
 ok:DI X tg e t
structure HTs(X:Cx)(e:List Expr)(t:DTT):Prop where
 ok:PTs X e (lowT X.K t)
structure HO'(X:Cx)(e:Option Expr)(t:DTO):Prop where
 ok:PO X e (Im X.K t)
structure HOp(X:Cx)(f:Value->Value->Sem Value)(r:DR2):Prop where
 ok:OpD X f r
structure HUn(X:Cx)(f:Value->Sem Value)(r:DR1):Prop where
 ok:UnD X f r
structure HC(X:Cx)(f:Value)(r:DRA):Prop where
 ok:mX X f r
structure HMs(X:Cx)(name:Str)(r:Str->DRA):Prop where
 ok:∃id,Slot "str" name id/\typeOf (.builtin id)=pure (.type "method_descriptor")/\MtR X id (Cl X.K r)
structure HMl(X:Cx)(name:Str)(r:Nat->DRA):Prop where
 ok:∃id,Slot "list" name id/\typeOf (.builtin id)=pure (.type "method_descriptor")/\MtR X id (pe X.K r)
section
variable{X:Cx}{e a b c o:Expr}{es bc:List Expr}{te ta tb tc to:DTE}{t:DTA}{pos p:Pos}{x:Str}{tA tB:DTT}{k:Nat}
def Ir(hN:X.N[i]?=some x:=by kernel_rfl)(hv:visB X.env.scope x=true:=by kernel_rfl)(hd:(x==("__debug__":Str))=false:=by kernel_rfl)
  (hcd:(x==("__classdict__":Str))=false:=by kernel_rfl):HE X (.Name x pos) (ab i):=⟨d_var hN (GM hv) hd hcd⟩
def IC:HE X (.Constant (.int i) j pos) (dC (.int i)):=⟨d_int⟩
def k_bl:HE X (.Constant (.bool i) j pos) (dC (.bl i)):=⟨d_bl⟩
def Iz:HE X (.Constant .none j pos) (dC .non):=⟨d_non⟩
def Iv:HE X (.Constant (.str i) j pos) (dC (.str i)):=⟨d_str⟩
def k_op(ho:HOp X (binaryOp op) r)(ha:HE X a ta)(hb:HE X b tb):HE X (.BinOp a op b pos) (dOp r ta tb):=⟨d_op ho.ok ha.ok hb.ok⟩
def k_un(ho:HUn X (unaryOp op) r)(ha:HE X a ta):HE X (.UnaryOp op a pos) (dUn r ta):=⟨d_un ho.ok ha.ok⟩
def ID(ho:HOp X (compareOp op) r)(ha:HE X a ta)(hb:HE X b tb)(hm:behindInMarks op b=false:=by kernel_rfl):HE X (.Compare a [op] [b] pos) (dOp r ta tb):=⟨d_cmp ho.ok ha.ok hb.ok hm⟩
def DN(ho:HOp X (compareOp op) r)(ha:HE X a ta)(hb:HE X b tb)(hm:behindInMarks op b=false:=by kernel_rfl):HT X (.Compare a [op] [b] pos) (aB (dOp r ta tb)):=⟨Jl ho.ok ha.ok hb.ok hm⟩
def Aj(ho:HOp X (compareOp op) r)(ho':HOp X (compareOp op') r')(ha:HE X a ta)(hb:HE X b tb)(hc:HE X c tc)(hm:lastMarks [op,op'] [b,c]=false:=by kernel_rfl) :
  HE X (.Compare a [op,op'] [b,c] pos) (sw r r' ta tb tc):=⟨Gn ho.ok ho'.ok ha.ok hb.ok hc.ok hm⟩
def DJ(h:HE X e te)(he:∀whole,isTrue e X.env whole=(do let v <-whole;standAt e.pos;holding [v] (truthy v)):=by intro _;kernel_rfl):HT X e (aB te):=⟨Jj h.ok he⟩
def zQ(ha:HT X a tA):HW X (.BoolOp .And [a] pos) tA:=⟨FV ha.ok⟩
def DF(ha:HT X a tA):HW X (.BoolOp .Or [a] pos) tA:=⟨Jh ha.ok⟩
def wa(ha:HT X a tA)(hb:HW X (.BoolOp .And (b::bc) pos) tB):HW X (.BoolOp .And (a::b::bc) pos) (Gp tA tB):=⟨Ji ha.ok hb.ok⟩
def Cv(ha:HT X a tA)(hb:HW X (.BoolOp .Or (b::bc) pos) tB):HW X (.BoolOp .Or (a::b::bc) pos) (dOr tA tB):=⟨dw_or ha.ok hb.ok⟩
def kw_t(h:HW X e tA):HT X e tA:=⟨dw_t h.ok⟩
def DM(ha:HT X a tA):HT X (.UnaryOp .Not a pos) (dNot tA):=⟨Jk ha.ok⟩
def Iw{op}(h:HE X a ta):HE X (.BoolOp op [a] pos) ta:=⟨d_one h.ok⟩
def IF(ha:HE X a ta)(hb:HE X (.BoolOp .And (b::bc) pos) tb):HE X (.BoolOp .And (a::b::bc) pos) (sy ta tb):=⟨d_and ha.ok hb.ok⟩
def k_or(ha:HE X a ta)(hb:HE X (.BoolOp .Or (b::bc) pos) tb):HE X (.BoolOp .Or (a::b::bc) pos) (JD ta tb):=⟨d_or ha.ok hb.ok⟩
def Iy(ha:HE X a ta):HE X (.UnaryOp .Not a pos) (Dd ta):=⟨d_not ha.ok⟩
def Ag(hc:HT X c tA)(ha:HE X a ta)(hb:HE X b tb):HE X (.IfExp c a b pos) (dIfE tA ta tb):=⟨Gm hc.ok ha.ok hb.ok⟩
def DY:HA X [] af:=⟨Jy⟩
def Ad(ha:HE X e te)(hr:HA X es t)(hs:starEach (e::es) X.env=(false,eval e X.env)::starEach es X.env:=by kernel_rfl):HA X (e::es) (aa te t):=⟨Gj ha.ok hr.ok hs⟩
def Iu{x1}(h:HA X es t):HE X (.Tuple es x1 pos) (fy t):=⟨d_tup h.ok⟩
def IA(h:HA X es t):HE X (.List es pos) (kD t):=⟨d_lst h.ok⟩
theorem Ak{id:String}{r:DRA}(hc:HC X (.builtin id) r)(hm:X.mg x=none)(hv:bootBuiltins x=some (.builtin id))(ha:HA X (e::es) t)(hg:X.env.kindOf x=some .globalImplicit:=by kernel_rfl)(hn:(x==("__name__":Str))=false:=by kernel_rfl)(hdb:(x==("__debug__":Str))=false:=by kernel_rfl)
  (he:starEach (e::es) X.env=(false,eval e X.env)::starEach es X.env:=by kernel_rfl) (hpl:(backTo pos (starEach es X.env)).any (·.1)=false:=by kernel_rfl):HE X (.Call (.Name x p) (e::es) [] pos) (dCB r t):=⟨Go hc.ok hm hv ha.ok hg (by simpa using hn) hdb he hpl⟩
def wo(hc:HC X (.type T) r)(hm:X.mg x=none)(hv:bootBuiltins x=some (.type T))(ha:HA X (e::es) t)(hg:X.env.kindOf x=some .globalImplicit:=by kernel_rfl)(hn:(x==("__name__":Str))=false:=by kernel_rfl)(hdb:(x==("__debug__":Str))=false:=by kernel_rfl)
  (he:starEach (e::es) X.env=(false,eval e X.env)::starEach es X.env:=by kernel_rfl) (hpl:(backTo pos (starEach es X.env)).any (·.1)=false:=by kernel_rfl):HE X (.Call (.Name x p) (e::es) [] pos) (dCB r t):=⟨Dc hc.ok hm hv ha.ok hg (by simpa using hn) hdb he hpl⟩
def IE(C:Cal X.prog X.w X.K X.mg X.base j x ps P)(hr:Room k X.A)(ha:HA X (e::es) t)(hj:Nat.ble j k=true:=by kernel_rfl)
  (hg:X.env.kindOf x=some .globalImplicit:=by kernel_rfl) (hdb:(x==("__debug__":Str))=false:=by kernel_rfl) (he:starEach (e::es) X.env=(false,eval e X.env)::starEach es X.env:=by kernel_rfl) (hpl:(backTo pos (starEach es X.env)).any (·.1)=false:=by kernel_rfl) :
  HE X (.Call (.Name x p) (e::es) [] pos) (dCB P t):=⟨d_cal C hr ha.ok (Nat.le_of_ble_eq_true hj) hg hdb he hpl⟩
def k_ix(ha:HE X a ta)(hb:HE X b tb)(hs:uE b:=by intro _ _;kernel_rfl):HE X (.Subscript a b pos) (dOp qIx ta tb):=⟨d_ix ha.ok hb.ok hs⟩
def zX:HO' X none fe:=⟨Gd⟩
def zW(h:HE X e te):HO' X (some e) (jV te):=⟨Gc h.ok⟩
def Af{lo hi:Option Expr}{tl th:DTO}{p2:Pos}(he:HE X e te)(hl:HO' X lo tl)(hu:HO' X hi th):HE X (.Subscript e (.Slice lo hi none p2) pos) (dSl te tl th):=⟨Gk he.ok hl.ok hu.ok⟩
variable{name:Str}{apos cpos:Pos}
def k_ms(hm:HMs X name r)(ho:HE X o to)(ha:HA X (e::es) t)
  (hbase:attributeBase o name X.env (eval o X.env)=eval o X.env:=by kernel_rfl)
  (hfew:((backTo cpos (starEach (e::es) X.env)).all (λx=>!x.1)&&(backToKw cpos (keywordEach [] X.env)).all (λx=>x.1.isSome)
   && decide ((e::es).length+([]:List Keyword).length+(if ([]:List Keyword).isEmpty then 0 else 1)<30))=true:=by kernel_rfl)
  (hline:(apos.endLine==cpos.line)=true:=by kernel_rfl) (hs:starEach (e::es) X.env=(false,eval e X.env)::starEach es X.env:=by kernel_rfl) (hplain:(backTo cpos (starEach es X.env)).any (·.1)=false:=by kernel_rfl) :
  HE X (.Call (.Attribute o name apos) (e::es) [] cpos) (dMs r to t):=let ⟨_,h1,h2,h3⟩:=hm.ok;⟨d_ms h1 h2 h3 ho.ok ha.ok hbase hfew hline hs hplain⟩
def k_ml(hm:HMl X name r)(ho:HE X o to)(ha:HA X (e::es) t)
  (hbase:attributeBase o name X.env (eval o X.env)=eval o X.env:=by kernel_rfl)
  (hfew:((backTo cpos (starEach (e::es) X.env)).all (λx=>!x.1)&&(backToKw cpos (keywordEach [] X.env)).all (λx=>x.1.isSome)
   && decide ((e::es).length+([]:List Keyword).length+(if ([]:List Keyword).isEmpty then 0 else 1)<30))=true:=by kernel_rfl)
  (hline:(apos.endLine==cpos.line)=true:=by kernel_rfl) (hs:starEach (e::es) X.env=(false,eval e X.env)::starEach es X.env:=by kernel_rfl) (hplain:(backTo cpos (starEach es X.env)).any (·.1)=false:=by kernel_rfl) :
  HE X (.Call (.Attribute o name apos) (e::es) [] cpos) (dMl r to t):=let ⟨_,h1,h2,h3⟩:=hm.ok;⟨d_ml h1 h2 h3 ho.ok ha.ok hbase hfew hline hs hplain⟩
variable{st:Stmt}{sts:List Stmt}{ts us:DTS}{aS bS:List Stmt}
def DP:HB X [] bq:=⟨Jp⟩
def DO(h:HS X st ts):HB X [st] ts:=⟨Jo h.ok⟩
def zV(h1:HS X st ts)(h2:HB X sts us):HB X (st::sts) (ax ts us):=⟨Ga h1.ok h2.ok⟩
def pE(he:HE X e te)(hs:swapsWith e none pos.line X.env=pure false:=by kernel_rfl):HS X (.Expr e pos) (jW te):=⟨FZ he.ok hs⟩
def wd(he:HE X e te):HS X (.Return (some e) pos) (bw te):=⟨Jn he.ok⟩
def Cy(hc:HT X c tA)(ha:HB X aS ts)(hb:HB X bS us):HS X (.If c aS bS pos) (dIf tA ts us):=⟨ds_if hc.ok ha.ok hb.ok⟩
def wc(hN:X.N.Nodup)(he:HE X e te)(hi:X.N[i]?=some x:=by kernel_rfl)(hx:GG X.env.scope x=true:=by kernel_rfl)(hs:swapsWith e (some (.Name x pos')) pos.line X.env=pure false:=by kernel_rfl)
  (hf:X.fn x=true:=by kernel_rfl):HS X (.Assign [.Name x pos'] e pos) (aX te i):=⟨Jm hN he.ok hi (zH hx) hs (.inl hf)⟩
def zZ(hN:X.N.Nodup)(hi:X.N[i]?=some x:=by kernel_rfl)(hx:GG X.env.scope x=true:=by kernel_rfl)(hf:X.fn x=true:=by kernel_rfl):HG X (.Name x pos) (am i):=⟨ut hN hi (zH hx) (.inl hf)⟩
def DV(hN:X.N.Nodup)(hi:X.N[i]?=some x:=by kernel_rfl)(hf:X.env.scope.names.lookup x=some .local:=by kernel_rfl):HG X (.Name x pos) (am i):=⟨ut hN hi (.inl hf) (.inr hf)⟩
variable{tg iter:Expr}{di:DTI}{g:DTG}
def DQ(h:HE X e te):HI X tg e (bP te):=⟨Jt h.ok⟩
def we{body:List Stmt}{tb:DTS}(hi:HI X tg iter di)(hg:HG X tg g)(hb:HB X body tb)(hp:PassesOwn (model X.prog X.w) X.A X.env X.xe:=by exact PassesOwn.never)(hc:X.calm=true:=by kernel_rfl)
  (hs:∀x,foldedSetIterable iter X.env x=pure x:=by intro _;kernel_rfl):HS X (.For tg iter body [] pos) (mV di g tb):=⟨Jq hi.ok hg.ok hb.ok hp hc hs⟩
def zU:HTs X [] uu:=⟨FX⟩
def zT(h:HT X c tA):HTs X [c] tA:=⟨FW h.ok⟩
def k_lc(hi:HI X tg iter di)
  (hg:∀cl s0 H0 ex,HG (blk X N' scope cl s0 H0 ex) tg g) (ht:∀cl s0 H0 ex,HTs (blk X N' scope cl s0 H0 ex) ifs tt) (he:∀cl s0 H0 ex,HE (blk X N' scope cl s0 H0 ex) elt te) (B:oq X.env.scope.names X.N N' nt js scope=true:=by kernel_rfl) (hc:X.calm=true:=by kernel_rfl)
  (hs:∀x,foldedSetIterable iter X.env x=pure x:=by intro _;kernel_rfl):HE X (.ListComp elt [⟨tg,iter,ifs,0⟩] scope pos) (dLC nt js di g tt te):=⟨d_lc (BlkSc.chk B) hi.ok (λcl s0 H0 ex=>(hg cl s0 H0 ex).ok) (λcl s0 H0 ex=>(ht cl s0 H0 ex).ok) (λcl s0 H0 ex=>(he cl s0 H0 ex).ok) hc hs⟩
def rP(hm:X.mg "range" = none)(ha:HA X [a] t)(hg:X.env.kindOf "range" = some .globalImplicit:=by kernel_rfl)(hs:starEach [a] X.env=[(false,eval a X.env)]:=by kernel_rfl):HI X tg (.Call (.Name "range" p) [a] [] pos) (eZ t):=⟨AI hm ha.ok hg hs⟩
def rO(hm:X.mg "range" = none)(ha:HA X [a,b] t)(hg:X.env.kindOf "range" = some .globalImplicit:=by kernel_rfl)(hs:starEach [a,b] X.env=[(false,eval a X.env),(false,eval b X.env)]:=by kernel_rfl)(hs2:starEach [b] X.env=[(false,eval b X.env)]:=by kernel_rfl) :
  HI X tg (.Call (.Name "range" p) [a,b] [] pos) (pO t):=⟨AH hm ha.ok hg hs hs2⟩
def Ed:HOp X (binaryOp .Sub) Hh:=⟨Ib⟩
def Eg:HOp X (binaryOp .Mult) oK:=⟨Fs⟩
def Ar:HOp X (binaryOp .FloorDiv) tH:=⟨Ft⟩
def Eh:HOp X (binaryOp .Mod) za:=⟨Ig⟩
def IM:HOp X (compareOp .Lt) qLt:=⟨od_lt⟩
def IN:HOp X (compareOp .LtE) qLe:=⟨od_le⟩
def IS:HOp X (compareOp .Gt) qGt:=⟨od_gt⟩
def IP:HOp X (compareOp .Is) qIs:=⟨od_is⟩
def ww:HOp X (compareOp .IsNot) nT:=⟨Cc⟩
def IT(hr:Room k X.A):HOp X (compareOp .Eq) qEq:=⟨od_eq hr⟩
def IL(hr:Room k X.A):HOp X (compareOp .NotEq) qNe:=⟨od_ne hr⟩
def IR(hr:Room k X.A):HOp X (compareOp .In) qIn:=⟨od_in hr⟩
def wv(hr:Room k X.A):HOp X (compareOp .NotIn) jh:=⟨Cb hr⟩
def Ec:HUn X (unaryOp .USub) GD:=⟨GO⟩
def Ej:HC X (.builtin "len") mN:=⟨JG⟩
def Ek(hc:X.calm=true:=by kernel_rfl):HC X (.builtin "any") GF:=⟨JH hc⟩
def rX:HMl X "append" cf:=⟨_,PySem.F.slot_list_append,PySem.F.type_list_append,xt⟩
end
def Cal.byH{P:Program}{w:World}{K:AA5}{mg:Str->Option Value}{base:Heap}{x:Str}{st:Stmt}{N ps:List Str}{k:Nat}{Pr:DSp}(F:cy K mg x st ps)(Sc:FnScope N ps (ap st))
  (len:∀ds M R,Pr ds M R->ds.length=ps.length) {t:DTS}
  (der:∀(f:Addr) (cdv:Value) (A:Around) (outer:List Env) (s:Shared) (H:Hp) (E:XK),Room k (A.deeper (envOfC x (ap st) s.heap.objs.size f cdv))->HB (sA CX0 P w K mg base N x (ap st) f cdv A outer s H E).nox (bO st) t)
  (wp:∀ds M R,Pr ds M R->t ⟨λ_ M'=>bj M R .non M',bj M R,λ_ _=>False,λ_ _=>False⟩ (cC N ds) M):Cal P w K mg base (k+1) x ps Pr :=
 Cal.of F Sc len (λf cdv A outer s H E hr=>(der f cdv A outer s H E hr).ok) wp
def CN{P:Program}{w:World}{K:AA5}{mg:Str->Option Value}{base:Heap}{x:Str}{st:Stmt}{N ps:List Str}{k:Nat}{Pr:DSp}{f:Addr}{fd:FuncData}(F:Fun K x x st f fd)(Sc:FnScope N ps (ap st))
  (len:∀ds M R,Pr ds M R->ds.length=ps.length) {t:DTS}
  (der:∀(f:Addr) (cdv:Value) (A:Around) (outer:List Env) (s:Shared) (H:Hp) (E:XK),Room k (A.deeper (envOfC x (ap st) s.heap.objs.size f cdv))->HB (sA CX0 P w K mg base N x (ap st) f cdv A outer s H E).nox (bO st) t)
  (wp:∀ds M R,Pr ds M R->t ⟨λ_ M'=>bj M R .non M',bj M R,λ_ _=>False,λ_ _=>False⟩ (cC N ds) M):FnOk P w K mg base CX0 (k+1) f fd ps (spL K Pr) :=
 FR F Sc len (λf cdv A outer s H E hr=>(der f cdv A outer s H E hr).ok) wp
section
variable{ok:Mem->Prop}{g:DTG}{tb:DTS}{E:DEnds}{k0:Mem}
def jx(I:List D->SD->Mem->Prop)(h0:∀S M,I [] S M->ok M/\E.nx S M)
  (h1:∀x xs S M,I (x::xs) S M->∀L:SD->Mem->Prop,(∀S' M',I xs S' M'->L S' M')->ok M/\g x S M λS2 M2=>tb ⟨Fgt k0 L,E.rt,E.nx,Fgt k0 L⟩ S2 M2) :
  ∀xs S M,I xs S M->su ok g tb E k0 xs S M
 | [],S,M,h=>h0 S M h
 | x::xs,S,M,h=>h1 x xs S M h _ (jx I h0 h1 xs)
def bA(I:Nat->SD->Mem->Prop)(h0:∀S M,I xs.length S M->ok M/\E.nx S M)
  (h1:∀i x S M,xs[i]?=some x->I i S M->∀L:SD->Mem->Prop,(∀S' M',I (i+1) S' M'->L S' M')->ok M/\g x S M λS2 M2=>tb ⟨Fgt k0 L,E.rt,E.nx,Fgt k0 L⟩ S2 M2)
 (h:I 0 S M):su ok g tb E k0 xs S M:=by
 refine jx (λys S M=>∃i,xs.drop i=ys/\i+ys.length=xs.length/\I i S M) ?_ ?_ xs S M ⟨0,rfl,by simp,h⟩
 ·rintro S M ⟨i,_,e,q⟩
  have:i=xs.length:=by simpa using e
  subst this;exact h0 S M q
 ·rintro x ys S M ⟨i,e,el,q⟩ L hL
  have hx:xs[i]?=some x:=by
   have:(xs.drop i)[0]?=some x:=by rw[e];rfl
   simpa using this
  refine h1 i x S M hx q L λS' M' q'=>hL S' M' ⟨i+1,?_,by simp at el;lia,q'⟩
  rw[<-List.drop_drop,e];rfl
def Fgt.now(h:P S M):Fgt k0 P S M:=.inl h
def fY{lo:Int}{n i:Nat}{x:D}:(sN lo n)[i]?=some x↔i<n/\x=.int (lo+(i:Int)):=by
 unfold sN;rw[AAR];by_cases h:i<n
 ·simp[h,eq_comm]
 ·simp[h]
def fX{lo:Int}{n:Nat}:(sN lo n).length=n:=by simp[sN]
end
def aL(p:D->Bool)(f:D->D)(I:SD->Prop)(hok:ok M) :
  ∀(xs acc:List D) (S:SD),(∀x∈xs,∀S,I S->∃S',I S'/\∀(Y:D->SD->Mem->Prop) (Z:SD->Mem->Prop),(if p x=true then Y (f x) S' M else Z S' M) ->
    g x S M λS2 M2=>tt S2 M2 λb M3=>if b=true then te S2 M3 λy M4=>Y y S2 M4 else Z S2 M3) ->
   I S->acc.length+xs.length<=sizeLine->Q (.ref M.length) (M++[.lst (acc++(xs.filter p).map f)])->mB ok g tt te Q xs acc S M
 | [],acc,S,_,_,_,q=>⟨hok,by simpa using q⟩
 | x::xs,acc,S,step,hS,hl,q=>by
  obtain⟨S',hS',k⟩:=step x AAG S hS;refine⟨hok,k (λy S2 M4=>acc.length<sizeLine/\mB ok g tt te Q xs (acc++[y]) S2 M4) (λS2 M3=>mB ok g tt te Q xs acc S2 M3) ?_⟩
  have step':=λy hy=>step y (AA9 _ hy)
  rw[AAK]at hl;by_cases hp:p x=true
  ·rw[if_pos hp]
   refine⟨by lia,aL p f I hok xs _ S' step' hS' (by rw[AAB,AAV];lia) ?_⟩
   rw[List.filter_cons_of_pos hp,AAf]at q;rw[AAg];exact q
  ·rw[if_neg hp]
   refine aL p f I hok xs acc S' step' hS' (by lia) ?_
   rw[ADc hp]at q;exact q
def bZ(f:D->D)(I:SD->Prop)(hok:ok M)
  (xs acc:List D) (S:SD) (step:∀x∈xs,∀S,I S->∃S',I S'/\∀(Y:D->SD->Mem->Prop),Y (f x) S' M->g x S M λS2 M2=>te S2 M2 λy M4=>Y y S2 M4)
  (hS:I S) (hl:acc.length+xs.length<=sizeLine) (q:Q (.ref M.length) (M++[.lst (acc++xs.map f)])):mB ok g uu te Q xs acc S M:=by
 refine aL (λ_=>true) f I hok xs acc S (λx hx S hS=>?_) hS hl (by rw[List.filter_eq_self.mpr λ_ _=>rfl];exact q)
 obtain⟨S',hS',k⟩:=step x hx S hS;refine⟨S',hS',λY Z h=>?_⟩
 rw[if_pos rfl]at h;have:=k Y h;simp only[uu,if_true];exact this
def ae:(M++[mo])[M.length]?=some mo:=by simp
def ao:ar (M++[.lst xs]) M.length xs:=.inl ae
def ar.more(h:ar M n xs)(L:Mem):ar (M++L) n xs:=by
 have key:∀{mo:MO},M[n]?=some mo->(M++L)[n]?=some mo:=λe=>by
  rw[AAP (AA7.mp e).1];exact e
 rcases h with h | h | h
 ·exact .inl (key h)
 ·exact .inr (.inl (key h))
 ·exact .inr (.inr (key h))
def bj.keep(h:R d M)(b:Bel M.length d)(p:M <+: M'):bj M R d M':=.inr (.inl ⟨M,.refl,b,p,h⟩)
def bj.now(h:R d M):bj M R d M:=.inl h
def bj.bl(h:R (.bl b) M)(p:M <+: M'):bj M R (.bl b) M':=.keep h (.bl b) p
def fB:M <+: M++[mo]:=AAb _ _
def yN{a b:Str}(h:a.cps.toList=b.cps.toList):a=b:=by
 cases a;cases b
 simp only[Array.toList_inj]at h;simpa using h
def eQ{a:Str}:a.length=a.cps.toList.length:=by show a.cps.size=_;simp
def Gx{a b:Str}:(a++b).cps.toList=a.cps.toList++b.cps.toList:=by
 show (a.cps++b.cps).toList=_;simp
def cq{a b:Str}:(a++b).length=a.length+b.length:=by
 rw[eQ,eQ,eQ,Gx,AAB]
def zp:(⟨#[c]⟩:Str).length=1:=rfl
def ak(h:n<=1000):n<=sizeLine:=AE2 (aI h)
def fQ{α:Type}{xs:List α}{i:Int}(h0:0<=i)(h1:i<xs.length):∃(j:Nat) (hj:j<xs.length),atI xs i=some xs[j]/\(j:Int)=i:=by
 have hj:i.toNat<xs.length:=by lia
 refine⟨i.toNat,hj,?_,by lia⟩
 have e:i=((i.toNat:Nat):Int):=by lia
 have q:atI xs ((i.toNat:Nat):Int)=some xs[i.toNat]:=az (AA6 hj);rw[<-e]at q;exact q
section
variable{M:Mem}
def ar.get(h:ar M n xs):∃mo,M[n]?=some mo/\mo.items=xs/\mo.isL=true:=by
 rcases h with h | h | h<;>exact⟨_,h,rfl,rfl⟩
def wB(h1:ar M i xs)(h2:ar M j ys):eqD M (n+1) (.ref i) (.ref j)=eqL (eqD M n) xs ys:=by
 obtain⟨a,ha,rfl,hl1⟩:=h1.get;obtain⟨b,hb,rfl,hl2⟩:=h2.get;simp only[eqD,ha,hb]
def oY(h1:ar M i xs)(h:∀x∈xs,okD M n x=true):okD M (n+1) (.ref i)=true:=by
 obtain⟨a,ha,rfl,hl1⟩:=h1.get;simp only[okD,ha,hl1,Bool.true_and];exact AAZ.mpr h
def Fp(h:∀x∈xs,okD M n x=true):okD M (n+1) (.tup xs)=true:=by
 simp only[okD];exact AAZ.mpr h
def aq:okD M n (.str x)=true:=by cases n<;>rfl
def oZ:okD M n (.int x)=true:=by cases n<;>rfl
def Dy:okD M n (.bl x)=true:=by cases n<;>rfl
def zx:okD M n .non=true:=by cases n<;>rfl
def FS:eqL f xs []=xs.isEmpty:=by cases xs<;>rfl
def mw:eqD M n (.int a) (.int b)=(a==b):=by cases n<;>rfl
def aM:eqD M n (.str a) (.str b)=(a==b):=by cases n<;>rfl
end
section
variable{X:Cx}{pos:Pos}
def mU:Et:=λds S M Q=>match ds with
 | []=>Q S M
 | _=>False
def bX(t:DTG)(u:Et):Et:=λds S M Q=>match ds with
 | d::r=>t d S M λS' M'=>u r S' M' Q
 | []=>False
def mT(n:Nat)(t:Et):DTG:=λd S M Q=>match d with
 | .tup ds=>ds.length=n/\t ds S M Q
 | _=>False
def Gf:DGs X [] mU:=by
 intro pins s σ H vs us R I r ⟨ds,S,M,ρ,Q,sm,sr,rr,q,k⟩;cases rr with
 | nil=>exact Fc pins s σ H _ us R I r ⟨rfl,k σ H ⟨S,M,ρ,sm,.refl,sr,q⟩⟩
 | cons _ _=>exact q.elim
def CZ(h1:DG X e t)(h2:DGs X es u)
  (hs:(assignEach (e::es) X.env).map (·.2)=assign e X.env::(assignEach es X.env).map (·.2):=by rfl):DGs X (e::es) (bX t u):=by
 intro pins s σ H vs us R I r ⟨ds,S,M,ρ,Q,sm,sr,rr,q,k⟩;cases rr with
 | nil=>exact q.elim
 | cons r1 rr =>
  refine BN h1 h2 hs pins s σ H _ us R I r ⟨_,_,rfl,_,S,M,ρ,_,sm,sr,r1,q,λσ1 H1 ⟨S1,M1,ρ1,s1,g1,sr1,q1⟩=>?_⟩
  exact⟨_,S1,M1,ρ1,Q,s1,sr1,rr.grow g1,q1,λσ' H' w=>k σ' H' (SQ.trans g1 w)⟩
def Ju(h:DGs X es t)(hc:X.calm=true:=by rfl)
  (hn:(assignEach es X.env).length=n:=by rfl) (hst:(assignEach es X.env).findIdx? (·.1)=none:=by rfl):DG X (.Tuple es j pos) (mT n t):=by
 intro pins s σ H v u R I r ⟨d,S,M,ρ,Q,sm,sr,rd,q,k⟩;cases rd with
 | tup hq rr=>exact Hu hc h hn hst pins s σ H _ u R I r ⟨_,_,rfl,hq,by rw[<-rr.length];exact q.1,_,S,M,ρ,Q,sm,sr,rr,q.2,k⟩
 | _=>exact q.elim
def JE(te:DTE)(g:DTG):DTS:=λE S M=>te S M λd M1=>g d S M1 E.nx
def Jr(he:DE X e te)(hg:DG X tg g)(hs:swapsWithSole [tg] e pos.line X.env=pure false:=by rfl)(hw:swappedStores [tg] e X.env=pure none:=by rfl)
  (h1:(assignEach [tg] X.env).map (·.2)=[assign tg X.env]:=by rfl):DS X (.Assign [tg] e pos) (JE te g) :=
 PS.imp (Hs he hg hs hw h1) λE σ H ⟨S,M,ρ,F,s,sr,q,k⟩=>⟨S,M,ρ,_,s,sr,q,λv H1 ⟨d,M1,ρ1,s1,g1,r1,q1⟩=>⟨d,S,M1,ρ1,_,s1,sr.grow g1,r1,q1,λσ' H' w=>k.nx σ' H' (SQ.trans g1 w)⟩⟩
def qSet:D->D->D->Mem->(Mem->Prop)->Prop:=λo i v M Q=>match o,i with
 | .ref n,.int k=>∃xs j,M[n]?=some (.lst xs)/\ixN xs.length k=some j/\Q (M.set n (.lst (xs.set j v)))
 | _,_=>False
def Reps.set{K:AA5}{ρ:List Addr}{H:Hp}{d:D}{v:V}(r:Rep K ρ H d v):∀{ds:List D}{vs:List V} (i:Nat),Reps K ρ H ds vs->Reps K ρ H (ds.set i d) (vs.set i v)
 | _,_,_,.nil=>.nil
 | _,_,0,.cons _ t=>.cons r t
 | _,_,i+1,.cons q t=>.cons q (Reps.set r i t)
def Da(to ti:DTE):DTG:=λv S M Q=>to S M λo M1=>ti S M1 λi M2=>qSet o i v M2 λM3=>Q S M3
def Jv(ho:DE X o to)(hi:DE X i ti)
  (ha:∀v,assign (.Subscript o i pos) X.env v=(do
   let ov <-holding [v] (eval o X.env)
   let iv <-holding [v,ov] (eval i X.env)
   standAt pos
   holding [v,ov,iv] (setItem ov iv v)
   release [v,ov,iv] []):=by intro _;rfl):DG X (.Subscript o i pos) (Da to ti):=by
 intro pins s σ H v u R I r ⟨d,S,M,ρ,Q,sm,sr,rd,q,k⟩;refine Hv ho hi BC ha pins s σ H v u R I r ⟨S,M,ρ,_,sm,sr,q,λvo H1 ⟨o',M1,ρ1,s1,g1,r1,q1⟩=>⟨S,M1,ρ1,_,s1,sr.grow g1,q1,λvi H2 ⟨i',M2,ρ2,s2,g2,r2,q2⟩=>?_⟩⟩
 have r1':=r1.grow g2;cases r1' with
 | @ref n a hn =>
  cases r2 with
  | int j =>
   obtain⟨xs,jj,e,hj,q3⟩:=(show ∃xs j',M2[n]?=some (.lst xs)/\ixN xs.length j=some j'/\Q S (M2.set n (.lst (xs.set j' d)))from q2);obtain⟨vs,hH,rr⟩:=s2.obj n a _ hn e;obtain⟨w1,w2⟩:=s2.write hn e hH (Reps.set (rd.grow (g1.trans g2)) jj rr);exact⟨a,vs,j,jj,rfl,rfl,hH,by rw[<-rr.length];exact hj,k σ _ ⟨S,_,ρ2,w1,(g1.trans g2).trans w2,sr.grow ((g1.trans g2).trans w2),q3⟩⟩
  | _=>exact q2.elim
 | _=>exact q2.elim
def je:DRA:=λds M Q=>match ds with
 | [.ref n]=>∃xs,ar M n xs/\Q (.tup xs) M
 | [.tup xs]=>Q (.tup xs) M
 | _=>False
def Dg:mX X (.type "tuple") je:=by
 refine iI.imp pQ λvs H R ⟨ds,M,ρ,Q,sm,rs,q,k⟩=>?_
 unfold je at q;split at q
 ·obtain⟨xs,hL,q⟩:=q
  first | have hzz:=Reps.inv_cons rs | have hzz:=aw.inv_cons rs
  clear rs;obtain⟨_,_,rfl,r1,rs⟩:=hzz;cases rs
  obtain⟨_,rfl,e⟩:=Rep.inv_ref r1;obtain⟨ws,hq,r⟩:=ar.seq sm hL e;exact⟨_,ws,rfl,.inl ⟨hq,λl hl=>k _ _ (VQ.laidT sm .refl r hl q)⟩⟩
 ·first | have hzz:=Reps.inv_cons rs | have hzz:=aw.inv_cons rs
  clear rs;obtain⟨_,_,rfl,r1,rs⟩:=hzz;cases rs
  cases r1 with
  | tup hq r=>exact⟨_,_,rfl,.inr ⟨hq,k _ H (VQ.now sm (.tup hq r) q)⟩⟩
 ·exact q.elim
theorem BW:OpR X (binaryOp .Add) (λx y H Q=>∃a b ys,x=.ref a/\y=.ref b/\SqT X.K H a []/\SqT X.K H b ys/\Q (.ref b) H):=by
 intro pins s σ H x y v u Q I rx ry h;obtain⟨a,b,ys,rfl,rfl,ha,hb,q⟩:=h;cases rx
 cases ry
 obtain⟨its,r1,p1,_⟩:=I.tuple ha;obtain⟨its2,r2,p2,_⟩:=I.tuple hb;have e:its=[]:=r1.nil_iff.mpr rfl;subst e;obtain⟨⟨cls,dd,data,sl⟩,ho,hc,n,hd⟩:=id p1;obtain⟨⟨cls2,dd2,data2,sl2⟩,ho2,hc2,n2,hd2⟩:=id p2;simp only at hc hd hc2 hd2;subst hc hd hc2 hd2;exact concat_meets ⟨_,ho,rfl⟩ ⟨_,ho2,rfl⟩ noFill_tuple_add seq_tuple_add ADj ADX (ADR _ _)
  (tuple_addW0 a b _ _ n n2 dd dd2 sl sl2 (by simp)) ⟨ho,ho2,⟨.ref b,H,I,rfl,q⟩⟩
def bv:DR2:=λx y M Q=>match x,y with
 | .tup xs,.tup ys=>xs.length+ys.length<=sizeLine/\Q (.tup (xs++ys)) M
 | _,_=>qAdd x y M Q
def Fu:OpD X (binaryOp .Add) bv:=by
 intro pins s σ H vx vy v u R I rx ry ⟨x,y,M,ρ,Q,sm,r1,r2,q,k⟩;unfold bv at q;split at q
 ·rename_i xs ys
  obtain⟨a,vs,rfl,h1,t1⟩:=Rep.inv_tup r1;obtain⟨b,ws,rfl,h2,t2⟩:=Rep.inv_tup r2;have l1:=t1.length;have l2:=t2.length;cases xs with
  | nil =>
   cases t1
   exact BW pins s σ H _ _ v u R I rx ry ⟨a,b,ws,rfl,rfl,h1,h2,k _ H (VQ.now sm (.tup h2 t2) q.2)⟩
  | cons x0 xs0 =>
   refine Fl pins s σ H _ _ v u R I rx ry ⟨a,b,vs,ws,rfl,rfl,h1,h2,?_,by rw[<-l1,<-l2];exact q.1,λz=>?_,λ_ p hp=>k _ _ (VQ.laidT sm .refl (t1.append t2) hp q.2)⟩
   ·intro z
    subst z;simp at l1
   ·subst z
    have:ys=[]:=by simpa using l2
    subst this;rw[AB7]at q;exact k _ H (VQ.now sm (.tup h1 t1) q.2)
 ·exact Ii pins s σ H vx vy v u R I rx ry ⟨x,y,M,ρ,Q,sm,r1,r2,q,k⟩
def lL(n:Nat):DRA:=λds M Q=>match ds with
 | [.ref m]=>∃xs ys,M[n]?=some (.lst xs)/\M[m]?=some (.lst ys)/\n≠m/\xs.length+ys.length<=sizeLine/\Q .non (M.set n (.lst (xs++ys)))
 | _=>False
def xr:MtR X "list.extend" (pe X.K lL):=by
 intro pins s σ H x xs v us R I rx rs ⟨n,a,ds,M,ρ,Q,ez,hn,sm,rr,q,k⟩;unfold lL at q;split at q
 ·rename_i m
  obtain⟨ys,zs,e,e2,hne,hl,q⟩:=q;first | have hzz:=Reps.inv_cons rr | have hzz:=aw.inv_cons rr
  clear rr;obtain⟨_,_,rfl,r1,rr⟩:=hzz;cases rr
  obtain⟨b,rfl,hm⟩:=Rep.inv_ref r1;obtain⟨vs,hH,r⟩:=sm.obj n a _ hn e;obtain⟨ws,hH2,r2⟩:=sm.obj m b _ hm e2;obtain⟨w1,w2⟩:=sm.write hn e hH (r.append r2);exact zB pins s σ H x _ v us R I rx rs ⟨a,b,vs,ws,ez,rfl,hH,hH2,by rw[<-r.length,<-r2.length];exact hl,k _ _ ⟨.non,_,ρ,w1,w2,.non,q⟩⟩
 ·exact q.elim
end
end L2
namespace Srt
open PySem PySem.W PyProof.Rows
def run{α:Type}(c:Nat->Nat->Bool):KasT α->α
 | .ret a=>a
 | .ask i j k=>run c (k (c i j))
def fW{α β:Type}{c:Nat->Nat->Bool}{f:α->KasT β}:∀t:KasT α,run c (t.bind f)=run c (f (run c t))
 | .ret a=>rfl
 | .ask i j k=>fW (k (c i j))
def Bd{α:Type}(n:Nat):KasT α->Prop
 | .ret _=>True
 | .ask i j k=>i<n/\j<n/\∀b,Bd n (k b)
def All{α:Type}(P:α->Prop):KasT α->Prop
 | .ret a=>P a
 | .ask _ _ k=>∀b,All P (k b)
def All.mono{α:Type}{P Q:α->Prop}(h:∀a,P a->Q a):∀t:KasT α,All P t->All Q t
 | .ret a,q=>h a q
 | .ask _ _ k,q=>λb=>All.mono h (k b) (q b)
def All.bind{α β:Type}{P:β->Prop}{f:α->KasT β}:∀t:KasT α,All (λa=>All P (f a)) t->All P (t.bind f)
 | .ret a,q=>q
 | .ask _ _ k,q=>λb=>All.bind (k b) (q b)
def Bd.bindA{α β:Type}{n:Nat}{f:α->KasT β}:∀t:KasT α,Bd n t->All (λa=>Bd n (f a)) t->Bd n (t.bind f)
 | .ret a,_,q=>q
 | .ask _ _ k,b,q=>⟨b.1,b.2.1,λx=>Bd.bindA (k x) (b.2.2 x) (q x)⟩
def All.run{α:Type}{P:α->Prop}{c:Nat->Nat->Bool}:∀t:KasT α,All P t->P (Srt.run c t)
 | .ret a,q=>q
 | .ask i j k,q=>All.run (k (c i j)) (q _)
def wp_run{α:Type}{cmp:Nat->Nat->(Bool->Shared->Prop)->Shared->Prop}{c:Nat->Nat->Bool}{n:Nat}{s:Shared}{Q:α->Shared->Prop}(hc:∀i j (C:Bool->Shared->Prop),i<n->j<n->C (c i j) s->cmp i j C s) :
  ∀t:KasT α,Bd n t->Q (run c t) s->t.kasWp cmp Q s
 | .ret a,_,q=>q
 | .ask i j k,b,q=>hc i j _ b.1 b.2.1 (wp_run hc (k (c i j)) (b.2.2 _) q)
structure Ord(c:Nat->Nat->Bool):Prop where
 irr:∀a,c a a=false
 tr:∀a b d,c a b=true->c b d=true->c a d=true
 neg:∀a b d,c a d=true->c a b=true\/c b d=true
section
variable{c:Nat->Nat->Bool}(O:Ord c)
def le(c:Nat->Nat->Bool)(a b:Nat):Prop:=c b a=false
def le_refl(O:Ord c)(a:Nat):le c a a:=O.irr a
def le_trans(O:Ord c)(h1:le c a b)(h2:le c b d):le c a d:=by
 unfold le at *;cases q:c d a with
 | false=>rfl
 | true =>
  rcases O.neg d b a q with h | h
  ·rw[h2]at h;cases h
  ·rw[h1]at h;cases h
def le_of_lt(O:Ord c)(h:c a b=true):le c a b:=by
 unfold le;cases q:c b a with
 | false=>rfl
 | true=>have:=O.tr a b a h q;rw[O.irr]at this;cases this
abbrev at_(p:Array Nat)(k:Nat):Nat:=p.getD k 0
def Up(c:Nat->Nat->Bool)(p:Array Nat)(m:Nat):Prop:=∀i j,i<=j->j<m->le c (at_ p i) (at_ p j)
def Dn(c:Nat->Nat->Bool)(p:Array Nat)(m:Nat):Prop:=∀i j,i<=j->j<m->le c (at_ p j) (at_ p i)
def Eqs(c:Nat->Nat->Bool)(p:Array Nat)(a b:Nat):Prop:=∀i j,a<=i->i<b->a<=j->j<b->le c (at_ p i) (at_ p j)
def Up.one(O:Ord c)(p:Array Nat):Up c p 1:=λi j hij hj=>by
 have:i=j:=by lia
 subst this;exact le_refl O _
def Up.snoc(O:Ord c)(h:Up c p n)(h1:1<=n)(hl:le c (at_ p (n-1)) (at_ p n)):Up c p (n+1):=λi j hij hj=>by
 by_cases hjn:j<n
 ·exact h i j hij hjn
 ·have:j=n:=by lia
  subst this;by_cases hi:i=j
  ·subst hi;exact le_refl O _
  ·exact le_trans O (h i (j-1) (by lia) (by lia)) hl
def Dn.snoc(O:Ord c)(h:Dn c p n)(h1:1<=n)(hl:le c (at_ p n) (at_ p (n-1))):Dn c p (n+1):=λi j hij hj=>by
 by_cases hjn:j<n
 ·exact h i j hij hjn
 ·have:j=n:=by lia
  subst this;by_cases hi:i=j
  ·subst hi;exact le_refl O _
  ·exact le_trans O hl (h i (j-1) (by lia) (by lia))
def hW(hj:j<=p.size)(k:Nat):at_ (ADB p i j) k=if i<=k/\k<j then at_ p (i+j-1-k)else at_ p k:=by
 have e:=getElem?_mirror_all (xs:=p) (i:=i) hj k;unfold at_ ADB;rw[ABB,e];by_cases h:i<=k/\k<j
 ·rw[if_pos h,if_pos h,ABB]
 ·rw[if_neg h,if_neg h,ABB]
def sL(hk:k<p.size)(hd:d<=k)(i:Nat):at_ (bubble p k d) i=if i=k-d then at_ p k else if k-d<i/\i<=k then at_ p (i-1)else at_ p i:=by
 have e:=getElem?_bubble (xs:=p) hk d hd i;unfold at_;rw[ABB,e];by_cases h:i=k-d
 ·rw[if_pos h,if_pos h,ABB]
 ·rw[if_neg h,if_neg h]
  by_cases h':k-d<i/\i<=k
  ·rw[if_pos h',if_pos h',ABB]
  ·rw[if_neg h',if_neg h',ABB]
def Dn.rev(h:Dn c p n)(hn:n<=p.size):Up c (ADB p 0 n) n:=λi j hij hj=>by
 rw[hW hn,hW hn,if_pos ⟨AAX _,by lia⟩,if_pos ⟨AAX _,hj⟩]
 exact h _ _ (by lia) (by lia)
def Dn.revEq(O:Ord c)(h:Dn c p n)(hn:n<=p.size)(he:Eqs c p a n):Dn c (ADB p a n) n:=λi j hij hj=>by
 rw[hW hn,hW hn];by_cases h1:a<=i/\i<n
 ·by_cases h2:a<=j/\j<n
  ·rw[if_pos h1,if_pos h2]
   exact he _ _ (by lia) (by lia) (by lia) (by lia)
  ·exact absurd ⟨by lia,hj⟩ h2
 ·by_cases h2:a<=j/\j<n
  ·rw[if_neg h1,if_pos h2]
   exact h _ _ (by lia) (by lia)
  ·rw[if_neg h1,if_neg h2]
   exact h _ _ hij hj
def uD(O:Ord c):∀(f n:Nat),1<=n->Up c p n->Up c p (run c (ADm p f n))/\n<=run c (ADm p f n)/\run c (ADm p f n)<=n+f /\
  (run c (ADm p f n)<n+f->c (at_ p (run c (ADm p f n))) (at_ p (run c (ADm p f n)-1))=true)
 | 0,n,_,h=>⟨h,AA8 _,AA8 _,λz=>absurd z (AAm _)⟩
 | f+1,n,h1,h=>by
  show Up c p (run c (if c (at_ p n) (at_ p (n-1))=true then .ret n else ADm p f (n+1)))/\n<=run c (if c (at_ p n) (at_ p (n-1))=true then .ret n else ADm p f (n+1)) /\
   run c (if c (at_ p n) (at_ p (n-1))=true then .ret n else ADm p f (n+1))<=n+(f+1)/\(run c (if c (at_ p n) (at_ p (n-1))=true then .ret n else ADm p f (n+1))<n+(f+1) ->
    c (at_ p (run c (if c (at_ p n) (at_ p (n-1))=true then .ret n else ADm p f (n+1)))) (at_ p (run c (if c (at_ p n) (at_ p (n-1))=true then .ret n else ADm p f (n+1))-1))=true)
  by_cases q:c (at_ p n) (at_ p (n-1))=true
  ·rw[if_pos q]
   exact⟨h,AA8 _,ADM _ _,λ_=>q⟩
  ·rw[if_neg q]
   obtain⟨a1,a2,a3,a4⟩:=uD O f (n+1) (by lia) (h.snoc O h1 (by unfold le;simpa using q))
   exact⟨a1,by lia,by lia,λz=>a4 (by lia)⟩
def eJ:(ADB p i j).size=p.size:=mirror_size _ _ _ _
def Bf(c:Nat->Nat->Bool)(z n m:Nat)(r:Array Nat×Nat×Nat):Prop:=r.1.size=z/\Dn c r.1 r.2.1/\n<=r.2.1/\r.2.1<=m/\r.2.2+1<=r.2.1/\Eqs c r.1 (r.2.1-(r.2.2+1)) r.2.1
def pT(c:Nat->Nat->Bool)(z nrem:Nat)(r:Nat×Array Nat):Prop:=r.2.size=z/\Up c r.2 r.1/\1<=r.1/\r.1<=nrem
def uF(c:Nat->Nat->Bool)(p:Array Nat)(k m:Nat):Prop:=m<=k/\(∀i,i<m->le c (at_ p i) (at_ p k))/\∀i,m<=i->i<k->c (at_ p k) (at_ p i)=true
def kP(O:Ord c):∀(f:Nat) (p:Array Nat) (n q:Nat),q+1<=n->n+f<=p.size->Dn c p n->Eqs c p (n-(q+1)) n ->
  Bf c p.size n (n+f) (run c (AC5 f p n q))
 | 0,p,n,q,h1,h2,hd,he=>⟨rfl,hd,AA8 _,AA8 _,h1,he⟩
 | f+1,p,n,q,h1,h2,hd,he=>by
  have hn:n<=p.size:=by lia
  show Bf c p.size n (n+(f+1)) (run c (if c (at_ p n) (at_ p (n-1))=true then(if q > 0 then AC5 f (ADB p (n-(q+1)) n) (n+1) 0 else AC5 f p (n+1) 0)
   else .ask (at_ p (n-1)) (at_ p n) λd=>if d=true then .ret (p,n,q)else AC5 f p (n+1) (q+1)))
  by_cases hc:c (at_ p n) (at_ p (n-1))=true
  ·rw[if_pos hc]
   by_cases hq:q > 0
   ·rw[if_pos hq]
    have hd':Dn c (ADB p (n-(q+1)) n) (n+1):=by
     refine(hd.revEq O hn he).snoc O (by lia) ?_
     rw[hW hn,hW hn,if_neg (by lia),if_pos ⟨by lia,by lia⟩]
     exact le_trans O (le_of_lt O hc) (he _ _ (by lia) (by lia) (by lia) (by lia))
    have r:=kP O f (ADB p (n-(q+1)) n) (n+1) 0 (by lia) (by rw[eJ];lia) hd' (λi j a1 a2 a3 a4=>by
     have:i=n:=by lia
     have:j=n:=by lia
     subst_vars
     exact le_refl O _)
    obtain⟨a1,a2,a3,a4,a5,a6⟩:=r;exact⟨a1.trans eJ,a2,by lia,by lia,a5,a6⟩
   ·rw[if_neg hq]
    have r:=kP O f p (n+1) 0 (by lia) (by lia) (hd.snoc O (by lia) (le_of_lt O hc)) (λi j a1 a2 a3 a4=>by
     have:i=n:=by lia
     have:j=n:=by lia
     subst_vars
     exact le_refl O _)
    obtain⟨a1,a2,a3,a4,a5,a6⟩:=r;exact⟨a1,a2,by lia,by lia,a5,a6⟩
  ·rw[if_neg hc]
   show Bf c p.size n (n+(f+1)) (run c (if c (at_ p (n-1)) (at_ p n)=true then .ret (p,n,q)else AC5 f p (n+1) (q+1)));by_cases hc':c (at_ p (n-1)) (at_ p n)=true
   ·rw[if_pos hc']
    exact⟨rfl,hd,AA8 _,by show n<=_;lia,h1,he⟩
   ·rw[if_neg hc']
    have l1:le c (at_ p n) (at_ p (n-1)):=by unfold le;simpa using hc'
    have l2:le c (at_ p (n-1)) (at_ p n):=by unfold le;simpa using hc
    have r:=kP O f p (n+1) (q+1) (by lia) (by lia) (hd.snoc O (by lia) l1) (λi j a1 a2 a3 a4=>by
     by_cases hi:i=n
     ·by_cases hj:j=n
      ·subst hi hj;exact le_refl O _
      ·subst hi
       exact le_trans O l1 (he _ _ (by lia) (by lia) (by lia) (by lia))
     ·by_cases hj:j=n
      ·subst hj
       exact le_trans O (he _ _ (by lia) (by lia) (by lia) (by lia)) l2
      ·exact he _ _ (by lia) (by lia) (by lia) (by lia))
    obtain⟨a1,a2,a3,a4,a5,a6⟩:=r;exact⟨a1,a2,by lia,by lia,a5,a6⟩
def qi(O:Ord c)(h1:1<=n)(hn:n<=nrem)(hz:nrem<=p.size)(hd:Dn c p n) :
  pT c p.size nrem (run c (kas_tail3 n nrem p)):=by
 unfold kas_tail3;rw[fW];obtain⟨a1,a2,a3,_⟩:=uD O (nrem-n) n h1 (hd.rev (by lia))
 exact⟨eJ,a1,AAq h1 a2,AAq a3 (by lia)⟩
def kn(O:Ord c)(h1:1<=n)(hn:n+1<=nrem)(hz:nrem<=p.size)(he:Eqs c p 0 n)(hc:c (at_ p n) (at_ p (n-1))=true) :
  pT c p.size nrem (run c (AE3 n nrem p)):=by
 have hd:Dn c p (n+1):=by
  refine Dn.snoc O (λi j hij hj=>he _ _ (by lia) (by lia) (by lia) (by lia)) h1 (le_of_lt O hc)
 unfold AE3;rw[fW];obtain⟨b1,b2,b3,b4,b5,b6⟩:=kP O (nrem-(n+1)) p (n+1) 0 (by lia) (by lia) hd (λi j a1 a2 a3 a4=>by
  have:i=n:=by lia
  have:j=n:=by lia
  subst_vars
  exact le_refl O _)
 by_cases hq:(run c (AC5 (nrem-(n+1)) p (n+1) 0)).2.2 > 0
 ·rw[if_pos hq]
  obtain⟨d1,d2,d3,d4⟩:=qi O (p:=ADB (run c (AC5 (nrem-(n+1)) p (n+1) 0)).1 ((run c (AC5 (nrem-(n+1)) p (n+1) 0)).2.1-((run c (AC5 (nrem-(n+1)) p (n+1) 0)).2.2+1)) (run c (AC5 (nrem-(n+1)) p (n+1) 0)).2.1)
   (n:=(run c (AC5 (nrem-(n+1)) p (n+1) 0)).2.1) (nrem:=nrem) (by lia) (by lia) (by rw[eJ,b1];exact hz) (b2.revEq O (by rw[b1];lia) b6)
  exact⟨d1.trans (eJ.trans b1),d2,d3,d4⟩
 ·rw[if_neg hq]
  obtain⟨d1,d2,d3,d4⟩:=qi O (p:=(run c (AC5 (nrem-(n+1)) p (n+1) 0)).1) (n:=(run c (AC5 (nrem-(n+1)) p (n+1) 0)).2.1) (nrem:=nrem) (by lia) (by lia) (by rw[b1];exact hz) b2
  exact⟨d1.trans b1,d2,d3,d4⟩
def AK(O:Ord c)(h1:1<=nrem)(hz:nrem<=p.size) :
  pT c p.size nrem (run c (kas_count nrem p)):=by
 unfold kas_count;rw[fW];obtain⟨a1,a2,a3,a4⟩:=uD O (nrem-1) 1 (AA8 _) (Up.one O p);generalize run c (ADm p (nrem-1) 1)=n at a1 a2 a3 a4;by_cases hn:(n==nrem)=true
 ·rw[if_pos hn]
  exact⟨rfl,a1,a2,by show n<=nrem;lia⟩
 ·rw[if_neg hn]
  have hn':n≠nrem:=by simpa using hn
  have hlt:c (at_ p n) (at_ p (n-1))=true:=a4 (by lia)
  by_cases h2:n > 1
  ·rw[if_pos h2]
   show pT c p.size nrem (run c (if c (at_ p 0) (at_ p (n-1))=true then .ret (n,p)else AE3 n nrem (ADB p 0 n)));by_cases hc:c (at_ p 0) (at_ p (n-1))=true
   ·rw[if_pos hc]
    exact⟨rfl,a1,a2,by show n<=nrem;lia⟩
   ·rw[if_neg hc]
    have hz':n<=p.size:=by lia
    have l0:le c (at_ p (n-1)) (at_ p 0):=by unfold le;simpa using hc
    have he:Eqs c p 0 n:=λi j b1 b2 b3 b4=>le_trans O (a1 i (n-1) (by lia) (by lia)) (le_trans O l0 (a1 0 j (by lia) b4))
    have he':Eqs c (ADB p 0 n) 0 n:=λi j b1 b2 b3 b4=>by
     rw[hW hz',hW hz',if_pos ⟨b1,b2⟩,if_pos ⟨b3,b4⟩];exact he _ _ (by lia) (by lia) (by lia) (by lia)
    have hc':c (at_ (ADB p 0 n) n) (at_ (ADB p 0 n) (n-1))=true:=by
     rw[hW hz',hW hz',if_neg (by lia),if_pos ⟨by lia,by lia⟩]
     rcases O.neg _ (at_ p (0+n-1-(n-1))) _ hlt with z | z
     ·exact z
     ·have:=he (n-1) (0+n-1-(n-1)) (by lia) (by lia) (by lia) (by lia)
      unfold le at this;rw[this]at z;cases z
    obtain⟨d1,d2,d3,d4⟩:=kn O (p:=ADB p 0 n) (n:=n) (nrem:=nrem) (by lia) (by lia) (by rw[eJ];exact hz) he' hc'
    exact⟨d1.trans eJ,d2,d3,d4⟩
  ·rw[if_neg h2]
   have:n=1:=by lia
   subst this;exact kn O (by lia) (by lia) hz (λi j b1 b2 b3 b4=>by
    have:i=0:=by lia
    have:j=0:=by lia
    subst_vars
    exact le_refl O _) hlt
def lN(O:Ord c)(hu:Up c p k):∀(f l r:Nat),l<=r->r<=k->r-l<=f->(∀i,i<l->le c (at_ p i) (at_ p k))->(∀i,r<=i->i<k->c (at_ p k) (at_ p i)=true) ->
  uF c p k (run c (ADH p k f l r))
 | 0,l,r,h1,h2,h3,h4,h5=>⟨by show l<=k;lia,h4,λi a1 a2=>h5 i (by have a1':l<=i:=a1;lia) a2⟩
 | f+1,l,r,h1,h2,h3,h4,h5=>by
  show uF c p k (run c (if l ≥ r then .ret l else .ask (at_ p k) (at_ p ((l+r) / 2)) λc=>if c=true then ADH p k f l ((l+r) / 2)else ADH p k f ((l+r) / 2+1) r))
  by_cases hl:l ≥ r
  ·rw[if_pos hl]
   exact⟨by show l<=k;lia,h4,λi a1 a2=>h5 i (by have a1':l<=i:=a1;lia) a2⟩
  ·rw[if_neg hl]
   show uF c p k (run c (if c (at_ p k) (at_ p ((l+r) / 2))=true then ADH p k f l ((l+r) / 2)else ADH p k f ((l+r) / 2+1) r));by_cases hc:c (at_ p k) (at_ p ((l+r) / 2))=true
   ·rw[if_pos hc]
    refine lN O hu f l ((l+r) / 2) (by lia) (by lia) (by lia) h4 λi a1 a2=>?_
    rcases O.neg _ (at_ p i) _ hc with z | z
    ·exact z
    ·have:=hu ((l+r) / 2) i a1 a2
     unfold le at this;rw[this]at z;cases z
   ·rw[if_neg hc]
    have lm:le c (at_ p ((l+r) / 2)) (at_ p k):=by unfold le;simpa using hc
    refine lN O hu f ((l+r) / 2+1) r (by lia) h2 (by lia) (λi hi=>?_) h5
    exact le_trans O (hu i ((l+r) / 2) (by lia) (by lia)) lm
def AU(O:Ord c)(hk:k<p.size)(hu:Up c p k)(hm:m<=k)(h1:∀i,i<m->le c (at_ p i) (at_ p k))(h2:∀i,m<=i->i<k->c (at_ p k) (at_ p i)=true):Up c (bubble p k (k-m)) (k+1):=by
 intro i j hij hj;have e:k-(k-m)=m:=by lia
 rw[sL hk (by lia),sL hk (by lia),e]
 by_cases hi:i=m
 ·rw[if_pos hi]
  by_cases hjm:j=m
  ·rw[if_pos hjm];exact le_refl O _
  ·rw[if_neg hjm,if_pos ⟨by lia,by lia⟩]
   exact le_of_lt O (h2 _ (by lia) (by lia))
 ·rw[if_neg hi]
  by_cases hi2:m<i/\i<=k
  ·rw[if_pos hi2,if_neg (by lia),if_pos ⟨by lia,by lia⟩]
   exact hu _ _ (by lia) (by lia)
  ·rw[if_neg hi2]
   by_cases hjm:j=m
   ·rw[if_pos hjm];exact h1 i (by lia)
   ·rw[if_neg hjm]
    by_cases hj2:m<j/\j<=k
    ·rw[if_pos hj2]
     exact hu _ _ (by lia) (by lia)
    ·rw[if_neg hj2]
     exact hu _ _ hij (by lia)
def AW(O:Ord c):∀(f:Nat) (p:Array Nat) (k:Nat),k+f<=p.size->Up c p k->(run c (kas_bin f p k)).size=p.size/\Up c (run c (kas_bin f p k)) (k+f)
 | 0,p,k,_,h=>⟨rfl,h⟩
 | f+1,p,k,hz,h=>by
  show (run c ((ADH p k k 0 k).bind λl=>kas_bin f (bubble p k (k-l)) (k+1))).size=p.size/\Up c (run c ((ADH p k k 0 k).bind λl=>kas_bin f (bubble p k (k-l)) (k+1))) (k+(f+1))
  rw[fW];obtain⟨a1,a2,a3⟩:=lN O h k 0 k (AAX _) (AA8 _) (by lia) (λi hi=>absurd hi (ABz _)) λi a1 a2=>absurd a2 (by lia)
  obtain⟨b1,b2⟩:=AW O f (bubble p k (k-run c (ADH p k k 0 k))) (k+1) (by rw[bubble_size];lia) (AU O (by lia) h a1 a2 a3)
  exact⟨b1.trans (bubble_size _ _ _),by rw[show k+(f+1)=k+1+f by lia];exact b2⟩
def EF(O:Ord c)(h1:1<=n):(run c (ADz n)).size=n/\Up c (run c (ADz n)) n:=by
 have hs:(ABl (AAk n)).size=n:=by simp
 unfold ADz;rw[fW];obtain⟨a1,a2,a3,a4⟩:=AK O (p:=ABl (AAk n)) h1 (by rw[hs];exact AA8 _)
 rw[hs]at a1;generalize run c (kas_count n (ABl (AAk n)))=r at a1 a2 a3 a4;by_cases hl:r.1<n
 ·rw[if_pos hl]
  obtain⟨b1,b2⟩:=AW O (n-max r.1 1) r.2 (max r.1 1) (by rw[a1];lia) (by rw[show max r.1 1=r.1 by lia];exact a2)
  exact⟨b1.trans a1,by rw[show n=max r.1 1+(n-max r.1 1) by lia];simpa using b2⟩
 ·rw[if_neg hl]
  have e1:r.1=n:=by lia
  rw[e1]at a2;exact⟨a1,a2⟩
def Ent(n:Nat)(p:Array Nat):Prop:=p.toList.Perm (AAk n)
def Ent.lt(h:Ent n p)(h0:0<n)(k:Nat):at_ p k<n:=by
 unfold at_;rw[ABB];cases e:p[k]? with
 | none=>simpa using h0
 | some x =>
  have:x∈p.toList:=by
   rw[<-AAS]at e;exact AAi e
  have:=h.mem_iff.mp this;simpa using this
def Ent.rev(h:Ent n p):Ent n (ADB p i j):=(Array.perm_iff_toList_perm.mp (mirror_perm p i j ((j-i) / 2))).trans h
def Ent.bub(h:Ent n p):Ent n (bubble p i j):=(Array.perm_iff_toList_perm.mp (bubble_perm p i j)).trans h
section
variable{n:Nat}(h0:0<n)
def AZ(h0:0<n)(h:Ent n p):∀(f k:Nat),Bd n (ADm p f k)
 | 0,_=>trivial
 | f+1,k=>⟨h.lt h0 _,h.lt h0 _,λb=>by cases b with
  | true=>exact trivial
  | false=>exact AZ h0 h f (k+1)⟩
def pN(h0:0<n):∀(f:Nat) (p:Array Nat) (k q:Nat),Ent n p->Bd n (AC5 f p k q)/\All (λr=>Ent n r.1) (AC5 f p k q)
 | 0,p,k,q,h=>⟨trivial,h⟩
 | f+1,p,k,q,h=>by
  have key:∀b,(Bd n (if b=true then(if q > 0 then AC5 f (ADB p (k-(q+1)) k) (k+1) 0 else AC5 f p (k+1) 0)
    else KasT.ask (p.getD (k-1) 0) (p.getD k 0) λd=>if d=true then KasT.ret (p,k,q)else AC5 f p (k+1) (q+1)))/\All (λr=>Ent n r.1) (if b=true then(if q > 0 then AC5 f (ADB p (k-(q+1)) k) (k+1) 0 else AC5 f p (k+1) 0)
    else KasT.ask (p.getD (k-1) 0) (p.getD k 0) λd=>if d=true then KasT.ret (p,k,q)else AC5 f p (k+1) (q+1)):=λb=>by
   cases b with
   | true =>
    rw[if_pos rfl];by_cases hq:q > 0
    ·rw[if_pos hq];exact pN h0 f _ _ _ h.rev
    ·rw[if_neg hq];exact pN h0 f _ _ _ h
   | false =>
    rw[if_neg (by simp)]
    have a:=pN h0 f p (k+1) (q+1) h;refine⟨⟨h.lt h0 _,h.lt h0 _,λb=>?_⟩,λb=>?_⟩
    ·cases b with
     | true=>exact trivial
     | false=>exact a.1
    ·cases b with
     | true=>exact h
     | false=>exact a.2
  exact⟨⟨h.lt h0 _,h.lt h0 _,λb=>(key b).1⟩,λb=>(key b).2⟩
def kG(h0:0<n)(h:Ent n p):Bd n (kas_tail3 k m p)/\All (λr=>Ent n r.2) (kas_tail3 k m p):=by
 have triv:∀{t:KasT Nat}{Q:Prop},Q->All (λ_=>Q) t:=λ{t Q} q=>by
  induction t with
  | ret a=>exact q
  | ask i j k ih=>exact λb=>ih b
 unfold kas_tail3;exact⟨Bd.bindA _ (AZ h0 h.rev _ _) (triv trivial),All.bind _ (triv h.rev)⟩
def eY(h0:0<n)(h:Ent n p):Bd n (AE3 k m p)/\All (λr=>Ent n r.2) (AE3 k m p):=by
 unfold AE3;obtain⟨b1,b2⟩:=pN h0 (m-(k+1)) p (k+1) 0 h;refine⟨Bd.bindA _ b1 (b2.mono (λr hr=>?_)),All.bind _ (b2.mono (λr hr=>?_))⟩
 ·by_cases hq:r.2.2 > 0
  ·rw[if_pos hq];exact(kG h0 hr.rev).1
  ·rw[if_neg hq];exact(kG h0 hr).1
 ·by_cases hq:r.2.2 > 0
  ·rw[if_pos hq];exact(kG h0 hr.rev).2
  ·rw[if_neg hq];exact(kG h0 hr).2
def Df(h0:0<n)(h:Ent n p):Bd n (kas_count m p)/\All (λr=>Ent n r.2) (kas_count m p):=by
 have triv:∀{t:KasT Nat}{Q:Nat->Prop},(∀a,Q a)->All Q t:=λ{t Q} q=>by
  induction t with
  | ret a=>exact q a
  | ask i j k ih=>exact λb=>ih b
 unfold kas_count;refine⟨Bd.bindA _ (AZ h0 h _ _) (triv λk=>?_),All.bind _ (triv λk=>?_)⟩
 ·by_cases h1:(k==m)=true
  ·rw[if_pos h1];exact trivial
  ·rw[if_neg h1]
   by_cases h2:k > 1
   ·rw[if_pos h2]
    refine⟨h.lt h0 _,h.lt h0 _,λb=>?_⟩
    cases b with
    | true=>exact trivial
    | false=>exact(eY h0 h.rev).1
   ·rw[if_neg h2];exact(eY h0 h).1
 ·by_cases h1:(k==m)=true
  ·rw[if_pos h1];exact h
  ·rw[if_neg h1]
   by_cases h2:k > 1
   ·rw[if_pos h2]
    intro b;cases b with
    | true=>exact h
    | false=>exact(eY h0 h.rev).2
   ·rw[if_neg h2];exact(eY h0 h).2
def oP(h0:0<n)(h:Ent n p):∀(f l r:Nat),Bd n (ADH p k f l r)
 | 0,_,_=>trivial
 | f+1,l,r=>by
  show Bd n (if l ≥ r then KasT.ret l else KasT.ask (p.getD k 0) (p.getD ((l+r) / 2) 0) λc=>if c=true then ADH p k f l ((l+r) / 2)else ADH p k f ((l+r) / 2+1) r)
  by_cases hl:l ≥ r
  ·rw[if_pos hl];exact trivial
  ·rw[if_neg hl]
   refine⟨h.lt h0 _,h.lt h0 _,λb=>?_⟩
   cases b with
   | true=>exact oP h0 h f _ _
   | false=>exact oP h0 h f _ _
def wK(h0:0<n):∀(f:Nat) (p:Array Nat) (k:Nat),Ent n p->Bd n (kas_bin f p k)/\All (λr=>Ent n r) (kas_bin f p k)
 | 0,p,k,h=>⟨trivial,h⟩
 | f+1,p,k,h=>by
  have triv:∀{t:KasT Nat}{Q:Nat->Prop},(∀a,Q a)->All Q t:=λ{t Q} q=>by
   induction t with
   | ret a=>exact q a
   | ask i j k ih=>exact λb=>ih b
  exact⟨Bd.bindA _ (oP h0 h _ _ _) (triv λl=>(wK h0 f _ _ h.bub).1),All.bind _ (triv λl=>(wK h0 f _ _ h.bub).2)⟩
def sort_bd(h0:0<n):Bd n (ADz n)/\All (λr=>Ent n r) (ADz n):=by
 have h:Ent n (ABl (AAk n)):=by unfold Ent;simp
 obtain⟨b1,b2⟩:=Df h0 (m:=n) h;unfold ADz;refine⟨Bd.bindA _ b1 (b2.mono λr hr=>?_),All.bind _ (b2.mono λr hr=>?_)⟩
 ·by_cases hl:r.1<n
  ·rw[if_pos hl];exact(wK h0 _ _ _ hr).1
  ·rw[if_neg hl];exact trivial
 ·by_cases hl:r.1<n
  ·rw[if_pos hl];exact(wK h0 _ _ _ hr).2
  ·rw[if_neg hl];exact hr
end
def sort_list{α:Type}[Inhabited α]{lt:α->α->Bool}(xs:List α)(h1:1<=xs.length)(irr:∀a∈xs,lt a a=false)(tr:∀a∈xs,∀b∈xs,∀d∈xs,lt a b=true->lt b d=true->lt a d=true)
  (neg:∀a∈xs,∀b∈xs,∀d∈xs,lt a d=true->lt a b=true\/lt b d=true) :
  let c:=λi j=>if i<xs.length then(if j<xs.length then lt (xs.getD i default) (xs.getD j default)else true)else false
  let p:=run c (ADz xs.length)
  let ys:=p.toList.map λi=>xs.getD i default
  ys.Perm xs/\ys.Pairwise λa b=>lt b a=false:=by
 intro c p ys;have mem:∀i,i<xs.length->xs.getD i default∈xs:=λi hi=>by
  rw[AAL,AA6 hi];exact ABA hi
 have O:Ord c:=by
  refine⟨λa=>?_,λa b d=>?_,λa b d=>?_⟩
  ·show (if a<xs.length then(if a<xs.length then lt _ _ else true)else false)=false
   by_cases ha:a<xs.length
   ·rw[if_pos ha,if_pos ha];exact irr _ (mem a ha)
   ·rw[if_neg ha]
  ·show (if a<xs.length then(if b<xs.length then lt _ _ else true)else false)=true->(if b<xs.length then(if d<xs.length then lt _ _ else true)else false)=true->(if a<xs.length then(if d<xs.length then lt _ _ else true)else false)=true
   by_cases ha:a<xs.length
   ·by_cases hb:b<xs.length
    ·by_cases hd:d<xs.length
     ·rw[if_pos ha,if_pos hb,if_pos hb,if_pos hd,if_pos ha,if_pos hd];exact tr _ (mem a ha) _ (mem b hb) _ (mem d hd)
     ·intro _ _;rw[if_pos ha,if_neg hd]
    ·rw[if_neg (show ¬b<xs.length from hb)]
     intro _ z;rw[if_neg hb]at z;cases z
   ·intro z;rw[if_neg ha]at z;cases z
  ·show (if a<xs.length then(if d<xs.length then lt _ _ else true)else false)=true->(if a<xs.length then(if b<xs.length then lt _ _ else true)else false)=true\/(if b<xs.length then(if d<xs.length then lt _ _ else true)else false)=true
   by_cases ha:a<xs.length
   ·by_cases hb:b<xs.length
    ·by_cases hd:d<xs.length
     ·rw[if_pos ha,if_pos hd,if_pos ha,if_pos hb,if_pos hb,if_pos hd];exact neg _ (mem a ha) _ (mem b hb) _ (mem d hd)
     ·intro _;right;rw[if_pos hb,if_neg hd]
    ·intro _;left;rw[if_pos ha,if_neg hb]
   ·intro z;rw[if_neg ha]at z;cases z
 have hE:Ent xs.length p:=All.run _ (sort_bd (by lia)).2
 obtain⟨hs,hU⟩:=EF O h1;refine⟨?_,?_⟩
 ·have e:(AAk xs.length).map (λi=>xs.getD i default)=xs:=by
   apply ADn
   intro i;rw[AAR];by_cases hi:i<xs.length
   ·rw[List.getElem?_range hi]
    simp[AAL,AA6 hi]
   ·rw[ABO (by simpa using hi),ABO (by simpa using hi)]
    rfl
  have:=hE.map λi=>xs.getD i default
  rw[e]at this;exact this
 ·show (p.toList.map λi=>xs.getD i default).Pairwise λa b=>lt b a=false
  rw[List.pairwise_iff_getElem];intro i j hi hj hij;rw[AA4,AAO]at hi hj;have hs':p.size=xs.length:=hs;have l:=hU i j (by lia) (by lia)
  have hl:∀k,at_ p k<xs.length:=λk=>hE.lt (by lia) k
  unfold le at l;have l':(if at_ p j<xs.length then(if at_ p i<xs.length then lt (xs.getD (at_ p j) default) (xs.getD (at_ p i) default)else true)else false)=false:=l;rw[if_pos (hl j),if_pos (hl i)]at l';have ai:p.toList[i]=at_ p i:=by unfold at_;simp[ACK,hi]
  have aj:p.toList[j]=at_ p j:=by unfold at_;simp[ACK,hj]
  rw[ACL,ACL,ai,aj];exact l'
end
end Srt
namespace L2
open PySem PySem.Spec PyProof.Rows DL
def xV(A:Around)(s:Shared)(x y:Value)(k:Bool):Prop:=∀(prog:Program) (w:World) (E:Value->Shared->Prop) (Q:Value->Shared->Prop),Q (.bool k) s->wpAny (model prog w) A (richCompare .Lt x y) Q E s
inductive LexAt(A:Around)(s:Shared):List Value->List Value->Bool->Prop
 | nn:LexAt A s [] [] false
 | nc {y:Value}{ys:List Value}:LexAt A s [] (y::ys) true
 | cn {x:Value}{xs:List Value}:LexAt A s (x::xs) [] false
 | eq {x y:Value}{xs ys:List Value}{k:Bool} (h:ACJ A s x y true) (t:LexAt A s xs ys k):LexAt A s (x::xs) (y::ys) k
 | ne {x y:Value}{xs ys:List Value}{k:Bool} (h:ACJ A s x y false) (t:xV A s x y k):LexAt A s (x::xs) (y::ys) k
section
open PySem.SeqAt
open PySem.AutoSeq1 (wpAny_loadPart')
open PySem.MeetsSeq PySem.MeetsSeq2 PySem.MeetsSeq3
def qh(l b:Addr)(items items2:Array Value)(n n2:Nat)(dd dd2:Option Addr)(sl sl2:Array (Option Value))(k:Bool) :
  Meets (Builtin.«tuple.__lt__» ⟨[.ref l,.ref b],[]⟩)
   (λA R s=>s.heap.get? l=some (⟨.type "tuple",dd,.seq items n,sl⟩:Obj)/\s.heap.get? b=some { cls:=.type "tuple",dict:=dd2,data:=.seq items2 n2,slots:=sl2 } /\
    LexAt A.in1 s items.toList items2.toList k/\R (.ok (.ret (.bool k))) s) :=
 .of_wp λprog w A R s h=>by
  obtain⟨hp,g,d,tk,os⟩:=s;obtain⟨hl,hb,hx,h⟩:=h;have f2:=AutoSeq1.sub_tuple_tuple
  wp_walk using ADW hl,ADW hb,AC8 _ (λbc b s'=>b.1=none/\s'=⟨hp,g,d,tk,os⟩/\∃(vs ws:List Value),bc=vs.zip ws /\
   LexAt A.in1 ⟨hp,g,d,tk,os⟩ vs ws k/\vs.length+items2.size=ws.length+items.size) _
  case turn =>
   rintro⟨y,x⟩ bc b s' ⟨hb',rfl,vs,ws,hz,hlex,hlen⟩;cases hlex with
   | nn=>cases hz
   | nc=>cases hz
   | cn=>cases hz
   | eq he t =>
    rw[AC6]at hz;injection hz with hyx hrest
    injection hyx with hy hx
    subst hy hx;refine AA1 (he prog w _ _ ?_)
    wp_walk
    exact⟨rfl,rfl,_,_,hrest,t,by simp only[AAK]at hlen;lia⟩
   | ne he t =>
    rw[AC6]at hz;injection hz with hyx hrest
    injection hyx with hy hx
    subst hy hx;refine AA1 (he prog w _ _ ?_);have hri:=t prog w
    wp_walk using hri
    exact⟨_,rfl,by simpa using h⟩
  case fin =>
   rintro⟨b1,b2⟩ s' ⟨hb',rfl,vs,ws,hz,hlex,hlen⟩;simp only at hb';subst hb';have hv:k=decide (items.size<items2.size):=by
    cases hlex with
    | nn=>simp only[AAU]at hlen;exact(dF_ (by lia)).symm
    | nc=>simp only[AAU,AAK]at hlen;exact(dT_ (by lia)).symm
    | cn=>simp only[AAU,AAK]at hlen;exact(dF_ (by lia)).symm
    | eq _ _=>rw[AC6]at hz;cases hz
    | ne _ _=>rw[AC6]at hz;cases hz
   rw[hv]at h
   wp_walk
   exact⟨_,rfl,by simpa [Builtin.Tuple.tupleCompareSizes]using h⟩
  case h =>
   exact⟨rfl,rfl,items.toList,items2.toList,rfl,hx,by simp;lia⟩
end
theorem xV.tuples(hl:s.heap.IsTuple l items)(hb:s.heap.IsTuple b items2)(hu:A.units<cLine)(hx:LexAt A.in1 s items.toList items2.toList k):xV A s (.ref l) (.ref b) k:=λprog w E Q h=>by
 obtain⟨⟨cls,dd,data,sl⟩,ho,hc,n,hd⟩:=id hl;obtain⟨⟨cls2,dd2,data2,sl2⟩,ho2,hc2,n2,hd2⟩:=id hb;simp only at hc hd hc2 hd2;subst hc hd hc2 hd2;exact richCompare_meets_room (op:=.Lt) ⟨_,ho,rfl⟩ ⟨_,ho2,rfl⟩ PySem.F.slot_tuple_lt PySem.F.entry_tuple_lt (PySem.F.args_tuple_lt_2 _ _) (qh l b items items2 n n2 dd dd2 sl sl2 k)
  ⟨ho,ho2,hx,show AEU k≠Value.notImplemented/\Q (.bool k) s from⟨(λx=>nomatch x),h⟩⟩ hu
def tY(f g:D->D->Bool):List D->List D->Bool
 | [],[]=>false
 | [],_::_=>true
 | _::_,[]=>false
 | x::xs,y::ys=>if f x y=true then tY f g xs ys else g x y
def ltD(M:Mem):Nat->D->D->Bool
 | _,.int a,.int b=>decide (a<b)
 | _,.str a,.str b=>gB a b
 | n+1,.tup xs,.tup ys=>tY (eqD M n) (ltD M n) xs ys
 | _,_,_=>false
def AM(f g:D->D->Bool):List D->List D->Bool
 | x::xs,y::ys=>if f x y=true then AM f g xs ys else g x y
 | _,_=>true
def iG(M:Mem):Nat->D->D->Bool
 | _,.int _,.int _=>true
 | _,.str _,.str _=>true
 | n+1,.tup xs,.tup ys=>AM (eqD M n) (iG M n) xs ys
 | _,_,_=>false
def xV.ints(A:Around)(s:Shared)(a:Int)(t:Tok)(c:Int)(u:Tok):xV A s (.int a t) (.int c u) (decide (a<c)):=λprog w E Q h=>HT.rcLt_int A s a t c u prog w E Q h
def xV.texts(A:Around)(s:Shared)(a:Str)(t:Tok)(c:Str)(u:Tok):xV A s (.str a t) (.str c u) (gB a c):=λprog w E Q h =>
 (PySem.P.lt_str (show Q (.bool (decide (a.cps.toList<c.cps.toList))) s from h):wpAny (model prog w) A (compareOp .Lt (.str a t) (.str c u)) Q E s)
section
variable{X:Cx}{pins:List (Addr×Obj)}{σ:St}{H:Hp}{s:Shared}{ρ:List Addr}{M:Mem}
def DB(I:Inv X pins σ H s)(sm:Sim X.K ρ M H):∀(n:Nat) (A:Around) (x y:D) (vx vy:V) (u v:Value),A.units+n<cLine->Rep X.K ρ H x vx->aU vx u->Rep X.K ρ H y vy->aU vy v->okD M n x=true->okD M n y=true->iG M n x y=true ->
  xV A s u v (ltD M n x y):=by
 intro n;induction n with
 | zero =>
  intro A x y vx vy u v hu r1 e1 r2 e2 o1 o2 cm;cases r1 with
  | int a =>
   cases r2 with
   | int b=>obtain⟨t,rfl⟩:=e1;obtain⟨t',rfl⟩:=e2;exact xV.ints A s a t b t'
   | _=>simp[iG]at cm
  | str a =>
   cases r2 with
   | str b=>obtain⟨t,rfl⟩:=e1;obtain⟨t',rfl⟩:=e2;exact xV.texts A s a t b t'
   | _=>simp[iG]at cm
  | _=>simp[iG]at cm
 | succ n ih =>
  intro A x y vx vy u v hu r1 e1 r2 e2 o1 o2 cm;have hu0:A.units<cLine:=by lia
  have hu1:A.in1.units+n<cLine:=by show A.units+1+n<cLine;lia
  have lex:∀(ds es:List D) (vs ws:List V) (its jts:List Value),Reps X.K ρ H ds vs->aw vs its->Reps X.K ρ H es ws->aw ws jts->ds.all (okD M n)=true->es.all (okD M n)=true->AM (eqD M n) (iG M n) ds es=true ->
    LexAt A.in1 s its jts (tY (eqD M n) (ltD M n) ds es):=by
   intro ds;induction ds with
   | nil =>
    intro es vs ws its jts p1 q1 p2 q2 _ _ _;cases p1;cases q1
    cases p2 with
    | nil=>cases q2;exact .nn
    | cons _ _=>cases q2;exact .nc
   | cons d ds hi =>
    intro es vs ws its jts p1 q1 p2 q2 k1 k2 k3;cases p1 with
    | cons a1 p1 =>
     cases q1 with
     | cons b1 q1 =>
      cases p2 with
      | nil=>cases q2;exact .cn
      | @cons e _ es' _ a2 p2 =>
       cases q2 with
       | cons b2 q2 =>
        rw[ABT,AAW]at k1 k2;have he:=(my I sm n A.in1 d _ _ _ _ _ hu1 a1 b1 a2 b2 k1.1 k2.1).1;rw[tY];rw[AM]at k3;by_cases hq:eqD M n d e=true
        ·rw[hq]at he
         rw[if_pos hq]at k3 ⊢;exact .eq he (hi _ _ _ _ _ p1 q1 p2 q2 k1.2 k2.2 k3)
        ·have hq':=AB4.mpr hq
         rw[hq']at he;rw[if_neg hq]at k3 ⊢;exact .ne he (ih A.in1 _ _ _ _ _ _ hu1 a1 b1 a2 b2 k1.1 k2.1 k3)
  cases r1 with
  | int a =>
   cases r2 with
   | int b=>obtain⟨t,rfl⟩:=e1;obtain⟨t',rfl⟩:=e2;exact xV.ints A s a t b t'
   | _=>simp[iG]at cm
  | str a =>
   cases r2 with
   | str b=>obtain⟨t,rfl⟩:=e1;obtain⟨t',rfl⟩:=e2;exact xV.texts A s a t b t'
   | _=>simp[iG]at cm
  | tup hq r =>
   cases r2 with
   | tup hq' r' =>
    cases e1;cases e2
    obtain⟨its,rr,pl,_⟩:=I.tuple hq;obtain⟨jts,rr',pl',_⟩:=I.tuple hq';refine xV.tuples pl pl' hu0 ?_
    exact lex _ _ _ _ _ _ r rr r' rr' (by simpa [okD]using o1) (by simpa [okD]using o2) cm
   | _=>simp[iG]at cm
  | _=>simp[iG]at cm
end
def okP:Nat->D->Bool
 | _,.int _=>true
 | _,.str _=>true
 | n+1,.tup xs=>xs.all (okP n)
 | _,_=>false
def GH(f:D->List Int):List D->List Int
 | []=>[0]
 | x::xs=>1::(f x++GH f xs)
def enc:Nat->D->List Int
 | _,.int i=>[0,i]
 | _,.str x=>1::(x.cps.toList.map (λ(c:Nat)=>(c:Int)+1)++[0])
 | n+1,.tup xs=>2::GH (enc n) xs
 | _,_=>[3]
def cx(x y:List Int):Prop:=∀a b,x++a<y++b
def cx.cons(i:Int)(h:cx x y):cx (i::x) (i::y):=λa b=>ABH.mpr (.inr ⟨rfl,h a b⟩)
def cx.head(x y:List Int)(h:i<j):cx (i::x) (j::y):=λa b=>ABH.mpr (.inl h)
def cx.lt(h:cx x y):x<y:=by have:=h [] [];simpa using this
def cx.pre(z:List Int)(h:cx x y):cx (z++x) (z++y):=by
 induction z with
 | nil=>exact h
 | cons i z ih=>exact ih.cons i
def cx.more(u v:List Int)(h:cx x y):cx (x++u) (y++v):=λa b=>by
 rw[AAg,AAg];exact h _ _
def Tri(x y:D)(n:Nat)(l:Bool)(r:Bool):Prop:=(x=y/\l=false/\r=false)\/(x≠y/\l=true/\r=false/\cx (enc n x) (enc n y))\/(x≠y/\l=false/\r=true/\cx (enc n y) (enc n x))
def sB:∀(x y:List Nat),(x=y)\/(x<y/\¬y<x/\cx (x.map (λ(c:Nat)=>(c:Int)+1)++[0]) (y.map (λ(c:Nat)=>(c:Int)+1)++[0]))\/(¬x<y/\y<x/\cx (y.map (λ(c:Nat)=>(c:Int)+1)++[0]) (x.map (λ(c:Nat)=>(c:Int)+1)++[0]))
 | [],[]=>.inl rfl
 | [],c::y=>.inr (.inl ⟨List.nil_lt_cons _ _,List.not_lt_nil _,cx.head _ _ (by dsimp only;lia)⟩)
 | c::x,[]=>.inr (.inr ⟨List.not_lt_nil _,List.nil_lt_cons _ _,cx.head _ _ (by dsimp only;lia)⟩)
 | c::x,e::y=>by
  rcases AD6 c e with h | h | h
  ·refine .inr (.inl ⟨ABH.mpr (.inl h),λz=>?_,cx.head _ _ (by dsimp only;lia)⟩)
   rcases ABH.mp z with z | ⟨z,_⟩<;>lia
  ·subst h
   rcases sB x y with q | ⟨q1,q2,q3⟩|⟨q1,q2,q3⟩
   ·exact .inl (by rw[q])
   ·refine .inr (.inl ⟨ABH.mpr (.inr ⟨rfl,q1⟩),λz=>?_,q3.cons _⟩)
    rcases ABH.mp z with z | ⟨_,z⟩
    ·lia
    ·exact q2 z
   ·refine .inr (.inr ⟨λz=>?_,ABH.mpr (.inr ⟨rfl,q2⟩),q3.cons _⟩)
    rcases ABH.mp z with z | ⟨_,z⟩
    ·lia
    ·exact q1 z
  ·refine .inr (.inr ⟨λz=>?_,ABH.mpr (.inl h),cx.head _ _ (by dsimp only;lia)⟩)
   rcases ABH.mp z with z | ⟨z,_⟩<;>lia
def Je(M:Mem):∀(n:Nat) (x y:D),okP n x=true->okP n y=true->(eqD M n x y=true↔x=y):=by
 have all:∀(n:Nat),(∀(x y:D),okP n x=true->okP n y=true->(eqD M n x y=true↔x=y))->∀(xs ys:List D),xs.all (okP n)=true->ys.all (okP n)=true->(eqL (eqD M n) xs ys=true↔xs=ys):=by
  intro n ih xs;induction xs with
  | nil=>intro ys _ _;cases ys<;>simp[eqL]
  | cons x xs hi =>
   intro ys h1 h2;cases ys with
   | nil=>simp[eqL]
   | cons y ys =>
    rw[ABT,AAW]at h1 h2;rw[eqL,AAW,ih x y h1.1 h2.1,hi ys h1.2 h2.2,ADd]
 intro n;induction n with
 | zero =>
  intro x y h1 h2;cases x<;>simp[okP]at h1<;>cases y<;>simp[okP]at h2<;>simp[eqD]
 | succ n ih =>
  intro x y h1 h2;cases x with
  | int a=>cases y<;>simp[okP]at h2<;>simp[eqD]
  | str a=>cases y<;>simp[okP]at h2<;>simp[eqD]
  | tup xs =>
   cases y with
   | tup ys =>
    simp only[eqD,D.tup.injEq];exact all n ih xs ys (by simpa [okP]using h1) (by simpa [okP]using h2)
   | int a=>simp[eqD]
   | str a=>simp[eqD]
   | _=>simp[okP]at h2
  | _=>simp[okP]at h1
def Ia(M:Mem):∀(n:Nat) (x:D),okP n x=true->okD M n x=true:=by
 intro n;induction n with
 | zero=>intro x h;cases x<;>simp[okP]at h<;>rfl
 | succ n ih =>
  intro x h;cases x with
  | int a=>rfl
  | str a=>rfl
  | tup xs =>
   simp only[okD];rw[AAZ];intro y hy;exact ih y (AAZ.mp (show xs.all (okP n)=true from h) y hy)
  | _=>simp[okP]at h
def GQ(M:Mem):∀(n:Nat) (x y:D),okP n x=true->okP n y=true->iG M n x y=true->Tri x y n (ltD M n x y) (ltD M n y x):=by
 have base:∀(n:Nat) (a b:Int),Tri (.int a) (.int b) n (decide (a<b)) (decide (b<a)):=λn a b=>by
  have e:∀a,enc n (.int a)=[0,a]:=λa=>by cases n<;>rfl
  rcases Int.lt_trichotomy a b with h | h | h
  ·exact .inr (.inl ⟨by simp;lia,dT_ h,dF_ (by lia),by rw[e,e];exact(cx.head [] [] h).cons 0⟩)
  ·subst h;exact .inl ⟨rfl,dF_ (by lia),dF_ (by lia)⟩
  ·exact .inr (.inr ⟨by simp;lia,dF_ (by lia),dT_ h,by rw[e,e];exact(cx.head [] [] h).cons 0⟩)
 have bases:∀(n:Nat) (a b:Str),Tri (.str a) (.str b) n (gB a b) (gB b a):=λn a b=>by
  have e:∀a:Str,enc n (.str a)=1::(a.cps.toList.map (λ(c:Nat)=>(c:Int)+1)++[0]):=λa=>by cases n<;>rfl
  unfold gB;rcases sB a.cps.toList b.cps.toList with h | ⟨h1,h2,h3⟩|⟨h1,h2,h3⟩
  ·have:a=b:=yN h
   subst this;exact .inl ⟨rfl,dF_ (ABD _),dF_ (ABD _)⟩
  ·exact .inr (.inl ⟨λz=>by cases z;exact h2 h1,dT_ h1,dF_ h2,by rw[e,e];exact h3.cons 1⟩)
  ·exact .inr (.inr ⟨λz=>by cases z;exact h1 h2,dF_ h1,dT_ h2,by rw[e,e];exact h3.cons 1⟩)
 intro n;induction n with
 | zero =>
  intro x y h1 h2 h3;cases x<;>simp[okP]at h1<;>cases y<;>simp[okP]at h2<;>first | exact base 0 _ _ | exact bases 0 _ _ | simp[iG]at h3
 | succ n ih =>
  intro x y h1 h2 h3;have lists:∀(xs ys:List D),xs.all (okP n)=true->ys.all (okP n)=true->AM (eqD M n) (iG M n) xs ys=true ->
    (xs=ys/\tY (eqD M n) (ltD M n) xs ys=false/\tY (eqD M n) (ltD M n) ys xs=false) \/
    (xs≠ys/\tY (eqD M n) (ltD M n) xs ys=true/\tY (eqD M n) (ltD M n) ys xs=false/\cx (GH (enc n) xs) (GH (enc n) ys)) \/
    (xs≠ys/\tY (eqD M n) (ltD M n) xs ys=false/\tY (eqD M n) (ltD M n) ys xs=true/\cx (GH (enc n) ys) (GH (enc n) xs)):=by
   intro xs;induction xs with
   | nil =>
    intro ys _ _ _;cases ys with
    | nil=>exact .inl ⟨rfl,rfl,rfl⟩
    | cons y ys=>exact .inr (.inl ⟨by simp,rfl,rfl,cx.head _ _ (by decide)⟩)
   | cons x xs hi =>
    intro ys h1 h2 h3;cases ys with
    | nil=>exact .inr (.inr ⟨by simp,rfl,rfl,cx.head _ _ (by decide)⟩)
    | cons y ys =>
     rw[ABT,AAW]at h1 h2;rw[AM]at h3;have qe:=Je M n x y h1.1 h2.1;have qe':=Je M n y x h2.1 h1.1;rw[tY,tY];by_cases hq:x=y
     ·subst hq
      rw[if_pos (qe.mpr rfl)]at h3;rw[if_pos (qe.mpr rfl),if_pos (qe.mpr rfl)];rcases hi ys h1.2 h2.2 h3 with⟨a1,a2,a3⟩|⟨a1,a2,a3,a4⟩|⟨a1,a2,a3,a4⟩
      ·exact .inl ⟨by rw[a1],a2,a3⟩
      ·exact .inr (.inl ⟨λz=>a1 (AEZ z).2,a2,a3,(a4.pre (enc n x)).cons 1⟩)
      ·exact .inr (.inr ⟨λz=>a1 (AEZ z).2,a2,a3,(a4.pre (enc n x)).cons 1⟩)
     ·have n1:¬eqD M n x y=true:=λz=>hq (qe.mp z)
      have n2:¬eqD M n y x=true:=λz=>hq (qe'.mp z).symm
      rw[if_neg n1]at h3;rw[if_neg n1,if_neg n2];rcases ih x y h1.1 h2.1 h3 with⟨a1,_⟩|⟨a1,a2,a3,a4⟩|⟨a1,a2,a3,a4⟩
      ·exact absurd a1 hq
      ·exact .inr (.inl ⟨λz=>hq (AEZ z).1,a2,a3,(a4.more _ _).cons 1⟩)
      ·exact .inr (.inr ⟨λz=>hq (AEZ z).1,a2,a3,(a4.more _ _).cons 1⟩)
  cases x with
  | int a=>cases y<;>simp[okP]at h2<;>first | exact base (n+1) _ _ | simp[iG]at h3
  | str a=>cases y<;>simp[okP]at h2<;>first | exact bases (n+1) _ _ | simp[iG]at h3
  | tup xs =>
   cases y with
   | tup ys =>
    rcases lists xs ys (by simpa [okP]using h1) (by simpa [okP]using h2) h3 with⟨a1,a2,a3⟩|⟨a1,a2,a3,a4⟩|⟨a1,a2,a3,a4⟩
    ·exact .inl ⟨by rw[a1],a2,a3⟩
    ·exact .inr (.inl ⟨λz=>a1 (D.tup.inj z),a2,a3,a4.cons 2⟩)
    ·exact .inr (.inr ⟨λz=>a1 (D.tup.inj z),a2,a3,a4.cons 2⟩)
   | _=>simp[iG]at h3
  | _=>simp[okP]at h1
def tV(h1:okP n x=true)(h2:okP n y=true)(h3:iG M n x y=true):ltD M n x y=decide (enc n x<enc n y):=by
 rcases GQ M n x y h1 h2 h3 with⟨a1,a2,a3⟩|⟨a1,a2,a3,a4⟩|⟨a1,a2,a3,a4⟩
 ·subst a1;rw[a2,dF_ (ABD _)]
 ·rw[a2,dT_ a4.lt]
 ·rw[a2,dF_ (λz=>ABD _ (List.lt_trans z a4.lt))]
def FU(h1:okP n x=true)(h2:okP n y=true)(h3:iG M n x y=true)(e:enc n x=enc n y):x=y:=by
 rcases GQ M n x y h1 h2 h3 with⟨a1,_⟩|⟨_,_,_,a4⟩|⟨_,_,_,a4⟩
 ·exact a1
 ·have:=a4.lt;rw[e]at this;exact absurd this (ABD _)
 ·have:=a4.lt;rw[e]at this;exact absurd this (ABD _)
end L2
namespace L2
open PySem PySem.Spec PyProof.Rows DL PySem.W
section
variable{X:Cx}{pins:List (Addr×Obj)}{σ:St}{H:Hp}{s:Shared}
def Inv.laidF(I:Inv X pins σ H s)(k:∀b u,b≠X.env.locals->s.heap.get? b=some u->h'.get? b=some u)(hn:s.heap.Ns X.env.locals m)(hn':h'.Ns X.env.locals m)
  (hp:s.heap.get? a=none) (fa:H a=none) (new:cL X.prog X.w (upd H a o) h' a o):Inv X pins σ (upd H a o) { s with heap:=h',toks:=t' }:=by
 have nea:∀b u,s.heap.get? b=some u->b≠a:=λb u e z=>by subst z;rw[hp]at e;cases e
 refine I.step (g':=s.gens) (d':=s.drawn) (ch:=[]) (λ_ z=>nomatch z) (λb u hL _ _ e _=>k b u hL e) (λb u hL _ _ e _=>⟨u.slots,k b u hL e⟩) (λb u _ e n=>by rw[ah (nea b u e)];exact n) (λb u _ e=>?_)
  (λb xs q=>by rw[ah (ad q fa)];exact q) (λb u xs q=>by rw[ah (ad q fa)];exact q) (λb ps q=>⟨#[],by rw[ah (ad q fa),q];simp⟩) (λm' hm=>?_) (λb w q=>?_) I.bare
 ·by_cases hb:b=X.env.locals
  ·subst hb
   obtain⟨o',_,_,ho,_⟩:=hn';exact⟨o',ho⟩
  ·exact⟨u,k b u hb e⟩
 ·have:m=m':=funext λx=>hn.agree hm x
  subst this;exact hn'
 ·by_cases hb:b=a
  ·subst hb
   rw[aJ]at q;cases q
   exact new
  ·rw[ah hb]at q
   refine(I.hok b w q).stay (λc v hc r=>k c v ?_ r) (λc z=>by rw[ah (ad z fa)];exact z) λc xs z=>by rw[ah (ad z fa)];exact z
   rcases hc with rfl | hc
   ·exact ad q I.free
   ·exact ad hc I.free
def Inv.keptF(I:Inv X pins σ H s)(k:∀b u,b≠X.env.locals->s.heap.get? b=some u->h'.get? b=some u)(hn:s.heap.Ns X.env.locals m)(hn':h'.Ns X.env.locals m):Inv X pins σ H { s with heap:=h',toks:=t' }:=by
 refine I.step (g':=s.gens) (d':=s.drawn) (ch:=[]) (λ_ z=>nomatch z) (λb u hL _ _ e _=>k b u hL e) (λb u hL _ _ e _=>⟨u.slots,k b u hL e⟩) (λb u _ e n=>n) (λb u _ e=>?_)
  (λb xs q=>q) (λb u xs q=>q) (λb ps q=>⟨#[],by rw[q];simp⟩) (λm' hm=>?_) (λb w q=>?_) I.bare
 ·by_cases hb:b=X.env.locals
  ·subst hb
   obtain⟨o',_,_,ho,_⟩:=hn';exact⟨o',ho⟩
  ·exact⟨u,k b u hb e⟩
 ·have:m=m':=funext λx=>hn.agree hm x
  subst this;exact hn'
 ·refine(I.hok b w q).stay (λc v hc r=>k c v ?_ r) (λc z=>z) λc xs z=>z
  rcases hc with rfl | hc
  ·exact ad q I.free
  ·exact ad hc I.free
end
section
variable{prog:Program}{w:World}{A:Around}{E:Value->Shared->Prop}{s:Shared}
def qO{l:Addr}{vs:List Value}{Q:Value->Shared->Prop}(hl:s.heap.IsList l vs.toArray)(h2:vs.length<2)
  (h:∀D h' n,s.heap.objs.size<=D->(∀b o,s.heap.get? b=some o->h'.get? b=some o)->h'.get? D=some { cls:=.type "list",data:=.seq vs.toArray n }->Q (.ref D) { s with heap:=h' }) :
  wpAny (model prog w) A (call (.builtin "sorted") ([ABn l])) Q E s:=by
 have few:vs.length<=sizeLine:=by rw[ABr];lia
 refine Calls.call_function_entry kind_sorted plain_sorted entry_sorted (args_sorted1 (.ref l)) ?_
 unfold Builtin.«sorted»;refine AA1 (m:=checkCount "sorted" 1 1 _) (AA2 (AA1 (collect_list hl (AA1 (AD7 ?_ few)) few)));generalize hg:((s.heap.push (seqObj "list" #[] 0)).update s.heap.objs.size (ABJ (· ++ vs.toArray)))=g1;have hsz:g1.objs.size=s.heap.objs.size+1:=by rw[<-hg,Heap.size_update,size_push']
 have k1:∀b o,s.heap.get? b=some o->g1.get? b=some o:=λb o q=>by
  have hlt:=AAF q;rw[<-hg,ABt _ _ _ _ (AAN hlt),Heap.get?_push_ne _ _ _ (AAN hlt)];exact q
 show wpAny _ _ _ _ _ { s with heap:=g1.push (seqObj "list" vs.toArray 0) }
 have hoL:(g1.push (seqObj "list" vs.toArray 0)).get? g1.objs.size=some (seqObj "list" vs.toArray 0):=AAA _ rfl;refine AA1 (AAr (AAw slot_list_sort (⟨_,hoL,rfl⟩) entry_list_sort ?body (args_list_sort (.ref _))))
 case body =>
  rw[list_sort_plain];refine AA1 (AE4 hoL rfl ?_);refine AA1 (AD8 hoL rfl ?_ (by rw[AAC,ABr];lia) (AAX _))
  obtain⟨e1,ho1⟩:∃e1,((g1.push (seqObj "list" vs.toArray 0)).update g1.objs.size (ABJ λ_=>(#[]:Array Value))).get? g1.objs.size=some (seqObj "list" #[] e1):=⟨_,ACY hoL λ_=>#[]⟩
  refine AA1 (seqEpoch_at ho1 rfl (AA1 (wpAny_newTuple (AA1 (AD7 (AAr ?_) (AAX _))) few)));dsimp only;have hv2:vs.toArray.size<2:=by rw[AAC];exact h2
  rw[if_pos hv2,if_pos hv2];refine AA1 (AA2 ?_);rw[StateT.run_pure];refine AA1 (AA2 ?_);dsimp only;generalize hg3:(((g1.push (seqObj "list" vs.toArray 0)).update g1.objs.size (ABJ λ_=>(#[]:Array Value))).push (seqObj "tuple" vs.toArray 0)).push (seqObj "list" #[] 0)=g3
  have ho3:g3.get? g1.objs.size=some (seqObj "list" #[] e1):=by rw[<-hg3];exact AA3 _ (AA3 _ ho1)
  have k3:∀b o,b≠g1.objs.size->s.heap.get? b=some o->g3.get? b=some o:=λb o hb q=>by
   have q1:=k1 b o q;rw[<-hg3];refine AA3 _ (AA3 _ ?_);rw[ABt _ _ _ _ hb];exact AA3 _ q1
  refine AA1 (seqEpoch_at ho3 rfl ?_);have eo:∀us:List Value,us.length<2->(us.toArray.zip us.toArray).map (·.2)=us.toArray:=λus hu=>by
   match us,hu with
   | [],_=>simp
   | [v],_=>simp
   | _::_::_,hu=>simp at hu;lia
  have eout:(arrOf (SortSt.mk' general' (vs.toArray.zip vs.toArray) #[] 7 none)).map (·.2)=vs.toArray:=eo vs h2;rw[eout];refine AA1 (AD8 ho3 rfl ?_ (AAX _) (by rw[AAC,ABr];lia))
  simp only[show failedOf (SortSt.mk' general' (vs.toArray.zip vs.toArray) #[] 7 none)=none from rfl,bne_self_eq_false,AAE,if_false];refine AA2 ⟨_,rfl,AA2 ⟨_,rfl,?_⟩⟩;obtain⟨c2,hc2⟩:∃c2,(g3.update g1.objs.size (ABJ λ_=>vs.toArray)).get? g1.objs.size=some (seqObj "list" vs.toArray c2):=⟨_,ACY ho3 λ_=>vs.toArray⟩
  refine h g1.objs.size _ c2 (by lia) (λb o q=>?_) hc2
  have hb:b≠g1.objs.size:=AAN (by rw[hsz];exact ABs (AAF q))
  rw[ABt _ _ _ _ hb];exact k3 b o hb q
end
structure SrtOk(M:Mem)(xs:List D):Prop where
 len:xs.length<64
 ok:∀x∈xs,okP eqN x=true
 cm:∀x∈xs,∀y∈xs,iG M eqN x y=true
 kd:(∀x∈xs,∃z,x=.str z)\/(∀x∈xs,∃i,x=.int i)\/(∀x∈xs,∃z r,x=.tup (.str z::r))\/(∀x∈xs,∃i r,x=.tup (.int i::r))\/(∀x∈xs,∃z r,x=.tup (.tup z::r))
structure SrtG(M:Mem)(xs:List D):Prop where
 len:xs.length<64
 okd:∀x∈xs,okD M eqN x=true
 cm:∀x∈xs,∀y∈xs,iG M eqN x y=true
 kd:(∀x∈xs,∃z,x=.str z)\/(∀x∈xs,∃i,x=.int i)\/(∀x∈xs,∃z r,x=.tup (.str z::r))\/(∀x∈xs,∃i r,x=.tup (.int i::r))\/(∀x∈xs,∃z r,x=.tup (.tup z::r))
 od:∃en:D->List Int,∀a∈xs,∀b∈xs,ltD M eqN a b=decide (en a<en b)
def SrtOk.g(so:SrtOk M xs):SrtG M xs :=
 ⟨so.len,λx hx=>Ia M _ _ (so.ok x hx),so.cm,so.kd,enc eqN,λa ha b hb=>tV (so.ok a ha) (so.ok b hb) (so.cm a ha b hb)⟩
def Gz(M:Mem)(ys:List D):Prop:=ys.Pairwise λa b=>ltD M eqN b a=false
def jF:DRA:=λds M Q=>match ds with
 | [.ref n]=>∃xs,ar M n xs/\SrtG M xs/\∀ys,ys.Perm xs->Gz M ys->Q (.ref M.length) (M++[.lst ys])
 | _=>False
def Reps.perm{K:AA5}{ρ:List Addr}{H:Hp}{ds:List D}{vs:List V}(r:Reps K ρ H ds vs)(is:List Nat)(hi:∀i∈is,i<ds.length):Reps K ρ H (is.map λi=>ds.getD i .non) (is.map λi=>vs.getD i .non):=by
 induction is with
 | nil=>exact .nil
 | cons i is ih =>
  have h:=hi i AAG;obtain⟨v,e,rv⟩:=r.get (AA6 h);refine .cons ?_ (ih λj hj=>hi j (AA9 _ hj))
  show Rep K ρ H (ds.getD i .non) (vs.getD i .non);rw[AAL,AAL,e,AA6 h];exact rv
def aw.perm(r:aw vs us)(is:List Nat)(hi:∀i∈is,i<vs.length):aw (is.map λi=>vs.getD i .non) (is.map λi=>us.getD i .none):=by
 induction is with
 | nil=>exact .nil
 | cons i is ih =>
  have h:=hi i AAG;obtain⟨v,e,rv⟩:=iM r (AA6 h);refine .cons ?_ (ih λj hj=>hi j (AA9 _ hj))
  show aU (vs.getD i .non) (us.getD i .none);rw[AAL,AAL,e,AA6 h];exact rv
instance:Inhabited D:=⟨.non⟩
section
variable{X:Cx}{pins:List (Addr×Obj)}{σ:St}{H:Hp}{s:Shared}{ρ:List Addr}{M:Mem}
def Fv:∀(o:HO),cL P w H h a o->∃u,h.get? a=some u
 | .lst _,⟨_,_,_,_,e⟩=>⟨_,e⟩
 | .tup _,⟨_,_,_,o,e,_⟩=>⟨o,e⟩
 | .dK _,⟨_,_,_,_,_,_,_,e,_⟩=>⟨_,e⟩
 | .dT _,⟨_,_,_,_,o,_,_,e,_⟩=>⟨o,e⟩
 | .set _ _,x=>by obtain⟨o,_,_,_,e,_⟩:=x;exact⟨_,e⟩
 | .ins _ _ _,⟨_,_,_,e,_⟩=>⟨_,e⟩
 | .own _,x=>x
 | .xd _,⟨_,⟨_,_,_,e,_⟩,_⟩=>⟨_,e⟩
 | .rng _ _,⟨_,_,_,e⟩=>⟨_,e⟩
 | .frz _ _,⟨e,_⟩=>⟨_,e⟩
 | .tbl _,e=>⟨_,e⟩
 | .met _ _,e=>⟨_,e⟩
 | .ext _,⟨_,e,_⟩=>e
def HOk.none(x:HOk P w H h)(e:h.get? a=none):H a=none:=by
 cases q:H a with
 | none=>rfl
 | some o =>
  exfalso
  obtain⟨u,hu⟩:=Fv o (x a o q);rw[e]at hu;cases hu
def Fy(I:Inv X pins σ H s)(sm:Sim X.K ρ M H)(n:Nat)(A:Around)(hu:A.units+n<cLine):∀(ds es:List D) (vs ws:List V) (its jts:List Value),Reps X.K ρ H ds vs->aw vs its->Reps X.K ρ H es ws->aw ws jts->ds.all (okD M n)=true->es.all (okD M n)=true ->
  AM (eqD M n) (iG M n) ds es=true->LexAt A s its jts (tY (eqD M n) (ltD M n) ds es):=by
 intro ds;induction ds with
 | nil =>
  intro es vs ws its jts p1 q1 p2 q2 _ _ _;cases p1;cases q1
  cases p2 with
  | nil=>cases q2;exact .nn
  | cons _ _=>cases q2;exact .nc
 | cons d ds hi =>
  intro es vs ws its jts p1 q1 p2 q2 k1 k2 k3;cases p1 with
  | cons a1 p1 =>
   cases q1 with
   | cons b1 q1 =>
    cases p2 with
    | nil=>cases q2;exact .cn
    | @cons e _ es' _ a2 p2 =>
     cases q2 with
     | cons b2 q2 =>
      rw[ABT,AAW]at k1 k2;have he:=(my I sm n A d _ _ _ _ _ hu a1 b1 a2 b2 k1.1 k2.1).1;rw[tY];rw[AM]at k3;by_cases hq:eqD M n d e=true
      ·rw[hq]at he
       rw[if_pos hq]at k3 ⊢;exact .eq he (hi _ _ _ _ _ p1 q1 p2 q2 k1.2 k2.2 k3)
      ·have hq':=AB4.mpr hq
       rw[hq']at he;rw[if_neg hq]at k3 ⊢;exact .ne he (DB I sm n A _ _ _ _ _ _ hu a1 b1 a2 b2 k1.1 k2.1 k3)
end
section
variable{prog:Program}{w:World}{A:Around}{s:Shared}{b:Bool}{Q:Bool->Shared->Prop}
def CC(h:LexAt A s its jts k):∀(i:Nat),(b&&i==0)=false->(b&&i+1==0)=false->Q k s->KatLex prog w A b (decide (its.length<jts.length)) Q (its.zip jts) i s:=by
 have un:∀i:Nat,(b&&i+1==0)=false:=λi=>by cases b<;>simp
 induction h with
 | nn=>intro i _ _ q;exact q
 | nc=>intro i _ _ q;exact(show Q (decide (0<_+1)) s by rw[dT_ (Nat.succ_pos _)];exact q)
 | cn=>intro i _ _ q;exact(show Q (decide (_+1<0)) s by rw[dF_ (ABz _)];exact q)
 | @eq x y xs ys k he t ih =>
  intro i hb _ q;refine kat_cons (he prog w _ _ (kat_yes ?_));have:=ih (i+1) (un i) (un (i+1)) q;rw[show decide ((x::xs).length<(y::ys).length)=decide (xs.length<ys.length) by simp]
  exact this
 | @ne x y xs ys k he t =>
  intro i hb _ q;refine kat_cons (he prog w _ _ (kat_no ?_));rw[hb];exact kat_one _ _ (t prog w _ _ q)
def Ac(he:ACJ A s p q e)(hl:e=false->∀Q':Bool->Shared->Prop,Q' l s->wpAny (model prog w) A (oneLt' (b&&0==0) p q) Q' (λ_ _=>False) s)(ht:e=true->LexAt A s its jts k)(h:Q (if e=true then k else l) s) :
  KatLex prog w A b (decide ((p::its).length<(q::jts).length)) Q ((p::its).zip (q::jts)) 0 s:=by
 refine kat_cons (he prog w _ _ ?_);cases e with
 | true =>
  refine kat_yes ?_
  rw[show decide ((p::its).length<(q::jts).length)=decide (its.length<jts.length) by simp]
  exact CC (ht rfl) 1 (by cases b<;>rfl) (by cases b<;>rfl) h
 | false=>exact kat_no (hl rfl _ h)
end
section
variable{X:Cx}{pins:List (Addr×Obj)}{σ:St}{H:Hp}{s:Shared}{ρ:List Addr}{M:Mem}
def rB{M:Model}{h:Heap}{x:Str}{t:Tok}:Looks M h (typeOf (.str x t)) (.type "str"):=Looks.of_pure rfl
def rC{M:Model}{h:Heap}{x:Int}{t:Tok}:Looks M h (typeOf (.int x t)) (.type "int"):=Looks.of_pure rfl
def Reps.getD'(r:Reps X.K ρ H ds vs)(rr:aw vs its)(h:i<ds.length):∃v,Rep X.K ρ H (ds.getD i default) v/\aU v (its.getD i .none)/\ds.getD i default∈ds:=by
 obtain⟨v,e,rv⟩:=r.get (AA6 h);obtain⟨u,e',ru⟩:=iM rr e;refine⟨v,?_,?_,?_⟩
 ·rw[AAL,AA6 h];exact rv
 ·rw[AAL,e'];exact ru
 ·rw[AAL,AA6 h];exact ABA h
def Reps.mem(r:Reps X.K ρ H ds vs)(rr:aw vs its)(h:u∈its):∃d v,d∈ds/\Rep X.K ρ H d v/\aU v u:=by
 induction ds generalizing vs its with
 | nil=>cases r;cases rr;cases h
 | cons d0 ds ih =>
  cases r with
  | cons r1 r =>
   cases rr with
   | cons q1 q =>
    rcases(AAQ (a:=u)).mp h with rfl | h
    ·exact⟨_,_,AAG,r1,q1⟩
    ·obtain⟨d,v,h1,h2,h3⟩:=ih r q h
     exact⟨d,v,AA9 _ h1,h2,h3⟩
def ug(I:Inv X pins σ H s)(r:Reps X.K ρ H xs ws)(rr:aw ws its)(hx:∀x∈xs,∃f r,x=.tup (f::r)) :
  ∃fs,KatTups s.heap its fs/\fs.length=its.length/\∀u∈fs,∃d v,Rep X.K ρ H d v/\aU v u/\∃r,D.tup (d::r)∈xs:=by
 induction xs generalizing ws its with
 | nil=>cases r;cases rr;exact⟨[],.nil,rfl,λ_ z=>nomatch z⟩
 | cons d ds ih =>
  cases r with
  | cons r1 r =>
   cases rr with
   | cons q1 q =>
    obtain⟨fs,h1,h2,h3⟩:=ih r q λx hx'=>hx x (AA9 _ hx')
    obtain⟨f,bc,rfl⟩:=hx d AAG;cases r1 with
    | tup hq rs =>
     cases q1
     obtain⟨its,rv,pl,hz⟩:=I.tuple hq;cases rs with
     | cons a1 rs =>
      cases rv with
      | cons b1 rv =>
       obtain⟨o,ho,hc,n,hd⟩:=pl;refine⟨_::fs,.cons ho hc hd rfl h1,by simp[h2],λu hu=>?_⟩
       rcases AAQ.mp hu with rfl | hu
       ·exact⟨_,_,a1,b1,_,AAG⟩
       ·obtain⟨d,v,e1,e2,r',e3⟩:=h3 u hu
        exact⟨d,v,e1,e2,r',AA9 _ e3⟩
def ltc(M:Mem)(xs:List D)(i j:Nat):Bool:=ltD M eqN (xs.getD i default) (xs.getD j default)
def lG(I:Inv X pins σ H s)(sm:Sim X.K ρ M H){xs:List D}{ws:List V}{its:List Value}(so:SrtG M xs)(r:Reps X.K ρ H xs ws)(rr:aw ws its)(h2:2<=its.length){A:Around}(hu:A.units+eqN<cLine) :
  wpAny (model X.prog X.w) A (keyKind' its.toArray) (λκ s'=>s'=s/\∀i j (C:Bool->Shared->Prop),i<its.length->j<its.length->C (ltc M xs i j) s->kas_ask X.prog X.w A κ its i j C s) (λ_ _=>False) s:=by
 have lw:=r.length;have li:=rr.length;have le:xs.length=its.length:=by lia
 have tups:∀(b:Bool),(∀x∈xs,∃f r,x=.tup (f::r))->(∀(f g:D) (vf vg:V) (p q:Value) (r r':List D),D.tup (f::r)∈xs->D.tup (g::r')∈xs->Rep X.K ρ H f vf->aU vf p->Rep X.K ρ H g vg->aU vg q ->
   (eqD M 29 f g=false->∀Q':Bool->Shared->Prop,Q' (ltD M 29 f g) s->wpAny (model X.prog X.w) A (oneLt' (b&&0==0) p q) Q' (λ_ _=>False) s)) ->
   ∀i j (C:Bool->Shared->Prop),i<its.length->j<its.length->C (ltc M xs i j) s->kas_ask X.prog X.w A (tuples' b) its i j C s:=by
  intro b hx hone i j C hi hj hc;unfold kas_ask;obtain⟨v1,r1,e1,m1⟩:=r.getD' rr (show i<xs.length by lia)
  obtain⟨v2,r2,e2,m2⟩:=r.getD' rr (show j<xs.length by lia)
  unfold ltc at hc;have k1:=so.okd _ m1;have k2:=so.okd _ m2;have k3:=so.cm _ m1 _ m2;generalize xs.getD i default=x at *;generalize xs.getD j default=y at *;obtain⟨f,rf,rfl⟩:=hx _ m1;obtain⟨g,rg,rfl⟩:=hx _ m2;cases r1 with
  | tup hq rs =>
   cases r2 with
   | tup hq' rs' =>
    generalize its.getD i .none=u1 at *;generalize its.getD j .none=u2 at *;cases e1;cases e2
    obtain⟨as,ra,pa,_⟩:=I.tuple hq;obtain⟨bs,rb,pb,_⟩:=I.tuple hq';obtain⟨o,ho,_,n,hd⟩:=pa;obtain⟨o',ho',_,n',hd'⟩:=pb;refine kat_lt ho hd ho' hd' ?_
    cases rs with
    | cons a1 rs =>
     cases ra with
     | @cons _ p _ la b1 ra =>
      cases rs' with
      | cons a2 rs' =>
       cases rb with
       | @cons _ q _ lb b2 rb =>
        have hu':A.units+29<cLine:=by have:eqN=30:=rfl;lia
        have z1:okD M 29 f=true/\rf.all (okD M 29)=true:=by
         have:(f::rf).all (okD M 29)=true:=k1
         rwa [ABT,AAW]at this
        have z2:okD M 29 g=true/\rg.all (okD M 29)=true:=by
         have:(g::rg).all (okD M 29)=true:=k2
         rwa [ABT,AAW]at this
        have z3:(if eqD M 29 f g=true then AM (eqD M 29) (iG M 29) rf rg else iG M 29 f g)=true:=k3;have he:=(my I sm 29 A _ _ _ _ _ _ hu' a1 b1 a2 b2 z1.1 z2.1).1;have hc':C (if eqD M 29 f g=true then tY (eqD M 29) (ltD M 29) rf rg else ltD M 29 f g) s:=hc;cases hq3:eqD M 29 f g with
        | true =>
         rw[hq3]at he hc' z3;have:=Ac (prog:=X.prog) (w:=X.w) (b:=b) (Q:=C) (l:=true) he (λz=>nomatch z) (λ_=>Fy I sm 29 A hu' _ _ _ _ _ _ rs ra rs' rb z1.2 z2.2 z3) hc'
         simpa using this
        | false =>
         rw[hq3]at he hc';have:=Ac (prog:=X.prog) (w:=X.w) (b:=b) (Q:=C) (l:=ltD M 29 f g) (its:=la) (jts:=lb) (k:=true) he (λ_=>hone f g _ _ _ _ _ _ m1 m2 a1 b1 a2 b2 hq3) (λz=>nomatch z) hc'
         simpa using this
 have fin:∀(κ:SortKind),(∀i j (C:Bool->Shared->Prop),i<its.length->j<its.length->C (ltc M xs i j) s->kas_ask X.prog X.w A κ its i j C s)->(s=s/\∀i j (C:Bool->Shared->Prop),i<its.length->j<its.length->C (ltc M xs i j) s->kas_ask X.prog X.w A κ its i j C s):=λκ h=>⟨rfl,h⟩
 have eqn:A.units+29<cLine:=by have:eqN=30:=rfl;lia
 rcases so.kd with hk | hk | hk | hk | hk
 ·refine kas_kind (T:=.type "str") h2 (λu hu=>?_) (by decide) (by decide) (fin _ λi j C hi hj hc=>?_)
  ·obtain⟨d,v,m1,r1,e1⟩:=r.mem rr hu
   obtain⟨z,rfl⟩:=hk d m1;cases r1
   obtain⟨t,rfl⟩:=e1;exact rB
  ·unfold kas_ask
   obtain⟨v1,r1,e1,m1⟩:=r.getD' rr (show i<xs.length by lia)
   obtain⟨v2,r2,e2,m2⟩:=r.getD' rr (show j<xs.length by lia)
   unfold ltc at hc;obtain⟨z,hz⟩:=hk _ m1;obtain⟨z',hz'⟩:=hk _ m2;rw[hz]at r1 hc;rw[hz']at r2 hc;cases r1;cases r2
   obtain⟨t,h1⟩:=e1;obtain⟨t',h2⟩:=e2;rw[h1,h2];exact kas_lt_str hc
 ·refine kas_kind (T:=.type "int") h2 (λu hu=>?_) (by decide) (by decide) (fin _ λi j C hi hj hc=>?_)
  ·obtain⟨d,v,m1,r1,e1⟩:=r.mem rr hu
   obtain⟨z,rfl⟩:=hk d m1;cases r1
   obtain⟨t,rfl⟩:=e1;exact rC
  ·unfold kas_ask
   obtain⟨v1,r1,e1,m1⟩:=r.getD' rr (show i<xs.length by lia)
   obtain⟨v2,r2,e2,m2⟩:=r.getD' rr (show j<xs.length by lia)
   unfold ltc at hc;obtain⟨z,hz⟩:=hk _ m1;obtain⟨z',hz'⟩:=hk _ m2;rw[hz]at r1 hc;rw[hz']at r2 hc;cases r1;cases r2
   obtain⟨t,h1⟩:=e1;obtain⟨t',h2⟩:=e2;rw[h1,h2];exact kat_lt_int hc
 ·obtain⟨fs,t1,t2,t3⟩:=ug I r rr λx hx=>(hk x hx).elim λz ⟨r,e⟩=>⟨_,_,e⟩
  refine kat_kind (T:=.type "str") t1 (by lia) (λu hu=>?_) (by decide) (fin _ (tups _ (λx hx=>(hk x hx).elim λz ⟨r,e⟩=>⟨_,_,e⟩) λf g vf vg p q r r' m1 m2 r1 e1 r2 e2 hq Q' h=>?_))
  ·obtain⟨d,v,r1,e1,r',m1⟩:=t3 u hu
   obtain⟨z,r'',e⟩:=hk _ m1;cases e
   cases r1
   obtain⟨t,rfl⟩:=e1;exact rB
  ·obtain⟨z,_,e⟩:=hk _ m1
   cases e
   obtain⟨z',_,e'⟩:=hk _ m2;cases e'
   cases r1;cases r2
   obtain⟨t,rfl⟩:=e1;obtain⟨t',rfl⟩:=e2;exact oneLt_str h
 ·obtain⟨fs,t1,t2,t3⟩:=ug I r rr λx hx=>(hk x hx).elim λz ⟨r,e⟩=>⟨_,_,e⟩
  refine kat_kind (T:=.type "int") t1 (by lia) (λu hu=>?_) (by decide) (fin _ (tups _ (λx hx=>(hk x hx).elim λz ⟨r,e⟩=>⟨_,_,e⟩) λf g vf vg p q r r' m1 m2 r1 e1 r2 e2 hq Q' h=>?_))
  ·obtain⟨d,v,r1,e1,r',m1⟩:=t3 u hu
   obtain⟨z,r'',e⟩:=hk _ m1;cases e
   cases r1
   obtain⟨t,rfl⟩:=e1;exact rC
  ·obtain⟨z,_,e⟩:=hk _ m1
   cases e
   obtain⟨z',_,e'⟩:=hk _ m2;cases e'
   cases r1;cases r2
   obtain⟨t,rfl⟩:=e1;obtain⟨t',rfl⟩:=e2;exact oneLt_int h
 ·obtain⟨fs,t1,t2,t3⟩:=ug I r rr λx hx=>(hk x hx).elim λz ⟨r,e⟩=>⟨_,_,e⟩
  refine kat_kind (T:=.type "tuple") t1 (by lia) (λu hu=>?_) (by decide) (fin _ (tups _ (λx hx=>(hk x hx).elim λz ⟨r,e⟩=>⟨_,_,e⟩) λf g vf vg p q r r' m1 m2 r1 e1 r2 e2 hq Q' h=>?_))
  ·obtain⟨d,v,r1,e1,r',m1⟩:=t3 u hu
   obtain⟨z,r'',e⟩:=hk _ m1;cases e
   cases r1 with
   | tup hq rs =>
    cases e1
    obtain⟨_,_,pl,_⟩:=I.tuple hq;obtain⟨o,ho,hc,_⟩:=pl;rw[<-hc];exact(show Looks _ s.heap (typeOf (.ref _)) o.cls from(Looks.ld ho).andThen .now)
  ·have k1:okD M 29 f=true:=by
    have:(f::r).all (okD M 29)=true:=so.okd _ m1;rw[ABT,AAW]at this;exact this.1
   have k2:okD M 29 g=true:=by
    have:(g::r').all (okD M 29)=true:=so.okd _ m2;rw[ABT,AAW]at this;exact this.1
   have k3:(if eqD M 29 f g=true then AM (eqD M 29) (iG M 29) r r' else iG M 29 f g)=true:=so.cm _ m1 _ m2;rw[hq]at k3;exact kat_one _ _ (DB I sm 29 A _ _ _ _ _ _ eqn r1 e1 r2 e2 k1 k2 k3 _ _ _ _ h)
end
section
variable{X:Cx}{pins:List (Addr×Obj)}{σ:St}{H:Hp}{s:Shared}{ρ:List Addr}{M:Mem}
def Fk(so:SrtG M xs):(∀a∈xs,ltD M eqN a a=false)/\(∀a∈xs,∀b∈xs,∀d∈xs,ltD M eqN a b=true->ltD M eqN b d=true->ltD M eqN a d=true)/\∀a∈xs,∀b∈xs,∀d∈xs,ltD M eqN a d=true->ltD M eqN a b=true\/ltD M eqN b d=true:=by
 obtain⟨en,e⟩:=so.od;refine⟨λa ha=>?_,λa ha b hb d hd h1 h2=>?_,λa ha b hb d hd h=>?_⟩
 ·rw[e a ha a ha,dF_ (ABD _)]
 ·rw[e a ha b hb,decide_eq_true_eq]at h1
  rw[e b hb d hd,decide_eq_true_eq]at h2;rw[e a ha d hd,decide_eq_true_eq];exact List.lt_trans h1 h2
 ·rw[e a ha d hd,decide_eq_true_eq]at h
  rw[e a ha b hb,e b hb d hd,decide_eq_true_eq,decide_eq_true_eq];by_cases z:en a<en b
  ·exact .inl z
  ·have z':en b<=en a:=z
   exact .inr (List.lt_of_le_of_lt z' h)
theorem Bx{k:Nat}{l:Addr}{xs:List D}{ws:List V}{its:List Value}{R:VK}(hr:Room k X.A)(I:Inv X pins σ H s)(sm:Sim X.K ρ M H)(so:SrtG M xs)(r:Reps X.K ρ H xs ws)(rr:aw ws its)(hl:s.heap.IsList l its.toArray)(hz:ws.length<=sizeLine)(h2:2<=its.length)(h64:its.length<64)
  (hne:l≠X.env.locals) (kk:∀v H',((∀Q:DK,(∀ys,ys.Perm xs->Gz M ys->Q (.ref M.length) (M++[.lst ys]))->VQ X.K ρ H Q v H'))->R v H') :
  wpAny (model X.prog X.w) X.A (call (.builtin "sorted") [.ref l]) (EP X pins σ R) X.xe s:=by
 obtain⟨m,hn,hm⟩:=I.loc;have lw:=r.length;have li:=rr.length;obtain⟨ol,hol,_⟩:=id hl;have mem:∀a o,(a,o)∈[]++(l,ol)::Att.ledger s.heap X.env.locals l↔a≠X.env.locals/\s.heap.get? a=some o:=λa o=>by
  rw[AAl,AAQ,Att.mem_ledger];constructor
  ·rintro(h | ⟨h1,_,h3⟩)
   ·cases h;exact⟨hne,hol⟩
   ·exact⟨h1,h3⟩
  ·rintro⟨h1,h2⟩
   by_cases hal:a=l
   ·subst hal
    rw[hol]at h2;cases h2;exact .inl rfl
   ·exact .inr ⟨h1,hal,h2⟩
 refine kat_sorted (Att.fr_all hn) (Att.news_ledger hne hol) hl h2 h64 λD e1 h' F' N' lt=>?_
 have kp:∀b u,b≠X.env.locals->s.heap.get? b=some u->h'.get? b=some u:=λb u hb e=>(N' (b,u) (AA9 _ ((mem b u).mpr ⟨hb,e⟩))).1
 have hDL:D≠X.env.locals:=(N' _ AAG).2.1;have hD:s.heap.get? D=none:=by
  cases q:s.heap.get? D with
  | none=>rfl
  | some o=>exact absurd (lt (D,o) ((mem D o).mpr ⟨hDL,q⟩)) (AAm _)
 have I':Inv X pins σ H { s with heap:=h' }:=I.keptF (t':=s.toks) kp hn F'.ns
 have hu:X.A.in1.in1.units+eqN<cLine:=by
  have:=hr.un;have:eqN=30:=rfl;show X.A.units+1+1+eqN<cLine;lia
 refine ABF (lG I' sm so r rr h2 hu) (λκ s' hk=>?_) λ_ _ x=>x
 obtain⟨rfl,hask⟩:=hk;refine Srt.wp_run (n:=its.length) (c:=λi j=>if i<xs.length then(if j<xs.length then ltD M eqN (xs.getD i default) (xs.getD j default)else true)else false) (λi j C hi hj hc=>?_) _ (Srt.sort_bd (by lia)).1 ?_
 ·refine hask i j C hi hj ?_
  rw[if_pos (by lia),if_pos (by lia)]at hc
  exact hc
 ·have hent:=Srt.All.run (c:=λi j=>if i<xs.length then(if j<xs.length then ltD M eqN (xs.getD i default) (xs.getD j default)else true)else false) _ (Srt.sort_bd (n:=its.length) (by lia)).2
  obtain⟨o1,o2,o3⟩:=Fk so;have hsl:=Srt.sort_list xs (by lia) o1 o2 o3
  try dsimp only at hsl
  rw[show xs.length=its.length by lia]at hsl hent ⊢
  generalize Srt.run _ (ADz its.length)=p at hent hsl ⊢;have hi:∀i∈p.toList,i<xs.length:=λi h=>by
   have:=hent.mem_iff.mp h;rw[AAz]at this;lia
  refine KasFin.intro F' N' (UpdF.head λq hq=>AAN (lt q hq)) λh2 c F2 N2=>?_
  have r':=r.perm p.toList hi;have rr':=rr.perm p.toList (λi h=>by have:=hi i h;lia)
  have hD':H D=none:=HOk.none I.hok hD;refine⟨.ref D,_,I.laidF (t':=s.toks) (o:=.lst (p.toList.map λi=>ws.getD i .non)) (λb u hb e=>(N2 (b,u) (AA9 _ ((mem b u).mpr ⟨hb,e⟩))).1) hn F2.ns hD hD' ⟨?_,_,c,rr',(N2 _ AAG).1⟩,rfl,
   kk _ _ λQ hQ=>VQ.laidL sm .refl r' hD' (hQ _ hsl.1 hsl.2)⟩
  rw[AA4];have:=hsl.1.length_eq;rw[AA4]at this;lia
end
def Inv.sqL_ne(I:Inv X pins σ H s)(h:SqL X.K H a xs):a≠X.env.locals:=by
 rcases h with h | ⟨o,its,n,hk,_⟩
 ·rcases h with h | ⟨_,h⟩
  ·exact ad h I.free
  ·exact ad h I.free
 ·have:=AAF (I.mod.kin a o hk)
  exact AAN (AAd this (AAq I.ok.bsz I.ok.above))
section
variable{X:Cx}
def AR(hr:Room k X.A):mX X (.builtin "sorted") jF:=by
 intro pins s σ H vs us R I rv ⟨ds,M,ρ,Q,sm,rs,q,kk⟩;unfold jF at q;split at q
 ·obtain⟨xs,hL,so,q⟩:=q
  cases rs with
  | cons r1 rs =>
   cases rs
   obtain⟨u,rfl,e1⟩:=aw.one rv;cases r1 with
   | ref e =>
    cases e1
    obtain⟨ws,hq,r⟩:=ar.seq sm hL e;obtain⟨its,rr,pl,hz⟩:=I.list hq;have lw:=r.length;have li:=rr.length;by_cases h2:its.length<2
    ·refine qO pl.isList h2 λD h' n hD hk ho=>?_
     refine⟨.ref D,_,I.laid (t':=s.toks) (o:=.lst ws) hk hD ⟨hz,its,n,rr,ho⟩,rfl,kk _ _ (VQ.laidL sm .refl r (I.hok.fresh hD) (q xs (ACm _) ?_))⟩;unfold Gz;match xs,(show xs.length<2 by lia) with
     | [],_=>exact AD3
     | [x],_=>exact ADe _ _
     | _::_::_,hx=>simp at hx;lia
    ·have h2':2<=its.length:=by lia
     have h64:its.length<64:=by have:=so.len;lia
     exact Bx hr I sm so r rr pl.isList hz h2' h64 (I.sqL_ne hq) λv H' x=>kk v H' (x Q q)
 ·exact q.elim
end
structure ZA(z TI TO i1 i2:Addr)(f1 f2:List Addr):Prop where
 nd:[z,TI,TO,i1,i2].Nodup
 z1:z∉f1
 o1:TO∉f1
 y1:i2∉f1
 z2:z∉f2
 o2:TO∉f2
 x2:i1∉f2
section
variable{X:Cx}{pins:List (Addr×Obj)}{σ:St}{H:Hp}{s:Shared}{h':Heap}
def Inv.turnedL{t':Nat}{fp:List Addr}(I:Inv X pins σ H s)(hf:∀b∈fp,xY X pins H b)(k:∀b o,b∉fp->s.heap.get? b=some o->h'.get? b=some o):Inv X pins σ H { s with heap:=h',toks:=t' }:=by
 have nfp:∀b u,H b=some u->b∉fp:=λb u e z=>by rw[(hf b z).1]at e;cases e
 refine I.step (g':=s.gens) (d':=s.drawn) (ch:=fp) (λb hb=>⟨(hf b hb).2.2.2.1,(hf b hb).2.1,(hf b hb).2.2.2.2.1,(hf b hb).2.2.2.2.2⟩) (λb o _ _ hc e _=>k b o hc e) (λb o _ _ hc e _=>⟨o.slots,k b o hc e⟩) (λ_ _ _ _ n=>n)
  (λb o hc e=>⟨o,k b o hc e⟩) (λ_ _ e=>e) (λ_ _ _ e=>e) (λb ps e=>⟨#[],by rw[e];simp⟩) (λm hm=>?_) (λb u e=>?_) I.bare
 ·obtain⟨o,es,ep,ho,r⟩:=hm
  exact⟨o,es,ep,k _ o (λz=>(hf _ z).2.1 rfl) ho,r⟩
 ·refine(I.hok b u e).stay (λc v hc q=>k c v ?_ q) (λ_ q=>q) λ_ _ q=>q
  rcases hc with rfl | z
  ·exact nfp _ u e
  ·exact nfp _ _ z
end
def zipD(xs ys:List D):List D:=(xs.zip ys).map λp=>.tup [p.1,p.2]
def RowAt(M:Mem)(x:D)(xs:List D)(ok:Mem->Prop):Prop:=match x with
 | .tup ds=>xs=ds/\ok=λ_=>True
 | .ref n=>ar M n xs/\ok=λM=>ar M n xs
 | _=>False
section
variable{X:Cx}
def lK(z:Str):DRA:=λds M Q=>match ds with
 | [.str y]=>Q (.bl (AER z y)) M
 | _=>False
def zA:MtR X "str.startswith" (Cl X.K lK):=by
 intro pins s σ H x xs v us R I rx rs ⟨z,ds,M,ρ,Q,ez,sm,rr,q,k⟩;subst ez;obtain⟨t,rfl⟩:=rx;unfold lK at q;split at q
 ·first | have hzz:=Reps.inv_cons rr | have hzz:=aw.inv_cons rr
  clear rr;obtain⟨_,_,rfl,r1,rr⟩:=hzz;cases rr
  cases r1
  obtain⟨u,rfl,t',rfl⟩:=aw.one rs;exact PySem.SC.startswith ⟨.bl _,H,I,rfl,k _ H (VQ.now sm (.bl _) q)⟩
 ·exact q.elim
def qS(z:Str):DRA:=λds M Q=>match ds with
 | [.str y]=>(y.length≠0/\z.length<=sizeLine/\(ABp z y).length<=sizeLine)/\Q (.ref M.length) (M++[.lst ((ABp z y).map .str)])
 | _=>False
def qd:∀(tk:Nat) (xs:List Str),aw (xs.map V.str) (strsFrom tk xs)
 | _,[]=>.nil
 | tk,x::xs=>.cons ⟨_,rfl⟩ (qd (tk+1) xs)
def qR{K:AA5}{ρ:List Addr}{H:Hp}:∀xs:List Str,Reps K ρ H (xs.map D.str) (xs.map V.str)
 | []=>.nil
 | x::xs=>.cons (.str x) (qR xs)
def Cg:MtR X "str.split" (Cl X.K qS):=by
 intro pins s σ H x xs v us R I rx rs ⟨z,ds,M,ρ,Q,ez,sm,rr,q,k⟩;subst ez;obtain⟨t,rfl⟩:=rx;unfold qS at q;split at q
 ·rename_i y
  obtain⟨⟨hy,hz,hn⟩,q⟩:=q;first | have hzz:=Reps.inv_cons rr | have hzz:=aw.inv_cons rr
  clear rr;obtain⟨_,_,rfl,r1,rr⟩:=hzz;cases rr
  cases r1
  obtain⟨u,rfl,t',rfl⟩:=aw.one rs;have fin:∀(parts:List Str) (us:List Value) (tk:Nat),ABp z y=parts->aw (parts.map V.str) us->EP X pins σ R (.ref s.heap.objs.size) { s with toks:=tk,heap:=s.heap.push { cls:=.type "list",data:=.seq us.toArray } }:=λparts us tk e r=>by
   subst e;exact⟨.ref _,_,I.laid (t':=tk) (o:=.lst ((ABp z y).map V.str)) (λb ob q=>AA3 _ q) (AA8 _) ⟨by rw[AA4];exact hn,us,0,r,AAA _ rfl⟩,rfl,k _ _ (VQ.laidL sm .refl (qR _) (I.hok.fresh (AA8 _)) q)⟩
  have hy':(y.length==0)=false:=by simpa using hy
  cases h1:(decide (z.length<y.length)||decide (ABN z<ABN y))
  ·cases hf:(ADb z y 0 z.length (z.length+1)).isEmpty
   ·have e:ABp z y=Builtin.Str.partsBetween z (ADb z y 0 z.length (z.length+1)) y.length:=by
     unfold ABp;rw[h1,hf];rfl
    exact call_meets F.slot_str_split (typeIs_str _ _ _) F.entry_str_split (F.args_str_split_2 _ _) (meets_str_split_sep z y t t' h1 hy' hf hz (by rw[<-e];exact hn)) (fin _ _ _ e (qd _ _))
   ·have e:ABp z y=[z]:=by unfold ABp;rw[h1,hf];rfl
    exact call_meets F.slot_str_split (typeIs_str _ _ _) F.entry_str_split (F.args_str_split_2 _ _) (meets_str_split_not_found z y t t' h1 hy' hf) (fin _ [.str z t] s.toks e (.cons ⟨_,rfl⟩ .nil))
  ·have e:ABp z y=[z]:=by unfold ABp;rw[h1];rfl
   exact call_meets F.slot_str_split (typeIs_str _ _ _) F.entry_str_split (F.args_str_split_2 _ _) (meets_str_split_cannot_occur z y t t' h1) (fin _ [.str z t] s.toks e (.cons ⟨_,rfl⟩ .nil))
 ·exact q.elim
end
section
variable{prog:Program}{w:World}{A:Around}{E:Value->Shared->Prop}{s:Shared}
def tW{D:Addr}{vs:List Value}{n:Nat}{Q:Value->Shared->Prop}(ho:s.heap.get? D=some (seqObj "list" vs.toArray n))(h2:vs.length<2)
  (h:∀h' c,(∀b o,b≠D->s.heap.get? b=some o->h'.get? b=some o)->h'.get? D=some (seqObj "list" vs.toArray c)->Q .none { s with heap:=h' }):wpAny (model prog w) A (call (.builtin "list.sort") [.ref D]) Q E s:=by
 have few:vs.length<=sizeLine:=by rw[ABr];lia
 refine AAw slot_list_sort (⟨_,ho,rfl⟩) entry_list_sort ?_ (args_list_sort (.ref D));rw[list_sort_plain];refine AA1 (AE4 ho rfl (AA1 (AD8 ho rfl ?_ (by rw[AAC];exact few) (AAX _))))
 obtain⟨e1,ho1⟩:∃e1,(s.heap.update D (ABJ λ_=>(#[]:Array Value))).get? D=some (seqObj "list" #[] e1):=⟨_,ACY ho λ_=>#[]⟩
 refine AA1 (seqEpoch_at ho1 rfl (AA1 (wpAny_newTuple (AA1 (AD7 (AAr ?_) (AAX _))) few)));dsimp only;have hv2:vs.toArray.size<2:=by rw[AAC];exact h2
 rw[if_pos hv2,if_pos hv2];refine AA1 (AA2 ?_);rw[StateT.run_pure];refine AA1 (AA2 ?_);dsimp only;generalize hg3:((s.heap.update D (ABJ λ_=>(#[]:Array Value))).push (seqObj "tuple" vs.toArray 0)).push (seqObj "list" #[] 0)=g3
 have ho3:g3.get? D=some (seqObj "list" #[] e1):=by rw[<-hg3];exact AA3 _ (AA3 _ ho1)
 have k3:∀b o,b≠D->s.heap.get? b=some o->g3.get? b=some o:=λb o hb q=>by
  rw[<-hg3];refine AA3 _ (AA3 _ ?_);rw[ABt _ _ _ _ hb];exact q
 refine AA1 (seqEpoch_at ho3 rfl ?_);have eo:∀us:List Value,us.length<2->(us.toArray.zip us.toArray).map (·.2)=us.toArray:=λus hu=>by
  match us,hu with
  | [],_=>simp
  | [v],_=>simp
  | _::_::_,hu=>simp at hu;lia
 have eout:(arrOf (SortSt.mk' general' (vs.toArray.zip vs.toArray) #[] 7 none)).map (·.2)=vs.toArray:=eo vs h2;rw[eout];refine AA1 (AD8 ho3 rfl ?_ (AAX _) (by rw[AAC];exact Nat.le_succ_of_le few))
 simp only[show failedOf (SortSt.mk' general' (vs.toArray.zip vs.toArray) #[] 7 none)=none from rfl,bne_self_eq_false,AAE,if_false];obtain⟨c2,hc2⟩:∃c2,(g3.update D (ABJ λ_=>vs.toArray)).get? D=some (seqObj "list" vs.toArray c2):=⟨_,ACY ho3 λ_=>vs.toArray⟩
 refine AA2 ⟨_,rfl,h _ c2 (λb o hb q=>?_) hc2⟩
 rw[ABt _ _ _ _ hb];exact k3 b o hb q
end
section
variable{X:Cx}{pins:List (Addr×Obj)}{σ:St}{H:Hp}{s:Shared}{ρ:List Addr}{M:Mem}
def yS{k:Nat}{D:Addr}{xs:List L2.D}{ws:List V}{its:List Value}{R:VK}{h1:Heap}{tk n:Nat}{m:Str->Option Value}{A:Around}{E:Value->Shared->Prop}(hr:Room k X.A)(hA:A.units<=X.A.units+4)(I:Inv X pins σ H s)(sm:Sim X.K ρ M H)(so:SrtG M xs)(r:Reps X.K ρ H xs ws)(rr:aw ws its)
  (hn:s.heap.Ns X.env.locals m) (hn1:h1.Ns X.env.locals m) (kp1:∀b u,b≠X.env.locals->s.heap.get? b=some u->h1.get? b=some u) (hD:s.heap.get? D=none) (hne:D≠X.env.locals) (ho:h1.get? D=some (seqObj "list" its.toArray n))
  (kk:∀v H',((∀Q:DK,(∀ys,ys.Perm xs->Gz M ys->Q (.ref M.length) (M++[.lst ys]))->VQ X.K ρ H Q v H'))->R v H') :
  wpAny (model X.prog X.w) A (call (.builtin "list.sort") [.ref D]) (λ_ s'=>EP X pins σ R (.ref D) s') E { s with heap:=h1,toks:=tk }:=by
 have lw:=r.length;have li:=rr.length;have l64:=so.len;have hH:H D=none:=HOk.none I.hok hD;have neD:∀b u,s.heap.get? b=some u->b≠D:=λb u e q=>by subst q;rw[hD]at e;cases e
 by_cases h2:its.length<2
 ·refine tW ho h2 λh' c kp' ho'=>?_
  have hn':h'.Ns X.env.locals m:=by
   obtain⟨o,es,ep,e,bc⟩:=hn1;exact⟨o,es,ep,kp' _ _ (ABM hne) e,bc⟩
  refine⟨.ref D,_,I.laidF (t':=tk) (o:=.lst ws) (λb u hb e=>kp' b u (neD b u e) (kp1 b u hb e)) hn hn' hD hH ⟨by rw[ABr];lia,its,c,rr,ho'⟩,rfl,kk _ _ λQ hQ=>VQ.laidL sm .refl r hH (hQ xs (ACm _) ?_)⟩
  unfold Gz;match xs,(show xs.length<2 by lia) with
  | [],_=>exact AD3
  | [x],_=>exact ADe _ _
  | _::_::_,hx=>simp at hx;lia
 ·have h2':2<=its.length:=by lia
  have mem:∀a o,(a,o)∈Att.ledger h1 X.env.locals D↔a≠X.env.locals/\a≠D/\h1.get? a=some o:=λa o=>Att.mem_ledger
  have U:UpdF D (seqObj "list" its.toArray n) ([]++(D,seqObj "list" its.toArray n)::Att.ledger h1 X.env.locals D) λo'=>(D,o')::Att.ledger h1 X.env.locals D:=UpdF.head λp hp=>((mem p.1 p.2).mp hp).2.1
  refine kat_lsort (s:={ s with heap:=h1,toks:=tk }) (vs:=its) (Att.fr_all hn1) (Att.news_ledger hne ho) U rfl h2' (by lia) λe1 h' F' N'=>?_
  have kp:∀b u,b≠X.env.locals->s.heap.get? b=some u->h'.get? b=some u:=λb u hb e=>(N' (b,u) (AA9 _ ((mem b u).mpr ⟨hb,neD b u e,kp1 b u hb e⟩))).1
  have I':Inv X pins σ H { s with heap:=h',toks:=tk }:=I.keptF (t':=tk) kp hn F'.ns
  have hu:A.in1.units+eqN<cLine:=by
   have:=hr.un;have:eqN=30:=rfl;show A.units+1+eqN<cLine;lia
  refine ABF (lG I' sm so r rr h2' hu) (λκ s' hk=>?_) λ_ _ x=>x
  obtain⟨rfl,hask⟩:=hk;refine Srt.wp_run (n:=its.length) (c:=λi j=>if i<xs.length then(if j<xs.length then ltD M eqN (xs.getD i default) (xs.getD j default)else true)else false) (λi j C hi hj hc=>?_) _ (Srt.sort_bd (by lia)).1 ?_
  ·refine hask i j C hi hj ?_
   rw[if_pos (by lia),if_pos (by lia)]at hc
   exact hc
  ·have hent:=Srt.All.run (c:=λi j=>if i<xs.length then(if j<xs.length then ltD M eqN (xs.getD i default) (xs.getD j default)else true)else false) _ (Srt.sort_bd (n:=its.length) (by lia)).2
   obtain⟨o1,o2,o3⟩:=Fk so;have hsl:=Srt.sort_list xs (by lia) o1 o2 o3
   try dsimp only at hsl
   rw[show xs.length=its.length by lia]at hsl hent ⊢
   generalize Srt.run _ (ADz its.length)=p at hent hsl ⊢;have hi:∀i∈p.toList,i<xs.length:=λi h=>by
    have:=hent.mem_iff.mp h;rw[AAz]at this;lia
   refine KasFin.intro F' N' (UpdF.head λq hq=>((mem q.1 q.2).mp hq).2.1) λh2 c F2 N2=>?_
   have r':=r.perm p.toList hi;have rr':=rr.perm p.toList (λi h=>by have:=hi i h;lia)
   refine⟨.ref D,_,I.laidF (t':=tk) (o:=.lst (p.toList.map λi=>ws.getD i .non)) (λb u hb e=>(N2 (b,u) (AA9 _ ((mem b u).mpr ⟨hb,neD b u e,kp1 b u hb e⟩))).1) hn F2.ns hD hH ⟨?_,_,c,rr',(N2 _ AAG).1⟩,rfl,
    kk _ _ λQ hQ=>VQ.laidL sm .refl r' hH (hQ _ hsl.1 hsl.2)⟩
   rw[AA4];have:=hsl.1.length_eq;rw[AA4]at this;rw[ABr];lia
end
section
variable{K:AA5}{ρ:List Addr}{H:Hp}{M:Mem}
def Sim.laidM(S:Sim K ρ M H)(hp:H p=none)(ok:xX K (ρ++[p]) (upd H p o) p mo):Sim K (ρ++[p]) (M++[mo]) (upd H p o):=by
 have g:Grow K ρ H (ρ++[p]) (upd H p o):=Grow.laidR hp;have old:∀(n:Nat),ρ[n]?=some p->isK M[n]?:=λn e=>by
  rcases S.tracked e with⟨o,q⟩ | q
  ·rw[hp]at q;cases q
  ·exact q
 refine⟨λn m a hnm e1 e2=>?_,by rw[AAB,AAB,S.len];rfl,λn a mo' e1 e2=>?_⟩
 ·rcases aY e1 with f1 | ⟨f1,g1⟩
  ·rcases aY e2 with f2 | ⟨f2,g2⟩
   ·exact(S.nd n m a hnm f1 f2).elim (λz=>.inl z.more) λz=>.inr z.more
   ·subst g2
    exact .inl (old n f1).more
  ·rcases aY e2 with f2 | ⟨f2,g2⟩
   ·subst g1
    exact .inr (old m f2).more
   ·exact absurd (f1.trans f2.symm) hnm
 ·rcases aY e1 with f1 | ⟨f1,g1⟩
  ·have hn:n<M.length:=by rw[<-S.len];exact(AA7.mp f1).1
   rw[AAP hn]at e2;exact(S.obj n a mo' f1 e2).grow g (S.keeps hp f1 e2)
  ·subst g1 f1
   rw[S.len,AAh (AA8 _),ADT]at e2;simp at e2;subst e2;exact ok
def SqT.writtenD(hp:H p=some (.dK kv))(h:SqT K H a xs):SqT K (upd H p o) a xs:=by
 rcases h with h | h
 ·rcases h with h | ⟨ob,h⟩
  ·exact .inl (.inl (by rw[ah (xq h hp (by intro z;cases z))];exact h))
  ·exact .inl (.inr ⟨ob,by rw[ah (xq h hp (by intro z;cases z))];exact h⟩)
 ·exact .inr h
def Sim.writeD(S:Sim K ρ M H)(e1:ρ[n]?=some a)(hM:M[n]?=some (.dct kvs))(hH:H a=some (.dK kv))(r:Reps K ρ H (kvs'.map (·.2)) vs') :
  Sim K ρ (M.set n (.dct kvs')) (upd H a (.dK (kK (kvs'.map (·.1)) vs')))/\Grow K ρ H ρ (upd H a (.dK (kK (kvs'.map (·.1)) vs'))):=by
 have g:Grow K ρ H ρ (upd H a (.dK (kK (kvs'.map (·.1)) vs'))):=⟨ACX,λ_ _ h=>SqT.writtenD hH h⟩
 have hk:∀m,m≠n->(M.set n (.dct kvs'))[m]?=M[m]?:=λm hm=>AAs (ABM hm)
 have notK:¬isK M[n]?:=λ⟨_,z⟩=>by rw[hM]at z;cases z
 refine⟨⟨λm m' b hne f1 f2=>?_,by rw[AB0];exact S.len,λm b mo f1 f2=>?_⟩,g⟩
 ·have q:=S.nd m m' b hne f1 f2
  by_cases h1:m=n
  ·subst h1
   rw[hk m' (ABM hne)];exact .inr (q.resolve_left notK)
  ·rw[hk m h1]
   by_cases h2:m'=n
   ·subst h2
    exact .inl (q.resolve_right notK)
   ·rw[hk m' h2]
    exact q
 by_cases hm:m=n
 ·subst hm
  have hb:b=a:=AAM (f1.symm.trans e1);subst hb;rw[AAo (by rw[<-S.len];exact(AA7.mp e1).1)]at f2
  cases f2
  exact⟨vs',aJ,r.grow g⟩
 ·rw[hk m hm]at f2
  by_cases hb:b=a
  ·subst hb
   have q':=(S.nd m n b hm f1 e1).resolve_right notK;rw[f2]at q';exact(S.obj m b mo f1 f2).grow g (.inr q')
  ·exact(S.obj m b mo f1 f2).grow g (.inl (ah hb))
def gx(kvs:List (Str×D))(k:Str):Option D:=(kvs.find? λp=>decide (p.1=k)).map (·.2)
def pU(kvs:List (Str×D))(k:Str)(d:D):List (Str×D):=if (kvs.any λp=>decide (p.1=k))=true then kvs.map (λp=>if p.1=k then(p.1,d)else p)else kvs++[(k,d)]
def FL(a b:Str):decide ((ABY a:Key)=ABY b)=decide (a=b):=DX a b
def kF:∀{kvs:List (Str×D)}{vs:List V},Reps K ρ H (kvs.map (·.2)) vs->gx kvs k=some d->∃v,yf (kK (kvs.map (·.1)) vs) (ABY k)=some v/\Rep K ρ H d v
 | [],_,_,e=>by simp[gx]at e
 | (k',d')::kvs,_,.cons h t,e=>by
  by_cases q:k'=k
  ·subst q
   have:d'=d:=by simpa [gx]using e
   subst this;exact⟨_,by simp[kK,yf],h⟩
  ·have e':gx kvs k=some d:=by simpa [gx,ABV,q]using e
   obtain⟨v,h1,h2⟩:=kF t e';refine⟨v,?_,h2⟩;have:¬(ABY k':Key)=ABY k:=λz=>q (Sum.inr.inj z)
   simpa [kK,yf,ABV,this]using h1
def wL:∀{kvs:List (Str×D)}{vs:List V},Reps K ρ H (kvs.map (·.2)) vs->((kK (kvs.map (·.1)) vs).any λkv=>decide (kv.1=ABY k))=kvs.any λp=>decide (p.1=k)
 | [],_,_=>rfl
 | (k',d')::kvs,_,.cons h t=>by
  have ih:=wL (k:=k) t;show (decide ((ABY k':Key)=ABY k)||(kK (kvs.map (·.1)) _).any _)=(decide (k'=k)||kvs.any _);rw[ih,FL]
def vY(hd:Rep K ρ H d v):∀{kvs:List (Str×D)}{vs:List V},Reps K ρ H (kvs.map (·.2)) vs->∃vs',(kK (kvs.map (·.1)) vs).map (λkv=>if kv.1=ABY k then(kv.1,v)else kv)=kK ((kvs.map λp=>if p.1=k then(p.1,d)else p).map (·.1)) vs'/\Reps K ρ H ((kvs.map λp=>if p.1=k then(p.1,d)else p).map (·.2)) vs'
 | [],_,.nil=>⟨[],rfl,.nil⟩
 | (k',d')::kvs,_,.cons (v:=v') h t=>by
  obtain⟨vs',e,r⟩:=vY (k:=k) hd t;by_cases q:k'=k
  ·subst q
   refine⟨v::vs',?_,?_⟩
   ·simp only[AAf,if_true,kK,AC6]at e ⊢
    rw[e]
   ·simp only[AAf,if_true]
    exact .cons hd r
  ·have q':¬(ABY k':Key)=ABY k:=λz=>q (Sum.inr.inj z)
   refine⟨v'::vs',?_,?_⟩
   ·simp only[AAf,if_neg q,if_neg q',kK,AC6]at e ⊢
    rw[e]
   ·simp only[AAf,if_neg q]
    exact .cons h r
def qP:∀{kvs:List (Str×D)}{vs:List V},Reps K ρ H (kvs.map (·.2)) vs->kK (kvs.map (·.1)) vs++[(ABY k,v)]=kK (kvs.map (·.1)++[k]) (vs++[v])
 | [],_,.nil=>rfl
 | (k',d')::kvs,_,.cons h t=>by
  have:=qP (k:=k) (v:=v) t;simp only[AAf,kK,AC6,AE8]at this ⊢;rw[this]
def ET(hd:Rep K ρ H d v)(r:Reps K ρ H (kvs.map (·.2)) vs):∃vs',putK (kK (kvs.map (·.1)) vs) (ABY k) v=kK ((pU kvs k d).map (·.1)) vs'/\Reps K ρ H ((pU kvs k d).map (·.2)) vs':=by
 unfold putK pU;rw[wL r];by_cases q:(kvs.any λp=>decide (p.1=k))=true
 ·rw[if_pos q,if_pos q]
  exact vY hd r
 ·rw[if_neg q,if_neg q]
  refine⟨vs++[v],?_,?_⟩
  ·rw[qP r,AB1]
   rfl
  ·rw[AB1]
   exact r.append (.cons hd .nil)
end
section
variable{X:Cx}{o i value:Expr}{td ty tv:DTE}{pos pos':Pos}
def De:DTE:=λ_ M Q=>Q (.ref M.length) (M++[.dct []])
def JB:DE X (.Dict [] [] pos) De:=by
 refine PE.imp BS λσ H R ⟨S,M,ρ,Q,s,sr,q,k⟩=>λp hp=>?_
 have q':Q (.ref M.length) (M++[.dct []]):=q;exact k _ _ ⟨.ref M.length,M++[.dct []],ρ++[p],s.laidM (mo:=.dct []) hp ⟨[],aJ,.nil⟩,Grow.laidR hp,.ref s.last,q'⟩
end
structure HGs(X:Cx)(es:List Expr)(t:Et):Prop where
 ok:DGs X es t
section
variable{X:Cx}{e a b c o i tg:Expr}{es bc:List Expr}{te ta tb tc to ti:DTE}{t:DTA}{pos p p2 pos':Pos}{x:Str}{k:Nat}{g:DTG}{u:Et}{name:Str}{apos cpos:Pos}
def zY:HGs X [] mU:=⟨Gf⟩
def wk(h1:HG X e g)(h2:HGs X es u)(hs:(assignEach (e::es) X.env).map (·.2)=assign e X.env::(assignEach es X.env).map (·.2):=by kernel_rfl):HGs X (e::es) (bX g u):=⟨CZ h1.ok h2.ok hs⟩
def DR(h:HGs X es u)(hc:X.calm=true:=by kernel_rfl)(hn:(assignEach es X.env).length=n:=by kernel_rfl)(hst:(assignEach es X.env).findIdx? (·.1)=none:=by kernel_rfl):HG X (.Tuple es j pos) (mT n u):=⟨Ju h.ok hc hn hst⟩
def DU(ho:HE X o to)(hi:HE X i ti)
  (ha:∀v,assign (.Subscript o i pos) X.env v=(do
   let ov <-holding [v] (eval o X.env)
   let iv <-holding [v,ov] (eval i X.env)
   standAt pos
   holding [v,ov,iv] (setItem ov iv v)
   release [v,ov,iv] []):=by intro _;kernel_rfl):HG X (.Subscript o i pos) (Da to ti):=⟨Jv ho.ok hi.ok ha⟩
def wf(he:HE X e te)(hg:HG X tg g)(hs:swapsWithSole [tg] e pos.line X.env=pure false:=by kernel_rfl)(hw:swappedStores [tg] e X.env=pure none:=by kernel_rfl)
  (h1:(assignEach [tg] X.env).map (·.2)=[assign tg X.env]:=by kernel_rfl):HS X (.Assign [tg] e pos) (JE te g):=⟨Jr he.ok hg.ok hs hw h1⟩
def As:HOp X (binaryOp .Add) bv:=⟨Fu⟩
def wy:HC X (.type "tuple") je:=⟨Dg⟩
def rV:HMs X "startswith" lK:=⟨_,PySem.F.slot_str_startswith,PySem.F.type_str_startswith,zA⟩
def wx:HMs X "split" qS:=⟨_,PySem.F.slot_str_split,PySem.F.type_str_split,Cg⟩
def rW:HMl X "extend" lL:=⟨_,PySem.F.slot_list_extend,PySem.F.type_list_extend,xr⟩
def Eb:HE X (.Dict [] [] pos) De:=⟨JB⟩
end
section
variable{X:Cx}
def GV(nt:Nat)(js:List Nat)(wi:TI)(g:TG)(tt:TT)(te:TE)(gN:TG):TS:=λD σ H=>tLC nt js wi g tt te σ H λv H1=>gN v σ H1 D.nx
theorem BK(B:BlkSc X N' nt js scope)(hc:X.calm=true)(hi:PI X tg iter wi)
  (hg:∀cl s0 H0 ex,PG (blk X N' scope cl s0 H0 ex) tg g) (ht:∀cl s0 H0 ex,PTs (blk X N' scope cl s0 H0 ex) ifs tt) (he:∀cl s0 H0 ex,PE (blk X N' scope cl s0 H0 ex) elt te) (hn:PG X (.Name x pos') gN)
  (hs:∀x,foldedSetIterable iter X.env x=pure x) (hsw:swapsWith (.ListComp elt [⟨tg,iter,ifs,0⟩] scope pos) (some (.Name x pos')) pos2.line X.env=pure true) :
  PS X (.Assign [.Name x pos'] (.ListComp elt [⟨tg,iter,ifs,0⟩] scope pos) pos2) (GV nt js wi g tt te gN):=by
 intro pins s σ H Dn I h;rw[exec_Assign_Name_used _ _ _ _ hsw];refine AA1 (wpAny_standAt ?_);obtain⟨cl,ecl,hcl1,hcl2⟩:=kq (scope:=scope) (env:=X.env) λp hp hf=>I.ok.has p.1 (B.free p hp hf)
 refine AA1 (show wpAny (model X.prog X.w) X.A (comprehension (.ListComp elt [⟨tg,iter,ifs,0⟩] scope pos) scope X.env _ (newList []) false (eval iter X.env) (some (assign (.Name x pos') X.env)) >>= λ_=>pure ()) _ _ _ from AA1 ?_)
 refine wpAny_comprehension_free (use:=some (assign (.Name x pos') X.env)) (Q:=λ_ s''=>wpAny (model X.prog X.w) X.A (pure ()) (λ_ s3=>wpAny (model X.prog X.w) X.A (pure Flow.next) (SP X pins Dn) X.xe s3) X.xe s'') rfl hs ecl B.kind B.loc ?_
 refine thn (hi pins s σ H _ I h) λv s1 h1=>thn h1 λitv s2 h2=>?_
 obtain⟨it,fp,tn,J,H2,e,I2,T,st2,f2,W,⟨m0,w0⟩,turn⟩:=h2;subst e;refine AAp (wpAny_newFunctionEnv B.nocell (by intro y hy;simp at hy) (λh1 hns1 hsb1=>?_) B.kind)
 have hfs:∀b∈fp,b<s2.heap.objs.size:=λb hb=>by
  obtain⟨o,e,_⟩:=T.obj _ _ st2 b hb;exact AAF e
 have hC:(s2.heap.push (cG [] 0)).objs.size=s2.heap.objs.size+1:=ABW ..;have old:∀b o,(s2.heap.push (cG [] 0)).get? b=some o->h1.get? b=some o:=λb o e=>(hsb1.2 b (AAN (AAF e))).trans (AA3 _ e)
 have I3:=I2.blkStart (tk:=s2.toks+([]:List (Str×Value)).length) B hcl1 hcl2 f2 hfs old hns1;have st3:tn 0 h1:=T.keep _ _ _ st2 λb _ o e=>old b o (AA3 _ e)
 have hDf:s2.heap.objs.size∉fp:=λz=>AAm _ (hfs _ z)
 have hDs:s2.heap.objs.size∉frs X.stack:=λz=>by
  rcases AAQ.mp (I2.stkSub _ z)with q | q
  ·exact absurd I2.lt (by rw[<-q];exact AAm _)
  ·exact I2.nofs (AA8 _) q
 have hDC:s2.heap.objs.size≠(s2.heap.push (cG [] 0)).objs.size:=by rw[hC];exact AAN (AB6 _)
 have ltc:∀z c,cl.lookup z=some c->c<s2.heap.objs.size:=λz c e=>by
  obtain⟨v,q⟩:=I2.cell z c (hcl1 z c e);exact q.lt
 have hstat:∀b∈fp,b≠(s2.heap.push (cG [] 0)).objs.size/\b∉frs X.stack/\∀x c,cl.lookup x=some c->c≠b:=λb hb=>by
  refine⟨by rw[hC];exact AAN (ABs (hfs b hb)),λz=>?_,λx c e=>(f2 b hb).2.2.2.2.1 x c (hcl1 x c e)⟩
  rcases AAQ.mp (I2.stkSub b z)with q | q
  ·exact(f2 b hb).2.1 q
  ·exact(f2 b hb).2.2.1 q
 have leC:s2.heap.objs.size<=(s2.heap.push (cG [] 0)).objs.size:=by rw[hC];exact AEI _
 have loop:codeAny (model X.prog X.w) X.A (.compLoop (.ListComp elt [⟨tg,iter,ifs,0⟩] scope pos) 0 (.ref it) (.ref s2.heap.objs.size) (compEnvC scope cl (s2.heap.push (cG [] 0)).objs.size X.env))
   (compPost (model X.prog X.w) X.A X.xe (some (assign (.Name x pos') X.env)) (λ_ s''=>wpAny (model X.prog X.w) X.A (pure ()) (λ_ s3=>wpAny (model X.prog X.w) X.A (pure Flow.next) (SP X pins Dn) X.xe s3) X.xe s'') (.ref s2.heap.objs.size) (s2.heap.push (cG [] 0)).objs.size) { s2 with heap:=h1,toks:=s2.toks+([]:List (Str×Value)).length }:=by
  refine zO (s0:={ s2 with heap:=s2.heap.push (cG [] 0) }) (H0:=H2) (N':=N') (Q:=λv H1=>gN v σ H1 Dn.nx) hc (hg _ _ _ _) (ht _ _ _ _) (he _ _ _ _) T hDf turn hstat hDC hDs (λx c e=>AAN (ltc x c e)) ?_ m0 I3 st3 (λb hb=>(f2 b hb).1) w0
  intro τ H' s' vs its k I4 rv hl q;obtain⟨mm,hn4,_⟩:=id I4.loc;obtain⟨oC,es,ep,eC,bc⟩:=id hn4;have I5:Inv X pins σ (upd H' s2.heap.objs.size (.lst vs)) s':=I2.blkEnd f2 I4 rv hl ⟨rfl,λ_ _=>rfl⟩
  have fC:upd H' s2.heap.objs.size (.lst vs) (s2.heap.push (cG [] 0)).objs.size=none:=by rw[ah (ABM hDC)];exact I4.free
  have fk:∀Hx:Hp,Hx (s2.heap.push (cG [] 0)).objs.size=none->xY X pins Hx (s2.heap.push (cG [] 0)).objs.size:=λHx hx=>I2.fpOk leC hx
  have dC:∀v,oC.data≠.cell v:=λv z=>by
   have:∃es ep,oC.data=.dict es ep:=by
    first
     | (obtain⟨d,_⟩:=bc;exact⟨_,_,d⟩)
     | (obtain⟨_,d,_⟩:=bc;exact⟨_,_,d⟩)
     | (obtain⟨_,_,d,_⟩:=bc;exact⟨_,_,d⟩)
   obtain⟨_,_,d⟩:=this;rw[d]at z;cases z
  have I6:Inv X (pins++[((s2.heap.push (cG [] 0)).objs.size,oC)]) σ (upd H' s2.heap.objs.size (.lst vs)) s':=I5.pins_of λp hp=>by
   rcases AAT.mp hp with hp | hp
   ·exact I5.pin p (AAI _ hp)
   ·have:p=((s2.heap.push (cG [] 0)).objs.size,oC):=by simpa using hp
    subst this;exact⟨eC,fC,(fk _ fC).2.1,(fk _ fC).2.2.1,dC⟩
  refine thn (hn _ s' σ _ (.ref s2.heap.objs.size) (.ref s2.heap.objs.size) _ I6 rfl q) λ_ s7 ⟨σ7,H7,I7,q7⟩=>?_
  obtain⟨p1,p2,_⟩:=I7.pin ((s2.heap.push (cG [] 0)).objs.size,oC) (AAI _ (AAI _ AAG));refine⟨mm,⟨oC,es,ep,p1,bc⟩,λh' sb=>AA2 (AA2 ⟨σ7,H7,?_,q7⟩)⟩
  have I8:Inv X pins σ7 H7 s7:=I7.pins_of λp hp=>I7.pin p (AAI _ (AAc _ hp))
  refine I8.turnedL (t':=s7.toks) (fp:=[(s2.heap.push (cG [] 0)).objs.size]) (λb hb=>?_) λb o hb e=>(sb.2 b (by simpa using hb)).trans e
  have:b=(s2.heap.push (cG [] 0)).objs.size:=by simpa using hb
  subst this;exact fk H7 p2
 exact codeAny_compStart_list loop (T.self _ 0 _ _ _ st3 loop)
def ko(nt:Nat)(js:List Nat)(di:DTI)(g:DTG)(tt:DTT)(te:DTE)(i:Nat):DTS:=λE S M=>dLC nt js di g tt te S M λd M1=>am i d S M1 E.nx
def CT(B:BlkSc X N' nt js scope)(hc:X.calm=true)(hi:DI X tg iter di)
  (hg:∀cl s0 H0 ex,DG (blk X N' scope cl s0 H0 ex) tg g) (ht:∀cl s0 H0 ex,PTs (blk X N' scope cl s0 H0 ex) ifs (lowT X.K tt)) (he:∀cl s0 H0 ex,DE (blk X N' scope cl s0 H0 ex) elt te) (hn:DG X (.Name x pos') (am i))
  (hs:∀x,foldedSetIterable iter X.env x=pure x) (hsw:swapsWith (.ListComp elt [⟨tg,iter,ifs,0⟩] scope pos) (some (.Name x pos')) pos2.line X.env=pure true) :
  DS X (.Assign [.Name x pos'] (.ListComp elt [⟨tg,iter,ifs,0⟩] scope pos) pos2) (ko nt js di g tt te i) :=
 PS.imp (BK (g:=lowG X.K g) (tt:=lowT X.K tt) (te:=lowE X.K te) B hc hi (λcl s0 H0 ex=>hg cl s0 H0 ex) ht (λcl s0 H0 ex=>he cl s0 H0 ex) hn hs hsw) λE σ H ⟨S,M,ρ,F,s,sr,q,k⟩ =>
  zF σ H _ ⟨S,M,ρ,_,s,sr,q,λv H1 ⟨d,M1,ρ1,s1,g1,r1,q1⟩=>⟨d,S,M1,ρ1,_,s1,sr.grow g1,r1,q1,λσ' H' w=>k.nx σ' H' (SQ.trans g1 w)⟩⟩
def Cw(hN:X.N.Nodup)(hi:HI X tg iter di)
  (hg:∀cl s0 H0 ex,HG (blk X N' scope cl s0 H0 ex) tg g) (ht:∀cl s0 H0 ex,HTs (blk X N' scope cl s0 H0 ex) ifs tt) (he:∀cl s0 H0 ex,HE (blk X N' scope cl s0 H0 ex) elt te) (B:oq X.env.scope.names X.N N' nt js scope=true:=by kernel_rfl) (hc:X.calm=true:=by kernel_rfl)
  (hs:∀x,foldedSetIterable iter X.env x=pure x:=by intro _;kernel_rfl) (hsw:swapsWith (.ListComp elt [⟨tg,iter,ifs,0⟩] scope pos) (some (.Name x pos')) pos2.line X.env=pure true:=by kernel_rfl)
  (hix:X.N[i]?=some x:=by kernel_rfl) (hx:GG X.env.scope x=true:=by kernel_rfl) (hf:X.fn x=true:=by kernel_rfl):HS X (.Assign [.Name x pos'] (.ListComp elt [⟨tg,iter,ifs,0⟩] scope pos) pos2) (ko nt js di g tt te i) :=
 ⟨CT (BlkSc.chk B) hc hi.ok (λcl s0 H0 ex=>(hg cl s0 H0 ex).ok) (λcl s0 H0 ex=>(ht cl s0 H0 ex).ok) (λcl s0 H0 ex=>(he cl s0 H0 ex).ok) (ut hN hix (zH hx) (.inl hf)) hs hsw⟩
end
def at0:atI (a::r) 0=some a:=by
 have:=az (xs:=a::r) (j:=0) (v:=a) rfl;simpa using this
def at1:atI (a::b::r) 1=some b:=by
 have:=az (xs:=a::b::r) (j:=1) (v:=b) rfl;simpa using this
def at2:atI (a::b::c::r) 2=some c:=by
 have:=az (xs:=a::b::c::r) (j:=2) (v:=c) rfl;simpa using this
def bj.lst(h:R (.ref M.length) (M++[.lst xs]))(hn:M.length<=n)(e:(M++L)[n]?=some (.lst xs))(b:Bels M.length xs):bj M R (.ref n) (M++L) :=
 .inr (.inr ⟨M,n,xs,.refl,rfl,hn,e,AAb _ _,b,h⟩)
def bj.chg(c:Chg M M1)(h:R d M1)(b:Bel M.length d)(p:M1 <+: M'):bj M R d M':=.inr (.inl ⟨M1,c,b,p,h⟩)
def bj.chgL(c:Chg M M1)(h:R (.ref M.length) (M1++[.lst xs]))(hn:M.length<=n)(e:M'[n]?=some (.lst xs))(p:M1 <+: M')(b:Bels M.length xs):bj M R (.ref n) M':=.inr (.inr ⟨M1,n,xs,c,rfl,hn,e,p,b,h⟩)
def ia:(M++a::L).set M.length b=M++b::L:=by
 rw[AE5 _ _ (AA8 _)];simp
def jS:(M++a::L)[M.length]?=some a:=by simp
def pP(I:List D->List D->SD->Mem->Prop)(h0:∀acc S M,I [] acc S M->ok M/\Q (.ref M.length) (M++[.lst acc]))
  (h1:∀x xs acc S M,I (x::xs) acc S M->∀K:List D->SD->Mem->Prop,(∀acc S M,I xs acc S M->K acc S M)->ok M/\g x S M λS2 M2=>tt S2 M2 λb M3=>if b=true then te S2 M3 λy M4=>acc.length<sizeLine/\K (acc++[y]) S2 M4 else K acc S2 M3) :
  ∀xs acc S M,I xs acc S M->mB ok g tt te Q xs acc S M
 | [],acc,S,M,h=>h0 acc S M h
 | x::xs,acc,S,M,h=>h1 x xs acc S M h _ (pP I h0 h1 xs)
def unS:D->Str
 | .str x=>x
 | _=>Str.empty
theorem qV{ys:List D}{ks:List Str}(h:ys.Perm (ks.map D.str)):∃ns:List Str,ys=ns.map D.str/\ns.Perm ks:=by
 refine⟨ys.map unS,?_,?_⟩
 ·rw[ABI]
  have:∀y∈ys,(D.str ∘ unS) y=y:=λy hy=>by
   obtain⟨x,_,rfl⟩:=AAH.mp (h.mem_iff.mp hy);rfl
  exact(AEK this ▸ (List.map_id' ys).symm:ys=ys.map (D.str ∘ unS))
 ·have:=h.map unS
  rw[ABI]at this;have e:(unS ∘ D.str)=id:=rfl
  rwa [e,ACh]at this
def BH:(pU kvs k d).length<=kvs.length+1/\1<=(pU kvs k d).length:=by
 unfold pU;by_cases q:(kvs.any λp=>decide (p.1=k))=true
 ·rw[if_pos q,AA4]
  obtain⟨p,hp,_⟩:=AB9.mp q;have:0<kvs.length:=List.length_pos_of_mem hp;lia
 ·rw[if_neg q,AAB,AAV]
  lia
def wz:(M++a::b::L)[M.length+1]?=some b:=by
 rw[AAh (by lia),show M.length+1-M.length=1 by lia];rfl
theorem BO{α:Type}(f:α->D)(g:D->α)(hg:∀a,g (f a)=a){ys:List D}{l:List α}(h:ys.Perm (l.map f)):∃l':List α,ys=l'.map f/\l'.Perm l:=by
 refine⟨ys.map g,?_,?_⟩
 ·rw[ABI]
  have:∀y∈ys,(f ∘ g) y=y:=λy hy=>by
   obtain⟨x,_,rfl⟩:=AAH.mp (h.mem_iff.mp hy);show f (g (f x))=f x;rw[hg]
  exact(AEK this ▸ (List.map_id' ys).symm:ys=ys.map (f ∘ g))
 ·have:=h.map g
  rw[ABI]at this;have e:(g ∘ f)=id:=funext hg
  rwa [e,ACh]at this
section
variable{prog:Program}{w:World}{A:Around}{E:Value->Shared->Prop}{s:Shared}
def bf(w:World):Obj:={ cls:=.type "set",dict:=none,data:=.set #[] 0 (.fresh 0 0 (!w.params.followText "set-order")) }
def uy(a:Value)(h:Q₁ (.ref s.heap.objs.size) { s with heap:=s.heap.push (bf w) }) :
  codeAny (model prog w) A (.call (.builtin "set.__new__") ⟨[.type "set",a],[]⟩) (wants Q₁ E) s:=by
 refine codeAny_of_tree (show wpAny (model prog w) A.in1 (do checkBuiltinCall "set.__new__" ⟨[.type "set",a],[]⟩;again (.builtin "set.__new__" ⟨[.type "set",a],[]⟩)) _ _ s from ?_)
 refine AA1 (wpAny_of_eq (F.newCall_set_1 a) (AA2 ⟨AD9 F.plain_set_new _,ABg F.entry_set_new ?_⟩));rw[ABk F.plain_set_new _];have hsub:=sub_set_self;obtain⟨hp,g,d,tk,os⟩:=s;unfold Builtin.«set.__new__» Builtin.Frozenset.newClass;dsimp only
 wp_walk
 refine ACM (AA2 ?_);simp only[newObj];exact AA1 (wpAny_alloc (AA2 (AA2 h)))
end
structure TxSrc(prog:Program)(w:World)(h:Heap)(l:Addr)(T:String)(n:Nat)(P:Nat->Value->Prop):Prop where
 obj:∃o,h.get? l=some o/\o.cls=.type T
 ns:isSubtype (.type T) (.type "set")=pure false
 nf:isSubtype (.type T) (.type "frozenset")=pure false
 nd:(ADO T==ADO "dict")=false
 iter:∀(A:Around) (s':Shared),A.handled=none->(∀o,h.get? l=some o->s'.heap.get? l=some o)->∃(oI:Obj) (St:Nat->Heap->Prop),
  (∀(E:Value->Shared->Prop) (Q:Value->Shared->Prop),Q (.ref s'.heap.objs.size) { s' with heap:=s'.heap.push oI }->wpAny (model prog w) A (pyIter (.ref l)) Q E s') /\
  Walks prog w A s'.heap.objs.size [s'.heap.objs.size,l] [s'.heap.objs.size] n P St/\St 0 (s'.heap.push oI)
def tu:isSubtype (.type "tuple") (.type "set")=pure false:=by rw[isSubtype_type];kernel_rfl
def qK:isSubtype (.type "tuple") (.type "frozenset")=pure false:=by rw[isSubtype_type];kernel_rfl
def TxSrc.list(hl:h.IsList l its):TxSrc prog w h l "list" its.size (λi v=>its[i]?=some v):=by
 refine⟨let ⟨o,e,c,_⟩:=hl;⟨o,e,c⟩,F.sub_list_set,F.sub_list_frozenset,by decide,λA s' hh hk=>?_⟩
 have hl':s'.heap.IsList l its:=hl.at hk;have lt:l<s'.heap.objs.size:=let ⟨o,e,_⟩:=hl';AAF e
 exact⟨_,_,λE Q q=>wpAny_pyIter_list hl' q,Walks.list hh _ l (AAN lt) its,⟨_,AAA _ rfl,rfl,rfl⟩,hl'.push _⟩
def TxSrc.tuple(hl:h.IsTuple l its):TxSrc prog w h l "tuple" its.size (λi v=>its[i]?=some v):=by
 refine⟨let ⟨o,e,c,_⟩:=hl;⟨o,e,c⟩,tu,qK,by decide,λA s' hh hk=>?_⟩
 have hl':s'.heap.IsTuple l its:=let ⟨o,e,r⟩:=hl;⟨o,hk o e,r⟩
 have lt:l<s'.heap.objs.size:=let ⟨o,e,_⟩:=hl';AAF e
 exact⟨_,_,λE Q q=>wpAny_pyIter_tuple hl' q,Walks.tuple hh _ l (AAN lt) its,⟨_,AAA _ rfl,rfl,rfl⟩,let ⟨o,e,r⟩:=hl';⟨o,AA3 _ e,r⟩⟩
def bh:Slot "set_iterator" "__next__" "set_iterator.__next__" :=
 .of (owner:="set_iterator") (n:="__next__") (by rw[AEL,ACw];kernel_rfl) (by decide +kernel) (by decide +kernel) (by decide +kernel) (by first | exact .inl (by decide +kernel) | exact .inr (by decide +kernel)) (by rw[isSubtype_type];kernel_rfl)
def eX:entryFor table "set_iterator.__next__" = some Builtin.«set_iterator.__next__»:=entryFor_of_tree (by kernel_rfl)
def lU:Manifest.owners.lookup (String.ofList ['r','o','t','a','r','e','t','i','_','t','e','s'].reverse)=some Manifest.sig_set_iterator:=by kernel_rfl
theorem gh(a:Value):argsOk "set_iterator.__next__" ⟨[a],[]⟩:=by
 unfold argsOk;rw[signature?_of (id:="set_iterator.__next__") (n:=['_','_','t','x','e','n','_','_']) (o:=['r','o','t','a','r','e','t','i','_','t','e','s']) (by kernel_rfl) lU];kernel_rfl
def pL:entryFor table "set.__iter__" = some Builtin.«frozenset.__iter__»:=entryFor_alias (id':="frozenset.__iter__") (by kernel_rfl) rfl (by decide +kernel) (by kernel_rfl)
def jT{α:Type}:∀(l:List α) (i:Nat) (h:i<l.length),(l[i]::l.eraseIdx i).Perm l
 | x::l,0,_=>ACm _
 | x::l,i+1,h=>by
  have h':i<l.length:=by simpa using h
  exact(List.Perm.swap x l[i] (l.eraseIdx i)).trans (AES x (jT l i h'))
def xT(hn:n≠0)(h:∀i d,i<n->Q i { s with drawn:=d }):wpAny M A (choose src n) Q E s:=by
 intro Γ p hΓ;show Sem.wp M Γ (Sem.choose src n λi=>Sem.pure i) _ _ p s
 rw[Sem.wp_choose];refine⟨hn,?_⟩;rw[Sem.wp_pure];exact h _ _ (Nat.mod_lt _ (Nat.pos_of_ne_zero hn))
def sk{α:Type}{M:Model}{A:Around}{E:Value->Shared->Prop}:∀(n:Nat) (xs:List α) (s:Shared) (Q:List α->Shared->Prop),xs.length=n->(∀ys d,ys.Perm xs->Q ys { s with drawn:=d })->wpAny M A (drawOrder n xs) Q E s
 | 0,xs,s,Q,e,h=>by
  cases xs with
  | nil=>exact AA2 (h [] s.drawn (ACm _))
  | cons _ _=>cases e
 | n+1,[],s,Q,e,h=>by cases e
 | n+1,x::xs,s,Q,e,h=>by
  unfold drawOrder;refine AA1 (xT (by simp) λi d hi=>?_)
  rw[AA6 hi];refine AA1 (sk n ((x::xs).eraseIdx i) { s with drawn:=d } _ (by rw[List.length_eraseIdx_of_lt hi];simp at e ⊢;lia) λys d' hp=>AA2 (h _ d' ?_))
  exact(AES _ hp).trans (jT _ i hi)
def lO{α:Type}(next:Nat->Nat)(xs:Array α):(pickOrder next xs).toList.Perm xs.toList:=by
 have go:∀(fuel k:Nat) (left:List α) (out:Array α),left.length=fuel->(pickOrder.go next fuel k left out).toList.Perm (out.toList++left):=by
  intro fuel;induction fuel with
  | zero =>
   intro k left out e;cases left with
   | nil=>simp[pickOrder.go]
   | cons _ _=>cases e
  | succ n ih =>
   intro k left out e;have hi:next k % left.length<left.length:=Nat.mod_lt _ (by lia)
   unfold pickOrder.go;rw[AA6 hi];dsimp only;refine(ih (k+1) _ _ (by rw[List.length_eraseIdx_of_lt hi];lia)).trans ?_
   rw[ADo,AAg];exact List.Perm.append_left _ (jT _ _ hi)
 have:=go xs.size 0 xs.toList #[] (by simp)
 simpa [pickOrder]using this
def eS(first:Value)(i n:Nat)(a:Addr)(ep:Nat):Obj:={ cls:=.type "set_iterator",data:=.fields #[first,rawInt i,.ref a,rawInt n,rawInt ep] }
structure SetAt(h:Heap)(a:Addr)(o:Obj)(es:Array (Int×Value))(ep:Nat)(t:SetTable):Prop where
 ob:h.get? a=some o
 dt:o.data=.set es ep t
 ft:t.fits es.size=true
section
variable{prog:Program}{w:World}{A:Around}{E:Value->Shared->Prop}{s:Shared}{a it:Addr}{o:Obj}{es:Array (Int×Value)}{ep:Nat}{t:SetTable}
def nO(hh:A.handled=none)(h:∀h' e,(∀b o,s.heap.get? b=some o->h'.get? b=some o)->(∃o,h'.get? e=some o/\o.cls=.type "StopIteration")->F (.ref e) { s with heap:=h' }) :
  wpAny (model prog w) A (do raiseNew (<-newExc (.type "StopIteration") []):Sem Fin) Q F s:=by
 refine AA1 ?_
 simp only[newExc,newTuple];refine AA1 (AAp (AA1 (m:=firstArgMember _ _) (wpAny_of_eq (a:=AC3) (by first | rfl | (simp only[firstArgMember];rfl)) (AAp ?_ (by size_fits)))) (by size_fits))
 simp only[raiseNew];refine AA1 (wpAny_handled ?_);rw[hh];exact AA1 (AA2 (wpAny_throw (h _ _ (λb o e=>AA3 _ (AA3 _ e)) ⟨_,AAA _ rfl,rfl⟩)))
def lZ{slot i next:Nat}{x:Value}{Q:Option Value->Shared->Prop}(hI:s.heap.get? it=some (eS (rawInt slot) i es.size a ep))(S:SetAt s.heap a o es ep t)
  (hn:∀(A:Around) (E:Value->Shared->Prop) (Q:Option (Value×Nat)->Shared->Prop),Q (some (x,next)) s->wpAny (model prog w) A (setNext a slot i ep) Q E s)
  (hQ:∀h',h'.get? it=some (eS (rawInt next) (i+1) es.size a ep)->ACB it s.heap h'->Q (some x) { s with heap:=h' }):wpAny (model prog w) A (pyNext (.ref it)) Q E s:=by
 have hT:s.TypeIs (.ref it) "set_iterator":=⟨_,hI,rfl⟩;unfold pyNext;refine AA1 (ACO (AB3 (name:=AA0 "__next__") hT bh (AAw bh hT eX ?_ (gh _))));unfold Builtin.«set_iterator.__next__»;refine AA1 (AA2 (AA1 (ABZ hI rfl ?_)));dsimp only [eS,rawInt];refine AA1 (ACi S.ob S.dt S.ft ?_);rw[if_neg (by simp)]
 refine AA1 (hn _ _ _ ?_);dsimp only;refine AA1 (ABw hI rfl (by simp) (AA1 (ABw (AAj _ hI rfl) rfl (by simp) (AA2 ⟨x,rfl,AA2 (hQ _ ?_ ((AAx ..).trans (AAx ..)))⟩))))
 refine(AAj _ (AAj _ hI rfl) rfl).trans ?_
 simp[eS,ADA,rawInt]
def eM{slot i:Nat}{Q:Option Value->Shared->Prop}(hh:A.handled=none)(hI:s.heap.get? it=some (eS (rawInt slot) i es.size a ep))(S:SetAt s.heap a o es ep t)
  (hn:∀(A:Around) (E:Value->Shared->Prop) (Q:Option (Value×Nat)->Shared->Prop),Q none s->wpAny (model prog w) A (setNext a slot i ep) Q E s)
  (hQ:∀h',(∀b o,b≠it->s.heap.get? b=some o->h'.get? b=some o)->Q none { s with heap:=h' }):wpAny (model prog w) A (pyNext (.ref it)) Q E s:=by
 have hT:s.TypeIs (.ref it) "set_iterator":=⟨_,hI,rfl⟩;unfold pyNext;refine AA1 (ACO (AB3 (name:=AA0 "__next__") hT bh (AAw bh hT eX ?_ (gh _))));unfold Builtin.«set_iterator.__next__»;refine AA1 (AA2 (AA1 (ABZ hI rfl ?_)));dsimp only [eS,rawInt];refine AA1 (ACi S.ob S.dt S.ft ?_);rw[if_neg (by simp)]
 refine AA1 (hn _ _ _ ?_);dsimp only;refine AA1 (ABw hI rfl (by simp) ?_)
 refine nO (by simp[hh]) λh' e hk ⟨oe,he,hc⟩=>?_
 refine AA1 (ACN (T:="StopIteration") (b:=true) ⟨oe,he,hc⟩ isSubtype_stop (AA2 (hQ h' λb ob hb eb=>hk b ob ?_)))
 exact((AAx ..).2 b hb).trans eb
def xp{tt:Addr}{ps:List Nat}{i j:Nat}{e:Int×Value}{Q:Option Value->Shared->Prop}(hI:s.heap.get? it=some (eS (.ref tt) i es.size a ep))(hP:s.heap.IsTuple tt (ps.map λ(k:Nat)=>rawInt k).toArray)(S:SetAt s.heap a o es ep t)
  (hj:ps[i]?=some j) (he:es[j]?=some e) (hQ:∀h',h'.get? it=some (eS (.ref tt) (i+1) es.size a ep)->ACB it s.heap h'->Q (some e.2) { s with heap:=h' }):wpAny (model prog w) A (pyNext (.ref it)) Q E s:=by
 have hT:s.TypeIs (.ref it) "set_iterator":=⟨_,hI,rfl⟩;obtain⟨ot,hot,_,nt,hdt⟩:=hP;unfold pyNext;refine AA1 (ACO (AB3 (name:=AA0 "__next__") hT bh (AAw bh hT eX ?_ (gh _))));unfold Builtin.«set_iterator.__next__»;refine AA1 (AA2 (AA1 (ABZ hI rfl ?_)));dsimp only [eS,rawInt];refine AA1 (ACi S.ob S.dt S.ft ?_);rw[if_neg (by simp)]
 refine AA1 (ACn hot hdt ?_);have hx:(ps.map λ(k:Nat)=>rawInt k).toArray[i]?=some (.int j 0):=by simp[hj,rawInt]
 simp only[ABX,hx];unfold setNextDrawn;refine AA1 (AA1 (ABL S.ob S.dt S.ft ?_));simp only[bne_self_eq_false,AAE,if_false,he];refine AA2 (AA1 (ABw hI rfl (by simp) (AA2 ⟨_,rfl,AA2 (hQ _ ?_ (AAx ..))⟩)))
 refine(AAj _ hI rfl).trans ?_
 simp[eS,ADA,rawInt]
def mO{tt:Addr}{ps:List Nat}{i:Nat}{Q:Option Value->Shared->Prop}(hh:A.handled=none)(hI:s.heap.get? it=some (eS (.ref tt) i es.size a ep))(hP:s.heap.IsTuple tt (ps.map λ(k:Nat)=>rawInt k).toArray)(S:SetAt s.heap a o es ep t)
  (hj:ps[i]?=none) (hQ:∀h',(∀b o,b≠it->s.heap.get? b=some o->h'.get? b=some o)->Q none { s with heap:=h' }):wpAny (model prog w) A (pyNext (.ref it)) Q E s:=by
 have hT:s.TypeIs (.ref it) "set_iterator":=⟨_,hI,rfl⟩;obtain⟨ot,hot,_,nt,hdt⟩:=hP;unfold pyNext;refine AA1 (ACO (AB3 (name:=AA0 "__next__") hT bh (AAw bh hT eX ?_ (gh _))));unfold Builtin.«set_iterator.__next__»;refine AA1 (AA2 (AA1 (ABZ hI rfl ?_)));dsimp only [eS,rawInt];refine AA1 (ACi S.ob S.dt S.ft ?_);rw[if_neg (by simp)]
 refine AA1 (ACn hot hdt ?_);have hx:(ps.map λ(k:Nat)=>rawInt k).toArray[i]?=none:=by simpa using hj
 simp only[ABX,hx];refine AA1 (ABw hI rfl (by simp) (AA1 (ABw (AAj _ hI rfl) rfl (by simp) ?_)))
 refine nO (by simp[hh]) λh' e hk ⟨oe,he,hc⟩=>?_
 refine AA1 (ACN (T:="StopIteration") (b:=true) ⟨oe,he,hc⟩ isSubtype_stop (AA2 (hQ h' λb ob hb eb=>hk b ob ?_)))
 exact(((AAx ..).trans (AAx ..)).2 b hb).trans eb
end
end L2
namespace L2
def nodup_le{α:Type}[DecidableEq α]:∀(l xs:List α),l.Nodup->(∀x∈l,x∈xs)->l.length<=xs.length
 | [],xs,_,_=>AAX _
 | a::l,xs,nd,h=>by
  have ha:a∈xs:=h a AAG;have nd':=ABy.mp nd;have ih:=nodup_le l (xs.erase a) nd'.2 λx hx=>(List.mem_erase_of_ne (show x≠a from λz=>nd'.1 (by rw[<-z];exact hx))).mpr (h x (AA9 _ hx))
  rw[List.length_erase_of_mem ha]at ih;have:0<xs.length:=List.length_pos_of_mem ha;rw[AAK];lia
end L2
namespace Ht
open PySem
def adv(m:Nat)(p:ACU):ACU :=
 if p.more > 0 then { p with j:=p.j+1,more:=p.more-1 } else
 { p with j:=(ACP m p.i p.perturb).1,more:=AAy m (ACP m p.i p.perturb).1-(ACP m p.i p.perturb).1,i:=(ACP m p.i p.perturb).1,perturb:=(ACP m p.i p.perturb).2 }
def jE(m i pt:Nat):ACU:={ j:=i,more:=AAy m i-i,i,perturb:=pt,dummy:=none }
def lE(m:Nat)(p:ACU):Nat->ACU
 | 0=>p
 | n+1=>adv m (lE m p n)
def sq(m:Nat)(h:Int)(n:Nat):ACU:=lE m (jE m (ABx h % (m+1)) (ABx h)) n
def qL(m:Nat)(p:ACU)(a b:Nat):lE m p (a+b)=lE m (lE m p a) b:=by
 induction b with
 | zero=>rfl
 | succ b ih=>rw[Nat.add_succ,lE,ih];rfl
def Hf(m i:Nat):AAy m i-i<=9:=by
 unfold AAy;split<;>lia
def An(m i pt:Nat):∀k,k<=AAy m i-i->lE m (jE m i pt) k={ j:=i+k,more:=AAy m i-i-k,i,perturb:=pt,dummy:=none }
 | 0,_=>by simp[lE,jE]
 | k+1,h=>by
  rw[lE,An m i pt k (by lia)]
  unfold adv;rw[if_pos (show AAy m i-i-k > 0 by lia)]
  simp only[SetTable.Probe.mk.injEq,true_and,and_true];lia
def Ce(m i pt:Nat):lE m (jE m i pt) (AAy m i-i+1)=jE m (ACP m i pt).1 (ACP m i pt).2:=by
 rw[lE,An m i pt _ (AA8 _)];unfold adv;rw[if_neg (show ¬AAy m i-i-(AAy m i-i) > 0 by lia)]
 rfl
def eI(m:Nat)(h:Int):Nat->Nat×Nat
 | 0=>(ABx h % (m+1),ABx h)
 | k+1=>ACP m (eI m h k).1 (eI m h k).2
def ff(m:Nat)(h:Int):Nat->Nat
 | 0=>0
 | k+1=>ff m h k+(AAy m (eI m h k).1-(eI m h k).1+1)
def Dk(m:Nat)(h:Int)(k:Nat):ff m h k<=10*k:=by
 induction k with
 | zero=>exact AA8 _
 | succ k ih=>have:=Hf m (eI m h k).1;unfold ff;lia
def Dv(m:Nat)(h:Int)(k:Nat):sq m h (ff m h k)=jE m (eI m h k).1 (eI m h k).2:=by
 induction k with
 | zero=>rfl
 | succ k ih =>
  unfold sq at ih ⊢;unfold ff;rw[qL,ih,Ce];rfl
def yQ(m:Nat)(h:Int)(k r:Nat)(hr:r<=AAy m (eI m h k).1-(eI m h k).1):(sq m h (ff m h k+r)).j=(eI m h k).1+r:=by
 have e:=Dv m h k;unfold sq at e ⊢;rw[qL,e,An _ _ _ _ hr]
def Gv(h:Int):ABx h<2 ^ 64:=by
 unfold ABx;have h0:=Int.emod_nonneg h (show (2 ^ 64:Int)≠0 by decide)
 have h1:=Int.emod_lt_of_pos h (show (0:Int)<2 ^ 64 by decide)
 lia
def nV(m:Nat)(h:Int):∀k,(eI m h k).2=ABx h / 32 ^ k
 | 0=>by simp[eI]
 | k+1=>by
  show (eI m h k).2 / 32=_;rw[nV m h k,Nat.div_div_eq_div_mul,<-Nat.pow_succ]
def qU(m:Nat)(h:Int)(k:Nat)(hk:13<=k):(eI m h k).2=0:=by
 rw[nV];apply Nat.div_eq_of_lt
 have h1:=Gv h;have h2:32 ^ 13<=32 ^ k:=Nat.pow_le_pow_right (by decide) hk
 have h3:(2:Nat) ^ 64<32 ^ 13:=by decide
 lia
def uG(m i:Nat):Nat:=(i*5+1) % (m+1)
def bU(m i:Nat):Nat->Nat
 | 0=>i
 | k+1=>uG m (bU m i k)
def eF(m i a b:Nat):bU m i (a+b)=bU m (bU m i a) b:=by
 induction b with
 | zero=>rfl
 | succ b ih=>rw[Nat.add_succ,bU,ih];rfl
def tE(m:Nat)(h:Int)(r:Nat):(eI m h (13+r)).1=bU m (eI m h 13).1 r:=by
 induction r with
 | zero=>rfl
 | succ r ih =>
  show (ACP m (eI m h (13+r)).1 (eI m h (13+r)).2).1=uG m (bU m (eI m h 13).1 r);rw[qU m h _ (by lia),ih]
  rfl
def tF(m:Nat)(h:Int):∀k,(eI m h k).1<=m
 | 0=>Nat.lt_succ_iff.mp (Nat.mod_lt _ (Nat.succ_pos _))
 | k+1=>Nat.lt_succ_iff.mp (Nat.mod_lt _ (Nat.succ_pos _))
def GI(m:Nat):Prop:=bU m 0 (m+1)=0/\∀s,s<=m->∃k,k<=m/\bU m 0 k=s
def tN(m:Nat):Nat->Nat->List Nat
 | 0,_=>[]
 | n+1,i=>i::tN m n (uG m i)
def lV(m:Nat):∀(n i k:Nat),k<n->(tN m n i)[k]?=some (bU m i k)
 | 0,_,_,h=>absurd h (ABz _)
 | n+1,i,0,_=>rfl
 | n+1,i,k+1,h=>by
  rw[tN,ADf,lV m n (uG m i) k (by lia),<-show bU m (bU m i 1) k=bU m i (k+1)from by rw[<-eF,Nat.add_comm]]
  rfl
def ui(m:Nat)(h:((tN m (m+2) 0)[m+1]?==some 0&&(AAk (m+1)).all λs=>(tN m (m+1) 0).contains s)=true):GI m:=by
 rw[AAW,beq_iff_eq,AAZ]at h;refine⟨?_,λs hs=>?_⟩
 ·have:=lV m (m+2) 0 (m+1) (by lia)
  rw[h.1]at this;exact(AAM this).symm
 ·have:=h.2 s (AAz.mpr (by lia))
  rw[List.contains_iff_mem]at this;obtain⟨k,hk⟩:=ABE this;have hl:k<m+1:=by
   have:=(AA7.mp hk).1;have len:∀n i,(tN m n i).length=n:=by
    intro n;induction n with
    | zero=>intro i;rfl
    | succ n ih=>intro i;simp[tN,ih]
   rw[len]at this;exact this
  rw[lV m _ 0 k hl]at hk;exact⟨k,by lia,AAM hk⟩
def full7:GI 7:=ui 7 (by decide +kernel)
def Jc:GI 31:=ui 31 (by decide +kernel)
def FP:GI 127:=ui 127 (by decide +kernel)
def Ax(F:GI m)(hi:i<=m)(hs:s<=m):∃k,k<=m/\bU m i k=s:=by
 obtain⟨a,ha,ea⟩:=F.2 i hi;obtain⟨b,hb,eb⟩:=F.2 s hs;by_cases h:a<=b
 ·refine⟨b-a,by lia,?_⟩
  rw[<-ea,<-eF,show a+(b-a)=b by lia];exact eb
 ·refine⟨m+1-a+b,by lia,?_⟩
  rw[<-ea,<-eF,show a+(m+1-a+b)=(m+1)+b by lia,eF,F.1];exact eb
def mW(m:Nat):Prop:=m=7\/m=31\/m=127
def mW.full(h:mW m):GI m:=by
 rcases h with rfl | rfl | rfl
 ·exact full7
 ·exact Jc
 ·exact FP
def Eo(hm:mW m)(h:Int)(hs:s<=m):∃k,k<=m+13/\(eI m h k).1=s:=by
 obtain⟨r,hr,e⟩:=Ax hm.full (tF m h 13) hs;exact⟨13+r,by lia,by rw[tE];exact e⟩
def EN(hm:mW m)(h:Int)(hs:s<=m):∃n,n<10*(m+15)/\(sq m h n).j=s:=by
 obtain⟨k,hk,e⟩:=Eo hm h hs;refine⟨ff m h k,by have:=Dk m h k;lia,?_⟩
 rw[Dv];exact e
def GZ(h:Int):∀n,∃k r,r<=AAy m (eI m h k).1-(eI m h k).1/\n=ff m h k+r
 | 0=>⟨0,0,AAX _,rfl⟩
 | n+1=>by
  obtain⟨k,r,hr,e⟩:=GZ (m:=m) h n;by_cases q:r<AAy m (eI m h k).1-(eI m h k).1
  ·exact⟨k,r+1,q,by lia⟩
  ·exact⟨k+1,0,AAX _,by rw[ff];lia⟩
def yP(h:Int)(n:Nat):(sq m h n).j<=m:=by
 obtain⟨k,r,hr,e⟩:=GZ (m:=m) h n;rw[e,yQ m h k r hr];have:=tF m h k;unfold AAy at hr;split at hr<;>lia
def below_spec(xs:Array Nat)(hr:xs.toList.Pairwise (· < ·))(j:Nat) :
  AAe xs j<=xs.size/\(∀k (h:k<xs.size),k<AAe xs j->xs[k]<j)/\∀k (h:k<xs.size),AAe xs j<=k->j<=xs[k]:=by
 have mono:∀a b (ha:a<xs.size) (hb:b<xs.size),a<b->xs[a]<xs[b]:=λa b ha hb h=>by
  have:=ADI.mp hr a b (by simpa using ha) (by simpa using hb) h
  simpa using this
 have go:∀(fuel lo hi:Nat),lo<=hi->hi<=xs.size->hi-lo<=fuel->(∀k (h:k<xs.size),k<lo->xs[k]<j)->(∀k (h:k<xs.size),hi<=k->j<=xs[k]) ->
   ACD xs j fuel lo hi<=xs.size/\(∀k (h:k<xs.size),k<ACD xs j fuel lo hi->xs[k]<j)/\∀k (h:k<xs.size),ACD xs j fuel lo hi<=k->j<=xs[k]:=by
  intro fuel;induction fuel with
  | zero =>
   intro lo hi h1 h2 h3 h4 h5;have:lo=hi:=by lia
   subst this;exact⟨h2,h4,h5⟩
  | succ fuel ih =>
   intro lo hi h1 h2 h3 h4 h5;unfold ACD;by_cases h:lo<hi
   ·rw[if_pos h]
    have hm:(lo+hi) / 2<xs.size:=by lia
    have eg:xs.getD ((lo+hi) / 2) j=xs[(lo+hi) / 2]:=by simp[ACK,hm]
    simp only[eg];by_cases q:xs[(lo+hi) / 2]<j
    ·rw[if_pos q]
     refine ih _ _ (by lia) h2 (by lia) (λk hk hlt=>?_) h5
     rcases AC1 k ((lo+hi) / 2)with z | z
     ·exact Nat.lt_trans (mono k _ hk hm z) q
     ·have:k=(lo+hi) / 2:=by lia
      subst this;exact q
    ·rw[if_neg q]
     refine ih _ _ (by lia) (by lia) (by lia) h4 λk hk hle=>?_
     rcases AC1 ((lo+hi) / 2) k with z | z
     ·exact AAq (AD4.mp q) (AE2 (mono _ k hm hk z))
     ·have:k=(lo+hi) / 2:=by lia
      subst this;exact AD4.mp q
   ·rw[if_neg h]
    have:lo=hi:=by lia
    subst this;exact⟨h2,h4,h5⟩
 exact go xs.size 0 xs.size (AAX _) (AA8 _) (by lia) (λk _ h=>absurd h (ABz _)) λk h h'=>absurd h (AD4.mpr h')
def below_at(hr:xs.toList.Pairwise (· < ·))(h:xs[i]?=some j):AAe xs j=i:=by
 obtain⟨hi,e⟩:=AAu.mp h;obtain⟨b1,b2,b3⟩:=below_spec xs hr j;have mono:∀a b (ha:a<xs.size) (hb:b<xs.size),a<b->xs[a]<xs[b]:=λa b ha hb h=>by
  have:=ADI.mp hr a b (by simpa using ha) (by simpa using hb) h
  simpa using this
 rcases AD6 (AAe xs j) i with q | q | q
 ·have hb:AAe xs j<xs.size:=by lia
  have:=b3 _ hb (AA8 _);have:=mono _ i hb hi q;lia
 ·exact q
 ·have:=b2 i hi q
  lia
def slot_live{t:SetTable}(hr:t.place.toList.Pairwise (· < ·)){i j:Nat}(h:t.place[i]?=some j):t.slot j=.live i:=by
 unfold SetTable.slot;simp only[below_at hr h];rw[if_pos (by rw[h];simp)]
def xg{t:SetTable}(hd:t.dummies = #[]){j:Nat}(h:j∉t.place.toList):t.slot j=.empty:=by
 unfold SetTable.slot;have e1:¬(t.place[AAe t.place j]?==some j)=true:=λz=>h (by
  rw[beq_iff_eq]at z;have:=Array.mem_of_getElem? z;simpa using this)
 have e2:SetTable.has t.dummies j=false:=by rw[hd];rfl
 simp only[e1,if_false,e2,AAE]
def go_spec{t:SetTable}(hr:t.place.toList.Pairwise (· < ·))(hd:t.dummies = #[])(hashAt:Nat->Int)(h:Int):∀(fuel n N:Nat),n<=N->N<n+fuel->(sq t.mask h N).j∉t.place.toList->(∀k,n<=k->k<N->(sq t.mask h k).j∈t.place.toList) ->
  (∀k,(sq t.mask h k).dummy=none) ->
  ((∀k i,n<=k->k<N->t.place[i]?=some (sq t.mask h k).j->hashAt i≠h)/\AEX t hashAt h fuel (sq t.mask h n)=some (.empty (sq t.mask h N).j none)) \/
  ∃n' i,n<=n'/\n' < N/\t.place[i]?=some (sq t.mask h n').j/\hashAt i=h/\(∀k i,n<=k->k<n'->t.place[i]?=some (sq t.mask h k).j->hashAt i≠h)/\AEX t hashAt h fuel (sq t.mask h n)=some (.candidate (sq t.mask h n').j i (sq t.mask h (n'+1))):=by
 intro fuel;induction fuel with
 | zero=>intro n N h1 h2;lia
 | succ fuel ih =>
  intro n N h1 h2 h3 h4 h5;unfold AEX;by_cases e:n=N
  ·subst e
   rw[xg hd h3];exact .inl ⟨λk i a b=>by lia,by rw[h5]⟩
  ·have hm:=h4 n (AA8 _) (by lia)
   obtain⟨i,hi⟩:=ABE hm;have hi':t.place[i]?=some (sq t.mask h n).j:=by rw[<-AAS];exact hi
   rw[slot_live hr hi'];dsimp only;have uq:∀i',t.place[i']?=some (sq t.mask h n).j->i'=i:=λi' z=>by rw[<-below_at hr z,below_at hr hi']
   by_cases q:hashAt i=h
   ·simp only[beq_iff_eq,q,if_true]
    exact .inr ⟨n,i,AA8 _,by lia,hi',q,λk i a b=>by lia,rfl⟩
   ·simp only[beq_iff_eq,q,if_false]
    rcases ih (n+1) N (by lia) (by lia) h3 (λk a b=>h4 k (by lia) b) h5 with⟨z1,z2⟩|⟨n',i',a1,a2,a3,a4,a5,a6⟩
    ·refine .inl ⟨λk i' a b c=>?_,z2⟩
     rcases AC1 n k with z | z
     ·exact z1 k i' z b c
     ·have:k=n:=by lia
      subst this;rw[uq i' c];exact q
    ·refine .inr ⟨n',i',by lia,a2,a3,a4,λk i'' a b c=>?_,a6⟩
     rcases AC1 n k with z | z
     ·exact a5 k i'' z b c
     ·have:k=n:=by lia
      subst this;rw[uq i'' c];exact q
def sq_dummy(m:Nat)(h:Int):∀n,(sq m h n).dummy=none
 | 0=>rfl
 | n+1=>by
  show (adv m (sq m h n)).dummy=none;unfold adv;split
  ·exact sq_dummy m h n
  ·exact sq_dummy m h n
structure TOk(t:SetTable)(hs:List Int):Prop where
 msk:mW t.mask
 len:t.place.size=hs.length
 nod:t.dummies = #[]
 ris:t.place.toList.Pairwise (· < ·)
 rng:∀j∈t.place.toList,j<=t.mask
 few:t.place.size*5<t.mask*3
 path:∀(i:Nat) (h:Int) (j:Nat),hs[i]?=some h->t.place[i]?=some j->∃n,(sq t.mask h n).j=j/\∀n',n' < n->(sq t.mask h n').j∈t.place.toList
def Aw{m:Nat}{l:List Nat}(hn:l.Nodup)(hr:∀j∈l,j<=m)(hl:l.length<=m):∃j,j<=m/\j∉l:=by
 refine AB8 λhc=>?_
 have all:∀j∈AAk (m+1),j∈l:=λj hj=>AB8 λhj'=>hc ⟨j,by have:=AAz.mp hj;lia,hj'⟩
 have:=L2.nodup_le (AAk (m+1)) l List.nodup_range all;rw[ACZ]at this;lia
def uj{m:Nat}(hm:mW m){l:List Nat}(hn:l.Nodup)(hr:∀j∈l,j<=m)(hl:l.length<=m)(h:Int):∃N,N<10*(m+15)/\(sq m h N).j∉l/\∀k,k<N->(sq m h k).j∈l:=by
 obtain⟨s,hs,hs'⟩:=Aw hn hr hl;obtain⟨n,hn1,hn2⟩:=EN hm h hs;have:∀b n,n<b->(sq m h n).j∉l->∃N,N<=n/\(sq m h N).j∉l/\∀k,k<N->(sq m h k).j∈l:=by
  intro b;induction b with
  | zero=>intro n h;lia
  | succ b ih =>
   intro n hb hq;by_cases q:∀k,k<n->(sq m h k).j∈l
   ·exact⟨n,AA8 _,hq,q⟩
   ·have:∃k,k<n/\(sq m h k).j∉l:=AB8 λz=>q λk hk=>AB8 λz'=>z ⟨k,hk,z'⟩
    obtain⟨k,hk,hk'⟩:=this;obtain⟨N,a1,a2,a3⟩:=ih k (by lia) hk'
    exact⟨N,by lia,a2,a3⟩
 obtain⟨N,a1,a2,a3⟩:=this (n+1) n (AB6 _) (by rw[hn2];exact hs')
 exact⟨N,by lia,a2,a3⟩
def TOk.empty{t:SetTable}{hs:List Int}(T:TOk t hs)(h:Int):∃N,N<10*(t.mask+15)/\(sq t.mask h N).j∉t.place.toList/\∀k,k<N->(sq t.mask h k).j∈t.place.toList:=by
 refine uj T.msk (T.ris.imp λh=>AAN h) T.rng ?_ h
 have:=T.few;rw[AAO];rcases T.msk with e | e | e<;>lia
def zb{t:SetTable}(hr:t.place.toList.Pairwise (· < ·)){j:Nat}(hj:j∉t.place.toList) :
  (t.put j).1.place.toList=t.place.toList.take (AAe t.place j)++j::t.place.toList.drop (AAe t.place j)/\(t.put j).1.place.toList.Pairwise (· < ·):=by
 obtain⟨b1,b2,b3⟩:=below_spec t.place hr j;have e:(t.put j).1.place.toList=t.place.toList.take (AAe t.place j)++j::t.place.toList.drop (AAe t.place j):=by
  show (ADp t.place (AAe t.place j) j).toList=_;rw[SetTable.toList_insertAt]
 refine⟨e,?_⟩;rw[e,List.pairwise_append];refine⟨hr.sublist (List.take_sublist ..),List.pairwise_cons.mpr ⟨λx hx=>?_,hr.sublist (List.drop_sublist ..)⟩,λx hx y hy=>?_⟩
 ·obtain⟨k,hk⟩:=ABE hx
  rw[ACQ]at hk;have hk':t.place[AAe t.place j+k]?=some x:=by rw[<-AAS];exact hk
  obtain⟨hl,ex⟩:=AAu.mp hk';have:=b3 _ hl (ADM _ _);rw[ex]at this;rcases AC1 j x with z | z
  ·exact z
  ·have:x=j:=by lia
   subst this;exact absurd (List.mem_of_mem_drop hx) hj
 ·obtain⟨k,hk⟩:=ABE hx
  rw[List.getElem?_take]at hk;split at hk
  ·rename_i hkl
   have hk':t.place[k]?=some x:=by rw[<-AAS];exact hk
   obtain⟨hl,ex⟩:=AAu.mp hk';have h1:=b2 k hl hkl;rw[ex]at h1;rcases AAQ.mp hy with rfl | hy
   ·exact h1
   ·obtain⟨k2,hk2⟩:=ABE hy
    rw[ACQ]at hk2;have hk2':t.place[AAe t.place j+k2]?=some y:=by rw[<-AAS];exact hk2
    obtain⟨hl2,ey⟩:=AAu.mp hk2';have:=b3 _ hl2 (ADM _ _);rw[ey]at this;lia
  ·cases hk
end Ht
namespace L2
open PySem PySem.Spec PyProof.Rows DL PySem.W
def fH:Slot "set_iterator" "__iter__" "set_iterator.__iter__" :=
 .of (owner:="set_iterator") (n:="__iter__") (by rw[AEL,ACw];kernel_rfl) (by decide +kernel) (by decide +kernel) (by decide +kernel) (by first | exact .inl (by decide +kernel) | exact .inr (by decide +kernel)) (by rw[isSubtype_type];kernel_rfl)
def kB:entryFor table "set_iterator.__iter__" = some Builtin.«dict_keyiterator.__iter__»:=entryFor_alias (id':="dict_keyiterator.__iter__") (by kernel_rfl) rfl (by decide +kernel) (by kernel_rfl)
theorem mF(a:Value):argsOk "set_iterator.__iter__" ⟨[a],[]⟩:=by
 unfold argsOk;rw[signature?_of (id:="set_iterator.__iter__") (n:=['_','_','r','e','t','i','_','_']) (o:=['r','o','t','a','r','e','t','i','_','t','e','s']) (by kernel_rfl) lU];kernel_rfl
section
variable{prog:Program}{w:World}{A:Around}{E:Value->Shared->Prop}{s:Shared}{a it:Addr}{o:Obj}{es:Array (Int×Value)}{ep:Nat}{t:SetTable}
def fU(hI:s.heap.get? it=some (eS first i n a ep))(h:Q (.ref it) s):wpAny (model prog w) A (pyIter (.ref it)) Q E s:=by
 have hT:s.TypeIs (.ref it) "set_iterator":=⟨_,hI,rfl⟩;refine ADq hT fH (AAw fH hT kB (show wpAny _ _ (ret (.ref it)) _ _ s from ?_) (mF _));exact AA2 ⟨_,rfl,"set_iterator",_,hT,bh.lookup,h⟩
def SetAt.at(S:SetAt h a o es ep t)(k:∀o,h.get? a=some o->h'.get? a=some o):SetAt h' a o es ep t:=⟨k _ S.ob,S.dt,S.ft⟩
def kb(hb:w.params.followText "set-order" = true)(S:SetAt s.heap a o es ep t)(h:Q (((pickOrder (w.params.setOrder a ep) es)[i]?).map λe=>(e.2,0)) s) :
  wpAny (model prog w) A (setNext a 0 i ep) Q E s:=by
 unfold setNext;refine AA1 (ABL S.ob S.dt S.ft ?_);unfold setsByText;refine AA1 (AA1 (ACM (AA2 ?_)));simp only[model,hb,if_true,bne_self_eq_false,AAE,if_false];unfold setWalk;refine AA1 (AA1 (ABL S.ob S.dt S.ft ?_));unfold setsByText;refine AA1 (AA1 (ACM (AA2 ?_)));simp only[model,hb,if_true];exact AA1 (ACM (AA2 (AA2 h)))
def wT(hb:w.params.followText "set-order" = true)(hh:A.handled=none)(hne:a≠it) :
  Walks prog w A it [it,a] [it] es.size (λi v=>((pickOrder (w.params.setOrder a ep) es).toList.map (·.2))[i]?=some v) (λi h=>h.get? it=some (eS (rawInt 0) i es.size a ep)/\SetAt h a o es ep t) where
 sub:=λb hb=>by simp at hb;simp[hb]
 frame:=λ_ _ _ st hk=>⟨hk it (by simp) _ st.1,st.2.at λo e=>hk a (by simp) o e⟩
 item:=λi s Q E hi st hQ=>by
  have hl:(pickOrder (w.params.setOrder a ep) es).size=es.size:=by have:=(lO (w.params.setOrder a ep) es).length_eq;simpa using this
  obtain⟨e,he⟩:∃e,(pickOrder (w.params.setOrder a ep) es)[i]?=some e:=⟨_,AAJ (by rw[hl];exact hi)⟩
  refine lZ (slot:=0) (next:=0) (x:=e.2) st.1 st.2 (λA E Q q=>kb hb st.2 (by rw[he];exact q)) λh' h1 sb=>hQ _ h' s.toks (by simp[he]) ⟨h1,st.2.at λo e=>(sb.2 a hne).trans e⟩ λb o hb e=>(sb.2 b (by simpa using hb)).trans e
 done:=λs Q E st hQ=>by
  have hl:(pickOrder (w.params.setOrder a ep) es).size=es.size:=by have:=(lO (w.params.setOrder a ep) es).length_eq;simpa using this
  refine eM (slot:=0) hh st.1 st.2 (λA E Q q=>kb hb st.2 ?_) λh' k=>hQ h' s.toks λb o hb e=>k b o (by simpa using hb) e
  rw[ABq (by rw[hl];exact AA8 _)]
  exact q
 self:=λ_ _ _ _ st hQ=>fU st.1 hQ
def sV{tt:Addr}{ps:List Nat}(hp:ps.Perm (AAk es.size))(hh:A.handled=none)(hne:a≠it)(hnt:tt≠it) :
  Walks prog w A it [it,a,tt] [it] es.size (λi v=>(ps.filterMap λj=>(es[j]?).map (·.2))[i]?=some v) (λi h=>h.get? it=some (eS (.ref tt) i es.size a ep)/\SetAt h a o es ep t/\h.IsTuple tt (ps.map λ(k:Nat)=>rawInt k).toArray) where
 sub:=λb hb=>by simp at hb;simp[hb]
 frame:=λ_ _ _ st hk=>⟨hk it (by simp) _ st.1,st.2.1.at λo e=>hk a (by simp) o e,let ⟨o,e,r⟩:=st.2.2;⟨o,hk tt (by simp) _ e,r⟩⟩
 item:=λi s Q E hi st hQ=>by
  have hl:ps.length=es.size:=by have:=hp.length_eq;simpa using this
  have hall:∀j∈ps,j<es.size:=λj hj=>by have:=hp.mem_iff.mp hj;simpa using this
  have hj:ps[i]?=some ps[i]:=AA6 (by lia)
  have hlt:ps[i]<es.size:=hall _ (ABA _);have he:es[ps[i]]?=some es[ps[i]]:=AAJ hlt;have fm:(ps.filterMap λj=>(es[j]?).map (·.2))=ps.map λj=>(es.getD j default).2:=by
   clear hj hl hp hi st hQ he hlt;induction ps with
   | nil=>rfl
   | cons j r ih =>
    have hj:=hall j AAG;rw[AB5,AAJ hj,AAf,<-ih λk hk=>hall k (AA9 _ hk)]
    simp[ACK,hj]
  refine xp st.1 st.2.2 st.2.1 hj he λh' h1 sb=>hQ _ h' s.toks ?_ ⟨h1,st.2.1.at λo e=>(sb.2 a hne).trans e,let ⟨o,e,r⟩:=st.2.2;⟨o,(sb.2 tt hnt).trans e,r⟩⟩ λb o hb e=>(sb.2 b (by simpa using hb)).trans e
  rw[fm,AAR,hj];simp[ACK,hlt]
 done:=λs Q E st hQ=>by
  have hl:ps.length=es.size:=by have:=hp.length_eq;simpa using this
  exact mO hh st.1 st.2.2 st.2.1 (ABO (by lia)) λh' k=>hQ h' s.toks λb o hb e=>k b o (by simpa using hb) e
 self:=λ_ _ _ _ st hQ=>fU st.1 hQ
def kc(hb:w.params.followText "set-order" = false)(hled:t.led=true)(hsz:es.size<=1)(S:SetAt s.heap a o es ep t)
  (h:Q (match es[AAe t.place slot]?,t.place[AAe t.place slot]? with | some (_,x),some j=>some (x,j+1) | _,_=>none) s) :
  wpAny (model prog w) A (setNext a slot i ep) Q E s:=by
 unfold setNext;refine AA1 (ABL S.ob S.dt S.ft ?_);unfold setsByText;refine AA1 (AA1 (ACM (AA2 ?_)));simp only[model,hb,AAE,if_false];refine ABh (λz=>?_) λ_=>?_
 ·have z':(!t.plain&&decide (es.size > 1))=true:=z
  simp at z';lia
 ·refine AA1 (show wpAny (model prog w) A (if (!t.led && !es.isEmpty)=true then unsupported _ else pure ()) _ _ s from ?_)
  rw[hled];simp only[ABi,Bool.false_and,AAE,if_false];exact AA2 (AA2 h)
def sI(j k:Nat):AAe #[j] k=if j<k then 1 else 0:=by
 unfold AAe;simp only[AAC,AAK,AAU];unfold ACD;simp only[Nat.zero_lt_succ,if_true];by_cases h:j<k
 ·simp[h,ACD]
 ·simp[h,ACD]
def wU(hb:w.params.followText "set-order" = false)(hled:t.led=true)(hsz:es.size<=1)(hh:A.handled=none)(hne:a≠it) :
  Walks prog w A it [it,a] [it] es.size (λi v=>(es.toList.map (·.2))[i]?=some v) (λi h=>h.get? it=some (eS (rawInt (if i=0 then 0 else t.place.getD 0 0+1:Nat)) i es.size a ep)/\SetAt h a o es ep t) where
 sub:=λb hb=>by simp at hb;simp[hb]
 frame:=λ_ _ _ st hk=>⟨hk it (by simp) _ st.1,st.2.at λo e=>hk a (by simp) o e⟩
 item:=λi s Q E hi st hQ=>by
  obtain rfl:i=0:=by lia
  have ps:t.place.size=1:=by have:=st.2.ft;simp[ADg]at this;lia
  obtain⟨j,hj⟩:∃j,t.place = #[j]:=⟨t.place[0],by apply Array.ext (by simpa using ps);intro i h1 h2;simp at h2;subst h2;rfl⟩
  have he:es[0]?=some es[0]:=AAJ hi;refine lZ (slot:=0) (next:=j+1) (x:=es[0].2) st.1 st.2 (λA E Q q=>kc hb hled hsz st.2 ?_) λh' h1 sb=>hQ _ h' s.toks ?_ ⟨?_,st.2.at λo e=>(sb.2 a hne).trans e⟩ λb o hb e=>(sb.2 b (by simpa using hb)).trans e
  ·rw[hj,sI,if_neg (ABz _),he]
   exact q
  ·rw[AAR,AAS,he];rfl
  ·simpa [hj]using h1
 done:=λs Q E st hQ=>by
  refine eM (slot:=if es.size=0 then 0 else t.place.getD 0 0+1) hh st.1 st.2 (λA E Q q=>kc hb hled hsz st.2 ?_) λh' k=>hQ h' s.toks λb o hb e=>k b o (by simpa using hb) e
  have ps:t.place.size=es.size:=by have:=st.2.ft;simp[ADg]at this;lia
  by_cases z:es.size=0
  ·have:es = #[]:=Array.eq_empty_of_size_eq_zero z
   subst this;simpa using q
  ·obtain⟨j,hj⟩:∃j,t.place = #[j]:=⟨t.place[0],by apply Array.ext (by simp;lia);intro i h1 h2;simp at h2;subst h2;rfl⟩
   have e1:AAe t.place (if es.size=0 then 0 else t.place.getD 0 0+1)=1:=by rw[if_neg z,hj,sI];simp
   rw[e1,ABq (by lia)]
   exact q
 self:=λ_ _ _ _ st hQ=>fU st.1 hQ
def kg(hb:w.params.followText "set-order" = false)(hled:t.led=true)(hnd:(!t.plain&&decide (es.size > 1))=false)(S:SetAt s.heap a o es ep t)
  (h:Q (match es[AAe t.place slot]?,t.place[AAe t.place slot]? with | some (_,x),some j=>some (x,j+1) | _,_=>none) s) :
  wpAny (model prog w) A (setNext a slot i ep) Q E s:=by
 unfold setNext;refine AA1 (ABL S.ob S.dt S.ft ?_);unfold setsByText;refine AA1 (AA1 (ACM (AA2 ?_)));simp only[model,hb,AAE,if_false];refine ABh (λz=>?_) λ_=>?_
 ·have z':(!t.plain&&decide (es.size > 1))=true:=z
  rw[hnd]at z';cases z'
 ·refine AA1 (show wpAny (model prog w) A (if (!t.led && !es.isEmpty)=true then unsupported _ else pure ()) _ _ s from ?_)
  rw[hled];simp only[ABi,Bool.false_and,AAE,if_false];exact AA2 (AA2 h)
def wV(hb:w.params.followText "set-order" = false)(hled:t.led=true)(hnd:(!t.plain&&decide (es.size > 1))=false)(hr:t.place.toList.Pairwise (· < ·))(hh:A.handled=none)(hne:a≠it) :
  Walks prog w A it [it,a] [it] es.size (λi v=>(es.toList.map (·.2))[i]?=some v) (λi h=>h.get? it=some (eS (rawInt (if i=0 then 0 else t.place.getD (i-1) 0+1:Nat)) i es.size a ep)/\SetAt h a o es ep t):=by
 have bel:∀i,i<=t.place.size->AAe t.place (if i=0 then 0 else t.place.getD (i-1) 0+1)=i:=λi hi=>by
  obtain⟨b1,b2,b3⟩:=Ht.below_spec t.place hr (if i=0 then 0 else t.place.getD (i-1) 0+1);have mono:∀a b (ha:a<t.place.size) (hb:b<t.place.size),a<b->t.place[a]<t.place[b]:=λa b ha hb h=>by
   have:=ADI.mp hr a b (by simpa using ha) (by simpa using hb) h
   simpa using this
  by_cases z:i=0
  ·rw[if_pos z]at b1 b2 b3 ⊢
   rcases Nat.eq_zero_or_pos (AAe t.place 0)with q | q
   ·rw[q,z]
   ·have:=b2 0 (by lia) q
    lia
  ·rw[if_neg z]at b1 b2 b3 ⊢
   have hl:i-1<t.place.size:=by lia
   have eg:t.place.getD (i-1) 0=t.place[i-1]:=by simp[ACK,hl]
   rw[eg]at b1 b2 b3 ⊢;rcases AD6 (AAe t.place (t.place[i-1]+1)) i with q | q | q
   ·have:=b3 (i-1) hl (by lia)
    lia
   ·exact q
   ·have:=b2 i (by lia) q
    have:=mono (i-1) i hl (by lia) (by lia)
    lia
 exact {
  sub:=λb hb=>by simp at hb;simp[hb]
  frame:=λ_ _ _ st hk=>⟨hk it (by simp) _ st.1,st.2.at λo e=>hk a (by simp) o e⟩
  item:=λi s Q E hi st hQ=>by
   have ps:t.place.size=es.size:=by have:=st.2.ft;simp[ADg]at this;lia
   have hp:i<t.place.size:=by lia
   have he:es[i]?=some es[i]:=AAJ hi;have hpl:t.place[i]?=some t.place[i]:=AAJ hp;refine lZ (next:=t.place[i]+1) (x:=es[i].2) st.1 st.2 (λA E Q q=>kg hb hled hnd st.2 ?_) λh' h1 sb=>hQ _ h' s.toks ?_ ⟨?_,st.2.at λo e=>(sb.2 a hne).trans e⟩ λb o hb e=>(sb.2 b (by simpa using hb)).trans e
   ·rw[bel i (by lia),he,hpl]
    exact q
   ·rw[AAR,AAS,he];rfl
   ·rw[if_neg (Nat.succ_ne_zero i),Nat.add_sub_cancel,show t.place.getD i 0=t.place[i] by simp[ACK,hp]]
    exact h1
  done:=λs Q E st hQ=>by
   have ps:t.place.size=es.size:=by have:=st.2.ft;simp[ADg]at this;lia
   refine eM hh st.1 st.2 (λA E Q q=>kg hb hled hnd st.2 ?_) λh' k=>hQ h' s.toks λb o hb e=>k b o (by simpa using hb) e
   rw[bel es.size (by lia),ABq (AA8 _)]
   exact q
  self:=λ_ _ _ _ st hQ=>fU st.1 hQ }
end
section
variable{prog:Program}{w:World}{A:Around}{E:Value->Shared->Prop}{s:Shared}{a:Addr}{o:Obj}{es:Array (Int×Value)}{ep:Nat}{t:SetTable}
def CD(S:SetAt s.heap a o es ep t)(hc:o.cls=.type "set")(hpl:t.plain=true->es.size<=1\/t.place.toList.Pairwise (· < ·))(hled:t.led = !w.params.followText "set-order")(hz:es.size<=sizeLine)
  (h:∀(it:Addr) (h':Heap) (d:Drawn) (vs:List Value) (fp:List Addr) (St:Nat->Heap->Prop),(∀b o,s.heap.get? b=some o->h'.get? b=some o)->vs.Perm (es.toList.map (·.2))->s.heap.objs.size<=it->it<h'.objs.size->(∀b∈fp,b=a\/s.heap.objs.size<=b/\b<h'.objs.size) ->
   (∀A':Around,A'.handled=none->Walks prog w A' it fp [it] es.size (λi v=>vs[i]?=some v) St)->St 0 h'->Q (.ref it) { s with heap:=h',drawn:=d }):wpAny (model prog w) A (pyIter (.ref a)) Q E s:=by
 have hT:s.TypeIs (.ref a) "set":=⟨o,S.ob,hc⟩;have la:a<s.heap.objs.size:=AAF S.ob;refine ADq hT F.slot_set_iter (AAw F.slot_set_iter hT pL ?_ (F.args_set_iter_1 _));unfold Builtin.«frozenset.__iter__»;refine AA1 (show wpAny (model prog w) _ (pure a) _ _ s from AA2 ?_);unfold Builtin.Frozenset.sizeOf;refine AA1 (AA1 (ACi S.ob S.dt S.ft (AA2 ?_)));unfold setDrawn;refine AA1 (AA1 (ABL S.ob S.dt S.ft ?_));unfold setsByText;refine AA1 (AA1 (ACM (AA2 (AA2 ?_))));by_cases hd:(!w.params.followText "set-order" && (!t.plain&&decide (es.size > 1)))=true
 ·refine ABh (λ_=>?_) λz=>absurd hd z
  refine AA1 (sk _ _ _ _ (by simp) λps d hp=>?_)
  refine AA1 (show wpAny (model prog w) _ (newObj (.type "tuple") (.seq (ps.map λ(i:Nat)=>rawInt i).toArray)) _ _ _ from AAp ?_ (by have e:=hp.length_eq;rw[ACZ]at e;show (ps.map λ(i:Nat)=>rawInt i).toArray.size<=sizeLine;rw[AAC,AA4,e];exact hz))
  have S1:=S.at (h':=s.heap.push { cls:=.type "tuple",data:=.seq (ps.map λ(i:Nat)=>rawInt i).toArray }) λo e=>AA3 _ e
  refine AA1 (wpAny_setEpoch_of (s:={ s with heap:=_,drawn:=d }) S1.ob S1.dt S1.ft ?_)
  refine AA1 (show wpAny (model prog w) _ (newObj (.type "set_iterator") (.fields #[.ref s.heap.objs.size,rawInt 0,.ref a,rawInt es.size,rawInt ep])) _ _ _ from AAp ?_ (by size_fits))
  refine AA2 ⟨_,rfl,"set_iterator",_,⟨_,AAA _ rfl,rfl⟩,bh.lookup,?_⟩;have sz:(s.heap.push { cls:=.type "tuple",data:=.seq (ps.map λ(i:Nat)=>rawInt i).toArray }).objs.size=s.heap.objs.size+1:=ABW ..
  refine h _ _ d (ps.filterMap λj=>(es[j]?).map (·.2)) _ _ (λb o e=>AA3 _ (AA3 _ e)) ?_ (by show s.heap.objs.size<=(s.heap.push _).objs.size;rw[sz];exact AEI _) (by show _<((s.heap.push _).push _).objs.size;rw[ABW (h:=s.heap.push _)];exact AB6 _) ?_
   (λA' hh=>sV (o:=o) (t:=t) (ep:=ep) hp hh (AAN (by rw[sz];exact ABs la)) (AAN (by rw[sz];exact AB6 _))) ⟨AAA _ rfl,S1.at λo e=>AA3 _ e,⟨_,AA3 _ (AAA _ rfl),rfl,_,rfl⟩⟩
  ·refine(hp.filterMap _).trans ?_
   have e1:(AAk es.size).filterMap (λj=>(es[j]?).map (·.2))=((AAk es.size).filterMap λj=>es[j]?).map (·.2):=by rw[List.map_filterMap]
   rw[e1,filterMap_getElem?_range]
  ·intro b hb
   rw[ABW,sz];rcases AAQ.mp hb with rfl | hb
   ·exact .inr ⟨by rw[sz];exact AEI _,by rw[sz];exact AB6 _⟩
   ·rcases AAQ.mp hb with rfl | hb
    ·exact .inl rfl
    ·rw[AAt.mp hb]
     exact .inr ⟨AA8 _,ABs (AB6 _)⟩
 ·refine ABh (λz=>absurd z hd) λ_=>?_
  refine AA1 (AA2 (AA1 (wpAny_setEpoch_of S.ob S.dt S.ft ?_)));refine AA1 (show wpAny (model prog w) _ (newObj (.type "set_iterator") (.fields #[rawInt 0,rawInt 0,.ref a,rawInt es.size,rawInt ep])) _ _ _ from AAp ?_ (by size_fits))
  refine AA2 ⟨_,rfl,"set_iterator",_,⟨_,AAA _ rfl,rfl⟩,bh.lookup,?_⟩;have S1:=S.at (h':=s.heap.push (eS (rawInt 0) 0 es.size a ep)) λo e=>AA3 _ e
  have fpl:∀b∈[s.heap.objs.size,a],b=a\/s.heap.objs.size<=b/\b<(s.heap.push (eS (rawInt 0) 0 es.size a ep)).objs.size:=λb hb=>by
   rcases AAQ.mp hb with rfl | hb
   ·exact .inr ⟨AA8 _,by rw[ABW];exact AB6 _⟩
   ·exact .inl (AAt.mp hb)
  by_cases hb:w.params.followText "set-order" = true
  ·refine h _ _ s.drawn ((pickOrder (w.params.setOrder a ep) es).toList.map (·.2)) _ _ (λb o e=>AA3 _ e) ((lO _ es).map _) (AA8 _) (by rw[ABW];exact AB6 _) fpl
    (λA' hh=>wT (o:=o) (t:=t) (ep:=ep) hb hh (AAN la)) ⟨AAA _ rfl,S1⟩
  ·have hb':w.params.followText "set-order" = false:=by simpa using hb
   have hnd:(!t.plain&&decide (es.size > 1))=false:=by
    rw[hb']at hd;simpa using hd
   have ak:es.size<=1\/t.place.toList.Pairwise (· < ·):=by
    by_cases q:t.plain=true
    ·exact hpl q
    ·simp[q]at hnd
     exact .inl hnd
   rcases ak with h1 | hr
   ·refine h _ _ s.drawn (es.toList.map (·.2)) _ _ (λb o e=>AA3 _ e) (ACm _) (AA8 _) (by rw[ABW];exact AB6 _) fpl
     (λA' hh=>wU (o:=o) (t:=t) (ep:=ep) hb' (by rw[hled,hb'];rfl) h1 hh (AAN la)) ⟨?_,S1⟩
    rw[if_pos rfl];exact AAA _ rfl
   ·refine h _ _ s.drawn (es.toList.map (·.2)) _ _ (λb o e=>AA3 _ e) (ACm _) (AA8 _) (by rw[ABW];exact AB6 _) fpl
     (λA' hh=>wV (o:=o) (t:=t) (ep:=ep) hb' (by rw[hled,hb'];rfl) hnd hr hh (AAN la)) ⟨?_,S1⟩
    rw[if_pos rfl];exact AAA _ rfl
end
end L2
namespace L2
open PySem PySem.Spec PyProof.Rows DL PySem.W PySem.Calls PyProof.V
section
variable{prog:Program}{w:World}{A:Around}{E:Value->Shared->Prop}{s:Shared}{a:Addr}{o:Obj}{es:Array (Int×Value)}{ep:Nat}{t:SetTable}
def CI(hT:s.TypeIs (.ref a) "set")(h:Q false s):wpAny (model prog w) A (AEM (.ref a)) Q E s:=by
 unfold AEM;refine AA1 (AC0 hT F.slot_set_len.lookup ?_);generalize hi:("set.__len__":String)=ident
 wp_delta
 rw[show splitId ident=some ("set","__len__") by rw[<-hi];decide +kernel]
 rw[<-hi];refine AA1 (ACN (T:="set") (b:=true) hT sub_set_self (ABh (λz=>absurd z (by decide)) λ_=>ABh (λ_=>AA1 (ACe hT (AA2 h))) λz=>absurd (by decide +kernel) z))
def xK{R:Result->Shared->Prop}(hh:A.handled=none)(S:SetAt s.heap a o es ep t)(hc:o.cls=.type "set")(hpl:t.plain=true->es.size<=1\/t.place.toList.Pairwise (· < ·))(hled:t.led = !w.params.followText "set-order")(hz:es.size<=sizeLine)
  {D:Addr}{c₀:Nat} (hDa:D≠a) (hD:s.heap.get? D=some { cls:=.type "list",data:=.seq #[] c₀ }) (res:Value)
  (hR:∀h' tk d vs c,(∀b u,b≠D->s.heap.get? b=some u->h'.get? b=some u)->h'.get? D=some { cls:=.type "list",data:=.seq vs c }->vs.toList.Perm (es.toList.map (·.2))->R (.ok (.ret res)) { s with heap:=h',toks:=tk,drawn:=d }) :
  wpAny (model prog w) A.in1 (ACF (.ref D) (.ref a) res)
   (λfin s'=>match fin with | .done f=>R (.ok f) s' | .again c'=>c'.quiet=true/\codeAny (model prog w) A c' R s') (λe s'=>R (.error e) s') s:=by
 have ld:D<s.heap.objs.size:=AAF hD;have hT:s.TypeIs (.ref a) "set":=⟨o,S.ob,hc⟩;unfold ACF;refine AA1 (ACe hT ?_);have e1:Builtin.List.listSameRef (.ref D) (.ref a)=false:=by simp[Builtin.List.listSameRef,hDa]
 have e2:(ADO "set" == ADO "list")=false:=by decide
 have e3:(ADO "set" == ADO "tuple")=false:=by decide
 simp only[e1,e2,e3,ADY,AAE,if_false];refine AA1 (CD S hc hpl hled hz λit h1 d vs fp St k1 pv lit uit hfp W st=>?_)
 have hDf:D∉fp:=λz=>by
  rcases hfp D z with e | ⟨e,_⟩
  ·exact hDa e
  ·exact absurd ld (AD4.mpr e)
 have lv:vs.length=es.size:=by have:=pv.length_eq;simpa using this
 have go:∀(h:Heap) (c₁:Nat),St 0 h->(∀b u,b≠D->h1.get? b=some u->h.get? b=some u)->h.get? D=some { cls:=.type "list",data:=.seq #[] c₁ } ->
   codeAny (model prog w) A (.builtin "list.extend.loop" ⟨[.ref D,.ref it,res],[]⟩) R { s with heap:=h,drawn:=d }:=λh c₁ st' kk hD'=>by
  refine codeAny_extend_loopS (W A.in1 (by simp[hh])).toS hz D hDf res es.size 0 _ #[] c₁ rfl (AAX _) st' hD' (ItemsOf.nil _) λs' acc c' hm hD'' hacc=>?_
  rw[Moved.eq_with hm];have ea:acc.toList=vs:=by
   apply ADn
   intro i;by_cases hi:i<es.size
   ·have hi':i<acc.size:=by rw[hacc.1];exact hi
    have h1:acc[i]?=some acc[i]:=AAJ hi';rw[AAS,h1];exact(hacc.2 i _ h1).symm
   ·rw[ABO (by rw[AAO,hacc.1];lia),ABO (by lia)]
  refine hR s'.heap s'.toks d acc c' (λb u hb e=>hm.heap b u (λz=>?_) (kk b u hb (k1 b u e))) hD'' (by rw[ea];exact pv)
  rcases AAQ.mp z with e' | z
  ·exact hb e'
  ·rw[AAt.mp z]at e
   exact absurd (AAF e) (AD4.mpr lit)
 have hD1:=k1 _ _ hD;refine AA1 (AAr (CI (s:={ s with heap:=h1,drawn:=d }) ⟨o,k1 _ _ S.ob,hc⟩ ?_))
 refine ABh (λz=>?_) λ_=>AA2 ⟨AD9 F.plain_extend_loop _,go h1 c₀ st (λ_ _ _ e=>e) hD1⟩
 refine AA1 (AD5 (AA1 (show wpAny (model prog w) _ (updateSeq D (·.push .none) >>= λ_=>updateSeq D (·.pop)) _ _ _ from AA1 (wpAny_updateSeq hD1 rfl ?_))))
 have hD2:=AAj (ABJ (·.push AC3)) hD1 rfl;refine wpAny_updateSeq (hz:=by seq_fits) hD2 rfl ?_
 have hD3:=AAj (ABJ (·.pop)) hD2 rfl;have other:∀b,b≠D->((h1.update D (ABJ (·.push AC3))).update D (ABJ (·.pop))).get? b=h1.get? b:=λb hb=>by
  rw[ABo _ _ (ABM hb),ABo _ _ (ABM hb)]
 refine AA2 ⟨AD9 F.plain_extend_loop _,go _ _ ((W A hh).frame 0 _ _ st λb hb u e=>(other b λq=>hDf (q ▸ hb)).trans e) (λb u hb e=>(other b hb).trans e) hD3⟩
def xf{Q:Value->Shared->Prop}(hh:A.handled=none)(S:SetAt s.heap a o es ep t)(hc:o.cls=.type "set")(hpl:t.plain=true->es.size<=1\/t.place.toList.Pairwise (· < ·))(hled:t.led = !w.params.followText "set-order")(hz:es.size<=sizeLine)
  (h:∀h' tk d D (vs:List Value),(∀b u,s.heap.get? b=some u->h'.get? b=some u)->s.heap.get? D=none->h'.get? D=some { cls:=.type "list",data:=.seq vs.toArray }->vs.Perm (es.toList.map (·.2)) ->
   wpAny (model prog w) A.in1 (call (.builtin "list.sort") [.ref D]) (λ_ s'=>Q (.ref D) s') E { s with heap:=h',toks:=tk,drawn:=d }):wpAny (model prog w) A (call (.builtin "sorted") [.ref a]) Q E s:=by
 have la:a<s.heap.objs.size:=AAF S.ob;refine call_function_entry kind_sorted plain_sorted entry_sorted (args_sorted1 _) ?_
 unfold Builtin.«sorted»;refine AA1 (m:=checkCount "sorted" 1 1 _) (AA2 ?_);unfold collect;refine AA1 (AA1 (wpAny_runValue (ABg F.entry_proto_collect ?_)));rw[ABk F.plain_proto_collect _];refine(show wpAny (model prog w) _ (newList [] >>= λl=>again (.builtin "list.__iadd__" ⟨[l,.ref a],[]⟩)) _ _ s from AA1 (AAp (AA2 ⟨AD9 F.plain_list_iadd _,ABg F.entry_list_iadd ?_⟩)))
 rw[ABk F.plain_list_iadd _];have S1:=S.at (h':=s.heap.push { cls:=.type "list",data:=.seq ([]:List Value).toArray }) λo e=>AA3 _ e
 have key:=xK (prog:=prog) (A:=A.in1) (s:={ s with heap:=s.heap.push { cls:=.type "list",data:=.seq ([]:List Value).toArray } }) (D:=s.heap.objs.size) (c₀:=0) (res:=.ref s.heap.objs.size)
  (R:=λr s'=>∃h' tk d vs c,r=.ok (.ret (.ref s.heap.objs.size))/\s'={ s with heap:=h',toks:=tk,drawn:=d }/\(∀b u,s.heap.get? b=some u->h'.get? b=some u)/\h'.get? s.heap.objs.size=some { cls:=.type "list",data:=.seq vs c }/\vs.toList.Perm (es.toList.map (·.2)))
  (by simp[hh]) S1 hc hpl hled hz (Nat.ne_of_gt la) (AAA _ rfl) λh' tk d vs c k hD p=>⟨h',tk,d,vs,c,rfl,rfl,λb u e=>k b u (AAN (AAF e)) (AA3 _ e),hD,p⟩
 have last:∀h' tk d (vs:Array Value) c,(∀b u,s.heap.get? b=some u->h'.get? b=some u)->h'.get? s.heap.objs.size=some { cls:=.type "list",data:=.seq vs c }->vs.toList.Perm (es.toList.map (·.2)) ->
   wpAny (model prog w) A.in1 (do let ob <-load s.heap.objs.size;match ob.data with | .seq xs _=>pure xs.toList | _=>unsupported "internal:collect":Sem (List Value))
    (λxs s'=>wpAny (model prog w) A.in1 (do let l <-newList xs;let _ <-holding [l] (call (.builtin "list.sort") [l] []);ret l) (λfin s'=>∃v,fin=Fin.done (Flow.ret v)/\Q v s') E s') E { s with heap:=h',toks:=tk,drawn:=d }:=λh' tk d vs c kk hD p=>by
  refine AA1 (wpAny_load hD (AA2 (AA1 (AD7 ?_ (by rw[p.length_eq];simpa using hz)))))
  have la':s.heap.objs.size<h'.objs.size:=AAF hD;refine AA1 (AAr (ABF (h (h'.push { cls:=.type "list",data:=.seq vs.toList.toArray }) tk d h'.objs.size vs.toList (λb u e=>AA3 _ (kk b u e)) ?_ (AAA _ rfl) p) (λ_ s' q=>AA2 ⟨_,rfl,q⟩) λ_ _ z=>z))
  cases q:s.heap.get? h'.objs.size with
  | none=>rfl
  | some o'=>exact absurd (AAF (kk _ _ q)) (AAm _)
 refine ABF key (λfin s' x=>?_) λe s' ⟨_,_,_,_,_,z,_⟩=>by cases z
 cases fin with
 | done f =>
  obtain⟨h',tk,d,vs,c,z,rfl,kk,hD,p⟩:=x;cases z
  exact last h' tk d vs c kk hD p
 | again c' =>
  refine⟨x.1,ADP x.2 λr s2 ⟨h',tk,d,vs,c,z,e,kk,hD,p⟩=>?_⟩
  subst z e;exact last h' tk d vs c kk hD p
end
end L2
namespace L2
open PySem PySem.Spec PyProof.Rows DL PySem.W
section
variable{X:Cx}{e:Expr}{te:DTE}{p p' pos pos':Pos}{k:Nat}
def Inv.drew(I:Inv X pins σ H s):Inv X pins σ H { s with drawn:=d } :=
 ⟨I.ok,I.os,I.bare,I.base,I.loc,I.cell,I.free,I.freeC,I.pin,I.hok,I.len⟩
end
end L2
namespace L2
open PySem PySem.Spec PyProof.Rows DL PySem.Builtin PySem.Builtin.Str PySem.StrLaws
def AO(a b len:Nat):strSliceIndices (some (a:Int)) (some (b:Int)) 1 len=strSliceIndices (some ((min a len:Nat):Int)) (some ((min b len:Nat):Int)) 1 len:=by
 have e:∀i:Nat,max (0:Int) (min (i:Int) (len:Int))=max (0:Int) (min ((min i len:Nat):Int) (len:Int)):=λi=>by lia
 have n:∀i:Nat,¬((i:Int)<0):=λi=>by lia
 simp only[strSliceIndices,n,if_false,show ((1:Int) > 0)=True by simp,if_true]
 rw[e a,e b]
def jb(x:Str)(l u:Option Int):(ADG x l u).cps.toList=if (strSliceIndices l u 1 x.length).length=x.length then x.cps.toList else(strSliceIndices l u 1 x.length).filterMap (x.cps[·]?):=by
 unfold ADG;by_cases h:(strSliceIndices l u 1 x.length).length=x.length
 ·rw[if_pos (by simp[h]),if_pos h]
 ·rw[if_neg (by simp[h]),if_neg h]
def yT(x:Str){a b:Nat}(hab:a<=b):(ADG x (some (a:Int)) (some (b:Int))).cps.toList=(x.cps.toList.drop a).take (b-a):=by
 have hm:min a x.length<=min b x.length:=by lia
 have key:(strSliceIndices (some ((min a x.length:Nat):Int)) (some ((min b x.length:Nat):Int)) 1 x.length).filterMap (x.cps[·]?)=(x.cps.toList.drop (min a x.length)).take (min b x.length-min a x.length):=sliced_plain x hm (Nat.min_le_right ..);have ll:=eQ (a:=x);have fin:(x.cps.toList.drop (min a x.length)).take (min b x.length-min a x.length)=(x.cps.toList.drop a).take (b-a):=by
  by_cases ha:a<=x.length
  ·rw[Nat.min_eq_left ha]
   by_cases hb:b<=x.length
   ·rw[Nat.min_eq_left hb]
   ·rw[Nat.min_eq_right (by lia),ACH (by rw[ABQ];lia),ACH (by rw[ABQ];lia)]
  ·rw[List.drop_eq_nil_of_le (i:=a) (by lia),List.drop_eq_nil_of_le (i:=min a x.length) (by lia)]
   simp
 rw[jb,AO,key,fin];split
 ·rename_i h
  rw[strSliceIndices_plain hm (Nat.min_le_right ..)]at h;simp only[AA4,ACZ]at h;have h0:min a x.length=0:=by lia
  by_cases hx:x.length=0
  ·have:x.cps.toList=[]:=ACk (by lia)
   rw[this];simp
  ·have:a=0:=by lia
   subst this;rw[List.drop_zero,ACH (by lia)]
 ·rfl
def fG(l:List Nat)(c:Nat):List Nat:=(AAk l.length).filter λi=>l[i]?==some c
def zy(x:Str)(c:Nat):occurrences x ⟨#[c]⟩ 0 x.length (x.length+1)=fG x.cps.toList c:=by
 have ll:=eQ (a:=x);rw[occ_eq];have go:∀(k m:Nat) (st:Array Nat×Nat),m+k=x.length+1->st.1.toList=(AAk m).filter (λi=>x.cps.toList[i]?==some c)->st.2<=m ->
   (forIn (List.range' m k) st (occBody x ⟨#[c]⟩ x.length (x.length+1))).run.fst.toList=(AAk (m+k)).filter (λi=>x.cps.toList[i]?==some c):=by
  intro k;induction k with
  | zero=>intro m st e h1 h2;exact h1
  | succ k ih =>
   intro m st e h1 h2;rw[List.range'_succ,List.forIn_cons];unfold occBody;have hs:st.1.size<=m:=by
    have:=congrArg ABf h1;rw[AAO]at this;have l:=AAn (λi=>x.cps.toList[i]?==some c) (AAk m)
    rw[ACZ]at l;lia
   have key:=subAt_one x c m;have er:(AAk (m+1)).filter (λi=>x.cps.toList[i]?==some c)=(AAk m).filter (λi=>x.cps.toList[i]?==some c)++if x.cps.toList[m]?=some c then[m]else[]:=by
    rw[List.range_succ,ACR];congr 1;by_cases z:x.cps.toList[m]?=some c
    ·rw[List.filter_cons_of_pos (by rw[beq_iff_eq];exact z),if_pos z];rfl
    ·rw[ADc (by rw[beq_iff_eq];exact z),if_neg z];rfl
   by_cases z:x.cps.toList[m]?=some c
   ·obtain⟨k1,k2⟩:=key.mpr z
    rw[if_pos ⟨⟨⟨by lia,h2⟩,k1⟩,k2⟩]
    rw[if_pos z]at er;have:=ih (m+1) (st.1.push m,m+(⟨#[c]⟩:Str).length) (by lia) (by rw[ADo,h1,er]) (show m+1<=m+1 from AA8 _)
    rw[show m+(k+1)=m+1+k by lia]
    exact this
   ·rw[if_neg λh=>z (key.mp ⟨h.1.2,h.2⟩)]
    rw[if_neg z,AB7]at er;have:=ih (m+1) (st.1,st.2) (by lia) (by rw[h1,er]) (by show st.2<=m+1;lia)
    rw[show m+(k+1)=m+1+k by lia]
    exact this
 have:=go (x.length+1) 0 (#[],0) (by lia) rfl (AA8 _)
 rw[show x.length+1-0=x.length+1 by lia,this]
 unfold fG;rw[<-ll,Nat.zero_add,List.range_succ,ACR];have:x.cps.toList[x.length]?=none:=ABO (by lia)
 rw[ADc (by rw[beq_iff_eq,this];simp),List.filter_nil,AB7]
def xc(x:Str)(c:Nat)(hc:c<256):∀y,y∈(ABp x ⟨#[c]⟩).drop 1↔∃k i j,(fG x.cps.toList c)[k]?=some i/\(fG x.cps.toList c++[x.cps.toList.length])[k+1]?=some j/\y=strSub x (i+1) j:=by
 intro y;have ll:=eQ (a:=x);unfold ABp;have none:fG x.cps.toList c=[]->(y∈([x]:List Str).drop 1↔∃k i j,(fG x.cps.toList c)[k]?=some i/\(fG x.cps.toList c++[x.cps.toList.length])[k+1]?=some j/\y=strSub x (i+1) j):=λe=>by
  rw[e];simp
 by_cases h1:(decide (x.length<(⟨#[c]⟩:Str).length)||decide (ABN x<ABN ⟨#[c]⟩))=true
 ·rw[if_pos h1]
  apply none
  rw[zp]at h1;have k1:ABN (⟨#[c]⟩:Str)=1:=by simp[ABN,hc]
  have k2:1<=ABN x:=by unfold ABN;split<;>(try split)<;>lia
  have:x.length=0:=by
   rw[k1]at h1;simp only[ABG,decide_eq_true_eq]at h1;lia
  unfold fG;rw[<-ll,this];rfl
 ·rw[if_neg h1,zy]
  by_cases h2:(fG x.cps.toList c).isEmpty=true
  ·rw[if_pos h2]
   exact none (List.isEmpty_iff.mp h2)
  ·rw[if_neg h2]
   unfold partsBetween;rw[zp,<-AEC];have e:((0::(fG x.cps.toList c).map (· + 1)).zip (fG x.cps.toList c++[x.length])).drop 1=((fG x.cps.toList c).map (· + 1)).zip ((fG x.cps.toList c++[x.cps.toList.length]).drop 1):=by
    cases q:fG x.cps.toList c with
    | nil=>rw[q]at h2;exact absurd rfl h2
    | cons a r=>rw[ll];rfl
   rw[e,AAH];constructor
   ·rintro⟨⟨i,j⟩,hm,rfl⟩
    obtain⟨k,hk⟩:=ABE hm;obtain⟨a1,a2⟩:=List.getElem?_zip_eq_some.mp hk;rw[AAR]at a1;cases q:(fG x.cps.toList c)[k]? with
    | none=>rw[q]at a1;cases a1
    | some i' =>
     rw[q]at a1;have:i'+1=i:=AAM a1;subst this;rw[ACQ,Nat.add_comm]at a2;exact⟨k,i',j,q,a2,rfl⟩
   ·rintro⟨k,i,j,h1,h2,rfl⟩
    refine⟨(i+1,j),?_,rfl⟩;have:(((fG x.cps.toList c).map (· + 1)).zip ((fG x.cps.toList c++[x.cps.toList.length]).drop 1))[k]?=some (i+1,j):=by
     rw[List.getElem?_zip_eq_some];refine⟨by rw[AAR,h1];rfl,?_⟩
     rw[ACQ,Nat.add_comm];exact h2
    exact AAi this
end L2
namespace L2
open PySem PySem.Spec PyProof.Rows DL PySem.W
section
variable{X:Cx}
def ER:DR2:=λx y M Q=>match x,y with
 | .int i,.int j=>CPow i j/\Q (.int (i ^ j.toNat)) M
 | _,_=>False
def Ie:OpD X (binaryOp .Pow) ER:=by
 refine OpR.imp HQ λvx vy H R ⟨x,y,M,ρ,Q,sm,r1,r2,q,k⟩=>?_
 unfold ER at q;split at q
 ·cases r1
  cases r2
  exact⟨_,_,rfl,rfl,q.1,k _ H (VQ.now sm (.int _) q.2)⟩
 ·exact q.elim
def Ef:HOp X (binaryOp .Pow) ER:=⟨Ie⟩
end
end L2
namespace Ht
open PySem
def Occ(ow:Array (Option Nat))(s:Nat):Prop:=∃i,ow[s]?=some (some i)
def getD_none(hs:s<ow.size):(ow.getD s (some 0)).isNone=true↔¬Occ ow s:=by
 have e:ow[s]?=some ow[s]:=AAJ hs;have e2:ow.getD s (some 0)=ow[s]:=by simp[ACK,hs]
 rw[e2];unfold Occ;rw[e];cases ow[s]<;>simp
def Ay(hz:ow.size=m+1)(h:Int):∀(fuel k0 k:Nat),k0<=k->k<k0+fuel->¬Occ ow (eI m h k).1->(∀n,n<ff m h k0->Occ ow (sq m h n).j) ->
  ∃N,ACp m ow fuel (eI m h k0).1 (eI m h k0).2=some (sq m h N).j/\¬Occ ow (sq m h N).j/\∀n,n<N->Occ ow (sq m h n).j:=by
 intro fuel;induction fuel with
 | zero=>intro k0 k h1 h2;lia
 | succ fuel ih =>
  intro k0 k h1 h2 h3 h4;have ile:=tF m h k0;have rle:AAy m (eI m h k0).1<=m/\(eI m h k0).1<=AAy m (eI m h k0).1:=by
   unfold AAy;split<;>lia
  unfold ACp;cases hf:(AAk (AAy m (eI m h k0).1+1-(eI m h k0).1)).find? λk=>(ow.getD ((eI m h k0).1+k) (some 0)).isNone with
  | some r =>
   have hr:=ACx hf;have hmem:=List.mem_of_find?_eq_some hf;rw[AAz]at hmem;refine⟨ff m h k0+r,by rw[yQ m h k0 r (by lia)],?_,λn hn=>?_⟩
   ·rw[yQ m h k0 r (by lia)]
    exact(getD_none (by lia)).mp hr
   ·rcases AC1 n (ff m h k0)with q | q
    ·exact h4 n q
    ·obtain⟨r',rfl⟩:∃r',n=ff m h k0+r':=⟨n-ff m h k0,by lia⟩
     rw[yQ m h k0 r' (by lia)]
     refine AB8 λhno=>?_
     have hlt:r' < r:=by lia
     have z:=(getD_none (ow:=ow) (s:=(eI m h k0).1+r') (by lia)).mpr hno
     have:=List.find?_range_eq_some.mp hf;have:=this.2.2 r' hlt;rw[z]at this;exact absurd this (by simp)
  | none =>
   have all:∀r,r<=AAy m (eI m h k0).1-(eI m h k0).1->Occ ow ((eI m h k0).1+r):=λr hr=>by
    refine AB8 λhno=>?_
    have z:=(getD_none (ow:=ow) (s:=(eI m h k0).1+r) (by lia)).mpr hno
    have:=List.find?_eq_none.mp hf r (AAz.mpr (by lia))
    exact this z
   have hk:k0≠k:=λe=>by subst e;exact h3 (all 0 (AAX _))
   refine ih (k0+1) k (by lia) (by lia) h3 λn hn=>?_
   unfold ff at hn;rcases AC1 n (ff m h k0)with q | q
   ·exact h4 n q
   ·obtain⟨r',rfl⟩:∃r',n=ff m h k0+r':=⟨n-ff m h k0,by lia⟩
    rw[yQ m h k0 r' (by lia)]
    exact all r' (by lia)
structure Laid(m:Nat)(hs:List Int)(ow:Array (Option Nat))(k:Nat):Prop where
 sz:ow.size=m+1
 lt:∀s i:Nat,ow[s]?=some (some i)->i<k
 inj:∀s s' i:Nat,ow[s]?=some (some i)->ow[s']?=some (some i)->s=s'
 all:∀i:Nat,i<k->∃s:Nat,ow[s]?=some (some i)
 path:∀(s i:Nat) (h:Int),ow[s]?=some (some i)->hs[i]?=some h->∃n,(sq m h n).j=s/\∀n',n' < n->Occ ow (sq m h n').j
def Laid.room(L:Laid m hs ow k)(hk:k<=m):∃s,s<=m/\¬Occ ow s:=by
 refine AB8 λhc=>?_
 have occ:∀s,s<=m->Occ ow s:=λs hs=>AB8 λz=>hc ⟨s,hs,z⟩
 have idx:∀s,s∈AAk (m+1)->((ow.getD s none).getD 0)∈AAk k:=λs hs'=>by
  obtain⟨i,e⟩:=occ s (by have:=AAz.mp hs';lia)
  have:ow.getD s none=some i:=by
   obtain⟨hl,z⟩:=AAu.mp e;simp[ACK,hl,z]
  rw[this];exact AAz.mpr (L.lt s i e)
 have nd:((AAk (m+1)).map λs=>(ow.getD s none).getD 0).Nodup:=by
  rw[ABm,ADr];have base:=List.nodup_range (n:=m+1);rw[ABm]at base;refine base.imp_of_mem λ{a b} ha hb hne e=>hne ?_
  obtain⟨i,ei⟩:=occ a (by have:=AAz.mp ha;lia)
  obtain⟨j,ej⟩:=occ b (by have:=AAz.mp hb;lia)
  have e1:ow.getD a none=some i:=by
   obtain⟨hl,z⟩:=AAu.mp ei;simp[ACK,hl,z]
  have e2:ow.getD b none=some j:=by
   obtain⟨hl,z⟩:=AAu.mp ej;simp[ACK,hl,z]
  rw[e1,e2]at e;have:i=j:=e;subst this;exact L.inj a b i ei ej
 have:=L2.nodup_le _ (AAk k) nd λx hx=>by
  obtain⟨s,hs',rfl⟩:=AAH.mp hx;exact idx s hs'
 rw[AA4,ACZ,ACZ]at this;lia
def Laid.step(hm:mW m)(L:Laid m hs ow k)(hk:k<=m)(hh:hs[k]?=some h) :
  ∃j,ACp m ow (ADJ m) (ABx h % (m+1)) (ABx h)=some j/\Laid m hs (ow.setIfInBounds j (some k)) (k+1):=by
 obtain⟨s,hs1,hs2⟩:=L.room hk;obtain⟨k',hk',e⟩:=Eo hm h hs1;obtain⟨N,f1,f2,f3⟩:=Ay L.sz h (ADJ m) 0 k' (AAX _) (by unfold ADJ;lia) (by rw[e];exact hs2) λn hn=>absurd hn (ABz _)
 refine⟨(sq m h N).j,f1,?_⟩;have jl:(sq m h N).j<ow.size:=by have:=yP (m:=m) h N;rw[L.sz];lia
 have same:(ow.setIfInBounds (sq m h N).j (some k))[(sq m h N).j]?=some (some k):=by
  rw[Array.getElem?_setIfInBounds_self_of_lt jl]
 have other:∀s,s≠(sq m h N).j->(ow.setIfInBounds (sq m h N).j (some k))[s]?=ow[s]?:=λs hne=>Array.getElem?_setIfInBounds_ne (ABM hne)
 have grow:∀s,Occ ow s->Occ (ow.setIfInBounds (sq m h N).j (some k)) s:=λs ⟨i,z⟩=>by
  by_cases q:s=(sq m h N).j
  ·subst q;exact⟨k,same⟩
  ·exact⟨i,by rw[other s q];exact z⟩
 have wh:∀s i,(ow.setIfInBounds (sq m h N).j (some k))[s]?=some (some i)->(s=(sq m h N).j/\i=k)\/(s≠(sq m h N).j/\ow[s]?=some (some i)):=λs i z=>by
  by_cases q:s=(sq m h N).j
  ·subst q;rw[same]at z;cases z;exact .inl ⟨rfl,rfl⟩
  ·rw[other s q]at z;exact .inr ⟨q,z⟩
 refine⟨by rw[Array.size_setIfInBounds];exact L.sz,λs i z=>?_,λs s' i z z'=>?_,λi hi=>?_,λs i h' z hh'=>?_⟩
 ·rcases wh s i z with⟨_,e⟩|⟨_,z⟩
  ·lia
  ·have:=L.lt s i z;lia
 ·rcases wh s i z with⟨e1,e2⟩|⟨_,z⟩
  ·rcases wh s' i z' with⟨e3,_⟩|⟨_,z'⟩
   ·rw[e1,e3]
   ·have:=L.lt s' i z';lia
  ·rcases wh s' i z' with⟨_,e4⟩|⟨_,z'⟩
   ·have:=L.lt s i z;lia
   ·exact L.inj s s' i z z'
 ·by_cases q:i=k
  ·subst q;exact⟨_,same⟩
  ·obtain⟨s,z⟩:=L.all i (by lia)
   refine⟨s,?_⟩;rw[other s λe=>f2 ⟨i,by rw[<-e];exact z⟩]
   exact z
 ·rcases wh s i z with⟨e1,e2⟩|⟨_,z⟩
  ·subst e1 e2
   rw[hh]at hh';cases hh';exact⟨N,rfl,λn' hn'=>grow _ (f3 n' hn')⟩
  ·obtain⟨n,a1,a2⟩:=L.path s i h' z hh'
   exact⟨n,a1,λn' hn'=>grow _ (a2 n' hn')⟩
def FD(hm:mW m)(hs:List Int)(hl:hs.length<=m):∃ow,SetTable.layClean m hs.toArray=some ow/\Laid m hs ow hs.length:=by
 have start:Laid m hs (Array.replicate (m+1) none) 0:=by
  have no:∀s i:Nat,(Array.replicate (m+1) (none:Option Nat))[s]?≠some (some i):=λs i z=>by
   rw[Array.getElem?_replicate]at z;split at z<;>cases z
  exact⟨by simp,λs i z=>absurd z (no s i),λs _ i z=>absurd z (no s i),λi hi=>absurd hi (ABz _),λs i _ z=>absurd z (no s i)⟩
 have go:∀(bc:List Int) (k:Nat) (ow:Array (Option Nat)),hs.drop k=bc->k+bc.length=hs.length->Laid m hs ow k ->
   ∃ow',bc.foldl (init:=some (ow,k)) (λacc h=>do
    let (owner,k) <-acc
    let j <-ACp m owner (ADJ m) (ABx h % (m+1)) (ABx h)
    pure (owner.setIfInBounds j (some k),k+1))=some (ow',hs.length)/\Laid m hs ow' hs.length:=by
  intro bc;induction bc with
  | nil =>
   intro k ow e hk L;have:k=hs.length:=by simpa using hk
   subst this;exact⟨ow,rfl,L⟩
  | cons h bc ih =>
   intro k ow e hk L;have hh:hs[k]?=some h:=by
    have:(hs.drop k)[0]?=some h:=by rw[e];rfl
    rw[ACQ]at this;simpa using this
   rw[AAK]at hk;obtain⟨j,f1,L'⟩:=L.step hm (by lia) hh
   obtain⟨ow',g1,g2⟩:=ih (k+1) (ow.setIfInBounds j (some k)) (by
    have:hs.drop (k+1)=(hs.drop k).drop 1:=by rw[List.drop_drop]
    rw[this,e];rfl) (by lia) L'
   refine⟨ow',?_,g2⟩;rw[List.foldl_cons];simp only[Option.bind_eq_bind,Option.bind_some,f1,Option.pure_def];exact g1
 obtain⟨ow,g1,g2⟩:=go hs 0 _ rfl (by simp) start
 refine⟨ow,?_,g2⟩;unfold SetTable.layClean;rw[<-Array.foldl_toList];have:hs.toArray.toList=hs:=by simp
 rw[this,g1];rfl
def lP{α:Type}[DecidableEq α]:∀{l l':List α},l.Nodup->l'.Nodup->(∀x,x∈l↔x∈l')->l.Perm l'
 | [],l',_,_,h=>by
  have:l'=[]:=List.eq_nil_iff_forall_not_mem.mpr λx hx=>absurd ((h x).mpr hx) (by simp)
  rw[this]
 | x::l,l',n,n',h=>by
  have hx:x∈l':=(h x).mp AAG;have n1:=ABy.mp n;refine(AES x (lP n1.2 (n'.erase x) λy=>?_)).trans (List.perm_cons_erase hx).symm
  by_cases e:y=x
  ·subst e
   constructor
   ·intro z;exact absurd z n1.1
   ·intro z;exact absurd z (List.Nodup.not_mem_erase n')
  ·rw[List.mem_erase_of_ne e,<-h y,AAQ]
   exact⟨.inr,λz=>z.resolve_left e⟩
def bF(m:Nat)(ow:Array (Option Nat)):List (Nat×Nat):=(AAk (m+1)).filterMap λj=>(ow.getD j none).map (j,·)
def eP(L:Laid m hs ow k):(s,i)∈bF m ow↔ow[s]?=some (some i):=by
 unfold bF;rw[ABe];constructor
 ·rintro⟨j,hj,e⟩
  have hj':j<ow.size:=by rw[L.sz];exact AAz.mp hj
  have e2:ow.getD j none=ow[j]:=by simp[ACK,hj']
  rw[e2]at e;cases q:ow[j] with
  | none=>rw[q]at e;cases e
  | some i' =>
   rw[q]at e;have:=AAM e;cases this
   rw[AAJ hj',q]
 ·intro e
  obtain⟨hl,z⟩:=AAu.mp e;refine⟨s,AAz.mpr (by rw[<-L.sz];exact hl),?_⟩
  have e2:ow.getD s none=ow[s]:=by simp[ACK,hl]
  rw[e2,z];rfl
def rD(m:Nat)(ow:Array (Option Nat)):((bF m ow).map (·.1)).Pairwise (· < ·):=by
 unfold bF;rw[ADr];refine List.Pairwise.filterMap (R:=(· < ·)) _ (λa a' h b hb b' hb'=>?_) (List.pairwise_lt_range)
 obtain⟨x,_,rfl⟩:=ABC.mp hb;obtain⟨y,_,rfl⟩:=ABC.mp hb';exact h
def rE(L:Laid m hs ow hs.length):((bF m ow).map (·.2)).Perm (AAk hs.length):=by
 have nd1:(bF m ow).Nodup:=by
  have:=rD m ow;rw[ADr]at this;exact this.imp λh e=>by rw[e]at h;exact AAm _ h
 have nd:((bF m ow).map (·.2)).Nodup:=by
  rw[ABm,ADr];rw[ABm]at nd1;refine nd1.imp_of_mem λ{a b} ha hb hne e=>hne ?_
  obtain⟨s,i⟩:=a;obtain⟨s',i'⟩:=b;have e':i=i':=e;subst e';rw[L.inj s s' i ((eP L).mp ha) ((eP L).mp hb)]
 refine lP nd List.nodup_range λi=>?_
 rw[AAz,AAH];constructor
 ·rintro⟨⟨s,i'⟩,hm,rfl⟩
  exact L.lt s i' ((eP L).mp hm)
 ·intro hi
  obtain⟨s,e⟩:=L.all i hi;exact⟨(s,i),(eP L).mpr e,rfl⟩
def pH{α:Type}{l:List α}{p:Nat}{x y:α}(hp:p<=l.length){i:Nat}(h:(l.take p++x::l.drop p)[i]?=some y):(i<p/\l[i]?=some y)\/(i=p/\y=x)\/(p<i/\l[i-1]?=some y):=by
 have lt:(l.take p).length=p:=by rw[AAv];lia
 rcases AD6 i p with q | q | q
 ·rw[AAP (by lia),List.getElem?_take,if_pos q]at h
  exact .inl ⟨q,h⟩
 ·subst q
  rw[AAh (by lia),lt,ADT]at h
  exact .inr (.inl ⟨rfl,(AAM h).symm⟩)
 ·rw[AAh (by lia),lt]at h
  obtain⟨r,hr⟩:∃r,i-p=r+1:=⟨i-p-1,by lia⟩
  rw[hr,ADf,ACQ]at h;exact .inr (.inr ⟨q,by rw[show i-1=p+r by lia];exact h⟩)
structure TPre(t:SetTable)(hs:List Int):Prop where
 msk:mW t.mask
 len:t.place.size=hs.length
 nod:t.dummies = #[]
 ris:t.place.toList.Pairwise (· < ·)
 rng:∀j∈t.place.toList,j<=t.mask
 path:∀(i:Nat) (h:Int) (j:Nat),hs[i]?=some h->t.place[i]?=some j->∃n,(sq t.mask h n).j=j/\∀n',n' < n->(sq t.mask h n').j∈t.place.toList
def put_pre(T:TOk t hs)(h2:(sq t.mask h N).j∉t.place.toList)(h3:∀k,k<N->(sq t.mask h k).j∈t.place.toList)(pl:Bool) :
  (t.put (sq t.mask h N).j).2<=hs.length/\TPre { (t.put (sq t.mask h N).j).1 with plain:=pl } (hs.take (t.put (sq t.mask h N).j).2++h::hs.drop (t.put (sq t.mask h N).j).2):=by
 obtain⟨e,ris⟩:=zb T.ris h2;obtain⟨b1,_,_⟩:=below_spec t.place T.ris (sq t.mask h N).j;have bl:AAe t.place (sq t.mask h N).j<=hs.length:=by rw[<-T.len];exact b1
 refine⟨bl,⟨T.msk,?_,?_,ris,λj hj=>?_,λi h' j hh hj=>?_⟩⟩
 ·have:=congrArg ABf e
  rw[AAO,AAB,AAK,AAv,ABQ,AAO]at this;show (t.put (sq t.mask h N).j).1.place.size=(hs.take (AAe t.place (sq t.mask h N).j)++h::hs.drop (AAe t.place (sq t.mask h N).j)).length;rw[this,AAB,AAK,AAv,ABQ,T.len]
 ·show (if SetTable.has t.dummies (sq t.mask h N).j then SetTable.eraseAt t.dummies (AAe t.dummies (sq t.mask h N).j)else t.dummies) = #[]
  rw[T.nod];rfl
 ·have hj':j∈(t.put (sq t.mask h N).j).1.place.toList:=hj
  rw[e]at hj';rcases AAT.mp hj' with q | q
  ·exact T.rng j (AEB q)
  ·rcases AAQ.mp q with q | q
   ·rw[q];exact yP h N
   ·exact T.rng j (List.mem_of_mem_drop q)
 ·have sub:∀x,x∈t.place.toList->x∈(t.put (sq t.mask h N).j).1.place.toList:=λx hx=>by
   rw[e];rw[<-List.take_append_drop (AAe t.place (sq t.mask h N).j) t.place.toList]at hx;rcases AAT.mp hx with q | q
   ·exact AAc _ q
   ·exact AAI _ (AA9 _ q)
  have hj':(t.put (sq t.mask h N).j).1.place.toList[i]?=some j:=by rw[AAS];exact hj
  rw[e]at hj';have go:∀k,hs[k]?=some h'->t.place[k]?=some j->∃n,(sq t.mask h' n).j=j/\∀n',n' < n->(sq t.mask h' n').j∈(t.put (sq t.mask h N).j).1.place.toList:=λk z1 z2=>by
   obtain⟨n,a1,a2⟩:=T.path k h' j z1 z2;exact⟨n,a1,λn' hn'=>sub _ (a2 n' hn')⟩
  rcases pH (by rw[AAO];exact b1) hj' with⟨q,z⟩|⟨q,z⟩|⟨q,z⟩
  ·rcases pH bl hh with⟨q',z'⟩|⟨q',z'⟩|⟨q',z'⟩
   ·exact go i z' (by rw[<-AAS];exact z)
   ·lia
   ·lia
  ·rcases pH bl hh with⟨q',z'⟩|⟨q',z'⟩|⟨q',z'⟩
   ·lia
   ·subst z z'
    exact⟨N,rfl,λn' hn'=>sub _ (h3 n' hn')⟩
   ·lia
  ·rcases pH bl hh with⟨q',z'⟩|⟨q',z'⟩|⟨q',z'⟩
   ·lia
   ·lia
   ·exact go (i-1) z' (by rw[<-AAS];exact z)
def TPre.ok(T:TPre t hs)(h:t.tooFull=false):TOk t hs:=by
 refine⟨T.msk,T.len,T.nod,T.ris,T.rng,?_,T.path⟩;unfold SetTable.tooFull AEa at h;rw[T.nod]at h;simp at h;simpa using h
def TPre.anew(T:TPre t hs)(h:t.tooFull=true)(hb:(hs.length-1)*5<t.mask*3)(h60:hs.length<=64) :
  AEP (ACo hs.length)<=sizeLine/\∃t2 ord,t.relaid hs.toArray (ACo hs.length)=some (t2,ord)/\ord.toList.Perm (AAk hs.length)/\TOk t2 (ord.toList.map λi=>hs.getD i 0)/\t2.led=t.led:=by
 have full:hs.length*5 ≥ t.mask*3:=by
  unfold SetTable.tooFull AEa at h;rw[T.nod,T.len]at h;simpa using h
 have gm:∃m,AEP (ACo hs.length)=m+1/\mW m/\hs.length<=m/\hs.length*5<m*3:=by
  rcases T.msk with e | e | e
  ·have:hs.length=5:=by lia
   rw[this];exact⟨31,by decide +kernel,.inr (.inl rfl),by decide,by decide⟩
  ·have:hs.length=19:=by lia
   rw[this];exact⟨127,by decide +kernel,.inr (.inr rfl),by decide,by decide⟩
  ·lia
 obtain⟨m,e,hm,hl,few⟩:=gm;refine⟨by rw[e,ABr];rcases hm with rfl | rfl | rfl<;>lia,?_⟩
 obtain⟨ow,f1,L⟩:=FD hm hs hl;unfold SetTable.relaid;rw[e,Nat.add_sub_cancel];unfold SetTable.laid;rw[f1];refine⟨_,_,rfl,?_,?_,rfl⟩
 ·show ((bF m ow).map (·.2)).toArray.toList.Perm _
  simpa using rE L
 ·have pl:((bF m ow).map (·.1)).toArray.toList=(bF m ow).map (·.1):=by simp
  have ol:((bF m ow).map (·.2)).toArray.toList=(bF m ow).map (·.2):=by simp
  have ln:(bF m ow).length=hs.length:=by have:=(rE L).length_eq;simpa using this
  refine⟨hm,?_,rfl,?_,λj hj=>?_,?_,λi h' j hh hj=>?_⟩
  ·show ((bF m ow).map (·.1)).toArray.size=(((bF m ow).map (·.2)).toArray.toList.map λi=>hs.getD i 0).length
   simp
  ·show ((bF m ow).map (·.1)).toArray.toList.Pairwise _
   rw[pl];exact rD m ow
  ·have hj':j∈((bF m ow).map (·.1)).toArray.toList:=hj
   rw[pl]at hj';obtain⟨⟨s,i⟩,hm',rfl⟩:=AAH.mp hj';have:=(AAu.mp ((eP L).mp hm')).1;rw[L.sz]at this;show s<=m;lia
  ·show ((bF m ow).map (·.1)).toArray.size*5<m*3
   rw[AAC,AA4,ln];exact few
  ·have hh':(((bF m ow).map (·.2)).map λi=>hs.getD i 0)[i]?=some h':=by rw[<-ol];exact hh
   have hj':((bF m ow).map (·.1))[i]?=some j:=by rw[<-pl,AAS];exact hj
   rw[ABI,AAR]at hh';rw[AAR]at hj';cases q:(bF m ow)[i]? with
   | none=>rw[q]at hj';cases hj'
   | some p =>
    obtain⟨s,k⟩:=p;rw[q]at hh' hj';have e1:s=j:=AAM hj';have e2:hs.getD k 0=h':=AAM hh';subst e1;have mem:=(eP L).mp (AAi q);have kl:=L.lt s k mem;have hk:hs[k]?=some h':=by
     rw[AA6 kl];rw[<-e2];simp[AEW,kl]
    obtain⟨n,a1,a2⟩:=L.path s k h' mem hk;refine⟨n,a1,λn' hn'=>?_⟩
    obtain⟨k',z⟩:=a2 n' hn';show (sq m h' n').j∈((bF m ow).map (·.1)).toArray.toList;rw[pl];exact AAH.mpr ⟨(_,k'),(eP L).mpr z,rfl⟩
end Ht
namespace L2
open PySem PySem.Spec PyProof.Rows DL PySem.W
def ud:∀(n:Nat) (d:D),cH n d=true->okD M n d=true
 | 0,d,h=>by cases d<;>first | rfl | cases h
 | n+1,d,h=>by
  cases d with
  | tup ds =>
   have h':ds.all (cH n)=true:=h;show ds.all (okD M n)=true;rw[AAZ]at h' ⊢;exact λx hx=>ud n x (h' x hx)
  | str x=>rfl
  | int i=>rfl
  | _=>cases h
def jR:∀(n:Nat) (x y:D),cH n x=true->cH n y=true->(eqD M n x y=true↔x=y):=by
 intro n;induction n with
 | zero =>
  intro x y h1 h2;cases x with
  | str a =>
   cases y with
   | str b=>simp[eqD]
   | int b=>simp[eqD]
   | _=>cases h2
  | int a =>
   cases y with
   | str b=>simp[eqD]
   | int b=>simp[eqD]
   | _=>cases h2
  | _=>cases h1
 | succ n ih =>
  have go:∀xs ys:List D,xs.all (cH n)=true->ys.all (cH n)=true->(eqL (eqD M n) xs ys=true↔xs=ys):=by
   intro xs;induction xs with
   | nil=>intro ys _ _;cases ys<;>simp[eqL]
   | cons x xs ih2 =>
    intro ys a1 a2;cases ys with
    | nil=>simp[eqL]
    | cons y ys =>
     rw[ABT,AAW]at a1 a2;show (eqD M n x y&&eqL (eqD M n) xs ys)=true↔_;rw[AAW,ih x y a1.1 a2.1,ih2 ys a1.2 a2.2,ADd]
  intro x y h1 h2;cases x with
  | str a =>
   cases y with
   | str b=>simp[eqD]
   | int b=>simp[eqD]
   | tup ys=>simp[eqD]
   | _=>cases h2
  | int a =>
   cases y with
   | str b=>simp[eqD]
   | int b=>simp[eqD]
   | tup ys=>simp[eqD]
   | _=>cases h2
  | tup xs =>
   cases y with
   | str b=>simp[eqD]
   | int b=>simp[eqD]
   | tup ys=>rw[D.tup.injEq];exact go _ _ h1 h2
   | _=>cases h2
  | _=>cases h1
section
variable{X:Cx}{pins:List (Addr×Obj)}{σ:St}{H:Hp}{ρ:List Addr}{M:Mem}
theorem IX(sm:Sim X.K ρ M H):∀(n:Nat) (A:Around) (s:Shared) (d:D) (v:V) (u:Value) (E:Value->Shared->Prop) (Q:Int->Shared->Prop),A.units+n<cLine->Inv X pins σ H s->Rep X.K ρ H d v->aU v u->cH n d=true ->
  (∀tk,Q (hkD X.w n d) { s with toks:=tk })->wpAny (model X.prog X.w) A (pyHash u) Q E s:=by
 intro n;induction n with
 | zero =>
  intro A s d v u E Q hu I r rv hk h;cases r with
  | str x=>obtain⟨t,rfl⟩:=rv;exact ADL (h _)
  | int x=>obtain⟨t,rfl⟩:=rv;exact ADK (h _)
  | _=>cases hk
 | succ n ih =>
  intro A s d v u E Q hu I r rv hk h;cases r with
  | str x=>obtain⟨t,rfl⟩:=rv;exact ADL (h _)
  | int x=>obtain⟨t,rfl⟩:=rv;exact ADK (h _)
  | @tup a vs ds hq rr =>
   cases rv
   obtain⟨its,r2,p,_⟩:=I.tuple hq;obtain⟨o,ho,hc,nn,hd⟩:=id p;have hT:s.TypeIs (.ref a) "tuple":=⟨o,ho,hc⟩;have hks:ds.all (cH n)=true:=hk;unfold pyHash;first | unfold pyHashByItsType | skip
   first | refine AA1 (wpAny_cRoomFor_or (.inr (by lia)) ?_) | skip
   refine AA1 (AC0 hT F.slot_tuple_hash.lookup ?_);refine(show wpAny (model X.prog X.w) _ (if (some (Value.builtin "tuple.__hash__")==some AC3)=true then _ else _) Q E s from ?_);rw[if_neg (by rw[beq_builtin_none];exact ABS)]
   refine AA1 (AC0 hT F.slot_tuple_hash.lookup ?_);refine(show wpAny (model X.prog X.w) _ (callSpecialIfBoundUnlessNone? (.ref a) "__hash__" _ >>= _) Q E s from AA1 (ACt hT F.slot_tuple_hash (AAw F.slot_tuple_hash hT F.entry_tuple_hash ?_ (F.args_tuple_hash_1 _))));refine(show wpAny (model X.prog X.w) _ (ACI (.ref a) >>= _) _ _ s from AA1 (wpAny_tupleItemsOf ho hd (AA1 ?_)));rw[<-ABj];refine AC8 _ (λbc (b:Array Int) s'=>∃done left ws,ds=done++left/\Reps X.K ρ H left ws/\aw ws bc/\b.toList=done.map (hkD X.w n)/\∃tk,s'={ s with toks:=tk }) _ ?_ ?_ _ _ ⟨[],ds,vs,rfl,rr,by simpa using r2,rfl,s.toks,rfl⟩
   ·rintro x bc b s' ⟨done,left,ws,e,h1,h2,hb,tk,rfl⟩
    cases h2 with
    | @cons v0 _ ws' _ q1 q2 =>
     cases h1 with
     | @cons d0 _ left' _ r0 t0 =>
      refine AA1 (ih _ _ d0 v0 x _ _ (by show A.units+1+n<cLine;lia) (I.tok tk) r0 q1 ?_ λtk'=>?_)
      ·have:=AAZ.mp hks d0 (by rw[e];simp)
       exact this
      ·first
        | exact AA2 ⟨done++[d0],left',ws',by rw[e];simp,t0,q2,by simp[hb],tk',rfl⟩
        | exact AA1 (AA2 (AA2 ⟨done++[d0],left',ws',by rw[e];simp,t0,q2,by simp[hb],tk',rfl⟩))
   ·rintro b s' ⟨done,left,ws,e,h1,h2,hb,tk,rfl⟩
    cases h2
    cases h1
    rw[AB7]at e;subst e;refine(show wpAny (model X.prog X.w) _ (retInt (ABR b.toList)) _ _ _ from ?_);rw[hb];refine wpAny_ret_mkInt ?_
    have key:hkD X.w (n+1) (.tup ds)=reduceHash (ABR (ds.map (hkD X.w n))):=rfl;generalize ABR (ds.map (hkD X.w n))=z at key;refine(show wpAny (model X.prog X.w) _ (if (decide (-(2:Int) ^ 63<=z)&&decide (z<2 ^ 63))=true then _ else _) Q E _ from ?_);unfold reduceHash at key;by_cases hr:(decide (-(2:Int) ^ 63<=z)&&decide (z<2 ^ 63))=true
    ·rw[if_pos hr]at key ⊢
     exact AA2 (by rw[<-key];exact h _)
    ·rw[if_neg hr]at key ⊢
     exact AA1 (AD5 (AA2 (by rw[<-key];exact h _)))
  | _=>cases hk
end
section
variable{X:Cx}{pins:List (Addr×Obj)}{σ:St}{H:Hp}{ρ:List Addr}{M:Mem}
theorem hbv_D(sm:Sim X.K ρ M H):∀(n k:Nat) (A:Around) (s:Shared) (d:D) (v:V) (u:Value) (E:Value->Shared->Prop) (Q:Bool->Shared->Prop),n<=k->Inv X pins σ H s->Rep X.K ρ H d v->aU v u->cH n d=true->(∀b,Q b s)->wpAny (model X.prog X.w) A (hashByValue k u) Q E s:=by
 intro n;induction n with
 | zero =>
  intro k A s d v u E Q hk I r rv kd h;cases r with
  | str x=>obtain⟨t,rfl⟩:=rv;cases k<;>exact AA2 (h _)
  | int x=>obtain⟨t,rfl⟩:=rv;cases k<;>exact AA2 (h _)
  | _=>cases kd
 | succ n ih =>
  intro k A s d v u E Q hk I r rv kd h;cases r with
  | str x=>obtain⟨t,rfl⟩:=rv;cases k<;>exact AA2 (h _)
  | int x=>obtain⟨t,rfl⟩:=rv;cases k<;>exact AA2 (h _)
  | @tup a vs ds hq rr =>
   cases rv
   obtain⟨k,rfl⟩:∃k',k=k'+1:=⟨k-1,by lia⟩
   obtain⟨its,r2,p,_⟩:=I.tuple hq;obtain⟨o,ho,hc,nn,hd⟩:=id p;have hT:s.TypeIs (.ref a) "tuple":=⟨o,ho,hc⟩;have hks:ds.all (cH n)=true:=kd;unfold hashByValue;refine AA1 (AC0 hT F.slot_tuple_hash.lookup ?_);dsimp only;refine AA1 (ACn ho hd ?_);simp only[Option.getD_some];rw[<-ABj];refine AA1 ?_
   refine AC8 _ (λbc r s'=>s'=s/\r.1=none/\∃left ws,(∀x∈left,cH n x=true)/\Reps X.K ρ H left ws/\aw ws bc) _ ?_ ?_ _ _ ⟨rfl,rfl,ds,vs,AAZ.mp hks,rr,by simpa using r2⟩
   ·rintro x bc r s' ⟨rfl,hr,left,ws,hl,h1,h2⟩
    cases h2 with
    | cons q1 q2 =>
     cases h1 with
     | cons r0 t0 =>
      refine AA1 (ih k _ _ _ _ x _ _ (by lia) I r0 q1 (hl _ AAG) λb=>?_)
      cases b with
      | false=>exact AA2 (AA2 (h _))
      | true=>exact AA2 ⟨rfl,rfl,_,_,λx hx=>hl x (AA9 _ hx),t0,q2⟩
   ·rintro⟨r1,r2⟩ s' ⟨rfl,hr,_⟩
    simp only at hr;subst hr;exact AA2 (h _)
  | _=>cases kd
theorem yZ(sm:Sim X.K ρ M H):∀(n k:Nat) (A:Around) (s:Shared) (d:D) (v:V) (u:Value) (E:Value->Shared->Prop) (Q:Bool->Shared->Prop),n<=k->Inv X pins σ H s->Rep X.K ρ H d v->aU v u->cH n d=true->Q true s->wpAny (model X.prog X.w) A (eqIsQuiet k u) Q E s:=by
 intro n;induction n with
 | zero =>
  intro k A s d v u E Q hk I r rv kd h;cases r with
  | str x=>obtain⟨t,rfl⟩:=rv;rw[ABu k (v:=.str x t) rfl];exact AA2 h
  | int x=>obtain⟨t,rfl⟩:=rv;rw[ABu k (v:=.int x t) rfl];exact AA2 h
  | _=>cases kd
 | succ n ih =>
  intro k A s d v u E Q hk I r rv kd h;cases r with
  | str x=>obtain⟨t,rfl⟩:=rv;rw[ABu k (v:=.str x t) rfl];exact AA2 h
  | int x=>obtain⟨t,rfl⟩:=rv;rw[ABu k (v:=.int x t) rfl];exact AA2 h
  | @tup a vs ds hq rr =>
   cases rv
   obtain⟨k,rfl⟩:∃k',k=k'+1:=⟨k-1,by lia⟩
   obtain⟨its,r2,p,_⟩:=I.tuple hq;obtain⟨o,ho,hc,nn,hd⟩:=id p;have hT:s.TypeIs (.ref a) "tuple":=⟨o,ho,hc⟩;have hks:ds.all (cH n)=true:=kd;unfold eqIsQuiet;refine AA1 (AC0 hT F.slot_tuple_eq.lookup ?_);refine(show wpAny (model X.prog X.w) A (isInstance (.ref a) (.type "tuple") >>= _) _ _ s from AA1 (ACN hT isSubtype_tuple_tuple ?_));simp only[ABi,AAE,if_false];refine AA1 (ACn ho hd ?_);simp only[Option.getD_some];refine AA1 ?_
   rw[<-ABj];refine AC8 _ (λbc r s'=>s'=s/\r.1=none/\∃left ws,(∀x∈left,cH n x=true)/\Reps X.K ρ H left ws/\aw ws bc) _ ?_ ?_ _ _ ⟨rfl,rfl,ds,vs,AAZ.mp hks,rr,by simpa using r2⟩
   ·rintro x bc r s' ⟨rfl,hr,left,ws,hl,h1,h2⟩
    cases h2 with
    | cons q1 q2 =>
     cases h1 with
     | cons r0 t0 =>
      refine AA1 (ih k _ _ _ _ x _ _ (by lia) I r0 q1 (hl _ AAG) ?_)
      simp only[ABi,AAE,if_false];exact AA2 ⟨rfl,rfl,_,_,λx hx=>hl x (AA9 _ hx),t0,q2⟩
   ·rintro⟨r1,r2⟩ s' ⟨rfl,hr,_⟩
    simp only at hr;subst hr;exact AA2 h
  | _=>cases kd
theorem JF(sm:Sim X.K ρ M H):∀(n k:Nat) (A:Around) (s:Shared) (d:D) (v:V) (u:Value) (E:Value->Shared->Prop) (Q:Bool->Shared->Prop),n<=k->Inv X pins σ H s->Rep X.K ρ H d v->aU v u->cH n d=true->Q false s->wpAny (model X.prog X.w) A (ofAClassStatement k u) Q E s:=by
 intro n;induction n with
 | zero =>
  intro k A s d v u E Q hk I r rv kd h;cases r with
  | str x=>obtain⟨t,rfl⟩:=rv;cases k<;>exact AA2 h
  | int x=>obtain⟨t,rfl⟩:=rv;cases k<;>exact AA2 h
  | _=>cases kd
 | succ n ih =>
  intro k A s d v u E Q hk I r rv kd h;cases r with
  | str x=>obtain⟨t,rfl⟩:=rv;cases k<;>exact AA2 h
  | int x=>obtain⟨t,rfl⟩:=rv;cases k<;>exact AA2 h
  | @tup a vs ds hq rr =>
   cases rv
   obtain⟨k,rfl⟩:∃k',k=k'+1:=⟨k-1,by lia⟩
   obtain⟨its,r2,p,_⟩:=I.tuple hq;obtain⟨o,ho,hc,nn,hd⟩:=id p;have hT:s.TypeIs (.ref a) "tuple":=⟨o,ho,hc⟩;have hks:ds.all (cH n)=true:=kd;unfold ofAClassStatement;refine AA1 (ACe hT ?_);dsimp only;simp only[beq_self_eq_true,if_true];refine AA1 (AA2 ?_);simp only[ABi,AAE,if_false];refine AA1 (ACn ho hd ?_);dsimp only;refine AA1 ?_
   rw[<-ABj];refine AC8 _ (λbc r s'=>s'=s/\r.1=none/\∃left ws,(∀x∈left,cH n x=true)/\Reps X.K ρ H left ws/\aw ws bc) _ ?_ ?_ _ _ ⟨rfl,rfl,ds,vs,AAZ.mp hks,rr,by simpa using r2⟩
   ·rintro x bc r s' ⟨rfl,hr,left,ws,hl,h1,h2⟩
    cases h2 with
    | cons q1 q2 =>
     cases h1 with
     | cons r0 t0 =>
      refine AA1 (ih k _ _ _ _ x _ _ (by lia) I r0 q1 (hl _ AAG) ?_)
      simp only[AAE,if_false];exact AA2 ⟨rfl,rfl,_,_,λx hx=>hl x (AA9 _ hx),t0,q2⟩
   ·rintro⟨r1,r2⟩ s' ⟨rfl,hr,_⟩
    simp only at hr;subst hr;exact AA2 h
  | _=>cases kd
end
def gZ:D->Bool
 | .tup _=>true
 | _=>false
def Ent(X:Cx)(ρ:List Addr)(H:Hp)(n:Nat)(d:D)(e:Int×Value):Prop:=(∃v,Rep X.K ρ H d v/\aU v e.2)/\e.1=hkD X.w n d/\cH n d=true/\gZ d=true
structure KSet(X:Cx)(ρ:List Addr)(H:Hp)(h:Heap)(a:Addr)(n:Nat)(ds:List D)(o:Obj)(es:Array (Int×Value))(ep:Nat)(t:SetTable):Prop where
 ob:h.get? a=some o
 ex:o.ExactSet
 dt:o.data=.set es ep t
 en:Paired (Ent X ρ H n) ds es.toList
 nd:ds.Nodup
 tk:Ht.TOk t (es.toList.map (·.1))
 ld:t.led = !X.w.params.followText "set-order"
def dG{α β:Type}{R:α->β->Prop}:∀{xs:List α}{ys:List β}{i:Nat}{y:β},Paired R xs ys->ys[i]?=some y->∃x,xs[i]?=some x/\R x y
 | _,_,i,y,.nil,e=>by simp at e
 | _,_,0,y,.cons r _,e=>by simp at e;subst e;exact⟨_,rfl,r⟩
 | _,_,i+1,y,.cons _ t,e=>by
  obtain⟨x,h1,h2⟩:=dG (i:=i) t (by simpa using e)
  exact⟨x,by simpa using h1,h2⟩
def jm{α β:Type}{R:α->β->Prop}:∀{xs:List α}{ys:List β}{i:Nat}{x:α},Paired R xs ys->xs[i]?=some x->∃y,ys[i]?=some y/\R x y
 | _,_,i,y,.nil,e=>by simp at e
 | _,_,0,y,.cons r _,e=>by simp at e;subst e;exact⟨_,rfl,r⟩
 | _,_,i+1,y,.cons _ t,e=>by
  obtain⟨x,h1,h2⟩:=jm (i:=i) t (by simpa using e)
  exact⟨x,by simpa using h1,h2⟩
def KSet.fits(S:KSet X ρ H h a n ds o es ep t):t.fits es.size=true:=by
 have h1:=S.tk.len;have h2:=S.tk.few;rw[AA4,AAO]at h1;unfold ADg;have h3:t.fill=t.place.size:=by unfold AEa;rw[S.tk.nod];rfl
 rw[h3];simp only[AAW,beq_iff_eq,decide_eq_true_eq];lia
section
variable{X:Cx}{pins:List (Addr×Obj)}{σ:St}{H:Hp}{ρ:List Addr}{M:Mem}{A:Around}{E:Value->Shared->Prop}{s:Shared}{a:Addr}{n:Nat}{ds:List D}{o:Obj}{es:Array (Int×Value)}{ep:Nat}{t:SetTable}
def Bs(sm:Sim X.K ρ M H)(I:Inv X pins σ H s)(hn:n<=8)(r:Rep X.K ρ H d v)(rv:aU v u)(kd:cH n d=true)(h:Q false s) :
  ∀(l:List Value),(∀y∈l,∃d' v',Rep X.K ρ H d' v'/\aU v' y/\cH n d'=true)->wpAny (model X.prog X.w) A (searchCouldBeSeen u l) Q E s:=by
 intro l hl;unfold searchCouldBeSeen;refine AA1 ?_
 refine AC8 _ (λbc r s'=>s'=s/\r.1=none/\∀y∈bc,∃d' v',Rep X.K ρ H d' v'/\aU v' y/\cH n d'=true) _ ?_ ?_ _ _ ⟨rfl,rfl,hl⟩
 ·rintro y bc r' s' ⟨rfl,hr,hy⟩
  have tl:∀z∈bc,∃d' v',Rep X.K ρ H d' v'/\aU v' z/\cH n d'=true:=λz hz=>hy z (AA9 _ hz)
  obtain⟨d',v',r1,r2,kd'⟩:=hy y AAG;dsimp only;refine ABh (λ_=>AA2 ⟨rfl,rfl,tl⟩) λ_=>?_
  refine AA1 (yZ sm n 8 A _ d v u _ _ hn I r rv kd ?_);simp only[ABi,AAE,if_false];refine AA1 (yZ sm n 8 A _ d' v' y _ _ hn I r1 r2 kd' ?_);simp only[ABi,AAE,if_false];refine AA1 (JF sm n 8 A _ d v u _ _ hn I r rv kd ?_);simp only[AAE,if_false];refine AA1 (JF sm n 8 A _ d' v' y _ _ hn I r1 r2 kd' ?_);simp only[AAE,if_false];exact AA2 ⟨rfl,rfl,tl⟩
 ·rintro⟨r1,r2⟩ s' ⟨rfl,hr,_⟩
  simp only at hr;subst hr;exact AA2 h
def BD(sm:Sim X.K ρ M H)(I:Inv X pins σ H s)(hn:n<=8)(hu:A.units+n<cLine)(S:KSet X ρ H s.heap a n ds o es ep t)(r:Rep X.K ρ H d v)(rv:aU v u)(kd:cH n d=true)
  (hthere:d∈ds->Q (.there none) s) (hN1:N<10*(t.mask+15)) (hN2:(Ht.sq t.mask (hkD X.w n d) N).j∉t.place.toList) (hN3:∀k,k<N->(Ht.sq t.mask (hkD X.w n d) k).j∈t.place.toList)
  (hfree:d∉ds->Q (.free (Ht.sq t.mask (hkD X.w n d) N).j false) s) :
  ∀(fuel m:Nat) (stand:Option ACU),m<=N->N<m+fuel->stand.getD (t.probeStart (hkD X.w n d))=Ht.sq t.mask (hkD X.w n d) m->(∀k i:Nat,k<m->t.place[i]?=some (Ht.sq t.mask (hkD X.w n d) k).j->ds[i]?≠some d) ->
   wpAny (model X.prog X.w) A (setSearchFrom a u (hkD X.w n d) true fuel stand) Q E s:=by
 intro fuel;induction fuel with
 | zero=>intro m stand h1 h2;lia
 | succ fuel ih =>
  intro m stand h1 h2 hs hb;unfold setSearchFrom;refine AA1 (ABL S.ob S.dt S.fits ?_);dsimp only;have gw:t.gaveWay=false:=by
   unfold SetTable.gaveWay;rcases S.tk.msk with e | e | e<;>rw[e]<;>rfl
  rw[gw];simp only[AAE,if_false];rw[hs];rcases Ht.go_spec S.tk.ris S.tk.nod (λi=>(es[i]?.map (·.1)).getD 0) (hkD X.w n d) (10*ADJ t.mask) m N h1 (by unfold ADJ;lia) hN2 (λk _ hk=>hN3 k hk) (Ht.sq_dummy _ _)with⟨z1,z2⟩|⟨m',i,a1,a2,a3,a4,a5,a6⟩
  ·generalize hpr:SetTable.probe t _ (hkD X.w n d) (Ht.sq t.mask (hkD X.w n d) m)=pr
   obtain rfl:pr=_:=hpr.symm.trans z2;dsimp only;refine AA2 (hfree λhd=>?_)
   obtain⟨i,hi⟩:=ABE hd;obtain⟨e,he,_,eh,_⟩:=jm S.en hi;have he':es[i]?=some e:=by rw[<-AAS];exact he
   have hh:(es.toList.map (·.1))[i]?=some (hkD X.w n d):=by rw[AAR,he];exact congrArg some eh
   have hl:i<t.place.size:=by rw[S.tk.len];exact(AA7.mp hh).1
   obtain⟨ni,b1,b2⟩:=S.tk.path i _ t.place[i] hh (AAJ hl);have hlt:ni<N:=by
    rcases AD6 ni N with q | q | q
    ·exact q
    ·subst q
     exact absurd (show (Ht.sq t.mask (hkD X.w n d) ni).j∈t.place.toList by rw[b1];simp) hN2
    ·exact absurd (b2 N q) hN2
   have hp:t.place[i]?=some (Ht.sq t.mask (hkD X.w n d) ni).j:=by rw[b1];exact AAJ hl
   rcases AC1 ni m with q | q
   ·exact hb ni i q hp hi
   ·refine z1 ni i q hlt hp ?_
    rw[he'];exact eh
  ·generalize hpr:SetTable.probe t _ (hkD X.w n d) (Ht.sq t.mask (hkD X.w n d) m)=pr
   obtain rfl:pr=_:=hpr.symm.trans a6;dsimp only;have hil:i<es.size:=by
    have:=(AAu.mp a3).1;rw[S.tk.len,AA4,AAO]at this;exact this
   have hei:es[i]?=some es[i]:=AAJ hil;obtain⟨d0,hd0,⟨v0,r0,rv0⟩,eh0,kd0,it0⟩:=dG S.en (i:=i) (y:=es[i]) (by rw[AAS];exact hei)
   have seen:∀(f:Bool->Sem SetFound),wpAny (model X.prog X.w) A (f false) Q E s->wpAny (model X.prog X.w) A (searchCouldBeSeen u ((es.filter (·.1==hkD X.w n d)).toList.map (·.2)) >>= f) Q E s:=λf hf=>by
    refine AA1 (Bs sm I hn r rv kd hf _ λy hy=>?_)
    obtain⟨e,he,rfl⟩:=AAH.mp hy;have he2:e∈es.toList:=by
     have:e∈es.filter (·.1==hkD X.w n d):=by simpa using he
     simpa using(Array.mem_filter.mp this).1
    obtain⟨j,hj⟩:=ABE he2;obtain⟨d1,_,⟨v1,r1,rv1⟩,_,kd1,_⟩:=dG S.en hj;exact⟨d1,v1,r1,rv1,kd1⟩
   have hbv:∃b,es[i].2=ABn b:=by
    cases r0 with
    | tup _ _=>exact⟨_,rv0⟩
    | _=>cases it0
   obtain⟨b,hbv⟩:=hbv;have heq:ACJ A s es[i].2 u (eqD M n d0 d):=(my I sm n A d0 d v0 v es[i].2 u hu r0 rv0 r rv (ud n d0 kd0) (ud n d kd)).1;refine ABh (λ_=>seen _ ?_) λ_=>?_
   ·simp only[AAE,if_false]
    rw[hei];dsimp only;refine AA1 (AAr (heq _ _ _ _ (AA1 (ABL S.ob S.dt S.fits ?_))));dsimp only;by_cases hq:eqD M n d0 d=true
    ·rw[hq]
     simp only[Bool.and_self,if_true];have:d0=d:=(jR n d0 d kd0 kd).mp hq;subst this;exact AA2 (hthere (AAi hd0))
    ·rw[AB4.mpr hq]
     simp only[ADy,AAE,if_false];have sm':t.sameMemory t.moves t.mask=some true:=by unfold SetTable.sameMemory;simp
     rw[sm'];dsimp only;simp only[if_true];rw[Ht.slot_live S.tk.ris a3];dsimp only;rw[hei];have sam:wpAny (model X.prog X.w) A (isSame es[i].2 es[i].2) (λb s'=>b=true/\s'=s) E s:=by
      unfold isSame;rw[hbv];simp only[beq_self_eq_true,if_true];exact AA2 (And.intro rfl rfl)
     refine AA1 (ABF sam (λb s' ⟨e1,e2⟩=>?_) λ_ _ z=>z)
     subst e1 e2;refine AA1 (AA2 ?_);simp only[if_true];refine ih (m'+1) _ (by lia) (by lia) rfl λk i' hk hp hds=>?_
     rcases AC1 k m with q | q
     ·exact hb k i' q hp hds
     ·rcases AC1 k m' with q' | q'
      ·refine a5 k i' q q' hp ?_
       obtain⟨e,he,_,eh,_⟩:=jm S.en hds;have he':es[i']?=some e:=by rw[<-AAS];exact he
       rw[he'];exact eh
      ·have:k=m':=by lia
       subst this;have:i'=i:=by rw[<-Ht.below_at S.tk.ris hp,Ht.below_at S.tk.ris a3]
       subst this;rw[hd0]at hds;cases hds
       exact hq ((jR n d d kd kd).mpr rfl)
   ·rw[hei]
    dsimp only;refine AA1 (AAr (heq _ _ _ _ (AA1 (ABL S.ob S.dt S.fits ?_))));dsimp only;by_cases hq:eqD M n d0 d=true
    ·rw[hq]
     simp only[Bool.and_self,if_true];have:d0=d:=(jR n d0 d kd0 kd).mp hq;subst this;exact AA2 (hthere (AAi hd0))
    ·rw[AB4.mpr hq]
     simp only[ADy,AAE,if_false];have sm':t.sameMemory t.moves t.mask=some true:=by unfold SetTable.sameMemory;simp
     rw[sm'];dsimp only;simp only[if_true];rw[Ht.slot_live S.tk.ris a3];dsimp only;rw[hei];have sam:wpAny (model X.prog X.w) A (isSame es[i].2 es[i].2) (λb s'=>b=true/\s'=s) E s:=by
      unfold isSame;rw[hbv];simp only[beq_self_eq_true,if_true];exact AA2 (And.intro rfl rfl)
     refine AA1 (ABF sam (λb s' ⟨e1,e2⟩=>?_) λ_ _ z=>z)
     subst e1 e2;refine AA1 (AA2 ?_);simp only[if_true];refine ih (m'+1) _ (by lia) (by lia) rfl λk i' hk hp hds=>?_
     rcases AC1 k m with q | q
     ·exact hb k i' q hp hds
     ·rcases AC1 k m' with q' | q'
      ·refine a5 k i' q q' hp ?_
       obtain⟨e,he,_,eh,_⟩:=jm S.en hds;have he':es[i']?=some e:=by rw[<-AAS];exact he
       rw[he'];exact eh
      ·have:k=m':=by lia
       subst this;have:i'=i:=by rw[<-Ht.below_at S.tk.ris hp,Ht.below_at S.tk.ris a3]
       subst this;rw[hd0]at hds;cases hds
       exact hq ((jR n d d kd kd).mpr rfl)
end
def Paired.ins{α β:Type}{R:α->β->Prop}{x:α}{y:β}(r:R x y):∀{xs:List α}{ys:List β} (p:Nat),Paired R xs ys->Paired R (xs.take p++x::xs.drop p) (ys.take p++y::ys.drop p)
 | _,_,0,h=>by simpa using .cons r h
 | _,_,p+1,.nil=>.cons r .nil
 | _,_,p+1,.cons h t=>.cons h (Paired.ins r p t)
def Paired.pick{α β:Type}{R:α->β->Prop}:∀{xs:List α}{ys:List β} (is:List Nat),Paired R xs ys->(∀i∈is,i<xs.length)->Paired R (is.filterMap (xs[·]?)) (is.filterMap (ys[·]?))
 | _,_,[],_,_=>.nil
 | xs,ys,i::is,h,hi=>by
  have hl:=hi i AAG;have e:xs[i]?=some xs[i]:=AA6 hl;obtain⟨y,hy,r⟩:=jm h e;rw[AB5,AB5,e,hy];exact .cons r (Paired.pick is h λj hj=>hi j (AA9 _ hj))
def nU{α:Type}{l:List α}{is:List Nat}(h:is.Perm (AAk l.length)):(is.filterMap (l[·]?)).Perm l:=by
 have:=h.filterMap (l[·]?)
 rwa [List.filterMap_getElem?_range_length]at this
section
variable{X:Cx}{pins:List (Addr×Obj)}{σ:St}{H:Hp}{ρ:List Addr}{M:Mem}{A:Around}{E:Value->Shared->Prop}{s:Shared}{a:Addr}{n:Nat}{ds:List D}{o:Obj}{es:Array (Int×Value)}{ep:Nat}{t:SetTable}
def KS(X:Cx)(ρ:List Addr)(H:Hp)(h:Heap)(a:Addr)(n:Nat)(ds:List D):Prop:=∃o es ep t,KSet X ρ H h a n ds o es ep t
set_option maxHeartbeats 1000000 in
theorem add_D(sm:Sim X.K ρ M H)(I:Inv X pins σ H s)(hn:n<=8)(hu:A.units+n+1<cLine)(S:KS X ρ H s.heap a n ds)(h60:ds.length+1<=64)(r:Rep X.K ρ H d v)(rv:aU v u)(kd:cH n d=true)(it:gZ d=true)
  (h:∀b h' tk ds',(∀c u,c≠a->s.heap.get? c=some u->h'.get? c=some u)->KS X ρ H h' a n ds'->(∀x,x∈ds'↔x∈ds\/x=d)->ds'.length<=ds.length+1->Q b { s with heap:=h',toks:=tk }) :
  wpAny (model X.prog X.w) A (setAdd a u) Q E s:=by
 obtain⟨o,es,ep,t,S⟩:=S;obtain⟨ra,rfl⟩:∃ra,u=ABn ra:=by
  cases r with
  | tup _ _=>exact⟨_,rv⟩
  | _=>cases it
 unfold setAdd;refine AAr (AA1 (IX sm n A s d v _ _ _ (by lia) I r rv kd λtk=>?_))
 unfold setAddHashed setAddHashedIn;refine AAr (AA1 (ABL (s:={ s with toks:=tk }) S.ob S.dt S.fits ?_))
 dsimp only;have bs:byScan (.ref ra) es=false:=rfl;rw[bs];simp only[AAE,if_false];obtain⟨N,hN1,hN2,hN3⟩:=S.tk.empty (hkD X.w n d);have I1:Inv X pins σ H { s with toks:=tk }:=I.tok tk
 unfold setSearch;refine AA1 (BD (s:={ s with toks:=tk }) sm I1 hn (by lia) S r rv kd (λhd=>?_) hN1 hN2 hN3 (λhd=>?_) 100000 0 none (AAX _) ?_ rfl λk i hk=>absurd hk (ABz _))
 ·exact AA2 (h _ s.heap tk ds (λ_ _ _ e=>e) ⟨o,es,ep,t,S⟩ (λx=>⟨.inl,λz=>z.elim id λe=>e ▸ hd⟩) (AEI _))
 ·dsimp only
  refine AA1 (ABL (s:={ s with toks:=tk }) S.ob S.dt S.fits ?_)
  dsimp only;have len:=S.tk.len;rw[AA4,AAO]at len;have dl:ds.length=es.size:=by have:=Paired.length S.en;simpa using this
  have fin:∀pl:Bool,wpAny (model X.prog X.w) A (do
    storeSet a (ADp es (t.put (Ht.sq t.mask (hkD X.w n d) N).j).2 (hkD X.w n d,ABn ra)) { (t.put (Ht.sq t.mask (hkD X.w n d) N).j).1 with plain:=pl }
    if (!false&&({ (t.put (Ht.sq t.mask (hkD X.w n d) N).j).1 with plain:=pl }:SetTable).tooFull)=true then do
      setRelay a (ACo (es.size+1))
      pure true
     else pure true) Q E { s with toks:=tk }:=λpl=>by
   obtain⟨pb,T1⟩:=Ht.put_pre S.tk hN2 hN3 pl;have ld1:({ (t.put (Ht.sq t.mask (hkD X.w n d) N).j).1 with plain:=pl }:SetTable).led=t.led:=rfl
   have mk1:({ (t.put (Ht.sq t.mask (hkD X.w n d) N).j).1 with plain:=pl }:SetTable).mask=t.mask:=rfl
   generalize ({ (t.put (Ht.sq t.mask (hkD X.w n d) N).j).1 with plain:=pl }:SetTable)=t1 at T1 ld1 mk1
   generalize (t.put (Ht.sq t.mask (hkD X.w n d) N).j).2=p at pb T1;rw[AA4,AAO]at pb;have e1:(ADp es p (hkD X.w n d,ABn ra)).toList=es.toList.take p++(hkD X.w n d,ABn ra)::es.toList.drop p:=SetTable.toList_insertAt ..;generalize ADp es p (hkD X.w n d,ABn ra)=es1 at e1;have hs1:es1.toList.map (·.1)=(es.toList.map (·.1)).take p++hkD X.w n d::(es.toList.map (·.1)).drop p:=by rw[e1,AB1,AAf,List.map_take,AEC]
   rw[<-hs1]at T1;have sz1:es1.size=es.size+1:=by
    have:=congrArg ABf e1;rw[AAO,AAB,AAK,AAv,ABQ,AAO]at this;lia
   have en1:Paired (Ent X ρ H n) (ds.take p++d::ds.drop p) es1.toList:=by
    rw[e1];exact Paired.ins ⟨⟨v,r,rv⟩,rfl,kd,it⟩ p S.en
   have pm:(ds.take p++d::ds.drop p).Perm (d::ds):=by
    refine List.perm_middle.trans (AES d ?_);rw[List.take_append_drop]
   have nd1:(ds.take p++d::ds.drop p).Nodup:=pm.nodup_iff.mpr (ABy.mpr ⟨hd,S.nd⟩);have fit1:t1.fits es1.size=true:=by
    have l1:=T1.len;rw[AA4,AAO]at l1;have h3:t1.fill=t1.place.size:=by unfold AEa;rw[T1.nod];rfl
    have fw:=S.tk.few;unfold ADg;rw[h3];simp only[AAW,beq_iff_eq,decide_eq_true_eq];rw[len]at fw;rcases S.tk.msk with e | e | e<;>rw[mk1,e]<;>rw[e]at fw<;>lia
   have zz:es1.size<=sizeLine:=by rw[ABr];lia
   refine AA1 (wpAny_storeSet_of (s:={ s with toks:=tk }) S.ob S.dt ?_ zz)
   have ob1:(s.heap.update a (AEY es1 t1)).get? a=some { o with data:=.set es1 (ep+1) t1 }:=by
    have q:=AAj (AEY es1 t1) S.ob (by rw[putSet_of es1 t1 S.dt];rfl)
    rwa [putSet_of es1 t1 S.dt]at q
   have oth:∀c u,c≠a->s.heap.get? c=some u->(s.heap.update a (AEY es1 t1)).get? c=some u:=λc u hc e=>(ABo _ _ (ABM hc)).trans e
   by_cases tf:t1.tooFull=true
   ·rw[tf]
    simp only[AE0,Bool.and_self,if_true];have hbd:((es1.toList.map (·.1)).length-1)*5<t1.mask*3:=by
     have fw:=S.tk.few;rw[len]at fw;rw[AA4,AAO,sz1,mk1];simpa using fw
    obtain⟨zl,t2,ord,g1,g2,T2,ld2⟩:=T1.anew tf hbd (by rw[AA4,AAO];lia)
    rw[AA4,AAO]at g2 zl;have eg:ACo (es.size+1)=ACo (es1.toList.map (·.1)).length:=by rw[AA4,AAO,sz1]
    unfold setRelay;refine AA1 (AA1 (ABL (s:={ s with heap:=_,toks:=tk }) ob1 rfl fit1 ?_))
    dsimp only;rw[eg];have nz:¬AEP (ACo (es1.toList.map (·.1)).length) > sizeLine:=by
     rw[AA4,AAO];lia
    simp only[nz,if_false];have ea:es1.map (·.1)=(es1.toList.map (·.1)).toArray:=by apply Array.ext';simp
    rw[ea,g1];have es2:(ord.filterMap (es1[·]?)).toList=ord.toList.filterMap (es1.toList[·]?):=by
     rw[Array.toList_filterMap];congr 1;funext i;rw[AAS]
    have sz2:(ord.filterMap (es1[·]?)).size=es1.size:=by
     have:=(nU (l:=es1.toList) (is:=ord.toList) (by rw[AAO];exact g2)).length_eq
     rw[<-es2,AAO,AAO]at this;exact this
    refine AA1 (show wpAny (model X.prog X.w) A (if ((ord.filterMap (es1[·]?)).size != es1.size)=true then _ else pure (ord.filterMap (es1[·]?),t2)) _ _ _ from ?_);rw[if_neg (by rw[sz2];simp)]
    refine AA2 ?_
    generalize ord.filterMap (es1[·]?)=es2' at es2 sz2;have pm2:(ord.toList.filterMap ((ds.take p++d::ds.drop p)[·]?)).Perm (ds.take p++d::ds.drop p):=nU (by
     have:(ds.take p++d::ds.drop p).length=es1.size:=by rw[pm.length_eq,AAK,dl,sz1]
     rw[this];exact g2)
    refine wpAny_storeSet_of (s:={ s with heap:=_,toks:=tk }) ob1 rfl ?_ (by rw[sz2];exact zz)
    have ob2:((s.heap.update a (AEY es1 t1)).update a (AEY es2' t2)).get? a=some { o with data:=.set es2' (ep+1+1) t2 }:=by
     have q:=AAj (AEY es2' t2) ob1 (by rw[putSet_of es2' t2 (es:=es1) (ep:=ep+1) (t:=t1) rfl];rfl)
     rwa [putSet_of es2' t2 (es:=es1) (ep:=ep+1) (t:=t1) rfl]at q
    refine AA2 (h _ _ tk (ord.toList.filterMap ((ds.take p++d::ds.drop p)[·]?)) (λc u hc e=>(ABo _ _ (ABM hc)).trans (oth c u hc e)) ⟨_,es2',_,t2,ob2,S.ex,rfl,?_,pm2.nodup_iff.mpr nd1,?_,ld2.trans (ld1.trans S.ld)⟩ (λx=>?_) ?_)
    ·rw[es2]
     refine Paired.pick _ en1 λi hi=>?_
     have:=g2.mem_iff.mp hi;rw[AAz]at this;rw[pm.length_eq,AAK,dl,<-sz1];exact this
    ·have e2:es2'.toList.map (·.1)=ord.toList.map λi=>(es1.toList.map (·.1)).getD i 0:=by
      rw[es2];have:∀(is:List Nat),(∀i∈is,i<es1.toList.length)->(is.filterMap (es1.toList[·]?)).map (·.1)=is.map λi=>(es1.toList.map (·.1)).getD i 0:=by
       intro is;induction is with
       | nil=>intro _;rfl
       | cons i is ih =>
        intro hi;have hl:=hi i AAG;rw[AB5,AA6 hl,AAf,AAf,ih λj hj=>hi j (AA9 _ hj)]
        congr 1;rw[AAL,AAR,AA6 hl];rfl
      refine this _ λi hi=>?_
      have:=g2.mem_iff.mp hi;rw[AAz]at this;rw[AAO];exact this
     rw[e2];exact T2
    ·rw[pm2.mem_iff,pm.mem_iff,AAQ]
     exact⟨λz=>z.symm,λz=>z.symm⟩
    ·rw[pm2.length_eq,pm.length_eq];exact AA8 _
   ·rw[AB4.mpr tf]
    simp only[ADy,AAE,if_false];refine AA2 (h _ _ tk _ oth ⟨_,es1,_,t1,ob1,S.ex,rfl,en1,nd1,T1.ok (AB4.mpr tf),ld1.trans S.ld⟩ (λx=>?_) ?_)
    ·rw[pm.mem_iff,AAQ]
     exact⟨λz=>z.symm,λz=>z.symm⟩
    ·rw[pm.length_eq];exact AA8 _
  refine ABh (λ_=>AA1 (hbv_D sm n 8 A _ d v _ _ _ hn I1 r rv kd λb=>?_)) λ_=>?_
  ·cases b with
   | true=>exact fin (t.put (Ht.sq t.mask (hkD X.w n d) N).j).1.plain
   | false=>exact fin false
  ·exact fin (t.put (Ht.sq t.mask (hkD X.w n d) N).j).1.plain
 ·have:=hN1
  rcases S.tk.msk with e | e | e<;>rw[e]at this<;>lia
end
section
variable{X:Cx}{pins:List (Addr×Obj)}{σ:St}{H:Hp}{ρ:List Addr}{M:Mem}{A:Around}{E:Value->Shared->Prop}{s:Shared}{n:Nat}
def KS.at(x:KS X ρ H h a n ds)(k:∀o,h.get? a=some o->h'.get? a=some o):KS X ρ H h' a n ds:=by
 obtain⟨o,es,ep,t,S⟩:=x;exact⟨o,es,ep,t,k _ S.ob,S.ex,S.dt,S.en,S.nd,S.tk,S.ld⟩
def FH(sm:Sim X.K ρ M H)(I:Inv X pins σ H s)(hn:n<=8)(hu:A.units+n+2<cLine)(W:Walks X.prog X.w A.in1 J fp wr m P Sx)(S:Addr)(hSf:S∉fp)
  (hS0:s.heap.get? S=none) (hw0:∀b∈wr,s.heap.get? b=none) (val:Nat->D) (hval:∀i v,P i v->∃vv,Rep X.K ρ H (val i) vv/\aU vv v/\cH n (val i)=true/\gZ (val i)=true) (hb:m<=63) :
  ∀(k i:Nat) (h:Heap) (tk:Nat) (ds:List D),m-i=k->i<=m->Sx i h->KS X ρ H h S n ds->(∀x,x∈ds↔∃j,j<i/\val j=x)->ds.length<=i->(∀b u,s.heap.get? b=some u->h.get? b=some u) ->
   (∀h' tk ds',(∀b u,s.heap.get? b=some u->h'.get? b=some u)->KS X ρ H h' S n ds'->(∀x,x∈ds'↔∃j,j<m/\val j=x)->ds'.length<=m->R (.ok (.ret .none)) { s with heap:=h',toks:=tk }) ->
   codeAny (model X.prog X.w) A (.builtin "set.update.loop" ⟨[.ref S,.ref J],[]⟩) R { s with heap:=h,toks:=tk }:=by
 have hSw:S∉wr:=λh=>hSf (W.sub _ h)
 intro k;induction k with
 | zero =>
  intro i h tk ds hk hi hst hS hm hl hold hR;obtain rfl:i=m:=by lia
  refine ABg F.entry_set_update_loop ?_
  rw[ABk F.plain_set_update_loop _];refine(show wpAny (model X.prog X.w) A.in1 (pyNext (.ref J) >>= _) _ _ _ from AA1 (W.done _ _ _ hst λh' tk hk'=>?_))
  refine AA2 (hR h' tk ds (λb u e=>hk' b u (λz=>by rw[hw0 b z]at e;cases e) (hold b u e)) (hS.at λo e=>hk' S o hSw e) hm hl)
 | succ k ih =>
  intro i h tk ds hk hi hst hS hm hl hold hR;refine ABg F.entry_set_update_loop ?_
  rw[ABk F.plain_set_update_loop _];refine(show wpAny (model X.prog X.w) A.in1 (pyNext (.ref J) >>= _) _ _ _ from AA1 (W.item i _ _ _ (by lia) hst λv h' tk hP hst' hk'=>?_))
  obtain⟨vv,r,rv,kd,it⟩:=hval i v hP;have old':∀b u,s.heap.get? b=some u->h'.get? b=some u:=λb u e=>hk' b u (λz=>by rw[hw0 b z]at e;cases e) (hold b u e)
  have I':Inv X pins σ H { s with heap:=h',toks:=tk }:=I.kept old'
  refine AA1 (AAr (add_D (s:={ s with heap:=h',toks:=tk }) sm I' hn (by show A.units+1+n+1<cLine;lia) (hS.at λo e=>hk' S o hSw e) (by lia) r rv kd it λb h2 tk2 ds2 k2 hS2 hm2 hl2=>?_))
  refine AA2 ⟨AD9 F.plain_set_update_loop _,ih (i+1) h2 tk2 ds2 (by lia) (by lia) (W.frame _ h' h2 hst' λb' hb' o e=>k2 b' o (λz=>hSf (z ▸ hb')) e) hS2 (λx=>?_) (by lia) (λb u e=>k2 b u (λz=>by rw[z,hS0]at e;cases e) (old' b u e)) hR⟩
  rw[hm2,hm];constructor
  ·rintro(⟨j,hj,e⟩ | rfl)
   ·exact⟨j,by lia,e⟩
   ·exact⟨i,by lia,rfl⟩
  ·rintro⟨j,hj,rfl⟩
   by_cases q:j=i
   ·subst q;exact .inr rfl
   ·exact .inl ⟨j,by lia,rfl⟩
def Cz(e:h.get? a=some (bf X.w)):KS X ρ H h a n [] :=
 ⟨_,#[],0,_,e,⟨rfl,rfl,rfl⟩,rfl,.nil,AE1,⟨.inl rfl,rfl,rfl,AD3,λj hj=>by simp[SetTable.fresh]at hj,(by show 0*5<7*3;decide),λi h j hh=>by simp at hh⟩,rfl⟩
end
section
variable{X:Cx}{pins:List (Addr×Obj)}{σ:St}{H:Hp}{ρ:List Addr}{M:Mem}{A:Around}{E:Value->Shared->Prop}{s:Shared}{m:Nat}
def FM(sm:Sim X.K ρ M H)(I:Inv X pins σ H s)(hm8:m<=8)(hu:A.units+m+3<cLine){l:Addr}{T:String}{n:Nat}{P:Nat->Value->Prop}{G:Shared->Prop}(hh:A.handled=none)(K:TxSrc X.prog X.w s.heap l T n P)(val:Nat->D)(hval:∀i v,P i v->∃vv,Rep X.K ρ H (val i) vv/\aU vv v/\cH m (val i)=true/\gZ (val i)=true)(hb:n<=63)
  (h:∀h' tk ds,(∀b o,s.heap.get? b=some o->h'.get? b=some o)->KS X ρ H h' s.heap.objs.size m ds->(∀x,x∈ds↔∃j,j<n/\val j=x)->ds.length<=n->G { s with heap:=h',toks:=tk }) :
  wpAny (model X.prog X.w) A (Builtin.«set.__init__» ⟨[.ref s.heap.objs.size,.ref l],[]⟩) (λfin s'=>fin=.done (.ret .none)/\G s') E { s with heap:=s.heap.push (bf X.w) }:=by
 have hS:(s.heap.push (bf X.w)).get? s.heap.objs.size=some (bf X.w):=AAA _ rfl;have hT:AED { s with heap:=s.heap.push (bf X.w) } (.ref s.heap.objs.size) "set":=⟨_,hS,rfl⟩
 obtain⟨ol,hol,hcl⟩:=K.obj;have hol':(s.heap.push (bf X.w)).get? l=some ol:=AA3 _ hol;have hTl:AED { s with heap:=s.heap.push (bf X.w) } (.ref l) T:=⟨ol,hol',hcl⟩
 have ll:l<s.heap.objs.size:=AAF hol;have sz:(s.heap.push (bf X.w)).objs.size=s.heap.objs.size+1:=ABW ..;obtain⟨oI,St,hit,W,st⟩:=K.iter A.in1 { s with heap:=s.heap.push (bf X.w) } hh λo e=>AA3 _ e
 have ns:=K.ns;have nf:=K.nf;have nd:=K.nd;unfold Builtin.«set.__init__» noKeywords Builtin.Frozenset.updateFrom;generalize hPI:pyIter=PI
 wp_walk
 subst hPI;refine wpAny_of_in1 (hit _ _ ?_);have hSf:s.heap.objs.size∉[(s.heap.push (bf X.w)).objs.size,l]:=by
  rw[sz];simp only[AAQ,List.not_mem_nil,or_false,not_or];exact⟨AAN (AB6 _),Nat.ne_of_gt ll⟩
 have hS0:s.heap.get? s.heap.objs.size=none:=by
  cases q:s.heap.get? s.heap.objs.size with
  | none=>rfl
  | some o=>exact absurd (AAF q) (AAm _)
 have hw0:∀b∈[(s.heap.push (bf X.w)).objs.size],s.heap.get? b=none:=λb hb'=>by
  rw[AAt.mp hb',sz];cases q:s.heap.get? (s.heap.objs.size+1) with
  | none=>rfl
  | some o=>exact absurd (AAF q) (AD4.mpr (AEI _))
 refine AA1 (wpAny_runValue (FH (s:=s) sm I hm8 (by first | exact(show A.units+m+2<cLine by lia) | exact(show A.units+1+m+2<cLine by lia)) W s.heap.objs.size hSf hS0 hw0 val hval hb n 0 _ _ [] rfl (AAX _) st (Cz (AA3 _ hS)) (λx=>by simp) (AA8 _) (λb u e=>AA3 _ (AA3 _ e)) λh' tk ks hk hks hm hl=>?_))
 exact AA2 (AA2 ⟨rfl,h h' tk ks hk hks hm hl⟩)
set_option maxHeartbeats 1000000 in
def Gr(sm:Sim X.K ρ M H)(I:Inv X pins σ H s)(hm8:m<=8)(hu:A.units+m+20<cLine){l:Addr}{T:String}{n:Nat}{P:Nat->Value->Prop}{Q:Value->Shared->Prop}(hh:A.handled=none)(K:TxSrc X.prog X.w s.heap l T n P)(val:Nat->D)(hval:∀i v,P i v->∃vv,Rep X.K ρ H (val i) vv/\aU vv v/\cH m (val i)=true/\gZ (val i)=true)(hb:n<=63)
  (h:∀h' tk ds,(∀b o,s.heap.get? b=some o->h'.get? b=some o)->KS X ρ H h' s.heap.objs.size m ds->(∀x,x∈ds↔∃j,j<n/\val j=x)->ds.length<=n->Q (.ref s.heap.objs.size) { s with heap:=h',toks:=tk }) :
  wpAny (model X.prog X.w) A (call (.type "set") [.ref l]) Q E s:=by
 have fm:=F.called_set.made;have fs:=F.called_set.sub;have fn:=F.called_set.notType;have fc:=F.called_set.canCreate;have ft:=F.typeCall_set_1 (.ref l);obtain⟨c,tl,fo⟩:=F.called_set.mro;refine wpAny_call (codeAny_of_tree (show wpAny _ _ (callAny (.type "set") _) _ _ _ from AA2 ⟨Code.quiet_builtin _ (by decide +kernel),ABg F.entry_type_call ?_⟩))
 rw[Around.under_plain (weight_type_call_type "set" [.ref l] []) rfl];repeat (any_goals (first | assumption | wp_step))
 refine ADP (uy (.ref l) (E:=E) (Q₁:=λobj s₁=>obj=.ref s.heap.objs.size/\s₁={ s with heap:=s.heap.push (bf X.w) }) ⟨rfl,rfl⟩) λr s₁ hr=>?_
 match r,hr with
 | .error e,hr=>exact hr
 | .ok (.ret obj),⟨e1,e2⟩ =>
  subst e1 e2;have hS:(s.heap.push (bf X.w)).get? s.heap.objs.size=some (bf X.w):=AAA _ rfl;have hT:AED { s with heap:=s.heap.push (bf X.w) } (.ref s.heap.objs.size) "set":=⟨_,hS,rfl⟩
  have fl:=F.called_set.init.lookup;have fb:=F.called_set.init.bind (.ref s.heap.objs.size);repeat (any_goals (first | assumption | wp_step))
  refine ADP (codeAny_call_builtin (R:=wants (λr s₂=>r=.none/\Q (.ref s.heap.objs.size) s₂) E) F.called_set.init.plain F.entry_set_init (check_set_init_1 hT ?_)) λr₂ s₂ hr₂=>?_
  ·refine ABF (FM (G:=λs2=>Q (.ref s.heap.objs.size) s2) sm I hm8 (by first | (show A.units+1+1+1+m+3<cLine;lia) | (show A.units+1+1+m+3<cLine;lia) | (show A.units+1+m+3<cLine;lia)) (by simp[hh]) K val hval hb h) (λfin s' ⟨e,g⟩=>?_) λ_ _ z=>z
   subst e;exact⟨rfl,g⟩
  ·match r₂,hr₂ with
   | .error e,hr₂=>exact hr₂
   | .ok (.ret r),⟨e,q⟩ =>
    subst e;repeat (any_goals (first | assumption | wp_step))
end
def SqAt(M:Mem)(d:D)(xs:List D):Prop:=(∃n,d=.ref n/\ar M n xs)\/d=.tup xs
def SrtOk.sub(h:SrtOk M xs)(s:∀y∈ys,y∈xs)(l:ys.length<64):SrtOk M ys:=by
 refine⟨l,λx hx=>h.ok x (s x hx),λx hx y hy=>h.cm x (s x hx) y (s y hy),?_⟩
 rcases h.kd with k | k | k | k | k
 ·exact .inl λx hx=>k x (s x hx)
 ·exact .inr (.inl λx hx=>k x (s x hx))
 ·exact .inr (.inr (.inl λx hx=>k x (s x hx)))
 ·exact .inr (.inr (.inr (.inl λx hx=>k x (s x hx))))
 ·exact .inr (.inr (.inr (.inr λx hx=>k x (s x hx))))
section
variable{X:Cx}{e:Expr}{te:DTE}{p p' pos pos':Pos}{k:Nat}
def GY(I:Inv X pins σ H s)(sm:Sim X.K ρ M H)(r:Rep X.K ρ H d v)(rv:aU v u)(t:SqAt M d xs) :
  ∃(a:Addr) (T:String) (its:Array Value) (vs:List V),u=.ref a/\TxSrc X.prog X.w s.heap a T its.size (λi v=>its[i]?=some v)/\Reps X.K ρ H xs vs/\aw vs its.toList:=by
 rcases t with⟨n,rfl,hL⟩ | rfl
 ·cases r with
  | @ref _ a ha =>
   cases rv
   obtain⟨vs,hs,rr⟩:=hL.seq sm ha;obtain⟨its,r2,p,_⟩:=I.list hs;exact⟨a,_,its.toArray,vs,rfl,TxSrc.list p.isList,rr,by simpa using r2⟩
 ·cases r with
  | @tup a vs _ hs rr =>
   cases rv
   obtain⟨its,r2,p,_⟩:=I.tuple hs;exact⟨a,_,its.toArray,vs,rfl,TxSrc.tuple p,rr,by simpa using r2⟩
def sW:∀{ds:List D}{vs:List V}{its:List Value}{i:Nat}{u:Value}{ρ:List Addr}{H:Hp},Reps X.K ρ H ds vs->aw vs its->its[i]?=some u->∃d v,ds[i]?=some d/\Rep X.K ρ H d v/\aU v u
 | _,_,_,i,u,_,_,.nil,h,e=>by cases h;simp at e
 | _,_,_,0,u,_,_,.cons r _,h,e=>by
  cases h with
  | cons a _=>simp at e;subst e;exact⟨_,_,rfl,r,a⟩
 | _,_,_,i+1,u,_,_,.cons _ t,h,e=>by
  cases h with
  | cons _ b =>
   obtain⟨d,v,e1,r,rv⟩:=sW (i:=i) t b (by simpa using e)
   exact⟨d,v,by simpa using e1,r,rv⟩
def ents:∀{ds:List D}{es:List (Int×Value)},Paired (Ent X ρ H n) ds es->∃vs,Reps X.K ρ H ds vs/\aw vs (es.map (·.2))
 | _,_,.nil=>⟨[],.nil,.nil⟩
 | _,_,.cons ⟨⟨v,r,rv⟩,_⟩ t=>by
  obtain⟨vs,a,b⟩:=ents t;exact⟨v::vs,.cons r a,.cons rv b⟩
def zf(p:us'.Perm us):∀{ds:List D}{vs:List V},Reps X.K ρ H ds vs->aw vs us->∃ds' vs',ds'.Perm ds/\Reps X.K ρ H ds' vs'/\aw vs' us':=by
 induction p with
 | nil=>intro ds vs r h;exact⟨ds,vs,.refl _,r,h⟩
 | cons x _ ih =>
  intro ds vs r h;cases h with
  | cons a b =>
   cases r with
   | cons c d =>
    obtain⟨ds',vs',h1,h2,h3⟩:=ih d b;exact⟨_,_,h1.cons _,.cons c h2,.cons a h3⟩
 | swap x y l =>
  intro ds vs r h;cases h with
  | cons a b =>
   cases b with
   | cons a2 b2 =>
    cases r with
    | cons c d =>
     cases d with
     | cons c2 d2=>exact⟨_,_,.swap _ _ _,.cons c2 (.cons c d2),.cons a2 (.cons a b2)⟩
 | trans _ _ ih1 ih2 =>
  intro ds vs r h;obtain⟨ds',vs',h1,h2,h3⟩:=ih2 r h;obtain⟨ds2,vs2,g1,g2,g3⟩:=ih1 h2 h3;exact⟨ds2,vs2,g1.trans h1,g2,g3⟩
end
def jw(te:DTE):DTE:=λS M Q=>te S M λd M1=>∃n xs,n<=8/\SqAt M1 d xs/\xs.length<64/\(∀x∈xs,cH n x=true/\gZ x=true)/\SrtOk M1 xs/\∀ys:List D,ys.Nodup->(∀x,x∈ys↔x∈xs)->Gz M1 ys->Q (.ref M1.length) (M1++[.lst ys])
section
variable{X:Cx}{e:Expr}{te:DTE}{p p' pos pos':Pos}{k:Nat}
set_option maxHeartbeats 1000000 in
def xM(hr:Room k X.A)(hc:X.calm=true)(he:DE X e te)(hm1:X.mg "sorted" = none)(hm2:X.mg "set" = none)(hg1:X.env.kindOf "sorted" = some .globalImplicit)(hg2:X.env.kindOf "set" = some .globalImplicit)
  (h1:starEach [e] X.env=[(false,eval e X.env)]) (h2:starEach [AEN (.Name "set" p') [e] [] pos'] X.env=[(false,eval (AEN (.Name "set" p') [e] [] pos') X.env)]) :
  DE X (.Call (.Name "sorted" p) [.Call (.Name "set" p') [e] [] pos'] [] pos) (jw te):=by
 intro pins s σ H R I ⟨S,M,ρ,Q,sm,sr,q,kk⟩;refine AC4 (ki I hg1 hm1 (by rfl) ?_)
 refine callWith_builtin1 ?_ (by rw[h2];rfl) rfl
 rw[h2];refine ADV ?_
 refine AC4 (ki I hg2 hm2 (by rfl) ?_)
 refine callWith_type1 ?_ (by rw[h1];rfl) rfl
 rw[h1];refine ADV (thn (he pins s σ H _ I ⟨S,M,ρ,_,sm,sr,q,λv H' z=>z⟩) λu s1 ⟨v,H1,I1,rv,d,M1,ρ1,sm1,g1,r1,cases⟩=>?_)
 refine ADl ?_
 obtain⟨n,xs,n8,sq,hl,hk,so,fin⟩:=cases;obtain⟨a,T,its,ws,rfl,src,rps,vx⟩:=GY I1 sm1 r1 rv sq;have li:its.size=xs.length:=by have h1:=vx.length;have h2:=rps.length;simp at h1;lia
 have un:=hr.un;refine Gr sm1 I1 n8 (by lia) (I1.ok.hd hc) src (λi=>xs.getD i .non) (λi v e=>?_) (by lia) λh2 tk2 ds k2 kset hks hle=>?_
 ·obtain⟨d,vv,e1,r,rv⟩:=sW rps vx (by rw[AAS];exact e)
  have ed:xs.getD i .non=d:=by rw[AAL,e1];rfl
  have:=hk d (AAi e1);exact⟨vv,by rw[ed];exact r,rv,by rw[ed];exact this.1,by rw[ed];exact this.2⟩
 refine ADl ?_
 have I2:=I1.kept (t':=tk2) k2;obtain⟨o,es,ep,t,KSt⟩:=kset;have lds:ds.length=es.size:=by have:=KSt.en.length;simpa using this
 have hz:es.size<=sizeLine:=by rw[ABr];lia
 refine xf (s:={ s1 with heap:=h2,toks:=tk2 }) (I2.ok.hd hc) ⟨KSt.ob,KSt.dt,KSt.fits⟩ KSt.ex.1 (λz=>.inr KSt.tk.ris) KSt.ld hz λh3 tk3 dr D vs k3 hD hD3 pv=>?_
 have hmem:∀x,x∈ds↔x∈xs:=λx=>by
  rw[hks x,li];constructor
  ·rintro⟨j,hj,rfl⟩
   have e:xs.getD j .non=xs[j]:=by simp[AEW,hj]
   rw[e];exact ABA hj
  ·intro hx
   obtain⟨j,hj,e⟩:=List.getElem_of_mem hx;exact⟨j,hj,by rw[show xs.getD j .non=xs[j] by simp[AEW,hj]];exact e⟩
 obtain⟨ws0,rp0,va0⟩:=ents KSt.en;obtain⟨ds',ws',pd,rp1,va1⟩:=zf pv rp0 va0;obtain⟨m,hn,_⟩:=I2.loc;have hDL:D≠X.env.locals:=λz=>by
  obtain⟨oL,_,_,hL,_⟩:=hn;rw[z]at hD;rw[hD]at hL;cases hL
 have hn3:h3.Ns X.env.locals m:=hn.at' λo e=>k3 _ _ e
 refine yS (X:=X) (pins:=pins) (σ:=σ) (s:={ s1 with heap:=h2,toks:=tk2,drawn:=dr }) (n:=0) hr (by show X.A.units+1<=X.A.units+4;lia) I2.drew sm1 (so.sub (ys:=ds') (λy hy=>(hmem y).mp (pd.mem_iff.mp hy)) (by rw[pd.length_eq];lia)).g rp1 va1 hn hn3 (λb u _ e=>k3 b u e) hD hDL hD3 λv H' x=>?_
 refine kk v H' ?_
 have:=x (λd M'=>Q d M') λys hp hri=>?_
 ·obtain⟨d,M',ρ',a1,a2,a3,a4⟩:=this
  exact⟨d,M',ρ',a1,g1.trans a2,a3,a4⟩
 ·exact fin ys ((hp.trans pd).nodup_iff.mpr KSt.nd) (λx=>((hp.trans pd).mem_iff).trans (hmem x)) hri
def nX(hr:Room k X.A)(he:HE X e te)(hm1:X.mg "sorted" = none)(hm2:X.mg "set" = none)(hc:X.calm=true:=by kernel_rfl)(hg1:X.env.kindOf "sorted" = some .globalImplicit:=by kernel_rfl)(hg2:X.env.kindOf "set" = some .globalImplicit:=by kernel_rfl)
  (h1:starEach [e] X.env=[(false,eval e X.env)]:=by kernel_rfl) (h2:starEach [AEN (.Name "set" p') [e] [] pos'] X.env=[(false,eval (AEN (.Name "set" p') [e] [] pos') X.env)]:=by kernel_rfl) :
  HE X (.Call (.Name "sorted" p) [.Call (.Name "set" p') [e] [] pos'] [] pos) (jw te):=⟨xM hr hc he.ok hm1 hm2 hg1 hg2 h1 h2⟩
end
def fT(h:Heap):Nat->D->Value->Prop
 | _,.str x,v=>∃t,v=.str x t
 | _,.int i,v=>∃t,v=.int i t
 | n+1,.tup ds,v=>∃a its,v=.ref a/\h.IsTuple a its/\Paired (fT h n) ds its.toList
 | _,_,_=>False
def drD:Nat->D->Nat
 | n+1,.tup ds=>(ds.map (drD n)).sum+1
 | _,_=>1
def jr:∀(n:Nat) (d:D) (v:Value),fT h n d v->cH n d=true:=by
 intro n;induction n with
 | zero=>intro d v k;cases d<;>first | rfl | exact k.elim
 | succ n ih =>
  intro d v k;cases d with
  | str x=>rfl
  | int x=>rfl
  | tup ds =>
   obtain⟨a,its,_,_,p⟩:=k;show ds.all (cH n)=true;generalize its.toList=l at p;induction p with
   | nil=>rfl
   | cons r _ i2=>rw[ABT,ih _ _ r,i2];rfl
  | _=>exact k.elim
def uh{h:Heap}{a:Addr}{xs ys:Array Value}(h1:h.IsTuple a xs)(h2:h.IsTuple a ys):xs=ys:=by
 obtain⟨o,e1,_,n,d1⟩:=h1;obtain⟨o',e2,_,n',d2⟩:=h2;obtain rfl:o=o':=AAM (e1.symm.trans e2);rw[d1]at d2;injection d2
def rQ{h:Heap}:∀(n:Nat) (x y:D) (v:Value),fT h n x v->fT h n y v->x=y:=by
 intro n;induction n with
 | zero =>
  intro x y v k1 k2;cases x with
  | str a =>
   obtain⟨t,rfl⟩:=k1;cases y with
   | str b=>obtain⟨t',e⟩:=k2;injection e with e;rw[e]
   | int b=>obtain⟨t',e⟩:=k2;cases e
   | _=>exact k2.elim
  | int a =>
   obtain⟨t,rfl⟩:=k1;cases y with
   | str b=>obtain⟨t',e⟩:=k2;cases e
   | int b=>obtain⟨t',e⟩:=k2;injection e with e;rw[e]
   | _=>exact k2.elim
  | _=>exact k1.elim
 | succ n ih =>
  intro x y v k1 k2;cases x with
  | str a =>
   obtain⟨t,rfl⟩:=k1;cases y with
   | str b=>obtain⟨t',e⟩:=k2;injection e with e;rw[e]
   | int b=>obtain⟨t',e⟩:=k2;cases e
   | tup b=>obtain⟨_,_,e,_⟩:=k2;cases e
   | _=>exact k2.elim
  | int a =>
   obtain⟨t,rfl⟩:=k1;cases y with
   | str b=>obtain⟨t',e⟩:=k2;cases e
   | int b=>obtain⟨t',e⟩:=k2;injection e with e;rw[e]
   | tup b=>obtain⟨_,_,e,_⟩:=k2;cases e
   | _=>exact k2.elim
  | tup xs =>
   obtain⟨a,its,rfl,t1,p1⟩:=k1;cases y with
   | str b=>obtain⟨t',e⟩:=k2;cases e
   | int b=>obtain⟨t',e⟩:=k2;cases e
   | tup ys =>
    obtain⟨_,its',e,t2,p2⟩:=k2;cases e
    obtain rfl:=uh t1 t2;congr 1;generalize its.toList=l at p1 p2;induction p1 generalizing ys with
    | nil=>cases p2;rfl
    | cons r _ i2=>cases p2 with
     | cons r' t'=>rw[ih _ _ _ r r',i2 _ t']
   | _=>exact k2.elim
  | _=>exact k1.elim
def xF(k:∀a its,h.IsTuple a its->h'.IsTuple a its):∀(n:Nat) (d:D) (v:Value),fT h n d v->fT h' n d v:=by
 intro n;induction n with
 | zero=>intro d v q;cases d<;>first | exact q | exact q.elim
 | succ n ih =>
  intro d v q;cases d with
  | str x=>exact q
  | int x=>exact q
  | tup ds =>
   obtain⟨a,its,e,t,p⟩:=q;exact⟨a,its,e,k _ _ t,Paired.mapP p λx y r=>ih x y r⟩
  | _=>exact q.elim
def uf{es ep}(q:fT h n k v)(ho:h.get? d=some o)(hd:o.data=.dict es ep)(hs:ACB d h h'):fT h' n k v:=by
 refine xF (λa its ⟨o',e,c,m,t⟩=>?_) n k v q
 have hne:a≠d:=by
  rintro rfl;obtain rfl:o'=o:=AAM (e.symm.trans ho);rw[hd]at t;cases t
 exact⟨o',(hs.2 a hne).trans e,c,m,t⟩
section
variable{prog:Program}{w:World}
def xG:∀(n:Nat) (A:Around) (s:Shared) (d:D) (u:Value) (E:Value->Shared->Prop) (Q:Int->Shared->Prop),A.units+n<cLine->fT s.heap n d u ->
  Q (hkD w n d) { s with toks:=s.toks+drD n d }->wpAny (model prog w) A (pyHash u) Q E s:=by
 intro n;induction n with
 | zero =>
  intro A s d u E Q hu k h;cases d with
  | str x=>obtain⟨t,rfl⟩:=k;exact ADL h
  | int x=>obtain⟨t,rfl⟩:=k;exact ADK h
  | _=>exact k.elim
 | succ n ih =>
  intro A s d u E Q hu k h;cases d with
  | str x=>obtain⟨t,rfl⟩:=k;exact ADL h
  | int x=>obtain⟨t,rfl⟩:=k;exact ADK h
  | tup ds =>
   obtain⟨a,its,rfl,⟨o,ho,hc,nn,hd⟩,p⟩:=k;have hT:s.TypeIs (.ref a) "tuple":=⟨o,ho,hc⟩;unfold pyHash;first | unfold pyHashByItsType | skip
   first | refine AA1 (wpAny_cRoomFor_or (.inr (by lia)) ?_) | skip
   refine AA1 (AC0 hT F.slot_tuple_hash.lookup ?_);refine(show wpAny (model prog w) _ (if (some (Value.builtin "tuple.__hash__")==some AC3)=true then _ else _) Q E s from ?_);rw[if_neg (by rw[beq_builtin_none];exact ABS)]
   refine AA1 (AC0 hT F.slot_tuple_hash.lookup ?_);refine(show wpAny (model prog w) _ (callSpecialIfBoundUnlessNone? (.ref a) "__hash__" _ >>= _) Q E s from AA1 (ACt hT F.slot_tuple_hash (AAw F.slot_tuple_hash hT F.entry_tuple_hash ?_ (F.args_tuple_hash_1 _))));refine(show wpAny (model prog w) _ (ACI (.ref a) >>= _) _ _ s from AA1 (wpAny_tupleItemsOf ho hd (AA1 ?_)));rw[<-ABj];refine AC8 _ (λbc (b:Array Int) s'=>∃done left,ds=done++left/\Paired (fT s.heap n) left bc/\b.toList=done.map (hkD w n)/\s'={ s with toks:=s.toks+(done.map (drD n)).sum }) _ ?_ ?_ _ _ ⟨[],ds,rfl,p,rfl,rfl⟩
   ·rintro x bc b s' ⟨done,left,e,h1,hb,rfl⟩
    cases h1 with
    | @cons d0 _ left' _ r0 t0 =>
     refine AA1 (ih _ _ d0 x _ _ (by show A.units+1+n<cLine;lia) r0 ?_)
     first
      | exact AA2 ⟨done++[d0],left',by rw[e];simp,t0,by simp[hb],by simp[Nat.add_assoc]⟩
      | exact AA1 (AA2 (AA2 ⟨done++[d0],left',by rw[e];simp,t0,by simp[hb],by simp[Nat.add_assoc]⟩))
   ·rintro b s' ⟨done,left,e,h1,hb,rfl⟩
    cases h1
    rw[AB7]at e;subst e;refine(show wpAny (model prog w) _ (retInt (ABR b.toList)) _ _ _ from ?_);rw[hb];refine wpAny_ret_mkInt ?_
    have key:hkD w (n+1) (.tup ds)=reduceHash (ABR (ds.map (hkD w n))):=rfl;have h':Q (hkD w (n+1) (.tup ds)) { s with toks:=s.toks+(ds.map (drD n)).sum+1 }:=h
    generalize ABR (ds.map (hkD w n))=z at key;refine(show wpAny (model prog w) _ (if (decide (-(2:Int) ^ 63<=z)&&decide (z<2 ^ 63))=true then _ else _) Q E _ from ?_);unfold reduceHash at key;by_cases hr:(decide (-(2:Int) ^ 63<=z)&&decide (z<2 ^ 63))=true
    ·rw[if_pos hr]at key ⊢
     exact AA2 (by rw[<-key];exact h')
    ·rw[if_neg hr]at key ⊢
     exact AA1 (AD5 (AA2 (by rw[<-key];exact h')))
  | _=>exact k.elim
def ue:∀(n k:Nat) (A:Around) (s:Shared) (d:D) (u:Value) (E:Value->Shared->Prop) (Q:Bool->Shared->Prop),n<=k->fT s.heap n d u->Q true s->wpAny (model prog w) A (eqIsQuiet k u) Q E s:=by
 intro n;induction n with
 | zero =>
  intro k A s d u E Q hk q h;cases d with
  | str x=>obtain⟨t,rfl⟩:=q;rw[ABu k (v:=.str x t) rfl];exact AA2 h
  | int x=>obtain⟨t,rfl⟩:=q;rw[ABu k (v:=.int x t) rfl];exact AA2 h
  | _=>exact q.elim
 | succ n ih =>
  intro k A s d u E Q hk q h;cases d with
  | str x=>obtain⟨t,rfl⟩:=q;rw[ABu k (v:=.str x t) rfl];exact AA2 h
  | int x=>obtain⟨t,rfl⟩:=q;rw[ABu k (v:=.int x t) rfl];exact AA2 h
  | tup ds =>
   obtain⟨a,its,rfl,⟨o,ho,hc,nn,hd⟩,p⟩:=q;obtain⟨k,rfl⟩:∃k',k=k'+1:=⟨k-1,by lia⟩
   have hT:s.TypeIs (.ref a) "tuple":=⟨o,ho,hc⟩;unfold eqIsQuiet;refine AA1 (AC0 hT F.slot_tuple_eq.lookup ?_);refine(show wpAny (model prog w) A (isInstance (.ref a) (.type "tuple") >>= _) _ _ s from AA1 (ACN hT isSubtype_tuple_tuple ?_));simp only[ABi,AAE,if_false];refine AA1 (ACn ho hd ?_);simp only[Option.getD_some];refine AA1 ?_
   refine(show wpAny (model prog w) A (forIn its _ _) _ _ s from ?_);rw[<-ABj];refine AC8 _ (λbc r s'=>r.1=none/\s'=s/\∃left,Paired (fT s.heap n) left bc) _ ?_ ?_ _ _ ⟨rfl,rfl,ds,p⟩
   ·rintro x bc r s' ⟨hr,rfl,left,h1⟩
    cases h1 with
    | cons r0 t0 =>
     refine AA1 (ih k _ _ _ x _ _ (by lia) r0 ?_)
     simp only[ABi,AAE,if_false];exact AA2 ⟨rfl,rfl,_,t0⟩
   ·rintro⟨r1,r2⟩ s' ⟨hr,rfl,_⟩
    simp only at hr;subst hr;exact AA2 h
  | _=>exact q.elim
def kj{h:Heap}{n:Nat}{ds:List D}{its:Array Value}(p:Paired (fT h n) ds its.toList):ds.length=its.size:=by
 rw[<-AAO];generalize its.toList=l at p;induction p with
 | nil=>rfl
 | cons _ _ ih=>rw[AAK,AAK,ih]
theorem CB:∀(n:Nat) (A:Around) (s:Shared) (x y:D) (u v:Value),A.units+n<cLine->fT s.heap n x u->fT s.heap n y v->ACJ A s u v (eqD [] n x y):=by
 intro n;induction n with
 | zero =>
  intro A s x y u v hu k1 k2;cases x with
  | str a =>
   obtain⟨t,rfl⟩:=k1;cases y with
   | str b=>obtain⟨t',rfl⟩:=k2;exact ADa _ _ _ _
   | int b=>obtain⟨t',rfl⟩:=k2;exact ACr _ _ _ _
   | _=>exact k2.elim
  | int a =>
   obtain⟨t,rfl⟩:=k1;cases y with
   | str b=>obtain⟨t',rfl⟩:=k2;exact ACq _ _ _ _
   | int b=>obtain⟨t',rfl⟩:=k2;exact ADZ _ _ _ _
   | _=>exact k2.elim
  | _=>exact k1.elim
 | succ n ih =>
  intro A s x y u v hu k1 k2;have hu0:A.units<cLine:=by lia
  have hu1:A.in1.units+n<cLine:=by show A.units+1+n<cLine;lia
  cases x with
  | str a =>
   obtain⟨t,rfl⟩:=k1;cases y with
   | str b=>obtain⟨t',rfl⟩:=k2;exact ADa _ _ _ _
   | int b=>obtain⟨t',rfl⟩:=k2;exact ACr _ _ _ _
   | tup b=>obtain⟨_,_,rfl,pl,_⟩:=k2;exact SeqAt.EqAt.str_tuple _ _ pl hu0
   | _=>exact k2.elim
  | int a =>
   obtain⟨t,rfl⟩:=k1;cases y with
   | str b=>obtain⟨t',rfl⟩:=k2;exact ACq _ _ _ _
   | int b=>obtain⟨t',rfl⟩:=k2;exact ADZ _ _ _ _
   | tup b=>obtain⟨_,_,rfl,pl,_⟩:=k2;exact SeqAt.EqAt.int_tuple _ _ pl hu0
   | _=>exact k2.elim
  | tup xs =>
   obtain⟨a,its,rfl,pl,p1⟩:=id k1;cases y with
   | str b=>obtain⟨t',rfl⟩:=k2;exact SeqAt.EqAt.tuple_str _ _ pl hu0
   | int b=>obtain⟨t',rfl⟩:=k2;exact SeqAt.EqAt.tuple_int _ _ pl hu0
   | tup ys =>
    obtain⟨b,jts,rfl,pl',p2⟩:=id k2;by_cases hab:a=b
    ·subst hab
     have e:=rQ (n+1) _ _ _ k1 k2;rw[e,(jR (M:=[]) (n+1) _ _ (jr _ _ _ k2) (jr _ _ _ k2)).mpr rfl];exact AEJ _
    ·have ll:=kj p1
     have ll':=kj p2;have items:∀(j:Nat) (h1:j<its.size) (h2:j<jts.size),ACJ A.in1 s its[j] jts[j] (eqD [] n (xs.getD j .non) (ys.getD j .non)):=λj h1 h2=>by
      obtain⟨x0,e1,r1⟩:=dG p1 (i:=j) (y:=its[j]) (by rw[AAS];exact AAJ h1)
      obtain⟨y0,e2,r2⟩:=dG p2 (i:=j) (y:=jts[j]) (by rw[AAS];exact AAJ h2)
      have z1:xs.getD j .non=x0:=by rw[AAL,e1];rfl
      have z2:ys.getD j .non=y0:=by rw[AAL,e2];rfl
      rw[z1,z2];exact ih A.in1 s x0 y0 _ _ hu1 r1 r2
     have key:((AAk (min its.size jts.size)).all (λj=>eqD [] n (xs.getD j .non) (ys.getD j .non))&&its.size==jts.size)=eqL (eqD [] n) xs ys:=by
      by_cases hl:xs.length=ys.length
      ·have rng:(AAk xs.length).all (λj=>eqD [] n (xs.getD j .non) (ys.getD j .non))=eqL (eqD [] n) xs ys:=mv hl λj x y h1 h2=>by simp[AEW,h1,h2]
       rw[<-ll,<-ll',<-hl,Nat.min_self,rng];simp
      ·rw[AB hl,<-ll,<-ll']
       simp[hl]
     have h1:=SeqAt.RcAt.tuples pl pl' hu0 items;rw[key]at h1;exact SeqAt.EqAt.of_refs hab h1
   | _=>exact k2.elim
  | _=>exact k1.elim
end
noncomputable instance decD:DecidableEq D:=λa b=>AAY (a=b)
noncomputable def bY(prog:Program)(w:World):HeapKind prog w D where
 is:=λh d a=>fT h 8 d (.ref a)
 hash:=hkD w 8
 draws:=drD 8
 room:=λA=>A.units+8<cLine
 inj:=λx y=>rQ 8 _ _ _ x y
 keeps:=λx ho hd hs=>uf x ho hd hs
 pyHash:=λhu k h=>xG 8 _ _ _ _ _ _ hu k h
 eqBool:=λ{A E s x y a b Q} hu k1 k2 h=>by
  refine CB 8 A s x y _ _ hu k1 k2 _ _ _ _ ?_
  have e:eqD [] 8 x y=decide (x=y):=by
   rw[ACE,jR 8 x y (jr _ _ _ k1) (jr _ _ _ k2),decide_eq_true_eq]
  rw[e];exact h
 quiet:=λk h=>ue 8 8 _ _ _ _ _ _ (AA8 _) k h
noncomputable def aW(kvs:List (D×D))(k:D):Option D:=(kvs.find? λp=>decide (p.1=k)).map (·.2)
noncomputable def ie(kvs:List (D×D))(k d:D):List (D×D):=if (aW kvs k).isSome then kvs.map (λp=>if p.1=k then(p.1,d)else p)else kvs++[(k,d)]
section
variable{K:AA5}{ρ:List Addr}{H:Hp}{M:Mem}{kvs:List (D×D)}{xs:List (D×Addr×Value)}
def wb(r:Paired (wP K ρ H) kvs xs)(k:D):(aW kvs k=none/\atKey xs k=none)\/∃d p v,aW kvs k=some d/\atKey xs k=some p/\Rep K ρ H d v/\aU v p.2:=by
 unfold aW atKey;induction r with
 | nil=>exact .inl ⟨rfl,rfl⟩
 | @cons p q ps qs h t ih =>
  obtain⟨h1,_,_,v,h4,h5⟩:=h;rw[ABV,ABV];by_cases e:p.1=k
  ·rw[dT_ e,dT_ (h1.symm.trans e)]
   exact .inr ⟨_,_,v,rfl,rfl,h4,h5⟩
  ·rw[dF_ e,dF_ (λz=>e (h1.trans z))]
   exact ih
def DH(r:Paired (wP K ρ H) kvs xs)(kd:cH 8 k=true)(rk:Rep K ρ H k (.ref b))(rd:Rep K ρ H d v)(rv:aU v u):Paired (wP K ρ H) (ie kvs k d) (storedH xs k b u):=by
 unfold ie storedH;have is:(aW kvs k).isSome=(atKey xs k).isSome:=by
  rcases wb r k with⟨e1,e2⟩|⟨_,_,_,e1,e2,_⟩<;>rw[e1,e2]<;>rfl
 rw[is];by_cases q:(atKey xs k).isSome=true
 ·rw[if_pos q,if_pos q]
  clear is q;induction r with
  | nil=>exact .nil
  | @cons p q ps qs h t ih =>
   rw[AAf,AAf];refine .cons ?_ ih;obtain⟨h1,h2,h3,w,h4,h5⟩:=h;by_cases e:p.1=k
   ·rw[if_pos e,putAt,if_pos (h1.symm.trans e)]
    exact⟨h1,h2,h3,v,rd,rv⟩
   ·rw[if_neg e,putAt,if_neg (λz=>e (h1.trans z))]
    exact⟨h1,h2,h3,w,h4,h5⟩
 ·rw[if_neg q,if_neg q]
  clear is q;induction r with
  | nil=>exact .cons ⟨rfl,kd,rk,v,rd,rv⟩ .nil
  | cons h t ih=>exact .cons h ih
def iC(r:Paired (wP K ρ H) kvs xs):xs.map (·.1)=kvs.map (·.1):=by
 induction r with
 | nil=>rfl
 | cons h t ih=>rw[AAf,AAf,ih,h.1]
def vT:(ie kvs k d).length<=kvs.length+1:=by
 unfold ie;split
 ·rw[AA4];lia
 ·rw[AAB];exact AA8 _
def SqT.writtenX{a p:Addr}{xs:List V}{φ:Program->World->Heap->Prop}{o:HO}(hp:H p=some (.ext φ))(h:SqT K H a xs):SqT K (upd H p o) a xs:=by
 rcases h with h | h
 ·rcases h with h | ⟨ob,h⟩
  ·exact .inl (.inl (by rw[ah (xq h hp (by intro z;cases z))];exact h))
  ·exact .inl (.inr ⟨ob,by rw[ah (xq h hp (by intro z;cases z))];exact h⟩)
 ·exact .inr h
def Sim.writeT(S:Sim K ρ M H)(e1:ρ[n]?=some a)(hM:M[n]?=some (.dkt kvs))(hH:H a=some (.ext (dX a xs)))(hl:kvs'.length<=sizeLine)(hs:(a==sysModules)=false)(nd:(kvs'.map (·.1)).Nodup)(r:Paired (wP K ρ H) kvs' xs') :
  Sim K ρ (M.set n (.dkt kvs')) (upd H a (.ext (dX a xs')))/\Grow K ρ H ρ (upd H a (.ext (dX a xs'))):=by
 have g:Grow K ρ H ρ (upd H a (.ext (dX a xs'))):=⟨ACX,λ_ _ h=>SqT.writtenX hH h⟩
 have hk:∀m,m≠n->(M.set n (.dkt kvs'))[m]?=M[m]?:=λm hm=>AAs (ABM hm)
 have notK:¬isK M[n]?:=λ⟨_,z⟩=>by rw[hM]at z;cases z
 refine⟨⟨λm m' b hne f1 f2=>?_,by rw[AB0];exact S.len,λm b mo f1 f2=>?_⟩,g⟩
 ·have q:=S.nd m m' b hne f1 f2
  by_cases h1:m=n
  ·subst h1
   rw[hk m' (ABM hne)];exact .inr (q.resolve_left notK)
  ·rw[hk m h1]
   by_cases h2:m'=n
   ·subst h2
    exact .inl (q.resolve_right notK)
   ·rw[hk m' h2]
    exact q
 by_cases hm:m=n
 ·subst hm
  have hb:b=a:=AAM (f1.symm.trans e1);subst hb;rw[AAo (by rw[<-S.len];exact(AA7.mp e1).1)]at f2
  cases f2
  exact⟨hl,hs,nd,xs',aJ,Paired.mapP r λ_ _ ⟨q1,q2,q3,v,q4,q5⟩=>⟨q1,q2,q3.grow g,v,q4.grow g,q5⟩⟩
 ·rw[hk m hm]at f2
  by_cases hb:b=a
  ·subst hb
   have q':=(S.nd m n b hm f1 e1).resolve_right notK;rw[f2]at q';exact(S.obj m b mo f1 f2).grow g (.inr q')
  ·exact(S.obj m b mo f1 f2).grow g (.inl (ah hb))
end
section
variable{X:Cx}{pins:List (Addr×Obj)}{σ:St}{H:Hp}{s:Shared}{ρ:List Addr}{M:Mem}
def ib(I:Inv X pins σ H s):∀(n:Nat) (d:D) (v:V) (u:Value),Rep X.K ρ H d v->aU v u->cH n d=true->fT s.heap n d u:=by
 intro n;induction n with
 | zero =>
  intro d v u r rv k;cases r with
  | str x=>exact rv
  | int x=>exact rv
  | _=>cases k
 | succ n ih =>
  intro d v u r rv k;cases r with
  | str x=>exact rv
  | int x=>exact rv
  | @tup a vs ds hq rr =>
   cases rv
   obtain⟨its,r2,p,hz⟩:=I.tuple hq;have hk:∀x∈ds,cH n x=true:=AAZ.mp (show ds.all (cH n)=true from k);refine⟨a,its.toArray,rfl,p,?_⟩;rw[List.toList_toArray];clear p hq k hz;induction r2 generalizing ds with
   | nil=>cases rr;exact .nil
   | cons q1 q2 i2 =>
    cases rr with
    | cons h1 t1=>exact .cons (ih _ _ _ h1 q1 (hk _ AAG)) (i2 t1 λx hx=>hk x (AA9 _ hx))
  | _=>cases k
def jv(I:Inv X pins σ H s)(sm:Sim X.K ρ M H){n:Nat}{a:Addr}{kvs:List (D×D)}(e:ρ[n]?=some a)(hM:M[n]?=some (.dkt kvs)) :
  ∃xs,H a=some (.ext (dX a xs))/\Paired (wP X.K ρ H) kvs xs/\s.heap.DictOfH (bY X.prog X.w) a xs/\(a==sysModules)=false/\kvs.length<=sizeLine/\xs.length=kvs.length/\(kvs.map (·.1)).Nodup:=by
 obtain⟨h1,h2,h3,xs,hH,r⟩:=sm.obj _ _ _ e hM;obtain⟨⟨o,es,e1,e2,e3,e4⟩,_⟩:=(show cL X.prog X.w H s.heap a (.ext (dX a xs))from I.hok a _ hH);have ek:=iC r;refine⟨xs,hH,r,⟨o,es,_,e1,e2,e3,e4,λx hx=>?_,by rw[ek];exact h3⟩,h2,h1,?_,h3⟩
 ·obtain⟨i,hi⟩:=ABE hx
  obtain⟨p,_,q1,q2,q3,_⟩:=dG r hi;rw[<-q1];exact ib I 8 _ _ _ q3 rfl q2
 ·have:=congrArg ABf ek
  rwa [AA4,AA4]at this
def uk(d:dX a xs P w h'):cL P w H' h' a (.ext (dX a xs)):=by
 obtain⟨o,es,e1,e2,e3,e4⟩:=d;exact⟨⟨o,es,e1,e2,e3,e4⟩,⟨o,e1⟩,λh1 h2 ⟨o,es,e1,e2,e3,e4⟩ k=>⟨o,es,k _ e1,e2,e3,e4⟩⟩
def Em(I:Inv X pins σ H s)(hH:H a=some (.ext (dX a xs))):dX a xs X.prog X.w s.heap :=
 (show cL X.prog X.w H s.heap a (.ext (dX a xs))from I.hok a _ hH).1
end
def setE(hu:(bY prog w).room A.in1)(kat:(bY prog w).is s.heap k b)
  (hm:s.heap.DictOfH (bY prog w) d xs) (hx:dX d xs prog w s.heap) (hz:xs.length<=sizeLine)
  (hQ:∀h',dX d (storedH xs k b v) prog w h'->ACB d s.heap h'->Q () { s with heap:=h',toks:=s.toks+(bY prog w).draws k }):wpAny (model prog w) A (setItem (.ref d) (.ref b) v) Q E s:=by
 have hT:=hm.typeIs;obtain⟨_,_,_,_,_,_,_,his,hn⟩:=hm;obtain⟨o,es,ho,hc,hd,he'⟩:=hx;have he:es.toList=xs.map (entryOfKey (bY prog w)):=he';unfold setItem
 try with_reducible refine AAr ?_
 refine AA1 (wpAny_sequenceKey hT (by decide) (AA1 (AB3 (name:=AA0 "__setitem__") hT slot_dict_setitem (AAw slot_dict_setitem hT entry_dict_setitem ?_ (args_dict_setitem _ _ _)))))
 refine(show wpAny (model prog w) _ (Builtin.Dict.notOrdered "__setitem__" ⟨[.ref d,.ref b,v],[]⟩ >>= _) _ _ s from AA1 (ACy hT ?_));refine(show wpAny (model prog w) _ (dictSet d (.ref b) v >>= _) _ _ s from AA1 ?_);unfold dictSet
 try with_reducible refine AAr ?_
 refine AA1 ((bY prog w).pyHash hu kat ?_);unfold dictSetHashed
 try with_reducible refine AAr ?_
 have hl:es.size=xs.length:=size_of_entries he;refine AA1 (wpAny_dictFind_heap (s:={ s with toks:=s.toks+(bY prog w).draws k }) hu kat ho hd he his hn (λhno=>?_) λj p hj=>?_)
 ·refine AA1 (AD5 (wpAny_updateDictKeys (hz:=by lia) (s:={ s with toks:=s.toks+(bY prog w).draws k }) ho hd (AA2 ⟨.none,rfl,AA2 (hQ _ ⟨_,es.push ⟨(bY prog w).hash k,.ref b,v⟩,AAj _ ho (ADN (ADC hd _)),hc.mapDictKeys _,?_,?_⟩ (AAx ..))⟩)))
  ·rw[ADC hd,storedH_new (ADs hno),AAB];rfl
  ·rw[storedH_new (ADs hno)]
   rw[ADo,he,AB1];rfl
 ·refine AA1 (AD5 (AA1 (wpAny_updateDict (s:={ s with toks:=s.toks+(bY prog w).draws k }) ho hd (wpAny_point (AA2 ⟨.none,rfl,AA2 (hQ _ ⟨_,es.modify j λe=>{ e with val:=v },AAj _ ho (ADN (AE9 hd _)),hc.mapDict _,?_,?_⟩ (AAx ..))⟩)))))
  ·rw[AE9 hd,storedH_old (atKey_of_get hn hj),AA4]
  ·rw[storedH_old (atKey_of_get hn hj)]
   have q:=modify_map_putAt (entryOfKey (bY prog w)) (λe:DictEntry=>{ e with val:=v }) k v (λ_ _=>rfl) hn hj
   rw[<-he]at q;obtain⟨l⟩:=es;have q2:(Array.modify ⟨l⟩ j λe:DictEntry=>{ e with val:=v }).toList=(xs.map (putAt k v)).map (entryOfKey (bY prog w)):=by simpa using q
   exact q2
section
variable{X:Cx}{o i value:Expr}{td ty tv:DTE}{pos pos':Pos}{k:Nat}
def uw:DTE:=λ_ M Q=>Q (.ref M.length) (M++[.dkt []])
def Jz:DE X (.Dict [] [] pos) uw:=by
 intro pins s σ H R I ⟨S,M,ρ,Q,sm,sr,q,kk⟩;have hf:H s.heap.objs.size=none:=I.hok.fresh (AA8 _);have hb:(s.heap.objs.size==sysModules)=false:=beq_eq_false_iff_ne.mpr (ABM (AAN I.big));refine wpAny_Dict_empty ⟨.ref s.heap.objs.size,_,I.laid (a:=s.heap.objs.size) (o:=.ext (dX s.heap.objs.size [])) (t':=s.toks) (λ_ _ q=>AA3 _ q) (AA8 _) (uk ⟨_,#[],AAA _ rfl,⟨rfl,rfl,rfl⟩,rfl,rfl⟩),rfl,?_⟩
 exact kk _ _ ⟨.ref M.length,M++[.dkt []],ρ++[s.heap.objs.size],sm.laidM (mo:=.dkt []) hf ⟨AAX _,hb,AE1,[],aJ,.nil⟩,Grow.laidR hf,.ref sm.last,(show Q (.ref M.length) (M++[.dkt []])from q)⟩
def kC(td ty:DTE):DTE:=λS M Q=>td S M λx M1=>ty S M1 λy M2=>match x,y with
 | .ref n,.tup ks=>∃kvs d,M2[n]?=some (.dkt kvs)/\cH 8 (.tup ks)=true/\aW kvs (.tup ks)=some d/\Q d M2
 | _,_=>False
theorem JA(hr:Room k X.A)(ho:DE X o td)(hi:DE X i ty)(hs:NoSl i):DE X (.Subscript o i pos) (kC td ty):=by
 intro pins s σ H R I ⟨S,M,ρ,Q,sm,sr,q,kk⟩;have un:=hr.un;refine ED PySem.F.slot_dict_getitem.lookup hs (thn (ho pins s σ H _ I ⟨S,M,ρ,_,sm,sr,q,λv H' z=>z⟩) λu s1 ⟨v,H1,I1,rv,x,M1,ρ1,sm1,g1,r1,q1⟩=>thn (hi pins s1 σ H1 _ I1 ⟨S,M1,ρ1,_,sm1,sr.grow g1,q1,λv H' z=>z⟩) λiv s2 ⟨w,H2,I2,rw',y,M2,ρ2,sm2,g2,r2,q2⟩=>?_)
 cases x with
 | ref n =>
  cases y with
  | tup ks =>
   obtain⟨kvs,d,hM,kd,hg,q3⟩:=q2;obtain⟨a,rfl,hn⟩:=Rep.inv_ref r1;obtain rfl:u=ABn a:=rv;obtain⟨xs,hH,r,dd,hsm,hl,hx,_⟩:=jv I2 sm2 (aF g2.pre hn) hM;have kat:=ib I2 8 _ _ _ r2 rw' kd;rcases wb r (.tup ks)with⟨z,_⟩|⟨d',p,v',e1,e2,e3,e4⟩
   ·rw[hg]at z;cases z
   ·rw[hg]at e1
    cases e1
    obtain⟨b,_,rfl,_⟩:=id kat;refine⟨dd.typeIs,wpAny_getItem_heap (knd:=bY X.prog X.w) (k:=.tup ks) (by show X.A.units+1+8<cLine;lia) kat dd e2 ⟨v',H2,I2.tok _,e4,kk _ _ ⟨d,M2,ρ2,sm2,g1.trans g2,e3,q3⟩⟩⟩
  | _=>exact q2.elim
 | _=>exact q2.elim
def uv(td ty tv:DTE):DTS:=λE S M=>tv S M λv M1=>td S M1 λx M2=>ty S M2 λy M3=>match x,y with
 | .ref n,.tup ks=>∃kvs,M3[n]?=some (.dkt kvs)/\cH 8 (.tup ks)=true/\kvs.length<sizeLine/\E.nx S (M3.set n (.dkt (ie kvs (.tup ks) v)))
 | _,_=>False
def oN(h:(kvs.map (·.1)).Nodup):((ie kvs y v).map (·.1)).Nodup:=by
 unfold ie;split
 ·rw[ABI]
  have:((λx:D×D=>x.1) ∘ λp:D×D=>if p.1=y then(p.1,v)else p)=λx=>x.1:=by
   funext p;show (if p.1=y then(p.1,v)else p).1=p.1;split<;>rfl
  rw[this];exact h
 ·rename_i q
  rw[AB1,List.map_singleton,List.nodup_append];refine⟨h,by simp,λa ha b hb=>?_⟩
  rw[AAt.mp hb];rintro rfl;obtain⟨p,hp,e⟩:=AAH.mp ha;refine q ?_
  unfold aW;rw[Option.isSome_map,List.find?_isSome];exact⟨p,hp,by simpa using e⟩
theorem FY(hr:Room k X.A)(ho:DE X o td)(hi:DE X i ty)(hv:DE X value tv)(hs:swapsWith value (some (.Subscript o i pos')) pos.line X.env=pure false):DS X (.Assign [.Subscript o i pos'] value pos) (uv td ty tv):=by
 intro pins s σ H E I ⟨S,M,ρ,F,sm,sr,q,kk⟩;have un:=hr.un;refine wpAny_Assign_Subscript (thn (hv pins s σ H _ I ⟨S,M,ρ,_,sm,sr,q,λv H' z=>z⟩) λr s1 ⟨v,H1,I1,rv,dv,M1,ρ1,sm1,g1,r1,q1⟩=>thn (ho pins s1 σ H1 _ I1 ⟨S,M1,ρ1,_,sm1,sr.grow g1,q1,λv H' z=>z⟩) λu s2 ⟨vx,H2,I2,rx,x,M2,ρ2,sm2,g2,r2,q2⟩=>thn (hi pins s2 σ H2 _ I2 ⟨S,M2,ρ2,_,sm2,(sr.grow g1).grow g2,q2,λv H' z=>z⟩) λiv s3 ⟨vy,H3,I3,ry,y,M3,ρ3,sm3,g3,r3,q3⟩=>?_) hs
 cases x with
 | ref n =>
  cases y with
  | tup ks =>
   obtain⟨kvs,hM,kd,hl,q4⟩:=q3;obtain⟨a,rfl,hn⟩:=Rep.inv_ref r2;obtain rfl:u=ABn a:=rx;have hn3:=aF g3.pre hn;obtain⟨xs,hH,r,dd,hsm,_,hx,nd⟩:=jv I3 sm3 hn3 hM;have kat:=ib I3 8 _ _ _ r3 ry kd;obtain⟨b,_,rfl,_⟩:=id kat;obtain⟨_,_,rfl,hq,rr⟩:=Rep.inv_tup r3;cases ry
   have r':=DH r kd (.tup hq rr) ((r1.grow g2).grow g3) rv;have pl:=vT (kvs:=kvs) (k:=.tup ks) (d:=dv);obtain⟨w1,w2⟩:=sm3.writeT hn3 hM hH (by have:=pl;lia) hsm (oN nd) r'
   refine setE (k:=.tup ks) (by show X.A.units+1+8<cLine;lia) kat dd (Em I3 hH) (by lia) λh' dd' hsb=>?_
   have he:∃q,h'.get? a=some q:=let ⟨q,_,hq,_⟩:=dd';⟨q,hq⟩
   exact⟨σ,_,AJ I3 (by rw[hH];exact True.intro) hsb he (uk dd'),kk.nx σ _ (SQ.trans ((g1.trans g2).trans g3) ⟨S,_,ρ3,w1,w2,(((sr.grow g1).grow g2).grow g3).grow w2,q4⟩)⟩
  | _=>exact q3.elim
 | _=>exact q3.elim
def dMt(r:Nat->DRA)(to:DTE)(t:DTA):DTE:=λS M Q=>to S M λx M1=>match x with
 | .ref n=>(∃kvs,M1[n]?=some (.dkt kvs))/\t S M1 λds M2=>r n ds M2 Q
 | _=>False
variable{name:Str}{id:String}{e:Expr}{es:List Expr}{to:DTE}{t:DTA}{apos cpos:Pos}
theorem d_mt{r:Nat->DRA}(slot:Slot "dict" name id)(hty:typeOf (.builtin id)=pure (.type "method_descriptor"))(hm:MtR X id (pe X.K r))(ho:DE X o to)(ha:DA X (e::es) t)
  (hbase:attributeBase o name X.env (eval o X.env)=eval o X.env:=by rfl)
  (hfew:((backTo cpos (starEach (e::es) X.env)).all (λx=>!x.1)&&(backToKw cpos (keywordEach [] X.env)).all (λx=>x.1.isSome)
   && decide ((e::es).length+([]:List Keyword).length+(if ([]:List Keyword).isEmpty then 0 else 1)<30))=true:=by rfl)
  (hline:(apos.endLine==cpos.line)=true:=by rfl) (hs:starEach (e::es) X.env=(false,eval e X.env)::starEach es X.env:=by rfl) (hplain:(backTo cpos (starEach es X.env)).any (·.1)=false:=by rfl) :
  DE X (.Call (.Attribute o name apos) (e::es) [] cpos) (dMt r to t):=by
 intro pins s σ H R I ⟨S,M,ρ,Q,sm,sr,q,kk⟩;refine ADk hbase hfew hline rfl (thn (ho pins s σ H _ I ⟨S,M,ρ,_,sm,sr,q,λv H' z=>z⟩) λu s1 ⟨v,H1,I1,rv,x,M1,ρ1,sm1,g1,r1,q1⟩=>?_)
 cases r1 with
 | @ref n a hn =>
  cases rv
  obtain⟨⟨kvs,hM⟩,q1⟩:=(show (∃kvs,M1[n]?=some (.dkt kvs))/\t S M1 _ from q1);obtain⟨xs,hH,r,dd,hsm,hl,hx,nd⟩:=jv I1 sm1 hn hM;refine⟨"dict",id,ACj,slot,hty,dd.typeIs,λb z=>?_,?_⟩
  ·cases z
   obtain⟨ob,_,_,h1,h2,_⟩:=dd;exact⟨ob,h1,h2.2.1⟩
  ·have hA:=ha cpos pins s1 σ H1 _ I1 ⟨S,M1,ρ1,_,sm1,sr.grow g1,q1,λvs H' z=>z⟩
   rw[hs]at hA ⊢;refine ACG (by show (false||(backTo cpos (starEach es X.env)).any (·.1))=false;rw[hplain]<;>rfl) (AEA ?_)
   exact thn hA λus s2 ⟨vs,H2,I2,rvs,ds,M2,ρ2,sm2,g2,rr,q2⟩=>hm pins s2 σ H2 (.ref a) vs (.ref a) us R I2 rfl rvs ⟨n,a,ds,M2,ρ2,Q,rfl,aF g2.pre hn,sm2,rr,q2,λv H' w=>kk v H' (VQ.trans (g1.trans g2) w)⟩
 | _=>exact q1.elim
def jf(n:Nat):DRA:=λds M Q=>match ds with
 | [.tup ks,d]=>∃kvs,M[n]?=some (.dkt kvs)/\cH 8 (.tup ks)=true/\Q ((aW kvs (.tup ks)).getD d) M
 | _=>False
theorem Cf(hr:Room k X.A):MtR X "dict.get" (pe X.K jf):=by
 intro pins s σ H x xs v us R I rx rs ⟨n,a,ds,M,ρ,Q,ez,hn,sm,rr,q,kk⟩;have un:=hr.un;unfold jf at q;split at q
 ·rename_i ks d
  obtain⟨kvs,hM,kd,q⟩:=q;first | have hzz:=Reps.inv_cons rr | have hzz:=aw.inv_cons rr
  clear rr;obtain⟨_,_,rfl,r1,rr⟩:=hzz;first | have hzz:=Reps.inv_cons rr | have hzz:=aw.inv_cons rr
  clear rr;obtain⟨_,_,rfl,r2,rr⟩:=hzz;cases rr
  obtain⟨u1,u2,rfl,e1,e2⟩:=aw.two rs;subst ez;cases rx
  obtain⟨ys,hH,r,dd,hsm,hl,hx,nd⟩:=jv I sm hn hM;have kat:=ib I 8 _ _ _ r1 e1 kd;obtain⟨b,_,rfl,_⟩:=id kat;refine call_meetsIn ACz dd.typeIs PySem.F.entry_dict_get (PySem.F.args_dict_get_3 _ _ _) (meetsH_dict_get_default (bY X.prog X.w) a b hsm u2) ⟨by show X.A.units+1+8<cLine;lia,.tup ks,ys,kat,dd,?_⟩
  rcases wb r (.tup ks)with⟨z1,z2⟩|⟨d',p,v',z1,z2,z3,z4⟩
  ·rw[z2]
   rw[z1]at q;exact⟨_,H,I.tok _,e2,kk _ _ ⟨d,M,ρ,sm,.refl,r2,q⟩⟩
  ·rw[z2]
   rw[z1]at q;exact⟨_,H,I.tok _,z4,kk _ _ ⟨d',M,ρ,sm,.refl,z3,q⟩⟩
 ·exact q.elim
end
def dm(h:Heap)(d:Addr)(es:Array DictEntry)(ep:Nat):Prop:=∃o,h.get? d=some o/\o.ExactDict/\o.data=.dict es ep
def dm.ty{s:Shared}{d:Addr}{es:Array DictEntry}{ep:Nat}(x:dm s.heap d es ep):s.TypeIs (.ref d) "dict":=by
 obtain⟨o,h1,h2,_⟩:=x;exact⟨o,h1,h2.1⟩
def dm.lt(x:dm h d es ep):d<h.objs.size:=by
 obtain⟨o,h1,_⟩:=x;exact AAF h1
def dm.to(x:dm h d es ep)(k:∀o,h.get? d=some o->h'.get? d=some o):dm h' d es ep:=by
 obtain⟨o,h1,h2⟩:=x;exact⟨o,k o h1,h2⟩
section
variable{prog:Program}{w:World}{A:Around}{E:Value->Shared->Prop}{s:Shared}{d:Addr}{es:Array DictEntry}{ep:Nat}
def wF{Q:Value->Shared->Prop}(hd:(d==sysModules)=false)(hm:dm s.heap d es ep)
  (hQ:Q (.ref s.heap.objs.size) { s with heap:=s.heap.push { cls:=.type "dict_keyiterator",data:=.fields #[.ref d,.int 0 0,.int es.size 0,.int ep 0] } }) :
  wpAny (model prog w) A (pyIter (.ref d)) Q E s:=by
 have hT:=hm.ty;obtain⟨o,h1,h2,h3⟩:=hm;refine ADq hT F.slot_dict_iter (AAw F.slot_dict_iter hT F.entry_dict_iter ?_ (F.args_dict_iter_1 _));unfold Builtin.«dict.__iter__»;refine AA1 ?_
 unfold Builtin.Dict.dictSlotNone;refine AA1 (ACy hT (AA2 ?_));refine(show wpAny (model prog w) _ (AD0 d >>= _) _ _ s from ?_);unfold AD0;rw[hd];refine AA1 (AA2 (AA1 (ACa h1 h3 (AA1 (AD1 h1 h3 ?_)))));exact AA1 (AAp (AA2 ⟨_,rfl,"dict_keyiterator",_,⟨_,AAA _ rfl,rfl⟩,F.slot_dict_keyiterator_next.lookup,by simpa [rawInt]using hQ⟩))
theorem wE(hit:s.heap.IsKeyIter it d i es.size ep)(hm:dm s.heap d es ep)(hi:i<es.size)
  (hQ:∀h',h'.IsKeyIter it d (i+1) es.size ep->ACB it s.heap h'->Q (some es[i].key) { s with heap:=h' }):wpAny (model prog w) A (pyNext (.ref it)) Q E s:=by
 obtain⟨o,ho,hc,hd⟩:=id hit;obtain⟨od,k1,k2,k3⟩:=id hm;unfold pyNext;refine AA1 (ACO (AB3 (name:=AA0 "__next__") hit.typeIs F.slot_dict_keyiterator_next (AAw F.slot_dict_keyiterator_next hit.typeIs F.entry_dict_keyiterator_next ?_ (F.args_dict_keyiterator_next_1 _))));refine AA1 (AA2 (AA1 (AA1 ?_)));first | refine AA1 (AC9 hit.typeIs (AA2 (AA1 (ABZ ho hd ?_)))) | refine AA1 (ACb hit.typeIs (AA2 (AA1 (ABZ ho hd ?_))))
 simp only[show ABd "dict_keyiterator" = false by decide,AAE,if_false]
 refine(show wpAny (model prog w) _ (if (ABn d==AC3)=true then _ else _) _ _ s from ?_);rw[if_neg (by exact ABS)]
 refine AA1 (AA2 (AA1 (ACa k1 k3 ?_)));rw[if_neg (by simp)]
 refine AA1 (AA2 (AA1 (AD1 k1 k3 ?_)));rw[if_neg (by simp)]
 refine AA2 ?_
 simp only[show ¬((i:Int)<0)from by lia,if_false,ABX,AAJ hi]
 refine AA1 ?_
 first | refine AA1 (AC9 hit.typeIs (AA2 ?_)) | refine AA1 (ACb hit.typeIs (AA2 ?_))
 refine AA1 (wpAny_isOneOf_keyiter hit.typeIs ?_);refine(show wpAny (model prog w) _ (setField (.ref it) 1 (rawInt ((i:Int)+1)) >>= _) _ _ s from AA1 (ABw ho hd (by simp) ?_))
 have hit':(s.heap.update it (ADA (·.setIfInBounds 1 (rawInt ((i:Int)+1))))).IsKeyIter it d (i+1) es.size ep:=by
  refine⟨_,AAj _ ho (Obj.isFreed_of_fields (ADh hd _)),(Obj.cls_mapFields ..).trans hc,?_⟩;rw[ADh hd];simp[rawInt]
 refine AA1 (AAr (AA1 (wpAny_isOneOf_keyiter (s:={ s with heap:=s.heap.update it (ADA (·.setIfInBounds 1 (rawInt ((i:Int)+1)))) }) hit'.typeIs ?_)))
 refine(show wpAny (model prog w) _ (pure es[i].key) _ _ _ from ?_);exact AA2 (AA2 ⟨_,rfl,AA2 (hQ _ hit' (AAx ..))⟩)
theorem AE(hh:A.handled=none)(hit:s.heap.IsKeyIter it d es.size es.size ep)(hm:dm s.heap d es ep)
  (hQ:∀h',Heap.ExtBut it s.heap h'->Q none { s with heap:=h' }):wpAny (model prog w) A (pyNext (.ref it)) Q E s:=by
 obtain⟨o,ho,hc,hd⟩:=id hit;obtain⟨od,k1,k2,k3⟩:=id hm;unfold pyNext;refine AA1 (ACO (AB3 (name:=AA0 "__next__") hit.typeIs F.slot_dict_keyiterator_next (AAw F.slot_dict_keyiterator_next hit.typeIs F.entry_dict_keyiterator_next ?_ (F.args_dict_keyiterator_next_1 _))));refine AA1 (AA2 (AA1 (AA1 ?_)));first | refine AA1 (AC9 hit.typeIs (AA2 (AA1 (ABZ ho hd ?_)))) | refine AA1 (ACb hit.typeIs (AA2 (AA1 (ABZ ho hd ?_))))
 simp only[show ABd "dict_keyiterator" = false by decide,AAE,if_false]
 refine(show wpAny (model prog w) _ (if (ABn d==AC3)=true then _ else _) _ _ s from ?_);rw[if_neg (by exact ABS)]
 refine AA1 (AA2 (AA1 (ACa k1 k3 ?_)));rw[if_neg (by simp)]
 refine AA1 (AA2 (AA1 (AD1 k1 k3 ?_)));rw[if_neg (by simp)]
 refine AA2 ?_
 simp only[show ¬((es.size:Int)<0)from by lia,if_false,ABX,ABq (AA8 es.size)]
 refine AA1 ?_
 first | refine AA1 (AC9 hit.typeIs (AA2 ?_)) | refine AA1 (ACb hit.typeIs (AA2 ?_))
 refine(show wpAny (model prog w) _ (setField (.ref it) 0 .none >>= _) _ _ s from AA1 (ABw ho hd (by simp) ?_))
 refine(show wpAny (model prog w) _ (newExc (.type "StopIteration") [] >>= _) _ _ _ from AA1 ?_);simp only[newExc,newTuple];refine AA1 (AAp ?_ (by size_fits))
 refine AA1 (m:=firstArgMember _ _) (wpAny_of_eq (a:=AC3) (by first | rfl | (simp only[firstArgMember];rfl)) ?_)
 refine AAp ?_ (by size_fits)
 simp only[raiseNew];refine AA1 (wpAny_handled ?_);rw[show A.in1.handled=none from hh];refine AA1 (AA2 (wpAny_throw ?_));refine AA1 (ACN (b:=true) (T:="StopIteration") ⟨_,AAA _ rfl,rfl⟩ isSubtype_stop ?_);exact AA2 (hQ _ (((AAx ..).extBut.push _).push _))
def AD(hh:A.handled=none)(I:Addr)(hne:d≠I):Walks prog w A I [I,d] [I] es.size (λi v=>∃e,es[i]?=some e/\v=e.key) (λi h=>h.IsKeyIter I d i es.size ep/\dm h d es ep) where
 sub:=λb hb=>by simp at hb;simp[hb]
 frame:=λ_ _ _ st hk=>⟨st.1.at λo e=>hk I (by simp) o e,st.2.to λo e=>hk d (by simp) o e⟩
 item:=λi s Q E hi st hQ=>wE st.1 st.2 hi λh' hit' hs'=>hQ _ h' s.toks ⟨es[i],by simp[hi],rfl⟩ ⟨hit',st.2.to λo e=>hs'.extBut d o hne e⟩ λb o hb e=>hs'.extBut b o (λh=>hb (by simp[h])) e
 done:=λs Q E st hQ=>AE hh st.1 st.2 λh' he'=>hQ h' s.toks λb o hb e=>he' b o (λh=>hb (by simp[h])) e
 self:=λ_ _ _ _ st hQ=>wpAny_pyIter_keyiter st.1 hQ
def FT(lo:(d==sysModules)=false):KdlSrc prog w "dict" d d es.size (λi v=>∃e,es[i]?=some e/\v=e.key) (λh=>dm h d es ep) where
 type:=λ_ hm=>hm.ty
 there:=λ_ hm=>⟨hm.lt,hm.lt⟩
 keep:=λ_ _ hm hk=>hm.to λo e=>hk d (.inl rfl) o e
 notList:=by decide
 notTuple:=by decide
 hint:=λ_ _ _ _ hm hq=>kdl_hint_dict hm.ty hq
 iter:=λ_ _ hh hm=>⟨_,_,(λ_ _ hq=>wF lo hm hq),AD hh _ (AAN hm.lt),⟨⟨_,AAA _ rfl,rfl,rfl⟩,hm.to λo e=>AA3 _ e⟩⟩
end
def Ite(a:Addr)(n:Nat):It :=
 ⟨λi H=>∃xs,H a=some (.ext (dX a xs))/\xs.length=n/\i<n,λi H v H'=>H'=H/\∀xs,H a=some (.ext (dX a xs))->∃x,xs[i]?=some x/\v=.ref x.2.1,λi H=>(∃xs,H a=some (.ext (dX a xs))/\xs.length=n)/\i=n⟩
section
variable{X:Cx}{pins:List (Addr×Obj)}{σ:St}{H:Hp}{s:Shared}
def hV(I:Inv X pins σ H s)(hH:H a=some (.ext (dX a xs))):∃es,dm s.heap a es xs.length/\es.size=xs.length/\∀(i:Nat) x,xs[i]?=some x->∃e,es[i]?=some e/\e.key=.ref x.2.1/\e.val=x.2.2:=by
 obtain⟨o,es,h1,h2,h3,h4⟩:=Em I hH;refine⟨es,⟨o,h1,h2,h3⟩,?_,λi x hx=>?_⟩
 ·have:=congrArg ABf h4
  rwa [AAO,AA4]at this
 ·refine⟨⟨hkD X.w 8 x.1,.ref x.2.1,x.2.2⟩,?_,rfl,rfl⟩
  rw[<-AAS,h4,AAR,hx];rfl
def wD(x:dm h a es ep)(y:dm h a es' ep'):es=es'/\ep=ep':=by
 obtain⟨o,h1,_,h3⟩:=x;obtain⟨o',h1',_,h3'⟩:=y;obtain rfl:o=o':=AAM (h1.symm.trans h1');rw[h3]at h3';injection h3' with e1 e2
 exact⟨e1,e2⟩
end
theorem Bt{P:Program}{w:World}{K:AA5}{tg:Expr}(a it:Addr)(n:Nat):Turn P w K tg (Ite a n) [it] it (λi h=>h.IsKeyIter it a i n n) where
 mem:=by simp
 obj:=λi h st b hb=>by
  obtain rfl:b=it:=by simpa using hb
  obtain⟨o,e,c,d⟩:=st;exact⟨o,e,λv z=>by rw[d]at z;cases z⟩
 keep:=λi h h' st k=>st.at λo e=>k it (by simp) o e
 item:=by
  intro X hP hw hK hc i pins s σ H E I hf st hg;subst hP hw hK;obtain⟨xs,hH,rfl,hi⟩:=hg;obtain⟨es,em,el,eg⟩:=hV I hH;obtain⟨e,e1,e2,e3⟩:=eg i xs[i] (AA6 hi);obtain⟨f0,f1,f2,f3,f4,f5⟩:=hf it (by simp)
  have hi':i<es.size:=by lia
  have ee:es[i]=e:=by
   rw[AAJ hi']at e1;exact AAM e1
  rw[<-el]at em st;refine wE st em hi' λh' st' sb=>?_
  rw[ee,e2];have I1:Inv X pins σ H { s with heap:=h' }:=I.turned (t':=s.toks) (λb o hb e=>(sb.2 b hb).trans e) f0 f1 f3 f4 f5
  obtain⟨o,q1,q2,q3⟩:=id st';refine⟨_,rfl,xI (s:={ s with heap:=h' }) q1 q2 q3 (by decide) ⟨.ref xs[i].2.1,H,I1,rfl,⟨rfl,λys hy=>?_⟩,by rw[el]at st';exact st',λb hb=>(hf b hb).1⟩⟩
  obtain⟨es',em',el',eg'⟩:=hV I hy;obtain⟨rfl,ep⟩:=wD em em';have hj:i<ys.length:=by lia
  obtain⟨e',z1,z2,_⟩:=eg' i ys[i] (AA6 hj);rw[AAJ hi',ee]at z1;obtain rfl:=AAM z1;rw[e2]at z2;injection z2 with z2
  exact⟨ys[i],AA6 hj,by rw[z2]⟩
 done:=by
  intro X hP hw hK hc i pins s σ H E I hf st hg;subst hP hw hK;obtain⟨⟨xs,hH,rfl⟩,rfl⟩:=hg;obtain⟨es,em,el,eg⟩:=hV I hH;obtain⟨f0,f1,f2,f3,f4,f5⟩:=hf it (by simp)
  rw[<-el]at em st;exact AE (I.ok.hd hc) st em λh' he=>⟨rfl,I.turned (t':=s.toks) (λb o hb e=>he b o hb e) f0 f1 f3 f4 f5⟩
 self:=λA i s Q E st hQ=>wpAny_pyIter_keyiter st hQ
section
variable{X:Cx}{tg:Expr}
def mz(tl:DTE):DTI:=λS M R=>tl S M λd M1=>match d with
 | .ref n=>∃kvs,M1[n]?=some (.dkt kvs)/\(kvs.length<=sizeLine->R ⟨kvs.map (·.1),λM=>M[n]?=some (.dkt kvs)⟩ M1)
 | _=>False
def CY{l:Expr}{tl:DTE}(hl:DE X l tl):DI X tg l (mz tl):=by
 intro pins s σ H R I h;obtain⟨S,M,ρ,Q,sm,sr,q,k⟩:=h;refine thn (hl pins s σ H _ I ⟨S,M,ρ,_,sm,sr,q,λv H' w=>w⟩) λu s1 ⟨v,H1,I1,rv,d,M1,ρ1,sm1,g1,r1,q1⟩=>?_
 cases r1 with
 | @ref n a hn =>
  cases rv
  obtain⟨kvs,hM,q2⟩:=(show ∃kvs,M1[n]?=some (.dkt kvs)/\(kvs.length<=sizeLine->Q ⟨kvs.map (·.1),λM=>M[n]?=some (.dkt kvs)⟩ M1)from q1)
  obtain⟨xs,hH,r,dd,hsm,hz,hx,nd⟩:=jv I1 sm1 hn hM;obtain⟨es,em,el,_⟩:=hV I1 hH;refine wF hsm em ?_
  rw[el];refine⟨s1.heap.objs.size,[s1.heap.objs.size],_,_,H1,rfl,I1.kept (t':=s1.toks) λb o e=>AA3 _ e,Bt a _ xs.length,⟨_,AAA _ rfl,rfl,rfl⟩,λb hb=>?_,k _ H1 ⟨⟨kvs.map (·.1),λM=>M[n]?=some (.dkt kvs)⟩,M1,ρ1,sm1,g1,?_,q2 hz⟩⟩
  ·obtain rfl:b=s1.heap.objs.size:=by simpa using hb
   exact I1.fpOk (AA8 _) (I1.hok.fresh (AA8 _))
  ·refine⟨λi ρ' M' H' s' g ok hi=>?_,λi ρ' M' H' x H2 s' g ok hi y=>?_,λρ' M' H' s' g ok=>?_⟩
   ·obtain⟨_,_,_,ys,hy,ry⟩:=s'.obj _ _ _ (aF g.pre hn) ok
    have ly:ys.length=kvs.length:=by have:=congrArg ABf (iC ry);rwa [AA4,AA4]at this
    exact⟨ys,hy,by lia,by rw[AA4]at hi;lia⟩
   ·obtain⟨rfl,hall⟩:=y
    obtain⟨_,_,_,ys,hy,ry⟩:=s'.obj _ _ _ (aF g.pre hn) ok;obtain⟨z,hz1,rfl⟩:=hall ys hy;obtain⟨p,hp,_,_,rp,_⟩:=dG ry hz1;exact⟨p.1,ρ',by rw[AAR,hp];rfl,s',.refl,rp⟩
   ·obtain⟨_,_,_,ys,hy,ry⟩:=s'.obj _ _ _ (aF g.pre hn) ok
    have ly:ys.length=kvs.length:=by have:=congrArg ABf (iC ry);rwa [AA4,AA4]at this
    exact⟨⟨ys,hy,by lia⟩,by rw[AA4];lia⟩
 | _=>exact q1.elim
def xi{K:AA5}{ρ:List Addr}{H:Hp}{kvs:List (D×D)}{xs:List (D×Addr×Value)}(r:Paired (wP K ρ H) kvs xs):Reps K ρ H (kvs.map (·.1)) (xs.map λx=>V.ref x.2.1):=by
 induction r with
 | nil=>exact .nil
 | cons h t ih=>exact .cons h.2.2.1 ih
def qf:∀(xs:List (D×Addr×Value)) (vs:List Value),vs.length=xs.length->(∀(j:Nat) (v:Value) x,vs[j]?=some v->xs[j]?=some x->v=.ref x.2.1)->aw (xs.map λx=>V.ref x.2.1) vs
 | [],[],_,_=>.nil
 | [],_::_,e,_=>by simp at e
 | _::_,[],e,_=>by simp at e
 | x::xs,v::vs,e,h=>.cons (h 0 v x rfl rfl) (qf xs vs (by simpa using e) λj u y h1 h2=>h (j+1) u y (by simpa using h1) (by simpa using h2))
def jg:DRA:=λds M Q=>match ds with
 | [.ref n]=>∃kvs,M[n]?=some (.dkt kvs)/\SrtOk M (kvs.map (·.1))/\∀ys,ys.Perm (kvs.map (·.1))->Gz M ys->Q (.ref M.length) (M++[.lst ys])
 | _=>False
theorem xR{k:Nat}(hr:Room k X.A)(hc:X.calm=true):mX X (.builtin "sorted") jg:=by
 intro pins s σ H vs us R I rv ⟨ds,M,ρ,Q,sm,rs,q,kk⟩;unfold jg at q;split at q
 ·obtain⟨kvs,hM,so,q⟩:=q
  first | have hzz:=Reps.inv_cons rs | have hzz:=aw.inv_cons rs
  clear rs;obtain⟨_,_,rfl,r1,rs⟩:=hzz;cases rs
  obtain⟨u,rfl,e1⟩:=aw.one rv;obtain⟨a,rfl,e⟩:=Rep.inv_ref r1;cases e1
  obtain⟨xs,hH,r,dd,z2,hz,hx,nd⟩:=jv I sm e hM;obtain⟨es,em,el,eg⟩:=hV I hH;obtain⟨m,hn,hm⟩:=I.loc;have hne:a≠X.env.locals:=ad hH I.free;obtain⟨oa,hoa,_⟩:=id em;have mem:∀b o,(b,o)∈[]++(a,oa)::Att.ledger s.heap X.env.locals a↔b≠X.env.locals/\s.heap.get? b=some o:=λb o=>by
   rw[AAl,AAQ,Att.mem_ledger];constructor
   ·rintro(h | ⟨h1,_,h3⟩)
    ·cases h;exact⟨hne,hoa⟩
    ·exact⟨h1,h3⟩
   ·rintro⟨h1,h2⟩
    by_cases hal:b=a
    ·subst hal
     rw[hoa]at h2;cases h2;exact .inl rfl
    ·exact .inr ⟨h1,hal,h2⟩
  have sl:=so.len;rw[AA4]at sl;refine kdu_sorted (FT (es:=es) (ep:=xs.length) z2) (I.ok.hd hc) (Att.fr_all hn) (Att.news_ledger hne hoa) em (by rw[ABr];lia) λD h' tk vs F' N' lt hl hP=>?_
  have kp:∀b u,b≠X.env.locals->s.heap.get? b=some u->h'.get? b=some u:=λb u hb e=>(N' (b,u) (AA9 _ ((mem b u).mpr ⟨hb,e⟩))).1
  have hDL:D≠X.env.locals:=(N' _ AAG).2.1;have hD:s.heap.get? D=none:=by
   cases q:s.heap.get? D with
   | none=>rfl
   | some o=>exact absurd (lt (D,o) ((mem D o).mpr ⟨hDL,q⟩)) (AAm _)
  have rvs:aw (xs.map λx=>V.ref x.2.1) vs:=by
   refine qf xs vs (by lia) λj v x hj hx'=>?_
   obtain⟨e0,g1,rfl⟩:=hP j v hj;obtain⟨e2,g2,g3,_⟩:=eg j x hx';rw[g1]at g2;obtain rfl:=AAM g2;exact g3
  have rps:=xi r;exact yS (n:=0) hr (by show X.A.units+1<=X.A.units+4;lia) I sm so.g rps rvs hn F'.ns kp hD hDL (N' _ AAG).1 λv H' x=>kk v H' (x Q q)
 ·exact q.elim
end
section
variable{prog:Program}{w:World}{A:Around}{E:Value->Shared->Prop}{s:Shared}{d:Addr}{es:Array DictEntry}{ep:Nat}
def om(hd:(d==sysModules)=false)(hm:dm s.heap d es ep)(hQ:Q (.ref s.heap.objs.size) { s with heap:=s.heap.push { cls:=.type "dict_values",data:=.fields #[.ref d] } }) :
  wpAny (model prog w) A (call (.builtin "dict.values") [.ref d]) Q E s:=by
 refine call_meetsIn ADU hm.ty PySem.F.entry_dict_values (PySem.F.args_dict_values_1 _) (S:=λ_ R s'=>s'=s/\R (.ok (.ret (.ref s.heap.objs.size))) { s with heap:=s.heap.push { cls:=.type "dict_values",data:=.fields #[.ref d] } }) (.of_wp ?_) ⟨rfl,hQ⟩
 rintro A R s' ⟨rfl,h⟩;refine AA1 ?_
 unfold Builtin.Dict.noArgs;refine AA1 (ACy hm.ty (AA2 ?_));refine(show wpAny (model prog w) _ (AD0 d >>= _) _ _ s' from ?_);unfold AD0;rw[hd];exact AA1 (AA2 (AA1 (AAp (AA2 ⟨_,rfl,h⟩))))
theorem si(hv:s.heap.IsValuesView v d)(hm:dm s.heap d es ep)
  (hQ:Q (.ref s.heap.objs.size) { s with heap:=s.heap.push { cls:=.type "dict_valueiterator",data:=.fields #[.ref d,.int 0 0,.int es.size 0,.int ep 0] } }):wpAny (model prog w) A (pyIter (.ref v)) Q E s:=by
 obtain⟨ov,v1,v2,v3⟩:=id hv;obtain⟨o,h1,h2,h3⟩:=hm;refine ADq hv.typeIs F.slot_dict_values_iter (AAw F.slot_dict_values_iter hv.typeIs F.entry_dict_values_iter ?_ (F.args_dict_values_iter_1 _));unfold Builtin.«dict_values.__iter__»;refine AA1 (AA2 (AA1 ?_));unfold Builtin.Dict_items.dictOf;refine AA1 (wpAny_field v1 v3 (x:=.ref d) rfl (AA2 (AA1 ?_)));unfold Builtin.Dict_items.newIterator;refine AA1 (ACa h1 h3 (AA1 (AD1 h1 h3 ?_)));simp only[show ABd "dict_valueiterator" = false by decide,AAE,if_false]
 exact AAp (AA2 ⟨_,rfl,"dict_valueiterator",_,⟨_,AAA _ rfl,rfl⟩,F.slot_dict_valueiterator_next.lookup,by simpa [rawInt]using hQ⟩)
theorem sf(hit:s.heap.IsValIter it d i es.size ep)(hm:dm s.heap d es ep)(hi:i<es.size)
  (hQ:∀h',h'.IsValIter it d (i+1) es.size ep->ACB it s.heap h'->Q (some es[i].val) { s with heap:=h' }):wpAny (model prog w) A (pyNext (.ref it)) Q E s:=by
 obtain⟨o,ho,hc,hd⟩:=id hit;obtain⟨od,k1,k2,k3⟩:=id hm;unfold pyNext;refine AA1 (ACO (AB3 (name:=AA0 "__next__") hit.typeIs F.slot_dict_valueiterator_next (AAw F.slot_dict_valueiterator_next hit.typeIs F.entry_dict_valueiterator_next ?_ (F.args_dict_valueiterator_next_1 _))));refine AA1 (AA2 (AA1 (AA1 ?_)));first | refine AA1 (ACA hit.typeIs (AA2 (AA1 (ABZ ho hd ?_)))) | refine AA1 (ACc hit.typeIs (AA2 (AA1 (ABZ ho hd ?_))))
 simp only[show ABd "dict_valueiterator" = false by decide,AAE,if_false]
 refine(show wpAny (model prog w) _ (if (ABn d==AC3)=true then _ else _) _ _ s from ?_);rw[if_neg (by exact ABS)]
 refine AA1 (AA2 (AA1 (ACa k1 k3 ?_)));rw[if_neg (by simp)]
 refine AA1 (AA2 (AA1 (AD1 k1 k3 ?_)));rw[if_neg (by simp)]
 refine AA2 ?_
 simp only[show ¬((i:Int)<0)from by lia,if_false,ABX,AAJ hi]
 refine AA1 ?_
 first | refine AA1 (ACA hit.typeIs (AA2 ?_)) | refine AA1 (ACc hit.typeIs (AA2 ?_))
 refine AA1 (AE6 hit.typeIs ?_);refine(show wpAny (model prog w) _ (setField (.ref it) 1 (rawInt ((i:Int)+1)) >>= _) _ _ s from AA1 (ABw ho hd (by simp) ?_))
 have hit':(s.heap.update it (ADA (·.setIfInBounds 1 (rawInt ((i:Int)+1))))).IsValIter it d (i+1) es.size ep:=by
  refine⟨_,AAj _ ho (Obj.isFreed_of_fields (ADh hd _)),(Obj.cls_mapFields ..).trans hc,?_⟩;rw[ADh hd];simp[rawInt]
 refine AA1 (AAr (AA1 (AE6 (s:={ s with heap:=s.heap.update it (ADA (·.setIfInBounds 1 (rawInt ((i:Int)+1)))) }) hit'.typeIs (AA1 (AE6 (s:={ s with heap:=s.heap.update it (ADA (·.setIfInBounds 1 (rawInt ((i:Int)+1)))) }) hit'.typeIs ?_)))))
 refine(show wpAny (model prog w) _ (pure es[i].val) _ _ _ from ?_);exact AA2 (AA2 ⟨_,rfl,AA2 (hQ _ hit' (AAx ..))⟩)
theorem wC(hh:A.handled=none)(hit:s.heap.IsValIter it d es.size es.size ep)(hm:dm s.heap d es ep)
  (hQ:∀h',Heap.ExtBut it s.heap h'->Q none { s with heap:=h' }):wpAny (model prog w) A (pyNext (.ref it)) Q E s:=by
 obtain⟨o,ho,hc,hd⟩:=id hit;obtain⟨od,k1,k2,k3⟩:=id hm;unfold pyNext;refine AA1 (ACO (AB3 (name:=AA0 "__next__") hit.typeIs F.slot_dict_valueiterator_next (AAw F.slot_dict_valueiterator_next hit.typeIs F.entry_dict_valueiterator_next ?_ (F.args_dict_valueiterator_next_1 _))));refine AA1 (AA2 (AA1 (AA1 ?_)));first | refine AA1 (ACA hit.typeIs (AA2 (AA1 (ABZ ho hd ?_)))) | refine AA1 (ACc hit.typeIs (AA2 (AA1 (ABZ ho hd ?_))))
 simp only[show ABd "dict_valueiterator" = false by decide,AAE,if_false]
 refine(show wpAny (model prog w) _ (if (ABn d==AC3)=true then _ else _) _ _ s from ?_);rw[if_neg (by exact ABS)]
 refine AA1 (AA2 (AA1 (ACa k1 k3 ?_)));rw[if_neg (by simp)]
 refine AA1 (AA2 (AA1 (AD1 k1 k3 ?_)));rw[if_neg (by simp)]
 refine AA2 ?_
 simp only[show ¬((es.size:Int)<0)from by lia,if_false,ABX,ABq (AA8 es.size)]
 refine AA1 ?_
 first | refine AA1 (ACA hit.typeIs (AA2 ?_)) | refine AA1 (ACc hit.typeIs (AA2 ?_))
 refine(show wpAny (model prog w) _ (setField (.ref it) 0 .none >>= _) _ _ s from AA1 (ABw ho hd (by simp) ?_))
 refine(show wpAny (model prog w) _ (newExc (.type "StopIteration") [] >>= _) _ _ _ from AA1 ?_);simp only[newExc,newTuple];refine AA1 (AAp ?_ (by size_fits))
 refine AA1 (m:=firstArgMember _ _) (wpAny_of_eq (a:=AC3) (by first | rfl | (simp only[firstArgMember];rfl)) ?_)
 refine AAp ?_ (by size_fits)
 simp only[raiseNew];refine AA1 (wpAny_handled ?_);rw[show A.in1.handled=none from hh];refine AA1 (AA2 (wpAny_throw ?_));refine AA1 (ACN (b:=true) (T:="StopIteration") ⟨_,AAA _ rfl,rfl⟩ isSubtype_stop ?_);exact AA2 (hQ _ (((AAx ..).extBut.push _).push _))
def xL(hh:A.handled=none)(I:Addr)(hne:d≠I):Walks prog w A I [I,d] [I] es.size (λi v=>∃e,es[i]?=some e/\v=e.val) (λi h=>h.IsValIter I d i es.size ep/\dm h d es ep) where
 sub:=λb hb=>by simp at hb;simp[hb]
 frame:=λ_ _ _ st hk=>⟨st.1.at λo e=>hk I (by simp) o e,st.2.to λo e=>hk d (by simp) o e⟩
 item:=λi s Q E hi st hQ=>sf st.1 st.2 hi λh' hit' hs'=>hQ _ h' s.toks ⟨es[i],by simp[hi],rfl⟩ ⟨hit',st.2.to λo e=>hs'.extBut d o hne e⟩ λb o hb e=>hs'.extBut b o (λh=>hb (by simp[h])) e
 done:=λs Q E st hQ=>wC hh st.1 st.2 λh' he'=>hQ h' s.toks λb o hb e=>he' b o (λh=>hb (by simp[h])) e
 self:=λ_ _ _ _ st hQ=>wpAny_pyIter_valiter st.1 hQ
end
def Itv(a:Addr)(n:Nat):It :=
 ⟨λi H=>∃xs x v,H a=some (.ext (dX a xs))/\xs.length=n/\xs[i]?=some x/\aU v x.2.2,λi H v H'=>H'=H/\∀xs,H a=some (.ext (dX a xs))->∃x,xs[i]?=some x/\aU v x.2.2,λi H=>(∃xs,H a=some (.ext (dX a xs))/\xs.length=n)/\i=n⟩
theorem yh{P:Program}{w:World}{K:AA5}{tg:Expr}(a it:Addr)(n:Nat):Turn P w K tg (Itv a n) [it] it (λi h=>h.IsValIter it a i n n) where
 mem:=by simp
 obj:=λi h st b hb=>by
  obtain rfl:b=it:=by simpa using hb
  obtain⟨o,e,c,d⟩:=st;exact⟨o,e,λv z=>by rw[d]at z;cases z⟩
 keep:=λi h h' st k=>st.at λo e=>k it (by simp) o e
 item:=by
  intro X hP hw hK hc i pins s σ H E I hf st hg;subst hP hw hK;obtain⟨xs,x,v,hH,rfl,hx,hv⟩:=hg;obtain⟨es,em,el,eg⟩:=hV I hH;obtain⟨e,e1,e2,e3⟩:=eg i x hx;obtain⟨f0,f1,f2,f3,f4,f5⟩:=hf it (by simp)
  have hi':i<es.size:=(AAu.mp e1).1;have ee:es[i]=e:=by
   rw[AAJ hi']at e1;exact AAM e1
  rw[<-el]at em st;refine sf st em hi' λh' st' sb=>?_
  rw[ee,e3];have I1:Inv X pins σ H { s with heap:=h' }:=I.turned (t':=s.toks) (λb o hb e=>(sb.2 b hb).trans e) f0 f1 f3 f4 f5
  obtain⟨o,q1,q2,q3⟩:=id st';refine⟨_,rfl,xI (s:={ s with heap:=h' }) q1 q2 q3 (by decide) ⟨v,H,I1,hv,⟨rfl,λys hy=>?_⟩,by rw[el]at st';exact st',λb hb=>(hf b hb).1⟩⟩
  obtain⟨es',em',el',eg'⟩:=hV I hy;obtain⟨rfl,ep⟩:=wD em em';have hj:i<ys.length:=by lia
  obtain⟨e',z1,_,z2⟩:=eg' i ys[i] (AA6 hj);rw[AAJ hi',ee]at z1;obtain rfl:=AAM z1;rw[e3]at z2;exact⟨ys[i],AA6 hj,by rw[<-z2];exact hv⟩
 done:=by
  intro X hP hw hK hc i pins s σ H E I hf st hg;subst hP hw hK;obtain⟨⟨xs,hH,rfl⟩,rfl⟩:=hg;obtain⟨es,em,el,eg⟩:=hV I hH;obtain⟨f0,f1,f2,f3,f4,f5⟩:=hf it (by simp)
  rw[<-el]at em st;exact wC (I.ok.hd hc) st em λh' he=>⟨rfl,I.turned (t':=s.toks) (λb o hb e=>he b o hb e) f0 f1 f3 f4 f5⟩
 self:=λA i s Q E st hQ=>wpAny_pyIter_valiter st hQ
section
variable{X:Cx}{tg o:Expr}{to:DTE}{apos cpos:Pos}
def wH(to:DTE):DTI:=λS M R=>to S M λd M1=>match d with
 | .ref n=>∃kvs,M1[n]?=some (.dkt kvs)/\(kvs.length<=sizeLine->R ⟨kvs.map (·.2),λM=>M[n]?=some (.dkt kvs)⟩ M1)
 | _=>False
def CW(ho:DE X o to)(hbase:attributeBase o "values" X.env (eval o X.env)=eval o X.env:=by rfl)(hline:(apos.endLine==cpos.line)=true:=by rfl):DI X tg (.Call (.Attribute o "values" apos) [] [] cpos) (wH to):=by
 intro pins s σ H R I h;obtain⟨S,M,ρ,Q,sm,sr,q,k⟩:=h;refine wpAny_Call_method0_late hbase hline (thn (ho pins s σ H _ I ⟨S,M,ρ,_,sm,sr,q,λv H' w=>w⟩) λu s1 ⟨v,H1,I1,rv,d,M1,ρ1,sm1,g1,r1,q1⟩=>?_)
 cases r1 with
 | @ref n a hn =>
  cases rv
  obtain⟨kvs,hM,q2⟩:=(show ∃kvs,M1[n]?=some (.dkt kvs)/\(kvs.length<=sizeLine->Q ⟨kvs.map (·.2),λM=>M[n]?=some (.dkt kvs)⟩ M1)from q1)
  obtain⟨xs,hH,r,dd,hsm,hz,hx,nd⟩:=jv I1 sm1 hn hM;obtain⟨es,em,el,_⟩:=hV I1 hH;refine⟨"dict","dict.values",ACj,ADU,PySem.F.type_dict_values,dd.typeIs,λb z=>?_,ACG rfl (PySem.evalArgs_none (om hsm em ?_))⟩
  ·cases z
   obtain⟨ob,_,_,h1,h2,_⟩:=dd;exact⟨ob,h1,h2.2.1⟩
  have I2:Inv X pins σ H1 { s1 with heap:=s1.heap.push { cls:=.type "dict_values",data:=.fields #[.ref a] } }:=I1.kept (t':=s1.toks) λb o e=>AA3 _ e
  have em2:dm ({ s1 with heap:=s1.heap.push { cls:=.type "dict_values",data:=.fields #[.ref a] } }:Shared).heap a es xs.length:=em.to λo e=>AA3 _ e
  refine si (d:=a) ⟨_,AAA _ rfl,rfl,rfl⟩ em2 ?_
  rw[el];have fin:∀s2:Shared,Inv X pins σ H1 s2->PIE X pins σ tg R (.ref s2.heap.objs.size) { s2 with heap:=s2.heap.push { cls:=.type "dict_valueiterator",data:=.fields #[.ref a,.int 0 0,.int xs.length 0,.int xs.length 0] } }:=λs2 I2=>by
   refine⟨s2.heap.objs.size,[s2.heap.objs.size],_,_,H1,rfl,I2.kept (t':=s2.toks) λb o e=>AA3 _ e,yh a _ xs.length,⟨_,AAA _ rfl,rfl,rfl⟩,λb hb=>?_,k _ H1 ⟨⟨kvs.map (·.2),λM=>M[n]?=some (.dkt kvs)⟩,M1,ρ1,sm1,g1,?_,q2 hz⟩⟩
   ·obtain rfl:b=s2.heap.objs.size:=by simpa using hb
    exact I2.fpOk (AA8 _) (I2.hok.fresh (AA8 _))
   ·refine⟨λi ρ' M' H' s' g ok hi=>?_,λi ρ' M' H' x H2 s' g ok hi y=>?_,λρ' M' H' s' g ok=>?_⟩
    ·obtain⟨_,_,_,ys,hy,ry⟩:=s'.obj _ _ _ (aF g.pre hn) ok
     have ly:ys.length=kvs.length:=by have:=congrArg ABf (iC ry);rwa [AA4,AA4]at this
     rw[AA4]at hi;have hj:i<ys.length:=by lia
     obtain⟨p,_,_,_,_,v,_,rv⟩:=dG ry (AA6 hj);exact⟨ys,ys[i],v,hy,by lia,AA6 hj,rv⟩
    ·obtain⟨rfl,hall⟩:=y
     obtain⟨_,_,_,ys,hy,ry⟩:=s'.obj _ _ _ (aF g.pre hn) ok;obtain⟨z,hz1,rz⟩:=hall ys hy;obtain⟨p,hp,_,_,_,v,rp,rv⟩:=dG ry hz1;obtain rfl:x=v:=rz.inj rv;exact⟨p.2,ρ',by rw[AAR,hp];rfl,s',.refl,rp⟩
    ·obtain⟨_,_,_,ys,hy,ry⟩:=s'.obj _ _ _ (aF g.pre hn) ok
     have ly:ys.length=kvs.length:=by have:=congrArg ABf (iC ry);rwa [AA4,AA4]at this
     exact⟨⟨ys,hy,by lia⟩,by rw[AA4];lia⟩
  exact fin _ I2
 | _=>exact q1.elim
end
section
variable{prog:Program}{w:World}{d r:Addr}{es:Array DictEntry}{ep:Nat}
def CQ:KdlSrc prog w "dict_values" r d es.size (λi v=>∃e,es[i]?=some e/\v=e.val) (λh=>h.IsValuesView r d/\dm h d es ep) where
 type:=λ_ hm=>hm.1.typeIs
 there:=λ_ hm=>⟨let ⟨_,ho,_⟩:=hm.1;AAF ho,hm.2.lt⟩
 keep:=λ_ _ hm hk=>⟨let ⟨o,ho,x⟩:=hm.1;⟨o,hk r (.inl rfl) o ho,x⟩,hm.2.to λo e=>hk d (.inr rfl) o e⟩
 notList:=by decide
 notTuple:=by decide
 hint:=λ_ _ _ _ hm hq=>kdl_hint_values hm.1.typeIs hq
 iter:=λ_ _ hh hm=>⟨_,_,(λ_ _ hq=>si hm.1 hm.2 hq),xL hh _ (AAN hm.2.lt),⟨⟨_,AAA _ rfl,rfl,rfl⟩,hm.2.to λo e=>AA3 _ e⟩⟩
end
def ye{K:AA5}{ρ:List Addr}{H:Hp}{kvs:List (D×D)}{xs:List (D×Addr×Value)}(r:Paired (wP K ρ H) kvs xs):∃ws,Reps K ρ H (kvs.map (·.2)) ws/\aw ws (xs.map λx=>x.2.2):=by
 induction r with
 | nil=>exact⟨[],.nil,.nil⟩
 | cons h t ih =>
  obtain⟨_,_,_,v,q1,q2⟩:=h;obtain⟨ws,h1,h2⟩:=ih;exact⟨v::ws,.cons q1 h1,.cons q2 h2⟩
section
variable{X:Cx}{o:Expr}{to:DTE}{apos cpos p pos:Pos}{k:Nat}
def jy(to:DTE):DTE:=λS M Q=>to S M λd M1=>match d with
 | .ref n=>∃kvs,M1[n]?=some (.dkt kvs)/\Q (.ref M1.length) (M1++[.lst (kvs.map (·.2))])
 | _=>False
def xN(hc:X.calm=true)(ho:DE X o to)(hm:X.mg "list" = none)(hg:X.env.kindOf "list" = some .globalImplicit)
  (hs:starEach [AEN (.Attribute o "values" apos) [] [] cpos] X.env=[(false,eval (AEN (.Attribute o "values" apos) [] [] cpos) X.env)])
  (hbase:attributeBase o "values" X.env (eval o X.env)=eval o X.env) (hline:(apos.endLine==cpos.line)=true) :
  DE X (.Call (.Name "list" p) [.Call (.Attribute o "values" apos) [] [] cpos] [] pos) (jy to):=by
 intro pins s σ H R I ⟨S,M,ρ,Q,sm,sr,q,kk⟩;refine AC4 (ki I hg hm (by rfl) ?_)
 refine callWith_type1 ?_ (by rw[hs];rfl) rfl
 rw[hs];refine ADV (wpAny_Call_method0_late hbase hline (thn (ho pins s σ H _ I ⟨S,M,ρ,_,sm,sr,q,λv H' w=>w⟩) λu s1 ⟨v,H1,I1,rv,x,M1,ρ1,sm1,g1,r1,q1⟩=>?_))
 cases r1 with
 | @ref n a hn =>
  cases rv
  obtain⟨kvs,hM,q2⟩:=(show ∃kvs,M1[n]?=some (.dkt kvs)/\Q (.ref M1.length) (M1++[.lst (kvs.map (·.2))])from q1);obtain⟨xs,hH,r,dd,hsm,hz,hx,nd⟩:=jv I1 sm1 hn hM;obtain⟨es,em,el,eg⟩:=hV I1 hH;refine⟨"dict","dict.values",ACj,ADU,PySem.F.type_dict_values,dd.typeIs,λb z=>?_,ACG rfl (PySem.evalArgs_none (om hsm em ?_))⟩
  ·cases z
   obtain⟨ob,_,_,h1,h2,_⟩:=dd;exact⟨ob,h1,h2.2.1⟩
  refine ADl ?_
  have I2:Inv X pins σ H1 { s1 with heap:=s1.heap.push { cls:=.type "dict_values",data:=.fields #[.ref a] } }:=I1.kept (t':=s1.toks) λb o e=>AA3 _ e
  have em2:dm ({ s1 with heap:=s1.heap.push { cls:=.type "dict_values",data:=.fields #[.ref a] } }:Shared).heap a es xs.length:=em.to λo e=>AA3 _ e
  have vw:({ s1 with heap:=s1.heap.push { cls:=.type "dict_values",data:=.fields #[.ref a] } }:Shared).heap.IsValuesView s1.heap.objs.size a:=⟨_,AAA _ rfl,rfl,rfl⟩
  generalize ({ s1 with heap:=s1.heap.push { cls:=.type "dict_values",data:=.fields #[.ref a] } }:Shared)=s2 at I2 em2 vw ⊢
  refine kdl_call (CQ (es:=es) (ep:=xs.length)) (I2.ok.hd hc) ⟨vw,em2⟩ (by lia) λh' tk acc' c' hk hD hacc=>?_
  obtain⟨ws,w1,w2⟩:=ye r;have ea:acc'.toList=xs.map λx=>x.2.2:=by
   refine ADn λj=>?_
   rw[AAS,AAR];cases hj:xs[j]? with
   | none =>
    have:xs.length<=j:=by rw[List.getElem?_eq_none_iff]at hj;exact hj
    rw[ABq (by have:=hacc.1;lia)];rfl
   | some x =>
    have hlt:=(AA7.mp hj).1;have hlt':j<acc'.size:=by have:=hacc.1;lia
    obtain⟨e,g1,g2⟩:=hacc.2 j acc'[j] (AAJ hlt');obtain⟨e',z1,_,z2⟩:=eg j x hj;rw[g1]at z1;obtain rfl:=AAM z1;rw[AAJ hlt',g2,z2];rfl
  have hf:H1 s2.heap.objs.size=none:=I2.hok.fresh (AA8 _);refine⟨.ref s2.heap.objs.size,_,I2.laid (a:=s2.heap.objs.size) (o:=.lst ws) (t':=tk) hk (AA8 _) ⟨by rw[<-w1.length,AA4];exact hz,acc'.toList,c',by rw[ea];exact w2,by simpa using hD⟩,rfl,kk _ _ (VQ.laidL sm1 g1 w1 hf q2)⟩
 | _=>exact q1.elim
def GE:DR2:=λx y M Q=>match x,y with
 | .tup ks,.ref n=>∃kvs,M[n]?=some (.dkt kvs)/\cH 8 (.tup ks)=true/\Q (.bl (aW kvs (.tup ks)).isSome) M
 | _,_=>False
theorem Ih(hr:Room k X.A):OpD X (compareOp .In) GE:=by
 intro pins s σ H vx vy v u R I rx ry ⟨x,y,M,ρ,Q,sm,r1,r2,q,kk⟩;have un:=hr.un;cases x with
 | tup ks =>
  cases y with
  | ref n =>
   obtain⟨kvs,hM,kd,q⟩:=q;obtain⟨a,rfl,hn⟩:=Rep.inv_ref r2;cases ry
   obtain⟨xs,hH,r,dd,hsm,hl,hx,_⟩:=jv I sm hn hM;have kat:=ib I 8 _ _ _ r1 rx kd;obtain⟨b,_,rfl,_⟩:=id kat;refine wpAny_in_heap (knd:=bY X.prog X.w) (k:=.tup ks) (by show X.A.units+1+8<cLine;lia) kat hsm dd ?_
   have e:(atKey xs (.tup ks)).isSome=(aW kvs (.tup ks)).isSome:=by
    rcases wb r (.tup ks)with⟨z1,z2⟩|⟨_,_,_,z1,z2,_⟩<;>rw[z1,z2]<;>rfl
   rw[e];exact iE (I.tok _) sm kk q
  | _=>exact q.elim
 | _=>exact q.elim
def wI:DTS:=λ_ _ _=>False
def CS{st:Stmt}:DS X st wI:=λpins s σ H E I ⟨S,M,ρ,F,sm,sr,q,kk⟩=>q.elim
end
section
variable{X:Cx}{o i e:Expr}{to ti te:DTE}{pos pos' p apos cpos:Pos}{k:Nat}{tg:Expr}{es:List Expr}{t:DTA}{st:Stmt}
def DZ:HE X (.Dict [] [] pos) uw:=⟨Jz⟩
def Ea(hr:Room k X.A)(ho:HE X o to)(hi:HE X i ti)(hs:NoSl i:=by intro _ _;kernel_rfl):HE X (.Subscript o i pos) (kC to ti):=⟨JA hr ho.ok hi.ok hs⟩
def pD(hr:Room k X.A)(ho:HE X o to)(hi:HE X i ti)(hv:HE X e te)(hs:swapsWith e (some (.Subscript o i pos')) pos.line X.env=pure false:=by kernel_rfl):HS X (.Assign [.Subscript o i pos'] e pos) (uv to ti te):=⟨FY hr ho.ok hi.ok hv.ok hs⟩
def Ae(hr:Room k X.A)(ho:HE X o to)(ha:HA X (e::es) t)(hbase:attributeBase o "get" X.env (eval o X.env)=eval o X.env:=by kernel_rfl)
  (hfew:((backTo cpos (starEach (e::es) X.env)).all (λx=>!x.1)&&(backToKw cpos (keywordEach [] X.env)).all (λx=>x.1.isSome)
   && decide ((e::es).length+([]:List Keyword).length+(if ([]:List Keyword).isEmpty then 0 else 1)<30))=true:=by kernel_rfl)
  (hline:(apos.endLine==cpos.line)=true:=by kernel_rfl) (hs:starEach (e::es) X.env=(false,eval e X.env)::starEach es X.env:=by kernel_rfl) (hplain:(backTo cpos (starEach es X.env)).any (·.1)=false:=by kernel_rfl) :
  HE X (.Call (.Attribute o "get" apos) (e::es) [] cpos) (dMt jf to t):=⟨d_mt ACz PySem.F.type_dict_get (Cf hr) ho.ok ha.ok hbase hfew hline hs hplain⟩
def wj(h:HE X e te):HI X tg e (mz te):=⟨CY h.ok⟩
def wg(ho:HE X o to)(hbase:attributeBase o "values" X.env (eval o X.env)=eval o X.env:=by kernel_rfl)(hline:(apos.endLine==cpos.line)=true:=by kernel_rfl):HI X tg (.Call (.Attribute o "values" apos) [] [] cpos) (wH to):=⟨CW ho.ok hbase hline⟩
def nY(ho:HE X o to)(hm:X.mg "list" = none)(hc:X.calm=true:=by kernel_rfl)(hg:X.env.kindOf "list" = some .globalImplicit:=by kernel_rfl)
  (hs:starEach [AEN (.Attribute o "values" apos) [] [] cpos] X.env=[(false,eval (AEN (.Attribute o "values" apos) [] [] cpos) X.env)]:=by kernel_rfl)
  (hbase:attributeBase o "values" X.env (eval o X.env)=eval o X.env:=by kernel_rfl) (hline:(apos.endLine==cpos.line)=true:=by kernel_rfl) :
  HE X (.Call (.Name "list" p) [.Call (.Attribute o "values" apos) [] [] cpos] [] pos) (jy to):=⟨xN hc ho.ok hm hg hs hbase hline⟩
def oh(hr:Room k X.A)(hc:X.calm=true:=by kernel_rfl):HC X (.builtin "sorted") jg:=⟨xR hr hc⟩
def Ei(hr:Room k X.A):HOp X (compareOp .In) GE:=⟨Ih hr⟩
def kM:HS X st wI:=⟨CS⟩
end
def wt{K:AA5}{ρ:List Addr}{H:Hp}:∀{ns:List Int}{ws:List V}{its:List Value},Reps K ρ H (ns.map D.int) ws->aw ws its->IntsAre its ns
 | [],_,_,r,v=>by cases r;cases v;exact .nil
 | n::ns,_,_,r,v=>by
  rw[AAf]at r;first | have hzz:=Reps.inv_cons r | have hzz:=aw.inv_cons r
  clear r;obtain⟨_,_,rfl,h,t⟩:=hzz;cases h
  cases v with
  | cons q q' =>
   obtain⟨tk,rfl⟩:=q;exact .cons _ _ (wt t q')
section
variable{X:Cx}{k:Nat}
def xj:DRA:=λds M Q=>match ds with
 | [.ref n]=>∃ns:List Int,ar M n (ns.map D.int)/\ns≠[]/\∀m,m∈ns->(∀a∈ns,a<=m)->Q (.int m) M
 | _=>False
theorem Gq(hc:X.calm=true):mX X (.builtin "max") xj:=by
 intro pins s σ H vs us R I rv ⟨ds,M,ρ,Q,sm,rs,q,kk⟩;unfold xj at q;split at q
 ·obtain⟨ns,hL,hne0,q⟩:=q
  first | have hzz:=Reps.inv_cons rs | have hzz:=aw.inv_cons rs
  clear rs;obtain⟨_,_,rfl,r1,rs⟩:=hzz;cases rs
  obtain⟨u,rfl,e1⟩:=aw.one rv;obtain⟨a,rfl,e⟩:=Rep.inv_ref r1;cases e1
  obtain⟨ws,hq,r⟩:=ar.seq sm hL e;obtain⟨its,rr,pl,hz⟩:=I.list hq;obtain⟨m,hn,hm⟩:=I.loc;obtain⟨oa,nn,hoa,hca,hdict,hdata⟩:=id pl;have hne:a≠X.env.locals:=λz=>by
   subst z;obtain⟨o,es,ep,e,hd,_⟩:=hn;rw[hoa]at e;cases e
   rw[hd]at hdata;cases hdata
  have mem:∀b o,b≠X.env.locals->s.heap.get? b=some o->(b,o)∈[]++(a,oa)::Att.ledger s.heap X.env.locals a:=λb o h1 h2=>by
   rw[AAl,AAQ,Att.mem_ledger];by_cases hal:b=a
   ·subst hal
    rw[hoa]at h2;cases h2;exact .inl rfl
   ·exact .inr ⟨h1,hal,h2⟩
  refine max_list_N (I.ok.hd hc) (Att.fr_all hn) (Att.news_ledger hne hoa) pl.isList (wt r rr) (List.length_pos_iff.mpr hne0) λh' mm t tk F' N' h1 h2=>?_
  have kp:∀b u,b≠X.env.locals->s.heap.get? b=some u->h'.get? b=some u:=λb u hb e=>(N' (b,u) (mem b u hb e)).1
  exact⟨.int mm,H,I.keptF (t':=tk) kp hn F'.ns,⟨t,rfl⟩,kk _ _ ⟨.int mm,M,ρ,sm,.refl,.int mm,q mm h1 h2⟩⟩
 ·exact q.elim
def JI:bootBuiltins "max" = some (.builtin "max"):=by decide +kernel
def Au(hc:X.calm=true:=by kernel_rfl):HC X (.builtin "max") xj:=⟨Gq hc⟩
end
end L2
namespace L2
open PySem PySem.Spec PyProof.Rows DL PySem.W PySem.Calls PyProof.V
structure PairsAt(es:Array DictEntry)(lo:Addr)(h:Heap)(as:List Addr):Prop where
 nd:as.Nodup
 above:∀a∈as,lo<a
 tup:∀(j:Nat) (a:Addr),as[j]?=some a->∃e,es[j]?=some e/\h.get? a=some { cls:=.type "tuple",data:=.seq #[e.key,e.val] }
end L2
namespace L2
open PySem PySem.Spec PyProof.Rows DL PySem.W
section
variable{X:Cx}
def GC:DR2:=λx y M Q=>match x,y with
 | .int i,.int j=>CPow i j/\Q (.int (i*2 ^ j.toNat)) M
 | _,_=>False
def Ic:OpD X (binaryOp .LShift) GC:=by
 refine OpR.imp HP λvx vy H R ⟨x,y,M,ρ,Q,sm,r1,r2,q,k⟩=>?_
 unfold GC at q;split at q
 ·cases r1
  cases r2
  exact⟨_,_,rfl,rfl,q.1,k _ H (VQ.now sm (.int _) q.2)⟩
 ·exact q.elim
def Ee:HOp X (binaryOp .LShift) GC:=⟨Ic⟩
def oi(hr:Room k X.A):HC X (.builtin "sorted") jF:=⟨AR hr⟩
end
noncomputable def dictOf(ps:List (D×D)):List (D×D):=ps.foldl (λkvs p=>ie kvs p.1 p.2) []
def bN:dictOf (ps++[p])=ie (dictOf ps) p.1 p.2:=by
 unfold dictOf;rw[ADt];rfl
def rZ:∀(ps kvs:List (D×D)),(ps.foldl (λkvs p=>ie kvs p.1 p.2) kvs).length<=kvs.length+ps.length
 | [],_=>AA8 _
 | p::ps,kvs=>by
  have h1:=rZ ps (ie kvs p.1 p.2);have h2:=vT (kvs:=kvs) (k:=p.1) (d:=p.2);rw[List.foldl_cons,AAK];lia
def jU:(dictOf ps).length<=ps.length:=by
 have:=rZ ps [];rw[AAU,Nat.zero_add]at this;exact this
def se:entryFor table "dict.update.loop" = some Builtin.«dict.update.loop»:=entryFor_of_tree (by kernel_rfl)
def ji:plainId "dict.update.loop" = true:=by decide +kernel
def jN:typeLookup (.type "list") "__getattr__" = pure none:=by rw[AEL,ACw];kernel_rfl
def mP:typeLookup (.type "list") "keys" = pure none:=by rw[AEL,ACw];kernel_rfl
section
variable{prog:Program}{w:World}{A:Around}{E:Value->Shared->Prop}{h:Heap}{g:Array GenState}{d:Drawn}{t:Nat}{os:OsState}{a:Addr}{o:Obj}
def zI(hx:h.get? a=some o)(hc:o.cls=.type "list")(hdict:o.dict=none)(hdat:o.data=.seq its nn)(hA:A.handled=none)(hq:∀h' tk e,Heap.NewAttrErr h h' e (.ref a) "keys"->R (.error (.ref e)) ⟨h',g,d,tk,os⟩) :
  codeAny (model prog w) A (.call (.builtin "list.__getattribute__") ⟨[.ref a,.str "keys" u],[]⟩) R ⟨h,g,d,t,os⟩:=by
 obtain⟨oc,od,odt,osl⟩:=o;obtain rfl:oc=.type "list":=hc;obtain rfl:od=none:=hdict;obtain rfl:odt=.seq its nn:=hdat;have hT:(⟨h,g,d,t,os⟩:Shared).TypeIs (.ref a) "list":=⟨_,hx,rfl⟩;have f4:=mP;refine codeAny_call_builtin AC2.plain PySem.F.entry_list_ga (AC2.check _ _ _ _ _ _ _ _ hT (PySem.F.args_list_getattribute_2 _ _) ?_);unfold Builtin.«object.__getattribute__»;repeat (any_goals (first | assumption | wp_step))
 refine wpAny_raiseAttrError (o:=.ref a) (name:="keys") (by first | exact hA | simpa using hA) hq ?_
 exact attrMsg_fits (by decide +kernel) (by size_fits)
def tX(hx:h.get? a=some o)(hc:o.cls=.type "list")(hdict:o.dict=none)(hdat:o.data=.seq its nn)(hA:A.handled=none)(hq:∀h' tk,(∀b ob,h.get? b=some ob->h'.get? b=some ob)->Q none ⟨h',g,d,tk,os⟩) :
  wpAny (model prog w) A (getAttr? (.ref a) "keys") Q E ⟨h,g,d,t,os⟩:=by
 obtain⟨oc,od,odt,osl⟩:=o;obtain rfl:oc=.type "list":=hc;obtain rfl:od=none:=hdict;obtain rfl:odt=.seq its nn:=hdat;have hT:∀tk,(⟨h,g,d,tk,os⟩:Shared).TypeIs (.ref a) "list":=λ_=>⟨_,hx,rfl⟩
 have f1:=sub_AttributeError;have f2:=AC2.lookup;have f3:=AC2.bind (.ref a);have f5:=jN;unfold getAttr? getAttrBy? getAttrBy;repeat (any_goals (first | assumption | exact hT _ | wp_step))
 refine zI hx rfl rfl rfl (by first | exact hA | simpa using hA) λh' tk e hx'=>?_
 obtain⟨t',u',he⟩:=hx'.there;unfold getattributeRaised;repeat (any_goals (first | assumption | wp_step))
 exact hq _ _ hx'.keeps
end
def dsetE(hu:(bY prog w).room A)(kat:(bY prog w).is s.heap k b)
  (hm:s.heap.DictOfH (bY prog w) d xs) (hx:dX d xs prog w s.heap) (hz:xs.length<=sizeLine)
  (hQ:∀h',dX d (storedH xs k b v) prog w h'->ACB d s.heap h'->Q () { s with heap:=h',toks:=s.toks+(bY prog w).draws k }):wpAny (model prog w) A (dictSet d (.ref b) v) Q E s:=by
 obtain⟨_,_,_,_,_,_,_,his,hn⟩:=hm;obtain⟨o,es,ho,hc,hd,he'⟩:=hx;have he:es.toList=xs.map (entryOfKey (bY prog w)):=he';unfold dictSet
 try with_reducible refine AAr ?_
 refine AA1 ((bY prog w).pyHash hu kat ?_);unfold dictSetHashed
 try with_reducible refine AAr ?_
 have hl:es.size=xs.length:=size_of_entries he;refine AA1 (wpAny_dictFind_heap (s:={ s with toks:=s.toks+(bY prog w).draws k }) hu kat ho hd he his hn (λhno=>?_) λj p hj=>?_)
 ·refine AA1 (AD5 (wpAny_updateDictKeys (hz:=by lia) (s:={ s with toks:=s.toks+(bY prog w).draws k }) ho hd (hQ _ ⟨_,es.push ⟨(bY prog w).hash k,.ref b,v⟩,AAj _ ho (ADN (ADC hd _)),hc.mapDictKeys _,?_,?_⟩ (AAx ..))))
  ·rw[ADC hd,storedH_new (ADs hno),AAB];rfl
  ·rw[storedH_new (ADs hno)]
   rw[ADo,he,AB1];rfl
 ·refine AA1 (AD5 (AA1 (wpAny_updateDict (s:={ s with toks:=s.toks+(bY prog w).draws k }) ho hd (wpAny_point (hQ _ ⟨_,es.modify j λe=>{ e with val:=v },AAj _ ho (ADN (AE9 hd _)),hc.mapDict _,?_,?_⟩ (AAx ..))))))
  ·rw[AE9 hd,storedH_old (atKey_of_get hn hj),AA4]
  ·rw[storedH_old (atKey_of_get hn hj)]
   have q:=modify_map_putAt (entryOfKey (bY prog w)) (λe:DictEntry=>{ e with val:=v }) k v (λ_ _=>rfl) hn hj
   rw[<-he]at q;obtain⟨l⟩:=es;have q2:(Array.modify ⟨l⟩ j λe:DictEntry=>{ e with val:=v }).toList=(xs.map (putAt k v)).map (entryOfKey (bY prog w)):=by simpa using q
   exact q2
section
variable{X:Cx}{pins:List (Addr×Obj)}{σ:St}{H:Hp}{ρ:List Addr}{M:Mem}{A:Around}{E:Value->Shared->Prop}{s:Shared}
structure DD(X:Cx)(ρ:List Addr)(H:Hp)(h:Heap)(a:Addr)(kvs:List (D×D))(xs:List (D×Addr×Value)):Prop where
 dx:dX a xs X.prog X.w h
 kv:Paired (wP X.K ρ H) kvs xs
 nd:(kvs.map (·.1)).Nodup
def DD.at(x:DD X ρ H h a kvs xs)(k:∀o,h.get? a=some o->h'.get? a=some o):DD X ρ H h' a kvs xs:=by
 obtain⟨⟨o,es,e1,e2,e3,e4⟩,kv,nd⟩:=x;exact⟨⟨o,es,k _ e1,e2,e3,e4⟩,kv,nd⟩
def DD.len(x:DD X ρ H h a kvs xs):xs.length=kvs.length:=by
 have:=congrArg ABf (iC x.kv)
 rwa [AA4,AA4]at this
def DD.of(I:Inv X pins σ H s)(x:DD X ρ H s.heap a kvs xs):s.heap.DictOfH (bY X.prog X.w) a xs:=by
 obtain⟨o,es,e1,e2,e3,e4⟩:=x.dx;have ek:=iC x.kv;refine⟨o,es,_,e1,e2,e3,e4,λy hy=>?_,by rw[ek];exact x.nd⟩
 obtain⟨i,hi⟩:=ABE hy;obtain⟨p,_,q1,q2,q3,_⟩:=dG x.kv hi;rw[<-q1];exact ib I 8 _ _ _ q3 rfl q2
theorem Gi(I:Inv X pins σ H s)(hu:A.units+20<cLine)(W:Walks X.prog X.w A.in1 J fp wr m P Sx)(S:Addr)(hSf:S∉fp)
  (hS0:s.heap.get? S=none) (hw0:∀b∈wr,s.heap.get? b=none) (ps:List (D×D)) (hm:ps.length=m) (hval:∀i v,P i v->∃p,ps[i]?=some p/\(∃vv,Rep X.K ρ H (.tup [p.1,p.2]) vv/\aU vv v)/\cH 8 p.1=true/\gZ p.1=true) (hb:m<=1000) :
  ∀(k i:Nat) (h:Heap) (tk:Nat) (xs:List (D×Addr×Value)) (j:Int) (t:Tok),m-i=k->i<=m->Sx i h->DD X ρ H h S (dictOf (ps.take i)) xs->(∀b u,s.heap.get? b=some u->h.get? b=some u) ->
   (∀h' tk xs',(∀b u,s.heap.get? b=some u->h'.get? b=some u)->DD X ρ H h' S (dictOf ps) xs'->R (.ok (.ret .none)) { s with heap:=h',toks:=tk }) ->
   codeAny (model X.prog X.w) A (.builtin "dict.update.loop" ⟨[.ref S,.ref J,.int j t,.none],[]⟩) R { s with heap:=h,toks:=tk }:=by
 have hSw:S∉wr:=λh=>hSf (W.sub _ h)
 intro k;induction k with
 | zero =>
  intro i h tk xs j t hk hi hst hS hold hR;obtain rfl:i=m:=by lia
  refine ABg se ?_
  rw[ABk ji _];refine(show wpAny (model X.prog X.w) A.in1 (pyNext (.ref J) >>= _) _ _ _ from AA1 (W.done _ _ _ hst λh' tk hk'=>?_))
  rw[<-hm,ABa]at hS;refine(show wpAny (model X.prog X.w) A.in1 (Builtin.Dict.addKeywords S [] >>= _) _ _ _ from AA1 (AA2 (AA2 ?_)));exact hR h' tk xs (λb u e=>hk' b u (λz=>by rw[hw0 b z]at e;cases e) (hold b u e)) (hS.at λo e=>hk' S o hSw e)
 | succ k ih =>
  intro i h tk xs j t hk hi hst hS hold hR;refine ABg se ?_
  rw[ABk ji _];refine(show wpAny (model X.prog X.w) A.in1 (pyNext (.ref J) >>= _) _ _ _ from AA1 (W.item i _ _ _ (by lia) hst λv h' tk hP hst' hk'=>?_))
  obtain⟨p,hp,⟨vv,r,rv⟩,kd,it⟩:=hval i v hP;have old':∀b u,s.heap.get? b=some u->h'.get? b=some u:=λb u e=>hk' b u (λz=>by rw[hw0 b z]at e;cases e) (hold b u e)
  have I':Inv X pins σ H { s with heap:=h',toks:=tk }:=I.kept old'
  have hS':=hS.at λo e=>hk' S o hSw e
  have hl:=hS'.len;have dl:=jU (ps:=ps.take i);have dd:=hS'.of (s:={ s with heap:=h',toks:=tk }) I'
  obtain⟨a,vs,rfl,hq,rr⟩:=Rep.inv_tup r;cases rv
  first | have hzz:=Reps.inv_cons rr | have hzz:=aw.inv_cons rr
  clear rr;obtain⟨_,_,rfl,r1,rr⟩:=hzz;first | have hzz:=Reps.inv_cons rr | have hzz:=aw.inv_cons rr
  clear rr;obtain⟨_,_,rfl,r2,rr⟩:=hzz;cases rr
  obtain⟨its,r2',pl,hz⟩:=I'.tuple hq;obtain⟨u1,u2,rfl,e1,e2⟩:=aw.two r2';obtain⟨k0,d0⟩:=p;cases k0 with
  | tup ks =>
   have kat:=ib I' 8 _ _ _ r1 e1 kd;obtain⟨b,_,rfl,_⟩:=id kat;obtain⟨_,_,rfl,hq1,rr1⟩:=Rep.inv_tup r1;cases e1
   obtain⟨o,ho,hc,nn,hd⟩:=pl;have hT:({ s with heap:=h',toks:=tk }:Shared).TypeIs (.ref a) "tuple":=⟨o,ho,hc⟩
   refine AA1 (AAr (AA1 (wpAny_tryCatch ?_)));unfold Builtin.Dict.pairItems;refine AA1 (ACe hT ?_);rw[if_pos (by decide)]
   refine AA1 (ACn ho hd (AA2 ?_));refine(show wpAny (model X.prog X.w) _ (holding [.ref b,u2] (dictSet S (.ref b) u2)) _ _ _ from AAr ?_);refine dsetE (k:=.tup ks) (s:={ s with heap:=h',toks:=tk }) (by show A.units+1+8<cLine;lia) kat dd hS'.dx (ak (by rw[hl];rw[AAv]at dl;lia)) λh2 dx2 sb=>?_
   have k2:∀b u,b≠S->h'.get? b=some u->h2.get? b=some u:=λb u hb e=>(sb.2 b hb).trans e
   have kv2:=DH hS'.kv kd (.tup hq1 rr1) r2 e2;have et:ps.take (i+1)=ps.take i++[(.tup ks,d0)]:=by rw[ABv,hp];rfl
   refine AA2 ⟨AD9 ji _,ih (i+1) h2 _ _ _ _ (by lia) (by lia) (W.frame _ h' h2 hst' λb' hb' o e=>k2 b' o (λz=>hSf (z ▸ hb')) e) ⟨dx2,?_,?_⟩ (λb u e=>k2 b u (λz=>by rw[z,hS0]at e;cases e) (old' b u e)) hR⟩
   ·rw[et,bN];exact kv2
   ·rw[et,bN];exact oN hS'.nd
  | _=>cases it
theorem Gs(I:Inv X pins σ H s)(hu:A.units+30<cLine)(hh:A.handled=none)(hl:s.heap.IsList l its)(hol:s.heap.get? l=some ol)(hdict:ol.dict=none)(ps:List (D×D))(hm:ps.length=its.size)
  (hval:∀(i:Nat) v,its[i]?=some v->∃p:D×D,ps[i]?=some p/\(∃vv,Rep X.K ρ H (.tup [p.1,p.2]) vv/\aU vv v)/\cH 8 p.1=true/\gZ p.1=true) (hb:its.size<=1000)
  (h:∀h' tk xs,(∀b u,s.heap.get? b=some u->h'.get? b=some u)->DD X ρ H h' s.heap.objs.size (dictOf ps) xs->Q (.ref s.heap.objs.size) { s with heap:=h',toks:=tk }) :
  wpAny (model X.prog X.w) A (call (.type "dict") [.ref l]) Q E s:=by
 refine callType_codes (Q₁:=λobj s₁=>obj=.ref s.heap.objs.size/\s₁={ s with heap:=s.heap.push { cls:=.type "dict",data:=.dict #[] } }) PySem.F.kt_called_dict (PySem.F.kt_typeCall_dict_1 _) PySem.F.entry_dict_init (kt_code_dict_new _ ⟨rfl,rfl⟩) ?_
 rintro obj s₁ ⟨rfl,rfl⟩;have hS:(s.heap.push { cls:=.type "dict",data:=.dict #[] }).get? s.heap.objs.size=some { cls:=.type "dict",data:=.dict #[] }:=AAA _ rfl;have hT:AED { s with heap:=s.heap.push { cls:=.type "dict",data:=.dict #[] } } (.ref s.heap.objs.size) "dict":=⟨_,hS,rfl⟩
 obtain⟨ol',e1,hcl,nn,hdd⟩:=id hl;obtain rfl:ol'=ol:=AAM (e1.symm.trans hol);have hol':(s.heap.push { cls:=.type "dict",data:=.dict #[] }).get? l=some ol':=AA3 _ hol;have hTl:AED { s with heap:=s.heap.push { cls:=.type "dict",data:=.dict #[] } } (.ref l) "list":=⟨ol',hol',hcl⟩
 have ll:l<s.heap.objs.size:=AAF hol;refine⟨hT,PySem.F.args_dict_init_2 _ _,?_⟩;unfold Builtin.«dict.__init__»;refine AA1 ?_
 unfold Builtin.Dict.selfAndRest;refine AA1 (ACy hT ?_);refine(show wpAny _ _ (pure (s.heap.objs.size,[ABn l])) _ _ _ from AA2 ?_);refine(show wpAny _ _ (Builtin.Dict.updateFrom "dict.__init__" s.heap.objs.size (.ref l) [] .none) _ _ _ from ?_);unfold Builtin.Dict.updateFrom;refine AA1 (ACe hTl ?_);rw[if_pos (by decide)]
 refine AA1 (tX hol' hcl hdict hdd (by simpa using hh) λh1 tk1 k1=>?_)
 have kp1:∀b u,s.heap.get? b=some u->h1.get? b=some u:=λb u e=>k1 b u (AA3 _ e)
 rw[if_pos (show (none:Option Value).isNone=true from rfl)];refine AA1 (AD5 ?_);obtain⟨oI,St,hit,W,st⟩:=(TxSrc.list (prog:=X.prog) (w:=X.w) hl).iter A.in1.in1 { s with heap:=h1,toks:=tk1 } (by simpa using hh) λo e=>kp1 _ _ e
 refine AA1 (hit _ _ ?_);have hS1:=k1 _ _ hS;have lS:s.heap.objs.size<h1.objs.size:=AAF hS1;have hS0:s.heap.get? s.heap.objs.size=none:=by
  cases q:s.heap.get? s.heap.objs.size with
  | none=>rfl
  | some o=>exact absurd (AAF q) (AAm _)
 refine AA2 ⟨AD9 ji _,Gi (A:=A.in1) (s:=s) I (by show A.units+1+20<cLine;lia) W s.heap.objs.size ?_ hS0 ?_ ps hm hval hb its.size 0 _ _ [] _ _ rfl (AAX _) st ⟨⟨_,#[],AA3 _ hS1,⟨rfl,rfl,rfl⟩,rfl,rfl⟩,.nil,AE1⟩ (λb u e=>AA3 _ (kp1 b u e)) λh2 tk2 xs k2 dd=>⟨rfl,h h2 tk2 xs k2 dd⟩⟩
 ·simp only[AAQ,List.not_mem_nil,or_false,not_or]
  exact⟨AAN lS,Nat.ne_of_gt ll⟩
 ·intro b hb'
  rw[AAt.mp hb'];cases q:s.heap.get? h1.objs.size with
  | none=>rfl
  | some o=>exact absurd (Nat.lt_trans (AAF q) lS) (AAm _)
end
section
variable{X:Cx}{k:Nat}
def ic:DRA:=λds M Q=>match ds with
 | [.ref n]=>∃ps:List (D×D),ar M n (ps.map λp=>.tup [p.1,p.2])/\(∀p∈ps,cH 8 p.1=true/\gZ p.1=true)/\ps.length<=1000/\Q (.ref M.length) (M++[.dkt (dictOf ps)])
 | _=>False
theorem AS(hr:Room k X.A)(hc:X.calm=true):mX X (.type "dict") ic:=by
 intro pins s σ H vs us R I rv ⟨ds,M,ρ,Q,sm,rs,q,kk⟩;have un:=hr.un;unfold ic at q;split at q
 ·obtain⟨ps,hL,hk,hl,q⟩:=q
  first | have hzz:=Reps.inv_cons rs | have hzz:=aw.inv_cons rs
  clear rs;obtain⟨_,_,rfl,r1,rs⟩:=hzz;cases rs
  obtain⟨u,rfl,e1⟩:=aw.one rv;obtain⟨a,rfl,e⟩:=Rep.inv_ref r1;cases e1
  obtain⟨ws,hq,r⟩:=ar.seq sm hL e;obtain⟨its,rr,pl,hz⟩:=I.list hq;obtain⟨oa,nn,hoa,hca,hdict,hdata⟩:=id pl;have lw:=r.length;have li:=rr.length;rw[AA4]at lw;have hf:H s.heap.objs.size=none:=I.hok.fresh (AA8 _);have hb:(s.heap.objs.size==sysModules)=false:=beq_eq_false_iff_ne.mpr (ABM (AAN I.big));refine Gs (A:=X.A) (ρ:=ρ) I (by lia) (I.ok.hd hc) pl.isList hoa hdict ps (by rw[AAC];lia) (λi v hv=>?_) (by rw[AAC];lia) λh' tk xs kp dd=>?_
  ·obtain⟨d,vv,e1,r1,rv1⟩:=sW r rr (i:=i) (u:=v) (by simpa using hv)
   rw[AAR]at e1;obtain⟨p,hp,rfl⟩:=ABC.mp e1;exact⟨p,hp,⟨vv,r1,rv1⟩,hk p (AAi hp)⟩
  ·have dl:=jU (ps:=ps)
   refine⟨.ref s.heap.objs.size,_,I.laid (a:=s.heap.objs.size) (o:=.ext (dX s.heap.objs.size xs)) (t':=tk) kp (AA8 _) (uk dd.dx),rfl,?_⟩;exact kk _ _ ⟨.ref M.length,M++[.dkt (dictOf ps)],ρ++[s.heap.objs.size],sm.laidM (mo:=.dkt (dictOf ps)) hf ⟨ak (by lia),hb,dd.nd,xs,aJ,Paired.mapP dd.kv λ_ _ ⟨q1,q2,q3,v,q4,q5⟩=>⟨q1,q2,q3.grow (Grow.laidR hf),v,q4.grow (Grow.laidR hf),q5⟩⟩,Grow.laidR hf,.ref sm.last,q⟩
 ·exact q.elim
def rY(hr:Room k X.A)(hc:X.calm=true:=by kernel_rfl):HC X (.type "dict") ic:=⟨AS hr hc⟩
end
abbrev EE(M:Mem)(R:DK):DEnds:=⟨λ_ M'=>bj M R .non M',bj M R,λ_ _=>False,λ_ _=>False⟩
def dst(n:Nat)(ds:List D):SD:=ds.map some++ADx (n-ds.length) none
abbrev WpT(Pr:DSp)(n:Nat)(t:DTS):Prop:=∀ds M R,Pr ds M R->t (EE M R) (dst n ds) M
abbrev cE(Pr:DSp)(p:List Str):Prop:=∀ds M R,Pr ds M R->ds.length=p.length
abbrev DerT(P:Program)(w:World)(K:AA5)(mg:Str->Option Value)(base:Heap)(k:Nat)(x:Str)(N:List Str)(st:Stmt)(t:DTS):Prop :=
 ∀(f:Addr) (cdv:Value) (A:Around) (outer:List Env) (s:Shared) (H:Hp) (E:XK),Room k (A.deeper (PyProof.Rows.envOfC x (ap st) s.heap.objs.size f cdv))->HB (sA CX0 P w K mg base N x (ap st) f cdv A outer s H E).nox (bO st) t
def wG(c:DTT)(tb:DTS):DTS:=λE S M=>∃W:Nat->SD->Mem->Prop,(∃m,W m S M)/\∀m S M,W m S M ->
 c S M λb M1=>if b=true then tb ⟨λS' M'=>∃m',m' < m/\W m' S' M',E.rt,E.nx,λS' M'=>∃m',m' < m/\W m' S' M'⟩ S M1 else E.nx S M1
def xw{K:AA5}{c:DTT}{tb:DTS}(E:Ends)(σ:St)(H:Hp)(h:lowS K (wG c tb) E σ H):Dt (lowT K c) (lowS K tb) E σ H:=by
 obtain⟨S,M,ρ,F,s,sr,⟨W,⟨m0,w0⟩,turn⟩,k⟩:=h;refine⟨λm τ H2=>∃S2 M2 ρ2,Sim K ρ2 M2 H2/\Grow K ρ H ρ2 H2/\SRep K ρ2 H2 S2 τ/\W m S2 M2,⟨m0,S,M,ρ,s,.refl,sr,w0⟩,?_⟩
 rintro m τ H2 ⟨S2,M2,ρ2,s2,g2,sr2,w2⟩;refine⟨S2,M2,ρ2,_,s2,sr2,turn m S2 M2 w2,λb H3 ⟨M3,ρ3,s3,g3,q3⟩=>?_⟩
 have g13:=g2.trans g3;cases b with
 | true =>
  have again:∀τ5 H5,SQ K ρ3 H3 (λS' M'=>∃m',m' < m/\W m' S' M') τ5 H5->∃m',m' < m/\∃S2 M2 ρ2,Sim K ρ2 M2 H5/\Grow K ρ H ρ2 H5/\SRep K ρ2 H5 S2 τ5/\W m' S2 M2:=λτ5 H5 ⟨S5,M5,ρ5,s5,g5,sr5,m',lt,w5⟩=>⟨m',lt,S5,M5,ρ5,s5,g13.trans g5,sr5,w5⟩
  refine bT ⟨_,λτ' H' z=>z,S2,M3,ρ3,_,s3,sr2.grow g3,(show tb _ S2 M3 from q3),?_⟩
  exact⟨again,λv H5 z=>k.rt v H5 (VQ.trans g13 z),λτ5 H5 z=>k.nx τ5 H5 (SQ.trans g13 z),again⟩
 | false=>exact bJ (k.nx τ H3 ⟨S2,M3,ρ3,s3,g13,sr2.grow g3,(show F.nx S2 M3 from q3)⟩)
section
variable{X:Cx}{c:Expr}{body:List Stmt}{tc:DTT}{tb:DTS}{pos:Pos}
def kL(hc:HT X c tc)(hb:HB X body tb)(hp:PassesOwn (model X.prog X.w) X.A X.env X.xe:=by exact PassesOwn.never):HS X (.While c body [] pos) (wG tc tb):=⟨PS.imp (BJ hp hc.ok hb.ok) xw⟩
end
inductive TopB(mg:Str->Option Value):List Str->List (Str×Int)->Prop
 | nil:TopB mg [] []
 | b {x:Str}{B:List Str}{C:List (Str×Int)} (h:mg x=none) (t:TopB mg B C):TopB mg (x::B) C
 | c {x:Str}{i:Int}{C:List (Str×Int)} (h:∃t,mg x=some (.int i t)) (t:TopB mg [] C):TopB mg [] ((x,i)::C)
def TopB.no(h:TopB mg B C)(c:B.contains x=true):mg x=none:=by
 induction h with
 | nil=>simp at c
 | b h _ ih =>
  simp only[List.contains_cons,ABG,beq_iff_eq]at c;rcases c with rfl | c
  ·exact h
  ·exact ih c
 | c _ _ _=>simp at c
def nodB:List Str->Bool
 | []=>true
 | x::xs=>!xs.contains x&&nodB xs
def Fw:∀{l:List Str},nodB l=true->l.Nodup
 | [],_=>AE1
 | x::xs,h=>by
  simp only[nodB,AAW,Bool.not_eq_true',List.contains_eq_mem,decide_eq_false_iff_not]at h;exact ABy.mpr ⟨h.1,Fw h.2⟩
def tgN:Expr->List Str
 | .Name x _=>[x]
 | .Tuple es _ _=>es.filterMap fun | .Name x _=>some x | _=>none
 | _=>[]
abbrev lcN(N:List Str)(js:List Nat)(tg:Expr):List Str:=tgN tg++js.map λj=>N.getD j ""
section
variable{X:Cx}{tg iter elt:Expr}{ifs:List Expr}{scope:Scope}{nt i:Nat}{js:List Nat}{di:DTI}{g:DTG}{tt:DTT}{te:DTE}{pos pos' pos2:Pos}{x:Str}
def IB(hi:HI X tg iter di)(hg:∀cl s0 H0 ex,HG (blk X (lcN X.N js tg) scope cl s0 H0 ex) tg g)(ht:∀cl s0 H0 ex,HTs (blk X (lcN X.N js tg) scope cl s0 H0 ex) ifs tt)(he:∀cl s0 H0 ex,HE (blk X (lcN X.N js tg) scope cl s0 H0 ex) elt te)
  (B:oq X.env.scope.names X.N (lcN X.N js tg) nt js scope=true:=by kernel_rfl) (hc:X.calm=true:=by kernel_rfl) (hs:∀x,foldedSetIterable iter X.env x=pure x:=by intro _;kernel_rfl):HE X (.ListComp elt [⟨tg,iter,ifs,0⟩] scope pos) (dLC nt js di g tt te):=k_lc hi hg ht he B hc hs
def jq(hN:X.N.Nodup)(hi:HI X tg iter di)(hg:∀cl s0 H0 ex,HG (blk X (lcN X.N js tg) scope cl s0 H0 ex) tg g)(ht:∀cl s0 H0 ex,HTs (blk X (lcN X.N js tg) scope cl s0 H0 ex) ifs tt)(he:∀cl s0 H0 ex,HE (blk X (lcN X.N js tg) scope cl s0 H0 ex) elt te)
  (B:oq X.env.scope.names X.N (lcN X.N js tg) nt js scope=true:=by kernel_rfl) (hc:X.calm=true:=by kernel_rfl) (hs:∀x,foldedSetIterable iter X.env x=pure x:=by intro _;kernel_rfl) (hsw:swapsWith (.ListComp elt [⟨tg,iter,ifs,0⟩] scope pos) (some (.Name x pos')) pos2.line X.env=pure true:=by kernel_rfl)
  (hix:X.N[i]?=some x:=by kernel_rfl) (hx:GG X.env.scope x=true:=by kernel_rfl) (hf:X.fn x=true:=by kernel_rfl):HS X (.Assign [.Name x pos'] (.ListComp elt [⟨tg,iter,ifs,0⟩] scope pos) pos2) (ko nt js di g tt te i):=Cw hN hi hg ht he B hc hs hsw hix hx hf
def gA(h:HA X es t):HA X es t:=h
def gE(h:HE X e te):HE X e te:=h
def Ja(h:HE X (.Call a b c pos) te):HE X (.Call a b c pos) te:=h
def gIx(h:HE X (.Subscript a b pos) te):HE X (.Subscript a b pos) te:=h
def El(h:HE X (.Constant a b pos) te):HE X (.Constant a b pos) te:=h
def gT(h:HT X e tt):HT X e tt:=h
def gS{st:Stmt}{t:DTS}(h:HS X st t):HS X st t:=h
def gOp(h:HOp X f r):HOp X f r:=h
def gC(h:HC X f r):HC X f r:=h
def Av{b:List Stmt}{st:Stmt}{sts:List Stmt}{t:DTS}(h:b=st::sts)(q:HB X (st::sts) t):HB X b t:=h ▸ q
end
section
variable{P:Program}{w:World}{K:AA5}{mg:Str->Option Value}{base:Heap}{x:Str}{st:Stmt}{N ps:List Str}{k:Nat}{Pr:DSp}{B:List Str}{C:List (Str×Int)}{t:DTS}
def Cal.byD(T:TopB mg B C)(F:cy K mg x st ps)(Sc:FnScope N ps (ap st))(len:cE Pr ps)(der:TopB mg B C->N.Nodup->DerT P w K mg base k x N st t)(wp:∀ds M R,Pr ds M R->t (EE M R) (cC N ds) M):Cal P w K mg base (k+1) x ps Pr :=
 Cal.byH F Sc len (der T Sc.nd) wp
def CO(T:TopB mg B C)(F:Fun K x x st f fd)(Sc:FnScope N ps (ap st))(len:cE Pr ps)(der:TopB mg B C->N.Nodup->DerT P w K mg base k x N st t)(wp:∀ds M R,Pr ds M R->t (EE M R) (cC N ds) M):FnOk P w K mg base CX0 (k+1) f fd ps (spL K Pr) :=
 CN F Sc len (der T Sc.nd) wp
end
section
variable{prog:Program}{w:World}{A:Around}{E:Value->Shared->Prop}{s:Shared}
def ux(ho:s.heap.get? l=some o)(hc:o.cls=.type "list"\/o.cls=.type "tuple")(hd:o.data=.seq vs.toArray n)
  (h:Q vs { s with heap:=(s.heap.push (seqObj "list" #[] 0)).update s.heap.objs.size (ABJ (· ++ vs.toArray)) }) (hsz:vs.length<=sizeLine):wpAny (model prog w) A (collect (.ref l)) Q E s:=by
 rcases hc with hc | hc
 ·exact collect_list ⟨o,ho,hc,n,hd⟩ h hsz
 unfold collect;refine AA1 (wpAny_runValue (ABg entry_proto_collect' ?_));show wpAny _ _ (do again (.builtin "list.__iadd__" ⟨[<-newList [],.ref l],[]⟩)) _ _ s
 refine AA1 (AD7 (AA2 ⟨Code.quiet_builtin _ (by decide +kernel),ABg entry_list_iadd' ?_⟩) (AAX _))
 show wpAny _ _ (ACF (.ref s.heap.objs.size) (.ref l) (.ref s.heap.objs.size)) _ _ { s with heap:=s.heap.push (seqObj "list" #[] 0) }
 unfold ACF;have ho':(s.heap.push (seqObj "list" #[] 0)).get? l=some o:=AA3 _ ho;refine AA1 (ACe (T:="tuple") ⟨o,ho',hc⟩ ?_);have ht:(ADO "tuple" == ADO "tuple")=true:=by rfl
 rw[if_pos (by rw[ht];simp)]
 refine AA1 (AE4 ho' hd ?_);refine AA1 (AE4 (xs:=#[]) (n:=0) (AAA _ rfl) rfl ?_);rw[if_neg (by simp)]
 refine AA1 (AD8 (xs:=#[]) (n:=0) (AAA _ rfl) rfl ?_ (AAX _) (by show (#[]++vs.toArray).size<=sizeLine+1;simp only[Array.size_append,AAC,AAU];lia))
 refine AA2 ?_
 show wpAny (model prog w) A (do
   let o <-load s.heap.objs.size
   match o.data with
   | .seq xs _=>pure xs.toList
   | _=>unsupported "internal:collect") Q E { s with heap:=(s.heap.push (seqObj "list" #[] 0)).update s.heap.objs.size (ABJ (· ++ vs.toArray)) }
 refine AA1 (wpAny_load (ACY (AAA _ rfl) _) ?_);show wpAny _ _ (pure ((#[]:Array Value)++vs.toArray).toList) Q E _;rw[show ((#[]:Array Value)++vs.toArray).toList=vs by simp]
 exact AA2 h
variable{h₀:Heap}{L kS a:Addr}{m:Str->Option Value}{vs:List Value}
def EJ(hl:ks.length=vs.length)(h2:vs.length<2)(h:KatFin h₀ L m kS a ks e e1 vs (λs3=>P (.done (.ret .none)) s3) s) :
  wpAny (model prog w) A (ksk_end a false vs.toArray e1 (.ref kS) (ABl ks)) P E s:=by
 have hn2:vs.toArray.size<2:=by rw[AAC];exact h2
 unfold ksk_end;dsimp only;simp only[AAE,if_false];rw[if_pos hn2,if_pos hn2];refine AA1 (AA2 ?_);rw[StateT.run_pure];refine AA1 (AA2 ?_);dsimp only;refine kat_tail (out:=vs) ?_ (by lia) (by lia) rfl h
 show ((ABl ks).zip vs.toArray).map (·.2)=vs.toArray;match ks,vs,hl,h2 with
 | [],[],_,_=>simp
 | [k],[v],_,_=>simp
 | [],_::_,hl,_=>simp at hl
 | _::_,[],hl,_=>simp at hl
 | _::_::_,[_],hl,_=>simp at hl
 | _,_::_::_,_,h2=>simp at h2;lia
def EH{f:Value}{e1:Nat}{P:PySem.Fin->Shared->Prop}{Fin:List Value->Nat->Shared->Prop}(hk:s.heap.get? kS=some (seqObj "list" #[] 0))(h64:vs.length<64)
  (hend:∀ks e s',ks.length=vs.length->Fin ks e s'->wpAny (model prog w) A (ksk_end a false vs.toArray e1 (.ref kS) (ABl ks)) P E s') (h:KatKeys prog w A h₀ L m kS f Fin vs [] 0 s) :
  wpAny (model prog w) A (ksk_rest a f false vs.toArray e1 (.ref kS)) P E s:=by
 unfold ksk_rest;refine AA1 (AD5 ?_);first
  | rw[List.forIn_toArray]
  | (rw[<-ABj];simp only[List.toList_toArray])
  | rw[<-ABj]
 refine AA1 (ABF (kat_fold h64 (λx ks e s' C hz hx=>?_) vs [] 0 s (by simp) hk h) (λ_ s' hd=>?_) λ_ _ x=>x)
 ·refine AA1 (ACO (ABF hx (λk s'' hk=>?_) λ_ _ hF=>hF.elim))
  obtain⟨news',g,F',N',U,c⟩:=hk;obtain⟨pre,post,e0,hg,x1,x2⟩:=U.split;rw[e0]at N';have nk:=N' (kS,seqObj "list" (ABl ks) e) (AAI _ (.head _));have s1:=AAx s''.heap kS (ABJ (·.push k));have ea:(ABl ks).push k=ABl (ks++[k]):=by simp
  obtain⟨c2,hc2⟩:∃c2,(s''.heap.update kS (ABJ (·.push k))).get? kS=some (seqObj "list" (ABl (ks++[k])) c2):=⟨_,by rw[<-ea];exact ACY nk.1 (·.push k)⟩
  try dsimp only
  refine AA1 (AD8 nk.1 rfl ?_ (by rw[AAC,ABr];lia) (AAq (Nat.le_of_eq (Array.size_push ..)) (by rw[AAC,ABr];lia)))
  exact AA2 ⟨rfl,k,c2,hc2,c _ c2 (kas_fr F' s1 nk.2.1 nk.2.2) (by rw[hg];exact news_set N' x1 x2 s1 hc2)⟩
 ·obtain⟨ks,e,hk',hl,fin⟩:=hd
  try dsimp only
  exact AA1 (AE4 hk' rfl (hend ks e s' hl fin))
end
section
variable{X:Cx}{pins:List (Addr×Obj)}{σ:St}{H:Hp}{s:Shared}{a:Addr}
structure Own(X:Cx)(pins:List (Addr×Obj))(H:Hp)(a:Addr):Prop where
 un:H a=none
 ne:a≠X.env.locals
 fs:a∉X.fs
 s0:X.s₀.heap.objs.size<=a
 cl:∀x c,X.env.cells.lookup x=some c->c≠a
 pn:∀p∈X.pn++pins,p.1≠a
def Inv.own(I:Inv X pins σ H s)(h:s.heap.objs.size<=a):Own X pins H a :=
 ⟨I.hok.fresh h,λe=>by rw[e]at h;exact absurd (AAd I.lt h) (AAm _),I.nofs h,AAq I.sz h,λx c e z=>by
  obtain⟨v,o,ho,_⟩:=I.cell x c e;rw[z]at ho;exact absurd (AAd (AAF ho) h) (AAm _),λp hp e=>by
  have:=AAF (I.pin p hp).1;rw[e]at this;exact absurd (AAd this h) (AAm _)⟩
def Inv.turnF(I:Inv X pins σ H s)(w:Own X pins H a)(k:∀b u,b≠X.env.locals->b≠a->s.heap.get? b=some u->h'.get? b=some u)(hn:s.heap.Ns X.env.locals m)(hn':h'.Ns X.env.locals m):Inv X pins σ H { s with heap:=h' }:=by
 have na:∀b u,H b=some u->b≠a:=λb u e=>ad e w.un
 refine I.step (g':=s.gens) (d':=s.drawn) (t':=s.toks) (ch:=[a]) (λb hb=>?_) (λb u hL _ hc e _=>k b u hL (by simpa using hc) e) (λb u hL _ hc e _=>⟨u.slots,k b u hL (by simpa using hc) e⟩) (λb u _ e n=>n) (λb u hc e=>?_)
  (λb xs q=>q) (λb u xs q=>q) (λb ps q=>⟨#[],by rw[q];simp⟩) (λm' hm=>?_) (λb u q=>?_) I.bare
 ·obtain rfl:b=a:=by simpa using hb
  exact⟨.inr w.s0,w.ne,w.cl,w.pn⟩
 ·by_cases hb:b=X.env.locals
  ·subst hb
   obtain⟨o',_,_,ho,_⟩:=hn';exact⟨o',ho⟩
  ·exact⟨u,k b u hb (by simpa using hc) e⟩
 ·have:m=m':=funext λx=>hn.agree hm x
  subst this;exact hn'
 ·refine(I.hok b u q).stay (λc v hc r=>k c v ?_ ?_ r) (λc z=>z) λc xs z=>z
  ·rcases hc with rfl | hc
   ·exact ad q I.free
   ·exact ad hc I.free
  ·rcases hc with rfl | hc
   ·exact na _ _ q
   ·exact na _ _ hc
def Inv.adoptF(I:Inv X pins σ H s)(w:Own X pins H a)(k:∀b u,b≠X.env.locals->b≠a->s.heap.get? b=some u->h'.get? b=some u)(hn:s.heap.Ns X.env.locals m)(hn':h'.Ns X.env.locals m)
  (new:cL X.prog X.w (upd H a o) h' a o):Inv X pins σ (upd H a o) { s with heap:=h' }:=by
 have fa:=w.un;refine I.step (g':=s.gens) (d':=s.drawn) (t':=s.toks) (ch:=[a]) (λb hb=>?_) (λb u hL _ hc e _=>k b u hL (by simpa using hc) e) (λb u hL _ hc e _=>⟨u.slots,k b u hL (by simpa using hc) e⟩) (λb u hc e n=>by rw[ah (by simpa using hc)];exact n) (λb u hc e=>?_)
  (λb xs q=>by rw[ah (ad q fa)];exact q) (λb u xs q=>by rw[ah (ad q fa)];exact q) (λb ps q=>⟨#[],by rw[ah (ad q fa),q];simp⟩) (λm' hm=>?_) (λb u q=>?_) I.bare
 ·obtain rfl:b=a:=by simpa using hb
  exact⟨.inr w.s0,w.ne,w.cl,w.pn⟩
 ·by_cases hb:b=X.env.locals
  ·subst hb
   obtain⟨o',_,_,ho,_⟩:=hn';exact⟨o',ho⟩
  ·exact⟨u,k b u hb (by simpa using hc) e⟩
 ·have:m=m':=funext λx=>hn.agree hm x
  subst this;exact hn'
 ·by_cases hb:b=a
  ·subst hb
   rw[aJ]at q;cases q
   exact new
  ·rw[ah hb]at q
   refine(I.hok b u q).stay (λc v hc r=>k c v ?_ ?_ r) (λc z=>by rw[ah (ad z fa)];exact z) λc xs z=>by rw[ah (ad z fa)];exact z
   ·rcases hc with rfl | hc
    ·exact ad q I.free
    ·exact ad hc I.free
   ·rcases hc with rfl | hc
    ·exact ad q fa
    ·exact ad hc fa
end
section
variable{X:Cx}{pins:List (Addr×Obj)}{σ:St}{ρ:List Addr}{M:Mem}
structure KySt(X:Cx)(pins:List (Addr×Obj))(σ:St)(ρ:List Addr)(M:Mem)(m:Str->Option Value)(kS aD:Addr)(e1:Nat)(H0 H:Hp)(s:Shared)(ks:List Value)(e:Nat):Prop where
 inv:Inv X pins σ H s
 ns:s.heap.Ns X.env.locals m
 sm:Sim X.K ρ M H
 gr:Grow X.K ρ H0 ρ H
 hk:s.heap.get? kS=some (seqObj "list" (ABl ks) e)
 hd:s.heap.get? aD=some (seqObj "list" #[] e1)
 ok:Own X pins H kS
 od:Own X pins H aD
 ne:aD≠kS
def FQ(n:h.Ns L m):Fr (Att.noObjs h0) L h m :=
 ⟨n,λb o e=>(by rw[Att.noObjs_get]at e;cases e),AAX _⟩
def tR(hne:d≠L)(ho:h.get? d=some od):News (Att.noObjs h0) L h ((d,od)::Att.ledger h L d):=by
 rintro⟨a,o⟩ hp;rcases AAQ.mp hp with e | hp
 ·cases e
  exact⟨ho,hne,Att.noObjs_get _ _⟩
 ·obtain⟨n1,n2,e⟩:=Att.mem_ledger.mp hp
  exact⟨e,n1,Att.noObjs_get _ _⟩
def ma(N:News (Att.noObjs h0) L h' ((d,o)::Att.ledger h L d)):∀b u,b≠L->b≠d->h.get? b=some u->h'.get? b=some u :=
 λb u h1 h2 e=>(N (b,u) (AA9 _ (Att.mem_ledger.mpr ⟨h1,h2,e⟩))).1
abbrev KeyG(X:Cx)(pins:List (Addr×Obj))(σ:St)(ρ:List Addr)(M:Mem)(f:Addr)(key:D->D)(xs:List D):Prop:=∀(s:Shared) (H:Hp) (d:D) (v:V) (u:Value),d∈xs->Inv X pins σ H s->Sim X.K ρ M H->Rep X.K ρ H d v->aU v u ->
 codeAny (model X.prog X.w) X.A.in1.in1 (.call (.ref f) ⟨[u],[]⟩) (CR CX0 X.stack X.prog X.w H s (λv' H'=>VQ X.K ρ H (λx M'=>x=key d/\M'=M) v' H') E0) s
def EI{f:Addr}{key:D->D}{xs:List D}(G:KeyG X pins σ ρ M f key xs){h0:Heap}{m:Str->Option Value}{aD kS:Addr}{e1:Nat}{H0:Hp}
  {Fin:List Value->Nat->Shared->Prop}{keys:List D} (fin:∀H s kvs ks e,KySt X pins σ ρ M m kS aD e1 H0 H s ks e->Reps X.K ρ H keys kvs->aw kvs ks->Fin ks e s) :
  ∀(r:List D) (ws:List V) (its:List Value) (done:List D) (kvs:List V) (ks:List Value) (e:Nat) (H:Hp) (s:Shared),KySt X pins σ ρ M m kS aD e1 H0 H s ks e->Reps X.K ρ H r ws->aw ws its->Reps X.K ρ H done kvs->aw kvs ks ->
   done++r.map key=keys->(∀d∈r,d∈xs)->KatKeys X.prog X.w X.A.in1.in1 (Att.noObjs h0) X.env.locals m kS (.ref f) Fin its ks e s:=by
 intro r;induction r with
 | nil =>
  intro ws its done kvs ks e H s g r v rd vd hk _;obtain rfl:=Reps.inv_nil r;obtain rfl:=aw.inv_nil v;refine KatKeys.nil (fin H s kvs ks e g ?_ vd);rw[<-hk,List.map_nil,AB7];exact rd
 | cons d r ih =>
  intro ws its done kvs ks e H s g rr v rd vd hk hP;obtain⟨vd1,ws,rfl,r1,rr⟩:=Reps.inv_cons rr;obtain⟨u,its,rfl,ru,v⟩:=aw.inv_cons v;have I:=g.inv;refine KatKeys.cons (wpAny_call (ADP (G s H d vd1 u (hP d AAG) I g.sm r1 ru) λres s' hq=>?_))
  cases res with
  | error e=>exact hq.elim
  | ok fl =>
   cases fl with
   | next=>exact hq.elim
   | brk=>exact hq.elim
   | cont=>exact hq.elim
   | ret u' =>
    obtain⟨v',H',os,bare,un,hok,rv,q⟩:=hq;obtain⟨hh,gg,dr,tk,os'⟩:=s';obtain rfl:os'=s.os:=os;obtain⟨_,_,ρ',s1,g1,r1',rfl,rfl⟩:=q;have eρ:ρ'=ρ:=by
     obtain⟨t,rfl⟩:=g1.pre;have h1:=s1.len;have h2:=g.sm.len;rw[AAB]at h1;rw[ACk (show t.length=0 by lia),AB7]
    subst eρ;have J:Inv X ((kS,seqObj "list" (ABl ks) e)::(aD,seqObj "list" #[] e1)::pins) σ H s:=I.pins_of λp hp=>by
     rcases AAQ.mp hp with rfl | hp
     ·exact⟨g.hk,g.ok.un,g.ok.ne,g.ok.fs,λ_ z=>nomatch z⟩
     ·rcases AAQ.mp hp with rfl | hp
      ·exact⟨g.hd,g.od.un,g.od.ne,g.od.fs,λ_ z=>nomatch z⟩
      ·exact I.pin p (AAI _ hp)
    have J':=J.call (h':=hh) (g':=gg) (d':=dr) (t':=tk) (ch:=[]) un hok bare (λb z=>absurd z (by simp))
    have pk:=J'.pin (kS,_) (AAI _ AAG);have pd:=J'.pin (aD,_) (AAI _ (AA9 _ AAG));have I':Inv X pins σ H' ⟨hh,gg,dr,tk,s.os⟩:=J'.pins_of λp hp=>J'.pin p (AAI _ (AA9 _ (AA9 _ hp)))
    have ns':hh.Ns X.env.locals m:=by
     obtain⟨o,es,ep,ho,bc⟩:=g.ns;obtain⟨sl,hL⟩:=un.any ho I.free (by simp)
     exact⟨_,es,ep,hL,bc⟩
    have ok':Own X pins H' kS:=⟨pk.2.1,g.ok.ne,g.ok.fs,g.ok.s0,g.ok.cl,g.ok.pn⟩;have od':Own X pins H' aD:=⟨pd.2.1,g.od.ne,g.od.fs,g.od.s0,g.od.cl,g.od.pn⟩;refine KatBack.intro (s:=⟨hh,gg,dr,tk,s.os⟩) (FQ ns') (tR ok'.ne pk.1) (UpdF.head λp hp=>(Att.mem_ledger.mp hp).2.1) λh2 c F2 N2=>?_
    have kp:=ma N2;refine ih ws its (done++[key d]) (kvs++[v']) (ks++[u']) c H' _ ⟨I'.turnF ok' kp ns' F2.ns,F2.ns,s1,⟨g.gr.pre,λx xs h=>g1.tup x xs (g.gr.tup x xs h)⟩,(N2 _ AAG).1,kp aD _ od'.ne g.ne pd.1,ok',od',g.ne⟩ (rr.grow g1) v
     ((rd.grow g1).append (.cons r1' .nil)) (vd.append (.cons rv .nil)) (by rw[<-hk,AAf,AAg];rfl) λx hx=>hP x (AA9 _ hx)
def vN{k n:Nat}{f l:Addr}{o:Obj}{s:Shared}{H:Hp}{xs:List D}{ws:List V}{its:List Value}{key:D->D}{R:VK}(G:KeyG X pins σ ρ M f key xs)(hr:Room (k+2) X.A)
  (I:Inv X pins σ H s) (sm:Sim X.K ρ M H) (r:Reps X.K ρ H xs ws) (rr:aw ws its) (ho:s.heap.get? l=some o) (hc:o.cls=.type "list"\/o.cls=.type "tuple") (hd:o.data=.seq its.toArray n) (h64:its.length<64) (so:SrtG M (xs.map key)) (kk:∀v H',(∀Q:DK,(∀ys,ys.Perm xs->ys.Pairwise (λa b=>ltD M eqN (key b) (key a)=false)->Q (.ref M.length) (M++[.lst ys]))->VQ X.K ρ H Q v H')->R v H') :
  wpAny (model X.prog X.w) X.A (call (.builtin "sorted") [.ref l] [(AA0 "key",.ref f)]) (EP X pins σ R) X.xe s:=by
 have lw:=r.length;have li:=rr.length;have few:its.length<=sizeLine:=by rw[ABr];lia
 refine call_function_entry_kw kind_sorted plain_sorted entry_sorted (ksk_s1 _ _) ?_
 unfold Builtin.«sorted»;refine AA1 (m:=checkCount "sorted" 1 1 _) (AA2 (AA1 (ux ho hc hd (AA1 (AD7 ?_ few)) few)));generalize hg:((s.heap.push (seqObj "list" #[] 0)).update s.heap.objs.size (ABJ (· ++ its.toArray)))=g1;have hsz:g1.objs.size=s.heap.objs.size+1:=by rw[<-hg,Heap.size_update,size_push']
 have k1:∀b o,s.heap.get? b=some o->g1.get? b=some o:=λb o q=>by
  have hlt:=AAF q;rw[<-hg,ABt _ _ _ _ (AAN hlt),Heap.get?_push_ne _ _ _ (AAN hlt)];exact q
 show wpAny _ _ _ _ _ { s with heap:=g1.push (seqObj "list" its.toArray 0) }
 have hoL:(g1.push (seqObj "list" its.toArray 0)).get? g1.objs.size=some (seqObj "list" its.toArray 0):=AAA _ rfl;refine AA1 (AAr (wpAny_call_entry_kw slot_list_sort (⟨_,hoL,rfl⟩) entry_list_sort ?body (ksk_l1 _ _)))
 case body =>
  show wpAny (model X.prog X.w) X.A.in1.in1 (Builtin.«list.sort» ⟨[.ref g1.objs.size],[(AA0 "key",.ref f)]⟩) _ _ _;rw[ksk_t1];unfold ksk_tree;refine AA1 (AE4 hoL rfl (AA1 (AD8 hoL rfl ?_ (by rw[AAC];exact few) (AAX _))))
  obtain⟨e1,ho1⟩:∃e1,((g1.push (seqObj "list" its.toArray 0)).update g1.objs.size (ABJ λ_=>(#[]:Array Value))).get? g1.objs.size=some (seqObj "list" #[] e1):=⟨_,ACY hoL λ_=>#[]⟩
  refine AA1 (seqEpoch_at ho1 rfl (AA1 (wpAny_newTuple (AA1 (AD7 (AAr ?_) (AAX _))) few)));have k2:∀b o,s.heap.get? b=some o->((g1.push (seqObj "list" its.toArray 0)).update g1.objs.size (ABJ λ_=>(#[]:Array Value))).get? b=some o:=λb o q=>by
   rw[ABt _ _ _ _ (AAN (by rw[hsz];exact ABs (AAF q)))]
   exact AA3 _ (k1 b o q)
  have hsz2:((g1.push (seqObj "list" its.toArray 0)).update g1.objs.size (ABJ λ_=>(#[]:Array Value))).objs.size=g1.objs.size+1:=by rw[Heap.size_update,size_push']
  generalize ((g1.push (seqObj "list" its.toArray 0)).update g1.objs.size (ABJ λ_=>(#[]:Array Value)))=g2 at ho1 k2 hsz2 ⊢
  dsimp only;have k3:∀b o,g2.get? b=some o->((g2.push (seqObj "tuple" its.toArray 0)).push (seqObj "list" #[] 0)).get? b=some o:=λb o q=>AA3 _ (AA3 _ q)
  have hk3:((g2.push (seqObj "tuple" its.toArray 0)).push (seqObj "list" #[] 0)).get? (g2.push (seqObj "tuple" its.toArray 0)).objs.size=some (seqObj "list" #[] 0):=AAA _ rfl;have hsz3:(g2.push (seqObj "tuple" its.toArray 0)).objs.size=g2.objs.size+1:=size_push' _ _;generalize (g2.push (seqObj "tuple" its.toArray 0)).objs.size=kS at hk3 hsz3 ⊢;generalize ((g2.push (seqObj "tuple" its.toArray 0)).push (seqObj "list" #[] 0))=g3 at hk3 k3 ⊢;generalize g1.objs.size=aD at ho1 hsz hsz2 ⊢;obtain⟨m,hn,_⟩:=I.loc;have st:KySt X pins σ ρ M m kS aD e1 H H { s with heap:=g3 } [] 0 :=
   ⟨I.kept (t':=s.toks) λb o q=>k3 b o (k2 b o q),(by obtain⟨o',es,ep,ho',bc⟩:=hn;exact⟨o',es,ep,k3 _ _ (k2 _ _ ho'),bc⟩),sm,.refl,hk3,k3 _ _ ho1,I.own (by rw[hsz3,hsz2,hsz];exact ADM _ 3),I.own (by rw[hsz];exact ADM _ 1),by rw[hsz3,hsz2];exact AAN (Nat.lt_add_of_pos_right (by decide:0<2))⟩
  have hr2:Room k X.A.in1.in1:=(Room.in1 (k:=k+1) hr).in1;refine EH (h₀:=Att.noObjs s.heap) (L:=X.env.locals) (m:=m) (Fin:=λks e s'=>∃H' kvs,KySt X pins σ ρ M m kS aD e1 H H' s' ks e/\Reps X.K ρ H' (xs.map key) kvs/\aw kvs ks) hk3 h64 (λks e s' hl ⟨H',kvs,g,rk,vk⟩=>?_)
   (EI G (λH' s' kvs ks e g r v=>⟨H',kvs,g,r,v⟩) xs ws its [] [] [] 0 H _ st r rr .nil .nil rfl λ_ q=>q)
  have fin:∀ys zs out,Reps X.K ρ H' ys zs->aw zs out->ys.Perm xs->ys.Pairwise (λa b=>ltD M eqN (key b) (key a)=false)->KatFin (Att.noObjs s.heap) X.env.locals m kS aD ks e e1 out (λs4=>EP X pins σ R (.ref aD) s4) s':=λys zs out ry vy hp hw=>by
   refine KatFin.intro (FQ g.ns) (tR g.ok.ne g.hk) (UpdF.head λp hp=>(Att.mem_ledger.mp hp).2.1) λh2 c F2 N2=>?_
   have kp:=ma N2;refine KasFin.intro (s:={ s' with heap:=h2 }) (FQ F2.ns) (tR g.od.ne (kp aD _ g.od.ne g.ne g.hd)) (UpdF.head λp hp=>(Att.mem_ledger.mp hp).2.1) λh3 c3 F3 N3=>?_
   refine⟨.ref aD,_,(g.inv.turnF g.ok kp g.ns F2.ns).adoptF (o:=.lst zs) g.od (ma N3) F2.ns F3.ns ⟨?_,out,c3,vy,(N3 _ AAG).1⟩,rfl,kk _ _ λQ hQ=>VQ.laidL g.sm g.gr ry g.od.un (hQ ys hp hw)⟩
   rw[<-ry.length,hp.length_eq,lw,li];exact few
  by_cases h2:its.length<2
  ·refine EJ (hl) h2 ((fin xs ws its (r.grow g.gr) rr (ACm _) ?_).mono λs4 hq=>⟨_,rfl,AA2 ⟨_,rfl,hq⟩⟩)
   match xs,(show xs.length<2 by lia) with
   | [],_=>exact AD3
   | [x],_=>exact ADe _ _
   | _::_::_,hx=>simp at hx;lia
  ·have h2':2<=its.length:=by lia
   refine kat_end (b:=false) (h₀:=Att.noObjs s.heap) (L:=X.env.locals) (m:=m) (e:=e) hl h2' h64 ?_
   have hu:X.A.in1.in1.units+eqN<cLine:=by
    have:=hr.un;have:eqN=30:=rfl;show X.A.units+1+1+eqN<cLine;lia
   have kl:ks.length=xs.length:=by lia
   refine ABF (lG g.inv g.sm so rk vk (by lia) hu) (λκ s'' hk=>?_) λ_ _ x=>x
   obtain⟨rfl,hask⟩:=hk;show (ADz its.length).kasWp (kas_ask X.prog X.w X.A.in1.in1 κ ks) (λp s3=>KatFin (Att.noObjs s.heap) X.env.locals m kS aD ks e e1 (p.toList.map λi=>its.getD i AC3) _ s3) _
   have kget:∀i,i<xs.length->(xs.map key).getD i default=key (xs.getD i default):=λi hi=>by
    rw[AAL,AAL,AAR,AA6 hi];rfl
   refine Srt.wp_run (n:=its.length) (c:=λi j=>if i<xs.length then(if j<xs.length then ltD M eqN (key (xs.getD i default)) (key (xs.getD j default))else true)else false) (λi j C hi hj hc=>?_) _ (Srt.sort_bd (by lia)).1 ?_
   ·refine hask i j C (by lia) (by lia) ?_
    rw[if_pos (by lia),if_pos (by lia)]at hc
    unfold ltc;rw[kget i (by lia),kget j (by lia)]
    exact hc
   ·have hent:=Srt.All.run (c:=λi j=>if i<xs.length then(if j<xs.length then ltD M eqN (key (xs.getD i default)) (key (xs.getD j default))else true)else false) _ (Srt.sort_bd (n:=its.length) (by lia)).2
    obtain⟨o1,o2,o3⟩:=Fk so;have hm:∀x∈xs,key x∈xs.map key:=λx hx=>AB2 hx
    have hsl:=Srt.sort_list (lt:=λa b=>ltD M eqN (key a) (key b)) xs (by lia) (λa ha=>o1 _ (hm a ha)) (λa ha b hb d hd=>o2 _ (hm a ha) _ (hm b hb) _ (hm d hd)) (λa ha b hb d hd=>o3 _ (hm a ha) _ (hm b hb) _ (hm d hd))
    try dsimp only at hsl
    rw[show xs.length=its.length by lia]at hsl hent ⊢
    generalize Srt.run _ (ADz its.length)=p at hent hsl ⊢;have hi:∀i∈p.toList,i<xs.length:=λi h=>by
     have:=hent.mem_iff.mp h;rw[AAz]at this;lia
    exact(fin _ _ _ ((r.grow g.gr).perm p.toList hi) (rr.perm p.toList λi h=>by have:=hi i h;lia) hsl.1 hsl.2).mono λs4 hq=>⟨_,rfl,AA2 ⟨_,rfl,hq⟩⟩
end
structure BlkScC(X:Cx)(N':List Str)(nt:Nat)(js:List Nat)(scope:Scope):Prop where
 kind:scope.kind=.function
 kinds:∀y∈scope.names,scope.names.lookup y.1=some y.2
 free:∀y∈scope.names,y.2=.free->(X.env.kindOf y.1=some .cell\/X.env.kindOf y.1=some .free)
 len:N'.length=nt+js.length
 fr:∀(k j:Nat),js[k]?=some j->∃x,N'[nt+k]?=some x/\X.N[j]?=some x/\scope.names.lookup x=some .free/\(X.env.kindOf x=some .cell\/X.env.kindOf x=some .free)
structure CfOk(h:Heap)(k:Nat)(names:List (Str×NameKind))(acc cs:List (Str×Addr)):Prop where
 look:∀z c,cs.lookup z=some c->(acc.lookup z=some c/\(z,ACg)∉names)\/((z,ACg)∈names/\k<=c/\h.IsCell c none)
 inj:∀y z c,cs.lookup y=some c->cs.lookup z=some c->y=z
 old:∀z c,acc.lookup z=some c->∃c',cs.lookup z=some c'
 new:∀z,(z,ACg)∈names->∃c,cs.lookup z=some c
def Gg(i:Nat):DTG:=am i
section
variable{K:AA5}{ρ:List Addr}{H:Hp}
def kX:∀{kvs:List (Str×D)}{vs:List V},Reps K ρ H (kvs.map (·.2)) vs->gx kvs k=none->yf (kK (kvs.map (·.1)) vs) (ABY k)=none
 | [],_,_,_=>by rfl
 | (k',d')::kvs,_,.cons (v:=v) (vs:=vs) h t,e=>by
  have hk:k'≠k:=λz=>by subst z;simp[gx]at e
  have e':gx kvs k=none:=by
   have:gx ((k',d')::kvs) k=gx kvs k:=by simp[gx,hk]
   rw[<-this];exact e
  have q:=kX t e';show yf ((ABY k',v)::kK (kvs.map (·.1)) vs) (ABY k)=none;rw[uI (λz=>hk (by injection z))]
  exact q
end
section
variable{X:Cx}{o:Expr}{pos:Pos}{k:Nat}{name:Str}{id:String}{e:Expr}{es:List Expr}{to:DTE}{t:DTA}{apos cpos:Pos}
def dMk(r:Nat->DRA)(to:DTE)(t:DTA):DTE:=λS M Q=>to S M λx M1=>match x with
 | .ref n=>(∃kvs,M1[n]?=some (.dct kvs))/\t S M1 λds M2=>r n ds M2 Q
 | _=>False
theorem d_mk(slot:Slot "dict" name id)(hty:typeOf (.builtin id)=pure (.type "method_descriptor"))(hm:MtR X id (pe X.K r))(ho:DE X o to)(ha:DA X (e::es) t)
  (hbase:attributeBase o name X.env (eval o X.env)=eval o X.env:=by rfl)
  (hfew:((backTo cpos (starEach (e::es) X.env)).all (λx=>!x.1)&&(backToKw cpos (keywordEach [] X.env)).all (λx=>x.1.isSome)
   && decide ((e::es).length+([]:List Keyword).length+(if ([]:List Keyword).isEmpty then 0 else 1)<30))=true:=by rfl)
  (hline:(apos.endLine==cpos.line)=true:=by rfl) (hs:starEach (e::es) X.env=(false,eval e X.env)::starEach es X.env:=by rfl) (hplain:(backTo cpos (starEach es X.env)).any (·.1)=false:=by rfl) :
  DE X (.Call (.Attribute o name apos) (e::es) [] cpos) (dMk r to t):=by
 intro pins s σ H R I ⟨S,M,ρ,Q,sm,sr,q,kk⟩;refine ADk hbase hfew hline rfl (thn (ho pins s σ H _ I ⟨S,M,ρ,_,sm,sr,q,λv H' z=>z⟩) λu s1 ⟨v,H1,I1,rv,x,M1,ρ1,sm1,g1,r1,q1⟩=>?_)
 cases r1 with
 | @ref n a hn =>
  cases rv
  obtain⟨⟨kvs,hM⟩,q1⟩:=(show (∃kvs,M1[n]?=some (.dct kvs))/\t S M1 _ from q1);obtain⟨ws,hH,_⟩:=sm1.obj _ _ _ hn hM;obtain⟨z1,z2,pvs,rel,dd⟩:=Ge I1.hok hH;refine⟨"dict",id,ACj,slot,hty,dd.typeIs,λb z=>?_,?_⟩
  ·cases z
   obtain⟨ob,_,_,h1,h2,_⟩:=dd;exact⟨ob,h1,h2.2.1⟩
  ·have hA:=ha cpos pins s1 σ H1 _ I1 ⟨S,M1,ρ1,_,sm1,sr.grow g1,q1,λvs H' z=>z⟩
   rw[hs]at hA ⊢;refine ACG (by show (false||(backTo cpos (starEach es X.env)).any (·.1))=false;rw[hplain]<;>rfl) (AEA ?_)
   exact thn hA λus s2 ⟨vs,H2,I2,rvs,ds,M2,ρ2,sm2,g2,rr,q2⟩=>hm pins s2 σ H2 (.ref a) vs (.ref a) us R I2 rfl rvs ⟨n,a,ds,M2,ρ2,Q,rfl,aF g2.pre hn,sm2,rr,q2,λv H' w=>kk v H' (VQ.trans (g1.trans g2) w)⟩
 | _=>exact q1.elim
def vS(n:Nat):DRA:=λds M Q=>match ds with
 | [.str x,d]=>∃kvs,M[n]?=some (.dct kvs)/\Q ((gx kvs x).getD d) M
 | _=>False
def Ci:MtR X "dict.get" (pe X.K vS):=by
 intro pins s σ H x xs v us R I rx rs ⟨n,a,ds,M,ρ,Q,ez,hn,sm,rr,q,kk⟩;unfold vS at q;split at q
 ·rename_i x d
  obtain⟨kvs,hM,q⟩:=q;have hzz:=Reps.inv_cons rr;clear rr;obtain⟨_,_,rfl,r1,rr⟩:=hzz;have hzz:=Reps.inv_cons rr;clear rr;obtain⟨_,_,rfl,r2,rr⟩:=hzz;obtain rfl:=Reps.inv_nil rr;obtain rfl:=Rep.inv_str r1;obtain⟨u1,u2,rfl,e1,e2⟩:=aw.two rs;subst ez;obtain rfl:v=ABn a:=rx;obtain⟨ws,hH,r⟩:=sm.obj _ _ _ hn hM;obtain⟨z1,z2,pvs,rel,dd⟩:=Ge I.hok hH;refine call_meetsIn ACz dd.typeIs PySem.F.entry_dict_get (PySem.F.args_dict_get_3 _ _ _) (meets_dict_get_default (dL X.prog X.w) a (IG (k:=ABY x) e1) z2 u2) ⟨_,dd.mapOf,?_⟩;cases hv:gx kvs x with
  | none =>
   rw[hv]at q;exact⟨_,H,I.tok _,(by have:=(rel.val (ABY x)).getD e2;rw[kX r hv]at this;exact this),kk _ _ ⟨d,M,ρ,sm,.refl,r2,q⟩⟩
  | some d' =>
   rw[hv]at q;obtain⟨w',e3,rw'⟩:=kF r hv;exact⟨_,H,I.tok _,(by have:=(rel.val (ABY x)).getD e2;rw[e3]at this;exact this),kk _ _ ⟨d',M,ρ,sm,.refl,rw',q⟩⟩
 ·exact q.elim
def vR(n:Nat):DRA:=λds M Q=>match ds with
 | [.str x,d]=>∃kvs,M[n]?=some (.dct kvs)/\kvs.length<sizeLine/\(∀y,gx kvs x=some y->Q y M)/\(gx kvs x=none->Q d (M.set n (.dct (pU kvs x d))))
 | _=>False
def Ch:MtR X "dict.setdefault" (pe X.K vR):=by
 intro pins s σ H x xs v us R I rx rs ⟨n,a,ds,M,ρ,Q,ez,hn,sm,rr,q,kk⟩;unfold vR at q;split at q
 ·rename_i x d
  obtain⟨kvs,hM,hl,q1,q2⟩:=q;have hzz:=Reps.inv_cons rr;clear rr;obtain⟨_,_,rfl,r1,rr⟩:=hzz;have hzz:=Reps.inv_cons rr;clear rr;obtain⟨_,vd,rfl,r2,rr⟩:=hzz;obtain rfl:=Reps.inv_nil rr;obtain rfl:=Rep.inv_str r1;obtain⟨u1,u2,rfl,e1,e2⟩:=aw.two rs;subst ez;obtain rfl:v=ABn a:=rx;obtain⟨ws,hH,r⟩:=sm.obj _ _ _ hn hM;obtain⟨z1,z2,pvs,rel,dd⟩:=Ge I.hok hH;refine call_meetsIn PySem.F.slot_dict_setdefault dd.typeIs PySem.F.entry_dict_setdefault (PySem.F.args_dict_setdefault_3 _ _ _) (kt_meets_setdefault (dL X.prog X.w) a (IG (k:=ABY x) e1) z2 u2) ⟨pvs,dd,by rw[<-rel.length];exact z1,λw' hw=>?_,λhw h' dd' sb=>?_⟩
  ·cases hv:gx kvs x with
   | none =>
    have:=rel.val (ABY x);rw[kX r hv,hw]at this;exact this.elim
   | some d' =>
    obtain⟨w0,e3,rw'⟩:=kF r hv;have:=rel.val (ABY x);rw[e3,hw]at this;exact⟨_,H,I.tok _,this,kk _ _ ⟨d',M,ρ,sm,.refl,rw',q1 _ hv⟩⟩
  ·cases hv:gx kvs x with
   | some d' =>
    obtain⟨w0,e3,rw'⟩:=kF r hv;have:=rel.val (ABY x);rw[e3,hw]at this;exact this.elim
   | none =>
    obtain⟨vs',f1,rr'⟩:=ET (k:=x) r2 r;obtain⟨w1,w2⟩:=sm.writeD hn hM hH rr';have he:∃q,h'.get? a=some q:=let ⟨q,_,_,hq,_⟩:=dd';⟨q,hq⟩
    have lw:=r.length;have kv':KV (kK ((pU kvs x d).map (·.1)) vs') (stored pvs (ABY x) u2):=by rw[<-f1];exact rel.put (ABY x) e2
    have ln:(kK ((pU kvs x d).map (·.1)) vs').length<=sizeLine:=by
     have l1:=rr'.length;have l2:(pU kvs x d).length<=kvs.length+1:=by
      unfold pU;split<;>simp
     rw[AA4]at l1;rw[kK,AA4,List.length_zip,AA4];lia
    exact⟨_,_,AJ I (by rw[hH];exact True.intro) sb he (Js ln z2 kv' dd'),e2,kk _ _ ⟨d,_,ρ,w1,w2,r2.grow w2,q2 hv⟩⟩
 ·exact q.elim
def Ai(ho:HE X o to)(ha:HA X (e::es) t)(hbase:attributeBase o "get" X.env (eval o X.env)=eval o X.env:=by kernel_rfl)
  (hfew:((backTo cpos (starEach (e::es) X.env)).all (λx=>!x.1)&&(backToKw cpos (keywordEach [] X.env)).all (λx=>x.1.isSome)
   && decide ((e::es).length+([]:List Keyword).length+(if ([]:List Keyword).isEmpty then 0 else 1)<30))=true:=by kernel_rfl)
  (hline:(apos.endLine==cpos.line)=true:=by kernel_rfl) (hs:starEach (e::es) X.env=(false,eval e X.env)::starEach es X.env:=by kernel_rfl) (hplain:(backTo cpos (starEach es X.env)).any (·.1)=false:=by kernel_rfl) :
  HE X (.Call (.Attribute o "get" apos) (e::es) [] cpos) (dMk vS to t):=⟨d_mk ACz PySem.F.type_dict_get Ci ho.ok ha.ok hbase hfew hline hs hplain⟩
def Ah(ho:HE X o to)(ha:HA X (e::es) t)(hbase:attributeBase o "setdefault" X.env (eval o X.env)=eval o X.env:=by kernel_rfl)
  (hfew:((backTo cpos (starEach (e::es) X.env)).all (λx=>!x.1)&&(backToKw cpos (keywordEach [] X.env)).all (λx=>x.1.isSome)
   && decide ((e::es).length+([]:List Keyword).length+(if ([]:List Keyword).isEmpty then 0 else 1)<30))=true:=by kernel_rfl)
  (hline:(apos.endLine==cpos.line)=true:=by kernel_rfl) (hs:starEach (e::es) X.env=(false,eval e X.env)::starEach es X.env:=by kernel_rfl) (hplain:(backTo cpos (starEach es X.env)).any (·.1)=false:=by kernel_rfl) :
  HE X (.Call (.Attribute o "setdefault" apos) (e::es) [] cpos) (dMk vR to t):=⟨d_mk PySem.F.slot_dict_setdefault PySem.F.type_dict_setdefault Ch ho.ok ha.ok hbase hfew hline hs hplain⟩
end
def BMain(mg:Str->Option Value)(base:Heap):Prop:=∃bm o,mg "__builtins__" = some (.ref bm)/\bm≠builtinsNs/\bm≠mainGlobals/\base.get? bm=some o/\o.cls=.type "module"/\o.dict=some builtinsNs/\o.data=.plain
def Self(X:Cx)(x:Str):Prop:=∃(f:Addr) (oc:Value) (od:Option Addr) (fd:FuncData) (sl:Array (Option Value)),X.mg x=some (.ref f)/\X.K.lookup f=some ⟨oc,od,.func fd,sl⟩/\X.env.code=fd.code
def Self.code(S:Self X x)(I:Inv X pins σ H s)(h:tabIn X.K x=some (c,P)):X.env.code=.ref c:=by
 obtain⟨f,oc,od,fd,sl,h1,h2,h3⟩:=S;unfold tabIn at h;split at h
 ·rename_i f' hf
  have e1:=mg_of I.mod.kin I.mod.glob hf;rw[h1]at e1;cases e1
  split at h
  ·rename_i e2
   rw[h2]at e2;cases e2
   split at h
   ·rename_i c' hc
    split at h
    ·split at h
     ·cases h
      rw[h3,hc]
     ·cases h
    ·cases h
   ·cases h
  ·cases h
 ·cases h
section
variable{K:AA5}{ρ:List Addr}{M:Mem}{H:Hp}
def SqT.writtenB(hp:H p=some (.tbl ps))(h:SqT K H a xs):SqT K (upd H p o) a xs:=by
 have ne:∀u,H a=some u->(∀q,u≠.tbl q)->a≠p:=λu e q z=>by
  rw[z,hp]at e;exact q ps (AAM e).symm
 rcases h with h | h
 ·rcases h with h | ⟨ob,h⟩
  ·exact .inl (.inl (by rw[ah (ne _ h λ_ z=>by cases z)];exact h))
  ·exact .inl (.inr ⟨ob,by rw[ah (ne _ h λ_ z=>by cases z)];exact h⟩)
 ·exact .inr h
def Sim.writeB(S:Sim K ρ M H)(e1:ρ[n]?=some a)(hM:M[n]?=some (.tb x b))(hH:H a=some (.tbl ps)) :
  Sim K ρ (M.set n (.tb x true)) (upd H a (.tbl ps'))/\Grow K ρ H ρ (upd H a (.tbl ps')):=by
 have g:Grow K ρ H ρ (upd H a (.tbl ps')):=⟨ACX,λ_ _ h=>SqT.writtenB hH h⟩
 have hk:∀m,m≠n->(M.set n (.tb x true))[m]?=M[m]?:=λm hm=>AAs (ABM hm)
 have notK:¬isK M[n]?:=λ⟨_,z⟩=>by rw[hM]at z;cases z
 refine⟨⟨λm m' b hne f1 f2=>?_,by rw[AB0];exact S.len,λm b' mo f1 f2=>?_⟩,g⟩
 ·have q:=S.nd m m' b hne f1 f2
  by_cases h1:m=n
  ·subst h1
   rw[hk m' (ABM hne)];exact .inr (q.resolve_left notK)
  ·rw[hk m h1]
   by_cases h2:m'=n
   ·subst h2
    exact .inl (q.resolve_right notK)
   ·rw[hk m' h2]
    exact q
 by_cases hm:m=n
 ·subst hm
  have hb:b'=a:=AAM (f1.symm.trans e1);subst hb;rw[AAo (by rw[<-S.len];exact(AA7.mp e1).1)]at f2
  cases f2
  exact⟨(S.obj m b' _ e1 hM).1,ps',aJ,λz=>by cases z⟩
 ·rw[hk m hm]at f2
  by_cases hb:b'=a
  ·subst hb
   have q':=(S.nd m n b' hm f1 e1).resolve_right notK;rw[f2]at q';exact(S.obj m b' mo f1 f2).grow g (.inr q')
  ·exact(S.obj m b' mo f1 f2).grow g (.inl (ah hb))
end
def FE{P:Program}{w:World}{K:AA5}{mg:Str->Option Value}{base:Heap}{A:Around}{outer:List Env}{s:Shared}{H:Hp}{k:Nat}{f c':Addr}{nm qual:Str}{params:Arguments}{body:Expr}{scope:Scope}{pm ctv:Value}{N ps:List Str}{te:DTE}
  {ρ:List Addr}{M:Mem}{d:D}{v:V}{u:Value}{R:DK} (e0:Env0 P w K mg base A outer s H) (ho:s.heap.get? f=some (kla_obj nm qual params body scope [] pm c' ctv)) (hcd:s.heap.CodeRec (.ref c') qual) (S:FnScope N ps scope) (hr:Room (k+1) A)
  (hb:BindsTo s (kla_fn nm qual params body scope [] pm (.ref c') ctv) ⟨[u],[]⟩ (ps.zip [u])) (hl:1=ps.length) (der:∀E,Room k (A.deeper (envOfC qual scope s.heap.objs.size f (.ref c')))->DE (sA CX0 P w K mg base N qual scope f (.ref c') A outer s H E).nox body te)
  (sm:Sim K ρ M H) (r:Rep K ρ H d v) (ru:aU v u) (hq:te (cC N [d]) M (bj M R)) :
  codeAny (model P w) A (.call (.ref f) ⟨[u],[]⟩) (CR CX0 outer P w H s (λv' H'=>VQ K ρ H R v' H') E0) s:=by
 have lim:s.heap.NoLimit:=e0.mod.nolimit.keeps λb o e=>(e0.bs b o e).1
 have hkind:∀y∈ps.zip [u],scope.names.lookup y.1=some .local\/(scope.names.lookup y.1=some .cell/\((cellsFrom (s.heap.objs.size+1) scope.names []).lookup y.1).isSome=true):=λ⟨n,v⟩ hy=>by
  rcases S.par n (AEG hy).1 with q | q
  ·exact .inl q
  ·exact .inr ⟨q,ADi _ _ _ (.inl q)⟩
 refine kla_callFunE hr.depth ho rfl S.co S.gen rfl hcd (hb _ _ _ _ ?_);refine wpAny_newFunctionEnv_cells S.kind hkind λenv he s1 x=>?_
 subst he;refine⟨lim.keeps x.toInCall.keep,kla_codeExpr ?_⟩;have I:Inv (sA CX0 P w K mg base N qual scope f (.ref c') A outer s H E0) [] (start N [v]) H s1:=rS S hr.hd e0 hl (.cons ru .nil) x;have dd:=PE.nox (der E0 (hr.deeper _));refine ABF (dd [] s1 (start N [v]) H (λv' H'=>VQ K ρ H (bj M R) v' H') I ⟨cC N [d],M,ρ,_,sm,SRep.start (.cons r .nil) N,hq,λ_ _ z=>z⟩) (λu' s' hs=>?_) λe s' hs=>hs
 obtain⟨v',H',J,rv,q⟩:=hs;exact⟨v',H',J.os,J.bare,J.base,J.hok,rv,VQ.endq sm q⟩
section
variable{X:Cx}{pins:List (Addr×Obj)}{σ:St}{H:Hp}{s:Shared}
def Inv.writeB(I:Inv X pins σ H s)(hH:H P=some (.tbl ps))(k:∀b u,b≠P->s.heap.get? b=some u->h'.get? b=some u)(hP:h'.get? P=some (tabObj (ps++more))):Inv X pins σ (upd H P (.tbl (ps++more))) { s with heap:=h',toks:=t' }:=by
 have nn:∀b,H b=none->b≠P:=λb n z=>by rw[z,hH]at n;cases n
 have ne:∀b u,H b=some u->(∀q,u≠.tbl q)->b≠P:=λb u e q z=>by
  rw[z,hH]at e;exact q ps (AAM e).symm
 refine I.un ⟨λb u q n _ _=>k b u (nn b n) q,λb u q n _ _=>⟨u.slots,k b u (nn b n) q⟩,λb u q n _=>by rw[ah (nn b n)];exact n,λb u q _=>?_,λb xs q=>by rw[ah (ne b _ q λ_ z=>by cases z)];exact q,λb u xs q=>by rw[ah (ne b _ q λ_ z=>by cases z)];exact q,λb qs q=>?_⟩ λb u q=>?_
 ·by_cases hb:b=P
  ·subst hb;exact⟨_,hP⟩
  ·exact⟨u,k b u hb q⟩
 ·by_cases hb:b=P
  ·subst hb
   rw[hH]at q;cases q
   exact⟨more,aJ⟩
  ·exact⟨#[],by rw[ah hb,q];simp⟩
 ·by_cases hb:b=P
  ·subst hb
   rw[aJ]at q;cases q
   exact hP
  ·rw[ah hb]at q
   refine(I.hok b u q).stay (λc v hc r=>k c v ?_ r) (λc r=>by rw[ah (ne c _ r λ_ z=>by cases z)];exact r) λc xs r=>by rw[ah (ne c _ r λ_ z=>by cases z)];exact r
   rcases hc with rfl | hc
   ·exact hb
   ·exact ne c _ hc λ_ z=>by cases z
def Cu(I:Inv X pins σ H s)(hH:H P=some (.tbl #[]))(C:∀h:Heap,X.K.In h->CodeHd h c P)(hcode:X.env.code=.ref c)(B:BMain X.mg X.base)
  (hcl:closureFor scope X.env=pure []) (hdef:defaultsOf params X.env=([],[]))
  (h:∀f c' oc vs t ctv ps' s',Inv X ((f,kla_obj "<lambda>" (X.env.qual ++ "<lambda>") params body scope [] ((X.mg "__name__").getD .none) c' ctv)::(c',oc)::pins) σ (upd H P (.tbl ps')) s'->oc.data=.fields vs->vs[1]?=some (.str (X.env.qual ++ "<lambda>") t)->Q (.ref f) s') :
  wpAny (model X.prog X.w) A (eval (.Lambda params body scope pos) X.env) Q E s:=by
 have hP:s.heap.get? P=some (tabObj #[]):=I.hok P _ hH;have hg:s.heap.Ns mainGlobals X.mg:=I.mod.glob.keeps I.bk;have nP:∀b o,X.base.get? b=some o->b≠P:=λb o e z=>by
  have:=(I.bs b o e).2;rw[z,hH]at this;cases this
 obtain⟨bm,ob,b1,b2,b3,b4,b5⟩:=B;have hgP:mainGlobals≠P:=by
  obtain⟨o,es,ep,e,_⟩:=I.mod.glob;exact nP _ _ e
 refine kla_eval hdef (kla_makeFunction hcl I.ok.glob hg hcode (C _ I.kIn) hP trivial rfl hgP ⟨bm,ob,b1,b2,b3,nP _ _ b4,I.bk _ _ b4,b5⟩ λc' ctv h' tk hx hge hlt hrec htb=>?_)
 obtain⟨c2,oc,vs,t,e2,hoc,hd,hv⟩:=hrec;cases e2
 have Pn:P≠h'.objs.size:=λz=>by rw[z]at htb;exact absurd (AAF htb) (AAm _)
 have hs:s.heap.objs.size<=h'.objs.size:=AAq hge (AE2 hlt);have J:Inv X pins σ (upd H P (.tbl (#[] ++ #[rawInt pos.line,rawInt pos.col,.ref c']))) { s with heap:=h'.push (kla_obj "<lambda>" (X.env.qual ++ "<lambda>") params body scope [] ((X.mg "__name__").getD .none) c' ctv),toks:=tk }:=by
  exact I.writeB hH (λb u hb e=>AA3 _ (hx b u hb e)) (AA3 _ htb)
 have fresh:∀b,s.heap.objs.size<=b->b≠P->upd H P (.tbl (#[] ++ #[rawInt pos.line,rawInt pos.col,.ref c'])) b=none/\b≠X.env.locals/\b∉X.fs:=λb hb hn=>by
  refine⟨by rw[ah hn];exact I.hok.fresh hb,λz=>?_,I.nofs hb⟩
  rw[z]at hb;exact absurd (AAd I.lt hb) (AAm _)
 have cP:c'≠P:=λz=>by
  rw[z]at hge;exact absurd (AAd (AAF hP) hge) (AAm _)
 refine h h'.objs.size c' oc vs t ctv _ _ (J.pins_of λp hp=>?_) hd hv
 rcases AAQ.mp hp with rfl | hp
 ·obtain⟨a1,a2,a3⟩:=fresh h'.objs.size hs (ABM Pn)
  exact⟨AAA _ rfl,a1,a2,a3,λv z=>by cases z⟩
 rcases AAQ.mp hp with rfl | hp
 ·obtain⟨a1,a2,a3⟩:=fresh c' hge cP
  exact⟨AA3 _ hoc,a1,a2,a3,λv z=>by rw[hd]at z;cases z⟩
 ·exact J.pin p (AAI _ hp)
end
def lamB(sc:Scope)(y:Str):Bool:=decide (sc.kind=.function) && !sc.isCoroutine && !sc.isGenerator&&decide (sc.names.lookup y=some .local)&&sc.names.all λp=>decide (p.2≠.free)
def rN(h:lamB sc y=true):FnScope [y] [y] sc:=by
 simp only[lamB,AAW,decide_eq_true_eq,Bool.not_eq_true',AAZ]at h;obtain⟨⟨⟨⟨h1,h2⟩,h3⟩,h4⟩,h5⟩:=h;refine⟨h1,h2,h3,ABy.mpr ⟨List.not_mem_nil,AE1⟩,rfl,λx hx=>?_,λp hp=>h5 p hp⟩
 obtain rfl:x=y:=by simpa using hx
 exact .inl h4
def kQ(x:Str)(N:List Str)(te:DTE)(t:DTA):DTE:=λS M Q=>t S M λds M1=>match ds with
 | [y]=>∃q xs key,M1[q]?=some (.tb x false)/\(y=.tup xs\/∃n,y=.ref n/\ar (M1.set q (.tb x true)) n xs)/\(∀d∈xs,te (cC N [d]) (M1.set q (.tb x true)) (bj (M1.set q (.tb x true)) λz M'=>z=key d/\M'=M1.set q (.tb x true)))/\SrtG (M1.set q (.tb x true)) (xs.map key) /\
   ∀ys,ys.Perm xs->ys.Pairwise (λa b=>ltD (M1.set q (.tb x true)) eqN (key b) (key a)=false)->Q (.ref M1.length) (M1.set q (.tb x true)++[.lst ys])
 | _=>False
def rR(Sf:Self X x)(B:BMain X.mg X.base)(hr:Room (k+3) X.A)(he:HA X [e] t)(hm:X.mg "sorted" = none)
  (der:∀(s:Shared) (H:Hp) (f:Addr) (cdv:Value) (A:Around) (outer:List Env) (E:XK),Room k (A.deeper (envOfC (X.env.qual ++ "<lambda>") scope s.heap.objs.size f cdv))->HE (sA CX0 X.prog X.w X.K X.mg X.base [y] (X.env.qual ++ "<lambda>") scope f cdv A outer s H E).nox body te)
  (Sc:FnScope [y] [y] scope) (hcl:closureFor scope X.env=pure []) (hdef:defaultsOf params X.env=([],[]))
  (hb:∀(pm ctv:Value) (c':Addr) (u:Value),bindArgs (kla_fn "<lambda>" (X.env.qual ++ "<lambda>") params body scope [] pm (.ref c') ctv) ⟨[u],[]⟩=pure [(y,u)])
  (hg1:X.env.kindOf "sorted" = some .globalImplicit:=by kernel_rfl) (hs:starEach [e] X.env=[(false,eval e X.env)]:=by kernel_rfl) :
  HE X (.Call (.Name "sorted" p) [e] [⟨some "key",.Lambda params body scope lpos,kpos⟩] pos) (kQ x [y] te t):=by
 refine⟨λpins s σ H R I h=>?_⟩
 obtain⟨S,M,ρ,Q,sm,sr,q,kk⟩:=h;refine AC4 (ki I hg1 hm sK ?_ (by decide) (by decide))
 unfold kQ at q;refine callWith_kw (thn (he.ok pos pins s σ H (λvs H1=>AQ X.K ρ H _ vs H1) I ⟨S,M,ρ,_,sm,sr,q,λ_ _ z=>z⟩) λus s1 ⟨vs,H1,I1,r1,q1⟩=>?_) (by rw[hs];rfl) (by rw[hs];rfl)
 obtain⟨ds,M1,ρ1,sm1,g1,rs,q1⟩:=q1;split at q1
 ·rename_i y0
  obtain⟨qn,xs,key,hq,hx,hP,so,fin⟩:=q1;obtain⟨v1,_,rfl,rx,rs⟩:=Reps.inv_cons rs;obtain rfl:=Reps.inv_nil rs;obtain⟨u,rfl,ru⟩:=aw.one r1;obtain⟨Pa,ep,mo⟩:=sm1.get hq;obtain⟨⟨c,tc,C⟩,ps,hH,h0⟩:=mo;obtain rfl:=h0 rfl;refine kws_cons (Cu I1 hH C (Sf.code I1 tc) B hcl hdef λf c' oc vs t' ctv ps' s2 I2 hd hv=>kws_nil ?_)
  obtain⟨sm2,g2⟩:=sm1.writeB (ps':=ps') ep hq hH;show wpAny _ _ (call (.builtin "sorted") [u] [(AA0 "key",.ref f)]) _ _ _;have l64:=so.len;rw[AA4]at l64;have hr2:Room (k+1+2) X.A:=hr;generalize upd H1 Pa (.tbl ps')=H2 at sm2 g2 I2;have ml:(M1.set qn (.tb x true)).length=M1.length:=AB0 ..;generalize M1.set qn (.tb x true)=M2 at sm2 hP so fin hx ml;have G:KeyG X ((f,kla_obj "<lambda>" (X.env.qual ++ "<lambda>") params body scope [] ((X.mg "__name__").getD .none) c' ctv)::(c',oc)::pins) σ ρ1 M2 f key xs:=λs H d v u hm I sm r ru=>by
   have p1:=(I.pin _ (AAI _ AAG)).1;have p2:=(I.pin (c',oc) (AAI _ (AA9 _ AAG))).1;exact FE (k:=k) I.env0.in1.in1 p1 ⟨c',oc,vs,t',rfl,p2,hd,hv⟩ Sc (Room.in1 (k:=k+2) hr2).in1 (.of_eq (hb _ _ _ _)) rfl (λE hr=>(der s H f _ _ _ E hr).ok) sm r ru (hP d hm)
  have back:∀{v:Value}{s':Shared},EP X ((f,kla_obj "<lambda>" (X.env.qual ++ "<lambda>") params body scope [] ((X.mg "__name__").getD .none) c' ctv)::(c',oc)::pins) σ R v s'->EP X pins σ R v s':=λ{v s'} ⟨v',H',J,rv,q⟩=>⟨v',H',J.pins_of λp hp=>J.pin p (AAI _ (AA9 _ (AA9 _ hp))),rv,q⟩
  have fin':∀ys,ys.Perm xs->ys.Pairwise (λa b=>ltD M2 eqN (key b) (key a)=false)->Q (.ref M2.length) (M2++[.lst ys]):=λys h1 h2=>by rw[ml];exact fin ys h1 h2
  rcases hx with rfl | ⟨n,rfl,hL⟩
  ·obtain⟨a,vs,rfl,hq',r⟩:=Rep.inv_tup (rx.grow g2)
   cases ru
   obtain⟨its,rr,⟨o,ho,hc,n,hd'⟩,_⟩:=I2.tuple hq';have h1:=r.length;have h2:=rr.length;exact ABF (vN G hr2 I2 sm2 r rr ho (.inr hc) hd' (by lia) so λv H' z=>kk v H' (VQ.trans g1 (VQ.trans g2 (z Q fin')))) (λ_ _ z=>back z) λ_ _ z=>z
  ·obtain⟨a,rfl,en⟩:=Rep.inv_ref rx
   cases ru
   obtain⟨vs,hq',r⟩:=ar.seq sm2 hL en;obtain⟨its,rr,⟨o,n,ho,hc,_,hd'⟩,_⟩:=I2.list hq';have h1:=r.length;have h2:=rr.length;exact ABF (vN G hr2 I2 sm2 r rr ho (.inl hc) hd' (by lia) so λv H' z=>kk v H' (VQ.trans g1 (VQ.trans g2 (z Q fin')))) (λ_ _ z=>back z) λ_ _ z=>z
 ·exact q1.elim
section
variable{P:Program}{w:World}{K:AA5}{mg:Str->Option Value}{base:Heap}{x:Str}{st:Stmt}{N ps:List Str}{k:Nat}{Pr:DSp}{B:List Str}{C:List (Str×Int)}{t:DTS}
abbrev DerL(P:Program)(w:World)(K:AA5)(mg:Str->Option Value)(base:Heap)(k:Nat)(x:Str)(N:List Str)(st:Stmt)(t:DTS):Prop :=
 ∀(f:Addr) (cdv:Value) (A:Around) (outer:List Env) (s:Shared) (H:Hp) (E:XK),Room k (A.deeper (PyProof.Rows.envOfC x (ap st) s.heap.objs.size f cdv))->Self (sA CX0 P w K mg base N x (ap st) f cdv A outer s H E).nox x->HB (sA CX0 P w K mg base N x (ap st) f cdv A outer s H E).nox (bO st) t
def Cal.byL(T:TopB mg B C)(F:cy K mg x st ps)(Sc:FnScope N ps (ap st))(len:cE Pr ps)(der:TopB mg B C->N.Nodup->DerL P w K mg base k x N st t)(wp:∀ds M R,Pr ds M R->t (EE M R) (cC N ds) M):Cal P w K mg base (k+1) x ps Pr:=by
 obtain⟨f,fd,F1,hm,hb⟩:=F;refine⟨f,fd,?_,hm,F1.kp,hb⟩;obtain⟨oc,od,kV,doc,pm,an,cdv,ct,osl,rfl,lk,hcd⟩:=F1.ex;refine Jd lk hcd Sc (λvs H Q E ⟨ds,M,ρ,R,s,r,q,_⟩=>by rw[<-r.length];exact len ds M R q) λA outer s H vs Q E hr h=>?_
 obtain⟨ds,M,ρ,R,sm,r,q,kk⟩:=h;have ht:=der T Sc.nd f cdv A outer s H E hr ⟨f,oc,od,_,osl,hm,lk,rfl⟩;refine⟨lowS K t,PSs.nox ht.ok,cC N ds,M,ρ,_,sm,SRep.start r N,wp ds M R q,⟨λσ' H' ⟨S',M',ρ',s',g',sr',q'⟩=>?_,λv H' z=>kk v H' (VQ.endq sm z),λσ' H' ⟨S',M',ρ',s',g',sr',q'⟩=>q'.elim,λσ' H' ⟨S',M',ρ',s',g',sr',q'⟩=>q'.elim⟩⟩
 exact kk .non H' (VQ.endq sm ⟨.non,M',ρ',s',g',.non,q'⟩)
end
def xD(z:Str):DSp:=λds M R=>∃(ns:List Int) (mo:MO),ns.length<=63/\(mo.items=ns.map D.int/\mo.isL=true)/\ds=[.ref 0]/\M=[mo,.tb z false]/\∀M',R (.bl true) M'
def uc{K:AA5}{H:Hp}{a Pt c:Addr}{z:Str}{ns:List Int}(hl:ns.length<=63)(hS:SqL K H a (ns.map V.int))(hP:H Pt=some (.tbl #[]))(tc:tabIn K z=some (c,Pt))(C:∀h:Heap,K.In h->CodeHd h c Pt)(ne:a≠Pt):spL K (xD z) [.ref a] H (λv _=>v=.bl true) λ_ _ _=>False:=by
 have one:∀{mo:MO},mo.items=ns.map D.int/\mo.isL=true->xX K [a,Pt] H a mo->spL K (xD z) [.ref a] H (λv _=>v=.bl true) λ_ _ _=>False:=λ{mo} e ok=>by
  refine⟨[.ref 0],[mo,.tb z false],[a,Pt],λd _=>d=.bl true,⟨λn m b hne e1 e2=>?_,rfl,λn b mo' e1 e2=>?_⟩,.cons (.ref rfl) .nil,⟨ns,mo,hl,e,rfl,rfl,λ_=>rfl⟩,λv H' ⟨d,M',ρ',_,_,r,q⟩=>?_⟩
  ·match n,m,e1,e2 with
   | 0,0,_,_=>exact absurd rfl hne
   | 1,1,_,_=>exact absurd rfl hne
   | 0,1,e1,e2=>simp at e1 e2;exact absurd (e1.trans e2.symm) ne
   | 1,0,e1,e2=>simp at e1 e2;exact absurd (e2.trans e1.symm) ne
   | n+2,_,e1,_=>simp at e1
   | _,m+2,_,e2=>simp at e2
  ·match n,e1,e2 with
   | 0,e1,e2 =>
    simp at e1 e2;subst e1 e2;exact ok
   | 1,e1,e2 =>
    simp at e1 e2;subst e1 e2;exact⟨⟨c,tc,C⟩,#[],hP,λ_=>rfl⟩
   | n+2,e1,_=>simp at e1
  ·have q':d=.bl true:=q
   subst q';obtain rfl:=Rep.inv_bl r;rfl
 rcases hS with(h | ⟨o,h⟩) | h
 ·exact one (mo:=.lst _) ⟨rfl,rfl⟩ ⟨_,h,jd ns⟩
 ·exact one (mo:=.fz _) ⟨rfl,rfl⟩ ⟨o,_,h,jd ns⟩
 ·exact one (mo:=.kl _) ⟨rfl,rfl⟩ ⟨_,h,jd ns⟩
def zP{P:Program}{w:World}{K:AA5}{mg mb:Str->Option Value}{k:Nat}{fa a Pt:Addr}{fd:FuncData}{x:Str}{sp:Sp}{s₁:Shared}{vs:List Value}{ns:List Int}
  (KX:K.In s₁.heap) (hns:s₁.heap.Ns mainGlobals mg) (hb:s₁.heap.Ns builtinsNs mb) (hbb:∀x:Str,x≠"__name__"->mb x=bootBuiltins x) (hlim:s₁.heap.NoLimit) (hg:s₁.gens = #[])
  (ha:s₁.heap.get? a=some { cls:=.type "list",data:=.seq vs.toArray }) (hi:IntsAre vs ns) (hl:ns.length<=sizeLine) (hr:Room k callerA) (nt:noTabs K=true) (hP:s₁.heap.get? Pt=some (tabObj #[])) (isT:isCodeTable s₁.heap Pt) (BM:BMain mg s₁.heap)
  (F:∀base:Heap,K.In base->base.Ns mainGlobals mg->BMain mg base->FnOk P w K mg base CX0 k fa fd [x] sp) (hbind:∀(s:Shared) (u:Value),BindsTo s fd ⟨[u],[]⟩ [(x,u)])
  (hsp:∀H:Hp,SqL K H a (ns.map V.int)->H Pt=some (.tbl #[])->sp [.ref a] H (λv _=>v=.bl true) λ_ _ _=>False) :
  codeAny (model P w) callerA (.call (.ref fa) ⟨[.ref a],[]⟩) (λr s'=>r=.ok (.ret (.bool true))/\OldK s₁.heap s'.heap/\s'.os=s₁.os/\AllBare s'.gens) s₁:=by
 have rv:=qg hi;have lenV:=hi.length;have aP:a≠Pt:=λe=>by rw[e,hP]at ha;cases ha
 have core:∀H:Hp,(∀b,b≠Pt->H b=none\/∃o xs,H b=some (.frz o (.lst xs)))->SqL K H a (ns.map V.int)->H Pt=some (.tbl #[])->HOk P w H s₁.heap->(∀b,H b≠none->b=a\/b=Pt)->(H a≠none->K.lookup a=none) ->
   codeAny (model P w) callerA (.call (.ref fa) ⟨[.ref a],[]⟩) (λr s'=>r=.ok (.ret (.bool true))/\OldK s₁.heap s'.heap/\s'.os=s₁.os/\AllBare s'.gens) s₁:=by
  intro H hO hS hT hok hA hK;have base_of:∀{b:Addr}{o:Obj},s₁.heap.get? b=some o->H b=none->(Bh s₁.heap H).get? b=some o:=λe n=>CJ e n
  have noA:∀{b:Addr}{o:Obj},s₁.heap.get? b=some o->o.cls≠.type "list"\/(∀v n,o.data≠.seq v n)->o≠tabObj #[]->H b=none:=λ{b o} e d1 d2=>by
   cases q:H b with
   | none=>rfl
   | some u =>
    rcases hA b (by rw[q];simp)with e' | e'
    ·subst e'
     rw[ha]at e;cases e;rcases d1 with d1 | d1
     ·exact absurd rfl d1
     ·exact absurd rfl (d1 _ _)
    ·subst e'
     rw[hP]at e;cases e;exact absurd rfl d2
  have nsK:∀{b:Addr}{m:Str->Option Value},s₁.heap.Ns b m->(Bh s₁.heap H).Ns b m:=λ{b m} ⟨o,es,ep,e,d,r⟩=>⟨o,es,ep,base_of e (noA e (.inr λv n z=>by rw[d]at z;cases z) λz=>by rw[z]at d;cases d),d,r⟩
  have hKb:K.In (Bh s₁.heap H):=λb o e=>base_of (KX b o e) (by
   cases q:H b with
   | none=>rfl
   | some u =>
    rcases hA b (by rw[q];simp)with e' | e'
    ·subst e'
     rw[hK (by rw[q];simp)]at e;cases e
    ·subst e'
     have h2:=AAZ.mp nt (b,o) (mem_of_lookupK e);have h3:=KX b o e;rw[hP]at h3;cases h3
     exact absurd (show false=true from h2) ABS)
  have hM:Mod K mg (Bh s₁.heap H):=⟨hKb,nsK hns,⟨mb,nsK hb,hbb⟩,let ⟨mc,h1,h2⟩:=hlim;⟨mc,nsK h1,h2⟩⟩
  have e0:Env0 P w K mg (Bh s₁.heap H) callerA [] s₁ H:=⟨rfl,hM,λb o e=>Fq e,Nat.le_of_eq (At _ _),trivial,λb hb=>absurd (show b∈([]:List Addr)from hb) (by simp),hok,.of_eq hg⟩
  have bm:BMain mg (Bh s₁.heap H):=by
   obtain⟨bm,ob,b1,b2,b3,b4,b5,b6⟩:=BM;exact⟨bm,ob,b1,b2,b3,base_of b4 (noA b4 (.inl λz=>by rw[z]at b5;injection b5 with h;exact absurd h (by decide)) λz=>by rw[z]at b5;cases b5),b5,b6⟩
  refine ADP ((F _ hKb (nsK hns) bm).run callerA [] s₁ H ⟨[.ref a],[]⟩ [.ref a] [.ref a] _ _ hr e0 (hbind s₁ (.ref a)) (.cons rfl .nil) (hsp H hS hT)) λr s' h=>?_
  cases r with
  | error e=>exact h.elim
  | ok fl =>
   cases fl with
   | next=>exact ACl h
   | brk=>exact ACl h
   | cont=>exact ACl h
   | ret u =>
    obtain⟨v,H',os,bare,un,hok',r',q⟩:=h;have q':v=.bl true:=q;subst q';obtain rfl:u=AEU true:=r';obtain⟨more,hT'⟩:=un.tbls Pt _ hT;have hP':s'.heap.get? Pt=some (tabObj (#[]++more)):=hok' Pt _ hT';have old:∀b o,b≠Pt->s₁.heap.get? b=some o->s'.heap.get? b=some o:=λb o hb e=>by
     cases q:H b with
     | none=>exact un.keep b o e q (by intro z;exact absurd (show b∈([]:List Addr)from z) (by simp)) (by simp)
     | some u =>
      rcases hO b hb with z | ⟨ob,xs,z⟩
      ·rw[q]at z;cases z
      ·have z2:=un.frzs b ob _ z
       obtain⟨e1,_⟩:=hok b _ z;obtain⟨e2,_⟩:=hok' b _ z2;rw[e]at e1;cases e1;exact e2
    refine⟨rfl,⟨λb o e=>?_,λb o e=>?_⟩,os,bare⟩
    ·by_cases hb:b=Pt
     ·subst hb
      rw[hP]at e;cases e;exact .inr (.inl ⟨isT,rfl,#[],more,rfl,hP'⟩)
     ·exact .inl (old b o hb e)
    ·by_cases hb:b=Pt
     ·subst hb;exact⟨_,hP'⟩
     ·exact⟨o,old b o hb e⟩
 cases hk:K.lookup a with
 | some o =>
  have e:=KX a o hk;rw[ha]at e;cases e
  refine core (upd (λ_=>none) Pt (.tbl #[])) (λb hb=>.inl (ah hb)) (.inr ⟨_,vs.toArray,_,hk,rfl,rfl,rfl,by rw[AAC,lenV];exact hl,by simpa using rv⟩) aJ (λb u z=>?_) (λb z=>?_) λz=>absurd (ah aP) z
  ·by_cases hb:b=Pt
   ·subst hb
    rw[aJ]at z;cases z
    exact hP
   ·rw[ah hb]at z
    cases z
  ·by_cases hb:b=Pt
   ·exact .inr hb
   ·exact absurd (ah hb) z
 | none =>
  refine core (upd (λb=>if b=a then some (.frz { cls:=.type "list",data:=.seq vs.toArray } (.lst (ns.map V.int)))else none) Pt (.tbl #[])) (λb hp=>?_) (.inl (.inr ⟨{ cls:=.type "list",data:=.seq vs.toArray },(ah aP).trans (if_pos rfl)⟩)) aJ (λb u z=>?_) (λb z=>?_) λ_=>hk
  ·rw[ah hp]
   by_cases hb:b=a
   ·exact .inr ⟨_,_,if_pos hb⟩
   ·exact .inl (if_neg hb)
  ·by_cases hp:b=Pt
   ·subst hp
    rw[aJ]at z;cases z
    exact hP
   rw[ah hp]at z;by_cases hb:b=a
   ·have z':=(if_pos hb).symm.trans z
    cases z'
    subst hb;exact⟨ha,by rw[AA4];exact hl,vs,_,rv,ha⟩
   ·have z':=(if_neg hb).symm.trans z
    cases z'
  ·by_cases hp:b=Pt
   ·exact .inr hp
   rw[ah hp]at z;by_cases hb:b=a
   ·exact .inl hb
   ·exact absurd (if_neg hb) z
def Bv{K:AA5}{x:Str}{c P:Addr}(h:tabIn K x=some (c,P)):∃o,K.lookup c=some o:=by
 unfold tabIn at h;split at h
 ·split at h
  ·split at h
   ·rename_i c' _
    split at h
    ·rename_i e
     split at h
     ·cases h;exact⟨_,e⟩
     ·cases h
    ·cases h
   ·cases h
  ·cases h
 ·cases h
theorem law_walkL{l:PySem.W.OpenLaw}{q:Program}{loose:List Str}{XP:(Str->Option Value)->Heap->Prop}{YP:World->Heap->Prop}{d dz:DefRec}{K:Params->AA5}{k:Nat}{st:Stmt}{x z:Str}{cz Pz:Params->Addr}(hn:l.most=some 63)(hdf:d.params.defaults=[])(hd:d.name = "law")(hr:Room k callerA)
  (hY:∀(w:World) (h:Heap),YP w h->(K w.params).In h) (nt:∀p,noTabs (K p)=true) (hz:(recsOf q).find? (λe=>e.name==z)=some dz) (tz:∀p,tabIn (K p) z=some (cz p,Pz p))
  (F:∀(w:World) (mg:Str->Option Value) (h:Heap),(K w.params).In h->h.Ns mainGlobals mg->cy (K w.params) mg "law" st [x] /\
   ∀(base:Heap) (f:Addr) (fd:FuncData),BMain mg base->Fun (K w.params) "law" "law" st f fd->FnOk l.prog w (K w.params) mg base CX0 k f fd [x] (spL (K w.params) (xD z)))
  (hb:∀(kV doc pm:Value) (an:Option Addr) (cdv ct:Value) (u:Value),bindArgs (ACd "law" "law" (iF st) (bO st) (ap st) .none kV doc pm an cdv ct) ⟨[u],[]⟩=pure [(x,u)]) :
  PySem.W.WalkO q loose XP YP l.row.toRowW d [] (λf vs=>PySem.call f vs):=by
 refine Att.attach_call hn hdf λw s₀ s₁ mg mb fa o pm cd doc a vs ns G Y ho hdd hcd hmg hobj hints hlen hg=>?_
 have KX:=hY w _ Y;rw[hd]at hmg;obtain⟨⟨f,fd,F1,hm,_⟩,C⟩:=F w mg _ KX G.T.g;have e:=hmg.symm.trans hm;cases e
 obtain⟨CH,hP⟩:=tab_of G.T KX hz (tz w.params);obtain⟨oc',hlc⟩:=Bv (tz w.params);have CK:∀h:Heap,(K w.params).In h->CodeHd h (cz w.params) (Pz w.params):=λh X=>by
  obtain⟨o2,vs2,file,tf,flags,tg,inF,text,tt,e1,r⟩:=CH;have e2:=KX _ _ hlc;rw[e1]at e2;cases e2
  exact⟨_,vs2,file,tf,flags,tg,inF,text,tt,X _ _ hlc,r⟩
 have bmn:BMain mg s₁.heap:=by
  obtain⟨bm,ob,b1,b2,b3,b4,b5,b6⟩:=G.T.bmain;refine⟨bm,ob,b1,b2,λz=>?_,b3,b4,b5,b6⟩
  obtain⟨og,es,ep,eg,dg,_⟩:=G.T.g;rw[z,eg]at b3;cases b3
  rw[dg]at b6;cases b6
 have aP:a≠Pz w.params:=λe=>by rw[e,hP]at hobj;cases hobj
 obtain⟨oc,od,kV,doc',pm',an,cdv,ct,osl,rfl,lk,hcd'⟩:=id F1.ex;exact zP KX G.T.g G.T.b G.T.builtins G.T.nolimit hg hobj hints (AAq hlen (by decide)) hr (nt _) hP (CH.tab hP).isCodeTable bmn (λbase _ _ B=>C base _ _ B F1) (λs v=>.of_eq (hb kV doc' pm' an cdv ct v)) λH hS hT=>uc hlen hS hT (tz w.params) CK aP
end L2
namespace L2
open PySem PySem.Spec PyProof.Rows DL
def GtAt(A:Around)(s:Shared)(x y:Value)(k:Bool):Prop:=∀(prog:Program) (w:World) (E:Value->Shared->Prop) (Q:Value->Shared->Prop),Q (.bool k) s->wpAny (model prog w) A (richCompare .Gt x y) Q E s
inductive GexAt(A:Around)(s:Shared):List Value->List Value->Bool->Prop
 | nn:GexAt A s [] [] false
 | nc {y:Value}{ys:List Value}:GexAt A s [] (y::ys) false
 | cn {x:Value}{xs:List Value}:GexAt A s (x::xs) [] true
 | eq {x y:Value}{xs ys:List Value}{k:Bool} (h:ACJ A s x y true) (t:GexAt A s xs ys k):GexAt A s (x::xs) (y::ys) k
 | ne {x y:Value}{xs ys:List Value}{k:Bool} (h:ACJ A s x y false) (t:GtAt A s x y k):GexAt A s (x::xs) (y::ys) k
section
variable{prog:Program}{w:World}{A:Around}{E:Value->Shared->Prop}{s:Shared}{d:Addr}{o:Obj}{es:Array DictEntry}{ep:Nat}{xs:List (D×Value×Value)}{k:D}{key:Value}{hs:D->Int}{Q:Option Nat->Shared->Prop}
def pM(es:Array DictEntry)(h:Int)(i:Nat):Bool:=(es[i]?.map (·.hash))==some h
end
end L2
namespace LW
open PySem L2
local macro_rules | `(tactic| walk_at "sc")=>`(tactic| exact⟨rfl,rfl,rfl,by decide +kernel,rfl,by decide +kernel,by decide +kernel⟩)
local macro_rules | `(tactic| walk_at "dl")=>`(tactic| simp only[EE,ax,dIf,dNot,Gp,dOr,aB,dCB,aa,af,bq,sy,JD,Dd,dIfE,dLC,uu,bP,am,bw,aX,jW,mV,dOp,dUn,sw,dC,ab,fy,kD,dSl,jV,fe,dMs,dMl,eZ,pO,Dx,qAdd,bv,Hh,oK,tH,za,GD,qLt,qLe,qGt,qIs,nT,qEq,qNe,mN,GF,qIx,qSl,cf,JE,Da,mT,bX,mU,lL,je,De,jw,uw,kC,uv,dMt,jf,mz,wH,jy,GE,jg,wI,xj,GC,jF,kQ,wG,Gg,ic,SqAt,ER,ko,at0,at1,at2,lK,qS,tyD,dst,cC,Jx,AAf,List.map_nil,AE8,AAl,List.getElem?_cons_zero,ADf,AAK,AAU,List.replicate_zero,List.replicate_succ,List.set_cons_zero,List.set_cons_succ,ADT,Nat.reduceAdd,Nat.reduceSub,Option.join_some,if_true,if_false,AAE])
def top(i:Nat):Stmt:=PySem.Challenge.pw_talkmarks_k52_bells_behind_hushes.main.body.getD i (.Pass ⟨0,0,0,0⟩)
abbrev B_:List Str:=["len","any","dict","sorted","set","range","tuple","list","max"]
abbrev C_:List (Str×Int):=[]
abbrev io:List Str:=["sign"]
abbrev bW:List Str:=["text","name"]
abbrev jJ:List Str:=["saying","name"]
abbrev jI:List Str:=["house","name"]
abbrev fL:List Str:=["house","room"]
abbrev jH:List Str:=["deed"]
abbrev ij:List Str:=["deed"]
abbrev ik:List Str:=["deed","vector"]
abbrev da:List Str:=["log","kind"]
abbrev jK:List Str:=["log","kind","name"]
abbrev eL:List Str:=["log","kind","name"]
abbrev ip:List Str:=["log","name"]
abbrev lQ:List Str:=["say"]
abbrev jG:List Str:=["say"]
abbrev iq:List Str:=["house","say","elders"]
abbrev ck:List Str:=["house","log"]
abbrev dI:List Str:=["deed","says"]
abbrev eK:List Str:=["log","kind","says"]
abbrev dH:List Str:=["log","says"]
abbrev bM:List Str:=["log","says"]
abbrev fK:List Str:=["say","changes"]
abbrev fJ:List Str:=["house","log"]
abbrev cg:List Str:=["log","name"]
abbrev lR:List Str:=["say","name","vectors","seen"]
abbrev cj:List Str:=["house","log","name"]
abbrev cZ:List Str:=["says","hushes"]
abbrev ii:List Str:=["says","name"]
abbrev jL:List Str:=["message","rooms","rung","hushes"]
abbrev oR:List Str:=["message","name","own","quiet"]
abbrev ir:List Str:=["house","log","name"]
abbrev lT:List Str:=["_law_script","_law_k"]
abbrev oU:List Str:=["_law_cell"]
abbrev zi:List Str:=["_law_held","_law_many"]
abbrev zm:List Str:=["_law_held"]
abbrev tJ:List Str:=["_law_held","_law_many"]
abbrev tK:List Str:=["_law_cell"]
abbrev oT:List Str:=["_law_held","_law_names_here"]
abbrev zk:List Str:=["_law_held","_law_hands_here","_law_says"]
abbrev oS:List Str:=["_law_held","_law_hands_here","_law_done"]
abbrev zh:List Str:=["_law_held","_law_house_here","_law_hands_here","_law_says"]
abbrev Fj:List Str:=["_law_held","_law_house_here","_law_hands_here","_law_says","_law_done"]
abbrev tL:List Str:=["_law_house_here"]
abbrev Fh:List Str:=["_law_cells","_law_house_here"]
abbrev zo:List Str:=["_law_log_here","_law_hand","_law_act_here"]
abbrev zj:List Str:=["_law_log_here"]
abbrev tM:List Str:=["_law_said_here","_law_stamp"]
abbrev tI:List Str:=["_law_said_here","_law_bell","_law_what_here"]
abbrev Fi:List Str:=["_law_script"]
structure Tops(P:Program)(w:World)(K:AA5)(mg:Str->Option Value)(base:Heap):Prop where
 f_is_letter:cy K mg "is_letter" (top 4) io
 f_begins_with_name:cy K mg "begins_with_name" (top 5) bW
 f_is_named:cy K mg "is_named" (top 6) jJ
 f_rooms_of:cy K mg "rooms_of" (top 8) jI
 f_members_of:cy K mg "members_of" (top 9) fL
 f_stamp_of:cy K mg "stamp_of" (top 11) jH
 f_person_of:cy K mg "person_of" (top 12) ij
 f_is_within:cy K mg "is_within" (top 13) ik
 f_deeds_of_kind:cy K mg "deeds_of_kind" (top 15) da
 f_deeds_by:cy K mg "deeds_by" (top 16) jK
 f_stamps_told:cy K mg "stamps_told" (top 17) eL
 f_hushes_of:cy K mg "hushes_of" (top 19) ip
 f_room_of:cy K mg "room_of" (top 21) lQ
 f_under_of:cy K mg "under_of" (top 22) jG
 f_can_stand:cy K mg "can_stand" (top 23) iq
 f_says_that_count:cy K mg "says_that_count" (top 24) ck
 f_is_by_writer:cy K mg "is_by_writer" (top 25) dI
 f_writers_own:cy K mg "writers_own" (top 26) eK
 f_last_changes:cy K mg "last_changes" (top 27) dH
 f_stamps_taken_back:cy K mg "stamps_taken_back" (top 28) bM
 f_message_of:cy K mg "message_of" (top 29) fK
 f_says_shown:cy K mg "says_shown" (top 30) fJ
 f_vectors_by_room:cy K mg "vectors_by_room" (top 32) cg
 f_is_read:cy K mg "is_read" (top 33) lR
 f_unread_messages:cy K mg "unread_messages" (top 34) cj
 f_stamps_hushed:cy K mg "stamps_hushed" (top 36) cZ
 f_stamps_by:cy K mg "stamps_by" (top 37) ii
 f_can_ring:cy K mg "can_ring" (top 38) jL
 f_why_of:cy K mg "why_of" (top 39) oR
 f_bells_for:cy K mg "bells_for" (top 40) ir
 f_cell_at:cy K mg "_law_cell_at" (top 42) lT
 f_digits:cy K mg "_law_digits" (top 43) oU
 f_take:cy K mg "_law_take" (top 44) zi
 f_name:cy K mg "_law_name" (top 45) zm
 f_names:cy K mg "_law_names" (top 46) tJ
 f_house:cy K mg "_law_house" (top 47) tK
 f_saying:cy K mg "_law_saying" (top 48) oT
 f_pick:cy K mg "_law_pick" (top 49) zk
 f_vector:cy K mg "_law_vector" (top 50) oS
 f_what:cy K mg "_law_what" (top 51) zh
 f_act:cy K mg "_law_act" (top 52) Fj
 f_hands:cy K mg "_law_hands" (top 53) tL
 f_log:cy K mg "_law_log" (top 54) Fh
 f_more:cy K mg "_law_more" (top 55) zo
 f_said:cy K mg "_law_said" (top 56) zj
 f_above:cy K mg "_law_above" (top 57) tM
 f_stays:cy K mg "_law_stays" (top 58) tI
 f_law:cy K mg "law" (top 59) Fi
 b:TopB mg B_ C_
 bm:BMain mg base
local macro_rules | `(tactic| walk_at "bb")=>`(tactic| first | exact JK | exact Gw | exact JJ | exact JI | exact sK | exact Di)
local macro_rules | `(tactic| walk_at "tb")=>`(tactic| exact TopB.no (by k_dflt assumption) (by kernel_rfl))
local macro_rules | `(tactic| walk_at "dv")=>`(tactic| (intro _ _ _ _ _ _ _ _ _ _;refine Av rfl ?_;repeat' (first | (with_reducible first | (refine gA ?_;first | exact DY | refine Ad ?_ ?_) | exact Ir | (refine El ?_;first | exact IC | exact k_bl | exact Iz | exact Iv) | (refine Ja ?_;first | refine Ai ?_ ?_ | refine Ah ?_ ?_ | refine nX (by k_dflt assumption) ?_ (by walk_at "tb") (by walk_at "tb") | refine nY ?_ (by walk_at "tb") | refine rR (by k_dflt assumption) (by k_dflt assumption) (by k_dflt assumption) ?_ (by walk_at "tb") (λ_ _ _ _ _ _ _ _=>?_) (by k_dflt (exact rN (by kernel_rfl))) (by k_dflt kernel_rfl) (by k_dflt kernel_rfl) (by k_dflt (intro _ _ _ _;kernel_rfl)) | refine Ak ?_ (by walk_at "tb") (by walk_at "bb") ?_ | refine wo ?_ (by walk_at "tb") (by walk_at "bb") ?_ | refine IE (by k_dflt assumption) (by k_dflt assumption) ?_ | refine Ae (by k_dflt assumption) ?_ ?_ | refine k_ms ?_ ?_ ?_ | refine k_ml ?_ ?_ ?_) | (refine gIx ?_;first | refine Af ?_ ?_ ?_ | refine Ea (by k_dflt assumption) ?_ ?_ (hs:=by k_dflt (intro _ _;kernel_rfl)) | refine k_ix ?_ ?_ (hs:=by k_dflt (intro _ _;kernel_rfl))) | (refine gT ?_;first | refine DN ?_ ?_ ?_ | refine DM ?_ | refine kw_t (wa ?_ ?_) | refine kw_t (Cv ?_ ?_) | refine DJ ?_) | (refine gE ?_;first | exact Eb | exact DZ | refine k_op ?_ ?_ ?_ | refine k_un Ec ?_ | refine Iy ?_ | refine ID ?_ ?_ ?_ | refine Aj ?_ ?_ ?_ ?_ ?_ | refine Iw ?_ | refine IF ?_ ?_ | refine k_or ?_ ?_ | refine Ag ?_ ?_ ?_ | refine Iu ?_ | refine IA ?_ | refine IB ?_ (λ_ _ _ _=>?_) (λ_ _ _ _=>?_) (λ_ _ _ _=>?_)) | (refine gS ?_;first | exact kM | refine pE ?_ | refine wd ?_ | refine Cy ?_ ?_ ?_ | refine jq (by k_dflt assumption) ?_ (λ_ _ _ _=>?_) (λ_ _ _ _=>?_) (λ_ _ _ _=>?_) | refine wc (by k_dflt assumption) ?_ | refine wf ?_ ?_ | refine pD (by k_dflt assumption) ?_ ?_ ?_ | refine we ?_ ?_ ?_ | refine kL ?_ ?_) | (refine gOp ?_;first | exact As | exact IT (by k_dflt assumption) | exact Ar | exact IS | exact IR (by k_dflt assumption) | exact Ei (by k_dflt assumption) | exact IP | exact ww | exact IN | exact IM | exact Eh | exact Eg | exact IL (by k_dflt assumption) | exact wv (by k_dflt assumption) | exact Ef | exact Ee | exact Ed) | (refine gC ?_;first | exact Ek | exact rY (by k_dflt assumption) | exact Ej | exact Au | exact oi (by k_dflt assumption) | exact oh (by k_dflt assumption) | exact wy) | exact DP | exact zU | exact zX | exact zY | refine DO ?_ | refine wa ?_ ?_ | refine Cv ?_ ?_ | refine zQ ?_ | refine DF ?_ | refine zT ?_ | refine zW ?_ | refine rP (by walk_at "tb") ?_ | refine rO (by walk_at "tb") ?_ | refine wg ?_ | refine wj ?_ | refine DQ ?_ | exact zZ (by k_dflt assumption) | exact DV (Fw (by kernel_rfl)) | refine wk ?_ ?_ | refine DR ?_ | refine DU ?_ ?_ | exact rX | exact rW | exact wx | exact rV) | refine zV ?_ ?_ | refine pE ?_ | refine wd ?_ | refine Cy ?_ ?_ ?_ | refine jq (by k_dflt assumption) ?_ (λ_ _ _ _=>?_) (λ_ _ _ _=>?_) (λ_ _ _ _=>?_) | refine wc (by k_dflt assumption) ?_ | refine wf ?_ ?_ | refine pD (by k_dflt assumption) ?_ ?_ ?_ | refine we ?_ ?_ ?_ | refine kL ?_ ?_ | exact kM)))
local macro_rules | `(tactic| walk_at "dvl")=>`(tactic| (intro _ _ _ _ _ _ _ _ _ _ _;refine Av rfl ?_;repeat' (first | (with_reducible first | (refine gA ?_;first | exact DY | refine Ad ?_ ?_) | exact Ir | (refine El ?_;first | exact IC | exact k_bl | exact Iz | exact Iv) | (refine Ja ?_;first | refine Ai ?_ ?_ | refine Ah ?_ ?_ | refine nX (by k_dflt assumption) ?_ (by walk_at "tb") (by walk_at "tb") | refine nY ?_ (by walk_at "tb") | refine rR (by k_dflt assumption) (by k_dflt assumption) (by k_dflt assumption) ?_ (by walk_at "tb") (λ_ _ _ _ _ _ _ _=>?_) (by k_dflt (exact rN (by kernel_rfl))) (by k_dflt kernel_rfl) (by k_dflt kernel_rfl) (by k_dflt (intro _ _ _ _;kernel_rfl)) | refine Ak ?_ (by walk_at "tb") (by walk_at "bb") ?_ | refine wo ?_ (by walk_at "tb") (by walk_at "bb") ?_ | refine IE (by k_dflt assumption) (by k_dflt assumption) ?_ | refine Ae (by k_dflt assumption) ?_ ?_ | refine k_ms ?_ ?_ ?_ | refine k_ml ?_ ?_ ?_) | (refine gIx ?_;first | refine Af ?_ ?_ ?_ | refine Ea (by k_dflt assumption) ?_ ?_ (hs:=by k_dflt (intro _ _;kernel_rfl)) | refine k_ix ?_ ?_ (hs:=by k_dflt (intro _ _;kernel_rfl))) | (refine gT ?_;first | refine DN ?_ ?_ ?_ | refine DM ?_ | refine kw_t (wa ?_ ?_) | refine kw_t (Cv ?_ ?_) | refine DJ ?_) | (refine gE ?_;first | exact Eb | exact DZ | refine k_op ?_ ?_ ?_ | refine k_un Ec ?_ | refine Iy ?_ | refine ID ?_ ?_ ?_ | refine Aj ?_ ?_ ?_ ?_ ?_ | refine Iw ?_ | refine IF ?_ ?_ | refine k_or ?_ ?_ | refine Ag ?_ ?_ ?_ | refine Iu ?_ | refine IA ?_ | refine IB ?_ (λ_ _ _ _=>?_) (λ_ _ _ _=>?_) (λ_ _ _ _=>?_)) | (refine gS ?_;first | exact kM | refine pE ?_ | refine wd ?_ | refine Cy ?_ ?_ ?_ | refine jq (by k_dflt assumption) ?_ (λ_ _ _ _=>?_) (λ_ _ _ _=>?_) (λ_ _ _ _=>?_) | refine wc (by k_dflt assumption) ?_ | refine wf ?_ ?_ | refine pD (by k_dflt assumption) ?_ ?_ ?_ | refine we ?_ ?_ ?_ | refine kL ?_ ?_) | (refine gOp ?_;first | exact As | exact IT (by k_dflt assumption) | exact Ar | exact IS | exact IR (by k_dflt assumption) | exact Ei (by k_dflt assumption) | exact IP | exact ww | exact IN | exact IM | exact Eh | exact Eg | exact IL (by k_dflt assumption) | exact wv (by k_dflt assumption) | exact Ef | exact Ee | exact Ed) | (refine gC ?_;first | exact Ek | exact rY (by k_dflt assumption) | exact Ej | exact Au | exact oi (by k_dflt assumption) | exact oh (by k_dflt assumption) | exact wy) | exact DP | exact zU | exact zX | exact zY | refine DO ?_ | refine wa ?_ ?_ | refine Cv ?_ ?_ | refine zQ ?_ | refine DF ?_ | refine zT ?_ | refine zW ?_ | refine rP (by walk_at "tb") ?_ | refine rO (by walk_at "tb") ?_ | refine wg ?_ | refine wj ?_ | refine DQ ?_ | exact zZ (by k_dflt assumption) | exact DV (Fw (by kernel_rfl)) | refine wk ?_ ?_ | refine DR ?_ | refine DU ?_ ?_ | exact rX | exact rW | exact wx | exact rV) | refine zV ?_ ?_ | refine pE ?_ | refine wd ?_ | refine Cy ?_ ?_ ?_ | refine jq (by k_dflt assumption) ?_ (λ_ _ _ _=>?_) (λ_ _ _ _=>?_) (λ_ _ _ _=>?_) | refine wc (by k_dflt assumption) ?_ | refine wf ?_ ?_ | refine pD (by k_dflt assumption) ?_ ?_ ?_ | refine we ?_ ?_ ?_ | refine kL ?_ ?_ | exact kM)))
section
variable{P:Program}{w:World}{K:AA5}{mg:Str->Option Value}{base:Heap}
def ig(p:Str×Int):D:=.tup [.str p.1,.int p.2]
def Hd(d:D):Prop:=∃(x:Str) (k:Int),d=.tup [.str x,.int k]
def IV(ha:Hd a)(hb:Hd b):eqD M (n+1) a b=true↔a=b:=by
 obtain⟨x,k,rfl⟩:=ha;obtain⟨y,l,rfl⟩:=hb;show (eqD M n (.str x) (.str y)&&(eqD M n (.int k) (.int l)&&true))=true↔_;rw[aM,mw];simp
def IU(ha:Hd a):okD M eqN a=true:=by
 obtain⟨x,k,rfl⟩:=ha;rfl
def hd_key(ha:Hd a):cH 8 a=true:=by
 obtain⟨x,k,rfl⟩:=ha;rfl
def mL(hs:List (D×Int)):List D:=hs.map λp=>.tup [p.1,.int p.2]
noncomputable def fq(hs:List (D×Int))(hd:D)(num:Int):Bool:=match hs.find? λp=>decide (p.1=hd) with
 | some p=>decide (num<p.2)
 | none=>false
def plD:Nat->D->Bool
 | n+1,.tup xs=>xs.all (plD n)
 | 0,.tup _=>false
 | _,.ref _=>false
 | _,.ty _=>false
 | _,_=>true
def Pln(n:Nat)(d:D):Prop:=plD n d=true
def mI(n:Nat)(ds:List D):Prop:=ds.all (plD n)=true
def Pln.non:Pln n .non:=by cases n<;>rfl
def Pln.bl(b:Bool):Pln n (.bl b):=by cases n<;>rfl
def Pln.int(i:Int):Pln n (.int i):=by cases n<;>rfl
def Pln.str(x:Str):Pln n (.str x):=by cases n<;>rfl
def mI.nil:mI n []:=rfl
def mI.cons(h:Pln n d)(t:mI n ds):mI n (d::ds):=by
 unfold mI Pln at *;rw[ABT,h,t];rfl
def Pln.tup(h:mI n ds):Pln (n+1) (.tup ds):=h
def mI.of(h:∀d∈ds,Pln n d):mI n ds:=AAZ.mpr h
def bV:∀(n:Nat) (d:D),Pln n d->Bel k d:=by
 intro n;induction n with
 | zero =>
  intro d h;cases d with
  | tup xs=>cases h
  | ref i=>cases h
  | ty t=>cases h
  | non=>exact .non
  | bl b=>exact .bl b
  | int i=>exact .int i
  | str x=>exact .str x
 | succ n ih =>
  intro d h;cases d with
  | tup xs=>exact .tup (Bels.of λx hx=>ih x (AAZ.mp h x hx))
  | ref i=>cases h
  | ty t=>cases h
  | non=>exact .non
  | bl b=>exact .bl b
  | int i=>exact .int i
  | str x=>exact .str x
def pK:∀{xs:List D},(∀x∈xs,f x x=true)->eqL f xs xs=true
 | [],_=>rfl
 | x::xs,h=>by
  show (f x x&&eqL f xs xs)=true;rw[h x (by simp),pK λy hy=>h y (AA9 _ hy)];rfl
def qT:∀(n m:Nat) (d:D),n<=m->Pln n d->okD M m d=true/\eqD M m d d=true:=by
 intro n;induction n with
 | zero =>
  intro m d _ h;cases d with
  | tup xs=>cases h
  | ref i=>cases h
  | ty t=>cases h
  | non=>exact⟨zx,by cases m<;>rfl⟩
  | bl b=>exact⟨Dy,by cases m<;>cases b<;>rfl⟩
  | int i=>exact⟨oZ,by rw[mw];exact beq_self_eq_true i⟩
  | str x=>exact⟨aq,by rw[aM];exact beq_self_eq_true x⟩
 | succ n ih =>
  intro m d hm h;cases m with
  | zero=>lia
  | succ m =>
   cases d with
   | tup xs=>exact⟨Fp λx hx=>(ih m x (by lia) (AAZ.mp h x hx)).1,pK λx hx=>(ih m x (by lia) (AAZ.mp h x hx)).2⟩
   | ref i=>cases h
   | ty t=>cases h
   | non=>exact⟨zx,rfl⟩
   | bl b=>exact⟨Dy,by cases b<;>rfl⟩
   | int i=>exact⟨oZ,by rw[mw];exact beq_self_eq_true i⟩
   | str x=>exact⟨aq,by rw[aM];exact beq_self_eq_true x⟩
def CL(h:Hd d):Pln (n+1) d:=by
 obtain⟨x,i,rfl⟩:=h;exact .tup (.cons (.str _) (.cons (.int _) .nil))
def IW(h:Hd d):Bel k d:=bV 1 d (CL h)
def Deed(d:D):Prop:=∃(t:Int) (hd:D) (num:Int) (act:D),d=.tup [.int t,hd,.int num,act]/\Hd hd/\Pln 5 act
def Gh(h:Deed d):Pln 6 d:=by
 obtain⟨t,hd,num,act,rfl,hh,ha⟩:=h;exact .tup (.cons (.int _) (.cons (CL hh) (.cons (.int _) (.cons ha .nil))))
def Db(h:Deed d):Bel k d:=bV 6 d (Gh h)
def Jw(h:∀d∈ds,Deed d):Bels k ds:=Bels.of λd hd=>Db (h d hd)
def IY:D->D
 | .tup (_::h::_)=>h
 | _=>.non
def numD:D->Int
 | .tup (_::_::.int n::_)=>n
 | _=>0
noncomputable def many(log:List D)(hd:D):Nat:=(log.filter λd=>decide (IY d=hd)).length
def gf:aW (ie kvs k d) k=some d:=by
 unfold ie;split
 ·rename_i hs
  unfold aW at hs ⊢;rw[Option.isSome_map]at hs;obtain⟨q,hq⟩:=ADQ.mp hs;rw[AET];have e:((λp:D×D=>decide (p.1=k)) ∘ λp:D×D=>if p.1=k then(p.1,d)else p)=λp=>decide (p.1=k):=by
   funext p;show decide ((if p.1=k then(p.1,d)else p).1=k)=decide (p.1=k);split<;>rfl
  rw[e,hq];have hk:q.1=k:=by
   have:=ACx hq;exact oT_ this
  show some (if q.1=k then(q.1,d)else q).2=_;rw[if_pos hk]
 ·rename_i hs
  unfold aW at hs ⊢;rw[Option.isSome_map,Option.not_isSome_iff_eq_none]at hs;rw[ADu,hs];simp
def ju(h:j≠k):aW (ie kvs k d) j=aW kvs j:=by
 unfold ie;split
 ·unfold aW
  rw[AET];have e:((λp:D×D=>decide (p.1=j)) ∘ λp:D×D=>if p.1=k then(p.1,d)else p)=λp=>decide (p.1=j):=by
   funext p;show decide ((if p.1=k then(p.1,d)else p).1=j)=decide (p.1=j);split<;>rfl
  rw[e];cases hf:kvs.find? λp=>decide (p.1=j) with
  | none=>rfl
  | some q =>
   have hq:q.1=j:=by
    have:=ACx hf;exact oT_ this
   show some (if q.1=k then(q.1,d)else q).2=some q.2;rw[if_neg (by rw[hq];exact h)]
 ·unfold aW
  rw[ADu];cases hf:kvs.find? λp=>decide (p.1=j) with
  | none=>simp[ABM h]
  | some q=>rfl
def eN:∀{kvs:List (D×D)}{p:D×D},(kvs.map (·.1)).Nodup->p∈kvs->aW kvs p.1=some p.2
 | q::kvs,p,nd,h=>by
  rw[AAf,List.nodup_cons]at nd;unfold aW;rw[ABV];rcases AAQ.mp h with rfl | h
  ·rw[dT_ rfl];rfl
  ·have:q.1≠p.1:=λz=>nd.1 (by rw[z];exact AB2 h)
   rw[dF_ this];exact eN nd.2 h
def bG(h:aW kvs k=some d):(k,d)∈kvs:=by
 unfold aW at h;obtain⟨q,hq,rfl⟩:=ABC.mp h;have e:q.1=k:=by
  have:=ACx hq;exact oT_ this
 rw[<-e];exact List.mem_of_find?_eq_some hq
def be{α:Type}{P:List α->Prop}(h0:P [])(h1:∀l x,P l->P (l++[x]))(l:List α):P l:=by
 rw[<-List.reverse_reverse l];induction l.reverse with
 | nil=>exact h0
 | cons x xs ih=>rw[List.reverse_cons];exact h1 _ _ ih
def kJ(hL:ar M n xs)(ok:∀x∈xs,okD (M++[MO.lst []]) 29 x=true):(okD (M++[MO.lst []]) eqN (.ref n)=true/\okD (M++[MO.lst []]) eqN (.ref M.length)=true)/\eqD (M++[MO.lst []]) eqN (.ref n) (.ref M.length)=xs.isEmpty:=by
 have h1:ar (M++[MO.lst []]) n xs:=hL.more _;have h2:ar (M++[MO.lst []]) M.length []:=ao;refine⟨⟨oY (n:=29) h1 ok,oY (n:=29) h2 λ_ z=>nomatch z⟩,?_⟩
 exact(wB (n:=29) h1 h2).trans FS
def lst_ne(h:m≠n)(l:ar M m xs):ar (M.set n x) m xs:=by
 rcases l with l | l | l
 ·exact .inl (by rw[AAs (ABM h)];exact l)
 ·exact .inr (.inl (by rw[AAs (ABM h)];exact l))
 ·exact .inr (.inr (by rw[AAs (ABM h)];exact l))
def au{M:Mem}{m n:Nat}{x y:MO}(h:m≠n)(l:M[m]?=some y):(M.set n x)[m]?=some y:=by rw[AAs (ABM h)];exact l
def aN{M:Mem}{m:Nat}{y:MO}(l:M[m]?=some y):m<M.length:=(AA7.mp l).1
def Il(l:ar M m xs):m<M.length:=by
 rcases l with l | l | l<;>exact aN l
def ac{B:Mem}{q:Nat}{x a:MO}(h:B[q]?=some x):(B++[a])[q]?=some x:=by
 rw[AAP (AA7.mp h).1];exact h
def dc{B:Mem}{q:Nat}{x a:MO}(h:B[q]?=some x):(B.set q a)[q]?=some a:=AAo (AA7.mp h).1
def pc(p:M <+: B)(l:ar M q xs):ar B q xs:=by
 obtain⟨L,rfl⟩:=p;exact l.more L
def aT{M B:Mem}{q:Nat}{x:MO}(p:M <+: B)(l:M[q]?=some x):B[q]?=some x:=by
 obtain⟨L,rfl⟩:=p;rw[AAP (aN l)];exact l
def ints_bel(xs:List Int):Bels k (xs.map D.int):=Bels.of λd hd=>by
 obtain⟨x,_,rfl⟩:=AAH.mp hd;exact .int x
def vL(xs:List Str):Bels k (xs.map D.str):=Bels.of λd hd=>by
 obtain⟨x,_,rfl⟩:=AAH.mp hd;exact .str x
def vW{a b:Int}(h:0<b):0<=a % b:=Int.emod_nonneg _ (by lia)
def vX{a b:Int}(h:0<b):a % b<b:=Int.emod_lt_of_pos _ h
def at_mod{α:Type}{xs:List α}{i:Int}(h:1<=xs.length):∃x∈xs,atI xs (i % (xs.length:Int))=some x:=by
 obtain⟨j,hj,ej,_⟩:=fQ (xs:=xs) (vW (a:=i) (b:=xs.length) (by lia)) (vX (by lia))
 exact⟨xs[j],ABA hj,ej⟩
def cY(p:M <+: B)(h:M.length<=q):M <+: B.set q x:=by
 obtain⟨L,rfl⟩:=p;rw[AE5 _ _ h];exact AAb _ _
def dN(p:Str×Int):List D:=(sN 0 p.2.toNat).map λk=>.tup [.str p.1,k]
def aC(ps:List (Str×Int)):List D:=ps.flatMap dN
def Few(ps:List (Str×Int)):Prop:=ps.length<=4/\∀p∈ps,0<=p.2/\p.2<=3
def iD:(dN p).length=p.2.toNat:=by simp[dN,sN]
def oj(h:∀p∈ps,0<=p.2/\p.2<=3):(aC ps).length<=3*ps.length:=by
 induction ps with
 | nil=>simp[aC]
 | cons p ps ih =>
  have:=ih λq hq=>h q (AA9 _ hq)
  have h1:=h p AAG;have e:(aC (p::ps)).length=p.2.toNat+(aC ps).length:=by
   rw[aC,List.flatMap_cons,AAB,iD];rfl
  rw[e,AAK];lia
def kO:∀d∈aC ps,Hd d:=λd hd=>by
 unfold aC at hd;obtain⟨p,_,hp⟩:=List.mem_flatMap.mp hd;unfold dN sN at hp;simp only[ABI,AAH]at hp;obtain⟨i,_,rfl⟩:=hp;exact⟨_,_,rfl⟩
def xH:Bels k (aC ps):=Bels.of λd hd=>IW (kO d hd)
def gG(p:Str×List Str):D:=.tup [.str p.1,.tup (p.2.map .str)]
def aK(ps:List (Str×Int))(rs:List (Str×List Str)):D:=.tup [.tup (ps.map ig),.tup (rs.map gG)]
structure HouseF(ps:List (Str×Int))(rs:List (Str×List Str)):Prop where
 len:1<=ps.length/\ps.length<=4
 many:∀p∈ps,1<=p.2/\p.2<=3
 nm:∀p∈ps,p.1.length<=8
 rl:1<=rs.length/\rs.length<=4
 pnd:(ps.map (·.1)).Nodup
 rnd:(rs.map (·.1)).Nodup
 rm:∀r∈rs,r.2.length<=4
def St(d:D):Prop:=∃(t:Int) (z:Str) (k:Int),d=.tup [.int t,.tup [.str z,.int k]]
def St.key(h:St d):cH 8 d=true:=by obtain⟨t,z,k,rfl⟩:=h;rfl
def St.ok(h:St d):okD M eqN d=true:=by obtain⟨t,z,k,rfl⟩:=h;rfl
def St.pl(h:St d):Pln (n+2) d:=by
 obtain⟨t,z,k,rfl⟩:=h;exact .tup (.cons (.int _) (.cons (.tup (.cons (.str _) (.cons (.int _) .nil))) .nil))
def St.eq(ha:St a)(hb:St b):eqD M (n+2) a b=decide (a=b):=by
 obtain⟨t,z,k,rfl⟩:=ha;obtain⟨t',z',k',rfl⟩:=hb;have e:eqD M (n+2) (.tup [.int t,.tup [.str z,.int k]]) (.tup [.int t',.tup [.str z',.int k']])=((t==t')&&(((z==z')&&((k==k')&&true))&&true)):=by
  show (eqD M (n+1) (.int t) (.int t')&&((eqD M n (.str z) (.str z')&&(eqD M n (.int k) (.int k')&&true))&&true))=_;rw[mw,aM,mw]
 rw[e];by_cases h:D.tup [.int t,.tup [.str z,.int k]]=.tup [.int t',.tup [.str z',.int k']]
 ·rw[dT_ h]
  simp only[D.tup.injEq,ADd,D.int.injEq,D.str.injEq,and_true]at h;obtain⟨rfl,rfl,rfl⟩:=h;simp
 ·rw[dF_ h]
  simp only[D.tup.injEq,ADd,D.int.injEq,D.str.injEq,and_true]at h;refine AB4.mpr λq=>h ?_
  simpa using q
def St.tup(h:St d):∃ks,d=.tup ks:=by obtain⟨t,z,k,rfl⟩:=h;exact⟨_,rfl⟩
def fg(d:D):Prop:=(∃x:Str,d=.tup [.str (AA0 "room"),.str x])\/(∃x:Str,d=.tup [.str (AA0 "person"),.str x])\/∃(t:Int) (z:Str) (k:Int),d=.tup [.str (AA0 "under"),.tup [.int t,.tup [.str z,.int k]]]
def fg.tup(h:fg d):∃ks,d=.tup ks:=by
 rcases h with⟨x,rfl⟩|⟨x,rfl⟩|⟨t,z,k,rfl⟩<;>exact⟨_,rfl⟩
def fg.key(h:fg d):cH 8 d=true:=by
 rcases h with⟨x,rfl⟩|⟨x,rfl⟩|⟨t,z,k,rfl⟩<;>rfl
def fg.ok(h:fg d):okP eqN d=true:=by
 rcases h with⟨x,rfl⟩|⟨x,rfl⟩|⟨t,z,k,rfl⟩<;>rfl
def fg.pl(h:fg d):Pln 3 d:=by
 rcases h with⟨x,rfl⟩|⟨x,rfl⟩|⟨t,z,k,rfl⟩<;>rfl
def fg.pl4(h:fg d):Pln 4 d:=by
 rcases h with⟨x,rfl⟩|⟨x,rfl⟩|⟨t,z,k,rfl⟩<;>rfl
def fg.str(h:fg d):∃z r,d=.tup (.str z::r):=by
 rcases h with⟨x,rfl⟩|⟨x,rfl⟩|⟨t,z,k,rfl⟩<;>exact⟨_,_,rfl⟩
def fg.cm(ha:fg a)(hb:fg b):iG M eqN a b=true:=by
 have rp:(AA0 "room" == AA0 "person")=false:=by decide +kernel
 have ru:(AA0 "room" == AA0 "under")=false:=by decide +kernel
 have pr:(AA0 "person" == AA0 "room")=false:=by decide +kernel
 have pu:(AA0 "person" == AA0 "under")=false:=by decide +kernel
 have ur:(AA0 "under" == AA0 "room")=false:=by decide +kernel
 have up:(AA0 "under" == AA0 "person")=false:=by decide +kernel
 have ne:∀{x y:Str}{r r':List D},(x==y)=false->iG M eqN (.tup (.str x::r)) (.tup (.str y::r'))=true:=λ{x y r r'} h=>by
  show (if eqD M 29 (.str x) (.str y)=true then AM (eqD M 29) (iG M 29) r r' else iG M 29 (.str x) (.str y))=true;rw[aM,h];rfl
 have ss:∀{x y:Str}{z:Str},iG M eqN (.tup [.str z,.str x]) (.tup [.str z,.str y])=true:=λ{x y z}=>by
  show (if eqD M 29 (.str z) (.str z)=true then(if eqD M 29 (.str x) (.str y)=true then true else true)else true)=true;repeat' split
  all_goals rfl
 rcases ha with⟨x,rfl⟩|⟨x,rfl⟩|⟨t,z,k,rfl⟩<;>rcases hb with⟨y,rfl⟩|⟨y,rfl⟩|⟨t',z',k',rfl⟩
 ·exact ss
 ·exact ne rp
 ·exact ne ru
 ·exact ne pr
 ·exact ss
 ·exact ne pu
 ·exact ne ur
 ·exact ne up
 ·show (if eqD M 29 (.str (AA0 "under")) (.str (AA0 "under"))=true then(if eqD M 29 (.tup [.int t,.tup [.str z,.int k]]) (.tup [.int t',.tup [.str z',.int k']])=true then true else(if eqD M 28 (.int t) (.int t')=true then(if eqD M 28 (.tup [.str z,.int k]) (.tup [.str z',.int k'])=true then true else(if eqD M 27 (.str z) (.str z')=true then(if eqD M 27 (.int k) (.int k')=true then true else true)else true))else true))else true)=true
  repeat' split
  all_goals rfl
def yd(h:∀x∈xs,fg x)(l:xs.length<64):SrtG M xs :=
 SrtOk.g ⟨l,λx hx=>(h x hx).ok,λx hx y hy=>(h x hx).cm (h y hy),.inr (.inr (.inl λx hx=>(h x hx).str))⟩
def VecK(vs:List D):Prop:=∃hs:List (D×Int),vs=mL hs/\(∀p∈hs,Hd p.1)/\hs.length<=12
structure ActK(rs:List (Str×List Str))(x:Str)(ds:List D):Prop where
 say:x=AA0 "say"->∃(r:Str) (u:D) (s:Str),ds=[.str r,u,.str s]/\r∈rs.map (·.1)/\(u=.non\/St u)
 change:x=AA0 "change"->∃(m:D) (s:Str),ds=[m,.str s]/\St m
 back:x=AA0 "back"->∃m:D,ds=[m]/\St m
 like:x=AA0 "like"->∃(m:D) (s:Str) (b:Bool),ds=[m,.str s,.bl b]/\St m
 read:x=AA0 "read"->∃(r:Str) (vs:List D),ds=[.str r,.tup vs]/\VecK vs
 seen:x=AA0 "seen"->∃m:D,ds=[m]/\St m
 rung:x=AA0 "rung"->∃m:D,ds=[m]/\St m
 hush:x=AA0 "hush"->∃(w:D) (b:Bool),ds=[w,.bl b]/\fg w
 lenS:x=AA0 "say"->∀(r u:D) (s:Str),ds=[r,u,.str s]->s.length<=100
 lenC:x=AA0 "change"->∀(m:D) (s:Str),ds=[m,.str s]->s.length<=100
section
variable{rs:List (Str×List Str)}
def bE{a b:Str}{P:Prop}(h:(a==b)=false)(e:a=b):P:=absurd e (beq_eq_false_iff_ne.mp h)
def ActK.mkSay(hr:r∈rs.map (·.1))(hu:u=.non\/St u)(l:s.length<=100):ActK rs (AA0 "say") [.str r,u,.str s] :=
 ⟨λ_=>⟨r,u,s,rfl,hr,hu⟩,bE (by decide +kernel),bE (by decide +kernel),bE (by decide +kernel),bE (by decide +kernel),bE (by decide +kernel),bE (by decide +kernel),bE (by decide +kernel),λ_ _ _ _ e=>by cases e;exact l,bE (by decide +kernel)⟩
def ActK.mkChange(h:St m)(l:s.length<=100):ActK rs (AA0 "change") [m,.str s] :=
 ⟨bE (by decide +kernel),λ_=>⟨m,s,rfl,h⟩,bE (by decide +kernel),bE (by decide +kernel),bE (by decide +kernel),bE (by decide +kernel),bE (by decide +kernel),bE (by decide +kernel),bE (by decide +kernel),λ_ _ _ e=>by cases e;exact l⟩
def ActK.mkBack(h:St m):ActK rs (AA0 "back") [m] :=
 ⟨bE (by decide +kernel),bE (by decide +kernel),λ_=>⟨m,rfl,h⟩,bE (by decide +kernel),bE (by decide +kernel),bE (by decide +kernel),bE (by decide +kernel),bE (by decide +kernel),bE (by decide +kernel),bE (by decide +kernel)⟩
def ActK.mkLike(h:St m):ActK rs (AA0 "like") [m,.str s,.bl b] :=
 ⟨bE (by decide +kernel),bE (by decide +kernel),bE (by decide +kernel),λ_=>⟨m,s,b,rfl,h⟩,bE (by decide +kernel),bE (by decide +kernel),bE (by decide +kernel),bE (by decide +kernel),bE (by decide +kernel),bE (by decide +kernel)⟩
def ActK.mkRead(h:VecK vs):ActK rs (AA0 "read") [.str r,.tup vs] :=
 ⟨bE (by decide +kernel),bE (by decide +kernel),bE (by decide +kernel),bE (by decide +kernel),λ_=>⟨r,vs,rfl,h⟩,bE (by decide +kernel),bE (by decide +kernel),bE (by decide +kernel),bE (by decide +kernel),bE (by decide +kernel)⟩
def ActK.mkSeen(h:St m):ActK rs (AA0 "seen") [m] :=
 ⟨bE (by decide +kernel),bE (by decide +kernel),bE (by decide +kernel),bE (by decide +kernel),bE (by decide +kernel),λ_=>⟨m,rfl,h⟩,bE (by decide +kernel),bE (by decide +kernel),bE (by decide +kernel),bE (by decide +kernel)⟩
def ActK.mkRung(h:St m):ActK rs (AA0 "rung") [m] :=
 ⟨bE (by decide +kernel),bE (by decide +kernel),bE (by decide +kernel),bE (by decide +kernel),bE (by decide +kernel),bE (by decide +kernel),λ_=>⟨m,rfl,h⟩,bE (by decide +kernel),bE (by decide +kernel),bE (by decide +kernel)⟩
def ActK.mkHush{w:D}{b:Bool}(h:fg w):ActK rs (AA0 "hush") [w,.bl b] :=
 ⟨bE (by decide +kernel),bE (by decide +kernel),bE (by decide +kernel),bE (by decide +kernel),bE (by decide +kernel),bE (by decide +kernel),bE (by decide +kernel),λ_=>⟨w,b,rfl,h⟩,bE (by decide +kernel),bE (by decide +kernel)⟩
end
def aE(ps:List (Str×Int))(rs:List (Str×List Str))(d:D):Prop:=∃(t:Int) (z:Str) (k num:Int) (x:Str) (ds:List D),d=.tup [.int t,.tup [.str z,.int k],.int num,.tup (.str x::ds)]/\1<=t/\D.tup [.str z,.int k]∈aC ps/\mI 4 ds/\ActK rs x ds
section
variable{ps:List (Str×Int)}{rs:List (Str×List Str)}
def aE.pl(h:aE ps rs d):Pln 6 d:=by
 obtain⟨t,z,k,num,x,ds,rfl,_,_,hp,_⟩:=h;exact .tup (.cons (.int _) (.cons (CL ⟨_,_,rfl⟩) (.cons (.int _) (.cons (.tup (.cons (.str _) hp)) .nil))))
def aE.bels(h:∀d∈ds,aE ps rs d):Bels k ds:=Bels.of λd hd=>bV 6 d (h d hd).pl
end
def ba:D->Str
 | .tup [_,_,_,.tup (.str x::_)]=>x
 | _=>AA0 ""
def bD:D->Str
 | .tup (_::.tup (.str z::_)::_)=>z
 | _=>AA0 ""
def stD:D->D
 | .tup (t::h::_)=>.tup [t,h]
 | _=>.non
def aV:D->Str
 | .tup [_,_,_,.tup (_::.str r::_)]=>r
 | _=>AA0 ""
def bn:D->D
 | .tup [_,_,_,.tup (_::_::u::_)]=>u
 | _=>.non
def dO:D->D
 | .tup [_,_,_,.tup (_::m::_)]=>m
 | _=>.non
def sayO:D->D
 | .tup [_,_,_,.tup (_::_::_::s::_)]=>s
 | _=>.non
def numO:D->D
 | .tup [_,_,n,_]=>n
 | _=>.non
def sortO:D->Str
 | .tup [_,_,_,.tup (_::_::.str s::_)]=>s
 | _=>AA0 ""
def onO:D->Bool
 | .tup [_,_,_,.tup (_::_::_::.bl b::_)]=>b
 | _=>false
def xW(rs:List (Str×List Str))(r:Str):List Str:=((rs.find? λp=>decide (p.1=r)).map (·.2)).getD []
noncomputable def kinds(log:List D)(k:Str):List D:=log.filter λd=>decide (ba d=k)
section
variable{ps:List (Str×Int)}{rs:List (Str×List Str)}
def jc(h:aE ps rs d)(e:ba d=AA0 "say"):∃(t:Int) (z:Str) (k num:Int) (r:Str) (u:D) (s:Str),d=.tup [.int t,.tup [.str z,.int k],.int num,.tup [.str (AA0 "say"),.str r,u,.str s]]/\1<=t/\D.tup [.str z,.int k]∈aC ps/\r∈rs.map (·.1)/\(u=.non\/St u):=by
 obtain⟨t,z,k,num,x,ds,rfl,h1,h2,_,ha⟩:=h;obtain rfl:x=AA0 "say":=e;obtain⟨r,u,s,rfl,hr,hu⟩:=ha.say rfl;exact⟨t,z,k,num,r,u,s,rfl,h1,h2,hr,hu⟩
def mD(h:aE ps rs d)(e:ba d=AA0 "change"):∃(t:Int) (z:Str) (k num:Int) (m:D) (s:Str),d=.tup [.int t,.tup [.str z,.int k],.int num,.tup [.str (AA0 "change"),m,.str s]]/\St m:=by
 obtain⟨t,z,k,num,x,ds,rfl,h1,h2,_,ha⟩:=h;obtain rfl:x=AA0 "change":=e;obtain⟨m,s,rfl,hm⟩:=ha.change rfl;exact⟨t,z,k,num,m,s,rfl,hm⟩
def AY(h:aE ps rs d)(e:ba d=AA0 "back"):∃(t:Int) (z:Str) (k num:Int) (m:D),d=.tup [.int t,.tup [.str z,.int k],.int num,.tup [.str (AA0 "back"),m]]/\St m:=by
 obtain⟨t,z,k,num,x,ds,rfl,h1,h2,_,ha⟩:=h;obtain rfl:x=AA0 "back":=e;obtain⟨m,rfl,hm⟩:=ha.back rfl;exact⟨t,z,k,num,m,rfl,hm⟩
def like_of(h:aE ps rs d)(e:ba d=AA0 "like"):∃(t:Int) (z:Str) (k num:Int) (m:D) (s:Str) (b:Bool),d=.tup [.int t,.tup [.str z,.int k],.int num,.tup [.str (AA0 "like"),m,.str s,.bl b]]/\St m:=by
 obtain⟨t,z,k,num,x,ds,rfl,h1,h2,_,ha⟩:=h;obtain rfl:x=AA0 "like":=e;obtain⟨m,s,b,rfl,hm⟩:=ha.like rfl;exact⟨t,z,k,num,m,s,b,rfl,hm⟩
end
section
variable{ps:List (Str×Int)}{rs:List (Str×List Str)}
def yY(h:aE ps rs d)(e:ba d=AA0 "read"):∃(t:Int) (z:Str) (k num:Int) (r:Str) (hs:List (D×Int)),d=.tup [.int t,.tup [.str z,.int k],.int num,.tup [.str (AA0 "read"),.str r,.tup (mL hs)]]/\(∀p∈hs,Hd p.1)/\hs.length<=12:=by
 obtain⟨t,z,k,num,x,ds,rfl,h1,h2,_,ha⟩:=h;obtain rfl:x=AA0 "read":=e;obtain⟨r,vs,rfl,hs,rfl,q1,q2⟩:=ha.read rfl;exact⟨t,z,k,num,r,hs,rfl,q1,q2⟩
def EK(h:aE ps rs d)(e:ba d=AA0 "seen"\/ba d=AA0 "rung"):∃(t:Int) (z:Str) (k num:Int) (x:Str) (m:D),d=.tup [.int t,.tup [.str z,.int k],.int num,.tup [.str x,m]]/\St m:=by
 obtain⟨t,z,k,num,x,ds,rfl,h1,h2,_,ha⟩:=h;obtain⟨m,rfl,hm⟩:∃m:D,ds=[m]/\St m:=e.elim (λe=>ha.seen e) λe=>ha.rung e
 exact⟨t,z,k,num,x,m,rfl,hm⟩
def FN(h:aE ps rs d)(e:ba d=AA0 "hush"):∃(t:Int) (z:Str) (k num:Int) (w:D) (b:Bool),d=.tup [.int t,.tup [.str z,.int k],.int num,.tup [.str (AA0 "hush"),w,.bl b]]/\fg w:=by
 obtain⟨t,z,k,num,x,ds,rfl,h1,h2,_,ha⟩:=h;obtain rfl:x=AA0 "hush":=e;obtain⟨w,b,rfl,hw⟩:=ha.hush rfl;exact⟨t,z,k,num,w,b,rfl,hw⟩
def EL(h:aE ps rs d)(e:ba d=AA0 "say"):∃s:Str,sayO d=.str s/\s.length<=100:=by
 obtain⟨t,z,k,num,x,ds,rfl,h1,h2,_,ha⟩:=h;obtain rfl:x=AA0 "say":=e;obtain⟨r,u,s,rfl,hr,hu⟩:=ha.say rfl;exact⟨s,rfl,ha.lenS rfl _ _ _ rfl⟩
def xQ(h:aE ps rs d)(e:ba d=AA0 "change"):∃s:Str,bn d=.str s/\s.length<=100:=by
 obtain⟨t,z,k,num,x,ds,rfl,h1,h2,_,ha⟩:=h;obtain rfl:x=AA0 "change":=e;obtain⟨m,s,rfl,hm⟩:=ha.change rfl;exact⟨s,rfl,ha.lenC rfl _ _ rfl⟩
end
local macro_rules | `(tactic| walk_at "ifs")=>`(tactic| simp only[Dx,AAE,↓reduceIte,ABi,AE0])
noncomputable def gW(rs:List (Str×List Str))(kvs:List (D×D))(d:D):Bool:=decide (bD d∈xW rs (aV d))&&(decide (bn d=.non)||match aW kvs (bn d) with
 | some e=>decide (aV e=aV d)
 | none=>false)
noncomputable def tx(rs:List (Str×List Str))(kvs:List (D×D))(d:D):List (D×D):=if gW rs kvs d=true then ie kvs (stD d) d else kvs
noncomputable def ay(rs:List (Str×List Str))(l:List D):List (D×D):=l.foldl (tx rs) []
def df:ay rs (l++[d])=tx rs (ay rs l) d:=by
 unfold ay;rw[ADt];rfl
noncomputable def ag(rs:List (Str×List Str))(log:List D):List (D×D):=ay rs (kinds log (AA0 "say"))
def jQ:kinds (log++[d]) k=kinds log k++if ba d=k then[d]else[]:=by
 unfold kinds;rw[ACR];congr 1;by_cases h:ba d=k
 ·rw[ABb,dT_ h,if_pos rfl,if_pos h];rfl
 ·rw[ABb,dF_ h,if_neg (by decide),if_neg h];rfl
def aH(h:d∈kinds log k):d∈log/\ba d=k:=⟨(AAa.mp h).1,oT_ (AAa.mp h).2⟩
def bi:(kinds log k).length<=log.length:=AAn _ _
structure TabK(l:List D)(kvs:List (D×D)):Prop where
 nd:(kvs.map (·.1)).Nodup
 en:∀p∈kvs,p.1=stD p.2/\p.2∈l
 len:kvs.length<=l.length
def fZ(h:p∈ie kvs k d):p=(k,d)\/p∈kvs:=by
 unfold ie at h;split at h
 ·obtain⟨q,hq,rfl⟩:=AAH.mp h
  split
  ·rename_i e;rw[e];exact .inl rfl
  ·exact .inr hq
 ·rcases AAT.mp h with h | h
  ·exact .inr h
  ·exact .inl (by simpa using h)
def oO:(ie kvs k d).length<=kvs.length+1:=by
 unfold ie;split
 ·rw[AA4];lia
 ·simp
def eA(l:List D):TabK l (ay rs l):=by
 refine be (P:=λl=>TabK l (ay rs l)) ⟨.nil,(λ_ z=>nomatch z),AA8 _⟩ (λl d ih=>?_) l
 rw[df];unfold tx;have hs:∀p∈ay rs l,p.1=stD p.2/\p.2∈l++[d]:=λp hp=>⟨(ih.en p hp).1,AAc _ (ih.en p hp).2⟩
 have hl:=ih.len;split
 ·refine⟨oN ih.nd,λp hp=>?_,?_⟩
  ·rcases fZ hp with rfl | hp
   ·exact⟨rfl,by simp⟩
   ·exact hs p hp
  ·have:=oO (kvs:=ay rs l) (k:=stD d) (d:=d)
   rw[AAB,AAV];lia
 ·exact⟨ih.nd,hs,by rw[AAB,AAV];lia⟩
def aR:TabK (kinds log (AA0 "say")) (ag rs log):=eA _
def wA(t:TabK l kvs)(h:aW kvs k=some e):k=stD e/\e∈l:=t.en _ (bG h)
noncomputable def byW(kvs:List (D×D))(d:D):Bool:=match aW kvs (dO d) with
 | some e=>decide (bD d=bD e)
 | none=>false
def NmK(d:D):Prop:=∃(a:D) (z:Str) (r1 r2:List D),d=.tup (a::.tup (.str z::r1)::r2)
section
variable{ps:List (Str×Int)}{rs:List (Str×List Str)}
def aE.nm(h:aE ps rs d):NmK d:=by
 obtain⟨t,z,k,num,x,ds,rfl,_⟩:=h;exact⟨_,_,_,_,rfl⟩
def aE.st(h:aE ps rs d):St (stD d):=by
 obtain⟨t,z,k,num,x,ds,rfl,_⟩:=h;exact⟨_,_,_,rfl⟩
def St.cm(ha:St a)(hb:St b):iG M eqN a b=true:=by
 obtain⟨t,z,k,rfl⟩:=ha;obtain⟨t',z',k',rfl⟩:=hb;show (if eqD M 29 (.int t) (.int t')=true then(if eqD M 29 (.tup [.str z,.int k]) (.tup [.str z',.int k'])=true then true else(if eqD M 28 (.str z) (.str z')=true then(if eqD M 28 (.int k) (.int k')=true then true else true)else true))else true)=true;repeat' split
 all_goals rfl
def tw(h:∀x∈xs,St x)(l:xs.length<64):SrtOk M xs:=by
 refine⟨l,λx hx=>?_,λx hx y hy=>(h x hx).cm (h y hy),.inr (.inr (.inr (.inl λx hx=>?_)))⟩
 ·obtain⟨t,z,k,rfl⟩:=h x hx;rfl
 ·obtain⟨t,z,k,rfl⟩:=h x hx;exact⟨_,_,rfl⟩
end
def hX(kvs:List (D×D))(log:List D)(k:D):Prop:=∃d∈kinds log (AA0 "back"),byW kvs d=true/\dO d=k
def oM(h:k∉kvs.map (·.1)):ie kvs k d=kvs++[(k,d)]:=by
 unfold ie;rw[if_neg];intro z;obtain⟨e,he⟩:=ADQ.mp z;exact h (AB2 (f:=(·.1)) (bG he))
def AF(ps:List (D×D))(h:(ps.map (·.1)).Nodup):dictOf ps=ps:=by
 revert h;refine be (P:=λps=>(ps.map (·.1)).Nodup->dictOf ps=ps) (λ_=>rfl) (λps p ih h=>?_) ps
 rw[AB1]at h;have h':=List.nodup_append.mp h;rw[bN,ih h'.1,oM];intro z;exact h'.2.2 _ z _ (by simp) rfl
def pG{M:Mem}{x:Str}{l:List Str}:inD M (.str x) (l.map .str)=decide (x∈l):=by
 unfold inD;rw[List.any_map];by_cases h:x∈l
 ·rw[dT_ h]
  exact AB9.mpr ⟨x,h,by show eqD M eqN (.str x) (.str x)=true;rw[aM];exact beq_self_eq_true x⟩
 ·rw[dF_ h]
  refine AB4.mpr λz=>?_
  obtain⟨y,hy,e⟩:=AB9.mp z;have e':eqD M eqN (.str y) (.str x)=true:=e;rw[aM]at e';exact h (eq_of_beq e' ▸ hy)
def oG{M:Mem}{l:List Str}:(l.map D.str).all (okD M eqN)=true:=AAZ.mpr λx hx=>by
 obtain⟨y,_,rfl⟩:=AAH.mp hx;exact aq
noncomputable def bd(rs:List (Str×List Str))(log:List D):List (D×D):=(ag rs log).filter λp=>@decide (¬hX (ag rs log) log p.1) (AAY _)
def lH:p∈bd rs log↔p∈ag rs log/\¬hX (ag rs log) log p.1:=by
 unfold bd;rw[List.mem_filter];exact and_congr Iff.rfl (@decide_eq_true_iff _ (AAY _))
def BA:((bd rs log).map (·.1)).Nodup:=(List.filter_sublist.map _).nodup aR.nd
def Hc(h:aW (ag rs log) k=some e)(hb:¬hX (ag rs log) log k):aW (bd rs log) k=some e:=eN (p:=(k,e)) BA (lH.mpr ⟨bG h,hb⟩)
noncomputable def br(kvs:List (D×D))(log:List D):List (D×D):=dictOf (((kinds log (AA0 "change")).filter (byW kvs)).map λd=>(dO d,bn d))
noncomputable def Fx(ch:List (D×D))(d:D):D:=.tup [stD d,.str (aV d),bn d,.str (bD d),(aW ch (stD d)).getD (sayO d),.bl (aW ch (stD d)).isSome]
noncomputable def Ik(rs:List (Str×List Str))(log:List D):List D:=(bd rs log).map λp=>Fx (br (bd rs log) log) p.2
structure BackL(rs:List (Str×List Str))(log:List D)(ys:List D):Prop where
 st:∀x∈ys,St x
 mem:∀x,x∈ys↔hX (ag rs log) log x
 nd:ys.Nodup
 up:ys.Pairwise λa b=>¬enc eqN b<enc eqN a
def Er:D->D
 | .tup [_,_,_,a]=>a
 | _=>.non
noncomputable def ku(l:List D):List (D×D):=l.foldl (λkvs d=>ie kvs (stD d) (Er d)) []
noncomputable def gD(log:List D):List (D×D):=ku (kinds log (AA0 "say"))
def fV:ku (l++[d])=ie (ku l) (stD d) (Er d):=by
 unfold ku;rw[ADt];rfl
def xh:gD (log++[d])=if ba d=AA0 "say" then ie (gD log) (stD d) (Er d)else gD log:=by
 unfold gD;rw[jQ];split
 ·rw[fV]
 ·rw[AB7]
def EM(l:List D):∀p∈ku l,∃d∈l,p=(stD d,Er d):=by
 refine be (P:=λl=>∀p∈ku l,∃d∈l,p=(stD d,Er d)) (λ_ z=>nomatch z) (λl d ih p hp=>?_) l
 rw[fV]at hp;rcases fZ hp with rfl | hp
 ·exact⟨d,by simp,rfl⟩
 ·obtain⟨e,he,r⟩:=ih p hp
  exact⟨e,AAc _ he,r⟩
def vO(l:List D):(ku l).length<=l.length:=by
 refine be (P:=λl=>(ku l).length<=l.length) (AA8 _) (λl d ih=>?_) l
 rw[fV,AAB,AAV];have:=oO (kvs:=ku l) (k:=stD d) (d:=Er d);lia
def Ris(l:List D):Prop:=l.Pairwise λa b=>enc eqN (stD a)<enc eqN (stD b)
def Ris.one(h:Ris l):∀a∈l,∀b∈l,stD a=stD b->a=b:=by
 induction l with
 | nil=>intro a ha;cases ha
 | cons x l ih =>
  obtain⟨h1,h2⟩:=List.pairwise_cons.mp h;intro a ha b hb e;rcases AAQ.mp ha with ea | ha'<;>rcases AAQ.mp hb with eb | hb'
  ·rw[ea,eb]
  ·have:=h1 b hb';rw[<-ea,e]at this;exact absurd this (ABD _)
  ·have:=h1 a ha';rw[<-eb,e]at this;exact absurd this (ABD _)
  ·exact ih h2 a ha' b hb' e
def BG(h:Ris l):∀d∈l,aW (ku l) (stD d)=some (Er d):=by
 revert h;refine be (P:=λl=>Ris l->∀d∈l,aW (ku l) (stD d)=some (Er d)) (λ_ _ z=>nomatch z) (λl x ih h d hd=>?_) l
 obtain⟨h1,_,h3⟩:=ADD.mp h;rw[fV];rcases AAT.mp hd with hd | hd
 ·have:=h3 d hd x (by simp)
  rw[ju (λe=>by rw[e]at this;exact ABD _ this)]
  exact ih h1 d hd
 ·rw[show d=x by simpa using hd,gf]
inductive Stn(rs:List (Str×List Str))(l:List D):D->Prop
 | top {d:D} (h:d∈l) (m:bD d∈xW rs (aV d)) (u:bn d=.non):Stn rs l d
 | sub {d e:D} (h:d∈l) (m:bD d∈xW rs (aV d)) (s:Stn rs l e) (u:bn d=stD e) (o:enc eqN (stD e)<enc eqN (stD d)) (r:aV e=aV d):Stn rs l d
def Stn.mem(h:Stn rs l d):d∈l:=by cases h<;>assumption
def Stn.nm(h:Stn rs l d):bD d∈xW rs (aV d):=by cases h<;>assumption
def Stn.more(h:Stn rs l d):Stn rs (l++l') d:=by
 induction h with
 | top h m u=>exact .top (AAc _ h) m u
 | sub h m _ u o r ih=>exact .sub (AAc _ h) m ih u o r
def Stn.less(hl:∀y∈l,enc eqN (stD y)<enc eqN (stD x))(h:Stn rs (l++[x]) d):d∈l->Stn rs l d:=by
 induction h with
 | top h m u=>exact λhd=>.top hd m u
 | sub h m s u o r ih =>
  intro hd;rename_i d e;rcases AAT.mp s.mem with he | he
  ·exact .sub hd m (ih he) u o r
  ·rw[show e=x by simpa using he]at o
   exact absurd (List.lt_trans o (hl d hd)) (ABD _)
def AL(hu:∀d∈l,bn d=.non\/St (bn d))(hS:∀d∈l,St (stD d))(h:Ris l):∀d∈l,aW (ay rs l) (stD d)=some d↔Stn rs l d:=by
 revert h hu hS;refine be (P:=λl=>(∀d∈l,bn d=.non\/St (bn d))->(∀d∈l,St (stD d))->Ris l->∀d∈l,aW (ay rs l) (stD d)=some d↔Stn rs l d) (λ_ _ _ _ z=>nomatch z) (λl x ih hu hS h d hd=>?_) l
 obtain⟨h1,_,h3⟩:=ADD.mp h;have lx:∀y∈l,enc eqN (stD y)<enc eqN (stD x):=λy hy=>h3 y hy x (by simp)
 have ih':=ih (λd hd=>hu d (AAc _ hd)) (λd hd=>hS d (AAc _ hd)) h1
 have tb:=eA (rs:=rs) l;have nx:aW (ay rs l) (stD x)=none:=by
  cases e:aW (ay rs l) (stD x) with
  | none=>rfl
  | some e' =>
   obtain⟨e1,e2⟩:=wA tb e;have:=lx e' e2;rw[<-e1]at this;exact absurd this (ABD _)
 rw[df];unfold tx;rcases AAT.mp hd with hd | hd
 ·have ne:stD d≠stD x:=λe=>by have:=lx d hd;rw[e]at this;exact ABD _ this
  have:aW (if gW rs (ay rs l) x=true then ie (ay rs l) (stD x) x else ay rs l) (stD d)=aW (ay rs l) (stD d):=by
   split
   ·exact ju ne
   ·rfl
  rw[this,ih' d hd];exact⟨Stn.more,λz=>z.less lx hd⟩
 ·obtain rfl:d=x:=by simpa using hd
  have sb:aW (if gW rs (ay rs l) d=true then ie (ay rs l) (stD d) d else ay rs l) (stD d)=some d↔gW rs (ay rs l) d=true:=by
   split
   ·rename_i e;rw[gf];exact⟨λ_=>e,λ_=>rfl⟩
   ·rename_i e;rw[nx];exact⟨λz=>(by cases z),λz=>absurd z e⟩
  rw[sb];unfold gW;rw[AAW,ABG,decide_eq_true_eq,decide_eq_true_eq];constructor
  ·rintro⟨m,u | u⟩
   ·exact .top (by simp) m u
   ·cases e:aW (ay rs l) (bn d) with
    | none=>rw[e]at u;cases u
    | some e' =>
     rw[e]at u;obtain⟨e1,e2⟩:=wA tb e;rw[e1]at e;exact .sub (by simp) m ((ih' e' e2).mp e).more e1 (lx e' e2) (oT_ u)
  ·intro s
   cases s with
   | top _ m u=>exact⟨m,.inl u⟩
   | @sub _ e _ m s u o r =>
    have he:e∈l:=by
     rcases AAT.mp s.mem with he | he
     ·exact he
     ·rw[show e=d by simpa using he]at o
      exact absurd o (ABD _)
    refine⟨m,.inr ?_⟩;rw[u,(ih' e he).mpr (s.less lx he)];exact dT_ r
def Az{α:Type}{p q:α->Bool}{x:α}(hpq:∀y,p y=true->q y=true)(hq:q x=true)(hp:p x=false):∀{l:List α},x∈l->(l.filter p).length<(l.filter q).length
 | y::l,h=>by
  have mono:∀l:List α,(l.filter p).length<=(l.filter q).length:=λl=>by
   induction l with
   | nil=>exact AA8 _
   | cons z l ih =>
    rw[ABb,ABb];cases e:p z with
    | true=>rw[hpq z e,if_pos rfl,if_pos rfl,AAK,AAK];lia
    | false =>
     rw[if_neg (by decide)]
     split
     ·rw[AAK];lia
     ·exact ih
  rw[ABb,ABb];rcases AAQ.mp h with rfl | h
  ·rw[hp,hq,if_neg (by decide),if_pos rfl,AAK]
   have:=mono l;lia
  ·have ih:=Az hpq hq hp h
   cases e:p y with
   | true=>rw[hpq y e,if_pos rfl,if_pos rfl,AAK,AAK];lia
   | false =>
    rw[if_neg (by decide)]
    split
    ·rw[AAK];lia
    ·exact ih
def HdP(M:Mem)(q:Nat):Prop:=∃n:Int,M[q]?=some (.lst [.int n])
def Hl(M B:Mem)(q:Nat):Prop:=∃(n:Int) (L:Mem),B=M.set q (.lst [.int n])++L
section
variable{M B:Mem}{q m i:Nat}{n:Int}{x:MO}
def BB(h:M[q]?=some x):M.set q x=M:=by
 refine ADn λj=>?_
 by_cases e:q=j
 ·subst e;rw[AAo (aN h),h]
 ·rw[AAs e]
def HdP.lt(h:HdP M q):q<M.length:=by obtain⟨n,h⟩:=h;exact aN h
def HdP.start(h:HdP M q):Hl M M q:=by
 obtain⟨n,h⟩:=h;exact⟨n,[],by rw[AB7,BB h]⟩
def Hl.len(h:Hl M B q):M.length<=B.length:=by
 obtain⟨n,L,rfl⟩:=h;rw[AAB,AB0];lia
def Hl.hd(hq:q<M.length)(h:Hl M B q):HdP B q:=by
 obtain⟨n,L,rfl⟩:=h;exact⟨n,by rw[AAP (by rw[AB0];exact hq),AAo hq]⟩
def Hl.set(hq:q<M.length)(h:Hl M B q):Hl M (B.set q (.lst [.int n])) q:=by
 obtain⟨n',L,rfl⟩:=h;exact⟨n,L,by rw[List.set_append_left _ _ (by rw[AB0];exact hq),List.set_set]⟩
def Hl.more(h:Hl M B q):Hl M (B++L) q:=by
 obtain⟨n',L',rfl⟩:=h;exact⟨n',L'++L,by rw[AAg]⟩
def Hl.setO(h:Hl M B q)(hm:M.length<=m):Hl M (B.set m x) q:=by
 obtain⟨n',L,rfl⟩:=h;exact⟨n',L.set (m-M.length) x,by rw[AE5 _ _ (by rw[AB0];exact hm),AB0]⟩
def Hl.old(h:Hl M B q)(hi:i≠q)(e:M[i]?=some x):B[i]?=some x:=by
 obtain⟨n',L,rfl⟩:=h;rw[AAP (by rw[AB0];exact aN e),AAs (ABM hi)]
 exact e
def Hl.oldL(h:Hl M B q)(hi:i≠q)(e:ar M i xs):ar B i xs:=by
 rcases e with e | e | e
 ·exact .inl (h.old hi e)
 ·exact .inr (.inl (h.old hi e))
 ·exact .inr (.inr (h.old hi e))
def Hl.fin(h:Hl M B q)(b:Bel M.length d)(k:∀n:Int,R d (M.set q (.lst [.int n]))):bj M R d B:=by
 obtain⟨n',L,rfl⟩:=h;exact bj.chg (Chg.set .refl (.cons (.int _) .nil)) (k n') b (AAb _ _)
def Hl.finL(h:Hl M B q)(hm:M.length<=m)(e:B[m]?=some (.lst xs))(b:Bels M.length xs)(k:∀n:Int,R (.ref M.length) (M.set q (.lst [.int n])++[.lst xs])):bj M R (.ref m) B:=by
 obtain⟨n',L,rfl⟩:=h;exact bj.chgL (Chg.set .refl (.cons (.int _) .nil)) (k n') hm e (AAb _ _) b
end
def CG(u:Option Int)(n:Nat):AD2 none u 1 n=AD2 (some ((0:Nat):Int)) u 1 n:=by
 unfold AD2;simp only[show (1:Int) > 0 by decide,if_true]
 congr 1
def Bz(x:Str)(b:Nat):(ADG x none (some (b:Int))).cps.toList=x.cps.toList.take b:=by
 have e:=yT x (a:=0) (b:=b) (AAX _);rw[jb]at e ⊢;rw[CG];rw[e];simp
def By(x:Str)(b:Nat):(ADG x none (some (b:Int))).length<=b:=by
 rw[eQ,Bz,AAv];lia
def Bw{M:Mem}{l:List Str}(h:l.length<64):SrtOk M (l.map .str) :=
 ⟨by rw[AA4];exact h,λx hx=>by obtain⟨y,_,rfl⟩:=AAH.mp hx;rfl,λx hx y hy=>by
  obtain⟨a,_,rfl⟩:=AAH.mp hx;obtain⟨b,_,rfl⟩:=AAH.mp hy;rfl,.inl λx hx=>by obtain⟨y,_,rfl⟩:=AAH.mp hx;exact⟨y,rfl⟩⟩
def qV{ys:List D}{xs:List Str}(h:ys.Perm (xs.map .str)):∃zs:List Str,ys=zs.map .str/\zs.Perm xs:=BO D.str unS (λ_=>rfl) h
def yg:gx (pU kvs k d) k=some d:=by
 unfold pU;split
 ·rename_i hs
  obtain⟨p,hp,e⟩:=AB9.mp hs;unfold gx;rw[AET];have e2:((λp:Str×D=>decide (p.1=k)) ∘ λp:Str×D=>if p.1=k then(p.1,d)else p)=λp=>decide (p.1=k):=by
   funext p;show decide ((if p.1=k then(p.1,d)else p).1=k)=decide (p.1=k);split<;>rfl
  rw[e2];cases hf:kvs.find? λp=>decide (p.1=k) with
  | none=>exact absurd e (by simpa using List.find?_eq_none.mp hf p hp)
  | some q =>
   have hk:q.1=k:=by
    have:=ACx hf;exact oT_ this
   show some (if q.1=k then(q.1,d)else q).2=_;rw[if_pos hk]
 ·rename_i hs
  unfold gx;have:kvs.find? (λp=>decide (p.1=k))=none:=List.find?_eq_none.mpr λp hp z=>hs (AB9.mpr ⟨p,hp,z⟩)
  rw[ADu,this];simp
def wW(h:j≠k):gx (pU kvs k d) j=gx kvs j:=by
 unfold pU;split
 ·unfold gx
  rw[AET];have e:((λp:Str×D=>decide (p.1=j)) ∘ λp:Str×D=>if p.1=k then(p.1,d)else p)=λp=>decide (p.1=j):=by
   funext p;show decide ((if p.1=k then(p.1,d)else p).1=j)=decide (p.1=j);split<;>rfl
  rw[e];cases hf:kvs.find? λp=>decide (p.1=j) with
  | none=>rfl
  | some q =>
   have hq:q.1=j:=by
    have:=ACx hf;exact oT_ this
   show some (if q.1=k then(q.1,d)else q).2=some q.2;rw[if_neg (by rw[hq];exact h)]
 ·unfold gx
  rw[ADu];cases hf:kvs.find? λp=>decide (p.1=j) with
  | none=>simp[ABM h]
  | some q=>rfl
noncomputable def db(log:List D)(k name:Str):List D:=(kinds log k).filter λd=>decide (bD d=name)
def jp(h:d∈db log k name):d∈log/\ba d=k/\bD d=name:=⟨(aH (AAa.mp h).1).1,(aH (AAa.mp h).1).2,oT_ (AAa.mp h).2⟩
def fN:(db log k name).length<=log.length:=AAq (AAn _ _) bi
def xu:db (log++[d]) k name=db log k name++if ba d=k/\bD d=name then[d]else[]:=by
 unfold db;rw[jQ,ACR];congr 1;by_cases h1:ba d=k
 ·rw[if_pos h1,ABb,List.filter_nil]
  by_cases h2:bD d=name
  ·rw[dT_ h2,if_pos rfl,if_pos ⟨h1,h2⟩]
  ·rw[dF_ h2,if_neg (by decide),if_neg λz=>h2 z.2]
 ·rw[if_neg h1,if_neg λz=>h1 z.1];rfl
noncomputable def cA(log:List D)(k name:Str):List D:=(db log k name).map dO
def unV:D->D×Int
 | .tup [h,.int c]=>(h,c)
 | _=>(.non,0)
def GB:D->List (D×Int)
 | .tup vs=>vs.map unV
 | _=>[]
def Bq:GB (.tup (mL hs))=hs:=by
 show (mL hs).map unV=hs;unfold mL;rw[ABI];exact ACh _
noncomputable def oA(log:List D)(name r:Str):List D:=((db log (AA0 "read") name).filter λd=>decide (aV d=r)).map bn
structure VbAt(B:Mem)(n:Nat)(tab:List (Str×D))(f:Str->List D):Prop where
 at_:B[n]?=some (.dct tab)
 got:∀k d,gx tab k=some d->∃m,d=.ref m/\n+1<m/\B[m]?=some (.lst (f k))
 no:∀k,gx tab k=none->f k=[]
 one:∀k k' m,gx tab k=some (.ref m)->gx tab k'=some (.ref m)->k=k'
def VbAt.pre(h:VbAt B n tab f)(p:B <+: B'):VbAt B' n tab f :=
 ⟨aT p h.at_,λk d hd=>let ⟨m,e,l,g⟩:=h.got k d hd;⟨m,e,l,aT p g⟩,h.no,h.one⟩
def VbAt.kids(h:VbAt B n tab f)(g0:B[q0]?=some (.lst [])):∃q,(gx tab k).getD (.ref q0)=.ref q/\B[q]?=some (.lst (f k)):=by
 cases e:gx tab k with
 | none=>exact⟨q0,rfl,by rw[h.no k e];exact g0⟩
 | some d =>
  obtain⟨m,rfl,_,g⟩:=h.got k d e;exact⟨m,rfl,g⟩
noncomputable def tG(log:List D)(name:Str)(e:D):Bool:=decide (bD e=name)||(decide (stD e∈cA log (AA0 "seen") name)||(oA log name (aV e)).any λv=>fq (GB v) (IY e) (numD e))
noncomputable def Ao(log:List D)(name:Str):List (D×D):=dictOf ((db log (AA0 "hush") name).map λd=>(dO d,bn d))
def HushP(log:List D)(name:Str)(w:D):Prop:=aW (Ao log name) w=some (.bl true)
noncomputable def bz(log:List D)(name:Str)(w:D):Bool:=decide (aW (Ao log name) w=some (.bl true))
noncomputable def aG(H:D->Bool)(kvs:List (D×D)):List D:=kvs.foldl (λacc p=>if (H p.1||decide (bn p.2∈acc))=true then acc++[p.1]else acc) []
def bx:aG H (kvs++[p])=if (H p.1||decide (bn p.2∈aG H kvs))=true then aG H kvs++[p.1]else aG H kvs:=by
 unfold aG;rw[ADt];rfl
def jt:∀x∈aG H kvs,x∈kvs.map (·.1):=by
 refine be (P:=λkvs=>∀x∈aG H kvs,x∈kvs.map (·.1)) (λx hx=>nomatch hx) (λkvs p ih x hx=>?_) kvs
 rw[bx]at hx;rw[AB1,AAT];split at hx
 ·rcases AAT.mp hx with hx | hx
  ·exact .inl (ih x hx)
  ·exact .inr hx
 ·exact .inl (ih x hx)
def Ap:(aG H kvs).length<=kvs.length:=by
 refine be (P:=λkvs=>(aG H kvs).length<=kvs.length) (AA8 _) (λkvs p ih=>?_) kvs
 rw[bx,AAB,AAV];split
 ·rw[AAB,AAV];lia
 ·lia
def begB(y n:Str):Bool:=AER y n && !(!gB (ADG y (some (n.length:Int)) (some ((n.length:Int)+1))) "a" && !gB "z" (ADG y (some (n.length:Int)) (some ((n.length:Int)+1))))
def fM(s:D)(name:Str):Bool:=match s with
 | .str x=>((ABp x (AA0 "@")).drop 1).any λy=>begB y name
 | _=>false
noncomputable def BF(rs:List (Str×List Str))(log:List D)(e:D):D:=(aW (br (bd rs log) log) (stD e)).getD (sayO e)
def fx(rs:List (Str×List Str))(name:Str):List Str:=(rs.filter λp=>decide (name∈p.2)).map (·.1)
noncomputable def pV(kvs:List (D×D))(name:Str):List D:=(kvs.map (·.1)).filter λs=>decide (bD ((aW kvs s).getD .non)=name)
noncomputable def Bn(rs:List (Str×List Str))(log:List D)(name:Str)(e:D):Option Str :=
 if fM (BF rs log e) name=true then some (AA0 "named")
 else if bn e∈pV (ag rs log) name then some (AA0 "answered")
 else if (bz log name (.tup [.str (AA0 "room"),.str (aV e)])||decide (stD e∈aG (λs=>bz log name (.tup [.str (AA0 "under"),s])) (ag rs log)))=true then none else some (AA0 "heard")
noncomputable def yW(rs:List (Str×List Str))(log:List D)(name:Str)(e:D):Bool:=decide (aV e∈fx rs name)&&(!decide (stD e∈cA log (AA0 "rung") name) && !bz log name (.tup [.str (AA0 "person"),.str (bD e)]))
noncomputable def kE(rs:List (Str×List Str))(log:List D)(name:Str)(e:D):Option D:=if yW rs log name e=true then(Bn rs log name e).map λw=>.tup [stD e,.str w]else none
noncomputable def bL(rs:List (Str×List Str))(log:List D)(name:Str):List D:=((bd rs log).map (·.2)).filter λe=>!tG log name e
noncomputable def aA(rs:List (Str×List Str))(log:List D)(name:Str):List D:=(bL rs log name).filterMap (kE rs log name)
def fg.eq(ha:fg a)(hb:fg b):eqD M eqN a b=decide (a=b):=by
 have e2:∀{x y:Str}{c d:D},eqD M eqN (.tup [.str x,c]) (.tup [.str y,d])=((x==y)&&(eqD M 29 c d&&true)):=λ{x y c d}=>by
  show (eqD M 29 (.str x) (.str y)&&(eqD M 29 c d&&true))=_;rw[aM]
 have k:∀{x y:Str}{c d:D},eqD M 29 c d=decide (c=d)->eqD M eqN (.tup [.str x,c]) (.tup [.str y,d])=decide (D.tup [.str x,c]=.tup [.str y,d]):=λ{x y c d} h=>by
  rw[e2,h,ACE];simp
 have ss:∀{x y:Str},eqD M 29 (.str x) (.str y)=decide (D.str x=.str y):=λ{x y}=>by
  rw[aM,ACE];simp
 rcases ha with⟨x,rfl⟩|⟨x,rfl⟩|⟨t,z,n,rfl⟩<;>rcases hb with⟨y,rfl⟩|⟨y,rfl⟩|⟨t',z',n',rfl⟩
 ·exact k ss
 ·exact k ss
 ·exact k (Eq.trans (b:=false) rfl (dF_ (λz=>nomatch z)).symm)
 ·exact k ss
 ·exact k ss
 ·exact k (Eq.trans (b:=false) rfl (dF_ (λz=>nomatch z)).symm)
 ·exact k (Eq.trans (b:=false) rfl (dF_ (λz=>nomatch z)).symm)
 ·exact k (Eq.trans (b:=false) rfl (dF_ (λz=>nomatch z)).symm)
 ·exact k (St.eq (n:=27) ⟨_,_,_,rfl⟩ ⟨_,_,_,rfl⟩)
def oz{M:Mem}{l:List D}(h:∀x∈l,fg x):l.all (okD M eqN)=true:=AAZ.mpr λx hx=>(qT 3 eqN x (by decide) (h x hx).pl).1
def pF(hx:fg x)(h:∀x∈l,fg x):inD M x l=decide (x∈l):=by
 unfold inD;by_cases hm:x∈l
 ·rw[dT_ hm]
  exact AB9.mpr ⟨x,hm,by rw[hx.eq hx];exact dT_ rfl⟩
 ·rw[dF_ hm]
  refine AB4.mpr λz=>?_
  obtain⟨y,hy,e⟩:=AB9.mp z;rw[(h y hy).eq hx]at e;exact hm (oT_ e ▸ hy)
def IK(hx:x=.non\/St x)(h:∀x∈l,St x):inD M x l=decide (x∈l):=by
 rcases hx with rfl | hx
 ·unfold inD
  have:D.non∉l:=λz=>by obtain⟨t,z,k,e⟩:=h _ z;cases e
  rw[dF_ this];refine AB4.mpr λz=>?_
  obtain⟨y,hy,e⟩:=AB9.mp z;obtain⟨t,z,k,rfl⟩:=h y hy;cases e
 ·unfold inD
  by_cases hm:x∈l
  ·rw[dT_ hm]
   exact AB9.mpr ⟨x,hm,by rw[show eqN=28+2 from rfl,hx.eq hx];exact dT_ rfl⟩
  ·rw[dF_ hm]
   refine AB4.mpr λz=>?_
   obtain⟨y,hy,e⟩:=AB9.mp z;rw[show eqN=28+2 from rfl,(h y hy).eq hx]at e;exact hm (oT_ e ▸ hy)
def eW(x:Str):Bool:=!gB x "a" && !gB "z" x
def dB:DSp:=λds M R=>∃x:Str,ds=[.str x]/\R (.bl (eW x)) M
def py:cE dB io:=by rintro ds M R ⟨x,rfl,_⟩;rfl
def lr:DTS:=bw (sw qLe qLe (dC (.str "a")) (ab 0) (dC (.str "z")))
def pZ:WpT dB 1 lr:=by
 rintro ds M R ⟨x,rfl,h⟩;unfold lr;walk_at "dl";unfold eW at h;cases e:gB x "a" with
 | true=>rw[e]at h;exact bJ (bj.now h)
 | false=>rw[e]at h;exact bT (bj.now h)
def qY(T:Tops P w K mg base):Cal P w K mg base 1 "is_letter" io dB :=
 Cal.byD (N:=["sign"]) T.b T.f_is_letter (by walk_at "sc") py (by walk_at "dv") pZ
def Small(x:Str):Prop:=∀c∈x.cps.toList,97<=c/\c<=122
def letC(c:Nat):Bool:=decide (97<=c)&&decide (c<=122)
def CF(c:Nat):eW ⟨#[c]⟩=letC c:=by
 have lt1:∀a b:Nat,decide ([a] < [b])=decide (a<b):=λa b=>by rw[StrLaws.lt_cons_cons,StrLaws.lt_nil_nil];simp
 have e1:gB ⟨#[c]⟩ "a" = decide (c<97):=lt1 c 97;have e2:gB "z" ⟨#[c]⟩=decide (122<c):=lt1 122 c;unfold eW letC;rw[e1,e2,ACE];simp only[AAW,Bool.not_eq_true',decide_eq_false_iff_not,decide_eq_true_eq];lia
def Bg(x:Str)(h:x.cps.toList=[]):eW x=false:=by
 have:x=⟨#[]⟩:=yN h;subst this;unfold eW;have:gB (⟨#[]⟩:Str) "a" = true:=StrLaws.lt_nil_cons 97 [];rw[this];rfl
def mE(t n:Str):Bool:=AER t n && !eW (ADG t (some (n.length:Int)) (some ((n.length:Int)+1)))
def bu:DSp:=λds M R=>∃t n:Str,ds=[.str t,.str n]/\t.length<=100/\n.length<=100/\R (.bl (mE t n)) M
def gI:cE bu bW:=by rintro ds M R ⟨t,n,rfl,_⟩;rfl
def cF:DTS:=bw (sy (dMs lK (ab 0) (aa (ab 1) af)) (Dd (dCB dB (aa (ab 2) af))))
def dn:DTS:=ax (aX (dSl (ab 0) (jV (dCB mN (aa (ab 1) af))) (jV (dOp bv (dCB mN (aa (ab 1) af)) (dC (.int 1))))) 2) (cF)
def hZ:WpT bu 3 dn:=by
 rintro ds M R ⟨t,n,rfl,ht,hn,h⟩;simp only[dn,cF];walk_at "dl";refine⟨ak (by lia),ak (by lia),ak (by lia),?_⟩
 unfold mE at h;cases e:AER t n with
 | false =>
  rw[e]at h;exact bJ (bj.now h)
 | true =>
  rw[e]at h;exact bT ⟨_,rfl,bj.now h⟩
def iy(T:Tops P w K mg base):Cal P w K mg base 2 "begins_with_name" bW bu :=
 Cal.byD (N:=["text","name","behind"]) T.b T.f_begins_with_name (by walk_at "sc") gI (by have:=qY T;walk_at "dv") hZ
def fi:DSp:=λds M R=>∃s n:Str,ds=[.str s,.str n]/\s.length<=100/\n.length<=100/\R (.bl (fM (.str s) n)) M
def rJ:cE fi jJ:=by rintro ds M R ⟨t,n,rfl,_⟩;rfl
def yR(x y:Str):(ABp x y).length<=x.length+2:=by
 unfold ABp;split
 ·simp
 ·split
  ·simp
  ·rw[length_partsBetween]
   have:=StrLaws.occ_length_le x y 0 x.length (x.length+1);lia
def cut1:cutD xs (some 1) none=xs.drop 1:=by
 unfold cutD;rw[HT.sIx_none,show (1:Int)=((1:Nat):Int)from rfl,HT.sIx_nat];by_cases h:1<=xs.length
 ·rw[Nat.min_eq_left h,ACH (by rw[ABQ];exact AA8 _)]
 ·have:xs=[]:=ACk (by lia)
  subst this;rfl
def nE:DTS:=bw (dCB GF (aa (dLC 1 [1] (bP (dSl (dMs qS (ab 0) (aa (dC (.str "@")) af)) (jV (dC (.int 1))) fe)) (am 0) uu (dCB bu (aa (ab 0) (aa (ab 1) af)))) af))
theorem sR:WpT fi 2 nE:=by
 rintro ds M R ⟨s,n,rfl,hs,hnl,h⟩;simp only[nE];walk_at "dl";have sl:=yR s (AA0 "@");refine⟨⟨by decide,ak (by lia),ak (by lia)⟩,_,ao,_,ao,λ_=>?_⟩
 rw[cut1];refine bZ (λd=>match d with | .str y=>.bl (mE y n) | _=>.non) (λS=>∃a,S=[a,some (.str n)]) ao _ _ _ (λx hx S ⟨a,hS⟩=>?_) ⟨_,rfl⟩ ?_ ?_
 ·rw[<-AEC]at hx
  obtain⟨y,hy,rfl⟩:=AAH.mp hx;subst hS;refine⟨[some (.str y),some (.str n)],⟨_,rfl⟩,λY hY=>?_⟩
  walk_at "dl";refine⟨y,n,rfl,?_,hnl,hY⟩;obtain⟨k,i,j,_,_,rfl⟩:=(xc s 64 (by decide) y).mp hy
  rw[eQ,StrLaws.strSub_toList,AAv,ABQ,<-eQ];lia
 ·rw[AAU,ABQ,AA4]
  exact ak (by lia)
 ·refine⟨((ABp s (AA0 "@")).drop 1).map (mE · n),?_,?_⟩
  ·have:([]++((List.map D.str (ABp s (AA0 "@"))).drop 1).map λd=>match d with | .str y=>D.bl (mE y n) | _=>.non)=bls (((ABp s (AA0 "@")).drop 1).map (mE · n)):=by
    rw[AAl,<-AEC,ABI];unfold bls;rw[ABI];rfl
   rw[this];exact ao
  ·have:(((ABp s (AA0 "@")).drop 1).map (mE · n)).any id=fM (.str s) n:=by
    rw[List.any_map];rfl
   rw[this];exact bj.bl h (by rw[AAg,AAg];exact AAb _ _)
def tP(T:Tops P w K mg base):Cal P w K mg base 3 "is_named" jJ fi :=
 Cal.byD (N:=["saying","name"]) T.b T.f_is_named (by walk_at "sc") rJ (by have:=iy T;walk_at "dv") sR
def fh:DSp:=λds M R=>∃(ps:List (Str×Int)) (rs:List (Str×List Str)) (name:Str),ds=[aK ps rs,.str name]/\rs.length<=1000/\R (.ref M.length) (M++[.lst ((fx rs name).map .str)])
def rH:cE fh jI:=by rintro ds M R ⟨ps,rs,name,rfl,_⟩;rfl
def nD:DTS:=bw (dLC 1 [1] (bP (dOp qIx (ab 0) (dC (.int 1)))) (am 0) (aB (dOp qIn (ab 1) (dOp qIx (ab 0) (dC (.int 1))))) (dOp qIx (ab 0) (dC (.int 0))))
def sQ:WpT fh 2 nD:=by
 rintro ds M R ⟨ps,rs,name,rfl,hl,h⟩;simp only[nD,aK];walk_at "dl";intro _;refine aL (λd=>match d with | .tup [_,.tup ms]=>decide (D.str name∈ms) | _=>false) (λd=>match d with | .tup (x::_)=>x | _=>.non) (λS=>∃a,S=[a,some (.str name)]) trivial _ _ _ ?_ ⟨_,rfl⟩ (by rw[AAU,AA4];exact ak (by lia)) ?_
 ·rintro d hm S ⟨a,rfl⟩
  obtain⟨p,hp,rfl⟩:=AAH.mp hm;refine⟨[some (gG p),some (.str name)],⟨_,rfl⟩,λY Z hYZ=>?_⟩
  have hYZ:if decide (D.str name∈p.2.map D.str)=true then Y (.str p.1) [some (gG p),some (.str name)] M else Z [some (gG p),some (.str name)] M:=hYZ;have em:(D.str name∈p.2.map D.str)↔name∈p.2:=by
   constructor
   ·intro z
    obtain⟨y,hy,e⟩:=AAH.mp z;injection e with e
    exact e ▸ hy
   ·exact λz=>AB2 z
  unfold gG at hYZ ⊢;walk_at "dl";refine⟨⟨aq,oG⟩,?_⟩;rw[pG];by_cases e:name∈p.2
  ·rw[dT_ e]
   rw[dT_ (em.mpr e)]at hYZ;exact hYZ
  ·rw[dF_ e]
   rw[dF_ (λz=>e (em.mp z))]at hYZ
   exact hYZ
 ·rw[AAl,List.filter_map,ABI]
  have e:((rs.filter ((λd:D=>match d with | .tup [_,.tup ms]=>decide (D.str name∈ms) | _=>false) ∘ gG)).map ((λd:D=>match d with | .tup (x::_)=>x | _=>.non) ∘ gG))=(fx rs name).map .str:=by
   unfold fx;rw[ABI];have:((λd:D=>match d with | .tup [_,.tup ms]=>decide (D.str name∈ms) | _=>false) ∘ gG)=λp:Str×List Str=>decide (name∈p.2):=by
    funext p;show decide (D.str name∈p.2.map D.str)=decide (name∈p.2);rw[decide_eq_decide];constructor
    ·intro z
     obtain⟨y,hy,e⟩:=AAH.mp z;injection e with e
     exact e ▸ hy
    ·exact λz=>AB2 z
   rw[this];rfl
  rw[e];exact .inl h
def tO(T:Tops P w K mg base):Cal P w K mg base 1 "rooms_of" jI fh :=
 Cal.byD (N:=["house","name"]) T.b T.f_rooms_of (by walk_at "sc") rH (by walk_at "dv") sQ
def cK:DSp:=λds M R=>∃(ps:List (Str×Int)) (rs:List (Str×List Str)) (r:Str),ds=[aK ps rs,.str r]/\r∈rs.map (·.1)/\R (.tup ((xW rs r).map .str)) M
def mS:cE cK fL:=by rintro ds M R ⟨ps,rs,r,rfl,_⟩;rfl
def zD:xW (p::rs) r=if p.1=r then p.2 else xW rs r:=by
 unfold xW;rw[ABV];by_cases h:p.1=r
 ·rw[dT_ h,if_pos h];rfl
 ·rw[dF_ h,if_neg h]
def mM:DTS:=wI
def ka:DTS:=ax (mV (bP (dOp qIx (ab 0) (dC (.int 1)))) (mT 2 (bX (am 2) (bX (am 3) mU))) (dIf (aB (dOp qEq (ab 2) (ab 1))) (bw (ab 3)) bq)) (mM)
def oy:WpT cK 4 ka:=by
 rintro ds M R ⟨ps,rs,r,rfl,hr,h⟩;simp only[ka,aK];walk_at "dl";intro _;refine jx (λys S M'=>∃qs a b,ys=qs.map gG/\M'=M/\S=[some (aK ps rs),some (.str r),a,b]/\xW rs r=xW qs r/\r∈qs.map (·.1)) ?_ ?_ _ _ _ ⟨rs,_,_,rfl,rfl,rfl,rfl,hr⟩
 ·rintro S M' ⟨qs,a,b,hq,rfl,rfl,e,hm⟩
  have:qs=[]:=by cases qs<;>simp_all
  subst this;cases hm
 ·rintro x xs S M' ⟨qs,a,b,hq,rfl,rfl,e,hm⟩ L hL
  cases qs with
  | nil=>cases hq
  | cons p qs =>
   rw[AAf]at hq;injection hq with h1 h2
   subst h1;refine⟨trivial,?_⟩;unfold gG;walk_at "dl";refine⟨trivial,⟨aq,aq⟩,?_⟩;rw[aM];rw[zD]at e;by_cases hq:p.1=r
   ·rw[beq_iff_eq.mpr hq]
    rw[if_pos hq]at e;refine bT (bj.now ?_);rw[<-e];exact h
   ·rw[beq_eq_false_iff_ne.mpr hq]
    rw[if_neg hq]at e;rw[AAf,AAQ]at hm;exact bJ (Fgt.now (hL _ _ ⟨qs,_,_,h2,rfl,rfl,e,hm.resolve_left (ABM hq)⟩))
def oX(T:Tops P w K mg base):Cal P w K mg base 1 "members_of" fL cK :=
 Cal.byD (N:=["house","room","told","members"]) T.b T.f_members_of (by walk_at "sc") mS (by walk_at "dv") oy
def cu:DSp:=λds M R=>∃(a b:D) (r:List D),ds=[.tup (a::b::r)]/\R (.tup [a,b]) M
def rG:cE cu jH:=by rintro ds M R ⟨a,b,r,rfl,_⟩;rfl
def np:DTS:=bw (fy (aa (dOp qIx (ab 0) (dC (.int 0))) (aa (dOp qIx (ab 0) (dC (.int 1))) af)))
def sP:WpT cu 1 np:=by
 rintro ds M R ⟨a,b,r,rfl,h⟩;simp only[np];walk_at "dl";exact⟨ak (by lia),bj.now h⟩
def iw(T:Tops P w K mg base):Cal P w K mg base 1 "stamp_of" jH cu :=
 Cal.byD (N:=["deed"]) T.b T.f_stamp_of (by walk_at "sc") rG (by walk_at "dv") sP
def aO:DSp:=λds M R=>∃(t x:D) (r1 r2:List D),ds=[.tup (t::.tup (x::r1)::r2)]/\R x M
def pj:cE aO ij:=by rintro ds M R ⟨t,x,r1,r2,rfl,_⟩;rfl
def lc:DTS:=bw (dOp qIx (dOp qIx (ab 0) (dC (.int 1))) (dC (.int 0)))
def pX:WpT aO 1 lc:=by
 rintro ds M R ⟨t,x,r1,r2,rfl,h⟩;simp only[lc];walk_at "dl";exact bj.now h
def bQ(T:Tops P w K mg base):Cal P w K mg base 1 "person_of" ij aO :=
 Cal.byD (N:=["deed"]) T.b T.f_person_of (by walk_at "sc") pj (by walk_at "dv") pX
def dA:DSp:=λds M R=>∃(t hd:D) (num:Int) (r:List D) (hs:List (D×Int)),ds=[.tup (t::hd::.int num::r),.tup (mL hs)]/\Hd hd/\(∀p∈hs,Hd p.1)/\hs.length<=1000/\R (.bl (fq hs hd num)) M
def pp:cE dA ik:=by rintro ds M R ⟨t,hd,num,r,hs,rfl,_⟩;rfl
def iP:DTS:=bw (dC (.bl false))
def lp:DTS:=ax (mV (bP (ab 1)) (mT 2 (bX (am 2) (bX (am 3) mU))) (dIf (aB (dOp qEq (ab 2) (dOp qIx (ab 0) (dC (.int 1))))) (bw (dOp qLt (dOp qIx (ab 0) (dC (.int 2))) (ab 3))) bq)) (iP)
def pY:WpT dA 4 lp:=by
 rintro ds M R ⟨t,hd,num,r,hs,rfl,hh,hv,hl,h⟩;simp only[lp];walk_at "dl";refine λ_=>?_
 refine jx (λys S M'=>M'=M/\∃qs a b,ys=mL qs/\(∀p∈qs,Hd p.1)/\fq qs hd num=fq hs hd num/\S=[some (.tup (t::hd::.int num::r)),some (.tup (mL hs)),a,b]) ?_ ?_ _ _ _ ⟨rfl,hs,_,_,rfl,hv,rfl,rfl⟩
 ·rintro S M' ⟨rfl,qs,a,b,e,_,w,rfl⟩
  obtain rfl:qs=[]:=by
   cases qs with
   | nil=>rfl
   | cons q qs=>cases e
  rw[<-w]at h;refine⟨trivial,?_⟩;simp only[iP];walk_at "dl";exact bj.now h
 ·rintro x xs S M' ⟨rfl,qs,a,b,e,hq,w,rfl⟩ G hG
  cases qs with
  | nil=>cases e
  | cons q qs =>
   have e':x=.tup [q.1,.int q.2]/\xs=mL qs:=by
    unfold mL at e ⊢;rw[AAf]at e;injection e with e1 e2
    exact⟨e1,e2⟩
   obtain⟨rfl,rfl⟩:=e';refine⟨trivial,?_⟩;have hq1:=hq q (by simp)
   walk_at "dl";refine⟨trivial,⟨IU hq1,IU hh⟩,?_⟩;cases hb:eqD M' eqN q.1 hd with
   | true =>
    have e:=(IV (n:=29) hq1 hh).mp hb;have ew:fq (q::qs) hd num=decide (num<q.2):=by
     unfold fq;rw[ABV,dT_ e]
    rw[<-w,ew]at h;exact bT (bj.now h)
   | false =>
    have e:q.1≠hd:=λz=>by
     have:=(IV (M:=M') (n:=29) hq1 hh).mpr z;rw[show eqD M' (29+1) q.1 hd=eqD M' eqN q.1 hd from rfl,hb]at this;cases this
    refine bJ (Fgt.now (hG _ _ ⟨rfl,qs,_,_,rfl,λp hp=>hq p (AA9 _ hp),?_,rfl⟩))
    rw[<-w];unfold fq;rw[ABV,dF_ e]
def qX(T:Tops P w K mg base):Cal P w K mg base 1 "is_within" ik dA :=
 Cal.byD (N:=["deed","vector","hand","count"]) T.b T.f_is_within (by walk_at "sc") pp (by walk_at "dv") pY
def aZ:DSp:=λds M R=>∃(ps:List (Str×Int)) (rs:List (Str×List Str)) (log:List D) (k:Str),ds=[.tup log,.str k]/\(∀d∈log,aE ps rs d)/\log.length<=1000/\R (.ref M.length) (M++[.lst (kinds log k)])
def jP:cE aZ da:=by rintro ds M R ⟨ps,rs,log,k,rfl,_⟩;rfl
def fF:DTS:=bw (dLC 1 [1] (bP (ab 0)) (am 0) (aB (dOp qEq (dOp qIx (dOp qIx (ab 0) (dC (.int 3))) (dC (.int 0))) (ab 1))) (ab 0))
theorem kt:WpT aZ 2 fF:=by
 rintro ds M R ⟨ps,rs,log,k,rfl,hd,hl,h⟩;simp only[fF];walk_at "dl";intro _;refine aL (λd=>decide (ba d=k)) id (λS=>∃a,S=[a,some (.str k)]) trivial _ _ _ ?_ ⟨_,rfl⟩ (by rw[AAU];exact ak (by lia)) (by rw[AAl,ACh];exact .inl h)
 rintro d hm S ⟨a,rfl⟩;obtain⟨t,z,k',num,x,ds,rfl,_⟩:=hd d hm;refine⟨[some (.tup [.int t,.tup [.str z,.int k'],.int num,.tup (.str x::ds)]),some (.str k)],⟨_,rfl⟩,λY Z hYZ=>?_⟩
 walk_at "dl";have e3:atI [D.int t,.tup [.str z,.int k'],.int num,.tup (.str x::ds)] 3=some (.tup (.str x::ds)):=az (j:=3) rfl;rw[e3];dsimp only;rw[at0];refine⟨⟨aq,aq⟩,?_⟩;rw[aM];have e1:ba (.tup [.int t,.tup [.str z,.int k'],.int num,.tup (.str x::ds)])=x:=rfl;rw[e1]at hYZ;by_cases e:x=k
 ·rw[beq_iff_eq.mpr e]
  rw[dT_ e]at hYZ;exact bT hYZ
 ·rw[beq_eq_false_iff_ne.mpr e]
  rw[dF_ e]at hYZ;exact bJ hYZ
def cD(T:Tops P w K mg base):Cal P w K mg base 1 "deeds_of_kind" da aZ :=
 Cal.byD (N:=["log","kind"]) T.b T.f_deeds_of_kind (by walk_at "sc") jP (by walk_at "dv") kt
def cw:DSp:=λds M R=>∃(ps:List (Str×Int)) (rs:List (Str×List Str)) (log:List D) (k name:Str),ds=[.tup log,.str k,.str name]/\(∀d∈log,aE ps rs d)/\log.length<=1000/\R (.ref M.length) (M++[.lst (db log k name)])
def rK:cE cw jK:=by rintro ds M R ⟨ps,rs,log,k,name,rfl,_⟩;rfl
def nM:DTS:=bw (dLC 1 [2] (bP (dCB aZ (aa (ab 0) (aa (ab 1) af)))) (am 0) (aB (dOp qEq (dCB aO (aa (ab 0) af)) (ab 1))) (ab 0))
theorem sS:WpT cw 3 nM:=by
 rintro ds M R ⟨ps,rs,log,k,name,rfl,hd,hl,h⟩;simp only[nM];walk_at "dl";unfold db at h;have hf:∀d∈kinds log k,aE ps rs d:=λd q=>hd d (AAa.mp q).1
 have fl:(kinds log k).length<=1000:=AAq bi hl;refine⟨ps,rs,log,k,rfl,hd,hl,?_⟩;generalize kinds log k=F at hf fl h;refine⟨F,ao,λ_=>?_⟩
 refine aL (λd=>decide (bD d=name)) id (λS=>∃a,S=[a,some (.str name)]) ao _ _ _ ?_ ⟨_,rfl⟩ (by rw[AAU];exact ak (by lia)) ?_
 ·rintro d hm S ⟨a,rfl⟩
  obtain⟨t,z,k',num,x,ds,rfl,_⟩:=hf d hm;refine⟨[some (.tup [.int t,.tup [.str z,.int k'],.int num,.tup (.str x::ds)]),some (.str name)],⟨_,rfl⟩,λY Z hYZ=>?_⟩
  walk_at "dl";refine⟨_,_,_,_,rfl,⟨aq,aq⟩,?_⟩;rw[aM];have e1:bD (.tup [.int t,.tup [.str z,.int k'],.int num,.tup (.str x::ds)])=z:=rfl;rw[e1]at hYZ;by_cases e:z=name
  ·rw[beq_iff_eq.mpr e]
   rw[dT_ e]at hYZ;exact bT hYZ
  ·rw[beq_eq_false_iff_ne.mpr e]
   rw[dF_ e]at hYZ;exact bJ hYZ
 ·rw[AAl,ACh,AAg]
  exact bj.lst h (by simp) (by simp) (aE.bels (ps:=ps) (rs:=rs) λd q=>hf d (AAa.mp q).1)
def ix(T:Tops P w K mg base):Cal P w K mg base 2 "deeds_by" jK cw :=
 Cal.byD (N:=["log","kind","name"]) T.b T.f_deeds_by (by walk_at "sc") rK (by have:=bQ T;have:=cD T;walk_at "dv") sS
def bI:DSp:=λds M R=>∃(ps:List (Str×Int)) (rs:List (Str×List Str)) (log:List D) (k name:Str),ds=[.tup log,.str k,.str name]/\(∀d∈log,aE ps rs d)/\log.length<=1000/\(k=AA0 "seen"\/k=AA0 "rung")/\((∀x∈cA log k name,St x)->R (.ref M.length) (M++[.lst (cA log k name)]))
def mf:cE bI eL:=by rintro ds M R ⟨ps,rs,log,k,name,rfl,_⟩;rfl
def iO:DTS:=bw (dLC 1 [] (bP (dCB cw (aa (ab 0) (aa (ab 1) (aa (ab 2) af))))) (am 0) uu (dOp qIx (dOp qIx (ab 0) (dC (.int 3))) (dC (.int 1))))
def mK:WpT bI 3 iO:=by
 rintro ds M R ⟨ps,rs,log,k,name,rfl,hd,hl,hk,h⟩;simp only[iO];walk_at "dl";refine⟨ps,rs,log,k,name,rfl,hd,hl,?_⟩;have ml:=fN (log:=log) (k:=k) (name:=name);have mm:∀d∈db log k name,∃(t:Int) (z:Str) (k num:Int) (x:Str) (m:D),d=.tup [.int t,.tup [.str z,.int k],.int num,.tup [.str x,m]]/\St m:=λd hm=>by
  obtain⟨h1,h2,_⟩:=jp hm;exact EK (hd d h1) (hk.imp (λe=>h2.trans e) λe=>h2.trans e)
 have eT:cA log k name=(db log k name).map dO:=rfl;rw[eT]at h;generalize db log k name=F at ml mm h;have hS:∀x∈F.map dO,St x:=λx hx=>by
  obtain⟨d,hm,rfl⟩:=AAH.mp hx;obtain⟨t,z,k,num,x,m,rfl,hs⟩:=mm d hm;exact hs
 refine⟨F,ao,λ_=>?_⟩
 refine bZ dO (λS=>∃a,S=[a]) ao _ _ _ (λd hm S hS=>?_) ⟨_,rfl⟩ (by rw[AAU];exact ak (by lia)) ?_
 ·obtain⟨a,rfl⟩:=hS
  obtain⟨t,z,k,num,x,m,rfl,_⟩:=mm d hm;refine⟨[some (.tup [.int t,.tup [.str z,.int k],.int num,.tup [.str x,m]])],⟨_,rfl⟩,λY hY=>?_⟩
  walk_at "dl";have e3:atI [D.int t,.tup [.str z,.int k],.int num,.tup [.str x,m]] 3=some (.tup [.str x,m]):=az (j:=3) rfl;rw[e3];dsimp only;rw[at1];exact hY
 ·rw[AAl,AAg]
  exact bj.lst (h hS) (by simp) (by simp) (Bels.of λd q=>bV 2 d (hS d q).pl)
def gY(T:Tops P w K mg base):Cal P w K mg base 3 "stamps_told" eL bI :=
 Cal.byD (N:=["log","kind","name"]) T.b T.f_stamps_told (by walk_at "sc") mf (by have:=ix T;walk_at "dv") mK
def dD:DSp:=λds M R=>∃(ps:List (Str×Int)) (rs:List (Str×List Str)) (log:List D) (name:Str),ds=[.tup log,.str name]/\(∀d∈log,aE ps rs d)/\(db log (AA0 "hush") name).length<64/\log.length<=1000/\∀ys:List D,(∀w∈ys,fg w)->(∀w,w∈ys↔aW (Ao log name) w=some (.bl true))->R (.ref M.length) (M++[.lst ys])
def pz:cE dD ip:=by rintro ds M R ⟨ps,rs,log,name,rfl,_⟩;rfl
def AG(ps:List (D×D))(h:p∈dictOf ps):p∈ps:=by
 revert h;refine be (P:=λps=>p∈dictOf ps->p∈ps) (λh=>h) (λps q ih h=>?_) ps
 rw[bN]at h;rcases fZ h with rfl | h
 ·simp
 ·exact AAc _ (ih h)
def um(l:List (D×D)):((dictOf l).map (·.1)).Nodup:=by
 refine be (P:=λl=>((dictOf l).map (·.1)).Nodup) .nil (λl p ih=>?_) l
 rw[bN];exact oN ih
def iQ:DTS:=bw (dCB jF (aa (dLC 1 [2] (mz (ab 2)) (am 0) (aB (kC (ab 1) (ab 0))) (ab 0)) af))
def lu:DTS:=ax (aX (dCB ic (aa (dLC 1 [] (bP (dCB cw (aa (ab 0) (aa (dC (.str "hush")) (aa (ab 1) af))))) (am 0) uu (fy (aa (dOp qIx (dOp qIx (ab 0) (dC (.int 3))) (dC (.int 1))) (aa (dOp qIx (dOp qIx (ab 0) (dC (.int 3))) (dC (.int 2))) af)))) af)) 2) (iQ)
theorem qa:WpT dD 3 lu:=by
 rintro ds M R ⟨ps,rs,log,name,rfl,hd,h64,hl,h⟩;simp only[lu];walk_at "dl";refine⟨ps,rs,log,AA0 "hush",name,rfl,hd,hl,?_⟩;have ml:=fN (log:=log) (k:=AA0 "hush") (name:=name);have mh:∀d∈db log (AA0 "hush") name,∃(t:Int) (z:Str) (k num:Int) (w:D) (b:Bool),d=.tup [.int t,.tup [.str z,.int k],.int num,.tup [.str (AA0 "hush"),w,.bl b]]/\fg w:=λd hm=>by
  obtain⟨h1,h2,_⟩:=jp hm;exact FN (hd d h1) h2
 have eT:Ao log name=dictOf ((db log (AA0 "hush") name).map λd=>(dO d,bn d)):=rfl
 rw[eT]at h;generalize db log (AA0 "hush") name=F at ml mh h h64;refine⟨F,ao,λ_=>?_⟩
 refine bZ (λd=>.tup [dO d,bn d]) (λS=>∃a,S=[a]) ao _ _ _ (λd hm S hS=>?_) ⟨_,rfl⟩ (by rw[AAU];exact ak (by lia)) ?_
 ·obtain⟨a,rfl⟩:=hS
  obtain⟨t,z,k,num,w,b,rfl,_⟩:=mh d hm;refine⟨[some (.tup [.int t,.tup [.str z,.int k],.int num,.tup [.str (AA0 "hush"),w,.bl b]])],⟨_,rfl⟩,λY hY=>?_⟩
  walk_at "dl";have e3:atI [D.int t,.tup [.str z,.int k],.int num,.tup [.str (AA0 "hush"),w,.bl b]] 3=some (.tup [.str (AA0 "hush"),w,.bl b]):=az (j:=3) rfl;rw[e3];dsimp only;rw[at1];dsimp only;rw[at2];exact⟨ak (by lia),hY⟩
 ·rw[AAl]
  have el:F.map (λd=>D.tup [dO d,bn d])=(F.map λd=>(dO d,bn d)).map λp=>.tup [p.1,p.2]:=by rw[ABI];rfl
  rw[el];have hp:∀p∈F.map λd=>(dO d,bn d),fg p.1/\∃b,p.2=.bl b:=λp hm=>by
   obtain⟨d,hx,rfl⟩:=AAH.mp hm;obtain⟨t,z,k,num,w,b,rfl,hw⟩:=mh d hx;exact⟨hw,b,rfl⟩
  have pl:(F.map λd=>(dO d,bn d)).length=F.length:=AA4 _
  generalize (F.map λd=>(dO d,bn d))=qs at h hp pl
  refine⟨qs,ao,λp hm=>?_,by lia,?_⟩
  ·obtain⟨ks,e⟩:=(hp p hm).1.tup
   exact⟨(hp p hm).1.key,by rw[e];rfl⟩
  simp only[iQ];walk_at "dl";have n1:=um qs;have hq:∀p∈dictOf qs,fg p.1/\∃b,p.2=.bl b:=λp hm=>hp p (AG _ hm)
  have dl:=jU (ps:=qs);generalize dictOf qs=tab at h n1 hq dl;refine⟨tab,ae,λ_=>?_⟩
  generalize hB:M++[MO.lst F]++[MO.lst (qs.map λp=>.tup [p.1,p.2])]=B
  have pB:M <+: B:=by rw[<-hB,AAg];exact AAb _ _
  refine aL (λw=>decide (aW tab w=some (.bl true))) id (λS=>∃a,S=[a,some (.ref B.length)]) ae _ _ _ ?_ ⟨_,rfl⟩ (by rw[AAU,AA4];exact ak (by lia)) ?_
  ·rintro x hm S ⟨a,rfl⟩
   obtain⟨q,hq',rfl⟩:=AAH.mp hm;have hg:=eN n1 hq';obtain⟨hwp,b,eb⟩:=hq q hq';refine⟨[some q.1,some (.ref B.length)],⟨_,rfl⟩,λY Z hYZ=>?_⟩
   rw[eb]at hg;rw[hg]at hYZ;obtain⟨ks,e⟩:=hwp.tup;have hk:=hwp.key;rw[e]at hYZ hg hk ⊢;walk_at "dl";refine⟨tab,_,ae,hk,hg,?_⟩;cases b with
   | true =>
    rw[dT_ rfl]at hYZ;exact bT hYZ
   | false =>
    rw[dF_ (by simp)]at hYZ
    exact bJ hYZ
  ·rw[AAl,ACh]
   have hm:∀w,w∈(tab.map (·.1)).filter (λw=>decide (aW tab w=some (.bl true)))↔aW tab w=some (.bl true):=λw=>by
    rw[List.mem_filter,decide_eq_true_iff];exact⟨λz=>z.2,λz=>⟨AB2 (f:=(·.1)) (bG z),z⟩⟩
   have hw:∀w∈(tab.map (·.1)).filter (λw=>decide (aW tab w=some (.bl true))),fg w:=λw hw=>by
    obtain⟨p,hp,rfl⟩:=AAH.mp (AAa.mp hw).1;exact(hq p hp).1
   have ll:((tab.map (·.1)).filter (λw=>decide (aW tab w=some (.bl true)))).length<64:=by
    have:=AAn (λw=>decide (aW tab w=some (.bl true))) (tab.map (·.1))
    rw[AA4]at this;lia
   generalize (tab.map (·.1)).filter (λw=>decide (aW tab w=some (.bl true)))=L at hm hw ll
   refine⟨L,ao,yd hw ll,λys hy hr=>?_⟩
   obtain⟨L',rfl⟩:∃L',B=M++L':=by obtain⟨L',e⟩:=pB;exact⟨L',e.symm⟩
   have hw':∀w∈ys,fg w:=λw q=>hw w (hy.mem_iff.mp q)
   rw[AAg,AAg,AAg];exact bj.lst (h ys hw' λw=>hy.mem_iff.trans (hm w)) (by simp) (by simp) (Bels.of λd hd=>bV 3 d (hw' d hd).pl)
def qZ(T:Tops P w K mg base):Cal P w K mg base 3 "hushes_of" ip dD :=
 Cal.byD (N:=["log","name","hushes"]) T.b T.f_hushes_of (by walk_at "sc") pz (by have:=ix T;walk_at "dv") qa
def bR:DSp:=λds M R=>∃(a b c x r:D) (l:List D),ds=[.tup [a,b,c,.tup (x::r::l)]]/\R r M
def tZ:cE bR lQ:=by rintro ds M R ⟨a,b,c,x,r,l,rfl,_⟩;rfl
def qo:DTS:=bw (dOp qIx (dOp qIx (ab 0) (dC (.int 3))) (dC (.int 1)))
def wQ:WpT bR 1 qo:=by
 rintro ds M R ⟨a,b,c,x,r,l,rfl,h⟩;simp only[qo];walk_at "dl";have e3:atI [a,b,c,.tup (x::r::l)] 3=some (.tup (x::r::l)):=az (j:=3) rfl;rw[e3];dsimp only;rw[at1];exact bj.now h
def jM(T:Tops P w K mg base):Cal P w K mg base 1 "room_of" lQ bR :=
 Cal.byD (N:=["say"]) T.b T.f_room_of (by walk_at "sc") tZ (by walk_at "dv") wQ
def cr:DSp:=λds M R=>∃(a b c x r u:D) (l:List D),ds=[.tup [a,b,c,.tup (x::r::u::l)]]/\R u M
def rF:cE cr jG:=by rintro ds M R ⟨a,b,c,x,r,u,l,rfl,_⟩;rfl
def nj:DTS:=bw (dOp qIx (dOp qIx (ab 0) (dC (.int 3))) (dC (.int 2)))
def sO:WpT cr 1 nj:=by
 rintro ds M R ⟨a,b,c,x,r,u,l,rfl,h⟩;simp only[nj];walk_at "dl";have e3:atI [a,b,c,.tup (x::r::u::l)] 3=some (.tup (x::r::u::l)):=az (j:=3) rfl;have e2:atI (x::r::u::l) 2=some u:=az (j:=2) rfl;rw[e3];dsimp only;rw[e2];exact bj.now h
def iu(T:Tops P w K mg base):Cal P w K mg base 1 "under_of" jG cr :=
 Cal.byD (N:=["say"]) T.b T.f_under_of (by walk_at "sc") rF (by walk_at "dv") sO
def dE:DSp:=λds M R=>∃(ps:List (Str×Int)) (rs:List (Str×List Str)) (d:D) (q:Nat) (kvs:List (D×D)),ds=[aK ps rs,d,.ref q]/\aE ps rs d/\ba d=AA0 "say"/\M[q]?=some (.dkt kvs)/\(∀p∈kvs,aE ps rs p.2/\ba p.2=AA0 "say")/\R (.bl (gW rs kvs d)) M
def pA:cE dE iq:=by rintro ds M R ⟨ps,rs,d,q,kvs,rfl,_⟩;rfl
def iR:DTS:=bw (JD (dOp qIs (ab 3) (dC .non)) (sy (dOp GE (ab 3) (ab 2)) (dOp qEq (dCB bR (aa (kC (ab 2) (ab 3)) af)) (dCB bR (aa (ab 1) af)))))
def iS:DTS:=ax (aX (dCB cr (aa (ab 1) af)) 3) (iR)
def lB:DTS:=ax (dIf (aB (dOp jh (dCB aO (aa (ab 1) af)) (dCB cK (aa (ab 0) (aa (dCB bR (aa (ab 1) af)) af))))) (bw (dC (.bl false))) bq) (iS)
def qb:WpT dE 4 lB:=by
 rintro ds M R ⟨ps,rs,d,q,kvs,rfl,hd,hk,hq,hv,h⟩;obtain⟨t,z,k,num,r,u,s,rfl,_,_,hr,hu⟩:=jc hd hk;simp only[lB];walk_at "dl";refine⟨_,_,_,_,rfl,_,_,_,_,_,_,rfl,ps,rs,r,rfl,hr,⟨aq,oG⟩,?_⟩;rw[pG];have e0:gW rs kvs (.tup [.int t,.tup [.str z,.int k],.int num,.tup [.str (AA0 "say"),.str r,u,.str s]])=(decide (z∈xW rs r)&&(decide (u=.non)||match aW kvs u with
  | some e=>decide (aV e=r)
  | none=>false)):=rfl
 rw[e0]at h;by_cases hm:z∈xW rs r
 ·rw[dT_ hm]at h ⊢
  refine bJ ?_
  simp only[iS,iR];walk_at "dl";refine⟨_,_,_,_,_,u,_,rfl,?_⟩;rcases hu with rfl | hu
  ·walk_at "dl"
   refine bj.now ?_
   simpa using h
  ·obtain⟨t',z',k',rfl⟩:=hu
   rw[dF_ (by intro e;cases e)]at h
   walk_at "dl";refine⟨kvs,hq,rfl,?_⟩;cases hg:aW kvs (.tup [.int t',.tup [.str z',.int k']]) with
   | none =>
    rw[hg]at h;exact bJ (bj.now h)
   | some e =>
    rw[hg]at h;obtain⟨he,hke⟩:=hv _ (bG hg);obtain⟨t2,z2,k2,n2,r2,u2,s2,e2,_⟩:=jc he hke;dsimp only at e2;subst e2;refine bT ⟨kvs,_,hq,rfl,hg,_,_,_,_,_,_,rfl,_,_,_,_,_,_,rfl,⟨aq,aq⟩,?_⟩;rw[aM];refine bj.now ?_
    have e5:(r2==r)=decide (r2=r):=by
     by_cases e:r2=r
     ·rw[dT_ e];exact beq_iff_eq.mpr e
     ·rw[dF_ e];exact beq_eq_false_iff_ne.mpr e
    rw[e5];exact h
 ·rw[dF_ hm]at h ⊢
  exact bT (bj.now h)
def re(T:Tops P w K mg base):Cal P w K mg base 2 "can_stand" iq dE :=
 Cal.byD (N:=["house","say","elders","under"]) T.b T.f_can_stand (by walk_at "sc") pA (by have:=oX T;have:=bQ T;have:=jM T;have:=iu T;walk_at "dv") qb
def bb:DSp:=λds M R=>∃(ps:List (Str×Int)) (rs:List (Str×List Str)) (log:List D),ds=[aK ps rs,.tup log]/\(∀d∈log,aE ps rs d)/\log.length<=1000/\∀n B,M <+: B->B[n]?=some (.dkt (ag rs log))->R (.ref n) B
def iB:cE bb ck:=by rintro ds M R ⟨ps,rs,log,rfl,_⟩;rfl
def kH(hd:∀d∈log,aE ps rs d)(hl:∀d∈l,d∈kinds log (AA0 "say"))(t:TabK l kvs):∀p∈kvs,aE ps rs p.2/\ba p.2=AA0 "say":=λp hp=>by
 obtain⟨h1,h2⟩:=aH (hl _ (t.en p hp).2);exact⟨hd _ h1,h2⟩
def cU:DTS:=bw (ab 2)
def cW:DTS:=ax (mV (bP (dCB aZ (aa (ab 1) (aa (dC (.str "say")) af)))) (am 3) (dIf (aB (dCB dE (aa (ab 0) (aa (ab 3) (aa (ab 2) af))))) (uv (ab 2) (dCB cu (aa (ab 3) af)) (ab 3)) bq)) (cU)
def dW:DTS:=ax (aX (uw) 2) (cW)
def iL:WpT bb 4 dW:=by
 rintro ds M R ⟨ps,rs,log,rfl,hd,hl,h⟩;simp only[dW,cW];walk_at "dl";refine⟨ps,rs,log,_,rfl,hd,hl,?_⟩;have kl:=bi (log:=log) (k:=AA0 "say");have km:∀d∈kinds log (AA0 "say"),aE ps rs d/\ba d=AA0 "say":=λd q=>⟨hd d (aH q).1,(aH q).2⟩
 have hk:ay rs (kinds log (AA0 "say"))=ag rs log:=rfl;generalize hK:kinds log (AA0 "say")=K at kl km hk;refine⟨K,ao,λ_=>?_⟩
 refine bA (λi S M'=>∃a,M'=M++[.dkt (ay rs (K.take i)),.lst K]/\S=[some (aK ps rs),some (.tup log),some (.ref M.length),a]) ?_ ?_ ⟨_,by simp[ay],rfl⟩
 ·rintro S M' ⟨a,rfl,rfl⟩
  rw[ABa,hk];refine⟨.inl ?_,?_⟩
  ·have:(M++[MO.dkt []]).length=M.length+1:=by simp
   rw[this];exact wz
  ·simp only[cU]
   walk_at "dl";exact .inl (h _ _ (AAb _ _) jS)
 ·rintro i y S M' hy ⟨a,rfl,rfl⟩ G hG
  have hm:=AAi hy;have et:K.take (i+1)=K.take i++[y]:=by rw[ABv,hy];rfl
  rw[et,df]at hG;have tb:=eA (rs:=rs) (K.take i);have hv:=kH hd (λd q=>hK ▸ AEB q) tb
  have tl:=tb.len;rw[AAv]at tl;generalize ay rs (K.take i)=kvs at hG hv tl;obtain⟨dy,ky⟩:=km y hm;refine⟨.inl ?_,?_⟩
  ·have:(M++[MO.dkt []]).length=M.length+1:=by simp
   rw[this];exact wz
  walk_at "dl";refine⟨ps,rs,y,_,kvs,rfl,dy,ky,jS,hv,?_⟩;unfold tx at hG;cases hs:gW rs kvs y with
  | true =>
   rw[hs,if_pos rfl]at hG;refine bT ?_
   obtain⟨t,z,k,num,x,ds,rfl,_⟩:=dy;refine⟨_,_,_,rfl,kvs,jS,rfl,aI (by lia),?_⟩
   rw[ia];exact Fgt.now (hG _ _ ⟨_,rfl,rfl⟩)
  | false =>
   rw[hs,if_neg (by decide)]at hG
   exact bJ (Fgt.now (hG _ _ ⟨_,rfl,rfl⟩))
def du(T:Tops P w K mg base):Cal P w K mg base 3 "says_that_count" ck bb :=
 Cal.byD (N:=["house","log","says","deed"]) T.b T.f_says_that_count (by walk_at "sc") iB (by have:=iw T;have:=cD T;have:=re T;walk_at "dv") iL
def cc:DSp:=λds M R=>∃(t:Int) (z:Str) (k num:Int) (x m:D) (l:List D) (q:Nat) (kvs:List (D×D)),ds=[.tup [.int t,.tup [.str z,.int k],.int num,.tup (x::m::l)],.ref q]/\St m/\M[q]?=some (.dkt kvs)/\(∀p∈kvs,NmK p.2)/\R (.bl (byW kvs (.tup [.int t,.tup [.str z,.int k],.int num,.tup (x::m::l)]))) M
def kA:cE cc dI:=by rintro ds M R ⟨t,z,k,num,x,m,l,q,kvs,rfl,_⟩;rfl
def fu:DTS:=bw (sy (dOp GE (ab 2) (ab 1)) (dOp qEq (dCB aO (aa (ab 0) af)) (dCB aO (aa (kC (ab 1) (ab 2)) af))))
def gR:DTS:=ax (aX (dOp qIx (dOp qIx (ab 0) (dC (.int 3))) (dC (.int 1))) 2) (fu)
def kW:WpT cc 3 gR:=by
 rintro ds M R ⟨t,z,k,num,x,m,l,q,kvs,rfl,hm,hq,hv,h⟩;simp only[gR,fu];obtain⟨t',z',k',rfl⟩:=hm;walk_at "dl";have e3:atI [D.int t,.tup [.str z,.int k],.int num,.tup (x::.tup [.int t',.tup [.str z',.int k']]::l)] 3=some (.tup (x::.tup [.int t',.tup [.str z',.int k']]::l)):=az (j:=3) rfl;rw[e3];dsimp only;rw[at1];refine⟨kvs,hq,rfl,?_⟩;have e0:byW kvs (.tup [.int t,.tup [.str z,.int k],.int num,.tup (x::.tup [.int t',.tup [.str z',.int k']]::l)])=match aW kvs (.tup [.int t',.tup [.str z',.int k']]) with
  | some e=>decide (z=bD e)
  | none=>false:=rfl
 rw[e0]at h;cases hg:aW kvs (.tup [.int t',.tup [.str z',.int k']]) with
 | none =>
  rw[hg]at h;exact bJ (bj.now h)
 | some e =>
  rw[hg]at h;obtain⟨a,y,r1,r2,rfl⟩:=hv _ (bG hg);refine bT ⟨_,_,_,_,rfl,kvs,_,hq,rfl,hg,_,_,_,_,rfl,⟨aq,aq⟩,?_⟩;rw[aM];refine bj.now ?_
  have e5:(z==y)=decide (z=y):=by
   by_cases e:z=y
   ·rw[dT_ e];exact beq_iff_eq.mpr e
   ·rw[dF_ e];exact beq_eq_false_iff_ne.mpr e
  rw[e5];exact h
def lX(T:Tops P w K mg base):Cal P w K mg base 2 "is_by_writer" dI cc :=
 Cal.byD (N:=["deed","says","message"]) T.b T.f_is_by_writer (by walk_at "sc") kA (by have:=bQ T;walk_at "dv") kW
def bH:DSp:=λds M R=>∃(ps:List (Str×Int)) (rs:List (Str×List Str)) (log:List D) (k:Str) (q:Nat) (kvs:List (D×D)),ds=[.tup log,.str k,.ref q]/\(∀d∈log,aE ps rs d)/\log.length<=1000/\(k=AA0 "change"\/k=AA0 "back")/\M[q]?=some (.dkt kvs)/\(∀p∈kvs,NmK p.2)/\R (.ref M.length) (M++[.lst ((kinds log k).filter (byW kvs))])
def me:cE bH eK:=by rintro ds M R ⟨ps,rs,log,k,q,kvs,rfl,_⟩;rfl
def Ij(h:aE ps rs d)(e:ba d=k)(hk:k=AA0 "change"\/k=AA0 "back"):∃(t:Int) (z:Str) (k num:Int) (x m:D) (l:List D),d=.tup [.int t,.tup [.str z,.int k],.int num,.tup (x::m::l)]/\St m:=by
 rcases hk with rfl | rfl
 ·obtain⟨t,z,k,num,m,s,rfl,hm⟩:=mD h e
  exact⟨t,z,k,num,_,m,_,rfl,hm⟩
 ·obtain⟨t,z,k,num,m,rfl,hm⟩:=AY h e
  exact⟨t,z,k,num,_,m,_,rfl,hm⟩
def iN:DTS:=bw (dLC 1 [2] (bP (dCB aZ (aa (ab 0) (aa (ab 1) af)))) (am 0) (aB (dCB cc (aa (ab 0) (aa (ab 1) af)))) (ab 0))
theorem mJ:WpT bH 3 iN:=by
 rintro ds M R ⟨ps,rs,log,k,q,kvs,rfl,hd,hl,hk,hq,hv,h⟩;simp only[iN];walk_at "dl";refine⟨ps,rs,log,k,rfl,hd,hl,_,ao,λ_=>?_⟩
 have kl:=bi (log:=log) (k:=k);refine aL (byW kvs) id (λS=>∃a,S=[a,some (.ref q)]) ao _ _ _ ?_ ⟨_,rfl⟩ (by rw[AAU];exact ak (by lia)) ?_
 ·rintro d hm S ⟨a,rfl⟩
  obtain⟨h1,h2⟩:=aH hm;obtain⟨t,z,k',num,x,m,l,rfl,hs⟩:=Ij (hd d h1) h2 hk;refine⟨[some (.tup [.int t,.tup [.str z,.int k'],.int num,.tup (x::m::l)]),some (.ref q)],⟨_,rfl⟩,λY Z hYZ=>?_⟩
  walk_at "dl";refine⟨t,z,k',num,x,m,l,q,kvs,rfl,hs,ac hq,hv,?_⟩;cases hb:byW kvs (.tup [.int t,.tup [.str z,.int k'],.int num,.tup (x::m::l)]) with
  | true=>rw[hb]at hYZ;exact bT hYZ
  | false=>rw[hb]at hYZ;exact bJ hYZ
 ·rw[AAl,ACh,AAg]
  exact bj.lst h (by simp) (by simp) (aE.bels (ps:=ps) (rs:=rs) λd m=>hd d (aH (AAa.mp m).1).1)
def gX(T:Tops P w K mg base):Cal P w K mg base 3 "writers_own" eK bH :=
 Cal.byD (N:=["log","kind","says"]) T.b T.f_writers_own (by walk_at "sc") me (by have:=cD T;have:=lX T;walk_at "dv") mJ
def cb:DSp:=λds M R=>∃(ps:List (Str×Int)) (rs:List (Str×List Str)) (log:List D) (q:Nat) (kvs:List (D×D)),ds=[.tup log,.ref q]/\(∀d∈log,aE ps rs d)/\log.length<=1000/\M[q]?=some (.dkt kvs)/\(∀p∈kvs,NmK p.2)/\∀n B,M <+: B->B[n]?=some (.dkt (br kvs log))->R (.ref n) B
def kz:cE cb dH:=by rintro ds M R ⟨ps,rs,log,q,kvs,rfl,_⟩;rfl
def oo(ps:List (D×D))(h:p∈dictOf ps):p∈ps:=by
 revert h;refine be (P:=λps=>p∈dictOf ps->p∈ps) (λh=>h) (λps q ih h=>?_) ps
 rw[bN]at h;rcases fZ h with rfl | h
 ·simp
 ·exact AAc _ (ih h)
def uz(hd:∀d∈log,aE ps rs d):∀p∈br kvs log,∃s,p.2=.str s:=λp hp=>by
 obtain⟨d,hm,rfl⟩:=AAH.mp (oo _ hp);obtain⟨h1,h2⟩:=aH (AAa.mp hm).1;obtain⟨t,z,k,num,m,s,rfl,hs⟩:=mD (hd d h1) h2;exact⟨s,rfl⟩
def gQ:DTS:=bw (dCB ic (aa (dLC 1 [] (bP (dCB bH (aa (ab 0) (aa (dC (.str "change")) (aa (ab 1) af))))) (am 0) uu (fy (aa (dOp qIx (dOp qIx (ab 0) (dC (.int 3))) (dC (.int 1))) (aa (dOp qIx (dOp qIx (ab 0) (dC (.int 3))) (dC (.int 2))) af)))) af))
def kU:WpT cb 2 gQ:=by
 rintro ds M R ⟨ps,rs,log,q,kvs,rfl,hd,hl,hq,hv,h⟩;simp only[gQ];walk_at "dl";refine⟨ps,rs,log,_,q,kvs,rfl,hd,hl,.inl rfl,hq,hv,_,ao,λ_=>?_⟩
 have kl:=bi (log:=log) (k:=AA0 "change");have fl:=AAn (byW kvs) (kinds log (AA0 "change"));have km:∀d∈(kinds log (AA0 "change")).filter (byW kvs),∃(t:Int) (z:Str) (k num:Int) (m:D) (s:Str),d=.tup [.int t,.tup [.str z,.int k],.int num,.tup [.str (AA0 "change"),m,.str s]]/\St m:=λd m=>by
  obtain⟨h1,h2⟩:=aH (AAa.mp m).1;exact mD (hd d h1) h2
 have hc:dictOf (((kinds log (AA0 "change")).filter (byW kvs)).map λd=>(dO d,bn d))=br kvs log:=rfl
 generalize (kinds log (AA0 "change")).filter (byW kvs)=F at fl km hc;refine bZ (λd=>.tup [dO d,bn d]) (λS=>∃a,S=[a]) ao _ _ _ (λd hm S hS=>?_) ⟨_,rfl⟩ (by rw[AAU];exact ak (by lia)) ?_
 ·obtain⟨a,rfl⟩:=hS
  obtain⟨t,z,k,num,m,s,rfl,_⟩:=km d hm;refine⟨[some (.tup [.int t,.tup [.str z,.int k],.int num,.tup [.str (AA0 "change"),m,.str s]])],⟨_,rfl⟩,λY hY=>?_⟩
  walk_at "dl";have e3:atI [D.int t,.tup [.str z,.int k],.int num,.tup [.str (AA0 "change"),m,.str s]] 3=some (.tup [.str (AA0 "change"),m,.str s]):=az (j:=3) rfl;rw[e3];dsimp only;rw[at1];dsimp only;rw[at2];exact⟨ak (by lia),hY⟩
 ·rw[AAl]
  have el:F.map (λd=>D.tup [dO d,bn d])=(F.map λd=>(dO d,bn d)).map λp=>.tup [p.1,p.2]:=by
   rw[ABI];rfl
  rw[el];refine⟨F.map λd=>(dO d,bn d),ao,λp hm=>?_,by rw[AA4];lia,?_⟩
  ·obtain⟨d,hx,rfl⟩:=AAH.mp hm
   obtain⟨t,z,k,num,m,s,rfl,hs⟩:=km d hx;obtain⟨ks,e⟩:=hs.tup;exact⟨hs.key,by show gZ m=true;rw[e];rfl⟩
  ·rw[hc]
   exact .inl (h _ _ ((fB.trans fB).trans fB) ae)
def lW(T:Tops P w K mg base):Cal P w K mg base 4 "last_changes" dH cb :=
 Cal.byD (N:=["log","says"]) T.b T.f_last_changes (by walk_at "sc") kz (by have:=gX T;walk_at "dv") kU
def bg:DSp:=λds M R=>∃(ps:List (Str×Int)) (rs:List (Str×List Str)) (log:List D) (q:Nat) (kvs:List (D×D)),ds=[.tup log,.ref q]/\(∀d∈log,aE ps rs d)/\log.length<64/\M[q]?=some (.dkt kvs)/\(∀p∈kvs,NmK p.2)/\∀ys,(∀x∈ys,St x)->(∀x,x∈ys↔hX kvs log x)->ys.Nodup->(ys.Pairwise λa b=>¬enc eqN b<enc eqN a)->R (.ref M.length) (M++[.lst ys])
def fO:cE bg bM:=by rintro ds M R ⟨ps,rs,log,q,kvs,rfl,_⟩;rfl
def cT:DTS:=bw (jw (dLC 1 [] (bP (dCB bH (aa (ab 0) (aa (dC (.str "back")) (aa (ab 1) af))))) (am 0) uu (dOp qIx (dOp qIx (ab 0) (dC (.int 3))) (dC (.int 1)))))
def gk:WpT bg 2 cT:=by
 rintro ds M R ⟨ps,rs,log,q,kvs,rfl,hd,hl,hq,hv,h⟩;simp only[cT];walk_at "dl";refine⟨ps,rs,log,_,q,kvs,rfl,hd,by lia,.inr rfl,hq,hv,_,ao,λ_=>?_⟩
 have kl:=bi (log:=log) (k:=AA0 "back");have fl:=AAn (byW kvs) (kinds log (AA0 "back"));have km:∀d∈(kinds log (AA0 "back")).filter (byW kvs),∃(t:Int) (z:Str) (k num:Int) (m:D),d=.tup [.int t,.tup [.str z,.int k],.int num,.tup [.str (AA0 "back"),m]]/\St m:=λd m=>by
  obtain⟨h1,h2⟩:=aH (AAa.mp m).1;exact AY (hd d h1) h2
 have hb:∀x,x∈((kinds log (AA0 "back")).filter (byW kvs)).map dO↔hX kvs log x:=λx=>by
  constructor
  ·intro hx
   obtain⟨d,m,rfl⟩:=AAH.mp hx;exact⟨d,(AAa.mp m).1,(AAa.mp m).2,rfl⟩
  ·rintro⟨d,h1,h2,rfl⟩
   exact AB2 (AAa.mpr ⟨h1,h2⟩)
 generalize (kinds log (AA0 "back")).filter (byW kvs)=F at fl km hb;refine bZ dO (λS=>∃a,S=[a]) ao _ _ _ (λd hm S hS=>?_) ⟨_,rfl⟩ (by rw[AAU];exact ak (by lia)) ?_
 ·obtain⟨a,rfl⟩:=hS
  obtain⟨t,z,k,num,m,rfl,_⟩:=km d hm;refine⟨[some (.tup [.int t,.tup [.str z,.int k],.int num,.tup [.str (AA0 "back"),m]])],⟨_,rfl⟩,λY hY=>?_⟩
  walk_at "dl";have e3:atI [D.int t,.tup [.str z,.int k],.int num,.tup [.str (AA0 "back"),m]] 3=some (.tup [.str (AA0 "back"),m]):=az (j:=3) rfl;rw[e3];dsimp only;rw[at1];exact hY
 ·rw[AAl]
  have hs:∀x∈F.map dO,St x:=λx hx=>by
   obtain⟨d,hm,rfl⟩:=AAH.mp hx;obtain⟨t,z,k,num,m,rfl,hs⟩:=km d hm;exact hs
  refine⟨8,_,AA8 _,.inl ⟨_,rfl,ao⟩,by rw[AA4];lia,λx hx=>?_,tw hs (by rw[AA4];lia),λys nd hy hr=>?_⟩
  ·obtain⟨ks,e⟩:=(hs x hx).tup
   exact⟨(hs x hx).key,by rw[e];rfl⟩
  ·have hys:∀x∈ys,St x:=λx hx=>hs x ((hy x).mp hx)
   rw[AAg,AAg];have up:ys.Pairwise λa b=>¬enc eqN b<enc eqN a:=(List.Pairwise.and_mem.mp hr).imp λ{a b} ⟨ha,hb,q⟩=>by
    have sa:=hys a ha;have sb:=hys b hb;have oa:okP eqN a=true:=by obtain⟨t,z,k,e⟩:=sa;rw[e];rfl
    have ob:okP eqN b=true:=by obtain⟨t,z,k,e⟩:=sb;rw[e];rfl
    rw[tV ob oa (sb.cm sa)]at q;exact of_decide_eq_false q
   exact bj.lst (h ys hys (λx=>(hy x).trans (hb x)) nd up) (by simp) (by simp) (Bels.of λd m=>bV 2 d (hys d m).pl)
def gH(T:Tops P w K mg base):Cal P w K mg base 4 "stamps_taken_back" bM bg :=
 Cal.byD (N:=["log","says"]) T.b T.f_stamps_taken_back (by walk_at "sc") fO (by have:=gX T;walk_at "dv") gk
def cJ:DSp:=λds M R=>∃(ps:List (Str×Int)) (rs:List (Str×List Str)) (d:D) (q:Nat) (tab:List (D×D)),ds=[d,.ref q]/\aE ps rs d/\ba d=AA0 "say"/\M[q]?=some (.dkt tab)/\R (Fx tab d) M
def mR:cE cJ fK:=by rintro ds M R ⟨ps,rs,d,q,tab,rfl,_⟩;rfl
def gO:DTS:=bw (fy (aa (ab 2) (aa (dCB bR (aa (ab 0) af)) (aa (dCB cr (aa (ab 0) af)) (aa (dCB aO (aa (ab 0) af)) (aa (ab 3) (aa (dOp GE (ab 2) (ab 1)) af)))))))
def gP:DTS:=ax (aX (dMt jf (ab 1) (aa (ab 2) (aa (dOp qIx (dOp qIx (ab 0) (dC (.int 3))) (dC (.int 3))) af))) 3) (gO)
def jZ:DTS:=ax (aX (dCB cu (aa (ab 0) af)) 2) (gP)
def ox:WpT cJ 4 jZ:=by
 rintro ds M R ⟨ps,rs,d,q,tab,rfl,hd,hk,hq,h⟩;obtain⟨t,z,k,num,r,u,s,rfl,_⟩:=jc hd hk;simp only[jZ,gP];walk_at "dl";refine⟨_,_,_,rfl,⟨_,hq⟩,?_⟩;have e3:atI [D.int t,.tup [.str z,.int k],.int num,.tup [.str (AA0 "say"),.str r,u,.str s]] 3=some (.tup [.str (AA0 "say"),.str r,u,.str s]):=az (j:=3) rfl;have e4:atI [.str (AA0 "say"),.str r,u,.str s] 3=some (.str s):=az (j:=3) rfl;rw[e3];dsimp only;rw[e4];refine⟨tab,hq,rfl,?_⟩;simp only[gO];walk_at "dl";refine⟨_,_,_,_,_,_,rfl,_,_,_,_,_,_,_,rfl,_,_,_,_,rfl,tab,hq,rfl,ak (by lia),bj.now h⟩
def oW(T:Tops P w K mg base):Cal P w K mg base 2 "message_of" fK cJ :=
 Cal.byD (N:=["say","changes","stamp","saying"]) T.b T.f_message_of (by walk_at "sc") mR (by have:=iw T;have:=bQ T;have:=jM T;have:=iu T;walk_at "dv") ox
def cI:DSp:=λds M R=>∃(ps:List (Str×Int)) (rs:List (Str×List Str)) (log:List D),ds=[aK ps rs,.tup log]/\(∀d∈log,aE ps rs d)/\log.length<64/\∀n B,M <+: B->B[n]?=some (.dkt (bd rs log))->R (.ref n) B
def mQ:cE cI fJ:=by rintro ds M R ⟨ps,rs,log,rfl,_⟩;rfl
def lD{M:Mem}{l:List D}(h:∀x∈l,St x):l.all (okD M eqN)=true:=AAZ.mpr λx hx=>(h x hx).ok
def rT(hx:St x)(h:∀x∈l,St x):inD M x l=decide (x∈l):=by
 unfold inD;by_cases hm:x∈l
 ·rw[dT_ hm]
  exact AB9.mpr ⟨x,hm,by rw[show eqN=28+2 from rfl,hx.eq hx];exact dT_ rfl⟩
 ·rw[dF_ hm]
  refine AB4.mpr λz=>?_
  obtain⟨y,hy,e⟩:=AB9.mp z;rw[show eqN=28+2 from rfl,(h y hy).eq hx]at e;exact hm (oT_ e ▸ hy)
def gK:DTS:=bw (dCB ic (aa (dLC 1 [2,3] (mz (ab 2)) (am 0) (aB (dOp jh (ab 0) (ab 2))) (fy (aa (ab 0) (aa (kC (ab 1) (ab 0)) af)))) af))
def gM:DTS:=ax (aX (dCB bg (aa (ab 1) (aa (ab 2) af))) 3) (gK)
def jY:DTS:=ax (aX (dCB bb (aa (ab 0) (aa (ab 1) af))) 2) (gM)
def ou:WpT cI 4 jY:=by
 rintro ds M R ⟨ps,rs,log,rfl,hd,hl,h⟩;simp only[jY];walk_at "dl";refine⟨ps,rs,log,rfl,hd,by lia,λn B pB hB=>?_⟩
 have tb:=aR (rs:=rs) (log:=log);have kl:=bi (log:=log) (k:=AA0 "say");have hv:=kH hd (λ_ q=>q) tb
 have tl:=tb.len;have nd:=tb.nd;have en:=tb.en;have hsh:bd rs log=(ag rs log).filter λp=>@decide (¬hX (ag rs log) log p.1) (AAY _):=rfl
 rw[hsh]at h;clear hsh;generalize ag rs log=kvs at h tb tl hv nd en hB;simp only[gM];walk_at "dl";refine⟨ps,rs,log,n,kvs,rfl,hd,hl,hB,λp hp=>(hv p hp).1.nm,λys hs hy _ _=>?_⟩
 simp only[gK];walk_at "dl";have hB2:(B++[MO.lst ys])[n]?=some (.dkt kvs):=ac hB;refine⟨kvs,hB2,λ_=>?_⟩
 have sp:∀p∈kvs,St p.1:=λp hp=>by rw[(en p hp).1];exact(hv p hp).1.st
 refine aL (λk=>decide (k∉ys)) (λk=>.tup [k,(aW kvs k).getD .non]) (λS=>∃a,S=[a,some (.ref n),some (.ref B.length)]) hB2 _ _ _ ?_ ⟨_,rfl⟩ (by rw[AAU,AA4];exact ak (by lia)) ?_
 ·rintro x hm S ⟨a,rfl⟩
  obtain⟨p,hp,rfl⟩:=AAH.mp hm;have sx:=sp p hp;have hg:=eN nd hp;refine⟨[some p.1,some (.ref n),some (.ref B.length)],⟨_,rfl⟩,λY Z hYZ=>?_⟩
  rw[hg]at hYZ;obtain⟨ks,e⟩:=sx.tup;have hk:=sx.key;rw[e]at hYZ hg hk sx ⊢;walk_at "dl";refine⟨ys,ao,⟨sx.ok,lD hs⟩,?_⟩;rw[rT sx hs];by_cases hx:D.tup ks∈ys
  ·rw[dT_ hx]
   rw[dF_ (λz=>z hx)]at hYZ
   exact bJ hYZ
  ·rw[dF_ hx]
   rw[dT_ hx,if_pos rfl]at hYZ;exact bT ⟨kvs,_,hB2,hk,hg,ak (by lia),hYZ⟩
 ·rw[AAl]
  have el:((kvs.map (·.1)).filter λk=>decide (k∉ys)).map (λk=>D.tup [k,(aW kvs k).getD .non])=(kvs.filter λp=>decide (p.1∉ys)).map λp=>.tup [p.1,p.2]:=by
   rw[List.filter_map,ABI];refine AEK λp hp=>?_
   show D.tup [p.1,(aW kvs p.1).getD .non]=_;rw[eN nd (AAa.mp hp).1];rfl
  rw[el];have nd2:((kvs.filter λp=>decide (p.1∉ys)).map (·.1)).Nodup:=(List.filter_sublist.map _).nodup nd
  refine⟨_,ao,λp hp=>?_,?_,?_⟩
  ·have sx:=sp p (AAa.mp hp).1
   obtain⟨ks,e⟩:=sx.tup;exact⟨sx.key,by rw[e];rfl⟩
  ·have:=AAn (λp:D×D=>decide (p.1∉ys)) kvs
   lia
  ·rw[AF _ nd2]
   refine .inl (h _ _ (((pB.trans fB).trans fB).trans fB) ?_);have ef:(kvs.filter λp=>decide (p.1∉ys))=kvs.filter λp=>@decide (¬hX kvs log p.1) (AAY _):=ADv λp _=>by
    by_cases hb:hX kvs log p.1
    ·rw[dF_ (show ¬¬p.1∈ys from λz=>z ((hy _).mpr hb)),@decide_eq_false _ (AAY _) (λz=>z hb)]
    ·rw[dT_ (show ¬p.1∈ys from λz=>hb ((hy _).mp z)),@decide_eq_true _ (AAY _) hb]
   rw[<-ef];exact ae
def oV(T:Tops P w K mg base):Cal P w K mg base 5 "says_shown" fJ cI :=
 Cal.byD (N:=["house","log","says","backs"]) T.b T.f_says_shown (by walk_at "sc") mQ (by have:=du T;have:=gH T;walk_at "dv") ou
def bB:DSp:=λds M R=>∃(ps:List (Str×Int)) (rs:List (Str×List Str)) (log:List D) (name:Str),ds=[.tup log,.str name]/\(∀d∈log,aE ps rs d)/\log.length<1000/\∀n B tab,M <+: B->VbAt B n tab (oA log name)->R (.ref n) B
def iz:cE bB cg:=by rintro ds M R ⟨ps,rs,log,name,rfl,_⟩;rfl
def cM:DTS:=bw (ab 2)
def cN:DTS:=ax (mV (bP (dCB cw (aa (ab 0) (aa (dC (.str "read")) (aa (ab 1) af))))) (am 3) (jW (dMl cf (dMk vR (ab 2) (aa (dOp qIx (dOp qIx (ab 3) (dC (.int 3))) (dC (.int 1))) (aa (kD af) af))) (aa (dOp qIx (dOp qIx (ab 3) (dC (.int 3))) (dC (.int 2))) af)))) (cM)
def dP:DTS:=ax (aX (De) 2) (cN)
def iJ:WpT bB 4 dP:=by
 rintro ds M R ⟨ps,rs,log,name,rfl,hd,hl,h⟩;simp only[dP,cN];walk_at "dl";refine⟨ps,rs,log,AA0 "read",name,rfl,hd,by lia,?_⟩
 have ml:=fN (log:=log) (k:=AA0 "read") (name:=name);have mr:∀d∈db log (AA0 "read") name,∃(t:Int) (z:Str) (k num:Int) (r:Str) (hs:List (D×Int)),d=.tup [.int t,.tup [.str z,.int k],.int num,.tup [.str (AA0 "read"),.str r,.tup (mL hs)]]:=λd hm=>by
  obtain⟨h1,h2,_⟩:=jp hm;obtain⟨t,z,k,num,r,hs,e,_⟩:=yY (hd d h1) h2;exact⟨t,z,k,num,r,hs,e⟩
 have eV:oA log name=λr=>((db log (AA0 "read") name).filter λd=>decide (aV d=r)).map bn:=rfl
 rw[eV]at h;generalize db log (AA0 "read") name=F at ml mr h;have e1:(M++[MO.dct []]).length=M.length+1:=by simp
 have gF:(M++[MO.dct []]++[MO.lst F])[M.length+1]?=some (.lst F):=by rw[<-e1];exact ae
 rw[e1];refine⟨F,.inl gF,λ_=>?_⟩
 refine bA (λi S M'=>∃(tab:List (Str×D)) (a:Option D),M <+: M'/\M'[M.length+1]?=some (.lst F)/\VbAt M' M.length tab (λr=>((F.take i).filter λd=>decide (aV d=r)).map bn)/\tab.length<=i/\S=[some (.tup log),some (.str name),some (.ref M.length),a]) ?_ ?_ ⟨[],_,fB.trans fB,gF,⟨ac ae,λk d z=>(by cases z),λk _=>rfl,λ_ _ _ z=>(by cases z)⟩,AA8 _,rfl⟩
 ·rintro S M' ⟨tab,a,pM,gz,tr,_,rfl⟩
  rw[ABa]at tr;refine⟨.inl gz,?_⟩;simp only[cM];walk_at "dl";exact .inl (h _ _ _ pM tr)
 ·rintro i y S M' hy ⟨tab,a,pM,gz,tr,tl,rfl⟩ G hG
  have et:F.take (i+1)=F.take i++[y]:=by rw[ABv,hy];rfl
  rw[et]at hG;have hi:=(AA7.mp hy).1;obtain⟨t,z,k,num,r,hs,rfl⟩:=mr y (AAi hy);have kl':∀k,(((F.take i).filter λd=>decide (aV d=k)).map bn).length<=i:=λk=>by
   rw[AA4];refine AAq (AAn _ _) ?_
   rw[AAv];lia
  generalize hf':(λk'=>(((F.take i++[D.tup [.int t,.tup [.str z,.int k],.int num,.tup [.str (AA0 "read"),.str r,.tup (mL hs)]]]).filter λd=>decide (aV d=k')).map bn))=f' at hG
  have sn:∀k',f' k'=if r=k' then(((F.take i).filter λd=>decide (aV d=k')).map bn)++[.tup (mL hs)]else(((F.take i).filter λd=>decide (aV d=k')).map bn):=λk'=>by
   rw[<-hf'];dsimp only;rw[ACR,AB1,ABb,List.filter_nil];by_cases e:r=k'
   ·rw[if_pos e,show decide (aV (.tup [.int t,.tup [.str z,.int k],.int num,.tup [.str (AA0 "read"),.str r,.tup (mL hs)]])=k')=true from dT_ e];rfl
   ·rw[if_neg e,show decide (aV (.tup [.int t,.tup [.str z,.int k],.int num,.tup [.str (AA0 "read"),.str r,.tup (mL hs)]])=k')=false from dF_ e];exact AB7 _
  clear hf';refine⟨.inl gz,?_⟩;walk_at "dl";have e3:atI [D.int t,.tup [.str z,.int k],.int num,.tup [.str (AA0 "read"),.str r,.tup (mL hs)]] 3=some (.tup [.str (AA0 "read"),.str r,.tup (mL hs)]):=az (j:=3) rfl;rw[e3];dsimp only;rw[at2];dsimp only;show (∃kvs,M'[M.length]?=some (MO.dct kvs))/\_;refine⟨⟨_,tr.at_⟩,?_⟩;walk_at "dl";rw[e3];dsimp only;rw[at1];dsimp only;refine⟨AAX _,tab,ac tr.at_,aI (by lia),λy hy=>?_,λhn=>?_⟩
  ·obtain⟨m,rfl,nm,gm⟩:=tr.got r y hy
   refine⟨⟨_,.inl (ac gm)⟩,_,ac gm,aI (by have:=kl' r;lia),Fgt.now (hG _ _ ⟨tab,_,cY (pM.trans fB) (by lia),au (by lia) (ac gz),⟨au (by lia) (ac tr.at_),λk' d hd=>?_,λk' hd=>?_,tr.one⟩,by lia,rfl⟩)⟩
   ·obtain⟨m',rfl,nm',gm'⟩:=tr.got k' d hd
    refine⟨m',rfl,nm',?_⟩;rw[sn];by_cases e:r=k'
    ·subst e
     rw[hy]at hd;obtain rfl:m=m':=by injection hd with hd;injection hd
     rw[dc (ac gm),if_pos rfl]
    ·rw[if_neg e]
     exact au (λz=>e (tr.one _ _ _ (z ▸ hy) hd)) (ac gm')
   ·have e:r≠k':=λz=>by rw[<-z,hy]at hd;cases hd
    rw[sn,if_neg e];exact tr.no k' hd
  ·have lM:M.length+1<M'.length:=aN gz
   have g0:((M'++[MO.lst []]).set M.length (.dct (pU tab r (.ref M'.length))))[M'.length]?=some (.lst []):=au (by lia) ae
   have gt:∀k',gx (pU tab r (.ref M'.length)) k'=if r=k' then some (.ref M'.length)else gx tab k':=λk'=>by
    by_cases e:r=k'
    ·rw[if_pos e,<-e,yg]
    ·rw[if_neg e,wW (ABM e)]
   refine⟨⟨_,.inl g0⟩,_,g0,aI (by rw[AAU];lia),Fgt.now (hG _ _ ⟨pU tab r (.ref M'.length),_,cY (cY (pM.trans fB) (AA8 _)) (by lia),au (by lia) (au (by lia) (ac gz)),⟨au (by lia) (dc (ac tr.at_)),λk' d hd=>?_,λk' hd=>?_,λk1 k2 m h1 h2=>?_⟩,by have:=(BH (kvs:=tab) (k:=r) (d:=.ref M'.length)).1;lia,rfl⟩)⟩
   ·rw[gt]at hd
    by_cases e:r=k'
    ·rw[if_pos e]at hd
     subst e;exact⟨M'.length,by injection hd with hd;exact hd.symm,lM,by rw[dc g0,sn,if_pos rfl,tr.no _ hn]⟩
    ·rw[if_neg e]at hd
     obtain⟨m',rfl,nm',gm'⟩:=tr.got k' d hd;have:=aN gm';exact⟨m',rfl,nm',by rw[sn,if_neg e];exact au (by lia) (au (by lia) (ac gm'))⟩
   ·rw[gt]at hd
    by_cases e:r=k'
    ·rw[if_pos e]at hd;cases hd
    ·rw[if_neg e]at hd
     rw[sn,if_neg e];exact tr.no k' hd
   ·rw[gt]at h1 h2
    have old:∀k' m,gx tab k'=some (.ref m)->m<M'.length:=λk' m h'=>by
     obtain⟨m',e,_,gm'⟩:=tr.got k' _ h';injection e with e
     rw[e];exact aN gm'
    by_cases e1:r=k1<;>by_cases e2:r=k2
    ·rw[<-e1,<-e2]
    ·rw[if_pos e1]at h1;rw[if_neg e2]at h2
     have:=old _ _ h2;injection h1 with h1;injection h1 with h1;lia
    ·rw[if_neg e1]at h1;rw[if_pos e2]at h2
     have:=old _ _ h1;injection h2 with h2;injection h2 with h2;lia
    ·rw[if_neg e1]at h1;rw[if_neg e2]at h2
     exact tr.one _ _ _ h1 h2
def jn(T:Tops P w K mg base):Cal P w K mg base 3 "vectors_by_room" cg bB :=
 Cal.byD (N:=["log","name","vectors","deed"]) T.b T.f_vectors_by_room (by walk_at "sc") iz (by have:=ix T;walk_at "dv") iJ
def gj:DSp:=λds M R=>∃(ps:List (Str×Int)) (rs:List (Str×List Str)) (log:List D) (name:Str) (e:D) (qv qs:Nat) (tab:List (Str×D)),ds=[e,.str name,.ref qv,.ref qs]/\(∀d∈log,aE ps rs d)/\log.length<=1000/\aE ps rs e/\ba e=AA0 "say"/\VbAt M qv tab (oA log name)/\M[qs]?=some (.lst (cA log (AA0 "seen") name))/\(∀x∈cA log (AA0 "seen") name,St x)/\R (.bl (tG log name e)) M
def ua:cE gj lR:=by rintro ds M R ⟨ps,rs,log,name,e,qv,qs,tab,rfl,_⟩;rfl
def EA(hd:∀d∈log,aE ps rs d):∀v∈oA log name r,∃hs:List (D×Int),v=.tup (mL hs)/\(∀p∈hs,Hd p.1)/\hs.length<=12:=λv hv=>by
 obtain⟨d,hm,rfl⟩:=AAH.mp hv;obtain⟨h1,h2,_⟩:=jp (AAa.mp hm).1;obtain⟨t,z,k,num,r,hs,rfl,q1,q2⟩:=yY (hd d h1) h2;exact⟨hs,rfl,q1,q2⟩
def Bp:(oA log name r).length<=log.length:=by
 unfold oA;rw[AA4];exact AAq (AAn _ _) fN
def lq:DTS:=bw (dCB GF (aa (dLC 1 [0] (bP (dMk vS (ab 2) (aa (dCB bR (aa (ab 0) af)) (aa (kD af) af)))) (am 0) uu (dCB dA (aa (ab 1) (aa (ab 0) af)))) af))
def qw:DTS:=ax (dIf (dOr (aB (dOp qEq (dCB aO (aa (ab 0) af)) (ab 1))) (aB (dOp qIn (dCB cu (aa (ab 0) af)) (ab 3)))) (bw (dC (.bl true))) bq) (lq)
def wR:WpT gj 4 qw:=by
 rintro ds M R ⟨ps,rs,log,name,e,qv,qs,tab,rfl,hd,hl,de,ke,vb,gs,hs,h⟩;obtain⟨t,z,k,num,r,u,s,rfl,_⟩:=jc de ke;have hst:St (.tup [.int t,.tup [.str z,.int k]]):=⟨_,_,_,rfl⟩;simp only[qw];walk_at "dl";refine⟨_,_,_,_,rfl,⟨aq,aq⟩,?_⟩;rw[aM];unfold tG at h;rw[show bD (.tup [.int t,.tup [.str z,.int k],.int num,.tup [.str (AA0 "say"),.str r,u,.str s]])=z from rfl,show stD (.tup [.int t,.tup [.str z,.int k],.int num,.tup [.str (AA0 "say"),.str r,u,.str s]])=.tup [.int t,.tup [.str z,.int k]]from rfl,show aV (.tup [.int t,.tup [.str z,.int k],.int num,.tup [.str (AA0 "say"),.str r,u,.str s]])=r from rfl]at h;by_cases e1:z=name
 ·rw[beq_iff_eq.mpr e1]
  rw[dT_ e1]at h;exact bT (bj.now h)
 rw[beq_eq_false_iff_ne.mpr e1];rw[dF_ e1,AEE]at h;refine bJ ⟨_,_,_,rfl,_,.inl gs,⟨hst.ok,lD hs⟩,?_⟩;rw[rT hst hs];by_cases e2:D.tup [.int t,.tup [.str z,.int k]]∈cA log (AA0 "seen") name
 ·rw[dT_ e2]
  rw[dT_ e2]at h;exact bT (bj.now h)
 rw[dF_ e2];rw[dF_ e2,AEE]at h;refine bJ ?_
 simp only[lq];walk_at "dl";show (∃kvs,M[qv]?=some (MO.dct kvs))/\_;refine⟨⟨_,vb.at_⟩,?_⟩;walk_at "dl";refine⟨_,_,_,_,_,_,rfl,AAX _,tab,ac vb.at_,?_⟩;obtain⟨q,eq,gq⟩:=(vb.pre (fB (mo:=MO.lst []))).kids (k:=r) ae;rw[eq];have pM:M <+: M++[MO.lst []]:=fB;generalize M++[MO.lst []]=B at gq pM;have vl:=Bp (log:=log) (name:=name) (r:=r);have vo:=EA (name:=name) (r:=r) hd;generalize oA log name r=L at gq h vl vo;refine⟨_,.inl gq,λ_=>?_⟩
 refine bZ (λv=>.bl (fq (GB v) (.tup [.str z,.int k]) num)) (λS=>∃a,S=[a,some (.tup [.int t,.tup [.str z,.int k],.int num,.tup [.str (AA0 "say"),.str r,u,.str s]])]) (.inl gq) _ _ _ (λv hv S hS=>?_) ⟨_,rfl⟩ (by rw[AAU];exact ak (by lia)) ?_
 ·obtain⟨a,rfl⟩:=hS
  obtain⟨hs,rfl,v1,v2⟩:=vo v hv;refine⟨[some (.tup (mL hs)),some (.tup [.int t,.tup [.str z,.int k],.int num,.tup [.str (AA0 "say"),.str r,u,.str s]])],⟨_,rfl⟩,λY hY=>?_⟩
  rw[Bq]at hY;walk_at "dl";exact⟨_,_,_,_,hs,rfl,⟨_,_,rfl⟩,v1,by lia,hY⟩
 ·refine⟨L.map λv=>fq (GB v) (.tup [.str z,.int k]) num,?_,?_⟩
  ·rw[AAl,show bls (L.map λv=>fq (GB v) (.tup [.str z,.int k]) num)=L.map λv=>.bl (fq (GB v) (.tup [.str z,.int k]) num) by unfold bls;rw[ABI];rfl]
   exact ao
  ·rw[List.any_map]
   exact bj.bl h (pM.trans fB)
def xn(T:Tops P w K mg base):Cal P w K mg base 2 "is_read" lR gj :=
 Cal.byD (N:=["say","name","vectors","seen"]) T.b T.f_is_read (by walk_at "sc") ua (by have:=iw T;have:=bQ T;have:=qX T;have:=jM T;walk_at "dv") wR
def bC:DSp:=λds M R=>∃(ps:List (Str×Int)) (rs:List (Str×List Str)) (log:List D) (name:Str),ds=[aK ps rs,.tup log,.str name]/\(∀d∈log,aE ps rs d)/\log.length<64/\R (.ref M.length) (M++[.lst ((bL rs log name).map (Fx (br (bd rs log) log)))])
def iA:cE bC cj:=by rintro ds M R ⟨ps,rs,log,name,rfl,_⟩;rfl
def nR(hd:∀d∈log,aE ps rs d):∀p∈bd rs log,p.1=stD p.2/\aE ps rs p.2/\ba p.2=AA0 "say":=λp hp=>by
 have h1:=(lH.mp hp).1;have tb:=aR (rs:=rs) (log:=log);exact⟨(tb.en p h1).1,kH hd (λ_ q=>q) tb p h1⟩
def Cj(hc:∀p∈ch,∃s,p.2=.str s)(hd:aE ps rs d)(hk:ba d=AA0 "say"):Bel n (Fx ch d):=by
 obtain⟨t,z,k,num,r,u,s,rfl,_,_,_,hu⟩:=jc hd hk;have hub:Bel n u:=by
  rcases hu with rfl | hu
  ·exact .non
  ·exact bV 2 u hu.pl
 refine .tup (.cons (bV 2 _ (St.pl (n:=0) ⟨t,z,k,rfl⟩)) (.cons (.str _) (.cons hub (.cons (.str _) (.cons ?_ (.cons (.bl _) .nil))))));cases e:aW ch (stD (.tup [.int t,.tup [.str z,.int k],.int num,.tup [.str (AA0 "say"),.str r,u,.str s]])) with
 | none=>exact .str _
 | some v =>
  obtain⟨s',e'⟩:=hc _ (bG e);dsimp only at e';rw[e'];exact .str _
def cO:DTS:=bw (dLC 1 [6,2,3,4] (wH (ab 5)) (am 0) (dNot (aB (dCB gj (aa (ab 0) (aa (ab 2) (aa (ab 3) (aa (ab 4) af))))))) (dCB cJ (aa (ab 0) (aa (ab 1) af))))
def cQ:DTS:=ax (aX (dCB cb (aa (ab 1) (aa (ab 5) af))) 6) (cO)
def cR:DTS:=ax (aX (dCB cI (aa (ab 0) (aa (ab 1) af))) 5) (cQ)
def cS:DTS:=ax (aX (dCB bI (aa (ab 1) (aa (dC (.str "seen")) (aa (ab 2) af)))) 4) (cR)
def dR:DTS:=ax (aX (dCB bB (aa (ab 1) (aa (ab 2) af))) 3) (cS)
def iK:WpT bC 7 dR:=by
 rintro ds M R ⟨ps,rs,log,name,rfl,hd,hl,h⟩;simp only[dR];walk_at "dl";refine⟨ps,rs,log,name,rfl,hd,by lia,λn B tab pB vb=>?_⟩
 simp only[cS];walk_at "dl";refine⟨ps,rs,log,_,name,rfl,hd,by lia,.inl rfl,λhs=>?_⟩
 have vb1:=vb.pre (fB (mo:=MO.lst (cA log (AA0 "seen") name)));have gs:(B++[MO.lst (cA log (AA0 "seen") name)])[B.length]?=some (.lst (cA log (AA0 "seen") name)):=ae;have p1:=pB.trans (fB (mo:=MO.lst (cA log (AA0 "seen") name)));generalize B++[MO.lst (cA log (AA0 "seen") name)]=B1 at vb1 gs p1;generalize B.length=qs at gs;simp only[cR];walk_at "dl";refine⟨ps,rs,log,rfl,hd,hl,λn2 B2 pB2 g2=>?_⟩
 have sv:=nR (rs:=rs) hd;have sl:(bd rs log).length<=1000:=by
  have h1:=(aR (rs:=rs) (log:=log)).len;have h2:=bi (log:=log) (k:=AA0 "say");have h3:(bd rs log).length<=(ag rs log).length:=AAn _ _;lia
 simp only[cQ];walk_at "dl";refine⟨ps,rs,log,n2,bd rs log,rfl,hd,by lia,g2,λp hp=>(sv p hp).2.1.nm,λn3 B3 pB3 g3=>?_⟩
 have vb3:=vb1.pre (pB2.trans pB3);have gs3:=aT (pB2.trans pB3) gs;have g23:=aT pB3 g2;have p3:=p1.trans (pB2.trans pB3);simp only[cO];walk_at "dl";refine⟨_,g23,λ_=>?_⟩
 refine aL (λe=>!tG log name e) (Fx (br (bd rs log) log)) (λS=>∃a,S=[a,some (.ref n3),some (.str name),some (.ref n),some (.ref qs)]) g23 _ _ _ ?_ ⟨_,rfl⟩ (by rw[AAU,AA4];exact ak (by lia)) ?_
 ·rintro e he S ⟨a,rfl⟩
  refine⟨[some e,some (.ref n3),some (.str name),some (.ref n),some (.ref qs)],⟨_,rfl⟩,λY Z hYZ=>?_⟩
  obtain⟨p,hp,rfl⟩:=AAH.mp he;obtain⟨_,d1,d2⟩:=sv p hp;walk_at "dl";refine⟨ps,rs,log,name,p.2,n,qs,tab,rfl,hd,by lia,d1,d2,vb3,gs3,hs,?_⟩
  cases hb:tG log name p.2 with
  | true =>
   rw[hb]at hYZ;exact hYZ
  | false =>
   rw[hb]at hYZ;exact⟨ps,rs,p.2,n3,_,rfl,d1,d2,g3,hYZ⟩
 ·rw[AAl]
  obtain⟨L,rfl⟩:=p3;rw[AAg];have eU:((bd rs log).map (·.2)).filter (λe=>!tG log name e)=bL rs log name:=rfl
  rw[eU];refine bj.lst h (by simp) (by simp) (Bels.of λd q=>?_)
  obtain⟨e,he,rfl⟩:=AAH.mp q;obtain⟨p,hp,rfl⟩:=AAH.mp (AAa.mp he).1;exact Cj (uz hd) (sv p hp).2.1 (sv p hp).2.2
def jo(T:Tops P w K mg base):Cal P w K mg base 6 "unread_messages" cj bC :=
 Cal.byD (N:=["house","log","name","vectors","seen","says","changes"]) T.b T.f_unread_messages (by walk_at "sc") iA (by have:=gY T;have:=lW T;have:=oW T;have:=oV T;have:=jn T;have:=xn T;walk_at "dv") iK
def bK:DSp:=λds M R=>∃(ps:List (Str×Int)) (rs:List (Str×List Str)) (kvs:List (D×D)) (ys:List D) (q p:Nat) (H:D->Bool),ds=[.ref q,.ref p]/\M[q]?=some (.dkt kvs)/\M[p]?=some (.lst ys)/\(kvs.map (·.1)).Nodup/\(∀x∈kvs,x.1=stD x.2/\aE ps rs x.2/\ba x.2=AA0 "say")/\kvs.length<1000/\(∀w∈ys,fg w)/\(∀s,D.tup [.str (AA0 "under"),s]∈ys↔H s=true)/\R (.ref M.length) (M++[.lst (aG H kvs)])
def jO:cE bK cZ:=by rintro ds M R ⟨ps,rs,kvs,ys,q,p,H,rfl,_⟩;rfl
def dS:DTS:=bw (ab 2)
def dU:DTS:=ax (mV (mz (ab 0)) (am 3) (dIf (dOr (aB (dOp qIn (fy (aa (dC (.str "under")) (aa (ab 3) af))) (ab 1))) (aB (dOp qIn (dCB cr (aa (kC (ab 0) (ab 3)) af)) (ab 2)))) (jW (dMl cf (ab 2) (aa (ab 3) af))) bq)) (dS)
def fE:DTS:=ax (aX (kD af) 2) (dU)
def kr:WpT bK 4 fE:=by
 rintro ds M R ⟨ps,rs,kvs,ys,q,p,H,rfl,hq,hp,nd,en,kl,hw,hH,h⟩;simp only[fE,dU];walk_at "dl";have ql:=aN hq;have pl:=aN hp;refine⟨AAX _,kvs,ac hq,λ_=>?_⟩
 refine bA (λi S M'=>∃a:Option D,M'=M++[.lst (aG H (kvs.take i))]/\S=[some (.ref q),some (.ref p),some (.ref M.length),a]) ?_ ?_ ⟨_,rfl,rfl⟩
 ·rintro S M' ⟨a,rfl,rfl⟩
  rw[AA4,ABa];refine⟨ac hq,?_⟩;simp only[dS];walk_at "dl";exact .inl h
 ·rintro i y S M' hy ⟨a,rfl,rfl⟩ G hG
  rw[AAR]at hy;obtain⟨x,hx,rfl⟩:=ABC.mp hy;have hi:=(AA7.mp hx).1;have et:kvs.take (i+1)=kvs.take i++[x]:=by rw[ABv,hx];rfl
  rw[et,bx]at hG;have hm:=AAi hx;obtain⟨ex,dx,kx⟩:=en x hm;have hF:∀s∈aG H (kvs.take i),St s:=λs hs=>by
   obtain⟨z,hz,rfl⟩:=AAH.mp (jt s hs);obtain⟨e,d,_⟩:=en z (AEB hz);rw[e];exact d.st
  have lF:=Ap (H:=H) (kvs:=kvs.take i);rw[AAv]at lF;generalize aG H (kvs.take i)=F at hG hF lF;have hg:=eN nd hm;have hst:St x.1:=by rw[ex];exact dx.st
  generalize x.2=e at hG hg dx kx;generalize x.1=s at hG hg hst;obtain⟨t',z',k',rfl⟩:=hst;obtain⟨t,z,k,num,r,u,s,rfl,_,_,_,hu⟩:=jc dx kx;have hst:St (.tup [.int t',.tup [.str z',.int k']]):=⟨_,_,_,rfl⟩;have hwt:fg (.tup [.str (AA0 "under"),.tup [.int t',.tup [.str z',.int k']]]):=.inr (.inr ⟨_,_,_,rfl⟩);have uo:∀B,okD B eqN u=true:=λB=>by
   rcases hu with rfl | q
   ·rfl
   ·exact q.ok
  have eu:bn (.tup [.int t,.tup [.str z,.int k],.int num,.tup [.str (AA0 "say"),.str r,u,.str s]])=u:=rfl;rw[eu]at hG;refine⟨ac hq,?_⟩;walk_at "dl";refine⟨ak (by lia),_,.inl (ac hp),⟨(qT 3 eqN _ (by decide) hwt.pl).1,oz hw⟩,?_⟩
  rw[pF hwt hw];have g0:(M++[MO.lst F])[M.length]?=some (.lst F):=ae;have add:(∀S' M',(∃a:Option D,M'=M++[.lst (F++[.tup [.int t',.tup [.str z',.int k']]])]/\S'=[some (.ref q),some (.ref p),some (.ref M.length),a])->G S' M')->∃xs,(M++[MO.lst F])[M.length]?=some (.lst xs)/\xs.length<sizeLine/\Fgt (M++[MO.lst []]) G [some (.ref q),some (.ref p),some (.ref M.length),some (.tup [.int t',.tup [.str z',.int k']])] ((M++[MO.lst F]).set M.length (MO.lst (xs++[.tup [.int t',.tup [.str z',.int k']]]))):=λhG=>by
   refine⟨F,g0,aI (by lia),?_⟩
   rw[ia];exact Fgt.now (hG _ _ ⟨_,rfl,rfl⟩)
  by_cases c1:D.tup [.str (AA0 "under"),.tup [.int t',.tup [.str z',.int k']]]∈ys
  ·rw[dT_ c1]
   rw[(hH _).mp c1,Bool.true_or,if_pos rfl]at hG;exact bT ⟨⟨_,.inl g0⟩,add hG⟩
  ·rw[dF_ c1]
   have c1':H (.tup [.int t',.tup [.str z',.int k']])=false:=AB4.mpr λz=>c1 ((hH _).mpr z)
   rw[c1',AEE]at hG;refine bJ ⟨_,_,ac hq,rfl,hg,_,_,_,_,_,_,_,rfl,_,.inl g0,⟨uo _,lD hF⟩,?_⟩;rw[IK hu hF];by_cases c2:u∈F
   ·rw[dT_ c2]
    rw[dT_ c2,if_pos rfl]at hG;exact bT ⟨⟨_,.inl g0⟩,add hG⟩
   ·rw[dF_ c2]
    rw[dF_ c2,if_neg (by decide)]at hG
    exact bJ (Fgt.now (hG _ _ ⟨_,rfl,rfl⟩))
def kw(T:Tops P w K mg base):Cal P w K mg base 2 "stamps_hushed" cZ bK :=
 Cal.byD (N:=["says","hushes","hushed","stamp"]) T.b T.f_stamps_hushed (by walk_at "sc") jO (by have:=iu T;walk_at "dv") kr
def dw:DSp:=λds M R=>∃(ps:List (Str×Int)) (rs:List (Str×List Str)) (kvs:List (D×D)) (q:Nat) (name:Str),ds=[.ref q,.str name]/\M[q]?=some (.dkt kvs)/\(kvs.map (·.1)).Nodup/\(∀x∈kvs,x.1=stD x.2/\aE ps rs x.2)/\kvs.length<1000/\R (.ref M.length) (M++[.lst (pV kvs name)])
def ph:cE dw ii:=by rintro ds M R ⟨ps,rs,kvs,q,name,rfl,_⟩;rfl
def kZ:DTS:=bw (dLC 1 [0,1] (mz (ab 0)) (am 0) (aB (dOp qEq (dCB aO (aa (kC (ab 1) (ab 0)) af)) (ab 2))) (ab 0))
theorem pW:WpT dw 2 kZ:=by
 rintro ds M R ⟨ps,rs,kvs,q,name,rfl,hq,nd,en,kl,h⟩;simp only[kZ];walk_at "dl";refine⟨kvs,hq,λ_=>?_⟩
 refine aL (λs=>decide (bD ((aW kvs s).getD .non)=name)) id (λS=>∃a,S=[a,some (.ref q),some (.str name)]) hq _ _ _ ?_ ⟨_,rfl⟩ (by rw[AAU,AA4];exact ak (by lia)) ?_
 ·rintro y hy S ⟨a,rfl⟩
  obtain⟨x,hx,rfl⟩:=AAH.mp hy;obtain⟨ex,dx⟩:=en x hx;have hg:=eN nd hx;have hst:St x.1:=by rw[ex];exact dx.st
  refine⟨[some x.1,some (.ref q),some (.str name)],⟨_,rfl⟩,λY Z hYZ=>?_⟩
  rw[hg]at hYZ;generalize x.2=e at hg dx hYZ;generalize x.1=s at hg hst hYZ;obtain⟨t',z',k',rfl⟩:=hst;obtain⟨t,z,k,num,w,ds,rfl,_⟩:=dx;walk_at "dl";refine⟨_,_,hq,rfl,hg,_,_,_,_,rfl,⟨aq,aq⟩,?_⟩;rw[aM];have hYZ:if decide (z=name)=true then Y (.tup [.int t',.tup [.str z',.int k']]) [some (.tup [.int t',.tup [.str z',.int k']]),some (.ref q),some (.str name)] M else Z [some (.tup [.int t',.tup [.str z',.int k']]),some (.ref q),some (.str name)] M:=hYZ;by_cases e:z=name
  ·rw[beq_iff_eq.mpr e]
   rw[dT_ e]at hYZ;exact hYZ
  ·rw[beq_eq_false_iff_ne.mpr e]
   rw[dF_ e]at hYZ;exact hYZ
 ·rw[AAl,ACh]
  exact .inl h
def qW(T:Tops P w K mg base):Cal P w K mg base 2 "stamps_by" ii dw :=
 Cal.byD (N:=["says","name"]) T.b T.f_stamps_by (by walk_at "sc") ph (by have:=bQ T;walk_at "dv") pW
def fj:DSp:=λds M R=>∃(s u v w:D) (r z:Str) (rooms:List Str) (rung ys:List D) (q1 q2 q3:Nat),ds=[.tup [s,.str r,u,.str z,v,w],.ref q1,.ref q2,.ref q3]/\M[q1]?=some (.lst (rooms.map .str))/\M[q2]?=some (.lst rung)/\M[q3]?=some (.lst ys)/\St s/\(∀x∈rung,St x)/\(∀x∈ys,fg x)/\R (.bl (decide (r∈rooms)&&(!decide (s∈rung) && !decide (D.tup [.str (AA0 "person"),.str z]∈ys)))) M
def rL:cE fj jL:=by rintro ds M R ⟨s,u,v,w,r,z,rooms,rung,ys,q1,q2,q3,rfl,_⟩;rfl
def nN:DTS:=bw (sy (dOp qIn (dOp qIx (ab 0) (dC (.int 1))) (ab 1)) (sy (dOp jh (dOp qIx (ab 0) (dC (.int 0))) (ab 2)) (dOp jh (fy (aa (dC (.str "person")) (aa (dOp qIx (ab 0) (dC (.int 3))) af))) (ab 3))))
def sU:WpT fj 4 nN:=by
 rintro ds M R ⟨s,u,v,w,r,z,rooms,rung,ys,q1,q2,q3,rfl,g1,g2,g3,hs,hr,hw,h⟩;have hwp:fg (.tup [.str (AA0 "person"),.str z]):=.inr (.inl ⟨_,rfl⟩);simp only[nN];walk_at "dl";refine⟨_,.inl g1,⟨aq,oG⟩,?_⟩;rw[pG];cases e1:decide (r∈rooms) with
 | false =>
  rw[e1]at h;exact bj.now h
 | true =>
  rw[e1,Bool.true_and]at h;show ∃xs,ar M q2 xs/\_;refine⟨_,.inl g2,⟨hs.ok,lD hr⟩,?_⟩;rw[rT hs hr];cases e2:decide (s∈rung) with
  | true =>
   rw[e2]at h;exact bj.now h
  | false =>
   rw[e2]at h;show 2<=sizeLine/\∃xs,ar M q3 xs/\_;refine⟨ak (by lia),_,.inl g3,⟨(qT 3 eqN _ (by decide) hwp.pl).1,oz hw⟩,?_⟩
   rw[pF hwp hw];rw[show (!false && !decide (D.tup [.str (AA0 "person"),.str z]∈ys))=(decide (D.tup [.str (AA0 "person"),.str z]∈ys) != true) by cases decide (D.tup [.str (AA0 "person"),.str z]∈ys)<;>rfl]at h
   exact bj.now h
def tQ(T:Tops P w K mg base):Cal P w K mg base 1 "can_ring" jL fj :=
 Cal.byD (N:=["message","rooms","rung","hushes"]) T.b T.f_can_ring (by walk_at "sc") rL (by walk_at "dv") sU
def jz:DSp:=λds M R=>∃(a b u d w:D) (s name:Str) (own:List D) (q:Nat) (quiet:Bool),ds=[.tup [a,b,u,d,.str s,w],.str name,.ref q,.bl quiet]/\M[q]?=some (.lst own)/\(∀x∈own,St x)/\(u=.non\/St u)/\s.length<=100/\name.length<=100/\R (if fM (.str s) name=true then .str (AA0 "named")else if u∈own then .str (AA0 "answered")else if quiet=true then .non else .str (AA0 "heard")) M
def xz:cE jz oR:=by rintro ds M R ⟨a,b,u,d,w,s,name,own,q,quiet,rfl,_⟩;rfl
def mY:DTS:=bw (dIfE (aB (ab 3)) (dC .non) (dC (.str "heard")))
def mZ:DTS:=ax (dIf (aB (dOp qIn (dOp qIx (ab 0) (dC (.int 2))) (ab 2))) (bw (dC (.str "answered"))) bq) (mY)
def uK:DTS:=ax (dIf (aB (dCB fi (aa (dOp qIx (ab 0) (dC (.int 4))) (aa (ab 1) af)))) (bw (dC (.str "named"))) bq) (mZ)
def xZ:WpT jz 4 uK:=by
 rintro ds M R ⟨a,b,u,d,w,s,name,own,q,quiet,rfl,g,ho,hu,hs,hn,h⟩;have uo:okD M eqN u=true:=by
  rcases hu with rfl | q
  ·rfl
  ·exact q.ok
 have e4:atI [a,b,u,d,.str s,w] 4=some (.str s):=az (j:=4) rfl;simp only[uK];walk_at "dl";rw[e4];refine⟨s,name,rfl,hs,hn,?_⟩;cases e1:fM (.str s) name with
 | true =>
  rw[e1,if_pos rfl]at h;exact bT (bj.now h)
 | false =>
  rw[e1,if_neg (by decide)]at h
  refine bJ ?_
  simp only[mZ];walk_at "dl";refine⟨_,.inl g,⟨uo,lD ho⟩,?_⟩;rw[IK hu ho];by_cases e2:u∈own
  ·rw[dT_ e2]
   rw[if_pos e2]at h;exact bT (bj.now h)
  ·rw[dF_ e2]
   rw[if_neg e2]at h;refine bJ ?_
   simp only[mY];walk_at "dl";cases quiet with
   | true =>
    rw[if_pos rfl]at h;exact bT (bj.now h)
   | false =>
    rw[if_neg (by decide)]at h
    exact bJ (bj.now h)
def zq(T:Tops P w K mg base):Cal P w K mg base 4 "why_of" oR jz :=
 Cal.byD (N:=["message","name","own","quiet"]) T.b T.f_why_of (by walk_at "sc") xz (by have:=tP T;walk_at "dv") xZ
def bo:DSp:=λds M R=>∃(ps:List (Str×Int)) (rs:List (Str×List Str)) (log:List D) (name:Str),ds=[aK ps rs,.tup log,.str name]/\(∀d∈log,aE ps rs d)/\log.length<64/\rs.length<=4/\name.length<=100/\R (.ref M.length) (M++[.lst (aA rs log name)])
def pC:cE bo ir:=by rintro ds M R ⟨ps,rs,log,name,rfl,_⟩;rfl
def BE(hd:∀d∈log,aE ps rs d)(de:aE ps rs e)(ke:ba e=AA0 "say"):∃s:Str,BF rs log e=.str s/\s.length<=100:=by
 unfold BF;cases hg:aW (br (bd rs log) log) (stD e) with
 | none=>exact EL de ke
 | some v =>
  obtain⟨d,hm,e1⟩:=AAH.mp (oo _ (bG hg));obtain⟨h1,h2⟩:=aH (AAa.mp hm).1;have:=xQ (hd d h1) h2;injection e1 with _ e2
  rw[<-e2];exact this
def gU:DTS:=bw (ab 9)
def iT:DTS:=dIf (Gp (aB (dOp nT (ab 12) (dC .non))) (aB (dCB fj (aa (ab 10) (aa (ab 3) (aa (ab 4) (aa (ab 5) af))))))) (jW (dMl cf (ab 9) (aa (fy (aa (dOp qIx (ab 10) (dC (.int 0))) (aa (ab 12) af))) af))) bq
def eH:DTS:=ax (aX (dCB jz (aa (ab 10) (aa (ab 2) (aa (ab 7) (aa (ab 11) af))))) 12) (iT)
def iU:DTS:=ax (mV (bP (dCB bC (aa (ab 0) (aa (ab 1) (aa (ab 2) af))))) (am 10) (ax (aX (JD (dOp qIn (fy (aa (dC (.str "room")) (aa (dOp qIx (ab 10) (dC (.int 1))) af))) (ab 5)) (dOp qIn (dOp qIx (ab 10) (dC (.int 0))) (ab 8))) 11) (eH))) (gU)
def iV:DTS:=ax (aX (kD af) 9) (iU)
def iW:DTS:=ax (aX (dCB bK (aa (ab 6) (aa (ab 5) af))) 8) (iV)
def iX:DTS:=ax (aX (dCB dw (aa (ab 6) (aa (ab 2) af))) 7) (iW)
def iY:DTS:=ax (aX (dCB bb (aa (ab 0) (aa (ab 1) af))) 6) (iX)
def iZ:DTS:=ax (aX (dCB dD (aa (ab 1) (aa (ab 2) af))) 5) (iY)
def ja:DTS:=ax (aX (dCB bI (aa (ab 1) (aa (dC (.str "rung")) (aa (ab 2) af)))) 4) (iZ)
def lC:DTS:=ax (aX (dCB fh (aa (ab 0) (aa (ab 2) af))) 3) (ja)
def qc:WpT bo 13 lC:=by
 rintro ds M R ⟨ps,rs,log,name,rfl,hd,hl,rl,nl,h⟩;have tb:=aR (rs:=rs) (log:=log);have hv:=kH hd (λ_ q=>q) tb
 have kl:=bi (log:=log) (k:=AA0 "say");have tl:=tb.len;have sv:=nR (rs:=rs) hd;simp only[lC];walk_at "dl";refine⟨ps,rs,name,rfl,by lia,?_⟩
 have g3:(M++[MO.lst ((fx rs name).map .str)])[M.length]?=some (.lst ((fx rs name).map .str)):=ae;have pB:M <+: M++[MO.lst ((fx rs name).map .str)]:=fB;generalize M++[MO.lst ((fx rs name).map .str)]=B1 at g3 pB;generalize M.length=q3 at g3;simp only[ja];walk_at "dl";refine⟨ps,rs,log,_,name,rfl,hd,by lia,.inr rfl,λhrs=>?_⟩
 have g4:(B1++[MO.lst (cA log (AA0 "rung") name)])[B1.length]?=some (.lst (cA log (AA0 "rung") name)):=ae;replace g3:=ac (a:=MO.lst (cA log (AA0 "rung") name)) g3;replace pB:=pB.trans (fB (mo:=MO.lst (cA log (AA0 "rung") name)));dsimp only;generalize B1++[MO.lst (cA log (AA0 "rung") name)]=B2 at g3 g4 pB;generalize B1.length=q4 at g4;simp only[iZ];walk_at "dl";refine⟨ps,rs,log,name,rfl,hd,Nat.lt_of_le_of_lt fN hl,by lia,λys hw hy=>?_⟩
 have g5:(B2++[MO.lst ys])[B2.length]?=some (.lst ys):=ae;replace g3:=ac (a:=MO.lst ys) g3;replace g4:=ac (a:=MO.lst ys) g4;replace pB:=pB.trans (fB (mo:=MO.lst ys));dsimp only;generalize B2++[MO.lst ys]=B3 at g3 g4 g5 pB;generalize B2.length=q5 at g5;have hy':∀w,decide (w∈ys)=bz log name w:=λw=>decide_eq_decide.mpr (hy w)
 simp only[iY];walk_at "dl";refine⟨ps,rs,log,rfl,hd,by lia,λq6 B4 p4 g6=>?_⟩
 replace g3:=aT p4 g3;replace g4:=aT p4 g4;replace g5:=aT p4 g5;replace pB:=pB.trans p4;dsimp only;simp only[iX];walk_at "dl";refine⟨ps,rs,ag rs log,q6,name,rfl,g6,tb.nd,λx hx=>⟨(tb.en x hx).1,(hv x hx).1⟩,by lia,?_⟩
 have ow:∀x∈pV (ag rs log) name,St x:=λx hx=>by
  obtain⟨p,hp,rfl⟩:=AAH.mp (AAa.mp hx).1;rw[(tb.en p hp).1];exact(hv p hp).1.st
 have g7:(B4++[MO.lst (pV (ag rs log) name)])[B4.length]?=some (.lst (pV (ag rs log) name)):=ae;replace g3:=ac (a:=MO.lst (pV (ag rs log) name)) g3;replace g4:=ac (a:=MO.lst (pV (ag rs log) name)) g4;replace g5:=ac (a:=MO.lst (pV (ag rs log) name)) g5;replace g6:=ac (a:=MO.lst (pV (ag rs log) name)) g6;replace pB:=pB.trans (fB (mo:=MO.lst (pV (ag rs log) name)));generalize B4++[MO.lst (pV (ag rs log) name)]=B5 at g3 g4 g5 g6 g7 pB;generalize B4.length=q7 at g7;simp only[iW];walk_at "dl";refine⟨ps,rs,ag rs log,ys,q6,q5,λs=>bz log name (.tup [.str (AA0 "under"),s]),rfl,g6,g5,tb.nd,λx hx=>⟨(tb.en x hx).1,hv x hx⟩,by lia,hw,λs=>(by show _↔bz log name _=true;rw[<-hy',decide_eq_true_iff]),?_⟩
 generalize hF:aG (λs=>bz log name (.tup [.str (AA0 "under"),s])) (ag rs log)=F
 have hFs:∀x∈F,St x:=λx hx=>by
  rw[<-hF]at hx;obtain⟨p,hp,rfl⟩:=AAH.mp (jt x hx);rw[(tb.en p hp).1];exact(hv p hp).1.st
 have g8:(B5++[MO.lst F])[B5.length]?=some (.lst F):=ae;replace g3:=ac (a:=MO.lst F) g3;replace g4:=ac (a:=MO.lst F) g4;replace g5:=ac (a:=MO.lst F) g5;replace g7:=ac (a:=MO.lst F) g7;replace pB:=pB.trans (fB (mo:=MO.lst F));generalize B5++[MO.lst F]=B6 at g3 g4 g5 g7 g8 pB;generalize B5.length=q8 at g8;simp only[iV];walk_at "dl";refine⟨AAX _,?_⟩;simp only[iU];walk_at "dl";refine⟨ps,rs,log,name,rfl,hd,hl,?_⟩;generalize hU:(bL rs log name).map (Fx (br (bd rs log) log))=U;have ul:U.length<=1000:=by
  rw[<-hU,AA4];refine AAq (AAn _ _) ?_
  rw[AA4];have:(bd rs log).length<=(ag rs log).length:=AAn _ _;lia
 have g9:(B6++[MO.lst []]++[MO.lst U])[B6.length]?=some (.lst []):=ac ae;have g10:(B6++[MO.lst []]++[MO.lst U])[(B6++[MO.lst []]).length]?=some (.lst U):=ae;have q910:(B6++[MO.lst []]).length=B6.length+1:=by simp
 rw[q910]at g10 ⊢;refine⟨_,.inl g10,λ_=>?_⟩
 have bl:∀i,(((bL rs log name).take i).filterMap (kE rs log name)).length<=i:=λi=>by
  refine AAq (List.length_filterMap_le _ _) ?_
  rw[AAv];lia
 refine bA (λi S M'=>∃(a b c:Option D),B6 <+: M'/\M'[B6.length]?=some (.lst (((bL rs log name).take i).filterMap (kE rs log name)))/\M'[B6.length+1]?=some (.lst U)/\S=[some (aK ps rs),some (.tup log),some (.str name),some (.ref q3),some (.ref q4),some (.ref q5),some (.ref q6),some (.ref q7),some (.ref q8),some (.ref B6.length),a,b,c]) ?_ ?_ ⟨_,_,_,fB.trans fB,g9,g10,rfl⟩
 ·rintro S M' ⟨a,b,c,pM,gb,gu,rfl⟩
  have eU:U.length=(bL rs log name).length:=by rw[<-hU,AA4]
  rw[eU,ABa]at gb;refine⟨.inl gu,?_⟩;simp only[gU];walk_at "dl";obtain⟨L,rfl⟩:∃L,B6=M++L:=by obtain⟨L,e⟩:=pB;exact⟨L,e.symm⟩
  have ed:(bL rs log name).filterMap (kE rs log name)=aA rs log name:=rfl;rw[ed]at gb;refine bj.chgL .refl h (by simp) gb ((AAb _ _).trans pM) (Bels.of λd hd'=>?_)
  obtain⟨e,he,eo⟩:=ABe.mp hd';unfold kE at eo;split at eo
  ·obtain⟨w,_,rfl⟩:=ABC.mp eo
   obtain⟨p,hp,rfl⟩:=AAH.mp (AAa.mp he).1;exact .tup (.cons (bV 2 _ (sv p hp).2.1.st.pl) (.cons (.str _) .nil))
  ·cases eo
 ·rintro i y S M' hy ⟨a,b,c,pM,gb,gu,rfl⟩ G hG
  rw[<-hU,AAR]at hy;obtain⟨e,he,rfl⟩:=ABC.mp hy;have et:(bL rs log name).take (i+1)=(bL rs log name).take i++[e]:=by rw[ABv,he];rfl
  have hi:=(AA7.mp he).1;rw[et,List.filterMap_append]at hG;have bli:=bl i;obtain⟨p,hp,ep⟩:=AAH.mp (AAa.mp (AAi he)).1;obtain⟨_,de,ke⟩:=sv p hp;have ep:p.2=e:=ep;rw[ep]at de ke;generalize ((bL rs log name).take i).filterMap (kE rs log name)=bs at gb hG bli;have il:i<1000:=by
   rw[<-hU,AA4]at ul;lia
  have g3x:=aT pM g3;have g4x:=aT pM g4;have g5x:=aT pM g5;have g7x:=aT pM g7;have g8x:=aT pM g8;refine⟨.inl gu,?_⟩;obtain⟨s,es,sl⟩:=BE hd de ke;have em:Fx (br (bd rs log) log) e=.tup [stD e,.str (aV e),bn e,.str (bD e),.str s,.bl (aW (br (bd rs log) log) (stD e)).isSome]:=by
   rw[<-es];rfl
  have hst:=de.st;have hu:bn e=.non\/St (bn e):=by
   obtain⟨t,z,k,num,r,u,s,rfl,_,_,_,hu⟩:=jc de ke;exact hu
  have hwr:fg (.tup [.str (AA0 "room"),.str (aV e)]):=.inl ⟨_,rfl⟩;have ebo:kE rs log name e=(if yW rs log name e=true then(Bn rs log name e).map λw=>.tup [stD e,.str w]else none):=rfl
  have ewo:Bn rs log name e=(if fM (.str s) name=true then some (AA0 "named")else if bn e∈pV (ag rs log) name then some (AA0 "answered")else if (bz log name (.tup [.str (AA0 "room"),.str (aV e)])||decide (stD e∈F))=true then none else some (AA0 "heard")):=by
   unfold Bn;rw[es,hF]
  have nxt:∀(E:DEnds) (quiet:Bool),E.nx=Fgt (B6++[MO.lst []]++[MO.lst U]) G->quiet=(bz log name (.tup [.str (AA0 "room"),.str (aV e)])||decide (stD e∈F))->eH E [some (aK ps rs),some (.tup log),some (.str name),some (.ref q3),some (.ref q4),some (.ref q5),some (.ref q6),some (.ref q7),some (.ref q8),some (.ref B6.length),some (.tup [stD e,.str (aV e),bn e,.str (bD e),.str s,.bl (aW (br (bd rs log) log) (stD e)).isSome]),some (.bl quiet),c] M':=λE quiet eE eq=>by
   have ev:(if fM (.str s) name=true then D.str (AA0 "named")else if bn e∈pV (ag rs log) name then .str (AA0 "answered")else if quiet=true then .non else .str (AA0 "heard"))=(match Bn rs log name e with | some w=>.str w | none=>.non):=by
    rw[ewo,eq];by_cases c1:fM (.str s) name=true
    ·rw[if_pos c1,if_pos c1]
    rw[if_neg c1,if_neg c1];by_cases c2:bn e∈pV (ag rs log) name
    ·rw[if_pos c2,if_pos c2]
    rw[if_neg c2,if_neg c2];by_cases c3:(bz log name (.tup [.str (AA0 "room"),.str (aV e)])||decide (stD e∈F))=true
    ·rw[if_pos c3,if_pos c3]
    ·rw[if_neg c3,if_neg c3]
   have e4:E.nx [some (aK ps rs),some (.tup log),some (.str name),some (.ref q3),some (.ref q4),some (.ref q5),some (.ref q6),some (.ref q7),some (.ref q8),some (.ref B6.length),some (.tup [stD e,.str (aV e),bn e,.str (bD e),.str s,.bl (aW (br (bd rs log) log) (stD e)).isSome]),some (.bl quiet),some (match Bn rs log name e with | some w=>.str w | none=>.non)] (M'.set B6.length (.lst (bs++List.filterMap (kE rs log name) [e]))):=by
    rw[eE];exact Fgt.now (hG _ _ ⟨_,_,_,cY pM (AA8 _),dc gb,au (by lia) gu,rfl⟩)
   have no:kE rs log name e=none->E.nx [some (aK ps rs),some (.tup log),some (.str name),some (.ref q3),some (.ref q4),some (.ref q5),some (.ref q6),some (.ref q7),some (.ref q8),some (.ref B6.length),some (.tup [stD e,.str (aV e),bn e,.str (bD e),.str s,.bl (aW (br (bd rs log) log) (stD e)).isSome]),some (.bl quiet),some (match Bn rs log name e with | some w=>.str w | none=>.non)] M':=λz=>by
    rw[eE];refine Fgt.now (hG _ _ ⟨_,_,_,pM,?_,gu,rfl⟩);rw[AB5,z,List.filterMap_nil,AB7];exact gb
   simp only[eH];walk_at "dl";refine⟨_,_,_,_,_,s,name,pV (ag rs log) name,q7,quiet,rfl,g7x,ow,hu,sl,nl,?_⟩;rw[ev];simp only[iT];cases hwo:Bn rs log name e with
   | none =>
    rw[hwo]at no ebo;walk_at "dl";refine no ?_
    rw[ebo];split<;>rfl
   | some w =>
    rw[hwo]at no ebo e4;walk_at "dl";refine⟨_,_,_,_,_,_,fx rs name,cA log (AA0 "rung") name,ys,q3,q4,q5,rfl,g3x,g4x,g5x,hst,hrs,hw,?_⟩;have er:(decide (aV e∈fx rs name)&&(!decide (stD e∈cA log (AA0 "rung") name) && !decide (D.tup [.str (AA0 "person"),.str (bD e)]∈ys)))=yW rs log name e:=by
     rw[hy'];rfl
    rw[er];cases hb:yW rs log name e with
    | false =>
     rw[hb,if_neg (by decide)]at ebo
     exact bJ (no ebo)
    | true =>
     rw[hb,if_pos rfl]at ebo;refine bT ⟨⟨_,.inl gb⟩,ak (by lia),_,gb,aI (by lia),?_⟩
     rw[AB5,ebo,List.filterMap_nil]at e4;exact e4
  rw[em];walk_at "dl";refine⟨ak (by lia),_,.inl g5x,⟨(qT 3 eqN _ (by decide) hwr.pl).1,oz hw⟩,?_⟩
  rw[pF hwr hw,hy'];cases hb1:bz log name (.tup [.str (AA0 "room"),.str (aV e)]) with
  | true=>exact nxt _ true rfl (by rw[hb1];rfl)
  | false =>
   show ∃xs,ar M' q8 xs/\_;refine⟨_,.inl g8x,⟨hst.ok,lD hFs⟩,?_⟩;rw[rT hst hFs];exact nxt _ _ rfl (by rw[hb1];cases decide (stD e∈F)<;>rfl)
def rh(T:Tops P w K mg base):Cal P w K mg base 7 "bells_for" ir bo :=
 Cal.byD (N:=["house","log","name","rooms","rung","hushes","says","own","hushed","bells","message","quiet","why"]) T.b T.f_bells_for (by walk_at "sc") pC (by have:=tO T;have:=gY T;have:=qZ T;have:=du T;have:=jo T;have:=kw T;have:=qW T;have:=tQ T;have:=zq T;walk_at "dv") qc
def Ep(ns:List Int)(k:Nat):Int:=ns.getD k 0
def eD:DSp:=λds M R=>∃(n:Nat) (ns:List Int) (k:Nat),ds=[.ref n,.int k]/\ar M n (ns.map D.int)/\R (.int (Ep ns k)) M
def ub:cE eD lT:=by rintro ds M R ⟨n,ns,k,rfl,_⟩;rfl
def lA:DTS:=bw (dC (.int 0))
def qH:DTS:=ax (dIf (aB (dOp qLt (ab 1) (dCB mN (aa (ab 0) af)))) (bw (dOp qIx (ab 0) (ab 1))) bq) (lA)
def wS:WpT eD 2 qH:=by
 rintro ds M R ⟨n,ns,k,rfl,hL,h⟩;simp only[qH,lA];walk_at "dl";refine⟨_,hL,?_⟩;unfold Ep at h;by_cases hk:k<ns.length
 ·rw[dT_ (by simpa using hk)]
  refine bT ⟨_,hL,?_⟩;rw[az (v:=.int ns[k]) (by rw[AAR,AA6 hk];rfl)]
  rw[AAL,AA6 hk]at h;exact bj.now h
 ·rw[dF_ (by simpa using hk)]
  rw[AAL,ABO (by lia)]at h
  exact bJ (bj.now h)
def xo(T:Tops P w K mg base):Cal P w K mg base 1 "_law_cell_at" lT eD :=
 Cal.byD (N:=["_law_script","_law_k"]) T.b T.f_cell_at (by walk_at "sc") ub (by walk_at "dv") wS
def dj:DSp:=λds M R=>∃(c:Int),ds=[.int c]/\∀n:Int,R (.ref M.length) (M++[.lst [.int n]])
def xC:cE dj oU:=by rintro ds M R ⟨c,rfl,_⟩;rfl
def nF:DTS:=bw (kD (aa (ab 3) af))
def nG:DTS:=aX (dOp bv (dOp oK (ab 3) (dC (.int 2147483587))) (dOp za (dOp oK (ab 5) (dC (.int 69621))) (dC (.int 2147483587)))) 3
def nH:DTS:=ax (aX (dOp za (dOp oK (ab 2) (ab 2)) (dC (.int 2147483629))) 5) (nG)
def nI:DTS:=ax (mV (eZ (aa (dC (.int 16)) af)) (am 4) (ax (aX (dOp za (dOp bv (dOp bv (dOp oK (ab 2) (dC (.int 48271))) (dOp oK (dC (.int 7919)) (ab 4))) (dC (.int 11))) (dC (.int 2147483647))) 2) (nH))) (nF)
def nJ:DTS:=ax (aX (dC (.int 0)) 3) (nI)
def nK:DTS:=ax (aX (dOp za (ab 1) (dC (.int 2147483647))) 2) (nJ)
def nL:DTS:=ax (dIf (aB (dOp qEq (dOp za (ab 0) (dC (.int 2))) (dC (.int 0)))) (bw (kD (aa (ab 1) af))) bq) (nK)
def vG:DTS:=ax (aX (dOp tH (ab 0) (dC (.int 2))) 1) (nL)
def yc:WpT dj 6 vG:=by
 rintro ds M R ⟨c,rfl,h⟩;simp only[vG,nL];walk_at "dl";refine⟨⟨by decide,by decide⟩,by decide,⟨rfl,rfl⟩,?_⟩
 generalize hb:eqD M eqN (.int (c % 2)) (.int 0)=b;cases b with
 | true=>exact bT ⟨ak (by lia),.inl (h _)⟩
 | false =>
  refine bJ ?_
  simp only[nK,nJ,nI];walk_at "dl";have r0:=vW (a:=c / 2) (b:=2147483647) (by decide)
  have r1:=vX (a:=c / 2) (b:=2147483647) (by decide)
  refine⟨by decide,⟨by decide,by decide⟩,?_⟩
  refine bA (λi S M'=>M'=M/\∃(nu to:Int) (a b:Option D),0<=nu/\nu<2147483647/\S=[some (.int c),some (.int (c / 2)),some (.int nu),some (.int to),a,b]) ?_ ?_ ⟨rfl,_,_,_,_,r0,r1,rfl⟩
  ·rintro S M' ⟨rfl,nu,to,a,b,_,_,rfl⟩
   refine⟨trivial,?_⟩;simp only[nF];walk_at "dl";exact⟨ak (by lia),.inl (h _)⟩
  ·rintro i y S M' hy ⟨rfl,nu,to,a,b,n0,n1,rfl⟩ G hG
   obtain⟨hi,rfl⟩:=fY.mp hy;refine⟨trivial,?_⟩;walk_at "dl";refine⟨.inr ⟨by decide,by decide⟩,.inl ⟨by decide,by decide⟩,by decide,?_⟩
   have a0:=vW (a:=nu*48271+7919*(0+(i:Int))+11) (b:=2147483647) (by decide)
   have a1:=vX (a:=nu*48271+7919*(0+(i:Int))+11) (b:=2147483647) (by decide)
   generalize (nu*48271+7919*(0+(i:Int))+11) % 2147483647=nv at a0 a1;simp only[nH,nG];walk_at "dl";refine⟨.inl ⟨by lia,by lia⟩,by decide,.inr ⟨by decide,by decide⟩,.inr ⟨by decide,by decide⟩,by decide,?_⟩
   exact Fgt.now (hG _ _ ⟨rfl,_,_,_,_,a0,a1,rfl⟩)
def lY(T:Tops P w K mg base):Cal P w K mg base 1 "_law_digits" oU dj :=
 Cal.byD (N:=["_law_cell","_law_rest","_law_number","_law_total","_law_k","_law_other"]) T.b T.f_digits (by walk_at "sc") xC (by walk_at "dv") yc
def av:DSp:=λds M R=>∃(q:Nat) (m:Int),ds=[.ref q,.int m]/\HdP M q/\0<m/\m<100000000000/\∀i n:Int,0<=i->i<m->R (.int i) (M.set q (.lst [.int n]))
def Cp:cE av zi:=by rintro ds M R ⟨q,m,rfl,_⟩;rfl
def uP:DTS:=bw (ab 2)
def uQ:DTS:=ax (JE (dOp tH (dOp qIx (ab 0) (dC (.int 0))) (ab 1)) (Da (ab 0) (dC (.int 0)))) (uP)
def Do:DTS:=ax (aX (dOp za (dOp qIx (ab 0) (dC (.int 0))) (ab 1)) 2) (uQ)
def Ev:WpT av 3 Do:=by
 rintro ds M R ⟨q,m,rfl,⟨n,hq⟩,m0,m1,h⟩;simp only[Do,uQ,uP];walk_at "dl";refine⟨_,.inl hq,?_⟩;rw[at0];refine⟨m0,_,.inl hq,?_⟩;rw[at0];exact⟨⟨m0,by lia⟩,_,0,hq,rfl,.inl (h _ _ (vW m0) (vX m0))⟩
def dJ(T:Tops P w K mg base):Cal P w K mg base 1 "_law_take" zi av :=
 Cal.byD (N:=["_law_held","_law_many","_law_digit"]) T.b T.f_take (by walk_at "sc") Cp (by walk_at "dv") Ev
def jX:DSp:=λds M R=>∃(q:Nat),ds=[.ref q]/\HdP M q/\∀(z:Str) (n:Int),z.length<=8->R (.str z) (M.set q (.lst [.int n]))
def Cs:cE jX zm:=by rintro ds M R ⟨q,rfl,_⟩;rfl
def uX:DTS:=bw (ab 2)
def uY:DTS:=ax (mV (eZ (aa (dOp bv (dC (.int 1)) (dCB av (aa (ab 0) (aa (dC (.int 8)) af)))) af)) (am 3) (aX (dOp bv (ab 2) (dOp qIx (ab 1) (dCB av (aa (ab 0) (aa (dC (.int 26)) af))))) 2)) (uX)
def uZ:DTS:=ax (aX (dC (.str "")) 2) (uY)
def Dr:DTS:=ax (aX (dC (.str "abcdefghijklmnopqrstuvwxyz")) 1) (uZ)
def Ey:WpT jX 4 Dr:=by
 rintro ds M R ⟨q,rfl,hq,h⟩;have ql:=hq.lt;simp only[Dr,uZ,uY];walk_at "dl";refine⟨q,8,rfl,hq,by decide,by decide,λi n i0 i1=>?_⟩
 have g0:=hq.start.set (n:=n) ql;generalize M.set q (.lst [.int n])=B0 at g0;walk_at "dl";refine⟨⟨by lia,by lia⟩,?_⟩
 refine bA (λj S M'=>Hl M M' q/\∃(z:Str) (a:Option D),z.length=j/\S=[some (.ref q),some (.str (AA0 "abcdefghijklmnopqrstuvwxyz")),some (.str z),a]) ?_ ?_ ⟨g0,AA0 "",_,by decide +kernel,rfl⟩
 ·rintro S M' ⟨g,z,a,zl,rfl⟩
  refine⟨trivial,?_⟩;simp only[uX];walk_at "dl";rw[fX]at zl;exact g.fin (.str _) λn=>h z n (by lia)
 ·rintro j y S M' hy ⟨g,z,a,zl,rfl⟩ G hG
  have hj:=(fY.mp hy).1;refine⟨trivial,?_⟩;walk_at "dl";refine⟨q,26,rfl,g.hd ql,by decide,by decide,λk n k0 k1=>?_⟩
  have g1:=g.set (n:=n) ql;generalize M'.set q (.lst [.int n])=B1 at g1;walk_at "dl";have hl:(AA0 "abcdefghijklmnopqrstuvwxyz").cps.toList.length=26:=by decide +kernel
  have hz:(AA0 "abcdefghijklmnopqrstuvwxyz").length=26:=by decide +kernel
  obtain⟨j',hj',ej,_⟩:=fQ (xs:=(AA0 "abcdefghijklmnopqrstuvwxyz").cps.toList) k0 (by rw[hl];exact k1)
  refine⟨by rw[hz];exact ak (by lia),?_⟩
  rw[ej];have o1:∀c:Nat,(⟨#[c]⟩:Str).length=1:=λ_=>rfl
  refine⟨by rw[o1];exact ak (by lia),Fgt.now (hG _ _ ⟨g1,_,_,?_,rfl⟩)⟩
  rw[cq,o1,zl]
def zw(T:Tops P w K mg base):Cal P w K mg base 2 "_law_name" zm jX :=
 Cal.byD (N:=["_law_held","_law_letters","_law_name_here","_law_k"]) T.b T.f_name (by walk_at "sc") Cs (by have:=dJ T;walk_at "dv") Ey
def jB:DSp:=λds M R=>∃(q:Nat) (m:Int),ds=[.ref q,.int m]/\HdP M q/\1<=m/\m<=4/\∀(xs:List Str) (n:Int),xs.Nodup->1<=xs.length->xs.length<=4->(∀x∈xs,x.length<=8)->R (.ref M.length) (M.set q (.lst [.int n])++[.lst (xs.map .str)])
def zK:cE jB tJ:=by rintro ds M R ⟨q,m,rfl,_⟩;rfl
def lg:DTS:=bw (dCB jF (aa (ab 4) af))
def lh:DTS:=dIf (aB (dOp jh (ab 6) (ab 4))) (jW (dMl cf (ab 4) (aa (ab 6) af))) bq
def qp:DTS:=ax (dIf (aB (ab 2)) (aX (dSl (dSl (dOp bv (dSl (ab 3) fe (jV (dC (.int 7)))) (ab 6)) fe (jV (dOp bv (dCB mN (aa (ab 3) af)) (ab 5)))) fe (jV (dC (.int 8)))) 6) bq) (lh)
def qr:DTS:=ax (mV (pO (aa (dC (.int 1)) (aa (ab 1) af))) (am 5) (ax (aX (dCB jX (aa (ab 0) af)) 6) (qp))) (lg)
def qt:DTS:=ax (aX (kD (aa (ab 3) af)) 4) (qr)
def qu:DTS:=ax (aX (dCB jX (aa (ab 0) af)) 3) (qt)
def yk:DTS:=ax (aX (dOp qEq (dCB av (aa (ab 0) (aa (dC (.int 2)) af))) (dC (.int 1))) 2) (qu)
def Bj:WpT jB 7 yk:=by
 rintro ds M R ⟨q,m,rfl,hq,m1,m4,h⟩;have ql:=hq.lt;simp only[yk];walk_at "dl";refine⟨q,2,rfl,hq,by decide,by decide,λi n _ _=>?_⟩
 have g0:=hq.start.set (n:=n) ql;generalize M.set q (.lst [.int n])=B0 at g0;refine⟨⟨rfl,rfl⟩,?_⟩;generalize eqD B0 eqN (.int i) (.int 1)=al;simp only[qu];walk_at "dl";refine⟨q,rfl,g0.hd ql,λz n zl=>?_⟩
 have g1:=g0.set (n:=n) ql;generalize B0.set q (.lst [.int n])=B1 at g1;simp only[qt];walk_at "dl";refine⟨ak (by lia),?_⟩
 have g2:Hl M (B1++[MO.lst [D.str z]]) q:=g1.more;have gp:(B1++[MO.lst [D.str z]])[B1.length]?=some (.lst ([z].map D.str)):=ae;have pM:=g1.len;generalize B1++[MO.lst [D.str z]]=B2 at g2 gp;generalize B1.length=p at gp pM;simp only[qr];walk_at "dl";refine⟨⟨by decide,by decide,by lia,by lia⟩,?_⟩
 refine bA (λj S M'=>Hl M M' q/\∃(xs:List Str) (a b:Option D),xs.Nodup/\1<=xs.length/\xs.length<=1+j/\(∀x∈xs,x.length<=8)/\M'[p]?=some (.lst (xs.map .str))/\S=[some (.ref q),some (.int m),some (.bl al),some (.str z),some (.ref p),a,b]) ?_ ?_ ⟨g2,[z],_,_,by simp,by simp,by simp,by simpa using zl,gp,rfl⟩
 ·rintro S M' ⟨g,xs,a,b,nd,x1,xl,x8,gp,rfl⟩
  rw[fX]at xl;refine⟨trivial,?_⟩;simp only[lg];walk_at "dl";refine⟨_,.inl gp,(Bw (by lia)).g,λys hy _=>?_⟩
  obtain⟨zs,rfl,hp⟩:=qV hy;have hl:=hp.length_eq;exact(g.more (L:=[.lst (zs.map .str)])).finL g.len ae (vL _) λn=>h zs n (hp.nodup_iff.mpr nd) (by lia) (by lia) λx hx=>x8 x (hp.mem_iff.mp hx)
 ·rintro j y S M' hy ⟨g,xs,a,b,nd,x1,xl,x8,gp,rfl⟩ G hG
  obtain⟨hj,rfl⟩:=fY.mp hy;refine⟨trivial,?_⟩;walk_at "dl";refine⟨q,rfl,g.hd ql,λy n yl=>?_⟩
  have g3:=g.set (n:=n) ql;have gp3:(M'.set q (.lst [.int n]))[p]?=some (.lst (xs.map .str)):=au (by lia) gp
  generalize M'.set q (.lst [.int n])=B3 at g3 gp3;have fin:∀y:Str,y.length<=8->lh ⟨Fgt B2 G,bj M R,λS' M'=>lg (EE M R) S' M',Fgt B2 G⟩ [some (.ref q),some (.int m),some (.bl al),some (.str z),some (.ref p),some (.int (1+(j:Int))),some (.str y)] B3:=λy yl=>by
   simp only[lh];walk_at "dl";refine⟨_,.inl gp3,⟨aq,oG⟩,?_⟩;rw[pG];by_cases hm:y∈xs
   ·rw[dT_ hm]
    exact bJ (Fgt.now (hG _ _ ⟨g3,xs,_,_,nd,x1,by lia,x8,gp3,rfl⟩))
   ·rw[dF_ hm]
    refine bT ⟨⟨_,.inl gp3⟩,_,gp3,aI (by rw[AA4];lia),?_⟩
    refine Fgt.now (hG _ _ ⟨g3.setO pM,xs++[y],_,_,?_,?_,?_,λx hx=>?_,?_,rfl⟩)
    ·exact List.nodup_append.mpr ⟨nd,by simp,λa ha b hb e=>hm (by rw[show b=y by simpa using hb]at e;exact e ▸ ha)⟩
    ·rw[AAB];lia
    ·rw[AAB,AAV];lia
    ·rcases AAT.mp hx with hx | hx
     ·exact x8 x hx
     ·rw[show x=y by simpa using hx];exact yl
    ·rw[AB1];exact dc gp3
  simp only[qp];walk_at "dl";cases al with
  | false=>exact bJ (fin y yl)
  | true =>
   have s1:=Txt.slice_le z none (some 7);have s2:=Txt.slice_le (ADG z none (some 7)++y) none (some ((z.length:Int)+(1+(j:Int))));rw[cq]at s2;refine bT ⟨ak (by lia),ak (by lia),ak (by lia),by rw[cq];exact ak (by lia),ak (by lia),?_⟩
   exact fin _ (By _ 8)
def BY(T:Tops P w K mg base):Cal P w K mg base 3 "_law_names" tJ jB :=
 Cal.byD (N:=["_law_held","_law_many","_law_alike","_law_base","_law_names_here","_law_k","_law_name_here"]) T.b T.f_names (by walk_at "sc") zK (by have:=dJ T;have:=zw T;walk_at "dv") Bj
def kR:DSp:=λds M R=>∃(c:Int),ds=[.int c]/\∀ps rs,HouseF ps rs->R (aK ps rs) M
def zL:cE kR tK:=by rintro ds M R ⟨c,rfl,_⟩;rfl
structure HsD(M B:Mem)(q p:Nat)(ns:List Str):Prop where
 pre:M <+: B
 qM:M.length<=q
 hd:HdP B q
 ne:p≠q
 nm:B[p]?=some (.lst (ns.map .str))
section
variable{M B:Mem}{q p m:Nat}{ns:List Str}{n:Int}{x:MO}
def HsD.set(g:HsD M B q p ns):HsD M (B.set q (.lst [.int n])) q p ns:=⟨cY g.pre g.qM,g.qM,⟨n,AAo g.hd.lt⟩,g.ne,au g.ne g.nm⟩
def HsD.more(g:HsD M B q p ns):HsD M (B++L) q p ns:=⟨g.pre.trans (AAb _ _),g.qM,by obtain⟨n,h⟩:=g.hd;exact⟨n,aT (AAb _ _) h⟩,g.ne,aT (AAb _ _) g.nm⟩
def HsD.setO(g:HsD M B q p ns)(h1:M.length<=m)(h2:q≠m)(h3:p≠m):HsD M (B.set m x) q p ns:=⟨cY g.pre h1,g.qM,by obtain⟨n,h⟩:=g.hd;exact⟨n,au h2 h⟩,g.ne,au h3 g.nm⟩
end
def qx:DTS:=bw (fy (aa (ab 3) (aa (dCB je (aa (ab 4) af)) af)))
def qz:DTS:=jW (dMl cf (ab 4) (aa (fy (aa (ab 5) (aa (dCB je (aa (ab 7) af)) af))) af))
def qA:DTS:=ax (ko 1 [2,6] (eZ (aa (dCB mN (aa (ab 2) af)) af)) (am 0) (aB (dOp qEq (dOp za (dOp tH (ab 2) (dOp GC (dC (.int 1)) (ab 0))) (dC (.int 2))) (dC (.int 1)))) (dOp qIx (ab 1) (ab 0)) 7) (qz)
def lz:DTS:=ax (mV (bP (dCB jB (aa (ab 1) (aa (dOp bv (dC (.int 1)) (dCB av (aa (ab 1) (aa (dC (.int 4)) af)))) af)))) (am 5) (ax (aX (dOp bv (dC (.int 1)) (dCB av (aa (ab 1) (aa (dOp Hh (dOp GC (dC (.int 1)) (dCB mN (aa (ab 2) af))) (dC (.int 1))) af)))) 6) (qA))) (qx)
def qC:DTS:=ax (aX (kD af) 4) (lz)
def qD:DTS:=ax (aX (dCB je (aa (dLC 1 [1] (bP (ab 2)) (am 0) uu (fy (aa (ab 0) (aa (dOp bv (dC (.int 1)) (dCB av (aa (ab 1) (aa (dC (.int 3)) af)))) af)))) af)) 3) (qC)
def qE:DTS:=ax (aX (dCB jB (aa (ab 1) (aa (dOp bv (dC (.int 1)) (dCB av (aa (ab 1) (aa (dC (.int 4)) af)))) af))) 2) (qD)
def yE:DTS:=ax (aX (dCB dj (aa (ab 0) af)) 1) (qE)
def FO(g:HsD M B q p ns)(n1:1<=ns.length)(n4:ns.length<=4)(rM:M.length<=r)(rq:r≠q)(rp:r≠p)(gr:B[r]?=some (.lst []))
  (h:∀rs:List (Str×List Str),1<=rs.length/\rs.length<=4->(rs.map (·.1)).Nodup->(∀r∈rs,r.2.length<=4)->R (aK ps rs) M) :
  lz (EE M R) [y0,some (.ref q),some (.ref p),some (.tup (ps.map ig)),some (.ref r),y5,y6,y7] B:=by
 simp only[lz];walk_at "dl";refine⟨q,4,rfl,g.hd,by decide,by decide,λi n i0 i1=>?_⟩
 have g0:=g.set (n:=n);have gr0:(B.set q (.lst [.int n]))[r]?=some (.lst []):=au rq gr;generalize B.set q (.lst [.int n])=B0 at g0 gr0;refine⟨q,1+i,rfl,g0.hd,by lia,by lia,λws n wn w1 w4 w8=>?_⟩
 have g1:=g0.set (n:=n);have gr1:(B0.set q (.lst [.int n]))[r]?=some (.lst []):=au rq gr0;have bl:(B0.set q (.lst [.int n])).length=B0.length:=AB0 ..;have g2:=g1.more (L:=[.lst (ws.map .str)]);have gr2:=ac (a:=.lst (ws.map .str)) gr1;have gw:(B0.set q (.lst [.int n])++[.lst (ws.map .str)])[B0.length]?=some (.lst (ws.map .str)):=by rw[<-bl];exact ae
 have wM:M.length<=B0.length:=g0.pre.length_le;have wq:B0.length≠q:=by have:=g0.hd.lt;lia
 have wp:B0.length≠p:=by have:=aN g0.nm;lia
 have wr:B0.length≠r:=by have:=aN gr0;lia
 generalize B0.set q (.lst [.int n])++[.lst (ws.map .str)]=B2 at g2 gr2 gw;generalize B0.length=w at gw wM wq wp wr;refine⟨_,.inl gw,λ_=>?_⟩
 refine bA (λj S M'=>∃(rs:List (Str×List Str)) (a b c:Option D),HsD M M' q p ns/\M'[r]?=some (.lst (rs.map gG))/\M'[w]?=some (.lst (ws.map .str))/\rs.map (·.1)=ws.take j/\rs.length=j/\(∀x∈rs,x.2.length<=4)/\S=[y0,some (.ref q),some (.ref p),some (.tup (ps.map ig)),some (.ref r),a,b,c]) ?_ ?_ ⟨[],_,_,_,g2,gr2,gw,rfl,rfl,(λ_ z=>nomatch z),rfl⟩
 ·rintro S M' ⟨rs,a,b,c,g,gr,gw,hn,hl,hm,rfl⟩
  rw[AA4]at hn hl;rw[ABa]at hn;refine⟨.inl gw,?_⟩;simp only[qx];walk_at "dl";refine⟨_,.inl gr,ak (by lia),?_⟩
  refine bj.keep (h rs ⟨by lia,by lia⟩ (by rw[hn];exact wn) hm) ?_ g.pre
  refine .tup (.cons (.tup (Bels.of λd hd=>?_)) (.cons (.tup (Bels.of λd hd=>?_)) .nil))
  ·obtain⟨x,_,rfl⟩:=AAH.mp hd
   exact .tup (.cons (.str _) (.cons (.int _) .nil))
  ·obtain⟨x,_,rfl⟩:=AAH.mp hd
   exact .tup (.cons (.str _) (.cons (.tup (vL _)) .nil))
 ·rintro j y S M' hy ⟨rs,a,b,c,g,gr,gw,hn,hl,hm,rfl⟩ G hG
  rw[AAR]at hy;obtain⟨s,hs,rfl⟩:=ABC.mp hy;have hj:=(AA7.mp hs).1;have et:ws.take (j+1)=ws.take j++[s]:=by rw[ABv,hs];rfl
  refine⟨.inl gw,?_⟩;walk_at "dl";have pw:0<(1:Int)*2 ^ ns.length-1/\(1:Int)*2 ^ ns.length-1<100:=by
   have:ns.length=1\/ns.length=2\/ns.length=3\/ns.length=4:=by lia
   rcases this with e | e | e | e<;>rw[e]<;>decide
  refine⟨_,.inl g.nm,⟨by lia,by rw[AA4];lia,by decide⟩,?_⟩
  rw[AA4,ABX];refine⟨q,_,rfl,g.hd,pw.1,by lia,λi n i0 i1=>?_⟩
  have g3:=g.set (n:=n);have gr3:(M'.set q (.lst [.int n]))[r]?=some (.lst (rs.map gG)):=au rq gr;have gw3:(M'.set q (.lst [.int n]))[w]?=some (.lst (ws.map .str)):=au wq gw;generalize M'.set q (.lst [.int n])=B3 at g3 gr3 gw3;simp only[qA];walk_at "dl";refine⟨_,.inl g3.nm,⟨by lia,by rw[AA4];lia⟩,?_⟩
  rw[AA4,ABX];refine pP (λys acc S M2=>∃(xs:List Str) (a2:Option D),acc=xs.map D.str/\xs.length+ys.length<=4/\(∀y∈ys,∃j:Nat,y=.int (0+(j:Int))/\j<ns.length)/\M2=B3/\S=[a2,some (.ref p),some (.int (1+i))]) ?_ ?_ _ _ _ _ ⟨[],_,rfl,by rw[AAU,fX];lia,λy' hy'=>?_,rfl,rfl⟩
  ·rintro acc S M2 ⟨xs,a2,rfl,xl4,_,rfl,rfl⟩
   rw[AAU,Nat.add_zero]at xl4;refine⟨trivial,?_⟩;simp only[qz];walk_at "dl";have g4:=g3.more (L:=[.lst (xs.map .str)]);have gr4:=ac (a:=.lst (xs.map .str)) gr3;have gw4:=ac (a:=.lst (xs.map .str)) gw3;refine⟨⟨_,.inl gr4⟩,_,ao,ak (by lia),_,gr4,aI (by rw[AA4];lia),?_⟩
   refine Fgt.now (hG _ _ ⟨rs++[(s,xs)],_,_,_,g4.setO rM (ABM rq) (ABM rp),?_,au wr gw4,?_,?_,λx hx=>?_,rfl⟩)
   ·rw[AB1];exact dc gr4
   ·rw[AB1,hn,et];rfl
   ·rw[AAB,hl];rfl
   ·rcases AAT.mp hx with hx | hx
    ·exact hm x hx
    ·rw[show x=(s,xs) by simpa using hx];exact xl4
  ·rintro y' ys acc S M2 ⟨xs,a2,rfl,xl,hy',rfl,rfl⟩ K hK
   obtain⟨j,rfl,hj⟩:=hy' y' (by simp)
   rw[AAK]at xl;refine⟨trivial,?_⟩;walk_at "dl";have e3:atI (ns.map D.str) (0+(j:Int))=some (.str (ns[j]'(by lia))):=by
    rw[Int.zero_add];exact az (by rw[AAR,AA6 (by lia)];rfl)
   have pw:GA (1+i) (1*2 ^ (0+(j:Int)).toNat):=by
    rw[Int.zero_add,ABX];have:j=0\/j=1\/j=2\/j=3:=by lia
    rcases this with rfl | rfl | rfl | rfl<;>exact⟨by decide,by decide⟩
   refine⟨⟨by lia,by lia,by decide⟩,pw,by decide,⟨oZ,oZ⟩,?_⟩
   split
   ·refine⟨_,.inl g3.nm,?_⟩
    rw[e3];exact⟨by rw[AA4];exact aI (by lia),hK _ _ _ ⟨xs++[_],_,by simp;rfl,by rw[AAB,AAV];lia,λz hz'=>hy' z (AA9 _ hz'),rfl,rfl⟩⟩
   ·exact hK _ _ _ ⟨xs,_,rfl,by lia,λz hz'=>hy' z (AA9 _ hz'),rfl,rfl⟩
  ·obtain⟨j,hj⟩:=ABE hy'
   obtain⟨hlt,rfl⟩:=fY.mp hj;exact⟨j,rfl,hlt⟩
def Bk:WpT kR 8 yE:=by
 rintro ds M R ⟨c,rfl,h⟩;simp only[yE];walk_at "dl";refine⟨c,rfl,λn=>?_⟩
 simp only[qE];walk_at "dl";refine⟨M.length,4,rfl,⟨n,ae⟩,by decide,by decide,λi n' i0 i1=>?_⟩
 rw[ia];refine⟨M.length,1+i,rfl,⟨n',ae⟩,by lia,by lia,λns n' nd n1 n4 n8=>?_⟩
 rw[ia];have e1:(M++[MO.lst [D.int n']]).length=M.length+1:=by simp
 have g:HsD M (M++[MO.lst [D.int n']]++[MO.lst (ns.map .str)]) M.length (M.length+1) ns:=⟨fB.trans fB,AA8 _,⟨n',ac ae⟩,by lia,by rw[<-e1];exact ae⟩
 have e2:∀n:Int,(M++[MO.lst [D.int n]]).length=M.length+1:=λn=>by simp
 rw[e2];generalize M++[MO.lst [D.int n']]++[MO.lst (ns.map .str)]=B at g;generalize hq:M.length=q at g;generalize q+1=p at g;simp only[qD];walk_at "dl";refine⟨_,.inl g.nm,λ_=>?_⟩
 refine pP (λys acc S M1=>∃(ps:List (Str×Int)) (a:Option D) (i:Nat),HsD M M1 q p ns/\acc=ps.map ig/\ps.length=i/\ps.map (·.1)=ns.take i/\(∀x∈ps,(1<=x.2/\x.2<=3)/\x.1.length<=8)/\ys=(ns.map D.str).drop i/\i<=ns.length/\S=[a,some (.ref q)]) ?_ ?_ _ _ _ _ ⟨[],_,0,g,rfl,rfl,rfl,(λ_ z=>nomatch z),by simp,AAX _,rfl⟩
 ·rintro acc S M1 ⟨ps,a,i,g,rfl,pi,pn,hp,hd,im,rfl⟩
  have hi:i=ns.length:=by
   have:=congrArg ABf hd;rw[AAU,ABQ,AA4]at this;lia
  refine⟨.inl g.nm,_,ao,?_⟩;simp only[qC];walk_at "dl";refine⟨AAX _,?_⟩;have g2:=(g.more (L:=[.lst (ps.map ig)])).more (L:=[.lst []]);have pl:=g.pre.length_le;have ql:=g.hd.lt;have pl2:=aN g.nm;have el:(M1++[MO.lst (ps.map ig)]).length=M1.length+1:=by simp
  refine FO g2 n1 n4 (by rw[el];lia) (by rw[el];lia) (by rw[el];lia) ae λrs r1 rn r4=>h ps rs ⟨⟨by lia,by lia⟩,λx hx=>(hp x hx).1,λx hx=>(hp x hx).2,r1,by rw[pn];exact nd.sublist (List.take_sublist _ _),rn,r4⟩
 ·rintro y ys acc S M1 ⟨ps,a,i,g,rfl,pi,pn,hp,hd,im,rfl⟩ K hK
  have hi:i<ns.length:=by
   have:=congrArg ABf hd;rw[AAK,ABQ,AA4]at this;lia
  have hlt:i<(ns.map D.str).length:=by rw[AA4];exact hi
  rw[List.drop_eq_getElem_cons hlt]at hd;injection hd with h1 h2
  rw[ACL]at h1;subst h1;refine⟨.inl g.nm,?_⟩;walk_at "dl";refine⟨q,3,rfl,g.hd,by decide,by decide,λk n' k0 k1=>?_⟩
  refine⟨ak (by lia),by rw[AA4];exact aI (by lia),hK _ _ _ ⟨ps++[(ns[i],1+k)],_,i+1,g.set,by rw[AB1];rfl,by rw[AAB,pi];rfl,?_,λx hx=>?_,h2,by lia,rfl⟩⟩
  ·rw[AB1,pn,ABv,AA6 hi];rfl
  ·rcases AAT.mp hx with hx | hx
   ·exact hp x hx
   ·rw[show x=(ns[i],1+k) by simpa using hx]
    exact⟨⟨by show 1<=1+k;lia,by show 1+k<=3;lia⟩,n8 _ (ABA hi)⟩
def BZ(T:Tops P w K mg base):Cal P w K mg base 4 "_law_house" tK kR :=
 Cal.byD (N:=["_law_cell","_law_held","_law_names_here","_law_people","_law_rooms","_law_room","_law_bits","_law_members"]) T.b T.f_house (by walk_at "sc") zL (by have:=lY T;have:=dJ T;have:=BY T;walk_at "dv") Bk
def fS:DSp:=λds M R=>∃(q p:Nat) (xs:List Str),ds=[.ref q,.ref p]/\HdP M q/\p≠q/\ar M p (xs.map .str)/\1<=xs.length/\xs.length<=1000/\(∀x∈xs,x.length<=8)/\∀(x:Str) (n:Int),x.length<=100->R (.str x) (M.set q (.lst [.int n]))
def xB:cE fS oT:=by rintro ds M R ⟨q,p,xs,rfl,_⟩;rfl
def nq:DTS:=bw (dSl (ab 3) fe (jV (dC (.int 60))))
def nr:DTS:=aX (dOp bv (ab 3) (dOp qIx (ab 6) (dCB av (aa (ab 0) (aa (dC (.int 7)) af))))) 3
def nw:DTS:=ax (aX (kD (aa (dOp bv (dC (.str "@")) (ab 5)) (aa (dOp bv (dOp bv (dC (.str "@")) (ab 5)) (dC (.str " "))) (aa (dOp bv (dOp bv (dC (.str "@")) (ab 5)) (dC (.str "x"))) (aa (ab 5) (aa (dC (.str "hi ")) (aa (dC (.str "@")) (aa (dOp bv (dC (.str "@")) (ab 5)) af)))))))) 6) (nr)
def ny:DTS:=ax (mV (eZ (aa (dOp bv (dC (.int 1)) (dCB av (aa (ab 0) (aa (dC (.int 4)) af)))) af)) (am 4) (ax (aX (dOp qIx (ab 1) (dCB av (aa (ab 0) (aa (dCB mN (aa (ab 1) af)) af)))) 5) (nw))) (nq)
def nA:DTS:=bw (ab 3)
def nB:DTS:=ax (dIf (aB (dOp qEq (dCB av (aa (ab 0) (aa (dC (.int 3)) af))) (dC (.int 0)))) (ax (mV (eZ (aa (dOp bv (dC (.int 1)) (dCB av (aa (ab 0) (aa (dC (.int 60)) af)))) af)) (am 4) (aX (dOp bv (ab 3) (dOp qIx (ab 2) (dCB av (aa (ab 0) (aa (dC (.int 94)) af))))) 3)) (nA)) bq) (ny)
def nC:DTS:=ax (aX (dC (.str "")) 3) (nB)
def uR:DTS:=ax (aX (dC (.str " !\"#$&'()*+,-./0123456789:;<=>?@ABCDEFGHIJKLMNOPQRSTUVWXYZ[\\]^_`abcdefghijklmnopqrstuvwxyz{|}~")) 2) (nC)
def yb:WpT fS 7 uR:=by
 rintro ds M R ⟨q,p,xs,rfl,hq,pq,hL,x1,xl,x8,h⟩;have ql:=hq.lt;have hl:(AA0 " !\"#$&'()*+,-./0123456789:;<=>?@ABCDEFGHIJKLMNOPQRSTUVWXYZ[\\]^_`abcdefghijklmnopqrstuvwxyz{|}~").cps.toList.length=94:=by decide +kernel
 have hz:(AA0 " !\"#$&'()*+,-./0123456789:;<=>?@ABCDEFGHIJKLMNOPQRSTUVWXYZ[\\]^_`abcdefghijklmnopqrstuvwxyz{|}~").length=94:=by decide +kernel
 simp only[uR,nC,nB];generalize AA0 " !\"#$&'()*+,-./0123456789:;<=>?@ABCDEFGHIJKLMNOPQRSTUVWXYZ[\\]^_`abcdefghijklmnopqrstuvwxyz{|}~" = sg at hl hz
 walk_at "dl";refine⟨q,3,rfl,hq,by decide,by decide,λi n _ _=>?_⟩
 have g0:=hq.start.set (n:=n) ql;generalize M.set q (.lst [.int n])=B0 at g0;refine⟨⟨rfl,rfl⟩,?_⟩;generalize eqD B0 eqN (.int i) (.int 0)=b;have o1:∀c:Nat,(⟨#[c]⟩:Str).length=1:=λ_=>rfl
 cases b with
 | true =>
  refine bT ⟨q,60,rfl,g0.hd ql,by decide,by decide,λi n i0 i1=>?_⟩
  have g1:=g0.set (n:=n) ql;generalize B0.set q (.lst [.int n])=B1 at g1;walk_at "dl";refine⟨⟨by lia,by lia⟩,?_⟩
  refine bA (λj S M'=>Hl M M' q/\∃(z:Str) (a:Option D),z.length=j/\S=[some (.ref q),some (.ref p),some (.str sg),some (.str z),a,none,none]) ?_ ?_ ⟨g1,AA0 "",_,by decide +kernel,rfl⟩
  ·rintro S M' ⟨g,z,a,zl,rfl⟩
   refine⟨trivial,?_⟩;simp only[nA];walk_at "dl";exact g.fin (.str _) λn=>h z n (by rw[fX]at zl;lia)
  ·rintro j y S M' hy ⟨g,z,a,zl,rfl⟩ G hG
   have hj:=(fY.mp hy).1;refine⟨trivial,?_⟩;walk_at "dl";refine⟨q,94,rfl,g.hd ql,by decide,by decide,λk n k0 k1=>?_⟩
   have g2:=g.set (n:=n) ql;generalize M'.set q (.lst [.int n])=B2 at g2;obtain⟨j',hj',ej,_⟩:=fQ (xs:=sg.cps.toList) k0 (by rw[hl];exact k1)
   refine⟨by rw[hz];exact ak (by lia),?_⟩
   rw[ej];refine⟨by rw[o1];exact ak (by lia),Fgt.now (hG _ _ ⟨g2,_,_,?_,rfl⟩)⟩
   rw[cq,o1,zl]
 | false =>
  refine bJ ?_
  simp only[ny];walk_at "dl";refine⟨q,4,rfl,g0.hd ql,by decide,by decide,λi n i0 i1=>?_⟩
  have g1:=g0.set (n:=n) ql;generalize B0.set q (.lst [.int n])=B1 at g1;walk_at "dl";refine⟨⟨by lia,by lia⟩,?_⟩
  refine bA (λj S M'=>Hl M M' q/\∃(z:Str) (a b c:Option D),z.length<=20*j/\S=[some (.ref q),some (.ref p),some (.str sg),some (.str z),a,b,c]) ?_ ?_ ⟨g1,AA0 "",_,_,_,by decide +kernel,rfl⟩
  ·rintro S M' ⟨g,z,a,b,c,zl,rfl⟩
   rw[fX]at zl;refine⟨trivial,?_⟩;simp only[nq];walk_at "dl";exact⟨ak (by lia),g.fin (.str _) λn=>h _ n (by have:=Txt.slice_le z none (some 60);lia)⟩
  ·rintro j y S M' hy ⟨g,z,a,b,c,zl,rfl⟩ G hG
   have hj:=(fY.mp hy).1;have hL':=g.oldL pq hL;refine⟨trivial,?_⟩;walk_at "dl";refine⟨_,hL',q,_,rfl,g.hd ql,by rw[AA4];lia,by rw[AA4];lia,λk n k0 k1=>?_⟩
   have g2:=g.set (n:=n) ql;have hL2:=g2.oldL pq hL;generalize M'.set q (.lst [.int n])=B2 at g2 hL2;obtain⟨j',hj',ej,_⟩:=fQ (xs:=xs.map D.str) k0 k1;rw[ACL]at ej;have w8:=x8 _ (ABA (by rw[AA4]at hj';exact hj'))
   refine⟨_,hL2,?_⟩;rw[ej];generalize xs[j']'(by rw[AA4]at hj';exact hj')=w at w8
   have sa:(AA0 "@").length=1:=by decide +kernel
   have sb:(AA0 " ").length=1:=by decide +kernel
   have sx:(AA0 "x").length=1:=by decide +kernel
   have sh:(AA0 "hi ").length=3:=by decide +kernel
   simp only[nw];walk_at "dl";refine⟨by rw[sa];exact ak (by lia),by rw[sa];exact ak (by lia),by rw[cq,sa,sb];exact ak (by lia),by rw[sa];exact ak (by lia),by rw[cq,sa,sx];exact ak (by lia),by rw[sa];exact ak (by lia),ak (by lia),?_⟩
   simp only[nr];walk_at "dl";refine⟨q,7,rfl,(g2.more).hd ql,by decide,by decide,λk n k0 k1=>?_⟩
   have g3:=(g2.more (L:=[.lst [.str (AA0 "@" ++ w),.str (AA0 "@" ++ w++AA0 " "),.str (AA0 "@" ++ w++AA0 "x"),.str w,.str (AA0 "hi "),.str (AA0 "@"),.str (AA0 "@" ++ w)]])).set (n:=n) ql;have gl:((B2++[MO.lst [.str (AA0 "@" ++ w),.str (AA0 "@" ++ w++AA0 " "),.str (AA0 "@" ++ w++AA0 "x"),.str w,.str (AA0 "hi "),.str (AA0 "@"),.str (AA0 "@" ++ w)]]).set q (.lst [.int n]))[B2.length]?=some (.lst [.str (AA0 "@" ++ w),.str (AA0 "@" ++ w++AA0 " "),.str (AA0 "@" ++ w++AA0 "x"),.str w,.str (AA0 "hi "),.str (AA0 "@"),.str (AA0 "@" ++ w)]):=au (by have:=g2.len;lia) ae
   have ex:∃s:Str,atI [D.str (AA0 "@" ++ w),.str (AA0 "@" ++ w++AA0 " "),.str (AA0 "@" ++ w++AA0 "x"),.str w,.str (AA0 "hi "),.str (AA0 "@"),.str (AA0 "@" ++ w)] k=some (.str s)/\s.length<=20:=by
    have:k=0\/k=1\/k=2\/k=3\/k=4\/k=5\/k=6:=by lia
    rcases this with rfl | rfl | rfl | rfl | rfl | rfl | rfl
    ·exact⟨_,az (j:=0) rfl,by rw[cq,sa];lia⟩
    ·exact⟨_,az (j:=1) rfl,by rw[cq,cq,sa,sb];lia⟩
    ·exact⟨_,az (j:=2) rfl,by rw[cq,cq,sa,sx];lia⟩
    ·exact⟨_,az (j:=3) rfl,by lia⟩
    ·exact⟨_,az (j:=4) rfl,by rw[sh];lia⟩
    ·exact⟨_,az (j:=5) rfl,by rw[sa];lia⟩
    ·exact⟨_,az (j:=6) rfl,by rw[cq,sa];lia⟩
   obtain⟨s,es,sl⟩:=ex;refine⟨_,.inl gl,?_⟩;rw[es];refine⟨ak (by lia),Fgt.now (hG _ _ ⟨g3,_,_,_,_,?_,rfl⟩)⟩
   rw[cq];lia
def zu(T:Tops P w K mg base):Cal P w K mg base 2 "_law_saying" oT fS :=
 Cal.byD (N:=["_law_held","_law_names_here","_law_signs","_law_saying_here","_law_k","_law_name_here","_law_pieces"]) T.b T.f_saying (by walk_at "sc") xB (by have:=dJ T;walk_at "dv") yb
def dh:DSp:=λds M R=>∃(q p s:Nat) (hs sts:List D),ds=[.ref q,.ref p,.ref s]/\HdP M q/\p≠q/\s≠q/\ar M p hs/\(∀x∈hs,Hd x)/\1<=hs.length/\hs.length<=12/\ar M s sts/\(∀x∈sts,St x)/\sts.length<=1000/\∀(d:D) (n:Int),St d->R d (M.set q (.lst [.int n]))
def Cr:cE dh zk:=by rintro ds M R ⟨q,p,s,hs,sts,rfl,_⟩;rfl
def St.bel(h:St d):Bel k d:=bV 2 d h.pl
def uU:DTS:=bw (dOp qIx (ab 2) (dCB av (aa (ab 0) (aa (dCB mN (aa (ab 2) af)) af))))
def uV:DTS:=ax (dIf (aB (dOp qEq (ab 3) (dC (.int 1)))) (bw (fy (aa (dOp bv (dC (.int 1)) (dCB av (aa (ab 0) (aa (dOp ER (dC (.int 10)) (dC (.int 9))) af)))) (aa (dOp qIx (ab 1) (dCB av (aa (ab 0) (aa (dCB mN (aa (ab 1) af)) af)))) af)))) bq) (uU)
def uW:DTS:=ax (dIf (dOr (aB (dOp qEq (ab 3) (dC (.int 0)))) (aB (dOp qEq (ab 2) (kD af)))) (bw (fy (aa (dOp bv (dC (.int 1)) (dCB av (aa (ab 0) (aa (dC (.int 70)) af)))) (aa (dOp qIx (ab 1) (dCB av (aa (ab 0) (aa (dCB mN (aa (ab 1) af)) af)))) af)))) bq) (uV)
def Dq:DTS:=ax (aX (dCB av (aa (ab 0) (aa (dC (.int 8)) af))) 3) (uW)
def oQ(ql:q<M.length)(pq:p≠q)(hp:ar M p hs)(hh:∀x∈hs,Hd x)(h1:1<=hs.length)(h12:hs.length<=12)(h:∀(d:D) (n:Int),St d->R d (M.set q (.lst [.int n])))(g:Hl M B q)(ht:∀S B Q,Q (.int m) B->tm S B Q)(m0:0<m)(m1:m<100000000000) :
  (bw (fy (aa (dOp bv (dC (.int 1)) (dCB av (aa (ab 0) (aa tm af)))) (aa (dOp qIx (ab 1) (dCB av (aa (ab 0) (aa (dCB mN (aa (ab 1) af)) af)))) af)))) (EE M R) [some (.ref q),some (.ref p),y2,y3] B:=by
 walk_at "dl";refine ht _ _ _ ?_
 refine⟨q,m,rfl,g.hd ql,m0,m1,λi n i0 i1=>?_⟩
 have g1:=g.set (n:=n) ql;generalize B.set q (.lst [.int n])=B1 at g1;refine⟨hs,g1.oldL pq hp,q,_,rfl,g1.hd ql,by lia,by lia,λk n k0 k1=>?_⟩
 have g2:=g1.set (n:=n) ql;generalize B1.set q (.lst [.int n])=B2 at g2;obtain⟨j,hj,ej,_⟩:=fQ (xs:=hs) k0 k1;obtain⟨z,k2,ez⟩:=hh _ (ABA hj);refine⟨hs,g2.oldL pq hp,?_⟩;rw[ej];have:St (.tup [.int (1+i),hs[j]]):=⟨1+i,z,k2,by rw[ez]⟩
 exact⟨ak (by lia),g2.fin this.bel λn=>h _ n this⟩
def Ex:WpT dh 4 Dq:=by
 rintro ds M R ⟨q,p,s,hs,sts,rfl,hq,pq,sq,hp,hh,h1,h12,hs',hst,sl,h⟩;have ql:=hq.lt;have ok29:∀{B:Mem},∀x∈sts,okD B 29 x=true:=λ{B} x hx=>by obtain⟨t,z,k,rfl⟩:=hst x hx;rfl
 simp only[Dq];walk_at "dl";refine⟨q,8,rfl,hq,by decide,by decide,λi n _ _=>?_⟩
 have g0:=hq.start.set (n:=n) ql;generalize M.set q (.lst [.int n])=B0 at g0;simp only[uW];walk_at "dl";refine⟨⟨rfl,rfl⟩,?_⟩;generalize eqD B0 eqN (.int i) (.int 0)=b0;cases b0 with
 | true=>exact bT (oQ (m:=70) (tm:=dC (.int 70)) (y2:=some (.ref s)) (y3:=some (.int i)) ql pq hp hh h1 h12 h g0 (λ_ _ _ q=>q) (by decide) (by decide))
 | false =>
  refine bJ ?_
  obtain⟨okk,ee⟩:=kJ (g0.oldL sq hs') ok29;refine⟨AAX _,okk,?_⟩;rw[ee];have g1:=g0.more (L:=[.lst []]);generalize B0++[MO.lst []]=B1 at g1;cases he:sts.isEmpty with
  | true=>exact bT (oQ (m:=70) (tm:=dC (.int 70)) (y2:=some (.ref s)) (y3:=some (.int i)) ql pq hp hh h1 h12 h g1 (λ_ _ _ q=>q) (by decide) (by decide))
  | false =>
   refine bJ ?_
   simp only[uV];walk_at "dl";refine⟨⟨rfl,rfl⟩,?_⟩;generalize eqD B1 eqN (.int i) (.int 1)=b1;cases b1 with
   | true=>exact bT (oQ (m:=10 ^ Int.toNat 9) (tm:=dOp ER (dC (.int 10)) (dC (.int 9))) (y2:=some (.ref s)) (y3:=some (.int i)) ql pq hp hh h1 h12 h g1 (λ_ _ _ q=>⟨⟨by decide,by decide,by decide⟩,q⟩) (by decide) (by decide))
   | false =>
    refine bJ ?_
    simp only[uU];walk_at "dl";have s1:1<=sts.length:=by
     cases sts with
     | nil=>cases he
     | cons x xs=>simp
    refine⟨sts,g1.oldL sq hs',q,_,rfl,g1.hd ql,by lia,by lia,λk n k0 k1=>?_⟩
    have g2:=g1.set (n:=n) ql;generalize B1.set q (.lst [.int n])=B2 at g2;obtain⟨j,hj,ej,_⟩:=fQ (xs:=sts) k0 k1;refine⟨sts,g2.oldL sq hs',?_⟩;rw[ej];have hx:=hst _ (ABA hj);exact g2.fin hx.bel λn=>h _ n hx
def zv(T:Tops P w K mg base):Cal P w K mg base 2 "_law_pick" zk dh :=
 Cal.byD (N:=["_law_held","_law_hands_here","_law_says","_law_way"]) T.b T.f_pick (by walk_at "sc") Cr (by have:=dJ T;walk_at "dv") Ex
def jA:DSp:=λds M R=>∃(q p t:Nat) (hs:List D) (kvs:List (D×D)),ds=[.ref q,.ref p,.ref t]/\HdP M q/\p≠q/\t≠q/\ar M p hs/\(∀x∈hs,Hd x)/\hs.length<=12/\M[t]?=some (.dkt kvs)/\(∀x∈kvs,∃v:Int,x.2=.int v/\0<=v/\v<=1000)/\∀(vs:List D) (n:Int),mI 3 vs->VecK vs->R (.tup vs) (M.set q (.lst [.int n]))
def xA:cE jA oS:=by rintro ds M R ⟨q,p,t,hs,kvs,rfl,_⟩;rfl
def mI.snoc(h:mI n ds)(t:Pln n d):mI n (ds++[d]):=by
 unfold mI at h ⊢;rw[List.all_append,h];simpa [Pln]using t
def nb:DTS:=bw (dCB je (aa (ab 3) af))
def ng:DTS:=dIf (aB (dOp qGt (ab 5) (dC (.int 0)))) (jW (dMl cf (ab 3) (aa (fy (aa (ab 4) (aa (ab 5) af))) af))) bq
def nh:DTS:=ax (mV (bP (ab 1)) (am 4) (ax (aX (dCB av (aa (ab 0) (aa (dOp bv (dMt jf (ab 2) (aa (ab 4) (aa (dC (.int 0)) af))) (dC (.int 3))) af))) 5) (ng))) (nb)
def uO:DTS:=ax (aX (kD af) 3) (nh)
def ya:WpT jA 6 uO:=by
 rintro ds M R ⟨q,p,t,hs,kvs,rfl,hq,pq,tq,hp,hh,h12,ht,hv,h⟩;have ql:=hq.lt;simp only[uO,nh];walk_at "dl";refine⟨AAX _,_,hp.more _,λ_=>?_⟩
 have g0:Hl M (M++[MO.lst []]) q:=hq.start.more;refine bA (λi S M'=>∃(vs:List D) (a b:Option D),Hl M M' q/\M'[M.length]?=some (.lst vs)/\mI 3 vs/\(∃ws:List (D×Int),vs=mL ws/\(∀p∈ws,Hd p.1)/\ws.length<=i)/\vs.length<=i/\S=[some (.ref q),some (.ref p),some (.ref t),some (.ref M.length),a,b]) ?_ ?_ ⟨[],_,_,g0,ae,.nil,⟨[],rfl,(λ_ z=>nomatch z),AA8 _⟩,AA8 _,rfl⟩
 ·rintro S M' ⟨vs,a,b,g,gv,pv,⟨ws,ew,hw,wl⟩,vl,rfl⟩
  refine⟨g.oldL pq hp,?_⟩;simp only[nb];walk_at "dl";exact⟨_,.inl gv,g.fin (bV 4 _ (.tup pv)) λn=>h vs n pv ⟨ws,ew,hw,by lia⟩⟩
 ·rintro i y S M' hy ⟨vs,a,b,g,gv,pv,⟨ws,ew,hw,wl⟩,vl,rfl⟩ G hG
  have hi:=(AA7.mp hy).1;obtain⟨z,k,rfl⟩:=hh y (AAi hy);refine⟨g.oldL pq hp,?_⟩;walk_at "dl";have gt:=g.old tq ht;refine⟨⟨_,gt⟩,_,gt,rfl,?_⟩;have hg:∃v:Int,(aW kvs (.tup [.str z,.int k])).getD (.int 0)=.int v/\0<=v/\v<=1000:=by
   cases e:aW kvs (.tup [.str z,.int k]) with
   | none=>exact⟨0,rfl,by decide,by decide⟩
   | some d=>exact hv _ (bG e)
  obtain⟨v,ev,v0,v1⟩:=hg;rw[ev];refine⟨q,v+3,rfl,g.hd ql,by lia,by lia,λc n c0 c1=>?_⟩
  have g1:=g.set (n:=n) ql;have gv1:(M'.set q (.lst [.int n]))[M.length]?=some (.lst vs):=au (by lia) gv
  generalize M'.set q (.lst [.int n])=B1 at g1 gv1;simp only[ng];walk_at "dl";by_cases hc:c > 0
  ·rw[dT_ hc]
   refine bT ⟨⟨_,.inl gv1⟩,ak (by lia),_,gv1,aI (by lia),?_⟩
   exact Fgt.now (hG _ _ ⟨_,_,_,g1.setO (AA8 _),dc gv1,pv.snoc (.tup (.cons (CL ⟨_,_,rfl⟩) (.cons (.int _) .nil))),⟨ws++[(.tup [.str z,.int k],c)],by rw[ew];unfold mL;rw[AB1];rfl,λp hp=>by
    rcases AAT.mp hp with hp | hp
    ·exact hw p hp
    ·rw[AAt.mp hp];exact⟨_,_,rfl⟩,by rw[AAB,AAV];lia⟩,by rw[AAB,AAV];lia,rfl⟩)
  ·rw[dF_ hc]
   exact bJ (Fgt.now (hG _ _ ⟨vs,_,_,g1,gv1,pv,⟨ws,ew,hw,by lia⟩,by lia,rfl⟩))
def zt(T:Tops P w K mg base):Cal P w K mg base 2 "_law_vector" oS jA :=
 Cal.byD (N:=["_law_held","_law_hands_here","_law_done","_law_found","_law_hand","_law_count"]) T.b T.f_vector (by walk_at "sc") xA (by have:=dJ T;walk_at "dv") ya
def mG:DSp:=λds M R=>∃(q p s:Nat) (ps:List (Str×Int)) (rs:List (Str×List Str)) (hs sts:List D),ds=[.ref q,aK ps rs,.ref p,.ref s]/\HdP M q/\HouseF ps rs/\p≠q/\s≠q/\ar M p hs/\(∀x∈hs,Hd x)/\1<=hs.length/\hs.length<=12/\ar M s sts/\(∀x∈sts,St x)/\sts.length<=1000/\∀(d:D) (n:Int),fg d->R d (M.set q (.lst [.int n]))
def Co:cE mG zh:=by rintro ds M R ⟨q,p,s,ps,rs,hs,sts,rfl,_⟩;rfl
def uL:DTS:=bw (fy (aa (dC (.str "under")) (aa (dCB dh (aa (ab 0) (aa (ab 2) (aa (ab 3) af)))) af)))
def uM:DTS:=ax (dIf (aB (dOp qEq (ab 4) (dC (.int 1)))) (bw (fy (aa (dC (.str "person")) (aa (dOp qIx (dOp qIx (dOp qIx (ab 1) (dC (.int 0))) (dCB av (aa (ab 0) (aa (dCB mN (aa (dOp qIx (ab 1) (dC (.int 0))) af)) af)))) (dC (.int 0))) af)))) bq) (uL)
def uN:DTS:=ax (dIf (aB (dOp qEq (ab 4) (dC (.int 0)))) (bw (fy (aa (dC (.str "room")) (aa (dOp qIx (dOp qIx (dOp qIx (ab 1) (dC (.int 1))) (dCB av (aa (ab 0) (aa (dCB mN (aa (dOp qIx (ab 1) (dC (.int 1))) af)) af)))) (dC (.int 0))) af)))) bq) (uM)
def Dm:DTS:=ax (aX (dCB av (aa (ab 0) (aa (dC (.int 3)) af))) 4) (uN)
def Eu:WpT mG 5 Dm:=by
 rintro ds M R ⟨q,p,s,ps,rs,hs,sts,rfl,hq,hf,pq,sq,hp,hh,h1,h12,hs',hst,sl,h⟩;have ql:=hq.lt;have l1:=hf.len;have l2:=hf.rl;simp only[Dm,aK];walk_at "dl";refine⟨q,3,rfl,hq,by decide,by decide,λi n _ _=>?_⟩
 have g0:=hq.start.set (n:=n) ql;generalize M.set q (.lst [.int n])=B0 at g0;simp only[uN];walk_at "dl";refine⟨⟨rfl,rfl⟩,?_⟩;generalize eqD B0 eqN (.int i) (.int 0)=b0;cases b0 with
 | true =>
  refine bT ⟨q,_,rfl,g0.hd ql,by rw[AA4];lia,by rw[AA4];lia,λk n k0 k1=>?_⟩
  have g1:=g0.set (n:=n) ql;generalize B0.set q (.lst [.int n])=B1 at g1;obtain⟨j,hj,ej,_⟩:=fQ (xs:=rs.map gG) k0 k1;rw[ACL]at ej;walk_at "dl";rw[ej];unfold gG;walk_at "dl";refine⟨ak (by lia),g1.fin (.tup (.cons (.str _) (.cons (.str _) .nil))) λn=>h _ n (.inl ⟨_,rfl⟩)⟩
 | false =>
  refine bJ ?_
  simp only[uM];walk_at "dl";refine⟨⟨rfl,rfl⟩,?_⟩;generalize eqD B0 eqN (.int i) (.int 1)=b1;cases b1 with
  | true =>
   refine bT ⟨q,_,rfl,g0.hd ql,by rw[AA4];lia,by rw[AA4];lia,λk n k0 k1=>?_⟩
   have g1:=g0.set (n:=n) ql;generalize B0.set q (.lst [.int n])=B1 at g1;obtain⟨j,hj,ej,_⟩:=fQ (xs:=ps.map ig) k0 k1;rw[ACL]at ej;walk_at "dl";rw[ej];unfold ig;walk_at "dl";refine⟨ak (by lia),g1.fin (.tup (.cons (.str _) (.cons (.str _) .nil))) λn=>h _ n (.inr (.inl ⟨_,rfl⟩))⟩
  | false =>
   refine bJ ?_
   simp only[uL];walk_at "dl";refine⟨q,p,s,hs,sts,rfl,g0.hd ql,pq,sq,g0.oldL pq hp,hh,h1,h12,g0.oldL sq hs',hst,sl,λd n hd=>?_⟩
   have g1:=g0.set (n:=n) ql;generalize B0.set q (.lst [.int n])=B1 at g1;exact⟨ak (by lia),g1.fin (.tup (.cons (.str _) (.cons hd.bel .nil))) λn=>h _ n (.inr (.inr (by obtain⟨t,z,k,rfl⟩:=hd;exact⟨t,z,k,rfl⟩)))⟩
def zr(T:Tops P w K mg base):Cal P w K mg base 3 "_law_what" zh mG :=
 Cal.byD (N:=["_law_held","_law_house_here","_law_hands_here","_law_says","_law_way"]) T.b T.f_what (by walk_at "sc") Co (by have:=dJ T;have:=zv T;walk_at "dv") Eu
def wO:DSp:=λds M R=>∃(q p s t:Nat) (ps:List (Str×Int)) (rs:List (Str×List Str)) (hs sts:List D) (kvs:List (D×D)),ds=[.ref q,aK ps rs,.ref p,.ref s,.ref t]/\HdP M q/\HouseF ps rs/\(p≠q/\s≠q/\t≠q)/\ar M p hs/\(∀x∈hs,Hd x)/\1<=hs.length/\hs.length<=12/\ar M s sts/\(∀x∈sts,St x)/\sts.length<=1000/\M[t]?=some (.dkt kvs)/\(∀x∈kvs,∃v:Int,x.2=.int v/\0<=v/\v<=1000)/\∀(x:Str) (dl:List D) (n:Int),mI 4 dl->ActK rs x dl->R (.tup (.str x::dl)) (M.set q (.lst [.int n]))
def FB:cE wO Fj:=by rintro ds M R ⟨q,p,s,t,ps,rs,hs,sts,kvs,rfl,_⟩;rfl
def fR(g:Hl M B q)(h:∀(x:Str) (dl:List D) (n:Int),mI 4 dl->ActK rs x dl->R (.tup (.str x::dl)) (M.set q (.lst [.int n])))(hp:mI 4 dl)(ha:ActK rs x dl):bj M R (.tup (.str x::dl)) B :=
 g.fin (bV 5 _ (.tup (.cons (.str _) hp))) λn=>h x dl n hp ha
def vH:DTS:=bw (fy (aa (dC (.str "rung")) (aa (dCB dh (aa (ab 0) (aa (ab 2) (aa (ab 3) af)))) af)))
def vI:DTS:=ax (dIf (aB (dOp qEq (ab 5) (dC (.int 9)))) (bw (fy (aa (dC (.str "hush")) (aa (dCB mG (aa (ab 0) (aa (ab 1) (aa (ab 2) (aa (ab 3) af))))) (aa (dOp qGt (dCB av (aa (ab 0) (aa (dC (.int 3)) af))) (dC (.int 0))) af))))) bq) (vH)
def vJ:DTS:=ax (dIf (aB (dOp qEq (ab 5) (dC (.int 8)))) (bw (fy (aa (dC (.str "seen")) (aa (dCB dh (aa (ab 0) (aa (ab 2) (aa (ab 3) af)))) af)))) bq) (vI)
def vK:DTS:=ax (dIf (aB (dOp qEq (ab 5) (dC (.int 7)))) (bw (fy (aa (dC (.str "read")) (aa (ab 7) (aa (dCB jA (aa (ab 0) (aa (ab 2) (aa (ab 4) af)))) af))))) bq) (vJ)
def yG:DTS:=bw (fy (aa (dC (.str "like")) (aa (dCB dh (aa (ab 0) (aa (ab 2) (aa (ab 3) af)))) (aa (ab 9) (aa (dOp qGt (dCB av (aa (ab 0) (aa (dC (.int 3)) af))) (dC (.int 0))) af)))))
def yH:DTS:=ax (dIf (aB (dOp qEq (ab 5) (dC (.int 6)))) (ax (aX (dOp qIx (kD (aa (dC (.str "good")) (aa (dC (.str "no")) (aa (dCB jX (aa (ab 0) af)) af)))) (dCB av (aa (ab 0) (aa (dC (.int 3)) af)))) 9) (yG)) bq) (vK)
def yI:DTS:=ax (dIf (aB (dOp qEq (ab 5) (dC (.int 5)))) (bw (fy (aa (dC (.str "back")) (aa (dCB dh (aa (ab 0) (aa (ab 2) (aa (ab 3) af)))) af)))) bq) (yH)
def oF:DTS:=ax (dIf (aB (dOp qEq (ab 5) (dC (.int 4)))) (bw (fy (aa (dC (.str "change")) (aa (dCB dh (aa (ab 0) (aa (ab 2) (aa (ab 3) af)))) (aa (dCB fS (aa (ab 0) (aa (ab 6) af))) af))))) bq) (yI)
def tj:DTS:=bw (fy (aa (dC (.str "say")) (aa (ab 7) (aa (ab 8) (aa (dCB fS (aa (ab 0) (aa (ab 6) af))) af)))))
def tp:DTS:=ax (dIf (Gp (aB (dOp qGt (dCB av (aa (ab 0) (aa (dC (.int 3)) af))) (dC (.int 0)))) (aB (dOp qNe (ab 3) (kD af)))) (aX (dCB dh (aa (ab 0) (aa (ab 2) (aa (ab 3) af)))) 8) bq) (tj)
def yJ:DTS:=ax (dIf (dOr (aB (dOp qLt (ab 5) (dC (.int 4)))) (Gp (aB (dOp qEq (ab 3) (kD af))) (aB (dOp qLt (ab 5) (dC (.int 7)))))) (ax (aX (dC .non) 8) (tp)) bq) (oF)
def yK:DTS:=ax (aX (dOp qIx (dOp qIx (dOp qIx (ab 1) (dC (.int 1))) (dCB av (aa (ab 0) (aa (dCB mN (aa (dOp qIx (ab 1) (dC (.int 1))) af)) af)))) (dC (.int 0))) 7) (yJ)
def yL:DTS:=ax (ko 2 [] (bP (dOp qIx (ab 1) (dC (.int 0)))) (mT 2 (bX (am 0) (bX (am 1) mU))) uu (ab 0) 6) (yK)
def GT:DTS:=ax (aX (dCB av (aa (ab 0) (aa (dC (.int 11)) af))) 5) (yL)
section
variable{M B:Mem}{R:DK}{q p s t w:Nat}{ps:List (Str×Int)}{rs:List (Str×List Str)}{hs sts:List D}{kvs:List (D×D)}{kind:Int}{xs:List Str}{room:Str}{y8 y9:Option D}
def act_6(ql:q<M.length)(hf:HouseF ps rs)(ne:p≠q/\s≠q/\t≠q)(hp:ar M p hs)(hh:∀x∈hs,Hd x)(h1:1<=hs.length)(h12:hs.length<=12)(hs':ar M s sts)(hst:∀x∈sts,St x)(sl:sts.length<=1000)(ht:M[t]?=some (.dkt kvs))(hv:∀x∈kvs,∃v:Int,x.2=.int v/\0<=v/\v<=1000)
  (g:Hl M B q) (wM:M.length<=w) (gw:B[w]?=some (.lst (xs.map .str))) (x1:1<=xs.length) (x4:xs.length<=4) (x8:∀x∈xs,x.length<=8)
  (h:∀(x:Str) (dl:List D) (n:Int),mI 4 dl->ActK rs x dl->R (.tup (.str x::dl)) (M.set q (.lst [.int n]))) :
  oF (EE M R) [some (.ref q),some (aK ps rs),some (.ref p),some (.ref s),some (.ref t),some (.int kind),some (.ref w),some (.str room),y8,y9] B:=by
 have pk:∀{B:Mem}{Q:DK},Hl M B q->(∀(d:D) (B':Mem),St d->Hl M B' q->(∀j x,M.length<=j->B[j]?=some x->B'[j]?=some x)->Q d B')->dh [.ref q,.ref p,.ref s] B Q:=λ{B Q} g k =>
  ⟨q,p,s,hs,sts,rfl,g.hd ql,ne.1,ne.2.1,g.oldL ne.1 hp,hh,h1,h12,g.oldL ne.2.1 hs',hst,sl,λd n hd=>k d _ hd (g.set ql) λj x hj e=>au (by lia) e⟩
 simp only[oF];walk_at "dl";refine⟨⟨rfl,rfl⟩,?_⟩;generalize eqD B eqN (.int kind) (.int 4)=b4;cases b4 with
 | true =>
  refine bT (pk g λd B1 hd g1 kp=>?_)
  refine⟨q,w,xs,rfl,g1.hd ql,by lia,.inl (kp _ _ wM gw),x1,by lia,x8,λz n zl=>?_⟩
  exact⟨ak (by lia),fR (g1.set ql) h (.cons hd.pl (.cons (.str _) .nil)) (.mkChange hd zl)⟩
 | false =>
 refine bJ ?_
 simp only[yI];walk_at "dl";refine⟨⟨rfl,rfl⟩,?_⟩;generalize eqD B eqN (.int kind) (.int 5)=b5;cases b5 with
 | true=>exact bT (pk g λd B1 hd g1 kp=>⟨ak (by lia),fR g1 h (.cons hd.pl .nil) (.mkBack hd)⟩)
 | false =>
 refine bJ ?_
 simp only[yH];walk_at "dl";refine⟨⟨rfl,rfl⟩,?_⟩;generalize eqD B eqN (.int kind) (.int 6)=b6;cases b6 with
 | true =>
  refine bT ⟨q,rfl,g.hd ql,λz n zl=>?_⟩
  have g1:=g.set (n:=n) ql;generalize B.set q (.lst [.int n])=B1 at g1;refine⟨ak (by lia),q,3,rfl,(g1.more).hd ql,by decide,by decide,λk n k0 k1=>?_⟩
  have g2:=(g1.more (L:=[.lst [.str (AA0 "good"),.str (AA0 "no"),.str z]])).set (n:=n) ql;have gl:((B1++[MO.lst [.str (AA0 "good"),.str (AA0 "no"),.str z]]).set q (.lst [.int n]))[B1.length]?=some (.lst [.str (AA0 "good"),.str (AA0 "no"),.str z]):=au (by have:=g1.len;lia) ae
  generalize (B1++[MO.lst [.str (AA0 "good"),.str (AA0 "no"),.str z]]).set q (.lst [.int n])=B2 at g2 gl;have ex:∃s:Str,atI [D.str (AA0 "good"),.str (AA0 "no"),.str z] k=some (.str s):=by
   have:k=0\/k=1\/k=2:=by lia
   rcases this with rfl | rfl | rfl
   ·exact⟨_,az (j:=0) rfl⟩
   ·exact⟨_,az (j:=1) rfl⟩
   ·exact⟨_,az (j:=2) rfl⟩
  obtain⟨so,es⟩:=ex;refine⟨_,.inl gl,?_⟩;rw[es];simp only[yG];walk_at "dl";refine pk g2 λd B3 hd g3 kp=>?_
  refine⟨q,3,rfl,g3.hd ql,by decide,by decide,λk n k0 k1=>?_⟩
  exact⟨ak (by lia),fR (g3.set ql) h (.cons hd.pl (.cons (.str _) (.cons (.bl _) .nil))) (.mkLike hd)⟩
 | false =>
 refine bJ ?_
 simp only[vK];walk_at "dl";refine⟨⟨rfl,rfl⟩,?_⟩;generalize eqD B eqN (.int kind) (.int 7)=b7;cases b7 with
 | true =>
  refine bT ⟨q,p,t,hs,kvs,rfl,g.hd ql,ne.1,ne.2.2,g.oldL ne.1 hp,hh,h12,g.old ne.2.2 ht,hv,λvs n hvs hvk=>?_⟩
  exact⟨ak (by lia),fR (g.set ql) h (.cons (.str _) (.cons (.tup hvs) .nil)) (.mkRead hvk)⟩
 | false =>
 refine bJ ?_
 simp only[vJ];walk_at "dl";refine⟨⟨rfl,rfl⟩,?_⟩;generalize eqD B eqN (.int kind) (.int 8)=b8;cases b8 with
 | true=>exact bT (pk g λd B1 hd g1 kp=>⟨ak (by lia),fR g1 h (.cons hd.pl .nil) (.mkSeen hd)⟩)
 | false =>
 refine bJ ?_
 simp only[vI];walk_at "dl";refine⟨⟨rfl,rfl⟩,?_⟩;generalize eqD B eqN (.int kind) (.int 9)=b9;cases b9 with
 | true =>
  refine bT ⟨q,p,s,ps,rs,hs,sts,rfl,g.hd ql,hf,ne.1,ne.2.1,g.oldL ne.1 hp,hh,h1,h12,g.oldL ne.2.1 hs',hst,sl,λd n hd=>?_⟩
  have g1:=g.set (n:=n) ql;generalize B.set q (.lst [.int n])=B1 at g1;refine⟨q,3,rfl,g1.hd ql,by decide,by decide,λk n k0 k1=>?_⟩
  exact⟨ak (by lia),fR (g1.set ql) h (.cons hd.pl4 (.cons (.bl _) .nil)) (.mkHush hd)⟩
 | false =>
 refine bJ ?_
 simp only[vH];walk_at "dl";exact pk g λd B1 hd g1 kp=>⟨ak (by lia),fR g1 h (.cons hd.pl .nil) (.mkRung hd)⟩
end
def GL:WpT wO 10 GT:=by
 rintro ds M R ⟨q,p,s,t,ps,rs,hs,sts,kvs,rfl,hq,hf,ne,hp,hh,h1,h12,hs',hst,sl,ht,hv,h⟩;have ql:=hq.lt;have l1:=hf.len;have l2:=hf.rl;simp only[GT];walk_at "dl";refine⟨q,11,rfl,hq,by decide,by decide,λkind n _ _=>?_⟩
 have g0:=hq.start.set (n:=n) ql;generalize M.set q (.lst [.int n])=B0 at g0;simp only[yL,aK];walk_at "dl";intro _;refine bZ (λd=>(match d with | .tup (x::_)=>x | _=>.non)) (λS=>∃a b,S=[a,b]) trivial _ _ _ (λx hx S hS=>?_) ⟨_,_,rfl⟩ (by rw[AAU,AA4];exact ak (by lia)) ?_
 ·obtain⟨a,b,rfl⟩:=hS
  obtain⟨y,_,rfl⟩:=AAH.mp hx;refine⟨[some (.str y.1),some (.int y.2)],⟨_,_,rfl⟩,λY hY=>?_⟩
  unfold ig;walk_at "dl";exact⟨trivial,hY⟩
 ·rw[AAl]
  have en:(ps.map ig).map (λd=>(match d with | .tup (x::_)=>x | _=>.non))=(ps.map (·.1)).map D.str:=by
   rw[ABI,ABI];rfl
  rw[en];have g1:=g0.more (L:=[.lst ((ps.map (·.1)).map D.str)]);have gw:(B0++[MO.lst ((ps.map (·.1)).map D.str)])[B0.length]?=some (.lst ((ps.map (·.1)).map D.str)):=ae;have wM:=g0.len;have x8:∀x∈ps.map (·.1),x.length<=8:=λx hx=>by
   obtain⟨y,hy,rfl⟩:=AAH.mp hx;exact hf.nm y hy
  have xl:(ps.map (·.1)).length=ps.length:=AA4 _;generalize B0++[MO.lst ((ps.map (·.1)).map D.str)]=B1 at g1 gw;generalize B0.length=w at gw wM;generalize ps.map (·.1)=xs at gw x8 xl;simp only[yK];walk_at "dl";refine⟨q,_,rfl,g1.hd ql,by rw[AA4];lia,by rw[AA4];lia,λk n k0 k1=>?_⟩
  have g2:=g1.set (n:=n) ql;have gw2:(B1.set q (.lst [.int n]))[w]?=some (.lst (xs.map .str)):=au (by lia) gw
  generalize B1.set q (.lst [.int n])=B2 at g2 gw2;obtain⟨j,hj,ej,_⟩:=fQ (xs:=rs.map gG) k0 k1;rw[ACL]at ej;have hj':j<rs.length:=by rw[AA4]at hj;exact hj
  have hr:(rs[j]'hj').1∈rs.map (·.1):=AB2 (ABA hj');walk_at "dl";rw[ej];unfold gG;walk_at "dl";generalize (rs[j]'hj').1=room at hr;have ok29:∀{B:Mem},∀x∈sts,okD B 29 x=true:=λ{B} x hx=>by obtain⟨t,z,k,rfl⟩:=hst x hx;rfl
  have six:∀{B:Mem}{y8 y9:Option D},Hl M B q->B[w]?=some (.lst (xs.map .str))->oF (EE M R) [some (.ref q),some (aK ps rs),some (.ref p),some (.ref s),some (.ref t),some (.int kind),some (.ref w),some (.str room),y8,y9] B:=λg gw=>act_6 ql hf ne hp hh h1 h12 hs' hst sl ht hv g wM gw (by lia) (by lia) x8 h
  have four:∀{E:DEnds}{B:Mem}{y9:Option D},E.rt=bj M R->Hl M B q->B[w]?=some (.lst (xs.map .str))->tp E [some (.ref q),some (aK ps rs),some (.ref p),some (.ref s),some (.ref t),some (.int kind),some (.ref w),some (.str room),some .non,y9] B:=λ{E B y9} eR g gw=>by
   have five:∀{B:Mem}{u:D},Hl M B q->B[w]?=some (.lst (xs.map .str))->(u=.non\/St u)->tj E [some (.ref q),some (aK ps rs),some (.ref p),some (.ref s),some (.ref t),some (.int kind),some (.ref w),some (.str room),some u,y9] B:=λ{B u} g gw hu=>by
    simp only[tj];walk_at "dl";refine⟨q,w,xs,rfl,g.hd ql,by lia,.inl gw,by lia,by lia,x8,λz n zl=>?_⟩
    have up:Pln 4 u:=by
     rcases hu with rfl | hu
     ·exact .non
     ·exact hu.pl
    refine⟨ak (by lia),?_⟩
    rw[eR];exact fR (g.set ql) h (.cons (.str _) (.cons up (.cons (.str _) .nil))) (.mkSay hr hu zl)
   simp only[tp];walk_at "dl";refine⟨q,3,rfl,g.hd ql,by decide,by decide,λk n k0 k1=>?_⟩
   have g3:=g.set (n:=n) ql;have gw3:(B.set q (.lst [.int n]))[w]?=some (.lst (xs.map .str)):=au (by lia) gw
   generalize B.set q (.lst [.int n])=B3 at g3 gw3;walk_at "dl";by_cases hk:k > 0
   ·rw[dT_ hk]
    obtain⟨okk,ee⟩:=kJ (g3.oldL ne.2.1 hs') ok29;refine bT ⟨AAX _,okk,?_⟩;rw[ee];have g4:=g3.more (L:=[.lst []]);have gw4:=ac (a:=.lst []) gw3;generalize B3++[MO.lst []]=B4 at g4 gw4;cases he:sts.isEmpty with
    | true=>exact bJ (five g4 gw4 (.inl rfl))
    | false =>
     refine bT ⟨q,p,s,hs,sts,rfl,g4.hd ql,ne.1,ne.2.1,g4.oldL ne.1 hp,hh,h1,h12,g4.oldL ne.2.1 hs',hst,sl,λd n hd=>?_⟩
     exact five (g4.set ql) (au (by lia) gw4) (.inr hd)
   ·rw[dF_ hk]
    exact bJ (five g3 gw3 (.inl rfl))
  simp only[yJ];walk_at "dl";by_cases h4:kind<4
  ·rw[dT_ h4]
   exact bT (four rfl g2 gw2)
  ·rw[dF_ h4]
   obtain⟨okk,ee⟩:=kJ (g2.oldL ne.2.1 hs') ok29;refine bJ ⟨AAX _,okk,?_⟩;rw[ee];have g4:=g2.more (L:=[.lst []]);have gw4:=ac (a:=.lst []) gw2;generalize B2++[MO.lst []]=B4 at g4 gw4;cases he:sts.isEmpty with
   | true =>
    refine bT ?_
    by_cases h7:kind<7
    ·rw[dT_ h7]
     exact bT (four rfl g4 gw4)
    ·rw[dF_ h7]
     exact bJ (six g4 gw4)
   | false=>exact bJ (six g4 gw4)
def HZ(T:Tops P w K mg base):Cal P w K mg base 4 "_law_act" Fj wO :=
 Cal.byD (N:=["_law_held","_law_house_here","_law_hands_here","_law_says","_law_done","_law_kind","_law_names_here","_law_room","_law_under","_law_sort"]) T.b T.f_act (by walk_at "sc") FB (by have:=dJ T;have:=zw T;have:=zu T;have:=zv T;have:=zt T;have:=zr T;walk_at "dv") GL
def jC:DSp:=λds M R=>∃(ps:List (Str×Int)) (r:List D),ds=[.tup (.tup (ps.map ig)::r)]/\Few ps/\R (.ref M.length) (M++[.lst (aC ps)])
def zM:cE jC tL:=by rintro ds M R ⟨ps,r,rfl,_⟩;rfl
def qF:DTS:=bw (ab 1)
def qG:DTS:=ax (mV (bP (dOp qIx (ab 0) (dC (.int 0)))) (mT 2 (bX (am 2) (bX (am 3) mU))) (jW (dMl lL (ab 1) (aa (dLC 1 [2] (eZ (aa (ab 3) af)) (am 0) uu (fy (aa (ab 1) (aa (ab 0) af)))) af)))) (qF)
def yF:DTS:=ax (aX (kD af) 1) (qG)
def Bl:WpT jC 4 yF:=by
 rintro ds M R ⟨ps,r,rfl,⟨h4,h3⟩,h⟩;simp only[yF,qG];walk_at "dl";refine⟨AAX _,λ_=>?_⟩
 have hb:∀qs:List (Str×Int),(∀p∈qs,p∈ps)->qs.length<=4->(aC qs).length<=12:=λqs h1 h2=>by
  have:=oj (ps:=qs) λp hp=>h3 p (h1 p hp)
  lia
 refine jx (λys S M'=>∃qs rs a b L,ps=qs++rs/\ys=rs.map ig/\M'=M++.lst (aC qs)::L/\S=[some (.tup (.tup (ps.map ig)::r)),some (.ref M.length),a,b]) ?_ ?_ _ _ _ ⟨[],ps,_,_,[],rfl,rfl,rfl,rfl⟩
 ·rintro S M' ⟨qs,rs,a,b,L,e,hq,rfl,rfl⟩
  have:rs=[]:=by cases rs<;>simp_all
  subst this;rw[AB7]at e;subst e;refine⟨trivial,?_⟩;simp only[qF];walk_at "dl";exact bj.lst h (AA8 _) jS xH
 ·rintro x xs S M' ⟨qs,rs,a,b,L,e,hq,rfl,rfl⟩ G hG
  cases rs with
  | nil=>cases hq
  | cons p rs =>
   rw[AAf]at hq;injection hq with e1 e2
   subst e1;have hp:=h3 p (by rw[e];simp)
   refine⟨trivial,?_⟩;unfold ig;walk_at "dl";refine⟨trivial,⟨_,.inl jS⟩,⟨by lia,by lia⟩,?_⟩
   refine bZ (λk=>.tup [.str p.1,k]) (λS=>∃a,S=[a,some (.str p.1)]) trivial _ _ _ (λk hk S hS=>?_) ⟨_,rfl⟩ ?_ ?_
   ·obtain⟨a,rfl⟩:=hS
    refine⟨[some k,some (.str p.1)],⟨_,rfl⟩,λY hY=>?_⟩
    walk_at "dl";exact⟨ak (by lia),hY⟩
   ·simp only[AAU,fX]
    exact ak (by lia)
   ·rw[AAl]
    have eh:(sN 0 p.2.toNat).map (λk=>D.tup [.str p.1,k])=dN p:=rfl
    rw[eh];have l1:=hb qs (λz hz=>by rw[e];exact AAc _ hz) (by have:=congrArg ABf e;rw[AAB]at this;lia)
    have l2:(dN p).length<=3:=by rw[iD];lia
    rw[AAg,AE8];refine⟨_,dN p,jS,?_,?_,ak (by lia),?_⟩
    ·rw[<-AE8,<-AAg];exact ae
    ·rw[AAB,AAK];lia
    ·rw[ia]
     refine Fgt.now (hG _ _ ⟨qs++[p],rs,_,_,L++[.lst (dN p)],by rw[AAg];exact e,e2,?_,rfl⟩)
     rw[show aC (qs++[p])=aC qs++dN p by simp[aC]]
def vU(T:Tops P w K mg base):Cal P w K mg base 1 "_law_hands" tL jC :=
 Cal.byD (N:=["_law_house_here","_law_found","_law_name_here","_law_many"]) T.b T.f_hands (by walk_at "sc") zM (by walk_at "dv") Bl
structure LogS(ps:List (Str×Int))(rs:List (Str×List Str))(log:List D):Prop where
 dk:∀d∈log,aE ps rs d
 up:log.Pairwise λa b=>enc eqN (stD a)<enc eqN (stD b)
 len:log.length<=60
def wN:DSp:=λds M R=>∃(ps:List (Str×Int)) (rs:List (Str×List Str)) (p tq:Nat) (cs:List Int),ds=[.ref p,aK ps rs]/\HouseF ps rs/\ar M p (cs.map .int)/\p≠tq/\cs.length<=60/\M[tq]?=some (.tb (AA0 "_law_log") false)/\∀log,LogS ps rs log->R (.tup log) (M.set tq (.tb (AA0 "_law_log") true))
def Fz:cE wN Fh:=by rintro ds M R ⟨ps,rs,p,tq,cs,rfl,_⟩;rfl
def fA:D->Int
 | .tup (.int t::_)=>t
 | _=>0
def hdO:D->D
 | .tup (_::h::_)=>h
 | _=>.non
def mn(hf:HouseF ps rs):Few ps/\1<=(aC ps).length/\(aC ps).length<=12:=by
 have few:Few ps:=⟨hf.len.2,λq hq=>⟨by have:=hf.many q hq;lia,(hf.many q hq).2⟩⟩
 have hln:=oj few.2;refine⟨few,?_,by have:=few.1;lia⟩
 match ps,hf with
 | [],hf=>have:=hf.len.1;simp at this
 | p::ps,hf =>
  have:=(hf.many p (by simp)).1
  rw[aC,List.flatMap_cons,AAB,iD];lia
structure GenD(ps:List (Str×Int))(rs:List (Str×List Str))(deeds sts:List D)(las cnt:List (D×D))(n:Nat):Prop where
 dk:∀d∈deeds,aE ps rs d
 nd:(deeds.map stD).Nodup
 la:∀d∈deeds,∃v:Int,aW las (hdO d)=some (.int v)/\fA d<=v
 lv:∀x∈las,∃v:Int,x.2=.int v/\0<=v
 cv:∀x∈cnt,∃v:Int,x.2=.int v/\0<=v/\v<=n
 so:∀x∈sts,St x
 dl:deeds.length<=n
 sl:sts.length<=n
 ll:las.length<=n
 cl:cnt.length<=n
def GenD.next{ps:List (Str×Int)}{rs:List (Str×List Str)}{deeds sts sts':List D}{las cnt:List (D×D)}{n:Nat}{t num:Int}{z x:Str}{k c:Int}{dl:List D}(g:GenD ps rs deeds sts las cnt n)(hx:D.tup [.str z,.int k]∈aC ps)(t1:1<=t)(tv:∀v:Int,aW las (.tup [.str z,.int k])=some (.int v)->v<t)(c0:0<=c)(c1:c<=n)(hp:mI 4 dl)(ha:ActK rs x dl)
  (s1:∀x∈sts',St x) (s2:sts'.length<=n+1) :
  GenD ps rs (deeds++[.tup [.int t,.tup [.str z,.int k],.int num,.tup (.str x::dl)]]) sts' (ie las (.tup [.str z,.int k]) (.int t)) (ie cnt (.tup [.str z,.int k]) (.int (c+1))) (n+1):=by
 have h1:=g.dl;have h2:=g.ll;have h3:=g.cl;refine⟨λd hd=>?_,?_,λd hd=>?_,λy hy=>?_,λy hy=>?_,s1,by rw[AAB,AAV];lia,s2,?_,?_⟩
 ·rcases AAT.mp hd with hd | hd
  ·exact g.dk d hd
  ·rw[show d=_ from by simpa using hd]
   exact⟨_,_,_,_,_,_,rfl,t1,hx,hp,ha⟩
 ·rw[AB1]
  refine List.nodup_append.mpr ⟨g.nd,by simp,λa ha b hb e=>?_⟩
  obtain⟨d,hd,rfl⟩:=AAH.mp ha;rw[show b=_ from by simpa using hb]at e
  obtain⟨t',z',k',num',x',ds',rfl,_⟩:=g.dk d hd;obtain⟨v,e1,e2⟩:=g.la _ hd;simp only[stD,D.tup.injEq,ADd,D.int.injEq,D.str.injEq,and_true]at e;obtain⟨rfl,rfl,rfl⟩:=e;have:=tv v e1;simp only[fA]at e2;lia
 ·rcases AAT.mp hd with hd | hd
  ·obtain⟨v,e1,e2⟩:=g.la d hd
   by_cases e:hdO d=.tup [.str z,.int k]
   ·rw[e]at e1 ⊢
    exact⟨t,gf,by have:=tv v e1;lia⟩
   ·exact⟨v,by rw[ju e];exact e1,e2⟩
  ·rw[show d=_ from by simpa using hd]
   exact⟨t,gf,Int.le_refl _⟩
 ·rcases fZ hy with rfl | hy
  ·exact⟨t,rfl,by lia⟩
  ·exact g.lv y hy
 ·rcases fZ hy with rfl | hy
  ·exact⟨c+1,rfl,by lia,by lia⟩
  ·obtain⟨v,e1,e2,e3⟩:=g.cv y hy
   exact⟨v,e1,e2,by lia⟩
 ·have:=oO (kvs:=las) (k:=.tup [.str z,.int k]) (d:=.int t)
  lia
 ·have:=oO (kvs:=cnt) (k:=.tup [.str z,.int k]) (d:=.int (c+1))
  lia
structure LgD(M B:Mem)(hs deeds sts:List D)(las cnt:List (D×D)):Prop where
 pre:M <+: B
 hs:B[M.length]?=some (.lst hs)
 las:B[M.length+1]?=some (.dkt las)
 cnt:B[M.length+2]?=some (.dkt cnt)
 sts:B[M.length+3]?=some (.lst sts)
 deeds:B[M.length+4]?=some (.lst deeds)
section
variable{M B:Mem}{hs deeds sts:List D}{las cnt:List (D×D)}{q:Nat}{x:MO}
def LgD.more(g:LgD M B hs deeds sts las cnt):LgD M (B++L) hs deeds sts las cnt :=
 ⟨g.pre.trans (AAb _ _),aT (AAb _ _) g.hs,aT (AAb _ _) g.las,aT (AAb _ _) g.cnt,aT (AAb _ _) g.sts,aT (AAb _ _) g.deeds⟩
def LgD.lt(g:LgD M B hs deeds sts las cnt):M.length+5<=B.length:=aN g.deeds
def LgD.set(g:LgD M B hs deeds sts las cnt)(h:M.length+5<=q):LgD M (B.set q x) hs deeds sts las cnt :=
 ⟨cY g.pre (by lia),au (by lia) g.hs,au (by lia) g.las,au (by lia) g.cnt,au (by lia) g.sts,au (by lia) g.deeds⟩
def LgD.setD(g:LgD M B hs deeds sts las cnt):LgD M (B.set (M.length+4) (.lst ds')) hs ds' sts las cnt :=
 ⟨cY g.pre (by lia),au (by lia) g.hs,au (by lia) g.las,au (by lia) g.cnt,au (by lia) g.sts,dc g.deeds⟩
def LgD.setS(g:LgD M B hs deeds sts las cnt):LgD M (B.set (M.length+3) (.lst ds')) hs deeds ds' las cnt :=
 ⟨cY g.pre (by lia),au (by lia) g.hs,au (by lia) g.las,au (by lia) g.cnt,dc g.sts,au (by lia) g.deeds⟩
def LgD.setC(g:LgD M B hs deeds sts las cnt):LgD M (B.set (M.length+2) (.dkt kvs)) hs deeds sts las kvs :=
 ⟨cY g.pre (by lia),au (by lia) g.hs,au (by lia) g.las,dc g.cnt,au (by lia) g.sts,au (by lia) g.deeds⟩
def LgD.setL(g:LgD M B hs deeds sts las cnt):LgD M (B.set (M.length+1) (.dkt kvs)) hs deeds sts kvs cnt :=
 ⟨cY g.pre (by lia),au (by lia) g.hs,dc g.las,au (by lia) g.cnt,au (by lia) g.sts,au (by lia) g.deeds⟩
end
def FK{kvs:List (D×D)}(h:∀x∈kvs,∃v:Int,x.2=.int v/\0<=v):∃vs:List Int,kvs.map (·.2)=vs.map D.int:=by
 induction kvs with
 | nil=>exact⟨[],rfl⟩
 | cons p kvs ih =>
  obtain⟨v,e,_⟩:=h p (by simp)
  obtain⟨vs,e2⟩:=ih λx hx=>h x (AA9 _ hx)
  exact⟨v::vs,by rw[AAf,AAf,e,e2]⟩
def vh:DTS:=bw (dCB je (aa (kQ "_law_log" ["_law_deed"] (dSl (ab 0) fe (jV (dC (.int 2)))) (aa (ab 6) af)) af))
def vj:DTS:=dIf (aB (dOp qEq (dOp qIx (ab 12) (dC (.int 0))) (dC (.str "say")))) (jW (dMl cf (ab 5) (aa (fy (aa (ab 11) (aa (ab 9) af))) af))) bq
def vm:DTS:=ax (uv (ab 4) (ab 9) (dOp bv (dMt jf (ab 4) (aa (ab 9) (aa (dC (.int 0)) af))) (dC (.int 1)))) (vj)
def vn:DTS:=ax (uv (ab 3) (ab 9) (ab 11)) (vm)
def vp:DTS:=ax (jW (dMl cf (ab 6) (aa (fy (aa (ab 11) (aa (ab 9) (aa (dMt jf (ab 4) (aa (ab 9) (aa (dC (.int 0)) af))) (aa (ab 12) af))))) af))) (vn)
def oE:DTS:=ax (aX (dCB wO (aa (ab 8) (aa (ab 1) (aa (ab 2) (aa (ab 5) (aa (ab 4) af)))))) 12) (vp)
def ym:DTS:=ax (dIf (aB (dOp qEq (ab 10) (dC (.int 3)))) (aX (dOp bv (dC (.int 1)) (dCB xj (aa (dOp bv (kD (aa (dC (.int 0)) af)) (jy (ab 3))) af))) 11) bq) (oE)
def yn:DTS:=ax (aX (dOp bv (dOp bv (dMt jf (ab 3) (aa (ab 9) (aa (dC (.int 0)) af))) (dC (.int 1))) (dCB av (aa (ab 8) (aa (dOp qIx (kD (aa (dC (.int 3)) (aa (dC (.int 6)) (aa (dOp ER (dC (.int 10)) (dC (.int 7))) (aa (dC (.int 1)) af))))) (ab 10)) af)))) 11) (ym)
def yo:DTS:=ax (aX (dCB av (aa (ab 8) (aa (dC (.int 4)) af))) 10) (yn)
def sX:DTS:=ax (aX (dOp qIx (ab 2) (dCB av (aa (ab 8) (aa (dCB mN (aa (ab 2) af)) af)))) 9) (yo)
def yp:DTS:=ax (mV (bP (ab 0)) (am 7) (ax (aX (dCB dj (aa (ab 7) af)) 8) (sX))) (vh)
def yq:DTS:=ax (aX (kD af) 6) (yp)
def yr:DTS:=ax (aX (kD af) 5) (yq)
def yt:DTS:=ax (aX (uw) 4) (yr)
def yu:DTS:=ax (aX (uw) 3) (yt)
def GR:DTS:=ax (aX (dCB jC (aa (ab 1) af)) 2) (yu)
def DC{M B:Mem}{E:DEnds}{deeds sts hs:List D}{las cnt:List (D×D)}{n q:Nat}{t way:Int}{z:Str}{k:Int}{ps:List (Str×Int)}{rs:List (Str×List Str)}{y0 y7 y12:Option D}(g:LgD M B hs deeds sts las cnt)(G:GenD ps rs deeds sts las cnt n)(hf:HouseF ps rs)(hh:∀x∈hs,Hd x)(h1:1<=hs.length)(h12:hs.length<=12)(n60:n<60)(hd:HdP B q)(qM:M.length+5<=q)(hx:D.tup [.str z,.int k]∈aC ps)(t1:1<=t)(tv:∀v:Int,aW las (.tup [.str z,.int k])=some (.int v)->v<t)
  (hE:∀deeds' sts' las' cnt' B' y,LgD M B' hs deeds' sts' las' cnt'->GenD ps rs deeds' sts' las' cnt' (n+1)->E.nx [y0,some (aK ps rs),some (.ref M.length),some (.ref (M.length+1)),some (.ref (M.length+2)),some (.ref (M.length+3)),some (.ref (M.length+4)),y7,some (.ref q),some (.tup [.str z,.int k]),some (.int way),some (.int t),y] B') :
  oE E [y0,some (aK ps rs),some (.ref M.length),some (.ref (M.length+1)),some (.ref (M.length+2)),some (.ref (M.length+3)),some (.ref (M.length+4)),y7,some (.ref q),some (.tup [.str z,.int k]),some (.int way),some (.int t),y12] B:=by
 have dl:=G.dl;have sl:=G.sl;have ll:=G.ll;have cl:=G.cl;simp only[oE];walk_at "dl";refine⟨q,_,_,_,ps,rs,hs,sts,cnt,rfl,hd,hf,⟨by lia,by lia,by lia⟩,.inl g.hs,hh,h1,h12,.inl g.sts,G.so,by lia,g.cnt,λx hx=>by obtain⟨v,e1,e2,e3⟩:=G.cv x hx;exact⟨v,e1,e2,by lia⟩,λx dl' n' hp ha=>?_⟩
 have g1:=g.set (x:=.lst [.int n']) qM;generalize B.set q (.lst [.int n'])=B1 at g1;have hg:∃c:Int,(aW cnt (.tup [.str z,.int k])).getD (.int 0)=.int c/\0<=c/\c<=n:=by
  cases e:aW cnt (.tup [.str z,.int k]) with
  | none=>exact⟨0,rfl,by decide,by lia⟩
  | some d=>exact G.cv _ (bG e)
 obtain⟨c,ec,c0,c1⟩:=hg;simp only[vp];walk_at "dl";refine⟨⟨_,.inl g1.deeds⟩,⟨_,g1.cnt⟩,_,g1.cnt,rfl,?_⟩;rw[ec];refine⟨ak (by lia),_,g1.deeds,aI (by lia),?_⟩
 have g2:=g1.setD (ds':=deeds++[.tup [.int t,.tup [.str z,.int k],.int c,.tup (.str x::dl')]]);generalize B1.set (M.length+4) _=B2 at g2;simp only[vn];walk_at "dl";refine⟨_,g2.las,rfl,aI (by lia),?_⟩
 have g3:=g2.setL (kvs:=ie las (.tup [.str z,.int k]) (.int t));generalize B2.set (M.length+1) _=B3 at g3;simp only[vm];walk_at "dl";refine⟨⟨_,g3.cnt⟩,_,g3.cnt,rfl,?_⟩;rw[ec];refine⟨_,g3.cnt,rfl,aI (by lia),?_⟩
 have g4:=g3.setC (kvs:=ie cnt (.tup [.str z,.int k]) (.int (c+1)));generalize B3.set (M.length+2) _=B4 at g4;simp only[vj];walk_at "dl";refine⟨⟨aq,aq⟩,?_⟩;generalize eqD B4 eqN (.str x) (.str (AA0 "say"))=bs;cases bs with
 | true =>
  refine bT ⟨⟨_,.inl g4.sts⟩,ak (by lia),_,g4.sts,aI (by lia),?_⟩
  refine hE _ _ _ _ _ _ g4.setS (G.next hx t1 tv c0 c1 hp ha (λy hy=>?_) (by rw[AAB,AAV];lia))
  rcases AAT.mp hy with hy | hy
  ·exact G.so y hy
  ·rw[show y=_ from by simpa using hy];exact⟨_,_,_,rfl⟩
 | false=>exact bJ (hE _ _ _ _ _ _ g4 (G.next hx t1 tv c0 c1 hp ha G.so (by lia)))
def Cn{M B:Mem}{E:DEnds}{deeds sts:List D}{las cnt:List (D×D)}{n:Nat}{cell:Int}{ps:List (Str×Int)}{rs:List (Str×List Str)}{y0 y8 y9 y10 y11 y12:Option D}(g:LgD M B (aC ps) deeds sts las cnt)(G:GenD ps rs deeds sts las cnt n)(hf:HouseF ps rs)(n60:n<60)
  (hE:∀deeds' sts' las' cnt' B' a b c d y,LgD M B' (aC ps) deeds' sts' las' cnt'->GenD ps rs deeds' sts' las' cnt' (n+1)->E.nx [y0,some (aK ps rs),some (.ref M.length),some (.ref (M.length+1)),some (.ref (M.length+2)),some (.ref (M.length+3)),some (.ref (M.length+4)),some (.int cell),a,b,c,d,y] B') :
  (ax (aX (dCB dj (aa (ab 7) af)) 8) (sX)) E [y0,some (aK ps rs),some (.ref M.length),some (.ref (M.length+1)),some (.ref (M.length+2)),some (.ref (M.length+3)),some (.ref (M.length+4)),some (.int cell),y8,y9,y10,y11,y12] B:=by
 obtain⟨few,n1,n12⟩:=mn hf;have hh:∀x∈aC ps,Hd x:=kO;have ll:=G.ll;walk_at "dl";refine⟨cell,rfl,λn'=>?_⟩
 have hd0:HdP (B++[MO.lst [.int n']]) B.length:=⟨n',ae⟩;have g0:=g.more (L:=[.lst [.int n']]);have qM:=g.lt;generalize B++[MO.lst [D.int n']]=B0 at g0 hd0;generalize B.length=q at hd0 qM;have ql:=hd0.lt;have hl0:=hd0.start;have keep:∀{C:Mem},Hl B0 C q->LgD M C (aC ps) deeds sts las cnt:=λ{C} h=>by
  obtain⟨n2,L,rfl⟩:=h;exact(g0.set (x:=.lst [.int n2]) qM).more
 simp only[sX];walk_at "dl";refine⟨_,.inl g0.hs,q,_,rfl,hd0,by lia,by lia,λi m i0 i1=>?_⟩
 have h1:=hl0.set (n:=m) ql;generalize B0.set q (.lst [.int m])=B1 at h1;obtain⟨j,hj,ej,_⟩:=fQ (xs:=aC ps) i0 i1;have hx:=ABA hj;refine⟨_,.inl (keep h1).hs,?_⟩;rw[ej];obtain⟨z,k,ez⟩:=hh _ hx;rw[ez]at hx ⊢;simp only[yo];walk_at "dl";refine⟨q,4,rfl,h1.hd ql,by decide,by decide,λway m w0 w1=>?_⟩
 have h2:=h1.set (n:=m) ql;generalize B1.set q (.lst [.int m])=B2 at h2;have hl:∃v:Int,(aW las (.tup [.str z,.int k])).getD (.int 0)=.int v/\0<=v/\∀u:Int,aW las (.tup [.str z,.int k])=some (.int u)->u=v:=by
  cases e:aW las (.tup [.str z,.int k]) with
  | none=>exact⟨0,rfl,by decide,λu w=>by cases w⟩
  | some d =>
   obtain⟨v,ev,v0⟩:=G.lv _ (bG e);exact⟨v,ev,v0,λu w=>by rw[show d=.int v from ev]at w;cases w;rfl⟩
 obtain⟨v,ev,v0,vu⟩:=hl;simp only[yn];walk_at "dl";refine⟨⟨_,(keep h2).las⟩,_,(keep h2).las,rfl,?_⟩;rw[ev];have ex:∃m:Int,atI [D.int 3,.int 6,.int (10 ^ Int.toNat 7),.int 1] way=some (.int m)/\0<m/\m<100000000000:=by
  have:way=0\/way=1\/way=2\/way=3:=by lia
  rcases this with rfl | rfl | rfl | rfl
  ·exact⟨_,az (j:=0) rfl,by decide,by decide⟩
  ·exact⟨_,az (j:=1) rfl,by decide,by decide⟩
  ·exact⟨_,az (j:=2) rfl,by decide,by decide⟩
  ·exact⟨_,az (j:=3) rfl,by decide,by decide⟩
 obtain⟨m0,em,mp,ml⟩:=ex;refine⟨⟨by decide,by decide,by decide⟩,ak (by lia),_,ao,?_⟩
 rw[em];refine⟨q,m0,rfl,(h2.more).hd ql,mp,ml,λa m a0 a1=>?_⟩
 have h3:=(h2.more (L:=[.lst [D.int 3,.int 6,.int (10 ^ Int.toNat 7),.int 1]])).set (n:=m) ql;generalize (B2++[MO.lst [D.int 3,.int 6,.int (10 ^ Int.toNat 7),.int 1]]).set q (.lst [.int m])=B3 at h3;simp only[ym];walk_at "dl";refine⟨⟨rfl,rfl⟩,?_⟩;generalize eqD B3 eqN (.int way) (.int 3)=b3;cases b3 with
 | false =>
  refine bJ ?_
  exact DC (keep h3) G hf hh n1 n12 n60 (h3.hd ql) qM hx (by lia) (λu w=>by rw[vu u w];lia) λd' s' l' c' B' y g' G'=>hE _ _ _ _ _ _ _ _ _ _ g' G'
 | true =>
  obtain⟨vs,evs⟩:=FK G.lv;have vl:vs.length=las.length:=by have:=congrArg ABf evs;rw[AA4,AA4]at this;exact this.symm
  have h4:=h3.more (L:=[.lst [.int 0]]);have g4:=keep h4;have e0:(B3++[MO.lst [D.int 0]])[B3.length]?=some (.lst [.int 0]):=ae;generalize B3++[MO.lst [D.int 0]]=B4 at h4 g4 e0;generalize B3.length=r4 at e0;refine bT ⟨ak (by lia),_,g4.las,?_⟩
  rw[evs];have h5:=h4.more (L:=[.lst (vs.map .int)]);have e5:=ac (a:=.lst (vs.map .int)) e0;have e6:(B4++[MO.lst (vs.map .int)])[B4.length]?=some (.lst (vs.map .int)):=ae;generalize B4++[MO.lst (vs.map .int)]=B5 at h5 e5 e6;generalize B4.length=r5 at e6;refine⟨_,_,e5,e6,ak (by rw[AA4,AAV];lia),?_⟩
  have h6:=h5.more (L:=[.lst ([.int 0]++vs.map .int)]);have e7:(B5++[MO.lst ([D.int 0]++vs.map .int)])[B5.length]?=some (.lst ((0::vs).map .int)):=ae;generalize B5++[MO.lst ([D.int 0]++vs.map .int)]=B6 at h6 e7;refine⟨0::vs,.inl e7,by simp,λmx mm mall=>?_⟩
  have mx0:=mall 0 (by simp)
  refine DC (keep h6) G hf hh n1 n12 n60 (h6.hd ql) qM hx (by lia) (λu w=>?_) λd' s' l' c' B' y g' G'=>hE _ _ _ _ _ _ _ _ _ _ g' G'
  have hu:D.int u∈las.map (·.2):=AB2 (f:=(·.2)) (bG w);rw[evs]at hu;obtain⟨u',hu',eu⟩:=AAH.mp hu;cases eu
  have:=mall u (AA9 _ hu');lia
def GJ:WpT wN 13 GR:=by
 rintro ds M R ⟨ps,rs,p,tq,cs,rfl,hf,hp,pt,cl,ht,h⟩;obtain⟨few,n1,n12⟩:=mn hf;simp only[GR,aK];walk_at "dl";refine⟨ps,_,rfl,few,?_⟩;simp only[yu,yt,yr,yq];walk_at "dl";refine⟨AAX _,AAX _,?_⟩;have e1:(M++[MO.lst (aC ps)]).length=M.length+1:=by simp
 have e2:(M++[MO.lst (aC ps)]++[MO.dkt []]).length=M.length+2:=by simp
 have e3:(M++[MO.lst (aC ps)]++[MO.dkt []]++[MO.dkt []]).length=M.length+3:=by simp
 have e4:(M++[MO.lst (aC ps)]++[MO.dkt []]++[MO.dkt []]++[MO.lst []]).length=M.length+4:=by simp
 rw[e1,e2,e3,e4];have g0:LgD M (M++[MO.lst (aC ps)]++[MO.dkt []]++[MO.dkt []]++[MO.lst []]++[MO.lst []]) (aC ps) [] [] [] []:=by
  refine⟨(((fB.trans fB).trans fB).trans fB).trans fB,ac (ac (ac (ac ae))),?_,?_,?_,?_⟩
  ·rw[<-e1];exact ac (ac (ac ae))
  ·rw[<-e2];exact ac (ac ae)
  ·rw[<-e3];exact ac ae
  ·rw[<-e4];exact ae
 generalize M++[MO.lst (aC ps)]++[MO.dkt []]++[MO.dkt []]++[MO.lst []]++[MO.lst []]=B0 at g0;simp only[yp];walk_at "dl";refine⟨_,pc g0.pre hp,λ_=>?_⟩
 refine bA (λi S M'=>∃(deeds sts:List D) (las cnt:List (D×D)) (a b c d e f:Option D),LgD M M' (aC ps) deeds sts las cnt/\GenD ps rs deeds sts las cnt i/\S=[some (.ref p),some (aK ps rs),some (.ref M.length),some (.ref (M.length+1)),some (.ref (M.length+2)),some (.ref (M.length+3)),some (.ref (M.length+4)),a,b,c,d,e,f]) ?_ ?_ ⟨[],[],[],[],_,_,_,_,_,_,g0,⟨(λ_ z=>nomatch z),.nil,(λ_ z=>nomatch z),(λ_ z=>nomatch z),(λ_ z=>nomatch z),(λ_ z=>nomatch z),AA8 _,AA8 _,AA8 _,AA8 _⟩,rfl⟩
 ·rintro S M' ⟨deeds,sts,las,cnt,a,b,c,d,e,f,g,G,rfl⟩
  rw[AA4]at G;have dl:=G.dl;refine⟨pc g.pre hp,?_⟩;simp only[vh];walk_at "dl";have tl:=aN ht;have gd:(M'.set tq (.tb (AA0 "_law_log") true))[M.length+4]?=some (.lst deeds):=au (by lia) g.deeds
  have hS:∀x∈deeds.map stD,St x:=λx hx=>by
   obtain⟨d,hd,rfl⟩:=AAH.mp hx;exact(G.dk d hd).st
  refine⟨tq,deeds,stD,aT g.pre ht,.inr ⟨_,rfl,.inl gd⟩,λd hd=>?_,(tw hS (by rw[AA4];lia)).g,λys hy hr=>?_⟩
  ·obtain⟨t,z,k,num,x,ds,rfl,_⟩:=G.dk d hd
   walk_at "dl";exact .inl ⟨rfl,rfl⟩
  ·have ml:M'.length=(M'.set tq (.tb (AA0 "_law_log") true)).length:=(AB0 ..).symm
   refine⟨ys,by rw[ml];exact ao,?_⟩
   have hk:∀d∈ys,aE ps rs d:=λd hd=>G.dk d (hy.mem_iff.mp hd)
   have nd:(ys.map stD).Nodup:=(hy.map _).nodup_iff.mpr G.nd;have ls:LogS ps rs ys:=by
    refine⟨hk,?_,by rw[hy.length_eq];lia⟩
    have n2:ys.Pairwise λa b=>stD a≠stD b:=List.pairwise_map.mp (ABm.mp nd)
    refine(List.Pairwise.and_mem.mp (hr.and n2)).imp λ{a b} ⟨ha,hb,q1,q2⟩=>?_
    have sa:=(hk a ha).st;have sb:=(hk b hb).st;have oa:okP eqN (stD a)=true:=by obtain⟨t,z,k,e⟩:=sa;rw[e];rfl
    have ob:okP eqN (stD b)=true:=by obtain⟨t,z,k,e⟩:=sb;rw[e];rfl
    rw[tV ob oa (sb.cm sa)]at q1;have q3:=of_decide_eq_false q1;refine AB8 λq4=>q2 ?_
    exact FU (M:=[]) oa ob (sa.cm sb) (List.le_antisymm (List.not_lt.mp q3) (List.not_lt.mp q4))
   obtain⟨L,hL⟩:=g.pre;have eB:M'.set tq (.tb (AA0 "_law_log") true)=M.set tq (.tb (AA0 "_law_log") true)++L:=by rw[<-hL,List.set_append_left _ _ tl]
   rw[eB];refine bj.chg (Chg.set .refl .nil) (h ys ls) (.tup (aE.bels hk)) ?_
   rw[AAg];exact AAb _ _
 ·rintro i y S M' hy ⟨deeds,sts,las,cnt,a,b,c,d,e,f,g,G,rfl⟩ K hK
  rw[AAR]at hy;obtain⟨cell,hc,rfl⟩:=ABC.mp hy;have hi:=(AA7.mp hc).1;refine⟨pc g.pre hp,?_⟩;simp only[am,List.set_cons_zero,List.set_cons_succ];exact Cn g G hf (by lia) λd' s' l' c' B' a b c d y g' G'=>Fgt.now (hK _ _ ⟨d',s',l',c',_,_,_,_,_,_,g',G',rfl⟩)
def HY(T:Tops P w K mg base):Cal P w K mg base 8 "_law_log" Fh wN :=
 Cal.byL (N:=["_law_cells","_law_house_here","_law_hands_here","_law_last","_law_done","_law_says","_law_deeds","_law_cell","_law_held","_law_hand","_law_way","_law_time","_law_act_here"]) T.b T.f_log (by walk_at "sc") Fz (by have:=T.bm;have:=lY T;have:=dJ T;have:=HZ T;have:=vU T;walk_at "dvl") GJ
def mH:DSp:=λds M R=>∃(ps:List (Str×Int)) (rs:List (Str×List Str)) (log:List D) (z:Str) (k:Int) (x:Str) (dl:List D),ds=[.tup log,.tup [.str z,.int k],.tup (.str x::dl)]/\(∀d∈log,aE ps rs d)/\log.length<=100/\D.tup [.str z,.int k]∈aC ps/\mI 4 dl/\∀t num:Int,1<=t->(∀d∈log,fA d<t)->R (.tup (log++[.tup [.int t,.tup [.str z,.int k],.int num,.tup (.str x::dl)]])) M
def Ct:cE mH zo:=by rintro ds M R ⟨ps,rs,log,z,k,x,dl,rfl,_⟩;rfl
def va:DTS:=bw (dOp bv (ab 0) (fy (aa (fy (aa (ab 3) (aa (ab 1) (aa (ab 4) (aa (ab 2) af))))) af)))
def vc:DTS:=ax (aX (dCB mN (aa (dLC 1 [1] (bP (ab 0)) (am 0) (aB (dOp qEq (dOp qIx (ab 0) (dC (.int 1))) (ab 1))) (ab 0)) af)) 4) (va)
def Ds:DTS:=ax (aX (dOp bv (dC (.int 1)) (dCB xj (aa (dOp bv (kD (aa (dC (.int 0)) af)) (dLC 1 [] (bP (ab 0)) (am 0) uu (dOp qIx (ab 0) (dC (.int 0))))) af))) 3) (vc)
theorem Ez:WpT mH 5 Ds:=by
 rintro ds M R ⟨ps,rs,log,z,k,xx,dl,rfl,hl,l60,hh,hdl,h⟩;simp only[Ds];walk_at "dl";refine⟨ak (by lia),λ_=>?_⟩
 have p0:M <+: M++[MO.lst [.int 0]]:=fB;have e0:(M++[MO.lst [D.int 0]])[M.length]?=some (.lst [.int 0]):=ae;generalize M++[MO.lst [D.int 0]]=B0 at p0 e0;refine bZ (λd=>.int (fA d)) (λS=>∃a,S=[a]) trivial _ _ _ (λd hm S hS=>?_) ⟨_,rfl⟩ (by rw[AAU];exact ak (by lia)) ?_
 ·obtain⟨a,rfl⟩:=hS
  obtain⟨t',z',k',num',x,ds,rfl,_⟩:=hl d hm;refine⟨[some (.tup [.int t',.tup [.str z',.int k'],.int num',.tup (.str x::ds)])],⟨_,rfl⟩,λY hY=>?_⟩
  walk_at "dl";exact hY
 ·rw[AAl]
  have em:log.map (λd=>D.int (fA d))=(log.map fA).map D.int:=by rw[ABI];rfl
  rw[em];have p1:=p0.trans (fB (mo:=MO.lst ((log.map fA).map D.int)));have e1:=ac (a:=MO.lst ((log.map fA).map D.int)) e0;have e2:(B0++[MO.lst ((log.map fA).map D.int)])[B0.length]?=some (.lst ((log.map fA).map D.int)):=ae;generalize B0++[MO.lst ((log.map fA).map D.int)]=B1 at p1 e1 e2;refine⟨_,_,e1,e2,ak (by rw[AA4,AA4,AAV];lia),?_⟩
  have p2:=p1.trans (fB (mo:=MO.lst ([D.int 0]++(log.map fA).map D.int)));have e3:(B1++[MO.lst ([D.int 0]++(log.map fA).map D.int)])[B1.length]?=some (.lst ((0::log.map fA).map D.int)):=ae;generalize B1++[MO.lst ([D.int 0]++(log.map fA).map D.int)]=B2 at p2 e3;refine⟨0::log.map fA,.inl e3,by simp,λmx mm mall=>?_⟩
  have mx0:=mall 0 (by simp)
  have mxd:∀d∈log,fA d<1+mx:=λd hd=>by
   have:=mall (fA d) (AA9 _ (AB2 hd));lia
  simp only[vc];walk_at "dl";intro _;refine aL (λd=>eqD B2 eqN (hdO d) (.tup [.str z,.int k])) id (λS=>∃a,S=[a,some (.tup [.str z,.int k])]) trivial _ _ _ ?_ ⟨_,rfl⟩ (by rw[AAU];exact ak (by lia)) ?_
  ·rintro d hm S ⟨a,rfl⟩
   obtain⟨t',z',k',num',x,ds,rfl,_⟩:=hl d hm;refine⟨[some (.tup [.int t',.tup [.str z',.int k'],.int num',.tup (.str x::ds)]),some (.tup [.str z,.int k])],⟨_,rfl⟩,λY Z hYZ=>?_⟩
   walk_at "dl";refine⟨⟨rfl,rfl⟩,?_⟩;have e1:hdO (.tup [.int t',.tup [.str z',.int k'],.int num',.tup (.str x::ds)])=.tup [.str z',.int k']:=rfl;rw[e1]at hYZ;cases hb:eqD B2 eqN (.tup [.str z',.int k']) (.tup [.str z,.int k]) with
   | true=>rw[hb]at hYZ;exact bT hYZ
   | false=>rw[hb]at hYZ;exact bJ hYZ
  ·refine⟨_,ao,?_⟩
   simp only[va];walk_at "dl";refine⟨ak (by lia),ak (by lia),ak (by lia),?_⟩
   refine bj.keep (h _ _ (by lia) mxd) ?_ (p2.trans fB)
   refine .tup (Bels.of λd hd=>?_)
   rcases AAT.mp hd with hd | hd
   ·exact bV 6 d (hl d hd).pl
   ·rw[show d=_ from by simpa using hd]
    exact .tup (.cons (.int _) (.cons (.tup (.cons (.str _) (.cons (.int _) .nil))) (.cons (.int _) (.cons (bV 5 _ (.tup (.cons (.str _) hdl))) .nil))))
def Fo(T:Tops P w K mg base):Cal P w K mg base 1 "_law_more" zo mH :=
 Cal.byD (N:=["_law_log_here","_law_hand","_law_act_here","_law_time","_law_number"]) T.b T.f_more (by walk_at "sc") Ct (by walk_at "dv") Ez
def pS:DSp:=λds M R=>∃(ps:List (Str×Int)) (rs:List (Str×List Str)) (log:List D),ds=[.tup log]/\(∀d∈log,aE ps rs d)/\log.length<=1000/\∀n B,M <+: B->B[n]?=some (.dkt (gD log))->R (.ref n) B
def Cq:cE pS zj:=by rintro ds M R ⟨ps,rs,log,rfl,_⟩;rfl
def uS:DTS:=bw (ab 1)
def uT:DTS:=ax (mV (bP (ab 0)) (mT 4 (bX (am 2) (bX (am 3) (bX (am 4) (bX (am 5) mU))))) (dIf (aB (dOp qEq (dOp qIx (ab 5) (dC (.int 0))) (dC (.str "say")))) (uv (ab 1) (fy (aa (ab 2) (aa (ab 3) af))) (ab 5)) bq)) (uS)
def Dp:DTS:=ax (aX (uw) 1) (uT)
def Ew:WpT pS 6 Dp:=by
 rintro ds M R ⟨ps,rs,log,rfl,hd,hl,h⟩;simp only[Dp,uT];walk_at "dl";intro _;refine bA (λi S M'=>∃a b c d,M'=M++[.dkt (gD (log.take i))]/\S=[some (.tup log),some (.ref M.length),a,b,c,d]) ?_ ?_ ⟨_,_,_,_,rfl,rfl⟩
 ·rintro S M' ⟨a,b,c,d,rfl,rfl⟩
  rw[ABa];refine⟨trivial,?_⟩;simp only[uS];walk_at "dl";exact .inl (h _ _ fB ae)
 ·rintro i y S M' hy ⟨a,b,c,d,rfl,rfl⟩ G hG
  have hm:=AAi hy;have hi:=(AA7.mp hy).1;have et:log.take (i+1)=log.take i++[y]:=by rw[ABv,hy];rfl
  rw[et,xh]at hG;have sl:=vO (kinds (log.take i) (AA0 "say"));have kl:=bi (log:=log.take i) (k:=AA0 "say");rw[AAv]at kl;rw[show ku (kinds (log.take i) (AA0 "say"))=gD (log.take i)from rfl]at sl;generalize gD (log.take i)=kvs at hG sl;obtain⟨t,z,k,num,x,ds,rfl,_⟩:=hd y hm;refine⟨trivial,?_⟩;walk_at "dl";refine⟨trivial,⟨aq,aq⟩,?_⟩;rw[aM];have e1:ba (.tup [.int t,.tup [.str z,.int k],.int num,.tup (.str x::ds)])=x:=rfl;rw[e1]at hG;by_cases e:x=AA0 "say"
  ·rw[beq_iff_eq.mpr e]
   rw[if_pos e]at hG;refine bT ⟨ak (by lia),_,ae,rfl,aI (by lia),?_⟩
   rw[ia];exact Fgt.now (hG _ _ ⟨_,_,_,_,rfl,rfl⟩)
  ·rw[beq_eq_false_iff_ne.mpr e]
   rw[if_neg e]at hG;exact bJ (Fgt.now (hG _ _ ⟨_,_,_,_,rfl,rfl⟩))
def Fm(T:Tops P w K mg base):Cal P w K mg base 1 "_law_said" zj pS :=
 Cal.byD (N:=["_law_log_here","_law_found","_law_time","_law_hand","_law_number","_law_act_here"]) T.b T.f_said (by walk_at "sc") Cq (by walk_at "dv") Ew
def kT:DSp:=λds M R=>∃(ps:List (Str×Int)) (rs:List (Str×List Str)) (log:List D) (e:D) (q:Nat),ds=[.ref q,stD e]/\LogS ps rs log/\aW (ag rs log) (stD e)=some e/\M[q]?=some (.dkt (gD log))/\∀ys:List D,(∀x∈ys,St x)->(∀s,s∈ys↔stD e∈aG (λx=>decide (x=s)) (ag rs log))->R (.ref M.length) (M++[.lst ys])
def zN:cE kT tM:=by rintro ds M R ⟨ps,rs,log,e,q,rfl,_⟩;rfl
def xJ{α:Type}{p:α->Bool}{x:α}:[x].filter p=if p x=true then[x]else[]:=by rw[ABb];rfl
def xO(hu:∀d∈l,bn d=.non\/St (bn d))(hS:∀d∈l,St (stD d))(h:Ris l):ay rs l=(l.filter λd=>@decide (Stn rs l d) (AAY _)).map λd=>(stD d,d):=by
 revert h hu hS;refine be (P:=λl=>(∀d∈l,bn d=.non\/St (bn d))->(∀d∈l,St (stD d))->Ris l->ay rs l=(l.filter λd=>@decide (Stn rs l d) (AAY _)).map λd=>(stD d,d)) (λ_ _ _=>rfl) (λl x ih hu hS h=>?_) l
 obtain⟨h1,_,h3⟩:=ADD.mp h;have lx:∀y∈l,enc eqN (stD y)<enc eqN (stD x):=λy hy=>h3 y hy x (by simp)
 have ih':=ih (λd hd=>hu d (AAc _ hd)) (λd hd=>hS d (AAc _ hd)) h1
 have ci:=AL (rs:=rs) hu hS h x (by simp)
 have nx:stD x∉(ay rs l).map (·.1):=λz=>by
  obtain⟨p,hp,e⟩:=AAH.mp z;obtain⟨e1,e2⟩:=(eA (rs:=rs) l).en p hp;have:=lx p.2 e2;rw[<-e1,e]at this;exact ABD _ this
 have ef:(l.filter λd=>@decide (Stn rs (l++[x]) d) (AAY _))=l.filter λd=>@decide (Stn rs l d) (AAY _):=ADv λd hd=>(@decide_eq_decide _ _ (AAY _) (AAY _)).mpr ⟨λz=>z.less lx hd,Stn.more⟩
 rw[ACR,AB1,ef,<-ih',xJ];rw[df]at ci ⊢;unfold tx at ci ⊢;split at ci
 ·rename_i e
  rw[gf]at ci;rw[if_pos e,oM nx,@decide_eq_true _ (AAY _) (ci.mp rfl)];rfl
 ·rename_i e
  have gn:aW (ay rs l) (stD x)=none:=by
   cases e':aW (ay rs l) (stD x) with
   | none=>rfl
   | some v=>exact absurd (AB2 (f:=(·.1)) (bG e')) nx
  rw[gn]at ci;rw[if_neg e,@decide_eq_false _ (AAY _) λz=>by cases ci.mpr z]
  exact(AB7 _).symm
section
variable{ps:List (Str×Int)}{rs:List (Str×List Str)}{log:List D}
def LogS.es(hl:LogS ps rs log):ag rs log=((kinds log (AA0 "say")).filter λd=>@decide (Stn rs (kinds log (AA0 "say")) d) (AAY _)).map λd=>(stD d,d):=by
 have hk:∀d∈kinds log (AA0 "say"),aE ps rs d/\ba d=AA0 "say":=λd q=>⟨hl.dk d (aH q).1,(aH q).2⟩
 refine xO (λd q=>?_) (λd q=>(hk d q).1.st) (ADE _ hl.up)
 obtain⟨t,z,k,num,r,u,s,rfl,_,_,_,hu⟩:=jc (hk d q).1 (hk d q).2;exact hu
def LogS.mem(hl:LogS ps rs log):e∈(ag rs log).map (·.2)↔Stn rs (kinds log (AA0 "say")) e:=by
 rw[hl.es,ABI];constructor
 ·intro h
  obtain⟨d,hd,rfl⟩:=AAH.mp h;exact @of_decide_eq_true _ (AAY _) (AAa.mp hd).2
 ·intro h
  exact AAH.mpr ⟨e,AAa.mpr ⟨h.mem,@decide_eq_true _ (AAY _) h⟩,rfl⟩
def LogS.get(hl:LogS ps rs log):aW (ag rs log) k=some e↔k=stD e/\Stn rs (kinds log (AA0 "say")) e:=by
 constructor
 ·intro h
  exact⟨(wA aR h).1,hl.mem.mp (AB2 (f:=(·.2)) (bG h))⟩
 ·rintro⟨rfl,h⟩
  obtain⟨q,hq,e1⟩:=AAH.mp (hl.mem.mpr h);obtain⟨h1,_⟩:=aR.en q hq;have:=eN aR.nd hq;rw[h1,e1]at this;exact this
end
noncomputable def Jg(l:List D)(k:D):Nat:=(l.filter λx=>decide (enc eqN (stD x)<enc eqN k)).length
def Jf(hx:x∈l)(h:enc eqN (stD x)<enc eqN k):Jg l (stD x)<Jg l k :=
 Az (p:=λy=>decide (enc eqN (stD y)<enc eqN (stD x))) (q:=λy=>decide (enc eqN (stD y)<enc eqN k)) (x:=x) (λy hy=>dT_ (List.lt_trans (oT_ hy) h)) (dT_ h) (dF_ (ABD _)) hx
theorem Aq(hr:Ris l)(hS:∀d∈l,St (stD d)):(∀p∈ay rs l,bn p.2=.non\/bn p.2∈(ay rs l).map (·.1))/\∀p∈ay rs l,(p.1∈aG H (ay rs l)↔H p.1=true\/bn p.2∈aG H (ay rs l)):=by
 revert hr hS;refine be (P:=λl=>Ris l->(∀d∈l,St (stD d))->(∀p∈ay rs l,bn p.2=.non\/bn p.2∈(ay rs l).map (·.1))/\∀p∈ay rs l,(p.1∈aG H (ay rs l)↔H p.1=true\/bn p.2∈aG H (ay rs l))) (λ_ _=>⟨(λ_ z=>nomatch z),(λ_ z=>nomatch z)⟩) (λl x ih hr hS=>?_) l
 obtain⟨h1,_,h3⟩:=ADD.mp hr;obtain⟨i1,i2⟩:=ih h1 λd hd=>hS d (AAc _ hd)
 have tb:=eA (rs:=rs) l;have nx:stD x∉(ay rs l).map (·.1):=λz=>by
  obtain⟨p,hp,e⟩:=AAH.mp z;obtain⟨e1,e2⟩:=tb.en p hp;have:=h3 p.2 e2 x (by simp)
  rw[<-e1,e]at this;exact ABD _ this
 have xs:stD x≠.non:=λz=>by
  obtain⟨t,n,k,e⟩:=hS x (by simp)
  rw[e]at z;cases z
 rw[df];unfold tx;by_cases hs:gW rs (ay rs l) x=true
 ·have hux:bn x=.non\/bn x∈(ay rs l).map (·.1):=by
   unfold gW at hs;rw[AAW,ABG]at hs;rcases hs.2 with q | q
   ·exact .inl (oT_ q)
   ·cases hg:aW (ay rs l) (bn x) with
    | none=>rw[hg]at q;cases q
    | some e=>exact .inr (AB2 (f:=(·.1)) (bG hg))
  rw[if_pos hs,oM nx];generalize ay rs l=K at i1 i2 nx hux;have nu:∀u,(u=.non\/u∈K.map (·.1))->u≠stD x:=λu hu e=>by
   rcases hu with hu | hu
   ·exact xs (e.symm.trans hu)
   ·exact nx (e ▸ hu)
  have mm:∀u,u≠stD x->(u∈aG H (K++[(stD x,x)])↔u∈aG H K):=λu hu=>by
   rw[bx];split
   ·rw[AAT,AAt]
    exact⟨λz=>z.resolve_right hu,.inl⟩
   ·exact Iff.rfl
  refine⟨λp hp=>?_,λp hp=>?_⟩
  ·rw[AB1,AAT]
   rcases AAT.mp hp with hp | hp
   ·exact(i1 p hp).imp id .inl
   ·rw[AAt.mp hp]
    exact hux.imp id .inl
  ·rcases AAT.mp hp with hp | hp
   ·rw[mm p.1 λe=>nx (e ▸ AB2 (f:=(·.1)) hp),mm _ (nu _ (i1 p hp))]
    exact i2 p hp
   ·rw[AAt.mp hp]
    show stD x∈_↔H (stD x)=true\/bn x∈_;rw[mm _ (nu _ hux),bx];have n2:stD x∉aG H K:=λz=>nx (jt _ z)
    by_cases c:(H (stD x)||decide (bn x∈aG H K))=true
    ·rw[if_pos c]
     rw[ABG,decide_eq_true_iff]at c;exact⟨λ_=>c,λ_=>by simp⟩
    ·rw[if_neg c]
     rw[ABG,decide_eq_true_iff]at c;exact⟨λz=>absurd z n2,λz=>absurd z c⟩
 ·rw[if_neg hs]
  exact⟨i1,i2⟩
def LogS.hush(hl:LogS ps rs log)(hg:aW (ag rs log) (stD e)=some e):stD e∈aG H (ag rs log)↔H (stD e)=true\/bn e∈aG H (ag rs log) :=
 (Aq (H:=H) (ADE _ hl.up) λd hd=>(hl.dk d (aH hd).1).st).2 (stD e,e) (bG hg)
def vP(hl:LogS ps rs log)(hg:aW (ag rs log) (stD e)=some e):∃(t:Int) (z:Str) (k:Int) (s:D),stD e=.tup [.int t,.tup [.str z,.int k]]/\bD e=z/\aW (gD log) (stD e)=some (.tup [.str (AA0 "say"),.str (aV e),bn e,s])/\(bn e=.non\/St (bn e)):=by
 obtain⟨_,hs⟩:=hl.get.mp hg;obtain⟨m1,m2⟩:=aH hs.mem;have h0:=BG (ADE _ hl.up) e hs.mem;obtain⟨t,z,k,num,r,u,s,rfl,_,_,_,hu⟩:=jc (hl.dk e m1) m2;exact⟨t,z,k,.str s,rfl,rfl,h0,hu⟩
def qI:DTS:=bw (ab 2)
def qJ:DTS:=ax (wG (aB (dOp nT (dOp qIx (kC (ab 0) (dOp qIx (ab 2) (dUn GD (dC (.int 1))))) (dC (.int 2))) (dC .non))) (jW (dMl cf (ab 2) (aa (dOp qIx (kC (ab 0) (dOp qIx (ab 2) (dUn GD (dC (.int 1))))) (dC (.int 2))) af)))) (qI)
def yM:DTS:=ax (aX (kD (aa (ab 1) af)) 2) (qJ)
theorem Bm:WpT kT 3 yM:=by
 rintro ds M R ⟨ps,rs,log,e,q,rfl,hl,hg,hq,h⟩;have l60:=hl.len;have kl:=bi (log:=log) (k:=AA0 "say");simp only[yM];walk_at "dl";refine⟨ak (by lia),?_⟩
 simp only[qJ];walk_at "dl";refine⟨λm S M'=>∃(ys:List D) (e':D),M'=M++[.lst (ys++[stD e'])]/\aW (ag rs log) (stD e')=some e'/\(∀x∈ys,St x)/\ys.length+Jg (kinds log (AA0 "say")) (stD e')<=60/\Jg (kinds log (AA0 "say")) (stD e')<m/\(∀s,stD e∈aG (λx=>decide (x=s)) (ag rs log)↔s∈ys\/stD e'∈aG (λx=>decide (x=s)) (ag rs log))/\S=[some (.ref q),some (stD e),some (.ref M.length)],⟨_,[],e,rfl,hg,(λ_ z=>nomatch z),?_,AB6 _,λs=>⟨.inr,λz=>z.resolve_left (λy=>nomatch y)⟩,rfl⟩,?_⟩
 ·have:Jg (kinds log (AA0 "say")) (stD e)<=(kinds log (AA0 "say")).length:=AAn _ _
  rw[AAU];lia
 rintro m S M' ⟨ys,e',rfl,hg',hys,yl,em,hi,rfl⟩;obtain⟨t,z,k,s,es,_,ha,hu⟩:=vP hl hg';have hst:St (stD e'):=⟨t,z,k,es⟩;have g2:(M++[MO.lst (ys++[stD e'])])[M.length]?=some (.lst (ys++[stD e'])):=ae;have el:atI (ys++[stD e']) (-1)=some (stD e'):=Dj _ _;have hq':=ac (a:=MO.lst (ys++[stD e'])) hq;have go:∀s,stD e'∈aG (λx=>decide (x=s)) (ag rs log)↔stD e'=s\/bn e'∈aG (λx=>decide (x=s)) (ag rs log):=λs=>by
  rw[hl.hush hg',decide_eq_true_iff]
 rw[es]at ha el g2;have e2:atI [.str (AA0 "say"),.str (aV e'),bn e',s] 2=some (bn e'):=at2;rw[es];walk_at "dl";refine⟨_,.inl g2,?_⟩;rw[el];dsimp only;refine⟨_,_,ac hq,rfl,ha,?_⟩;dsimp only;rw[e2];have fin:∀ys':List D,ys'=ys++[.tup [.int t,.tup [.str z,.int k]]]->bn e'=.non->bj M R (.ref M.length) (M++[.lst ys']):=λys' e1 hn=>by
  refine .inl (h ys' (λx hx=>?_) λs=>?_)
  ·rw[e1]at hx
   rcases AAT.mp hx with hx | hx
   ·exact hys x hx
   ·rw[AAt.mp hx];exact⟨_,_,_,rfl⟩
  ·rw[hi s,go s,e1,AAT,AAt,hn]
   have nn:D.non∉aG (λx=>decide (x=s)) (ag rs log):=λz=>by
    obtain⟨p,hp,e0⟩:=AAH.mp (jt _ z);obtain⟨q1,q2⟩:=aR.en p hp;obtain⟨t,n,k,e3⟩:=(hl.dk p.2 (aH q2).1).st;rw[<-q1,e0]at e3;cases e3
   rw[es];exact⟨λz=>z.imp id λz=>.inl z.symm,λz=>z.imp id λz=>z.elim (λz=>z.symm) λz=>absurd z nn⟩
 obtain⟨_,hst'⟩:=hl.get.mp hg';cases hst' with
 | top m1 m2 u =>
  rw[u];walk_at "dl";simp only[qI];walk_at "dl";exact fin _ rfl u
 | @sub _ e2' m1 m2 s2 u o r =>
  have hg2:aW (ag rs log) (stD e2')=some e2':=hl.get.mpr ⟨rfl,s2⟩;have lt:=Jf (l:=kinds log (AA0 "say")) s2.mem o;have hu2:St (bn e'):=hu.resolve_left λz=>by
   obtain⟨t,n,k,e3⟩:=(hl.dk e2' (aH s2.mem).1).st;rw[z,e3]at u;cases u
  obtain⟨t',z',k',e5⟩:=hu2;have go':∀s,stD e∈aG (λx=>decide (x=s)) (ag rs log)↔s∈ys++[.tup [.int t,.tup [.str z,.int k]]]\/stD e2'∈aG (λx=>decide (x=s)) (ag rs log):=λs=>by
   rw[hi s,go s,u,AAT,AAt,es];constructor
   ·rintro(z | z | z)
    ·exact .inl (.inl z)
    ·exact .inl (.inr z.symm)
    ·exact .inr z
   ·rintro((z | z) | z)
    ·exact .inl z
    ·exact .inr (.inl z.symm)
    ·exact .inr (.inr z)
  rw[e5];walk_at "dl";refine⟨⟨_,.inl g2⟩,_,.inl g2,?_⟩;rw[el];dsimp only;refine⟨_,_,ac hq,rfl,ha,?_⟩;dsimp only;rw[e2,e5];dsimp only;refine⟨_,g2,aI (by rw[AAB,AAV];lia),?_⟩
  rw[ia];rw[es]at yl em lt;refine⟨_,em,ys++[.tup [.int t,.tup [.str z,.int k]]],e2',by rw[<-u,e5],hg2,λx hx=>?_,by rw[AAB,AAV];lia,lt,go',trivial⟩
  rcases AAT.mp hx with hx | hx
  ·exact hys x hx
  ·rw[AAt.mp hx];exact⟨_,_,_,rfl⟩
def Ca(T:Tops P w K mg base):Cal P w K mg base 1 "_law_above" tM kT :=
 Cal.byD (N:=["_law_said_here","_law_stamp","_law_chain"]) T.b T.f_above (by walk_at "sc") zN (by walk_at "dv") Bm
noncomputable def dpB(what e:D):Bool:=decide (what=.tup [.str (AA0 "person"),.str (bD e)])
noncomputable def dqB(rs:List (Str×List Str))(log:List D)(what e:D):Bool:=decide (what=.tup [.str (AA0 "room"),.str (aV e)])||decide (stD e∈aG (λs=>decide (what=.tup [.str (AA0 "under"),s])) (ag rs log))
noncomputable def qN(rs:List (Str×List Str))(log:List D)(what e:D)(w:Str):Bool:=!dpB what e&&(!decide (w=AA0 "heard") || !dqB rs log what e)
def gi:DSp:=λds M R=>∃(ps:List (Str×Int)) (rs:List (Str×List Str)) (log:List D) (e what:D) (w:Str) (q:Nat),ds=[.ref q,.tup [stD e,.str w],what]/\LogS ps rs log/\aW (ag rs log) (stD e)=some e/\M[q]?=some (.dkt (gD log))/\fg what/\R (.bl (qN rs log what e w)) M
def zJ:cE gi tI:=by rintro ds M R ⟨ps,rs,log,e,what,w,q,rfl,_⟩;rfl
def nZ(h:∀s,H s=false):aG H kvs=[]:=by
 refine be (P:=λkvs=>aG H kvs=[]) rfl (λkvs p ih=>?_) kvs
 rw[bx,ih,h];rfl
def bne_t(b:Bool):(b != true) = !b:=by cases b<;>rfl
def Bo:AA0 "room"≠AA0 "person"/\AA0 "under"≠AA0 "person"/\AA0 "under"≠AA0 "room":=by decide +kernel
def tD{rs:List (Str×List Str)}{log:List D}{e:D}{w x:Str}:qN rs log (.tup [.str (AA0 "person"),.str x]) e w = !decide (bD e=x):=by
 have d1:dqB rs log (.tup [.str (AA0 "person"),.str x]) e=false:=by
  unfold dqB;rw[nZ λs=>dF_ λz=>by injection z with z;injection z with z;injection z with z;exact Bo.2.1 z.symm,dF_ λz=>by injection z with z;injection z with z;injection z with z;exact Bo.1 z.symm]
  rfl
 unfold qN;rw[d1,AE0,AE7,Bool.and_true];congr 1;unfold dpB;rw[decide_eq_decide];constructor
 ·intro z
  injection z with z;injection z with _ z;injection z with z;injection z with z
  exact z.symm
 ·rintro rfl;rfl
def xb{rs:List (Str×List Str)}{log:List D}{e y:D}{w x:Str}(hx:x≠AA0 "person"):qN rs log (.tup [.str x,y]) e w=(!decide (w=AA0 "heard") || !dqB rs log (.tup [.str x,y]) e):=by
 unfold qN dpB;rw[dF_ λz=>by injection z with z;injection z with z;injection z with z;exact hx z]
 rfl
def Gb:dqB rs log (.tup [.str (AA0 "room"),.str x]) e=decide (aV e=x):=by
 unfold dqB;rw[nZ λs=>dF_ λz=>by injection z with z;injection z with z;injection z with z;exact Bo.2.2 z.symm]
 rw[dF_ (show ¬stD e∈([]:List D)from λz=>nomatch z),ADY,decide_eq_decide]
 constructor
 ·intro z
  injection z with z;injection z with _ z;injection z with z;injection z with z
  exact z.symm
 ·rintro rfl;rfl
def CU:dqB rs log (.tup [.str (AA0 "under"),s]) e=decide (stD e∈aG (λx=>decide (x=s)) (ag rs log)):=by
 unfold dqB;rw[dF_ (λz=>by injection z with z;injection z with z;injection z with z;exact Bo.2.2 z),AEE]
 have:(λs'=>decide (D.tup [.str (AA0 "under"),s]=.tup [.str (AA0 "under"),s']))=λx=>decide (x=s):=by
  funext s';rw[decide_eq_decide];constructor
  ·intro z
   injection z with z;injection z with _ z;injection z with z
   exact z.symm
  ·rintro rfl;rfl
 rw[this]
def qj:DTS:=bw (dOp jh (dOp qIx (ab 2) (dC (.int 1))) (dCB kT (aa (ab 0) (aa (ab 3) af))))
def qk:DTS:=ax (dIf (aB (dOp qEq (dOp qIx (ab 2) (dC (.int 0))) (dC (.str "room")))) (bw (dOp qNe (dOp qIx (kC (ab 0) (ab 3)) (dC (.int 1))) (dOp qIx (ab 2) (dC (.int 1))))) bq) (qj)
def kY:DTS:=ax (dIf (aB (dOp qNe (ab 4) (dC (.str "heard")))) (bw (dC (.bl true))) bq) (qk)
def qm:DTS:=ax (dIf (aB (dOp qEq (dOp qIx (ab 2) (dC (.int 0))) (dC (.str "person")))) (bw (dOp qNe (dOp qIx (dOp qIx (ab 3) (dC (.int 1))) (dC (.int 0))) (dOp qIx (ab 2) (dC (.int 1))))) bq) (kY)
def yj:DTS:=ax (JE (ab 1) (mT 2 (bX (am 3) (bX (am 4) mU)))) (qm)
theorem Bi:WpT gi 5 yj:=by
 rintro ds M R ⟨ps,rs,log,e,what,w,q,rfl,hl,hg,hq,hw,h⟩;obtain⟨t,z,k,s,es,en,ha,hu⟩:=vP hl hg;have heard:∀{E:DEnds}{x:Str}{y:D},E.rt=bj M R->fg (.tup [.str x,y])->x≠AA0 "person"->R (.bl (qN rs log (.tup [.str x,y]) e w)) M->kY E [some (.ref q),some (.tup [.tup [.int t,.tup [.str z,.int k]],.str w]),some (.tup [.str x,y]),some (.tup [.int t,.tup [.str z,.int k]]),some (.str w)] M:=λ{E x y} eE hw hx h=>by
  rw[xb hx]at h;simp only[kY];walk_at "dl";refine⟨⟨aq,aq⟩,?_⟩;rw[aM];by_cases c1:w=AA0 "heard"
  ·rw[beq_iff_eq.mpr c1]
   rw[dT_ c1,ABi,AEE]at h;refine bJ ?_
   simp only[qk];walk_at "dl";refine⟨⟨aq,aq⟩,?_⟩;rw[aM];rcases hw with⟨r,hr⟩|⟨r,hr⟩|⟨t',z',k',hr⟩
   ·injection hr with hr;injection hr with h1 hr;injection h1 with h1;injection hr with h2
    subst h1 h2;rw[Gb]at h;rw[es]at ha;rw[beq_iff_eq.mpr rfl];refine bT ⟨_,_,hq,rfl,ha,?_⟩;walk_at "dl";refine⟨⟨aq,aq⟩,?_⟩;rw[aM,eE];rw[show (aV e==r)=decide (aV e=r)from by rw[ACE];simp]
    exact bj.now h
   ·injection hr with hr;injection hr with h1 hr;injection h1 with h1
    exact absurd h1 hx
   ·injection hr with hr;injection hr with h1 hr;injection h1 with h1;injection hr with h2
    subst h1 h2;rw[beq_eq_false_iff_ne.mpr Bo.2.2];refine bJ ?_
    rw[CU]at h;simp only[qj];walk_at "dl";refine⟨ps,rs,log,e,q,by rw[es],hl,hg,hq,λys hys hi=>?_⟩
    refine⟨_,ao,⟨St.ok ⟨_,_,_,rfl⟩,lD hys⟩,?_⟩;rw[rT ⟨_,_,_,rfl⟩ hys,eE,decide_eq_decide.mpr (hi _)];rw[bne_t];exact bj.bl h fB
  ·rw[beq_eq_false_iff_ne.mpr c1]
   rw[dF_ c1,AE0,Bool.true_or]at h;rw[eE];exact bT (bj.now h)
 simp only[yj];rw[es];walk_at "dl";refine⟨trivial,?_⟩;simp only[qm];rcases id hw with⟨x,rfl⟩|⟨x,rfl⟩|⟨t',z',k',rfl⟩
 ·walk_at "dl"
  refine⟨⟨aq,aq⟩,?_⟩;rw[aM,beq_eq_false_iff_ne.mpr Bo.1];exact bJ (heard rfl hw Bo.1 h)
 ·walk_at "dl"
  refine⟨⟨aq,aq⟩,?_⟩;rw[aM,beq_iff_eq.mpr rfl];refine bT ⟨⟨aq,aq⟩,?_⟩;rw[aM];rw[tD,en]at h;rw[show (z==x)=decide (z=x)from by rw[ACE];simp]
  exact bj.now h
 ·walk_at "dl"
  refine⟨⟨aq,aq⟩,?_⟩;rw[aM,beq_eq_false_iff_ne.mpr Bo.2.1];exact bJ (heard rfl hw Bo.2.1 h)
def BX(T:Tops P w K mg base):Cal P w K mg base 2 "_law_stays" tI gi :=
 Cal.byD (N:=["_law_said_here","_law_bell","_law_what_here","_law_stamp","_law_why"]) T.b T.f_stays (by walk_at "sc") zJ (by have:=Ca T;walk_at "dv") Bi
def FA:cE (xD (AA0 "_law_log")) Fi:=by rintro ds M R ⟨ns,mo,_,_,rfl,_⟩;rfl
section
variable{rs:List (Str×List Str)}{log:List D}{d e what:D}{name:Str}
def gc(hk:ba d=AA0 "hush")(h:k≠AA0 "hush"):kinds (log++[d]) k=kinds log k:=by
 rw[jQ,if_neg λz=>h (z.symm.trans hk),AB7]
def dZ(hk:ba d=AA0 "hush")(h:k≠AA0 "hush"):db (log++[d]) k name=db log k name:=by
 unfold db;rw[gc hk h]
def CM:AA0 "say"≠AA0 "hush"/\AA0 "back"≠AA0 "hush"/\AA0 "change"≠AA0 "hush"/\AA0 "seen"≠AA0 "hush"/\AA0 "rung"≠AA0 "hush"/\AA0 "read"≠AA0 "hush":=by decide +kernel
def aQ(hk:ba d=AA0 "hush"):ag rs (log++[d])=ag rs log:=by unfold ag;rw[gc hk CM.1]
def nS(hk:ba d=AA0 "hush"):bd rs (log++[d])=bd rs log:=by
 unfold bd;rw[aQ hk];refine ADv λp _=>?_
 unfold hX;rw[gc hk CM.2.1]
def kI(hk:ba d=AA0 "hush"):BF rs (log++[d]) e=BF rs log e:=by
 unfold BF;rw[nS hk];unfold br;rw[gc hk CM.2.2.1]
def eG(hk:ba d=AA0 "hush"):bL rs (log++[d]) name=bL rs log name:=by
 unfold bL;rw[nS hk];refine ADv λe _=>?_
 unfold tG cA oA;rw[dZ hk CM.2.2.2.1,dZ hk CM.2.2.2.2.2]
def kN(hk:ba d=AA0 "hush"){w:D}:bz (log++[d]) name w=if bD d=name/\w=dO d then decide (bn d=.bl true)else bz log name w:=by
 unfold bz Ao;rw[xu];by_cases hn:bD d=name
 ·rw[if_pos ⟨hk,hn⟩,AB1,List.map_singleton,bN]
  by_cases e:w=dO d
  ·rw[if_pos ⟨hn,e⟩,e,gf];simp
  ·rw[if_neg λz=>e z.2,ju e]
 ·rw[if_neg λz=>hn z.2,if_neg λz=>hn z.1,AB7]
def gJ(c pr nm an q:Bool)(s:D):Option D:=if (c && !pr)=true then(if nm=true then some (.tup [s,.str (AA0 "named")])else if an=true then some (.tup [s,.str (AA0 "answered")])else if q=true then none else some (.tup [s,.str (AA0 "heard")]))else none
noncomputable def cB(rs:List (Str×List Str))(log:List D)(name:Str)(e:D):Bool:=decide (aV e∈fx rs name) && !decide (stD e∈cA log (AA0 "rung") name)
noncomputable def qB(rs:List (Str×List Str))(log:List D)(name:Str)(e:D):Bool:=bz log name (.tup [.str (AA0 "room"),.str (aV e)])||decide (stD e∈aG (λs=>bz log name (.tup [.str (AA0 "under"),s])) (ag rs log))
def fP:kE rs log name e=gJ (cB rs log name e) (bz log name (.tup [.str (AA0 "person"),.str (bD e)])) (fM (BF rs log e) name) (decide (bn e∈pV (ag rs log) name)) (qB rs log name e) (stD e):=by
 unfold kE yW Bn gJ cB;have eq:(bz log name (.tup [.str (AA0 "room"),.str (aV e)])||decide (stD e∈aG (λs=>bz log name (.tup [.str (AA0 "under"),s])) (ag rs log)))=qB rs log name e:=rfl
 rw[eq,<-Bool.and_assoc];generalize ((decide (aV e∈fx rs name) && !decide (stD e∈cA log (AA0 "rung") name)) && !bz log name (.tup [.str (AA0 "person"),.str (bD e)]))=a;generalize fM (BF rs log e) name=b;generalize qB rs log name e=q;by_cases h:bn e∈pV (ag rs log) name
 ·rw[if_pos h,dT_ h]
  cases a<;>cases b<;>rfl
 ·rw[if_neg h,dF_ h]
  cases a<;>cases b<;>cases q<;>rfl
def wOf:D->Str
 | .tup [_,.str w]=>w
 | _=>AA0 ""
def n_ne:AA0 "named"≠AA0 "heard"/\AA0 "answered"≠AA0 "heard":=by decide +kernel
def Be:((gJ c pr nm an q s).filter λb=>!false&&(!decide (wOf b=AA0 "heard") || !true))=gJ c pr nm an true s:=by
 have h1:decide (wOf (.tup [s,.str (AA0 "named")])=AA0 "heard")=false:=dF_ n_ne.1;have h2:decide (wOf (.tup [s,.str (AA0 "answered")])=AA0 "heard")=false:=dF_ n_ne.2;have h3:decide (wOf (.tup [s,.str (AA0 "heard")])=AA0 "heard")=true:=dT_ rfl;unfold gJ;generalize (c && !pr)=a;cases a with
 | false=>rfl
 | true =>
  cases nm with
  | true=>rw[if_pos rfl,if_pos rfl,ACs,h1];rfl
  | false =>
   cases an with
   | true=>rw[if_pos rfl,if_neg (by decide),if_pos rfl,ACs,h2];rfl
   | false =>
    cases q with
    | true=>rfl
    | false=>rw[if_pos rfl,if_neg (by decide),if_neg (by decide),if_neg (by decide),ACs,h3];rfl
def AA{o:Option D}{p:D->Bool}(h:∀b,p b=false):o.filter p=none:=by
 cases o with
 | none=>rfl
 | some b=>rw[ACs,h b];rfl
def f_all{o:Option D}{p:D->Bool}(h:∀b,p b=true):o.filter p=o:=by
 cases o with
 | none=>rfl
 | some b=>rw[ACs,h b];rfl
def G_on{c pr nm an q dp dq:Bool}{s:D}:gJ c (pr||dp) nm an (q||dq) s=(gJ c pr nm an q s).filter λb=>!dp&&(!decide (wOf b=AA0 "heard") || !dq):=by
 cases dp with
 | true =>
  refine Eq.trans ?_ (AA (λb=>rfl)).symm
  rw[AE7];unfold gJ;rw[ABi,ADy];rfl
 | false =>
  rw[ADY];cases dq with
  | true=>rw[Be,AE7]
  | false=>rw[ADY,f_all λb=>by rw[AE0,AE7];rfl]
def G_off{c pr pr' nm an q q' dp dq:Bool}{s:D}(p1:dp=false->pr'=pr)(q1:dq=false->q'=q):((gJ c pr' nm an q' s).filter λb=>!dp&&(!decide (wOf b=AA0 "heard") || !dq))=(gJ c pr nm an q s).filter λb=>!dp&&(!decide (wOf b=AA0 "heard") || !dq):=by
 cases dp with
 | true=>exact(AA (λb=>rfl)).trans (AA (λb=>rfl)).symm
 | false =>
  rw[p1 rfl];cases dq with
  | false=>rw[q1 rfl]
  | true=>rw[Be,Be]
def G_up(p1:pr'=true->pr=true)(q1:q'=true->q=true)(h:gJ c pr nm an q s=some b):gJ c pr' nm an q' s=some b:=by
 unfold gJ at h ⊢;cases pr with
 | true=>cases c<;>simp at h
 | false =>
  have:pr'=false:=AB4.mpr λz=>by cases p1 z
  rw[this];cases q with
  | false =>
   have:q'=false:=AB4.mpr λz=>by cases q1 z
   rw[this];exact h
  | true=>cases c<;>cases nm<;>cases an<;>simp at h ⊢<;>exact h
def mj(h:∀s,H s=true->H' s=true):∀x∈aG H kvs,x∈aG H' kvs:=by
 refine be (P:=λkvs=>∀x∈aG H kvs,x∈aG H' kvs) (λx hx=>nomatch hx) (λkvs p ih x hx=>?_) kvs
 rw[bx]at hx ⊢;by_cases c:(H p.1||decide (bn p.2∈aG H kvs))=true
 ·have c':(H' p.1||decide (bn p.2∈aG H' kvs))=true:=by
   rw[ABG,decide_eq_true_iff]at c ⊢;exact c.imp (h _) (ih _)
  rw[if_pos c]at hx;rw[if_pos c'];rcases AAT.mp hx with hx | hx
  ·exact AAc _ (ih x hx)
  ·exact AAI _ hx
 ·rw[if_neg c]at hx
  split
  ·exact AAc _ (ih x hx)
  ·exact ih x hx
def wu(h:∀s,H s=true->H1 s=true\/H2 s=true):∀x∈aG H kvs,x∈aG H1 kvs\/x∈aG H2 kvs:=by
 refine be (P:=λkvs=>∀x∈aG H kvs,x∈aG H1 kvs\/x∈aG H2 kvs) (λx hx=>nomatch hx) (λkvs p ih x hx=>?_) kvs
 have more:∀{H':D->Bool}{x:D},x∈aG H' kvs->x∈aG H' (kvs++[p]):=λ{H' x} hx=>by
  rw[bx];split
  ·exact AAc _ hx
  ·exact hx
 have new:∀{H':D->Bool},(H' p.1=true\/bn p.2∈aG H' kvs)->p.1∈aG H' (kvs++[p]):=λ{H'} c=>by
  rw[bx,if_pos (by rw[ABG,decide_eq_true_iff];exact c)]
  exact AAI _ (List.mem_singleton.mpr rfl)
 rw[bx]at hx;by_cases c:(H p.1||decide (bn p.2∈aG H kvs))=true
 ·rw[if_pos c]at hx
  rcases AAT.mp hx with hx | hx
  ·exact(ih x hx).imp more more
  ·rw[AAt.mp hx]
   rw[ABG,decide_eq_true_iff]at c;rcases c with c | c
   ·exact(h _ c).imp (λz=>new (.inl z)) λz=>new (.inl z)
   ·exact(ih _ c).imp (λz=>new (.inr z)) λz=>new (.inr z)
 ·rw[if_neg c]at hx
  exact(ih x hx).imp more more
def pJ{f g:D->Option D}{l:List D}(h:∀x∈l,f x=g x):l.filterMap f=l.filterMap g:=by
 induction l with
 | nil=>rfl
 | cons x l ih=>rw[AB5,AB5,h x (by simp),ih λy hy=>h y (AA9 _ hy)]
def mq{f:D->Option D}{p:D->Bool}{l:List D}:(l.filterMap f).filter p=l.filterMap λx=>(f x).filter p:=by
 induction l with
 | nil=>rfl
 | cons x l ih =>
  rw[AB5,AB5,<-ih];cases f x with
  | none=>rfl
  | some y =>
   show (y::_).filter p=_;rw[ABb];by_cases c:p y=true
   ·rw[if_pos c];simp[Option.filter,c]
   ·rw[if_neg c];simp[Option.filter,c]
noncomputable def cX(rs:List (Str×List Str))(log:List D)(what:D)(b:D):Bool:=qN rs log what ((aW (ag rs log) (match b with | .tup (s::_)=>s | _=>.non)).getD .non) (wOf b)
def oH(hg:aW (ag rs log) (stD e)=some e)(ho:∀b,o=some b->∃w,b=.tup [stD e,.str w]):o.filter (cX rs log what)=o.filter λb=>!dpB what e&&(!decide (wOf b=AA0 "heard") || !dqB rs log what e):=by
 cases o with
 | none=>rfl
 | some b =>
  obtain⟨w,rfl⟩:=ho b rfl;have:cX rs log what (.tup [stD e,.str w])=(!dpB what e&&(!decide (wOf (.tup [stD e,.str w])=AA0 "heard") || !dqB rs log what e)):=by
   unfold cX;dsimp only;rw[hg];rfl
  simp only[Option.filter,this]
def Dl:∀b,gJ c pr nm an q s=some b->∃w,b=.tup [s,.str w]:=λb h=>by
 unfold gJ at h;repeat' split at h
 all_goals first | exact⟨_,(AAM h).symm⟩ | cases h
def jD(h:e∈bL rs log name):aW (ag rs log) (stD e)=some e:=by
 obtain⟨p,hp,rfl⟩:=AAH.mp (AAa.mp h).1;have h1:=(lH.mp hp).1;have:=eN aR.nd h1;rw[(aR.en p h1).1]at this;exact this
def Dh(hk:ba d=AA0 "hush")(hn:bD d=name)(hu:bn d=.bl true):aA rs (log++[d]) name=(aA rs log name).filter (cX rs log (dO d)):=by
 unfold aA;rw[eG hk,mq];refine pJ λe he=>?_
 have hg:=jD he;have H':∀w,bz (log++[d]) name w=(bz log name w||decide (dO d=w)):=λw=>by
  rw[kN hk];by_cases e:w=dO d
  ·rw[if_pos ⟨hn,e⟩,hu,dT_ rfl,dT_ e.symm,AE7]
  ·rw[if_neg λz=>e z.2,dF_ (ABM e),ADY]
 rw[fP,fP,oH hg Dl,<-G_on,kI hk,aQ hk,H'];have e1:cB rs (log++[d]) name e=cB rs log name e:=by unfold cB cA;rw[dZ hk CM.2.2.2.2.1]
 have e2:qB rs (log++[d]) name e=(qB rs log name e||dqB rs log (dO d) e):=by
  unfold qB dqB;rw[H',aQ hk];have e3:decide (stD e∈aG (λs=>bz (log++[d]) name (.tup [.str (AA0 "under"),s])) (ag rs log))=(decide (stD e∈aG (λs=>bz log name (.tup [.str (AA0 "under"),s])) (ag rs log))||decide (stD e∈aG (λs=>decide (dO d=.tup [.str (AA0 "under"),s])) (ag rs log))):=by
   rw[ACE,ABG,decide_eq_true_iff,decide_eq_true_iff,decide_eq_true_iff];constructor
   ·exact wu (λs hs=>by rw[H',ABG]at hs;exact hs) _
   ·rintro(z | z)
    ·exact mj (λs hs=>by rw[H',hs];rfl) _ z
    ·exact mj (λs hs=>by rw[H',hs,AE7]) _ z
  rw[e3];cases bz log name (.tup [.str (AA0 "room"),.str (aV e)])<;>cases decide (dO d=.tup [.str (AA0 "room"),.str (aV e)])<;>cases decide (stD e∈aG (λs=>bz log name (.tup [.str (AA0 "under"),s])) (ag rs log))<;>rfl
 rw[e1,e2];rfl
def uA(hk:ba d=AA0 "hush")(hn:bD d≠name):aA rs (log++[d]) name=aA rs log name:=by
 unfold aA;rw[eG hk];refine pJ λe he=>?_
 have H':bz (log++[d]) name=bz log name:=funext λw=>by rw[kN hk,if_neg λz=>hn z.1]
 rw[fP,fP,kI hk,aQ hk];unfold cB qB cA;rw[H',dZ hk CM.2.2.2.2.1,aQ hk]
def AX{d2:D}(hk:ba d=AA0 "hush")(hn:bD d=name)(hu:bn d=.bl true)(hk2:ba d2=AA0 "hush")(hn2:bD d2=name)(hu2:bn d2=.bl false)(hm:dO d2=dO d):(∀b∈aA rs log name,b∈aA rs (log++[d]++[d2]) name)/\(aA rs (log++[d]++[d2]) name).filter (cX rs log (dO d))=(aA rs log name).filter (cX rs log (dO d)):=by
 have H2:∀w,bz (log++[d]++[d2]) name w=if w=dO d then false else bz log name w:=λw=>by
  rw[kN hk2];by_cases e:w=dO d
  ·rw[if_pos ⟨hn2,e.trans hm.symm⟩,hu2,if_pos e];exact dF_ (by simp)
  ·rw[if_neg λz=>e (z.2.trans hm),if_neg e,kN hk,if_neg λz=>e z.2]
 have le:∀w,bz (log++[d]++[d2]) name w=true->bz log name w=true:=λw h=>by
  rw[H2]at h;split at h
  ·cases h
  ·exact h
 have ne:∀w,decide (dO d=w)=false->bz (log++[d]++[d2]) name w=bz log name w:=λw h=>by
  rw[H2,if_neg (ABM (of_decide_eq_false h))]
 have eO:∀e,kE rs (log++[d]++[d2]) name e=gJ (cB rs log name e) (bz (log++[d]++[d2]) name (.tup [.str (AA0 "person"),.str (bD e)])) (fM (BF rs log e) name) (decide (bn e∈pV (ag rs log) name)) (qB rs (log++[d]++[d2]) name e) (stD e):=λe=>by
  rw[fP,kI hk2,kI hk,aQ hk2,aQ hk];have e1:cB rs (log++[d]++[d2]) name e=cB rs log name e:=by unfold cB cA;rw[dZ hk2 CM.2.2.2.2.1,dZ hk CM.2.2.2.2.1]
  rw[e1]
 have qle:∀e,qB rs (log++[d]++[d2]) name e=true->qB rs log name e=true:=λe h=>by
  unfold qB at h ⊢;rw[aQ hk2,aQ hk]at h;rw[ABG,decide_eq_true_iff]at h ⊢;exact h.imp (le _) (mj (λs=>le _) _)
 have qeq:∀e,dqB rs log (dO d) e=false->qB rs (log++[d]++[d2]) name e=qB rs log name e:=λe h=>by
  refine Bool.eq_iff_iff.mpr ⟨qle e,λz=>?_⟩
  unfold dqB at h;rw[Bool.or_eq_false_iff]at h;unfold qB at z ⊢;rw[aQ hk2,aQ hk];rw[ABG,decide_eq_true_iff]at z ⊢;rcases z with z | z
  ·exact .inl ((ne _ h.1).trans z)
  ·have hs':∀s,bz log name (.tup [.str (AA0 "under"),s])=true->bz (log++[d]++[d2]) name (.tup [.str (AA0 "under"),s])=true\/decide (dO d=.tup [.str (AA0 "under"),s])=true:=λs hs=>by
    cases c:decide (dO d=.tup [.str (AA0 "under"),s]) with
    | true=>exact .inr rfl
    | false=>exact .inl ((ne _ c).trans hs)
   exact .inr ((wu hs' _ z).resolve_right (of_decide_eq_false h.2))
 unfold aA;rw[eG hk2,eG hk];constructor
 ·intro b hb
  obtain⟨e,he,eb⟩:=ABe.mp hb;refine ABe.mpr ⟨e,he,?_⟩;rw[fP]at eb;rw[eO];exact G_up (le _) (qle e) eb
 ·rw[mq,mq]
  refine pJ λe he=>?_
  have hg:=jD he;rw[eO,fP,oH hg Dl,oH hg Dl];exact G_off (ne _) (qeq e)
def pR(hd:∀d∈log,aE ps rs d):∀b∈aA rs log name,∃(e:D) (w:Str),b=.tup [stD e,.str w]/\aW (ag rs log) (stD e)=some e/\St (stD e):=λb hb=>by
 obtain⟨e,he,eb⟩:=ABe.mp hb;rw[fP]at eb;obtain⟨w,rfl⟩:=Dl b eb;have hg:=jD he;obtain⟨_,q2⟩:=wA aR hg;exact⟨e,w,rfl,hg,(hd e (aH q2).1).st⟩
def sJ:(aA rs log name).length<=log.length:=by
 unfold aA;refine AAq (List.length_filterMap_le _ _) (AAq (AAn _ _) ?_);rw[AA4];exact AAq (AAn _ _) (AAq aR.len bi)
def lJ(hi:ar M i xs)(hj:ar M j xs)(h:∀x∈xs,okD M 29 x=true/\eqD M 29 x x=true):(okD M eqN (.ref i)=true/\okD M eqN (.ref j)=true)/\eqD M eqN (.ref i) (.ref j)=true :=
 ⟨⟨oY (n:=29) hi λx hx=>(h x hx).1,oY (n:=29) hj λx hx=>(h x hx).1⟩,(wB (n:=29) hi hj).trans (pK λx hx=>(h x hx).2)⟩
def uB(hd:∀d∈log,aE ps rs d):∀x∈aA rs log name,∀n,okD M (n+3) x=true/\eqD M (n+3) x x=true:=λx hx n=>by
 obtain⟨e,w,rfl,_,hs⟩:=pR hd x hx;exact qT 3 (n+3) _ (by lia) (.tup (.cons hs.pl (.cons (.str _) .nil)))
end
def vq:DTS:=bw (dOp qEq (ab 16) (ab 10))
def vt:DTS:=ax (ko 1 [3,7] (bP (ab 15)) (am 0) (aB (dCB gi (aa (ab 1) (aa (ab 0) (aa (ab 2) af))))) (ab 0) 16) (vq)
def vA:DTS:=ax (dIf (aB (dOp qNe (dLC 1 [15] (bP (ab 8)) (am 0) (aB (dOp jh (ab 0) (ab 1))) (ab 0)) (kD af))) (bw (dC (.bl false))) bq) (vt)
def vB:DTS:=ax (aX (dCB bo (aa (ab 1) (aa (ab 14) (aa (dOp qIx (ab 6) (dC (.int 0))) af)))) 15) (vA)
def vC:DTS:=ax (aX (dCB mH (aa (ab 9) (aa (ab 6) (aa (fy (aa (dC (.str "hush")) (aa (ab 7) (aa (dC (.bl false)) af)))) af)))) 14) (vB)
def vD:DTS:=dIf (Gp (aB (dOp qNe (ab 11) (dOp qIx (ab 6) (dC (.int 0))))) (aB (dOp qNe (dCB bo (aa (ab 1) (aa (ab 9) (aa (ab 11) af)))) (ab 13)))) (bw (dC (.bl false))) bq
def vE:DTS:=ax (mV (bP (dOp qIx (ab 1) (dC (.int 0)))) (mT 2 (bX (am 11) (bX (am 12) mU))) (ax (aX (dCB bo (aa (ab 1) (aa (ab 2) (aa (ab 11) af)))) 13) (vD))) (vC)
def vF:DTS:=ax (dIf (aB (dOp qNe (dCB bo (aa (ab 1) (aa (ab 9) (aa (dOp qIx (ab 6) (dC (.int 0))) af)))) (ab 10))) (bw (dC (.bl false))) bq) (vE)
def yw:DTS:=ax (ko 1 [3,7] (bP (ab 8)) (am 0) (aB (dCB gi (aa (ab 1) (aa (ab 0) (aa (ab 2) af))))) (ab 0) 10) (vF)
def yx:DTS:=ax (aX (dCB mH (aa (ab 2) (aa (ab 6) (aa (fy (aa (dC (.str "hush")) (aa (ab 7) (aa (dC (.bl true)) af)))) af)))) 9) (yw)
def yy:DTS:=ax (aX (dCB bo (aa (ab 1) (aa (ab 2) (aa (dOp qIx (ab 6) (dC (.int 0))) af)))) 8) (yx)
def yz:DTS:=ax (aX (dCB mG (aa (ab 4) (aa (ab 1) (aa (ab 5) (aa (dCB jg (aa (ab 3) af)) af))))) 7) (yy)
def yA:DTS:=ax (aX (dOp qIx (ab 5) (dCB av (aa (ab 4) (aa (dCB mN (aa (ab 5) af)) af)))) 6) (yz)
def yB:DTS:=ax (aX (dCB jC (aa (ab 1) af)) 5) (yA)
def yC:DTS:=ax (aX (dCB dj (aa (dCB eD (aa (ab 0) (aa (dC (.int 1)) af))) af)) 4) (yB)
def sZ:DTS:=ax (aX (dCB pS (aa (ab 2) af)) 3) (yC)
def yD:DTS:=ax (aX (dCB wN (aa (dSl (ab 0) (jV (dC (.int 2))) (jV (dC (.int 52)))) (aa (ab 1) af))) 2) (sZ)
def GS:DTS:=ax (aX (dCB kR (aa (dCB eD (aa (ab 0) (aa (dC (.int 0)) af))) af)) 1) (yD)
theorem GK:WpT (xD (AA0 "_law_log")) 17 GS:=by
 rintro ds M R ⟨ns,mo,h63,⟨hmo,hml⟩,rfl,rfl,h⟩;have hL0:ar [mo,.tb (AA0 "_law_log") false] 0 (ns.map D.int):=by
  have:=md (M:=[mo,.tb (AA0 "_law_log") false]) (n:=0) (mo:=mo) rfl hml;rw[hmo]at this;exact this
 simp only[GS];walk_at "dl";refine⟨0,ns,0,rfl,hL0,_,rfl,λps rs hf=>?_⟩
 obtain⟨few,n1,n12⟩:=mn hf;have rl4:=hf.rl.2;simp only[yD];walk_at "dl";refine⟨_,hL0,?_⟩;have ec:∃cs:List Int,cutD (ns.map D.int) (some 2) (some 52)=cs.map D.int/\cs.length<=50:=by
  unfold cutD;refine⟨(ns.drop (HT.sIx (ns.map D.int).length 0 (some 2))).take (HT.sIx (ns.map D.int).length (ns.map D.int).length (some 52)-HT.sIx (ns.map D.int).length 0 (some 2)),by rw[List.map_take,AEC],?_⟩
  rw[AAv];unfold HT.sIx;simp;lia
 obtain⟨cs,ec,cl⟩:=ec;rw[ec];refine⟨ps,rs,2,1,cs,rfl,hf,.inl rfl,by decide,by lia,rfl,λlog hl=>?_⟩
 have l60:=hl.len;have hL:ar ([mo,.tb (AA0 "_law_log") true,.lst (cs.map D.int)]:Mem) 0 (ns.map D.int):=by
  have:=md (M:=[mo,.tb (AA0 "_law_log") true,.lst (cs.map D.int)]) (n:=0) (mo:=mo) rfl hml;rw[hmo]at this;exact this
 show sZ _ _ ([mo,.tb (AA0 "_law_log") true,.lst (cs.map D.int)]:Mem);generalize ([mo,.tb (AA0 "_law_log") true,.lst (cs.map D.int)]:Mem)=B0 at hL;simp only[sZ];walk_at "dl";refine⟨ps,rs,log,rfl,hl.dk,by lia,λq3 B1 p1 g3=>?_⟩
 replace hL:=pc p1 hL;dsimp only;clear p1;simp only[yC];walk_at "dl";refine⟨0,ns,1,rfl,hL,_,rfl,λn0=>?_⟩
 have q0:HdP (B1++[MO.lst [.int n0]]) B1.length:=⟨n0,ae⟩;have q34:q3≠B1.length:=by have:=aN g3;lia
 replace g3:=ac (a:=MO.lst [.int n0]) g3;generalize B1++[MO.lst [.int n0]]=B2 at q0 g3;generalize B1.length=q4 at q0 q34;simp only[yB];walk_at "dl";refine⟨ps,_,rfl,few,?_⟩;have g5:(B2++[MO.lst (aC ps)])[B2.length]?=some (.lst (aC ps)):=ae;have q45:q4≠B2.length:=by have:=q0.lt;lia
 replace g3:=ac (a:=MO.lst (aC ps)) g3;replace q0:HdP (B2++[MO.lst (aC ps)]) q4:=by
  obtain⟨m,e⟩:=q0;exact⟨m,ac e⟩
 generalize B2++[MO.lst (aC ps)]=B3 at q0 g3 g5;generalize B2.length=q5 at g5 q45;simp only[yA];walk_at "dl";refine⟨_,.inl g5,q4,_,rfl,q0,by lia,by lia,λi n i0 i1=>?_⟩
 have ql:=q0.lt;obtain⟨j,hj,ej,_⟩:=fQ (xs:=aC ps) i0 i1;have hx:=ABA hj;have g5b:(B3.set q4 (.lst [.int n]))[q5]?=some (.lst (aC ps)):=au (ABM q45) g5;have g3b:(B3.set q4 (.lst [.int n]))[q3]?=some (.dkt (gD log)):=au q34 g3;have q0b:HdP (B3.set q4 (.lst [.int n])) q4:=⟨n,AAo ql⟩;generalize B3.set q4 (.lst [.int n])=B4 at g5b g3b q0b;refine⟨_,.inl g5b,?_⟩;rw[ej];obtain⟨z,k,ez⟩:=kO _ hx;rw[ez]at hx ⊢;have rl:Ris (kinds log (AA0 "say")):=ADE _ hl.up;have sT:∀x∈(gD log).map (·.1),St x:=λx hx=>by
  obtain⟨p,hp,rfl⟩:=AAH.mp hx;obtain⟨d,hd,e⟩:=EM _ p hp;rw[e];exact(hl.dk d (aH hd).1).st
 have stl:(gD log).length<=log.length:=AAq (vO _) bi;simp only[yz];walk_at "dl";refine⟨_,g3b,tw sT (by rw[AA4];lia),λys hy _=>?_⟩
 have sY:∀x∈ys,St x:=λx hx=>sT x (hy.mem_iff.mp hx)
 have yl:ys.length<=60:=by rw[hy.length_eq,AA4];lia
 have gy:(B4++[MO.lst ys])[B4.length]?=some (.lst ys):=ae;have qy4:B4.length≠q4:=by have:=q0b.lt;lia
 replace g5b:=ac (a:=MO.lst ys) g5b;replace g3b:=ac (a:=MO.lst ys) g3b;replace q0b:HdP (B4++[MO.lst ys]) q4:=by
  obtain⟨m,e⟩:=q0b;exact⟨m,ac e⟩
 generalize B4++[MO.lst ys]=B5 at gy g5b g3b q0b;generalize B4.length=qy at gy qy4;refine⟨q4,q5,qy,ps,rs,aC ps,ys,rfl,q0b,hf,ABM q45,qy4,.inl g5b,kO,n1,n12,.inl gy,sY,by lia,λwhat n hw=>?_⟩
 have g3c:(B5.set q4 (.lst [.int n]))[q3]?=some (.dkt (gD log)):=au q34 g3b;dsimp only;generalize B5.set q4 (.lst [.int n])=B6 at g3c;clear g3b g5b q0b gy g5 g3 q0;have zn:z.length<=100:=by
  obtain⟨p,hp,hq⟩:=List.mem_flatMap.mp hx;unfold dN at hq;obtain⟨y,_,e⟩:=AAH.mp hq;injection e with e;injection e with e _;injection e with e
  have:=hf.nm p hp;rw[<-e];lia
 have hwp:∀b:Bool,mI 4 [what,.bl b]:=λb=>.cons hw.pl4 (.cons (.bl _) .nil)
 simp only[yy];walk_at "dl";refine⟨ps,rs,log,z,rfl,hl.dk,by lia,rl4,zn,?_⟩
 have g8:(B6++[MO.lst (aA rs log z)])[B6.length]?=some (.lst (aA rs log z)):=ae;replace g3c:=ac (a:=MO.lst (aA rs log z)) g3c;generalize B6++[MO.lst (aA rs log z)]=B7 at g8 g3c;generalize B6.length=q8 at g8;simp only[yx];walk_at "dl";refine⟨ak (by lia),ps,rs,log,z,k,_,_,rfl,hl.dk,by lia,hx,hwp _,λt num t1 _=>?_⟩
 have dk1:aE ps rs (.tup [.int t,.tup [.str z,.int k],.int num,.tup [.str (AA0 "hush"),what,.bl true]]):=⟨_,_,_,_,_,_,rfl,t1,hx,hwp true,.mkHush hw⟩;have on:aA rs (log++[.tup [.int t,.tup [.str z,.int k],.int num,.tup [.str (AA0 "hush"),what,.bl true]]]) z=(aA rs log z).filter (cX rs log what):=Dh (d:=.tup [.int t,.tup [.str z,.int k],.int num,.tup [.str (AA0 "hush"),what,.bl true]]) rfl rfl rfl;have oth:∀name,z≠name->aA rs (log++[.tup [.int t,.tup [.str z,.int k],.int num,.tup [.str (AA0 "hush"),what,.bl true]]]) name=aA rs log name:=λname hn=>uA (d:=.tup [.int t,.tup [.str z,.int k],.int num,.tup [.str (AA0 "hush"),what,.bl true]]) rfl hn
 have off:∀t' num':Int,_:=λt' num'=>AX (rs:=rs) (log:=log) (name:=z) (d:=.tup [.int t,.tup [.str z,.int k],.int num,.tup [.str (AA0 "hush"),what,.bl true]]) (d2:=.tup [.int t',.tup [.str z,.int k],.int num',.tup [.str (AA0 "hush"),what,.bl false]]) rfl rfl rfl rfl rfl rfl rfl
 rw[show dO (.tup [.int t,.tup [.str z,.int k],.int num,.tup [.str (AA0 "hush"),what,.bl true]])=what from rfl]at off;have cm:ag rs (log++[D.tup [.int t,.tup [.str z,.int k],.int num,.tup [.str (AA0 "hush"),what,.bl true]]])=ag rs log:=aQ rfl;have ml:(log++[D.tup [.int t,.tup [.str z,.int k],.int num,.tup [.str (AA0 "hush"),what,.bl true]]]).length<=61:=by rw[AAB,AAV];lia
 have dkm:∀d∈log++[D.tup [.int t,.tup [.str z,.int k],.int num,.tup [.str (AA0 "hush"),what,.bl true]]],aE ps rs d:=λd hd=>by
  rcases AAT.mp hd with hd | hd
  ·exact hl.dk d hd
  ·rw[AAt.mp hd];exact dk1
 generalize log++[D.tup [.int t,.tup [.str z,.int k],.int num,.tup [.str (AA0 "hush"),what,.bl true]]]=more at on oth off ml dkm cm;dsimp only;have bl:=sJ (rs:=rs) (log:=log) (name:=z);have bt:=pR (rs:=rs) (name:=z) hl.dk;have sp:∀(e:D) (w:Str),aW (ag rs log) (stD e)=some e->cX rs log what (.tup [stD e,.str w])=qN rs log what e w:=λe w hg=>by
  unfold cX;dsimp only;rw[hg];rfl
 have keep:∀{B:Mem}{qq:Nat}{L:List D}{Q:DK},B[qq]?=some (.lst L)->B[q3]?=some (.dkt (gD log))->(∀x∈L,∃(e:D) (w:Str),x=.tup [stD e,.str w]/\aW (ag rs log) (stD e)=some e/\St (stD e))->L.length<=100->Q (.ref B.length) (B++[.lst (L.filter (cX rs log what))])->mB (λM=>ar M qq L) (am 0) (aB (dCB gi (aa (ab 1) (aa (ab 0) (aa (ab 2) af))))) (ab 0) Q L [] [none,some (.ref q3),some what] B:=λ{B qq L Q} gL g3 hL ll hQ=>by
  refine aL (cX rs log what) id (λS=>∃a,S=[a,some (.ref q3),some what]) (.inl gL) _ _ _ ?_ ⟨_,rfl⟩ (by rw[AAU];exact ak (by lia)) (by rw[AAl,ACh];exact hQ)
  rintro x hx S ⟨a,rfl⟩;obtain⟨e,w,rfl,hg,hs⟩:=hL x hx;refine⟨[some (.tup [stD e,.str w]),some (.ref q3),some what],⟨_,rfl⟩,λY Z hYZ=>?_⟩
  rw[sp e w hg]at hYZ;walk_at "dl";refine⟨ps,rs,log,e,what,w,q3,rfl,hl,hg,g3,hw,?_⟩;exact hYZ
 simp only[yw];walk_at "dl";refine⟨_,.inl g8,λ_=>keep g8 g3c bt (by lia) ?_⟩
 have g10:(B7++[MO.lst ((aA rs log z).filter (cX rs log what))])[B7.length]?=some (.lst ((aA rs log z).filter (cX rs log what))):=ae;replace g8:=ac (a:=MO.lst ((aA rs log z).filter (cX rs log what))) g8;replace g3c:=ac (a:=MO.lst ((aA rs log z).filter (cX rs log what))) g3c;generalize B7++[MO.lst ((aA rs log z).filter (cX rs log what))]=B8 at g8 g3c g10;generalize B7.length=q10 at g10;have okd:∀{M:Mem},∀x∈(aA rs log z).filter (cX rs log what),okD M 29 x=true/\eqD M 29 x x=true:=λ{M} x hx=>uB hl.dk x (AAa.mp hx).1 26
 simp only[vF];walk_at "dl";refine⟨ps,rs,more,z,rfl,dkm,by lia,rl4,zn,?_⟩
 rw[on];obtain⟨okk,ee⟩:=lJ (M:=B8++[MO.lst ((aA rs log z).filter (cX rs log what))]) (i:=B8.length) (j:=q10) ao (.inl (ac g10)) okd;refine⟨okk,?_⟩;rw[ee];refine bJ ?_
 replace g8:=ac (a:=MO.lst ((aA rs log z).filter (cX rs log what))) g8;replace g3c:=ac (a:=MO.lst ((aA rs log z).filter (cX rs log what))) g3c;replace g10:=ac (a:=MO.lst ((aA rs log z).filter (cX rs log what))) g10;generalize B8++[MO.lst ((aA rs log z).filter (cX rs log what))]=B9 at g8 g3c g10;simp only[vE,aK];walk_at "dl";intro _;refine bA (λi S M'=>∃(a b c:Option D),B9 <+: M'/\S=[some (.ref 0),some (aK ps rs),some (.tup log),some (.ref q3),some (.ref q4),some (.ref q5),some (.tup [.str z,.int k]),some what,some (.ref q8),some (.tup more),some (.ref q10),a,b,c,none,none,none]) ?_ ?_ ⟨_,_,_,List.prefix_refl _,rfl⟩
 ·rintro S M' ⟨a,b,c,pM,rfl⟩
  replace g8:=aT pM g8;replace g3c:=aT pM g3c;replace g10:=aT pM g10;refine⟨trivial,?_⟩;simp only[vC];walk_at "dl";refine⟨ak (by lia),ps,rs,more,z,k,_,_,rfl,dkm,by lia,hx,hwp _,λt' num' t1' _=>?_⟩
  obtain⟨up,off⟩:=off t' num';have dk2:aE ps rs (.tup [.int t',.tup [.str z,.int k],.int num',.tup [.str (AA0 "hush"),what,.bl false]]):=⟨_,_,_,_,_,_,rfl,t1',hx,hwp false,.mkHush hw⟩;have al:(more++[D.tup [.int t',.tup [.str z,.int k],.int num',.tup [.str (AA0 "hush"),what,.bl false]]]).length<=62:=by rw[AAB,AAV];lia
  have dka:∀d∈more++[D.tup [.int t',.tup [.str z,.int k],.int num',.tup [.str (AA0 "hush"),what,.bl false]]],aE ps rs d:=λd hd=>by
   rcases AAT.mp hd with hd | hd
   ·exact dkm d hd
   ·rw[AAt.mp hd];exact dk2
  have bta:=pR (rs:=rs) (name:=z) dka;have bla:=sJ (rs:=rs) (log:=more++[.tup [.int t',.tup [.str z,.int k],.int num',.tup [.str (AA0 "hush"),what,.bl false]]]) (name:=z);have oka:∀{M:Mem},∀x∈aA rs (more++[.tup [.int t',.tup [.str z,.int k],.int num',.tup [.str (AA0 "hush"),what,.bl false]]]) z,∀n,okD M (n+3) x=true/\eqD M (n+3) x x=true:=λ{M}=>uB dka
  have ca:ag rs (more++[.tup [.int t',.tup [.str z,.int k],.int num',.tup [.str (AA0 "hush"),what,.bl false]]])=ag rs log:=by rw[aQ rfl,cm]
  rw[ca]at bta;simp only[vB];walk_at "dl";refine⟨ps,rs,_,z,rfl,dka,by lia,rl4,zn,?_⟩
  generalize aA rs (more++[.tup [.int t',.tup [.str z,.int k],.int num',.tup [.str (AA0 "hush"),what,.bl false]]]) z=A at up off bta bla oka;have g15:(M'++[MO.lst A])[M'.length]?=some (.lst A):=ae;replace g8:=ac (a:=MO.lst A) g8;replace g3c:=ac (a:=MO.lst A) g3c;replace g10:=ac (a:=MO.lst A) g10;generalize M'++[MO.lst A]=B10 at g8 g3c g10 g15;generalize M'.length=q15 at g15;simp only[vA];walk_at "dl";refine⟨_,.inl g8,λ_=>?_⟩
  refine aL (λ_=>false) id (λS=>∃a,S=[a,some (.ref q15)]) (.inl g8) _ _ _ ?_ ⟨_,rfl⟩ (by rw[AAU];exact ak (by lia)) ?_
  ·rintro x hx S ⟨a,rfl⟩
   refine⟨[some x,some (.ref q15)],⟨_,rfl⟩,λY Z hYZ=>?_⟩
   have xa:=up x hx;walk_at "dl";refine⟨_,.inl g15,⟨(oka x xa 27).1,AAZ.mpr λy hy=>(oka y hy 27).1⟩,?_⟩
   rw[show inD B10 x A=true from AB9.mpr ⟨x,xa,(oka x xa 27).2⟩];exact hYZ
  rw[AAl,ACh,List.filter_eq_nil_iff.mpr λ_ _=>by decide]
  replace g8:=ac (a:=MO.lst []) g8;replace g3c:=ac (a:=MO.lst []) g3c;replace g10:=ac (a:=MO.lst []) g10;replace g15:=ac (a:=MO.lst []) g15;have ge:(B10++[MO.lst []])[B10.length]?=some (.lst []):=ae;generalize B10++[MO.lst []]=B11 at g3c g10 g15 ge;obtain⟨okn,en⟩:=kJ (M:=B11) (.inl ge) λ_ z=>nomatch z
  refine⟨AAX _,okn,?_⟩;rw[en];refine bJ ?_
  replace g3c:=ac (a:=MO.lst []) g3c;replace g10:=ac (a:=MO.lst []) g10;replace g15:=ac (a:=MO.lst []) g15;generalize B11++[MO.lst []]=B12 at g3c g10 g15;simp only[vt];walk_at "dl";refine⟨_,.inl g15,λ_=>keep g15 g3c bta (by lia) ?_⟩
  rw[off];simp only[vq];walk_at "dl";obtain⟨okk,ee⟩:=lJ (M:=B12++[MO.lst ((aA rs log z).filter (cX rs log what))]) (i:=B12.length) (j:=q10) ao (.inl (ac g10)) okd;refine⟨okk,?_⟩;rw[ee];exact .inl (h _)
 ·rintro i y S M' hy ⟨a,b,c,pM,rfl⟩ G hG
  obtain⟨pr,hpr,rfl⟩:=AAH.mp (AAi hy);have nl:pr.1.length<=100:=by have:=hf.nm pr hpr;lia
  refine⟨trivial,?_⟩;unfold ig;walk_at "dl";refine⟨trivial,ps,rs,log,pr.1,rfl,hl.dk,by lia,rl4,nl,?_⟩
  have g13:(M'++[MO.lst (aA rs log pr.1)])[M'.length]?=some (.lst (aA rs log pr.1)):=ae;replace pM:=pM.trans (fB (mo:=MO.lst (aA rs log pr.1)));generalize M'++[MO.lst (aA rs log pr.1)]=B10 at g13 pM;generalize M'.length=q13 at g13;simp only[vD];walk_at "dl";refine⟨⟨aq,aq⟩,?_⟩;rw[aM];by_cases e:pr.1=z
  ·rw[beq_iff_eq.mpr e]
   exact bJ (Fgt.now (hG _ _ ⟨_,_,_,pM,rfl⟩))
  ·rw[beq_eq_false_iff_ne.mpr e]
   refine bT ⟨ps,rs,more,pr.1,rfl,dkm,by lia,rl4,nl,?_⟩
   rw[oth pr.1 (ABM e)];obtain⟨okk,ee⟩:=lJ (M:=B10++[MO.lst (aA rs log pr.1)]) (i:=B10.length) (j:=q13) ao (.inl (ac g13)) λx hx=>uB hl.dk x hx 26
   refine⟨okk,?_⟩;rw[ee];exact bJ (Fgt.now (hG _ _ ⟨_,_,_,pM.trans fB,rfl⟩))
def ok_law(T:Tops P w K mg base)(F:Fun K "law" "law" (top 59) f fd):FnOk P w K mg base CX0 9 f fd Fi (spL K (xD "_law_log")) :=
 CO (N:=["_law_script","_law_house_here","_law_log_here","_law_said_here","_law_held","_law_hands_here","_law_hand","_law_what_here","_law_before","_law_more_here","_law_due","_law_other","_law_many","_law_theirs","_law_again","_law_after","_law_kept"]) T.b F (by walk_at "sc") FA (by have:=rh T;have:=xo T;have:=lY T;have:=dJ T;have:=BZ T;have:=zr T;have:=vU T;have:=HY T;have:=Fo T;have:=Fm T;have:=BX T;walk_at "dv") GK
end
end LW
namespace PySem.W.Fast
def tw10120516882180038314:=0
def tw10186509827806881261:=0
def tw10241815713908447161:=0
def tw10245818134583604042:=0
def tw10245904150450299365:=0
def tw10407588319952133682:=0
def tw10424915369226701688:=0
def tw1051419720433498613:=0
def tw10721207512832299017:=0
def tw10863812691340043194:=0
def tw10874754503156569561:=0
def tw10895380453719742973:=0
def tw10904701493571906974:=0
def tw10953823458183799568:=0
def tw11082242266345015596:=0
def tw11121907568156435798:=0
def tw11184694599834520454:=0
def tw11388558045175693066:=0
def tw1146701167256937575:=0
def tw11480150112328889955:=0
def tw11570590533955744129:=0
def tw11698956002927291011:=0
def tw11926316046976669953:=0
def tw12019840276082236182:=0
def tw12372737231039040813:=0
def tw12389059350354374770:=0
def tw12461539999727422134:=0
def tw12484383676010557463:=0
def tw12847525876766122908:=0
def tw13041884680924509687:=0
def tw13079790657492206384:=0
def tw13311743282295399082:=0
def tw13319741244185196216:=0
def tw13445588451019321023:=0
def tw13451026126231294150:=0
def tw13548104996813849862:=0
def tw13576663165226434044:=0
def tw13576849082250965069:=0
def tw13584845973906214483:=0
def tw13640664272083628821:=0
def tw13864187461070963884:=0
def tw14000129236829314960:=0
def tw14150068215955894074:=0
def tw14199724393603869956:=0
def tw1422121149166226334:=0
def tw14239656707095416588:=0
def tw14300864084126171215:=0
def tw14398657163146153715:=0
def tw14607209477889122261:=0
def tw14636345459529775264:=0
def tw14676362762242576261:=0
def tw14776574873205748221:=0
def tw1484318099807754149:=0
def tw14865793505279875628:=0
def tw14871297353624414956:=0
def tw14902384721476785569:=0
def tw14950106629430983992:=0
def tw14969531970200530225:=0
def tw15036756218191461301:=0
def tw15062796198058570443:=0
def tw15065002950171541862:=0
def tw15101827185675204497:=0
def tw15113306659657815409:=0
def tw15168982683860675651:=0
def tw15241437682988131823:=0
def tw15251288186497192952:=0
def tw15380235529415693310:=0
def tw15530194112260142104:=0
def tw15547430977661600752:=0
def tw15585766865972949760:=0
def tw15806269586663405986:=0
def tw15827179458602132453:=0
def tw15857572815563531794:=0
def tw1588029219841378175:=0
def tw15968780518407573000:=0
def tw15985180877915899499:=0
def tw16041024177159272948:=0
def tw16059376046566372600:=0
def tw16082719789505733676:=0
def tw16094097216780613196:=0
def tw16355535473792056754:=0
def tw16380970864041369125:=0
def tw16489666092212297029:=0
def tw16494725573125379161:=0
def tw16498415890166126733:=0
def tw16541230184557802870:=0
def tw16611065209810351525:=0
def tw16690125822275815213:=0
def tw16812626637863982026:=0
def tw16837990424716064262:=0
def tw17177859795227251883:=0
def tw17238405802829242055:=0
def tw1729814573123790517:=0
def tw17365054934435693370:=0
def tw1737336088281162476:=0
def tw17396990943641287016:=0
def tw17424740032119966041:=0
def tw17483511049096034538:=0
def tw175204321259768463:=0
def tw17596482779012365899:=0
def tw17634694818538855659:=0
def tw17718981011117772209:=0
def tw17743774743213233246:=0
def tw17919835021325792936:=0
def tw17929221821956434714:=0
def tw17996905639458362647:=0
def tw18122435893269618232:=0
def tw18125719777819722943:=0
def tw18128921497555419623:=0
def tw1816658661494761666:=0
def tw18205208059566693377:=0
def tw1823096073752897367:=0
def tw18249886895913458127:=0
def tw1828897316214664922:=0
def tw18297157285539036822:=0
def tw18324639586201476502:=0
def tw18349208742058998170:=0
def tw18431238677143979043:=0
def tw18444650521747445811:=0
def tw1854903236260859310:=0
def tw1917537139956015234:=0
def tw1919875350498394473:=0
def tw2047744708034239742:=0
def tw2049683330832972547:=0
def tw234238420054256061:=0
def tw244465708927338822:=0
def tw2502092762695429213:=0
def tw252810438717009116:=0
def tw262147662390130458:=0
def tw2882318095190465192:=0
def tw289748348680781289:=0
def tw2971715756558902701:=0
def tw2999585830013414686:=0
def tw30006652420266508:=0
def tw3075297842933708344:=0
def tw308716989431904182:=0
def tw3186167707395752147:=0
def tw320232921269570409:=0
def tw3253619764078108010:=0
def tw3311169278745741926:=0
def tw3320085883470289802:=0
def tw3401489786270318073:=0
def tw3486893710078897606:=0
def tw3764056046592411704:=0
def tw3970188817317828320:=0
def tw4004594249377240312:=0
def tw4079509662593838012:=0
def tw4104644006955972969:=0
def tw4215040251526815760:=0
def tw4238406793102429793:=0
def tw435253573960072113:=0
def tw4429463422643189937:=0
def tw4558509925388943075:=0
def tw4621819650842371628:=0
def tw4863636078667759480:=0
def tw487204563742251465:=0
def tw5184478410890469400:=0
def tw51879202216640164:=0
def tw5205634081467964994:=0
def tw5233472796937646763:=0
def tw533955561192592536:=0
def tw5543677051612019679:=0
def tw5747279641896738120:=0
def tw5775632338256132706:=0
def tw5831403497015440139:=0
def tw5893332217994793651:=0
def tw6109793332815356009:=0
def tw6140046964820805544:=0
def tw6290930658055185865:=0
def tw6326395712075155532:=0
def tw6343817520199894259:=0
def tw6501951472211113810:=0
def tw6542625072183593706:=0
def tw6636112813950771412:=0
def tw6686204864680797205:=0
def tw6725257700743852867:=0
def tw6969025838167092834:=0
def tw7002481369631112478:=0
def tw7054082824857490482:=0
def tw7070989191662059131:=0
def tw7177961808008359832:=0
def tw7387535185725451200:=0
def tw7429566699110440783:=0
def tw7449264685094047495:=0
def tw7471067260580654197:=0
def tw7529025979200931561:=0
def tw7552493277478705324:=0
def tw7596397978064578939:=0
def tw7656517800068801953:=0
def tw7682256215312404481:=0
def tw7987779223657445956:=0
def tw7993472822792644313:=0
def tw8032649802280297343:=0
def tw8038581731163388193:=0
def tw8138334200786426906:=0
def tw8160632973687249987:=0
def tw8240329266818364989:=0
def tw8260165139842175490:=0
def tw8286867181565374896:=0
def tw8305823600970657323:=0
def tw8413610253415013139:=0
def tw8419069259953652545:=0
def tw8438845611538021239:=0
def tw845193722630136518:=0
def tw8482704546573835716:=0
def tw8536150071515578208:=0
def tw8661143704964921789:=0
def tw8675204812185184013:=0
def tw8740847377002896649:=0
def tw8793130055756173737:=0
def tw8814986354439245153:=0
def tw8820627454544403165:=0
def tw883928219287171206:=0
def tw8917468034244166539:=0
def tw8993005801767398561:=0
def tw9004708011441236909:=0
def tw9041779628983228:=0
def tw906917822066700195:=0
def tw9096348201560769607:=0
def tw9159073541936624712:=0
def tw917896375464359441:=0
def tw9241967503630765822:=0
def tw9254861123069937624:=0
def tw9388808811943220666:=0
def tw9420342202468618396:=0
def tw9437767550375023110:=0
def tw947956014463337486:=0
def tw9523658480464640185:=0
def tw9528521500353154822:=0
def tw9533350059959968409:=0
def tw9633675675605918732:=0
def tw9783789288865372212:=0
def tw9823922964955734584:=0
def tw9828865923419761296:=0
def tw9862317737497838789:=0
def tw9925757576027277019:=0
def tw9934617066591597035:=0
def tw9954253837708268449:=0
end PySem.W.Fast
local macro_rules | `(tactic| walk_at "f1")=>`(tactic| (refine' L2.fnat_mk (by assumption) (by assumption) ?a ?l ?c ?k (λ_ _ _ _ _ _ us hl=>match us,hl with | [_],_=>rfl);(case a=>k_is);(case l=>k_is);(case c=>k_is);(case k=>k_is)))
local macro_rules | `(tactic| walk_at "f2")=>`(tactic| (refine' L2.fnat_mk (by assumption) (by assumption) ?a ?l ?c ?k (λ_ _ _ _ _ _ us hl=>match us,hl with | [_,_],_=>rfl);(case a=>k_is);(case l=>k_is);(case c=>k_is);(case k=>k_is)))
local macro_rules | `(tactic| walk_at "f3")=>`(tactic| (refine' L2.fnat_mk (by assumption) (by assumption) ?a ?l ?c ?k (λ_ _ _ _ _ _ us hl=>match us,hl with | [_,_,_],_=>rfl);(case a=>k_is);(case l=>k_is);(case c=>k_is);(case k=>k_is)))
local macro_rules | `(tactic| walk_at "f4")=>`(tactic| (refine' L2.fnat_mk (by assumption) (by assumption) ?a ?l ?c ?k (λ_ _ _ _ _ _ us hl=>match us,hl with | [_,_,_,_],_=>rfl);(case a=>k_is);(case l=>k_is);(case c=>k_is);(case k=>k_is)))
local macro_rules | `(tactic| walk_at "f5")=>`(tactic| (refine' L2.fnat_mk (by assumption) (by assumption) ?a ?l ?c ?k (λ_ _ _ _ _ _ us hl=>match us,hl with | [_,_,_,_,_],_=>rfl);(case a=>k_is);(case l=>k_is);(case c=>k_is);(case k=>k_is)))
open PySem PySem.W PyProof.Rows
set_option maxRecDepth 100000 in
set_option maxHeartbeats 0 in
theorem PySem.Challenge.cw_talkmarks_k52_bells_behind_hushes_holds : PySem.Challenge.rw_talkmarks_k52_bells_behind_hushes.Holds := by
 w_on; o_law; k_head; (case hw=>w_witness2)
 k_fill
 refine L2.law_walkL (z:="_law_log") (l:=PySem.Challenge.rw_talkmarks_k52_bells_behind_hushes) (k:=9) (st:=LW.top 59) (x:="_law_script") rfl rfl rfl ⟨rfl,by decide,by decide⟩ (fun w h Y=>PySem.W.km_in_of Y) (fun _=>by kernel_rfl) rfl (fun _=>rfl) ?F (fun _ _ _ _ _ _ _=>rfl)
 case F =>
  intro w mg h KX G;have T:∀ P base,L2.BMain mg base→LW.Tops P w (L2.KOf KX) mg base:=by
   intro P base bm;dsimp only [L2.KOf];constructor
   ·walk_at "f1"
   ·walk_at "f2"
   ·walk_at "f2"
   ·walk_at "f2"
   ·walk_at "f2"
   ·walk_at "f1"
   ·walk_at "f1"
   ·walk_at "f2"
   ·walk_at "f2"
   ·walk_at "f3"
   ·walk_at "f3"
   ·walk_at "f2"
   ·walk_at "f1"
   ·walk_at "f1"
   ·walk_at "f3"
   ·walk_at "f2"
   ·walk_at "f2"
   ·walk_at "f3"
   ·walk_at "f2"
   ·walk_at "f2"
   ·walk_at "f2"
   ·walk_at "f2"
   ·walk_at "f2"
   ·walk_at "f4"
   ·walk_at "f3"
   ·walk_at "f2"
   ·walk_at "f2"
   ·walk_at "f4"
   ·walk_at "f4"
   ·walk_at "f3"
   ·walk_at "f2"
   ·walk_at "f1"
   ·walk_at "f2"
   ·walk_at "f1"
   ·walk_at "f2"
   ·walk_at "f1"
   ·walk_at "f2"
   ·walk_at "f3"
   ·walk_at "f3"
   ·walk_at "f4"
   ·walk_at "f5"
   ·walk_at "f1"
   ·walk_at "f2"
   ·walk_at "f3"
   ·walk_at "f1"
   ·walk_at "f2"
   ·walk_at "f3"
   ·walk_at "f1"
   ·unfold LW.B_ LW.C_
    iterate 9 (refine' L2.TopB.b ?tq ?_; (case tq=>refine' PySem.W.mg_none_of KX G ?tr; (case tr=>k_is)))
    exact .nil
   ·exact bm
  refine ⟨?_,fun base f fd bm F=>LW.ok_law (T _ base bm) F⟩
  try dsimp only [L2.KOf]
  walk_at "f1"
