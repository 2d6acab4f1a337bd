import PyProof.Rows.All
import Wide.All
import OpenK.AllK
import Wide.FinOn
import Lean
import PyProof.EqAt
import PyProof.EqKinds
import PyProof.TupleCall
import PyProof.CompFree
import PyProof.NeKinds
import KE.KSortTup
import KE.KRevSl
import KE.KDictSum
import KE.KEqDict
import PyProof.Conv_int_bool
import PyProof.AttrMissHeap
import KE.KLam
import KE.KRevIter
import PySem.Challenge.RW_talkmarks_k27_whole_rows_and_messages
open PySem renaming wpAny_bind->AA0,wpAny_pure->AA2,Spec->AAF,wpAny_holding->AAZ,wpAny_call_entry->AAp,wpAny_callSpecial?_slot->AAq,wpAny_newObj_type->AAr,wpAny_mono->ABA,wpAny_setState_of->ABK,wpAny_forIn_list->ABP,wpAny_dictEntries->ABR,wpAny_rule->ABU,mem_of_lookup->ABV,codeAny_builtin->ABX,wpAny_dictEpoch->ABY,wpAny_fieldsOf->ABg,wpAny_notOrdered_dict->ABm,sizeLine_eq->ABq,wpAny_specialOf->ABt,wpAny_ite_split->ABu,eqIsQuiet_byValue->AC9,wpAny_setField->ACC,wpAny_Call_Name_kw->ACF,wpAny_typeNameOfWhole_keyiter->ACJ,wpAny_typeNameOfWhole_valiter->ACK,wpAny_typeOf->ACO,wpAny_askSetting->ACY,wpAny_isInstance->ACZ,plainId_quiet->ACa,builtinLookup_eq_fast->ACb,wpAny_attempt->ACc,wpAny_seqItems->ACh,wpAny_truthy_bool->ACk,wpAny_passesOwn->ACl,wpAny_typeNameOf_keyiter->ACp,wpAny_typeNameOf_valiter->ACq,wpAny_setEntries_of->ACv,wpAny_callSpecialIfBoundUnlessNone?_slot->ADC,wpAny_sequenceKey->ADI,wpAny_newList->ADN,wpAny_updateDictKeys->ADT,wpAny_pyHash_int->ADZ,wpAny_pyHash_str->ADa,codeAny_mono->ADf,wpAny_loadPart'->ADm,wpAny_Call_method0_late->ADo,typeLookup_type->ADt,wpAny_Call_method_late->AE1,wpAny_pyIter_slot->AE6,slot_dict_setitem->AE7,atKey_none_of_get->AE8,wpAny_isOneOf_valiter->AEH,beq_builtin_none->AEK,wpAny_execs_nil->AEN,evalArgs_none->AEP,call_meetsIn->AEc
open PySem.Str renaming ofString->AA1
open PySem.Heap renaming get?_push_of_some->AA3,get?_push_size->AAC,lt_size->AAG,get?_update_self->AAf,size_push->ABZ,SameBut->ABx,get?_update_other->AC2,get?_update_ne->AC6
open List renaming length_map->AA4,getElem?_eq_getElem->AA5,getElem?_eq_some_iff->AA7,mem_cons_of_mem->AA9,length_append->AAA,mem_append_right->AAB,size_toArray->AAD,mem_cons_self->AAI,mem_cons->AAJ,mem_map->AAK,length_cons->AAN,mem_append_left->AAP,map_cons->AAQ,getElem?_append_left->AAT,getD_eq_getElem?_getD->AAU,getElem?_map->AAV,map_append->AAW,mem_append->AAa,length_singleton->AAb,mem_of_getElem?->AAc,getElem?_append_right->AAe,mem_map_of_mem->AAg,all_eq_true->AAh,mem_filter->AAj,append_assoc->AAk,prefix_append->AAl,length_nil->AAm,nil_append->AAs,map_map->AAt,range->AAu,getElem?_set_ne->AAv,getElem?_set_self->AAx,length_take->AAy,length_set->AB1,mem_range->AB2,getElem_mem->AB5,append_nil->AB7,getElem?_of_mem->AB9,cons_lt_cons_iff->ABC,lt_irrefl->ABD,nodup_cons->ABH,find?_cons->ABJ,nodup_append->ABL,length_filter_le->ABM,all_cons->ABT,getElem?_eq_none->ABW,getElem?_cons_succ->ABb,mem_singleton->ABe,length_drop->ABh,take_length->ABi,getElem?_take_of_lt->ABk,take_add_one->ABn,length->ABr,toArray->ABy,not_mem_nil->ABz,filter_cons->AC0,nodup_iff_pairwise_ne->AC1,filterMap_cons->AC4,map_congr_left->AC7,pairwise_map->AC8,zip_cons_cons->ACH,lookup_cons->ACI,mem_reverse->ACL,pairwise_append->ACM,length_range->ACR,getElem_map->ACW,cons_append->ACX,take_append_drop->ACe,pairwise_iff_getElem->ACj,prefix_rfl->ACn,getElem?_replicate->ACs,map_id->ACu,getElem?_cons_zero->ACy,length_reverse->ACz,any_eq_true->AD0,nodup_nil->AD5,take_of_length_le->AD6,getElem?_drop->ADA,filter_append->ADB,length_replicate->ADD,ext_getElem?->ADL,drop_eq_getElem_cons->ADW,filter_sublist->ADd,mem_filterMap->ADk,pairwise_singleton->ADs,pairwise_cons->ADu,getElem?_take->ADv,take_sublist->AE3,foldl_append->AE9,range'->AEA,replicate->AEC,set_append_right->AEG,concat_eq_append->AEI,reverse_reverse->AEM,of_mem_zip->AEO,find?_some->AEW,map_nil->AEa,getD->AEh
open PySem.W renaming Frag->AA6,kas_desc->ACG,keepIn->ACf,fnOf->ACr,kas_rev->ADS,kas_place->ADX,cellsFrom_some->ADz,kas_asc->AE4,findIn->AEB,kas_sort->AED,kas_descPart->AEE,codeIn->AEd,methodObj->AEg
open Nat renaming le_refl->AA8,ne_of_lt->AAO,zero_le->AAX,lt_of_lt_of_le->AAd,lt_irrefl->AAn,lt_succ_self->AB0,le_trans->AB3,lt_or_ge->ABd,not_lt_zero->ABs,lt_succ_of_lt->AC5,le_of_lt->ACN,sub_self->ADE,not_lt->ADK,lt_trichotomy->ADM,le_add_right->ADb,le_succ->ADc,add_sub_cancel->ADx,min_eq_left->AEV,ne_of_gt->AEZ
open Bool renaming false_eq_true->AAE,and_eq_true->AAY,false_ne_true->ABB,eq_false_iff->ABl,not_true->ABv,or_eq_true->AES,and_false->AEe
open Classical renaming propDecidable->AAH,byContradiction->AB4
open Array renaming length_toList->AAL,getElem?_eq_getElem->AAM,getElem?_toList->AAS,getElem?_eq_some_iff->AAw,getD_eq_getD_getElem?->AB8,getElem?_eq_none->ABf,forIn_toList->ABw,getD->ACV,toList_push->ADP
open Option.some renaming inj->AAR
open PySem.SetTable renaming below->AAi,runEnd->AAz,bits->ACD,leap->ACd,Probe->ACi,grown->AD4,turns->ADY,fits->ADw,insertAt->AE5,sizeAbove->AEb,fill->AEl
open PySem.Heap.SameBut renaming update->AAo
open PySem.Value renaming ref->AB6,none->ABj,type->ADe
open PySem.Obj renaming mapSeq->ABE,data_mapDictKeys->ABc,isFreed_of_dict->ACA,data_mapDict->AD1,mapFields->ADQ,data_mapFields->ADy,putSet->AEj
open Option renaming map_eq_some_iff->ABF,isSome_iff_exists->ADg
open List.Pairwise renaming filter->ABG,nil->ADJ,and_mem->AEJ
open PyProof.Rows renaming slot_tuple_getitem->ABI,callWith_type1->ABp,get?_update_seq->ACo,listUpdate_at->ADO,listItems_at->AEF
open PySem.NameKind renaming free->ABN,cell->ACt
open Ne renaming symm->ABO
open PySem.Builtin.Tuple renaming tupleHashOf->ABQ,tupleItemsOf->ACU,tupleExact->ACm
open PySem.Around renaming under_plainId->ABS
open Int renaming toNat_natCast->ABa
open PySem.Builtin.Dict_items renaming ownsTuple->ABo
open PySem.Calls renaming callWith_builtin->AC3,spliced_cons->ADl,spliced_nil->AE2,evalArgs_plain->AEL
open PySem.F renaming slot_tuple_getattribute->ACB,slot_list_getattribute->ACE,plainAttrs_dict->ACw,slot_dict_get->ADF,slot_dict_getitem->ADV,args_tuple_add_2->ADh,slot_dict_values->ADj,entry_tuple_add->ADn,slot_tuple_add->AE0
open PySem.SeqAt renaming EqAt->ACP
open PySem.SetTable.below renaming go->ACQ
open Sum renaming inr->ACS
open PySem.Builtin.List renaming listExtendWith->ACT,listTooLong->ADi,listLengthHint->AEU
open PySem.Builtin.Slice renaming slicePlaces->ACg,sliceAdjust->ADU,sliceApplied->AEY
open PySem.Builtin.Dict renaming updateFrom->ACx,showsAll->ADG
open False renaming elim->AD2
open List.Perm renaming refl->AD3,cons->AEf
open PySem.SetTable.layClean renaming free->AD7
open PySem.SeqAt.EqAt renaming int_str->AD8,str_int->AD9,int_int->ADp,str_str->ADq,same->AET
open PySem.Builtin.Str renaming strSliceIndices->ADH
open PySem.Shared renaming TypeIs->ADR
open List.cons renaming injEq->ADr,inj->AEk
open ForInStep renaming yield->AEQ
open PySem.Txt renaming slice->AER
open PySem.Expr renaming Call->AEX
open PySem.SetTable.probe renaming go->AEi
set_option autoImplicit true
set_option relaxedAutoImplicit true
set_option compiler.extract_closed false
set_option Elab.async false
set_option linter.all false
set_option maxRecDepth 100000
-- CHANGE: your row's module here,as the last of these rows
def dF_{p:Prop}[Decidable p](h:¬p):decide p=false:=decide_eq_false h
def dT_{p:Prop}[Decidable p](h:p):decide p=true:=decide_eq_true h
def oT_{p:Prop}[Decidable p](h:decide p=true):p:=of_decide_eq_true h
namespace L2
open PySem PySem.Spec PyProof.Rows
abbrev Key:=Sum Int Str
def vU:Key->Value->Bool
 | .inl k,v=>Value.isInt k v
 | .inr x,v=>Value.isStrOf x v
def keyH(w:World):Key->Int
 | .inl k=>hashInt k
 | .inr x=>hashStr w x
def aZ:∀{k:Key}{v:Value},vU k v=true->(∃i t,k=Sum.inl i/\v=Value.int i t)\/(∃x t,k=ACS x/\v=Value.str x t)
 | .inl i,v,h=>by
  obtain⟨t,e⟩:=Value.isInt_shape (k:=i) (v:=v) h;exact .inl ⟨i,t,rfl,e⟩
 | .inr x,v,h=>by
  obtain⟨t,e⟩:=Value.isStrOf_shape (x:=x) (v:=v) h;exact .inr ⟨x,t,rfl,e⟩
def yx(i:Int)(t:Tok):vU (.inl i) (.int i t)=true:=by simp[vU,Value.isInt]
def yw(x:Str)(t:Tok):vU (.inr x) (.str x t)=true:=by simp[vU,Value.isStrOf]
def Gw(a b:Int):decide ((Sum.inl a:Key)=Sum.inl b)=(a==b):=by
 by_cases e:a=b
 ·subst e;simp
 ·have h:¬(Sum.inl a:Key)=Sum.inl b:=λq=>e (Sum.inl.inj q)
  rw[dF_ h];exact(beq_eq_false_iff_ne.mpr e).symm
def BS(a b:Str):decide ((ACS a:Key)=ACS b)=decide (a=b):=by
 by_cases e:a=b
 ·subst e;simp
 ·have h:¬(ACS a:Key)=ACS b:=λq=>e (Sum.inr.inj q)
  rw[dF_ h,dF_ e]
def Gv(a:Int)(b:Str):decide ((Sum.inl a:Key)=ACS b)=false:=dF_ (λq=>nomatch q)
def Gu(a:Str)(b:Int):decide ((ACS a:Key)=Sum.inl b)=false:=dF_ (λq=>nomatch q)
def cj(prog:Program)(w:World):PySem.KeyKind prog w Key where
 is:=vU
 hash:=keyH w
 inj:=λv a b ha hb=>by
  rcases aZ ha with⟨i,t,rfl,rfl⟩|⟨x,t,rfl,rfl⟩
  ·rcases aZ hb with⟨j,u,rfl,e⟩|⟨y,u,rfl,e⟩
   ·injection e with e1 _;rw[e1]
   ·exact nomatch e
  ·rcases aZ hb with⟨j,u,rfl,e⟩|⟨y,u,rfl,e⟩
   ·exact nomatch e
   ·injection e with e1 _;rw[e1]
 byValue:=λk v h=>by
  rcases aZ h with⟨i,t,rfl,rfl⟩|⟨x,t,rfl,rfl⟩<;>rfl
 pyHash:=λhv h=>by
  rcases aZ hv with⟨i,t,rfl,rfl⟩|⟨x,t,rfl,rfl⟩
  ·exact ADZ h
  ·exact ADa h
 eqBool:=λhu hv h=>by
  rcases aZ hu with⟨i,t,rfl,rfl⟩|⟨x,t,rfl,rfl⟩
  ·rcases aZ hv with⟨j,u,rfl,rfl⟩|⟨y,u,rfl,rfl⟩
   ·rw[Gw]at h;exact wpAny_eqBool_int h
   ·rw[Gv]at h;exact AD8 i t y u _ _ _ _ h
  ·rcases aZ hv with⟨j,u,rfl,rfl⟩|⟨y,u,rfl,rfl⟩
   ·rw[Gu]at h;exact AD9 x t j u _ _ _ _ h
   ·rw[BS]at h;exact wpAny_eqBool_str h
 «strs»:=λk x t v h=>by
  rcases aZ h with⟨i,u,rfl,e⟩|⟨y,u,rfl,e⟩
  ·exact nomatch e
  ·injection e with e1 _
   subst e1;cases v<;>rfl
def sB(prog:Program)(w:World)(i:Int)(t:Tok):(cj prog w).is (.inl i) (.int i t)=true:=yx i t
def sA(prog:Program)(w:World)(x:Str)(t:Tok):(cj prog w).is (.inr x) (.str x t)=true:=yw x t
inductive V where
 | non | bl (b:Bool) | int (i:Int) | str (x:Str) | byt (b:Array UInt8) | flt (b:UInt64) | ref (a:Addr) | ty (n:String)
 deriving DecidableEq
def aI:V->Value->Prop
 | .non,u=>u=ABj
 | .bl b,u=>u=Value.bool b
 | .int i,u=>∃t,u=Value.int i t
 | .str x,u=>∃t,u=Value.str x t
 | .byt b,u=>∃t,u=Value.bytes b t
 | .flt b,u=>∃t,u=Value.float b t
 | .ref a,u=>u=AB6 a
 | .ty n,u=>u=ADe n
abbrev au:List V->List Value->Prop:=Paired aI
def au.length(r:au xs us):xs.length=us.length:=Paired.length r
def au.get:∀{xs:List V}{us:List Value}{i:Nat}{x:V},au xs us->xs[i]?=some x->∃u,us[i]?=some u/\aI x u
 | _,_,_,_,.nil,e=>by simp at e
 | _,_,0,_,.cons r _,e=>by simp at e;subst e;exact⟨_,rfl,r⟩
 | _,_,i+1,x,.cons _ t,e=>by
  obtain⟨u,h1,h2⟩:=au.get (i:=i) (x:=x) t (by simpa using e)
  exact⟨u,by simpa using h1,h2⟩
def au.set(r:aI x u):∀{xs:List V}{us:List Value} (i:Nat),au xs us->au (xs.set i x) (us.set i u)
 | _,_,_,.nil=>.nil
 | _,_,0,.cons _ t=>.cons r t
 | _,_,i+1,.cons q t=>.cons q (au.set r i t)
def au.append:∀{xs ys:List V}{us ws:List Value},au xs us->au ys ws->au (xs++ys) (us++ws)
 | _,_,_,_,.nil,s=>s
 | _,_,_,_,.cons r t,s=>.cons r (au.append t s)
def au.take:∀{xs:List V}{us:List Value} (n:Nat),au xs us->au (xs.take n) (us.take n)
 | _,_,0,_=>.nil
 | _,_,_+1,.nil=>.nil
 | _,_,n+1,.cons r t=>.cons r (au.take n t)
def au.drop:∀{xs:List V}{us:List Value} (n:Nat),au xs us->au (xs.drop n) (us.drop n)
 | _,_,0,r=>r
 | _,_,_+1,.nil=>.nil
 | _,_,n+1,.cons _ t=>au.drop n t
def Cr:Option V->Option Value->Prop
 | some v,some u=>aI v u
 | none,none=>True
 | _,_=>False
def KV{κ:Type}:List (κ×V)->List (κ×Value)->Prop:=Paired λ(p:κ×V) (q:κ×Value)=>p.1=q.1/\aI p.2 q.2
def kV:Key->V
 | .inl i=>.int i
 | .inr x=>.str x
inductive HO where
 | lst (xs:List V)
 | tup (xs:List V)
 | dK (kvs:List (Key×V)) | dT (kvs:List (List Key×V))
 | set (S:Int->Bool) (n:Nat)
 | ins (C dx:Addr) (fs:List (Str×V))
 | own (x:Addr)
 | xd (fs:List (Str×V))
 | met (f x:Addr)
 | rng (lo hi:Int)
 | frz (o:Obj) (u:HO)
 | tbl (ps:Array Value)
 | ext (φ:Program->World->Heap->Prop)
abbrev Hp:=Addr->Option HO
def upd(H:Hp)(a:Addr)(o:HO):Hp:=λb=>if b=a then some o else H b
def aA:upd H a o a=some o:=by unfold upd;rw[if_pos rfl]
def af(h:b≠a):upd H a o b=H b:=by unfold upd;rw[if_neg h]
def Am{H:Hp}{a b:Addr}{o u:HO}(h:H a=some o)(h':H b=some u)(d:o≠u):a≠b:=by
 intro e;subst e;rw[h]at h';exact d (AAR h')
def ad{H:Hp}{a b:Addr}{o:HO}(h:H a=some o)(h':H b=none):a≠b:=by
 intro e;subst e;rw[h]at h';cases h'
section
variable(P:Program)(w:World)
def Bo(h:Heap)(a:Addr)(items:Array Value):Prop:=∃o,h.get? a=some o/\o.cls=.type "tuple"/\(∃n,o.data=.seq items n)/\o.dict=none
def Bo.tup:Bo h a items->IsTup h a items:=λ⟨o,e,c,⟨n,d⟩,_⟩=>⟨o,e,c,n,d⟩
def Bo.new(h:Heap)(items:Array Value):Bo (h.push { cls:=.type "tuple",data:=.seq items }) h.objs.size items:=⟨_,AAC _ rfl,rfl,⟨_,rfl⟩,rfl⟩
def bQ(H:Hp)(h:Heap)(a:Addr):HO->Prop
 | .lst xs=>xs.length<=sizeLine/\∃(its:List Value) (n:Nat),au xs its/\h.get? a=some { cls:=.type "list",data:=.seq its.toArray n }
 | .tup xs=>xs.length<=sizeLine/\∃its:List Value,au xs its/\Bo h a its.toArray
 | .dK kvs=>kvs.length<=sizeLine/\(a==sysModules)=false/\∃vs,KV kvs vs/\h.DictOf (cj P w) a vs
 | .dT kvs=>kvs.length<=sizeLine/\(a==sysModules)=false/\∃xs:List (List Key×Addr×Value),
   Paired (λ(p:List Key×V) (q:List Key×Addr×Value)=>p.1=q.1/\H q.2.1=some (.tup (p.1.map kV))/\aI p.2 q.2.2) kvs xs /\
   ∃o es ep,h.get? a=some o/\o.ExactDict/\o.data=.dict es ep/\es.toList=xs.map (entryOfKey (tupleKind (cj P w)))/\(xs.map (·.1)).Nodup
 | .set S n=>h.SetOf (intKind P w) a S n
 | .ins C dx fs=>H dx=some (.own a)/\fs.length<=1000/\dx≠a/\h.get? a=some (PySem.W.instObj C dx) /\
   ∃mA,h.Ns1 dx mA/\(∀f,Cr (fs.lookup f) (mA f))/\PySem.Within mA (fs.map (·.1))
 | .own _=>∃o,h.get? a=some o
 | .xd fs=>∃mA,h.Ns1 a mA/\∀f,Cr (fs.lookup f) (mA f)
 | .rng lo hi=>∃t u v,h.get? a=some { cls:=.type "range",data:=.fields #[.int lo t,.int hi u,.int 1 v] }
 | .frz o u=>h.get? a=some o/\bQ H h a u
 | .tbl ps=>h.get? a=some { cls:=.none,data:=.fields ps }
 | .met f x=>h.get? a=some (AEg (.ref f) (.ref x))
 | .ext φ=>φ P w h/\(∃o,h.get? a=some o)/\∀h1 h2:Heap,φ P w h1->(∀o,h1.get? a=some o->h2.get? a=some o)->φ P w h2
def HOk(H:Hp)(h:Heap):Prop:=∀a o,H a=some o->bQ P w H h a o
end
section
variable{P:Program}{w:World}{H H':Hp}{h h':Heap}{a:Addr}{o:HO}
def bQ.lt(x:bQ P w H h a o):a<h.objs.size:=by
 cases o with
 | lst xs=>obtain⟨_,_,_,_,e⟩:=x;exact AAG e
 | tup xs=>obtain⟨_,_,_,p⟩:=x;exact p.tup.lt
 | dK kvs=>obtain⟨_,_,_,_,o,_,_,e,_⟩:=x;exact AAG e
 | dT kvs=>obtain⟨_,_,_,_,o,_,_,e,_⟩:=x;exact AAG e
 | set S n=>obtain⟨o,_,_,_,e,_⟩:=x;exact AAG e
 | ins C dx fs=>obtain⟨_,_,_,e,_⟩:=x;exact AAG e
 | own y=>obtain⟨_,e⟩:=x;exact AAG e
 | xd fs=>obtain⟨_,⟨_,_,_,e,_⟩,_⟩:=x;exact AAG e
 | rng lo hi=>obtain⟨_,_,_,e⟩:=x;exact AAG e
 | frz ob u=>obtain⟨e,_⟩:=x;exact AAG e
 | tbl ps=>exact AAG (show h.get? a=some _ from x)
 | met f y=>exact AAG (show h.get? a=some _ from x)
 | ext φ=>obtain⟨_,⟨_,e⟩,_⟩:=x;exact AAG e
def Paired.mapP{α β:Type}{F G:α->β->Prop}:∀{l₁:List α}{l₂:List β},Paired F l₁ l₂->(∀a b,F a b->G a b)->Paired G l₁ l₂
 | _,_,.nil,_=>.nil
 | _,_,.cons r t,f=>.cons (f _ _ r) (Paired.mapP t f)
def bQ.stay(x:bQ P w H h a o)(k:∀b u,(b=a\/H b=some (.own a))->h.get? b=some u->h'.get? b=some u)
  (ho:∀b,H b=some (.own a)->H' b=some (.own a)) (ht:∀b xs,H b=some (.tup xs)->H' b=some (.tup xs)):bQ P w H' h' a o:=by
 induction o with
 | lst xs=>obtain⟨z,its,n,r,e⟩:=x;exact⟨z,its,n,r,k _ _ (.inl rfl) e⟩
 | tup xs=>obtain⟨z,its,r,ob,e,c⟩:=x;exact⟨z,its,r,ob,k _ _ (.inl rfl) e,c⟩
 | dK kvs=>obtain⟨z,y,vs,r,ob,es,ep,e,c⟩:=x;exact⟨z,y,vs,r,ob,es,ep,k _ _ (.inl rfl) e,c⟩
 | dT kvs =>
  obtain⟨z,y,xs,r,ob,es,ep,e,c⟩:=x;exact⟨z,y,xs,Paired.mapP r λp q z=>⟨z.1,ht _ _ z.2.1,z.2.2⟩,ob,es,ep,k _ _ (.inl rfl) e,c⟩
 | set S n=>obtain⟨ob,es,ep,t,e,c⟩:=x;exact⟨ob,es,ep,t,k _ _ (.inl rfl) e,c⟩
 | ins C dx fs =>
  obtain⟨d,z,ne,e,mA,⟨od,es,ep,e2,c⟩,r⟩:=x;exact⟨ho _ d,z,ne,k _ _ (.inl rfl) e,mA,⟨od,es,ep,k _ _ (.inr d) e2,c⟩,r⟩
 | own y=>obtain⟨ob,e⟩:=x;exact⟨ob,k _ _ (.inl rfl) e⟩
 | xd fs=>obtain⟨mA,⟨od,es,ep,e,c⟩,r⟩:=x;exact⟨mA,⟨od,es,ep,k _ _ (.inl rfl) e,c⟩,r⟩
 | rng lo hi=>obtain⟨t,u,v,e⟩:=x;exact⟨t,u,v,k _ _ (.inl rfl) e⟩
 | frz ob u ih=>obtain⟨e,q⟩:=x;exact⟨k _ _ (.inl rfl) e,ih q⟩
 | tbl ps =>
  have e:h.get? a=some { cls:=.none,data:=.fields ps }:=x;show h'.get? a=some { cls:=.none,data:=.fields ps };exact k a _ (.inl rfl) e
 | met f y =>
  have e:h.get? a=some (AEg (.ref f) (.ref y)):=x;show h'.get? a=some (AEg (.ref f) (.ref y));exact k a _ (.inl rfl) e
 | ext φ=>obtain⟨p,⟨o,e⟩,st⟩:=x;exact⟨st _ _ p λo q=>k _ _ (.inl rfl) q,⟨o,k _ _ (.inl rfl) e⟩,st⟩
def HOk.lt(x:HOk P w H h)(e:H a=some o):a<h.objs.size:=(x a o e).lt
def HOk.fresh(x:HOk P w H h)(e:h.objs.size<=a):H a=none:=by
 cases q:H a with
 | none=>rfl
 | some u=>exact absurd (AAd (x.lt q) e) (AAn _)
def HOk.kept(x:HOk P w H h)(k:∀b u,h.get? b=some u->h'.get? b=some u):HOk P w H h':=λa o e =>
 (x a o e).stay (λb u _ q=>k b u q) (λ_ q=>q) λ_ _ q=>q
def HOk.laid(x:HOk P w H h)(k:∀b u,h.get? b=some u->h'.get? b=some u)(hp:h.objs.size<=a)(new:bQ P w (upd H a o) h' a o):HOk P w (upd H a o) h':=λb u e=>by
 have hn:=x.fresh hp;by_cases hb:b=a
 ·subst hb;rw[aA]at e;cases e;exact new
 ·rw[af hb]at e
  exact(x b u e).stay (λc v _ q=>k c v q) (λc q=>by rw[af (ad q hn)];exact q) λc xs q=>by rw[af (ad q hn)];exact q
end
def Rd(H:Hp)(a:Addr)(u:HO):Prop:=H a=some u\/∃o,H a=some (.frz o u)
def Rd.ok(r:Rd H a u)(x:HOk P w H h):bQ P w H h a u:=by
 rcases r with r | ⟨o,r⟩
 ·exact x a u r
 ·obtain⟨_,q⟩:=x a _ r
  exact q
def Mut:Option HO->Prop
 | some (.lst _)=>True
 | some (.dK _)=>True
 | some (.dT _)=>True
 | some (.set _ _)=>True
 | some (.ins _ _ _)=>True
 | some (.ext _)=>True
 | _=>False
section
variable{P:Program}{w:World}{H:Hp}{h h':Heap}{x e:Addr}{o':HO}
def HOk.write(ok:HOk P w H h)(mu:Mut (H x))(he:e=x\/H e=some (.own x))(k:∀b u,b≠e->h.get? b=some u->h'.get? b=some u)(heo:∃u,h'.get? e=some u)
  (new:bQ P w (upd H x o') h' x o'):HOk P w (upd H x o') h':=λb u q=>by
 have nown:∀c y,H c=some (.own y)->c≠x:=λc y r z=>by subst z;rw[r]at mu;exact mu
 have ntup:∀c xs,H c=some (.tup xs)->c≠x:=λc xs r z=>by subst z;rw[r]at mu;exact mu
 by_cases hb:b=x
 ·subst hb;rw[aA]at q;cases q;exact new
 ·rw[af hb]at q
  by_cases hbe:b=e
  ·have q':H b=some (.own x):=by
    rcases he with z | z
    ·exact absurd (hbe.trans z) hb
    ·rw[hbe];exact z
   rw[q]at q';cases q';obtain⟨v,hv⟩:=heo;exact⟨v,by rw[hbe];exact hv⟩
  ·refine(ok b u q).stay (λc v hc r=>k c v ?_ r) (λc r=>by rw[af (nown c b r)];exact r) λc xs r=>by rw[af (ntup c xs r)];exact r
   rcases hc with rfl | hc
   ·exact hbe
   ·rintro rfl
    rcases he with z | z
    ·exact nown c b hc z
    ·rw[hc]at z;cases z;exact hb rfl
end
structure Un(fs ex:List Addr)(H H':Hp)(h h':Heap):Prop where
 keep:∀b o,h.get? b=some o->H b=none->b∉fs->b∉ex->h'.get? b=some o
 slot:∀b o,h.get? b=some o->H b=none->b∈fs->b∉ex->∃sl,h'.get? b=some { o with slots:=sl }
 free:∀b o,h.get? b=some o->H b=none->b∉ex->H' b=none
 there:∀b o,h.get? b=some o->b∉ex->∃o',h'.get? b=some o'
 tups:∀b xs,H b=some (.tup xs)->H' b=some (.tup xs)
 frzs:∀b o u,H b=some (.frz o u)->H' b=some (.frz o u)
 tbls:∀b ps,H b=some (.tbl ps)->∃more,H' b=some (.tbl (ps++more))
section
variable{fs fs' ex ex':List Addr}{H H1 H2:Hp}{h h1 h2 h':Heap}{a x e:Addr}{o:HO}
def Un.any(u:Un fs ex H H1 h h1)(q:h.get? b=some ob)(n:H b=none)(hx:b∉ex):∃sl,h1.get? b=some { ob with slots:=sl }:=by
 by_cases hb:b∈fs
 ·exact u.slot b ob q n hb hx
 ·exact⟨ob.slots,u.keep b ob q n hb hx⟩
def Un.kept(k:∀b u,h.get? b=some u->h'.get? b=some u):Un fs ex H H h h' :=
 ⟨λb ob q _ _ _=>k b ob q,λb ob q _ _ _=>⟨ob.slots,k b ob q⟩,λ_ _ _ n _=>n,λb ob q _=>⟨ob,k b ob q⟩,λ_ _ q=>q,λ_ _ _ q=>q,λ_ ps q=>⟨#[],by rw[q];simp⟩⟩
def Un.refl:Un fs ex H H h h:=Un.kept λ_ _ q=>q
def Un.laid(k:∀b u,h.get? b=some u->h'.get? b=some u)(hp:h.objs.size<=a)(hn:H a=none):Un fs ex H (upd H a o) h h' where
 keep:=λb u q _ _ _=>k b u q
 slot:=λb u q _ _ _=>⟨u.slots,k b u q⟩
 free:=λb u q n _=>by rw[af (AAO (AAd (AAG q) hp))];exact n
 there:=λb u q _=>⟨u,k b u q⟩
 tups:=λb xs q=>by rw[af (ad q hn)];exact q
 frzs:=λb u xs q=>by rw[af (ad q hn)];exact q
 tbls:=λb ps q=>⟨#[],by rw[af (ad q hn),q];simp⟩
def Un.write(mu:Mut (H x))(he:e=x\/H e=some (.own x))(k:∀b u,b≠e->h.get? b=some u->h'.get? b=some u)(heo:∃u,h'.get? e=some u):Un fs ex H (upd H x o) h h':=by
 have hx:∀b,H b=none->b≠x:=λb n z=>by subst z;rw[n]at mu;exact mu
 have hb:∀b,H b=none->b≠e:=λb n z=>by
  subst z;rcases he with r | r
  ·exact hx b n r
  ·rw[n]at r;cases r
 have hm:∀b u,H b=some u->¬Mut (some u)->b≠x:=λb u q nm z=>by subst z;rw[q]at mu;exact nm mu
 refine⟨λb u q n _ _=>k b u (hb b n) q,λb u q n _ _=>⟨u.slots,k b u (hb b n) q⟩,λb u q n _=>by rw[af (hx b n)];exact n,λb u q _=>?_,
  λb xs q=>by rw[af (hm b _ q λz=>z)];exact q,λb u xs q=>by rw[af (hm b _ q λz=>z)];exact q,λb ps q=>⟨#[],by rw[af (hm b _ q λz=>z),q];simp⟩⟩
 by_cases hbe:b=e
 ·subst hbe;exact heo
 ·exact⟨u,k b u hbe q⟩
end
def trk(h:Heap)(H:Hp):List Addr:=(AAu h.objs.size).filter λa=>(H a).isSome
def zA(h:Heap)(H:Hp):Heap:=PySem.W.hideAll h (trk h H)
def yJ(h:Heap)(H:Hp):(zA h H).objs.size=h.objs.size:=PySem.W.hideAll_size _ _
def AK(e:h.get? b=some o)(n:H b=none):(zA h H).get? b=some o :=
 PySem.W.hideAll_get _ e λhm=>by
  have q:(H b).isSome=true:=(AAj.mp hm).2;rw[n]at q;simp at q
def Ds(e:(zA h H).get? b=some o):h.get? b=some o/\H b=none:=by
 have e':h.get? b=some o:=PySem.W.of_hideAll (trk h H) e;refine⟨e',?_⟩;cases q:H b with
 | none=>rfl
 | some x =>
  have hm:b∈trk h H:=AAj.mpr ⟨AB2.mpr (AAG e'),by simp[q]⟩
  have z:(zA h H).get? b=none:=PySem.W.hideAll_none (trk h H) hm;rw[z]at e;cases e
def EM(g h:Heap)(L:Addr):List (Addr×Obj):=(AAu h.objs.size).filterMap λa=>if a=L\/(g.get? a).isSome=true then none else(h.get? a).map λo=>(a,o)
def aJ(g h:Heap)(L d:Addr):List (Addr×Obj):=(EM g h L).filter λp=>decide (p.1≠d)
structure Mod(K:AA6)(mg:Str->Option Value)(base:Heap):Prop where
 kin:K.In base
 glob:base.Ns mainGlobals mg
 blt:∃mb,base.Ns builtinsNs mb/\∀x:Str,x≠"__name__"->mb x=bootBuiltins x
 nolimit:base.NoLimit
/-- the context: a def's body (or a comprehension's block) running. base: fixed through the whole law;s₀,H₀: the entry;outer: the frames whose slots others may change (a def's callers);stack: all frames that run;
  ex: iterators that were made dZ of the entry and are walked here (a comprehension's);fn: the names whose cells were made at the entry (a def: all;a comprehension's block: its own);calm: not Fb an except suite;pn: pins that every state bears;xe: what is wanted of an exception that leaves the code -/
structure Cx where
 prog:Program
 w:World
 K:AA6
 mg:Str->Option Value
 base:Heap
 A:Around
 N:List Str
 s₀:Shared
 H₀:Hp
 env:Env
 outer:List Env
 stack:List Env
 ex:List Addr
 fn:Str->Bool
 calm:Bool
 pn:List (Addr×Obj)
 xe:Value->Shared->Prop
def frs(l:List Env):List Addr:=l.filterMap (·.frame)
abbrev Cx.fs(X:Cx):List Addr:=frs X.outer
def Vis(sc:Scope)(x:Str):Prop:=sc.names.lookup x=some .local\/sc.names.lookup x=some .cell\/sc.names.lookup x=some .free
def Loc(sc:Scope)(x:Str):Prop:=sc.names.lookup x=some .local\/sc.names.lookup x=some .cell
def Look(env:Env)(h:Heap)(m:Str->Option Value)(x:Str)(u:Value):Prop :=
 (env.kindOf x=some .local/\m x=some u)\/((env.kindOf x=some .cell\/env.kindOf x=some .free)/\∃c,env.cells.lookup x=some c/\h.IsCell c (some u))
structure Cx.Ok(X:Cx):Prop where
 mod:Mod X.K X.mg X.base
 kind:X.env.scope.kind=.function
 glob:X.env.globals=mainGlobals
 blt:X.env.builtins=builtinsNs
 above:X.s₀.heap.objs.size<=X.env.locals
 inj:∀x y c,X.env.cells.lookup x=some c->X.env.cells.lookup y=some c->x=y
 has:∀x,(X.env.kindOf x=some .cell\/X.env.kindOf x=some .free)->∃c,X.env.cells.lookup x=some c
 cab:∀x c,X.fn x=true->X.env.cells.lookup x=some c->X.s₀.heap.objs.size<=c
 hd:X.calm=true->X.A.handled=none
 frames:X.A.frames=some X.stack
 stk:X.stack=X.outer\/(X.stack=X.env::X.outer/\X.env.frame=some X.env.locals)
 exf:∀b∈X.ex,b≠X.env.locals/\∀x c,X.env.cells.lookup x=some c->c≠b
 bs:∀b o,X.base.get? b=some o->X.s₀.heap.get? b=some o/\X.H₀ b=none
 bsz:X.base.objs.size<=X.s₀.heap.objs.size
 noex:∀b o,X.base.get? b=some o->b∉X.ex
 exfs:∀b∈X.ex,b∉X.fs
 funs:X.s₀.heap.FunFrames X.base X.outer
 frf:∀b∈X.fs,X.H₀ b=none
structure Inv(X:Cx)(pins:List (Addr×Obj))(σ:List (Option V))(H:Hp)(s:Shared):Prop where
 ok:X.Ok
 os:s.os=X.s₀.os
 bare:AllBare s.gens
 base:Un X.fs X.ex X.H₀ H X.s₀.heap s.heap
 loc:∃m,s.heap.Ns X.env.locals m/\∀(i:Nat) (x:Str) (v:V),X.N[i]?=some x->σ[i]?=some (some v)->Vis X.env.scope x->∃u,aI v u/\Look X.env s.heap m x u
 cell:∀x c,X.env.cells.lookup x=some c->∃v,s.heap.IsCell c v
 free:H X.env.locals=none
 freeC:∀x c,X.env.cells.lookup x=some c->H c=none
 pin:∀p∈X.pn++pins,s.heap.get? p.1=some p.2/\H p.1=none/\p.1≠X.env.locals/\p.1∉X.fs/\∀v,p.2.data≠.cell v
 hok:HOk X.prog X.w H s.heap
 len:σ.length=X.N.length
section
variable{X:Cx}{pins:List (Addr×Obj)}{σ:List (Option V)}{H H':Hp}{s:Shared}{h':Heap}
def Cx.Ok.nofr(ok:X.Ok)(e:X.base.get? b=some o):b∉X.fs:=λhb=>by
 have:=(ok.funs.mem hb).1;rw[e]at this;cases this
def Inv.bs(I:Inv X pins σ H s):∀b o,X.base.get? b=some o->s.heap.get? b=some o/\H b=none:=λb o e =>
 ⟨I.base.keep b o (I.ok.bs b o e).1 (I.ok.bs b o e).2 (I.ok.nofr e) (I.ok.noex b o e),I.base.free b o (I.ok.bs b o e).1 (I.ok.bs b o e).2 (I.ok.noex b o e)⟩
def Inv.bk(I:Inv X pins σ H s):∀b o,X.base.get? b=some o->s.heap.get? b=some o:=λb o e=>(I.bs b o e).1
def Inv.mod(I:Inv X pins σ H s):Mod X.K X.mg X.base:=I.ok.mod
def Inv.kIn(I:Inv X pins σ H s):X.K.In s.heap:=I.ok.mod.kin.keeps I.bk
def Inv.lt(I:Inv X pins σ H s):X.env.locals<s.heap.objs.size:=let ⟨_,hn,_⟩:=I.loc;hn.lt
def Inv.sz(I:Inv X pins σ H s):X.s₀.heap.objs.size<=s.heap.objs.size:=AB3 I.ok.above (ACN I.lt)
def Inv.nofs(I:Inv X pins σ H s)(h:s.heap.objs.size<=a):a∉X.fs:=λhb=>by
 obtain⟨_,o,ho,_⟩:=I.ok.funs.mem hb;exact absurd (AAd (AAG ho) (AB3 I.sz h)) (AAn _)
def Inv.cne(I:Inv X pins σ H s):∀x c,X.env.cells.lookup x=some c->c≠X.env.locals:=λx c e z=>by
 obtain⟨v,o,ho,hd⟩:=I.cell x c e;obtain⟨m,⟨o',es,ep,ho',hd',_⟩,_⟩:=I.loc;rw[z,ho']at ho;cases ho;rw[hd']at hd;cases hd
def Inv.funs(I:Inv X pins σ H s):s.heap.FunFrames X.base X.outer:=by
 have all:∀(l:List Env),(∀b∈frs l,b∈X.fs)->X.s₀.heap.FunFrames X.base l->s.heap.FunFrames X.base l:=by
  intro l;induction l with
  | nil=>intro _ _;trivial
  | cons env r ih =>
   intro hs hl;obtain⟨hk,⟨L,o,hf,hn,ho,hd⟩,hr⟩:=hl;have hL:L∈X.fs:=hs L (by unfold frs;rw[AC4,hf];exact AAI)
   obtain⟨sl,e⟩:=I.base.slot L o ho (I.ok.frf L hL) hL λz=>I.ok.exfs L z hL
   exact⟨hk,⟨L,_,hf,hn,e,hd⟩,ih (λb hb=>hs b (by unfold frs;rw[AC4,hf];exact AA9 _ hb)) hr⟩
 exact all X.outer (λ_ hb=>hb) I.ok.funs
def Inv.stack(I:Inv X pins σ H s):s.heap.FunFrames X.base X.stack:=by
 rcases I.ok.stk with e | ⟨e,hf⟩
 ·rw[e];exact I.funs
 ·rw[e]
  obtain⟨m,hn,_⟩:=I.loc;refine .cons (by rw[I.ok.kind];decide) hf hn ?_ I.funs
  exact Heap.get?_none_of_le (AB3 I.ok.bsz I.ok.above)
def Inv.stkSub(I:Inv X pins σ H s):∀b∈frs X.stack,b∈X.env.locals::X.fs:=λb hb=>by
 rcases I.ok.stk with e | ⟨e,hf⟩
 ·rw[e]at hb;exact AA9 _ hb
 ·rw[e]at hb
  unfold frs at hb;rw[AC4,hf]at hb;exact hb
def Inv.stkFree(I:Inv X pins σ H s):∀b∈frs X.stack,H b=none:=λb hb=>by
 rcases AAJ.mp (I.stkSub b hb)with e | hb
 ·rw[e];exact I.free
 ·obtain⟨_,o,ho,_⟩:=I.ok.funs.mem hb
  exact I.base.free b o ho (I.ok.frf b hb) λz=>I.ok.exfs b z hb
def Inv.step{g':Array GenState}{t':Nat}{d':Drawn}{ch:List Addr}(I:Inv X pins σ H s)
  (hch:∀b∈ch,(b∈X.ex\/X.s₀.heap.objs.size<=b)/\b≠X.env.locals/\(∀x c,X.env.cells.lookup x=some c->c≠b)/\∀p∈X.pn++pins,p.1≠b)
  (keep:∀b o,b≠X.env.locals->b∉X.fs->b∉ch->s.heap.get? b=some o->H b=none->h'.get? b=some o)
  (slot:∀b o,b≠X.env.locals->b∈X.fs->b∉ch->s.heap.get? b=some o->H b=none->∃sl,h'.get? b=some { o with slots:=sl }) (free:∀b o,b∉ch->s.heap.get? b=some o->H b=none->H' b=none)
  (there:∀b o,b∉ch->s.heap.get? b=some o->∃o',h'.get? b=some o')
  (tups:∀b xs,H b=some (.tup xs)->H' b=some (.tup xs)) (frzs:∀b o u,H b=some (.frz o u)->H' b=some (.frz o u)) (tbls:∀b ps,H b=some (.tbl ps)->∃more,H' b=some (.tbl (ps++more)))
  (ns:∀m,s.heap.Ns X.env.locals m->h'.Ns X.env.locals m) (hok:HOk X.prog X.w H' h') (hg:AllBare g') :
  Inv X pins σ H' { s with heap:=h',gens:=g',drawn:=d',toks:=t' }:=by
 have neL:∀b o,X.s₀.heap.get? b=some o->b≠X.env.locals:=λb o e=>AAO (AAd (AAG e) I.ok.above)
 have neC:∀b o,X.s₀.heap.get? b=some o->b∉X.ex->b∉ch:=λb o e hx hb=>by
  rcases(hch b hb).1 with z | z
  ·exact hx z
  ·exact absurd (AAd (AAG e) z) (AAn _)
 have cellK:∀x c,X.env.cells.lookup x=some c->∀v,s.heap.IsCell c v->h'.IsCell c v:=λx c e v ⟨o,ho,hd⟩=>by
  have nch:c∉ch:=λz=>(hch c z).2.2.1 x c e rfl
  by_cases hc:c∈X.fs
  ·obtain⟨sl,q⟩:=slot c o (I.cne x c e) hc nch ho (I.freeC x c e)
   exact⟨_,q,hd⟩
  ·exact⟨o,keep c o (I.cne x c e) hc nch ho (I.freeC x c e),hd⟩
 refine⟨I.ok,I.os,hg,⟨λb o e n hb hx=>?_,λb o e n hb hx=>?_,λb o e n hx=>?_,λb o e hx=>?_,λb xs e=>tups b xs (I.base.tups b xs e),λb o xs e=>frzs b o xs (I.base.frzs b o xs e),λb ps e=>?_⟩,?_,λx c e=>?_,?_,λx c e=>?_,λp hp=>?_,hok,I.len⟩
 ·exact keep b o (neL b o e) hb (neC b o e hx) (I.base.keep b o e n hb hx) (I.base.free b o e n hx)
 ·obtain⟨sl,e1⟩:=I.base.slot b o e n hb hx
  obtain⟨sl',e2⟩:=slot b _ (neL b o e) hb (neC b o e hx) e1 (I.base.free b o e n hx);exact⟨sl',e2⟩
 ·obtain⟨o',e1⟩:=I.base.there b o e hx
  exact free b o' (neC b o e hx) e1 (I.base.free b o e n hx)
 ·obtain⟨o',e1⟩:=I.base.there b o e hx
  exact there b o' (neC b o e hx) e1
 ·obtain⟨m1,e1⟩:=I.base.tbls b ps e
  obtain⟨m2,e2⟩:=tbls b _ e1;exact⟨m1++m2,by rw[e2,Array.append_assoc]⟩
 ·obtain⟨m,hn,hl⟩:=I.loc
  refine⟨m,ns m hn,λi x v e1 e2 e3=>?_⟩
  obtain⟨u,r,l⟩:=hl i x v e1 e2 e3;refine⟨u,r,?_⟩;rcases l with l | ⟨k,c,e,z⟩
  ·exact .inl l
  ·exact .inr ⟨k,c,e,cellK x c e _ z⟩
 ·obtain⟨v,z⟩:=I.cell x c e
  exact⟨v,cellK x c e v z⟩
 ·obtain⟨m,⟨o,_,_,ho,_⟩,_⟩:=I.loc
  exact free _ o (λz=>(hch _ z).2.1 rfl) ho I.free
 ·obtain⟨v,o,ho,hd⟩:=I.cell x c e
  exact free c o (λz=>(hch c z).2.2.1 x c e rfl) ho (I.freeC x c e)
 ·obtain⟨e,n,ne,nf,d⟩:=I.pin p hp
  have nch:p.1∉ch:=λz=>(hch p.1 z).2.2.2 p hp rfl
  exact⟨keep p.1 p.2 ne nf nch e n,free p.1 p.2 nch e n,ne,nf,d⟩
theorem Inv.un{t':Nat}(I:Inv X pins σ H s)(u:Un X.fs [] H H' s.heap h')(hok:HOk X.prog X.w H' h'):Inv X pins σ H' { s with heap:=h',toks:=t' }:=by
 obtain⟨m,⟨o,es,ep,ho,r⟩,_⟩:=id I.loc;obtain⟨sl,hL⟩:=u.any ho I.free (by simp)
 exact I.step (g':=s.gens) (d':=s.drawn) (ch:=[]) (λ_ z=>nomatch z) (λb o _ hb _ e n=>u.keep b o e n hb (by simp)) (λb o _ hb _ e n=>u.slot b o e n hb (by simp)) (λb o _ e n=>u.free b o e n (by simp)) (λb o _ e=>u.there b o e (by simp)) u.tups u.frzs u.tbls (λm' hm=>by
  obtain⟨o',es',ep',ho',r'⟩:=hm;rw[ho]at ho';cases ho';exact⟨_,es',ep',hL,r'⟩) hok I.bare
theorem Inv.call{g':Array GenState}{t':Nat}{d':Drawn}{ch:List Addr}(I:Inv X pins σ H s)(u:Un (frs X.stack) ch H H' s.heap h')(hok:HOk X.prog X.w H' h')(hg:AllBare g')
  (hch:∀b∈ch,(b∈X.ex\/X.s₀.heap.objs.size<=b)/\b≠X.env.locals/\(∀x c,X.env.cells.lookup x=some c->c≠b)/\∀p∈X.pn++pins,p.1≠b) :
  Inv X pins σ H' { s with heap:=h',gens:=g',drawn:=d',toks:=t' }:=by
 obtain⟨m,⟨o,es,ep,ho,r⟩,_⟩:=id I.loc;obtain⟨sl,hL⟩:=u.any ho I.free λz=>(hch _ z).2.1 rfl
 exact I.step (ch:=ch) hch (λb o hL hb hc e n=>u.keep b o e n (λz=>(AAJ.mp (I.stkSub b z)).elim hL hb) hc) (λb o _ _ hc e n=>u.any e n hc) (λb o hc e n=>u.free b o e n hc) (λb o hc e=>u.there b o e hc) u.tups u.frzs u.tbls (λm' hm=>by
  obtain⟨o',es',ep',ho',r'⟩:=hm;rw[ho]at ho';cases ho';exact⟨_,es',ep',hL,r'⟩) hok hg
def Inv.turned{t':Nat}{it:Addr}(I:Inv X pins σ H s)(k:∀b o,b≠it->s.heap.get? b=some o->h'.get? b=some o)(hn:H it=none)(hL:it≠X.env.locals)
  (h1:it∈X.ex\/X.s₀.heap.objs.size<=it) (h2:∀x c,X.env.cells.lookup x=some c->c≠it) (h3:∀p∈X.pn++pins,p.1≠it):Inv X pins σ H { s with heap:=h',toks:=t' }:=by
 have nit:∀b u,H b=some u->b≠it:=λb u e z=>by rw[z,hn]at e;cases e
 refine I.step (g':=s.gens) (d':=s.drawn) (ch:=[it]) (λb hb=>?_) (λb o _ _ hc e _=>k b o (λz=>hc (by simp[z])) e) (λb o _ _ hc e _=>⟨o.slots,k b o (λz=>hc (by simp[z])) e⟩) (λ_ _ _ _ n=>n)
  (λb o hc e=>⟨o,k b o (λz=>hc (by simp[z])) e⟩) (λ_ _ e=>e) (λ_ _ _ e=>e) (λb ps e=>⟨#[],by rw[e];simp⟩) (λm hm=>?_) (λb u e=>?_) I.bare
 ·have e:b=it:=by simpa using hb
  subst e;exact⟨h1,hL,h2,h3⟩
 ·obtain⟨o,es,ep,ho,r⟩:=hm
  exact⟨o,es,ep,k _ o (ABO hL) ho,r⟩
 ·refine(I.hok b u e).stay (λc v hc q=>k c v ?_ q) (λ_ q=>q) λ_ _ q=>q
  rcases hc with z | z
  ·rw[z];exact nit b u e
  ·exact nit c _ z
def Inv.tok(I:Inv X pins σ H s)(t:Nat):Inv X pins σ H { s with toks:=t }:=I.un (h':=s.heap) (t':=t) Un.refl I.hok
def Inv.kept(I:Inv X pins σ H s)(k:∀b u,s.heap.get? b=some u->h'.get? b=some u):Inv X pins σ H { s with heap:=h',toks:=t' }:=I.un (Un.kept k) (I.hok.kept k)
def Inv.laid(I:Inv X pins σ H s)(k:∀b u,s.heap.get? b=some u->h'.get? b=some u)(hp:s.heap.objs.size<=a)(new:bQ X.prog X.w (upd H a o) h' a o) :
  Inv X pins σ (upd H a o) { s with heap:=h',toks:=t' }:=I.un (Un.laid k hp (I.hok.fresh hp)) (I.hok.laid k hp new)
def Inv.write(I:Inv X pins σ H s)(mu:Mut (H x))(he:e=x\/H e=some (.own x))(k:∀b u,b≠e->s.heap.get? b=some u->h'.get? b=some u)(heo:∃u,h'.get? e=some u)
  (new:bQ X.prog X.w (upd H x o) h' x o):Inv X pins σ (upd H x o) { s with heap:=h',toks:=t' }:=I.un (Un.write mu he k heo) (I.hok.write mu he k heo new)
def Inv.pins_of(I:Inv X pins σ H s)(h:∀p∈pins',s.heap.get? p.1=some p.2/\H p.1=none/\p.1≠X.env.locals/\p.1∉X.fs/\∀v,p.2.data≠.cell v):Inv X pins' σ H s :=
 ⟨I.ok,I.os,I.bare,I.base,I.loc,I.cell,I.free,I.freeC,λp hp=>(AAa.mp hp).elim (λz=>I.pin p (AAP _ z)) (h p),I.hok,I.len⟩
def uk{N:List Str}(hN:N.Nodup){i j:Nat}{x:Str}(a:N[i]?=some x)(b:N[j]?=some x):i=j:=by
 obtain⟨h1,e1⟩:=AA7.mp a;obtain⟨h2,e2⟩:=AA7.mp b;exact(List.getElem_inj hN).mp (e1.trans e2.symm)
theorem xk{M:Model}{A:Around}{E:Value->Shared->Prop}{i:Nat}{x:Str}{v:V}{u:Value}{Q:Unit->Shared->Prop}(I:Inv X pins σ H s)(hN:X.N.Nodup)(hi:X.N[i]?=some x)(hx:Loc X.env.scope x)(r:aI v u)
  (h:∀s',Inv X pins (σ.set i (some v)) H s'->(∃a,ABx a s.heap s'.heap/\(a=X.env.locals\/X.env.cells.lookup x=some a))->Q () s') (hf:X.fn x=true\/X.env.scope.names.lookup x=some .local:=by first | exact .inl rfl | exact .inr rfl | assumption):wpAny M A (storeName X.env x u) Q E s:=by
 obtain⟨m,hn,hl⟩:=id I.loc;have hcls:(X.env.scope.kind==.class||(X.env.scope.kind==.module&&X.env.locals != X.env.globals))=false:=by rw[I.ok.kind];rfl
 have hiσ:i<σ.length:=by rw[I.len];exact(AA7.mp hi).1
 have cne:=I.cne;have tracked:∀{a:Addr}{h':Heap},(∃o,s.heap.get? a=some o/\H a=none)->ABx a s.heap h'->HOk X.prog X.w H h':=λ{a h'} ha hs b ob e=>by
  obtain⟨_,_,hfree⟩:=ha;refine(I.hok b ob e).stay (λc w' hc q=>(hs.2 c ?_).trans q) (λ_ q=>q) λ_ _ q=>q
  rintro rfl;rcases hc with rfl | hc
  ·rw[hfree]at e;cases e
  ·rw[hfree]at hc;cases hc
 rcases hx with hk | hk
 ·refine wpAny_storeName_local hk hn (λh' hn' hs=>?_) hcls
  obtain⟨oL,_,_,hoL,_⟩:=id hn;refine h _ ⟨I.ok,I.os,I.bare,⟨λb o e n hb hx=>?_,λb o e n hb hx=>?_,I.base.free,λb o e hx=>?_,I.base.tups,I.base.frzs,I.base.tbls⟩,⟨_,hn',λj y v' e1 e2 e3=>?_⟩,λy c e=>?_,I.free,I.freeC,λp hp=>?_,tracked ⟨oL,hoL,I.free⟩ hs,by simpa using I.len⟩ ⟨_,hs,.inl rfl⟩
  ·exact(hs.2 b (AAO (AAd (AAG e) I.ok.above))).trans (I.base.keep b o e n hb hx)
  ·obtain⟨sl,e1⟩:=I.base.slot b o e n hb hx
   exact⟨sl,(hs.2 b (AAO (AAd (AAG e) I.ok.above))).trans e1⟩
  ·obtain⟨o',e1⟩:=I.base.there b o e hx
   exact⟨o',(hs.2 b (AAO (AAd (AAG e) I.ok.above))).trans e1⟩
  ·by_cases hj:j=i
   ·subst hj
    rw[hi]at e1;cases e1;rw[AAx hiσ]at e2;cases e2
    exact⟨u,r,.inl ⟨hk,by simp⟩⟩
   ·rw[AAv (ABO hj)]at e2
    obtain⟨u',r',q⟩:=hl j y v' e1 e2 e3;refine⟨u',r',?_⟩;rcases q with⟨k,e⟩|⟨k,c,e,z⟩
    ·refine .inl ⟨k,?_⟩
     have:y≠x:=λe=>hj (uk hN e1 (e ▸ hi))
     simp[this,e]
    ·exact .inr ⟨k,c,e,z.sameBut hs (cne y c e)⟩
  ·obtain⟨w',z⟩:=I.cell y c e
   exact⟨w',z.sameBut hs (cne y c e)⟩
  ·obtain⟨e,n,ne,nf,d⟩:=I.pin p hp
   exact⟨(hs.2 p.1 ne).trans e,n,ne,nf,d⟩
 ·have hfn:X.fn x=true:=by
   rcases hf with z | z
   ·exact z
   ·rw[z]at hk;cases hk
  obtain⟨c,hc⟩:=I.ok.has x (.inl hk);obtain⟨w',z⟩:=I.cell x c hc;refine wpAny_storeName_cell I.ok.kind hk hc z (λh' hc' hs=>?_)
  obtain⟨oc,hoc,hocd⟩:=id z;refine h { s with heap:=h' } ⟨I.ok,I.os,I.bare,⟨λb o e n hb hx=>?_,λb o e n hb hx=>?_,I.base.free,λb o e hx=>?_,I.base.tups,I.base.frzs,I.base.tbls⟩,⟨m,hn.sameBut hs (ABO (cne x c hc)),λj y v' e1 e2 e3=>?_⟩,λy c' e=>?_,I.free,I.freeC,λp hp=>?_,tracked ⟨oc,hoc,I.freeC x c hc⟩ hs,by simpa using I.len⟩ ⟨c,hs,.inr hc⟩
  ·exact(hs.2 b (AAO (AAd (AAG e) (I.ok.cab x c hfn hc)))).trans (I.base.keep b o e n hb hx)
  ·obtain⟨sl,e1⟩:=I.base.slot b o e n hb hx
   exact⟨sl,(hs.2 b (AAO (AAd (AAG e) (I.ok.cab x c hfn hc)))).trans e1⟩
  ·obtain⟨o',e1⟩:=I.base.there b o e hx
   exact⟨o',(hs.2 b (AAO (AAd (AAG e) (I.ok.cab x c hfn hc)))).trans e1⟩
  ·by_cases hj:j=i
   ·subst hj
    rw[hi]at e1;cases e1;rw[AAx hiσ]at e2;cases e2
    exact⟨u,r,.inr ⟨.inl hk,c,hc,hc'⟩⟩
   ·rw[AAv (ABO hj)]at e2
    obtain⟨u',r',q⟩:=hl j y v' e1 e2 e3;refine⟨u',r',?_⟩;rcases q with q | ⟨k,c',e,z'⟩
    ·exact .inl q
    ·refine .inr ⟨k,c',e,z'.sameBut hs ?_⟩
     rintro rfl;exact hj (uk hN e1 (I.ok.inj _ _ _ e hc ▸ hi))
  ·by_cases hcc:c'=c
   ·subst hcc;exact⟨_,hc'⟩
   ·obtain⟨w2,z2⟩:=I.cell y c' e
    exact⟨w2,z2.sameBut hs hcc⟩
  ·obtain⟨e,n,ne,nf,d⟩:=I.pin p hp
   refine⟨(hs.2 p.1 ?_).trans e,n,ne,nf,d⟩;intro q;rw[q,hoc]at e;have q':oc=p.2:=AAR e;exact d w' (by rw[<-q'];exact hocd)
def uf(I:Inv X pins σ H s)(hN:X.N.Nodup)(hi:X.N[i]?=some x)(hx:Loc X.env.scope x)(r:aI v u)
  (h:∀s',Inv X pins (σ.set i (some v)) H s'->Q () s') (hf:X.fn x=true\/X.env.scope.names.lookup x=some .local:=by first | exact .inl rfl | exact .inr rfl | assumption):wpAny M A (storeName X.env x u) Q E s :=
 xk I hN hi hx r (λs' I' _=>h s' I') hf
def Inv.call'(I:Inv X pins σ H s)(ho:s'.os=s.os)(u:Un (frs X.stack) ch H H' s.heap s'.heap)(hok:HOk X.prog X.w H' s'.heap)(hg:AllBare s'.gens)
  (hch:∀b∈ch,(b∈X.ex\/X.s₀.heap.objs.size<=b)/\b≠X.env.locals/\(∀x c,X.env.cells.lookup x=some c->c≠b)/\∀p∈X.pn++pins,p.1≠b):Inv X pins σ H' s':=by
 obtain⟨h',g',d',t',o'⟩:=s';have e:o'=s.os:=ho;subst e;exact I.call (g':=g') (t':=t') (d':=d') u hok hg hch
end
abbrev XK:=Value->Option Addr->Hp->Prop
abbrev St:=List (Option V)
abbrev VK:=V->Hp->Prop
abbrev TE:=St->Hp->VK->Prop
abbrev TT:=St->Hp->(Bool->Hp->Prop)->Prop
abbrev TA:=St->Hp->(List V->Hp->Prop)->Prop
structure Ends where
 nx:St->Hp->Prop
 rt:VK
 bk:St->Hp->Prop:=λ_ _=>False
 ct:St->Hp->Prop:=λ_ _=>False
abbrev TS:=Ends->St->Hp->Prop
inductive EP(X:Cx)(pins:List (Addr×Obj))(σ:St)(Q:VK)(u:Value)(s':Shared):Prop
 | mk (v:_) (H':_) (f0:Inv X pins σ H' s') (f1:aI v u) (f2:Q v H')
inductive TP(X:Cx)(pins:List (Addr×Obj))(σ:St)(Q:Bool->Hp->Prop)(b:Bool)(s':Shared):Prop
 | mk (H':_) (f0:Inv X pins σ H' s') (f1:Q b H')
inductive AP(X:Cx)(pins:List (Addr×Obj))(σ:St)(Q:List V->Hp->Prop)(us:List Value)(s':Shared):Prop
 | mk (vs:_) (H':_) (f0:Inv X pins σ H' s') (f1:au vs us) (f2:Q vs H')
def SP(X:Cx)(pins:List (Addr×Obj))(D:Ends)(f:Flow)(s':Shared):Prop :=
 match f with
 | .next=>∃σ' H',Inv X pins σ' H' s'/\D.nx σ' H'
 | .brk=>∃σ' H',Inv X pins σ' H' s'/\D.bk σ' H'
 | .cont=>∃σ' H',Inv X pins σ' H' s'/\D.ct σ' H'
 | .ret u=>∃v σ' H',Inv X pins σ' H' s'/\aI v u/\D.rt v H'
def PE(X:Cx)(e:Expr)(t:TE):Prop :=
 ∀(pins:List (Addr×Obj)) (s:Shared) (σ:St) (H:Hp) (Q:VK),Inv X pins σ H s->t σ H Q->wpAny (model X.prog X.w) X.A (eval e X.env) (EP X pins σ Q) X.xe s
def PT(X:Cx)(e:Expr)(t:TT):Prop :=
 ∀(pins:List (Addr×Obj)) (s:Shared) (σ:St) (H:Hp) (Q:Bool->Hp->Prop),Inv X pins σ H s->t σ H Q->wpAny (model X.prog X.w) X.A (isTrue e X.env (eval e X.env)) (TP X pins σ Q) X.xe s
def PW(X:Cx)(e:Expr)(t:TT):Prop :=
 ∀(whole:Sem Value) (pins:List (Addr×Obj)) (s:Shared) (σ:St) (H:Hp) (Q:Bool->Hp->Prop),Inv X pins σ H s->t σ H Q->wpAny (model X.prog X.w) X.A (isTrue e X.env whole) (TP X pins σ Q) X.xe s
def PW.pt(h:PW X e t):PT X e t:=h _
def PA(X:Cx)(es:List Expr)(t:TA):Prop :=
 ∀(pos:Pos) (pins:List (Addr×Obj)) (s:Shared) (σ:St) (H:Hp) (Q:List V->Hp->Prop),Inv X pins σ H s->t σ H Q->wpAny (model X.prog X.w) X.A (spliced (backTo pos (starEach es X.env))) (AP X pins σ Q) X.xe s
def PS(X:Cx)(st:Stmt)(t:TS):Prop :=
 ∀(pins:List (Addr×Obj)) (s:Shared) (σ:St) (H:Hp) (D:Ends),Inv X pins σ H s->t D σ H->wpAny (model X.prog X.w) X.A (exec st X.env) (SP X pins D) X.xe s
def PSs(X:Cx)(st:List Stmt)(t:TS):Prop :=
 ∀(pins:List (Addr×Obj)) (s:Shared) (σ:St) (H:Hp) (D:Ends),Inv X pins σ H s->t D σ H->wpAny (model X.prog X.w) X.A (execs st X.env) (SP X pins D) X.xe s
def thn{α:Type}{t:Sem α}{Q Q':α->Shared->Prop}{M:Model}{A:Around}{E:Value->Shared->Prop}{s:Shared}(h:wpAny M A t Q E s)(hQ:∀a s,Q a s->Q' a s):wpAny M A t Q' E s:=ABA h hQ λ_ _ x=>x
section
variable{X:Cx}
def tVar(i:Nat):TE:=λσ H Q=>∃v,σ[i]?=some (some v)/\Q v H
def tC(v:V):TE:=λ_ H Q=>Q v H
def Bx(hN:X.N[i]?=some x)(hv:Vis X.env.scope x)(hd:(x==("__debug__":Str))=false:=by decide)(hcd:(x==("__classdict__":Str))=false:=by decide):PE X (.Name x pos) (tVar i):=by
 intro pins s σ H Q I h;obtain⟨v,e,h⟩:=h;obtain⟨m,hn,hl⟩:=I.loc;obtain⟨u,r,l⟩:=hl i x v hN e hv;have fin:EP X pins σ Q u s:=⟨v,H,I,r,h⟩;rcases l with⟨hk,hm⟩|⟨hk,c,hc,hcell⟩
 ·exact wpAny_Name (wpAny_loadName_local I.ok.kind hk hn hm fin) hd
 ·rcases hk with hk | hk
  ·exact wpAny_Name (wpAny_loadName_cell I.ok.kind hk hc hcell fin) hd
  ·exact wpAny_Name (wpAny_loadName_free I.ok.kind hk hc hcell fin hcd) hd
def FP{i j pos}:PE X (.Constant (.int i) j pos) (tC (.int i)):=λ_ _ _ H _ I h=>wpAny_Constant_int ⟨.int i,H,I.tok _,⟨_,rfl⟩,h⟩
def pe_bl{b j pos}:PE X (.Constant (.bool b) j pos) (tC (.bl b)):=λ_ _ _ H _ I h=>Constant_bool ⟨.bl b,H,I,rfl,h⟩
def FN{j pos}:PE X (.Constant .none j pos) (tC .non):=λ_ _ _ H _ I h=>Constant_none ⟨.non,H,I,rfl,h⟩
def FL{x j pos}:PE X (.Constant (.str x) j pos) (tC (.str x)):=λ_ _ _ H _ I h=>Calls.Constant_str ⟨.str x,H,I.tok _,⟨_,rfl⟩,h⟩
def Gl(X:Cx)(x:Str):Prop:=X.env.kindOf x=some .globalImplicit
def DJ(I:Inv X pins σ H s)(hg:Gl X x)(hm:X.mg x=some u)(h:Q u s)
  (hd:(x==("__debug__":Str))=false:=by decide):wpAny (model X.prog X.w) X.A (eval (.Name x pos) X.env) Q E s :=
 Calls.Name_function_global I.ok.kind hg (Calls.loadGlobal_global (by rw[I.ok.glob];exact I.mod.glob.keeps I.bk) hm h) hd
def gF(I:Inv X pins σ H s)(hg:Gl X x)(hm:X.mg x=none)(hv:bootBuiltins x=some u)(h:Q u s)
  (hn:x≠"__name__":=by decide) (hd:(x==("__debug__":Str))=false:=by decide):wpAny (model X.prog X.w) X.A (eval (.Name x pos) X.env) Q E s:=by
 obtain⟨mb,h1,h2⟩:=I.mod.blt;exact Calls.Name_function_global I.ok.kind hg (Calls.loadGlobal_builtin (by rw[I.ok.glob];exact I.mod.glob.keeps I.bk) hm (by rw[I.ok.blt];exact h1.keeps I.bk) ((h2 x hn).trans hv) h) hd
variable{a b:Expr}{ta tb:TE}{pos:Pos}
def aI.none_iff(r:aI x v):(v==ABj)=decide (x=.non):=by
 cases x with
 | non=>cases r;rfl
 | bl _=>cases r;rfl
 | int _=>obtain⟨t,rfl⟩:=r;rfl
 | str _=>obtain⟨t,rfl⟩:=r;rfl
 | byt _=>obtain⟨t,rfl⟩:=r;rfl
 | flt _=>obtain⟨t,rfl⟩:=r;rfl
 | ref _=>cases r;rfl
 | ty _=>cases r;rfl
def tB(t:TE):TT:=λσ H Q=>t σ H λx H1=>∃c,x=.bl c/\Q c H1
def FC(h:PE X e t)(he:∀whole,isTrue e X.env whole=(do let v <-whole;standAt e.pos;holding [v] (truthy v)):=by intro _;rfl):PT X e (tB t):=by
 intro pins s σ H Q I hw;refine isTrue_plain (thn (h pins s σ H _ I hw) λv s1 ⟨x,H1,I1,r1,q1⟩=>?_) (he _)
 obtain⟨d,rfl,q⟩:=q1;cases r1
 exact ACk ⟨H1,I1,q⟩
variable{tA tB':TT}{aJ:List Expr}
def tAnd(t u:TT):TT:=λσ H Q=>t σ H λc H1=>if c=true then u σ H1 Q else Q false H1
def tOr(t u:TT):TT:=λσ H Q=>t σ H λc H1=>if c=true then Q true H1 else u σ H1 Q
def tNot(t:TT):TT:=λσ H Q=>t σ H λc H1=>Q (!c) H1
def CS(ha:PT X a tA):PW X (.BoolOp .And [a] pos) tA:=by
 intro wh pins s σ H Q I h;refine isTrue_and (thn (ha pins s σ H Q I h) λc s1 e=>?_)
 cases c with
 | true=>exact isTrue_and_nil e
 | false=>exact e
def FA(ha:PT X a tA):PW X (.BoolOp .Or [a] pos) tA:=by
 intro wh pins s σ H Q I h;refine isTrue_or (thn (ha pins s σ H Q I h) λc s1 e=>?_)
 cases c with
 | false=>exact isTrue_or_nil e
 | true=>exact e
def FB(ha:PT X a tA)(hb:PW X (.BoolOp .And (b::aJ) pos) tB'):PW X (.BoolOp .And (a::b::aJ) pos) (tAnd tA tB'):=by
 intro wh pins s σ H Q I h;refine isTrue_and (thn (ha pins s σ H _ I h) λc s1 ⟨H1,I1,q1⟩=>?_)
 cases c with
 | true=>exact hb wh pins s1 σ H1 Q I1 q1
 | false=>exact⟨H1,I1,q1⟩
def pw_or(ha:PT X a tA)(hb:PW X (.BoolOp .Or (b::aJ) pos) tB'):PW X (.BoolOp .Or (a::b::aJ) pos) (tOr tA tB'):=by
 intro wh pins s σ H Q I h;refine isTrue_or (thn (ha pins s σ H _ I h) λc s1 ⟨H1,I1,q1⟩=>?_)
 cases c with
 | true=>exact⟨H1,I1,q1⟩
 | false=>exact hb wh pins s1 σ H1 Q I1 q1
def FD(ha:PT X a tA):PT X (.UnaryOp .Not a pos) (tNot tA):=by
 intro pins s σ H Q I h;exact isTrue_not (thn (ha pins s σ H (λc H1=>Q (!c) H1) I h) λc s1 ⟨H1,I1,q1⟩=>⟨H1,I1,q1⟩)
def tAndV(ta tb:TE):TE:=λσ H Q=>ta σ H λx H1=>∃c,x=.bl c/\if c=true then tb σ H1 Q else Q (.bl false) H1
def tOrV(ta tb:TE):TE:=λσ H Q=>ta σ H λx H1=>∃c,x=.bl c/\if c=true then Q (.bl true) H1 else tb σ H1 Q
def FM{op}(h:PE X a t):PE X (.BoolOp op [a] pos) t:=λpins s σ H Q I hw=>BoolOp_one (h pins s σ H Q I hw)
def FR(ha:PE X a ta)(hb:PE X (.BoolOp .And (b::aJ) pos) tb):PE X (.BoolOp .And (a::b::aJ) pos) (tAndV ta tb):=by
 intro pins s σ H Q I h;refine BoolOp_and (thn (ha pins s σ H _ I h) λv s1 ⟨x,H1,I1,r1,q1⟩=>?_)
 obtain⟨c,rfl,q1⟩:=q1;cases r1
 refine ACk ?_
 cases c with
 | true=>exact hb pins s1 σ H1 Q I1 q1
 | false=>exact⟨.bl false,H1,I1,rfl,q1⟩
def pe_or(ha:PE X a ta)(hb:PE X (.BoolOp .Or (b::aJ) pos) tb):PE X (.BoolOp .Or (a::b::aJ) pos) (tOrV ta tb):=by
 intro pins s σ H Q I h;refine BoolOp_or (thn (ha pins s σ H _ I h) λv s1 ⟨x,H1,I1,r1,q1⟩=>?_)
 obtain⟨c,rfl,q1⟩:=q1;cases r1
 refine ACk ?_
 cases c with
 | false=>exact hb pins s1 σ H1 Q I1 q1
 | true=>exact⟨.bl true,H1,I1,rfl,q1⟩
end
def SqL(K:AA6)(H:Hp)(a:Addr)(xs:List V):Prop :=
 Rd H a (.lst xs) \/
  ∃(o:Obj) (its:Array Value) (n:Nat),K.lookup a=some o/\o.cls=.type "list"/\o.dict=none/\o.data=.seq its n/\its.size<=sizeLine/\au xs its.toList
def SqT(K:AA6)(H:Hp)(a:Addr)(xs:List V):Prop :=
 Rd H a (.tup xs) \/
  ∃(o:Obj) (its:Array Value) (n:Nat),K.lookup a=some o/\o.cls=.type "tuple"/\o.dict=none/\o.data=.seq its n/\its.size<=sizeLine/\au xs its.toList
def absV:Value->Option V
 | .none=>some .non
 | .bool b=>some (.bl b)
 | .int i _=>some (.int i)
 | .str x _=>some (.str x)
 | .bytes b _=>some (.byt b)
 | .float b _=>some (.flt b)
 | .ref a=>some (.ref a)
 | .type n=>some (.ty n)
 | _=>none
def aI.abs(r:aI x u):absV u=some x:=by
 cases x with
 | non=>cases r;rfl
 | bl _=>cases r;rfl
 | int _=>obtain⟨t,rfl⟩:=r;rfl
 | str _=>obtain⟨t,rfl⟩:=r;rfl
 | byt _=>obtain⟨t,rfl⟩:=r;rfl
 | flt _=>obtain⟨t,rfl⟩:=r;rfl
 | ref _=>cases r;rfl
 | ty _=>cases r;rfl
def aI.inj(r:aI x u)(q:aI y u):x=y:=AAR (r.abs.symm.trans q.abs)
def au.inj:∀{xs ys:List V}{us:List Value},au xs us->au ys us->xs=ys
 | _,_,_,.nil,.nil=>rfl
 | _,_,_,.cons r t,.cons r' t'=>by rw[r.inj r',au.inj t t']
section
variable{X:Cx}{pins:List (Addr×Obj)}{σ:St}{H:Hp}{s:Shared}{a:Addr}{xs ys:List V}
def SqT.of{K:AA6}(h:H a=some (.tup xs)):SqT K H a xs:=.inl (.inl h)
def Inv.list(I:Inv X pins σ H s)(h:SqL X.K H a xs):∃its:List Value,au xs its/\PlainL s.heap a its.toArray/\xs.length<=sizeLine:=by
 rcases h with h | ⟨o,its,n,hk,hc,hd,hs,hz,r⟩
 ·obtain⟨z,its,n,r,e⟩:=h.ok I.hok
  exact⟨its,r,⟨_,n,e,rfl,rfl,rfl⟩,z⟩
 ·refine⟨its.toList,r,⟨o,n,I.kIn a o hk,hc,hd,by simpa using hs⟩,?_⟩
  have e:=r.length;simp only[AAL]at e;lia
def Inv.tuple(I:Inv X pins σ H s)(h:SqT X.K H a xs):∃its:List Value,au xs its/\IsTup s.heap a its.toArray/\xs.length<=sizeLine:=by
 rcases h with h | ⟨o,its,n,hk,hc,_,hs,hz,r⟩
 ·obtain⟨z,its,r,p⟩:=h.ok I.hok
  exact⟨its,r,p.tup,z⟩
 ·refine⟨its.toList,r,⟨o,I.kIn a o hk,hc,n,by simpa using hs⟩,?_⟩
  have e:=r.length;simp only[AAL]at e;lia
def Inv.list_inj(I:Inv X pins σ H s)(h:SqL X.K H a xs)(h':SqL X.K H a ys):xs=ys:=by
 obtain⟨its,r,⟨o,n,e,_,_,d⟩,_⟩:=I.list h;obtain⟨its',r',⟨o',n',e',_,_,d'⟩,_⟩:=I.list h';rw[e]at e';cases e';rw[d]at d';injection d' with d1 _
 have:its=its':=by simpa using congrArg Array.toList d1
 subst this;exact r.inj r'
def Inv.tuple_inj(I:Inv X pins σ H s)(h:SqT X.K H a xs)(h':SqT X.K H a ys):xs=ys:=by
 obtain⟨its,r,⟨o,e,_,n,d⟩,_⟩:=I.tuple h;obtain⟨its',r',⟨o',e',_,n',d'⟩,_⟩:=I.tuple h';rw[e]at e';cases e';rw[d]at d';injection d' with d1 _
 have:its=its':=by simpa using congrArg Array.toList d1
 subst this;exact r.inj r'
end
abbrev Cx.wish(X:Cx)(E:Value->Shared->Prop):Cx:={ X with xe:=E }
abbrev Cx.nox(X:Cx):Cx:=X.wish λ_ _=>False
def Cx.Ok.wish{X:Cx}(ok:X.Ok)(E:Value->Shared->Prop):(X.wish E).Ok :=
 ⟨ok.mod,ok.kind,ok.glob,ok.blt,ok.above,ok.inj,ok.has,ok.cab,ok.hd,ok.frames,ok.stk,ok.exf,ok.bs,ok.bsz,ok.noex,ok.exfs,ok.funs,ok.frf⟩
def Cx.Ok.unwish{X:Cx}{E:Value->Shared->Prop}(ok:(X.wish E).Ok):X.Ok :=
 ⟨ok.mod,ok.kind,ok.glob,ok.blt,ok.above,ok.inj,ok.has,ok.cab,ok.hd,ok.frames,ok.stk,ok.exf,ok.bs,ok.bsz,ok.noex,ok.exfs,ok.funs,ok.frf⟩
section
variable{X:Cx}{pins:List (Addr×Obj)}{σ:St}{H:Hp}{s:Shared}{E:Value->Shared->Prop}
def Inv.wish(I:Inv X pins σ H s)(E:Value->Shared->Prop):Inv (X.wish E) pins σ H s:=⟨I.ok.wish E,I.os,I.bare,I.base,I.loc,I.cell,I.free,I.freeC,I.pin,I.hok,I.len⟩
def Inv.unwish(I:Inv (X.wish E) pins σ H s):Inv X pins σ H s:=⟨I.ok.unwish,I.os,I.bare,I.base,I.loc,I.cell,I.free,I.freeC,I.pin,I.hok,I.len⟩
def SP.unwish(h:SP (X.wish E) pins D f s'):SP X pins D f s':=by
 cases f with
 | next=>obtain⟨σ',H',I,q⟩:=h;exact⟨σ',H',I.unwish,q⟩
 | brk=>obtain⟨σ',H',I,q⟩:=h;exact⟨σ',H',I.unwish,q⟩
 | cont=>obtain⟨σ',H',I,q⟩:=h;exact⟨σ',H',I.unwish,q⟩
 | ret u=>obtain⟨v,σ',H',I,r,q⟩:=h;exact⟨v,σ',H',I.unwish,r,q⟩
def PE.nox(h:PE X.nox e t):PE X e t:=λpins s σ H Q I hw =>
 ABA (h pins s σ H Q (I.wish _) hw) (λ_ _ ⟨v,H',I',r,q⟩=>⟨v,H',I'.unwish,r,q⟩) λ_ _ z=>AD2 z
def PSs.nox{st:List Stmt}{t:TS}(h:PSs X.nox st t):PSs X st t:=λpins s σ H D I hw =>
 ABA (h pins s σ H D (I.wish _) hw) (λ_ _ q=>q.unwish) λ_ _ z=>AD2 z
end
section
variable{X:Cx}{st:Stmt}{aJ:List Stmt}{t u:TS}{e:Expr}{te:TE}{pos:Pos}
def tNext:TS:=λD σ H=>D.nx σ H
def tSeq(t u:TS):TS:=λD σ H=>t { D with nx:=u D } σ H
def CZ:PSs X [] tNext:=λ_ _ σ H _ I h=>AEN ⟨σ,H,I,h⟩
def zV(h1:PS X st t)(h2:PSs X aJ u):PSs X (st::aJ) (tSeq t u):=by
 intro pins s σ H D I h;refine wpAny_execs_cons (thn (h1 pins s σ H { D with nx:=u D } I h) λf s1 q=>?_)
 cases f with
 | next =>
  obtain⟨σ',H',I',q⟩:=q;exact h2 pins s1 σ' H' D I' q
 | ret v=>exact q
 | brk=>exact q
 | cont=>exact q
def CY(h1:PS X st t):PSs X [st] t:=by
 intro pins s σ H D I h;refine wpAny_execs_cons (thn (h1 pins s σ H D I h) λf s1 q=>?_)
 cases f with
 | next=>exact AEN q
 | ret v=>exact q
 | brk=>exact q
 | cont=>exact q
def Inv.quiet(I:Inv X pins σ H s):interactive X.env=false:=by simp[interactive,I.ok.kind]
def tDrop(te:TE):TS:=λD σ H=>te σ H λ_ H1=>D.nx σ H1
def Da(he:PE X e te)(hs:swapsWith e none pos.line X.env=pure false:=by rfl):PS X (.Expr e pos) (tDrop te):=by
 intro pins s σ H D I h;exact wpAny_Expr_any (thn (he pins s σ H _ I h) λv s1 ⟨x,H1,I1,r1,q1⟩=>⟨σ,H1,I1,q1⟩) I.quiet hs
def tRet(te:TE):TS:=λD σ H=>te σ H D.rt
def FF(he:PE X e te):PS X (.Return (some e) pos) (tRet te):=by
 intro pins s σ H D I h;exact wpAny_Return_some (thn (he pins s σ H _ I h) λv s1 ⟨x,H1,I1,r1,q1⟩=>⟨x,σ,H1,I1,r1,q1⟩)
def tIfS(c:TT)(t u:TS):TS:=λD σ H=>c σ H λb H1=>if b=true then t D σ H1 else u D σ H1
def ps_if(hc:PT X c tc)(ha:PSs X a t)(hb:PSs X b u):PS X (.If c a b pos) (tIfS tc t u):=by
 intro pins s σ H D I h;refine wpAny_If (thn (hc pins s σ H _ I h) λd s1 ⟨H1,I1,q1⟩=>?_)
 cases d with
 | true=>exact ha pins s1 σ H1 D I1 q1
 | false=>exact hb pins s1 σ H1 D I1 q1
end
abbrev TG:=V->St->Hp->(St->Hp->Prop)->Prop
abbrev TGs:=List V->St->Hp->(St->Hp->Prop)->Prop
def PG(X:Cx)(target:Expr)(t:TG):Prop :=
 ∀(pins:List (Addr×Obj)) (s:Shared) (σ:St) (H:Hp) (v:V) (u:Value) (Q:St->Hp->Prop),Inv X pins σ H s->aI v u->t v σ H Q ->
  wpAny (model X.prog X.w) X.A (assign target X.env u) (λ_ s'=>∃σ' H',Inv X pins σ' H' s'/\Q σ' H') X.xe s
def PGs(X:Cx)(ts:List Expr)(t:TGs):Prop :=
 ∀(pins:List (Addr×Obj)) (s:Shared) (σ:St) (H:Hp) (vs:List V) (us:List Value) (Q:St->Hp->Prop),Inv X pins σ H s->au vs us->t vs σ H Q ->
  wpAny (model X.prog X.w) X.A (assignInOrder ((assignEach ts X.env).map (·.2)) us) (λ_ s'=>∃σ' H',Inv X pins σ' H' s'/\Q σ' H') X.xe s
abbrev TSet:=V->V->V->Hp->(Hp->Prop)->Prop
def PSet(X:Cx)(t:TSet):Prop :=
 ∀(pins:List (Addr×Obj)) (s:Shared) (σ:St) (H:Hp) (o i v:V) (ov iv u:Value) (Q:Hp->Prop),Inv X pins σ H s->aI o ov->aI i iv->aI v u->t o i v H Q ->
  wpAny (model X.prog X.w) X.A (setItem ov iv u) (λ_ s'=>∃H',Inv X pins σ H' s'/\Q H') X.xe s
section
variable{X:Cx}{pos:Pos}
def GV(i:Nat):TG:=λv σ H Q=>Q (σ.set i (some v)) H
def Df(hN:X.N.Nodup)(hi:X.N[i]?=some x)(hx:Loc X.env.scope x)(hf:X.fn x=true\/X.env.scope.names.lookup x=some .local:=by first | exact .inl rfl | exact .inr rfl | assumption):PG X (.Name x pos) (GV i):=by
 intro pins s σ H v u Q I r h;exact wpAny_assign_Name (uf I hN hi hx r (λs' I'=>⟨_,H,I',h⟩) hf)
def gNil:TGs:=λvs σ H Q=>vs=[]/\Q σ H
def gCons(t:TG)(u:TGs):TGs:=λvs σ H Q=>∃v r,vs=v::r/\t v σ H λσ' H'=>u r σ' H' Q
def De:PGs X [] gNil:=by
 intro pins s σ H vs us Q I r h;obtain⟨e,h⟩:=h;subst e;cases r
 exact assignInOrder_nil ⟨σ,H,I,h⟩
def zZ(h1:PG X e t)(h2:PGs X es u)
  (hs:(assignEach (e::es) X.env).map (·.2)=assign e X.env::(assignEach es X.env).map (·.2):=by rfl):PGs X (e::es) (gCons t u):=by
 intro pins s σ H vs us Q I r h;obtain⟨v,vr,e1,h⟩:=h;subst e1;cases r with
 | cons r rr =>
  rw[hs];refine assignInOrder_cons (thn (h1 pins s σ H _ _ _ I r h) λ_ s1 ⟨σ1,H1,I1,q1⟩=>?_)
  exact h2 pins s1 σ1 H1 _ _ Q I1 rr q1
def gTup(K:AA6)(n:Nat)(t:TGs):TG:=λv σ H Q=>∃a xs,v=.ref a/\SqT K H a xs/\xs.length=n/\t xs σ H Q
def FI(hc:X.calm=true)(h:PGs X es t)
  (hn:(assignEach es X.env).length=n:=by rfl) (hst:(assignEach es X.env).findIdx? (·.1)=none:=by rfl):PG X (.Tuple es k pos) (gTup X.K n t):=by
 intro pins s σ H v u Q I r hw;obtain⟨a,xs,e1,hq,hl,hw⟩:=hw;subst e1;cases r
 obtain⟨its,rv,ht,hz⟩:=I.tuple hq;refine assign_Tuple_tuple (I.ok.hd hc) ht (by simp[hn,<-hl,rv.length]) hst λh' hx=>?_
 have I1:Inv X pins σ H { s with heap:=h' }:=I.kept (t':=s.toks) λb o e=>hx b o (AAO (AAG e)) e
 exact h pins _ σ H xs _ Q I1 (by simpa using rv) hw
def gSub(to ti:TE)(t:TSet):TG:=λv σ H Q=>to σ H λo H1=>ti σ H1 λi H2=>t o i v H2 λH3=>Q σ H3
def FJ(ho:PE X o to)(hi:PE X i ti)(hs:PSet X t)
  (ha:∀v,assign (.Subscript o i pos) X.env v=(do
   let ov <-holding [v] (eval o X.env)
   let iv <-holding [v,ov] (eval i X.env)
   standAt pos
   holding [v,ov,iv] (setItem ov iv v)
   release [v,ov,iv] []):=by intro _;rfl):PG X (.Subscript o i pos) (gSub to ti t):=by
 intro pins s σ H v u Q I r h;rw[ha];refine AA0 (AAZ (thn (ho pins s σ H _ I h) λov s1 ⟨x,H1,I1,r1,q1⟩=>?_))
 refine AA0 (AAZ (thn (hi pins s1 σ H1 _ I1 q1) λiv s2 ⟨y,H2,I2,r2,q2⟩=>?_))
 refine AA0 (wpAny_standAt (AA0 (AAZ (thn (hs pins s2 σ H2 x y v ov iv u _ I2 r1 r2 r q2) λ_ s3 ⟨H3,I3,q3⟩=>?_))))
 exact wpAny_release ⟨σ,H3,I3,q3⟩
def tAsg(te:TE)(g:TG):TS:=λD σ H=>te σ H λx H1=>g x σ H1 D.nx
def FH(he:PE X e te)(hg:PG X tg g)(hs:swapsWithSole [tg] e pos.line X.env=pure false:=by rfl)(hw:swappedStores [tg] e X.env=pure none:=by rfl)
  (h1:(assignEach [tg] X.env).map (·.2)=[assign tg X.env]:=by rfl):PS X (.Assign [tg] e pos) (tAsg te g):=by
 intro pins s σ H D I h;refine wpAny_Assign_stores (thn (he pins s σ H _ I h) λv s1 ⟨x,H1,I1,r1,q1⟩=>?_) hs hw
 rw[h1];exact thn (hg pins s1 σ H1 x v _ I1 r1 q1) λ_ s2 q=>q
def FE(hN:X.N.Nodup)(hi:X.N[i]?=some x)(hx:Loc X.env.scope x)(he:PE X e te)(hs:swapsWith e (some (.Name x pos')) pos.line X.env=pure false:=by rfl)(hf:X.fn x=true\/X.env.scope.names.lookup x=some .local:=by first | exact .inl rfl | exact .inr rfl | assumption) :
  PS X (.Assign [.Name x pos'] e pos) (tAsg te (GV i)):=by
 intro pins s σ H D I h;refine wpAny_Assign_Name (thn (he pins s σ H _ I h) λv s1 ⟨y,H1,I1,r1,q1⟩=>?_) hs
 exact uf I1 hN hi hx r1 (λs2 I2=>⟨_,H1,I2,q1⟩) hf
end
section
variable{X:Cx}{pos:Pos}
def Bv(c:TT)(tb:TS):TS:=λD σ H=>∃W:Nat->St->Hp->Prop,(∃m,W m σ H)/\∀m σ H,W m σ H ->
 c σ H λb H1=>if b=true then ∃N:St->Hp->Prop,(∀σ' H',N σ' H'->∃m',m' < m/\W m' σ' H')/\tb { D with nx:=N,ct:=N,bk:=D.nx } σ H1 else D.nx σ H1
def zW(hp:PassesOwn (model X.prog X.w) X.A X.env X.xe)(hc:PT X c tc)(hb:PSs X body tb):PS X (.While c body [] pos) (Bv tc tb):=by
 intro pins s σ H D I h;obtain⟨W,⟨m0,w0⟩,turn⟩:=h;refine wpAny_While (codeAny_whileLoop (λn s'=>∃σ' H',Inv X pins σ' H' s'/\W n σ' H') ?_ m0 ⟨σ,H,I,w0⟩)
 rintro n s1 ⟨σ1,H1,I1,w1⟩;refine ACl hp (thn (hc pins s1 σ1 H1 _ I1 (turn n σ1 H1 w1)) λb s2 ⟨H2,I2,q2⟩=>?_)
 cases b with
 | true =>
  obtain⟨N,hN,q2⟩:=q2;rw[if_pos rfl];refine ACl hp (thn (hb pins s2 σ1 H2 _ I2 q2) λf s3 q3=>?_)
  cases f with
  | next =>
   obtain⟨σ3,H3,I3,n3⟩:=q3;obtain⟨m',hm,w3⟩:=hN σ3 H3 n3;exact⟨m',hm,σ3,H3,I3,w3⟩
  | cont =>
   obtain⟨σ3,H3,I3,n3⟩:=q3;obtain⟨m',hm,w3⟩:=hN σ3 H3 n3;exact⟨m',hm,σ3,H3,I3,w3⟩
  | brk=>exact q3
  | ret v=>exact q3
 | false =>
  rw[if_neg ABB];exact AEN ⟨σ1,H2,I2,q2⟩
end
structure It where
 go:Nat->Hp->Prop
 yld:Nat->Hp->V->Hp->Prop
 stop:Nat->Hp->Prop
def wu(X:Cx)(pins:List (Addr×Obj))(H:Hp)(b:Addr):Prop :=
 H b=none/\b≠X.env.locals/\b∉X.fs/\(b∈X.ex\/X.s₀.heap.objs.size<=b)/\(∀x c,X.env.cells.lookup x=some c->c≠b)/\∀p∈X.pn++pins,p.1≠b
def Inv.fpOk(I:Inv X pins σ H s)(hb:s.heap.objs.size<=b)(hn:H' b=none):wu X pins H' b:=by
 refine⟨hn,AEZ (AAd I.lt hb),I.nofs hb,.inr (AB3 I.sz hb),λx c e z=>?_,λp hp z=>?_⟩
 ·obtain⟨v,q⟩:=I.cell x c e
  exact absurd (AAd q.lt (by rw[z];exact hb)) (AAn _)
 ·exact absurd (AAd (AAG (I.pin p hp).1) (by rw[z];exact hb)) (AAn _)
structure Turn(P:Program)(w:World)(K:AA6)(tg:Expr)(J:It)(fp:List Addr)(it:Addr)(tn:Nat->Heap->Prop):Prop where
 mem:it∈fp
 obj:∀i h,tn i h->∀b∈fp,∃o,h.get? b=some o/\∀v,o.data≠.cell v
 keep:∀i h h',tn i h->(∀b∈fp,∀o,h.get? b=some o->h'.get? b=some o)->tn i h'
 item:∀(X:Cx),X.prog=P->X.w=w->X.K=K->X.calm=true->∀(i:Nat) (pins:List (Addr×Obj)) (s:Shared) (σ:St) (H:Hp) (E:Value->Shared->Prop),Inv X pins σ H s->(∀b∈fp,wu X pins H b)->tn i s.heap->J.go i H ->
  wpAny (model P w) X.A (pyNext (.ref it)) (λr s1=>∃u,r=some u /\
   wpAny (model P w) X.A (letOwnedTupleGo tg (.ref it) u) (λ_ s2=>∃x H',Inv X pins σ H' s2/\aI x u/\J.yld i H x H'/\tn (i+1) s2.heap/\∀b∈fp,H' b=none) E s1) E s
 done:∀(X:Cx),X.prog=P->X.w=w->X.K=K->X.calm=true->∀(i:Nat) (pins:List (Addr×Obj)) (s:Shared) (σ:St) (H:Hp) (E:Value->Shared->Prop),Inv X pins σ H s->(∀b∈fp,wu X pins H b)->tn i s.heap->J.stop i H ->
  wpAny (model P w) X.A (pyNext (.ref it)) (λr s1=>r=none/\Inv X pins σ H s1) E s
 self:∀(A:Around) (i:Nat) (s:Shared) (Q:Value->Shared->Prop) (E:Value->Shared->Prop),tn i s.heap->Q (.ref it) s->wpAny (model P w) A (pyIter (.ref it)) Q E s
abbrev TI:=St->Hp->(It->Hp->Prop)->Prop
inductive PIE(X:Cx)(pins:List (Addr×Obj))(σ:St)(tg:Expr)(R:It->Hp->Prop)(itv:Value)(s2:Shared):Prop
 | mk (it:Addr) (fp:List Addr) (tn:Nat->Heap->Prop) (J:It) (H':Hp) (f0:itv=.ref it) (f1:Inv X pins σ H' s2) (f2:Turn X.prog X.w X.K tg J fp it tn) (f3:tn 0 s2.heap) (f4:(∀b∈fp,wu X pins H' b)) (f5:R J H')
def PI(X:Cx)(tg iter:Expr)(wi:TI):Prop :=
 ∀(pins:List (Addr×Obj)) (s:Shared) (σ:St) (H:Hp) (R:It->Hp->Prop),Inv X pins σ H s->wi σ H R ->
  wpAny (model X.prog X.w) X.A (eval iter X.env) (λv s1=>wpAny (model X.prog X.w) X.A (pyIter v) (PIE X pins σ tg R) X.xe s1) X.xe s
def sO(ho:s.heap.get? it=some o)(hc:o.cls=.type n)(hd:o.data=.fields vs)
  (hn:["enumerate","zip","dict_itemiterator","dict_reverseitemiterator","odict_iterator","itertools.zip_longest","itertools.pairwise"].contains n=false) (hQ:Q () s):wpAny M A (letOwnedTupleGo tg (.ref it) u) Q E s:=by
 unfold letOwnedTupleGo;cases tg<;>first
  | exact AA2 hQ
  | (cases u<;>first
    | exact AA2 hQ
    | (refine AA0 (wpAny_load ho ?_);rw[hc,hd];show wpAny M A (if (["enumerate","zip","dict_itemiterator","dict_reverseitemiterator","odict_iterator","itertools.zip_longest","itertools.pairwise"].contains n&&vs[0]?==some (rawInt _))=true then _ else _) Q E s;rw[if_neg (by intro h;rw[hn,Bool.false_and]at h;cases h)];exact AA2 hQ))
def Itl(K:AA6)(a:Addr):It :=
 ⟨λi H=>∃xs x,SqL K H a xs/\xs[i]?=some x,λi H x H'=>H'=H/\∀xs,SqL K H a xs->xs[i]?=some x,λi H=>∃xs,SqL K H a xs/\xs.length<=i⟩
def Itt(K:AA6)(a:Addr):It :=
 ⟨λi H=>∃xs x,SqT K H a xs/\xs[i]?=some x,λi H x H'=>H'=H/\∀xs,SqT K H a xs->xs[i]?=some x,λi H=>∃xs,SqT K H a xs/\xs.length<=i⟩
def Itr(lo:Int)(n:Nat):It:=⟨λi _=>i<n,λi H x H'=>H'=H/\x=.int (lo+i),λi _=>n<=i⟩
theorem wG{P:Program}{w:World}{K:AA6}{tg:Expr}(a it:Addr):Turn P w K tg (Itl K a) [it] it (λi h=>h.IsListIter it a i) where
 mem:=by simp
 obj:=λi h st b hb=>by
  have e:b=it:=by simpa using hb
  subst e;obtain⟨o,e,c,d⟩:=st;exact⟨o,e,λv z=>by rw[d]at z;cases z⟩
 keep:=λi h h' st k=>st.at λo e=>k it (by simp) o e
 item:=by
  intro X hP hw hK hc i pins s σ H E I hf st hg;subst hP hw hK;obtain⟨xs,x,hq,hx⟩:=hg;obtain⟨its,rv,p,hz⟩:=I.list hq;obtain⟨u,hu,ru⟩:=rv.get hx;obtain⟨f0,f1,f2,f3,f4,f5⟩:=hf it (by simp)
  refine wpAny_pyNext_list_item st p.isList (x:=u) (by simpa using hu) λh' st' sb=>?_
  have I1:Inv X pins σ H { s with heap:=h' }:=I.turned (t':=s.toks) (λb o hb e=>(sb.2 b hb).trans e) f0 f1 f3 f4 f5
  obtain⟨o,e,c,d⟩:=id st';exact⟨u,rfl,sO (s:={ s with heap:=h' }) e c d (by decide) ⟨x,H,I1,ru,⟨rfl,λys hy=>by rw[I.list_inj hy hq];exact hx⟩,st',λb hb=>(hf b hb).1⟩⟩
 done:=by
  intro X hP hw hK hc i pins s σ H E I hf st hg;subst hP hw hK;obtain⟨xs,hq,hx⟩:=hg;obtain⟨its,rv,p,hz⟩:=I.list hq;obtain⟨f0,f1,f2,f3,f4,f5⟩:=hf it (by simp)
  have hl:=rv.length;exact wpAny_pyNext_list_end (I.ok.hd hc) st p.isList (by simp;lia) λh' eb=>⟨rfl,I.turned (t':=s.toks) (λb o hb e=>eb b o hb e) f0 f1 f3 f4 f5⟩
 self:=λ_ _ _ _ _ st h=>wpAny_pyIter_listiter st h
theorem vn{P:Program}{w:World}{K:AA6}{tg:Expr}(a it:Addr):Turn P w K tg (Itt K a) [it] it (λi h=>h.IsTupleIter it a i) where
 mem:=by simp
 obj:=λi h st b hb=>by
  have e:b=it:=by simpa using hb
  subst e;obtain⟨o,e,c,d⟩:=st;exact⟨o,e,λv z=>by rw[d]at z;cases z⟩
 keep:=λi h h' st k=>st.at λo e=>k it (by simp) o e
 item:=by
  intro X hP hw hK hc i pins s σ H E I hf st hg;subst hP hw hK;obtain⟨xs,x,hq,hx⟩:=hg;obtain⟨its,rv,p,hz⟩:=I.tuple hq;obtain⟨u,hu,ru⟩:=rv.get hx;obtain⟨f0,f1,f2,f3,f4,f5⟩:=hf it (by simp)
  refine wpAny_pyNext_tuple_item st (show s.heap.IsTuple a its.toArray from p) (x:=u) (by simpa using hu) λh' st' sb=>?_
  have I1:Inv X pins σ H { s with heap:=h' }:=I.turned (t':=s.toks) (λb o hb e=>(sb.2 b hb).trans e) f0 f1 f3 f4 f5
  obtain⟨o,e,c,d⟩:=id st';exact⟨u,rfl,sO (s:={ s with heap:=h' }) e c d (by decide) ⟨x,H,I1,ru,⟨rfl,λys hy=>by rw[I.tuple_inj hy hq];exact hx⟩,st',λb hb=>(hf b hb).1⟩⟩
 done:=by
  intro X hP hw hK hc i pins s σ H E I hf st hg;subst hP hw hK;obtain⟨xs,hq,hx⟩:=hg;obtain⟨its,rv,p,hz⟩:=I.tuple hq;obtain⟨f0,f1,f2,f3,f4,f5⟩:=hf it (by simp)
  have hl:=rv.length;exact wpAny_pyNext_tuple_end (I.ok.hd hc) st (show s.heap.IsTuple a its.toArray from p) (by simp;lia) λh' eb=>⟨rfl,I.turned (t':=s.toks) (λb o hb e=>eb b o hb e) f0 f1 f3 f4 f5⟩
 self:=λ_ _ _ _ _ st h=>wpAny_pyIter_tupleiter st h
def vp{P:Program}{w:World}{K:AA6}{tg:Expr}(it:Addr)(lo:Int)(n:Nat):Turn P w K tg (Itr lo n) [it] it (λi h=>IsRangeIter h it (lo+(i:Nat)*1) ((n:Int)-(i:Nat)) 1) where
 mem:=by simp
 obj:=λi h st b hb=>by
  have e:b=it:=by simpa using hb
  subst e;exact⟨_,st,λv z=>by
   have z':Data.fields _=Data.cell v:=z;cases z'⟩
 keep:=λi h h' st k=>k it (by simp) _ st
 item:=by
  intro X hP hw hK hc i pins s σ H E I hf st hg;subst hP hw hK;obtain⟨f0,f1,f2,f3,f4,f5⟩:=hf it (by simp)
  have W:=Walks.range (prog:=X.prog) (w:=X.w) (I.ok.hd hc) it lo 1 n;refine W.item i s _ _ hg st λv h' tk hv st' kk=>?_
  obtain⟨t,rfl⟩:=hv;have I1:Inv X pins σ H { s with heap:=h',toks:=tk }:=I.turned (λb o hb e=>kk b o (by simpa using hb) e) f0 f1 f3 f4 f5
  refine⟨_,rfl,sO (s:={ s with heap:=h',toks:=tk }) (n:="range_iterator") st' rfl rfl (by decide) ⟨.int (lo+i),H,I1,⟨t,?_⟩,⟨rfl,rfl⟩,st',λb hb=>(hf b hb).1⟩⟩
  rw[Int.mul_one]
 done:=by
  intro X hP hw hK hc i pins s σ H E I hf st hg;subst hP hw hK;obtain⟨f0,f1,f2,f3,f4,f5⟩:=hf it (by simp)
  exact wpAny_pyNext_range_end (I.ok.hd hc) st (by have:n<=i:=hg;lia) λh' eb=>⟨rfl,I.turned (t':=s.toks) (λb o hb e=>eb b o hb e) f0 f1 f3 f4 f5⟩
 self:=λ_ _ _ _ _ st h=>wpAny_pyIter_rangeiter st h
section
variable{X:Cx}{tg:Expr}
def uh{pins:List (Addr×Obj)}{σ:St}{H:Hp}{s:Shared}{R:It->Hp->Prop}{E:Value->Shared->Prop}{lo hi:Int}{t u v:Tok}{tk:Nat}(I:Inv X pins σ H s)(h1:-(2 ^ 62)<=lo)(h2:lo<2 ^ 62)(h3:-(2 ^ 62)<=hi)(h4:hi<2 ^ 62)
  (q:R (Itr lo (hi-lo).toNat) H):wpAny (model X.prog X.w) X.A (pyIter (.ref s.heap.objs.size)) (PIE X pins σ tg R) E { s with heap:=s.heap.push { cls:=.type "range",data:=.fields #[.int lo t,.int hi u,.int 1 v] },toks:=tk }:=by
 refine wpAny_pyIter_range (IsRange.new ..) (small_one h1 h2 h3 h4) ?_
 have I1:Inv X pins σ H { s with heap:=s.heap.push { cls:=.type "range",data:=.fields #[.int lo t,.int hi u,.int 1 v] },toks:=tk }:=I.kept λb o e=>AA3 _ e
 refine⟨(s.heap.push { cls:=.type "range",data:=.fields #[.int lo t,.int hi u,.int 1 v] }).objs.size,[(s.heap.push { cls:=.type "range",data:=.fields #[.int lo t,.int hi u,.int 1 v] }).objs.size],_,_,H,rfl,
  I1.kept (t':=tk) λb o e=>AA3 _ e,vp _ lo (hi-lo).toNat,?_,λb hb=>?_,q⟩
 ·have e1:lo+((0:Nat):Int)*1=lo:=by simp
  have e2:(((hi-lo).toNat:Nat):Int)-((0:Nat):Int)=Builtin.Range.rangeSize lo hi 1:=by rw[rangeSize_one];split<;>lia
  show IsRangeIter _ _ (lo+((0:Nat):Int)*1) ((((hi-lo).toNat:Nat):Int)-((0:Nat):Int)) 1;rw[e1,e2];exact AAC _ rfl
 ·have e:b=(s.heap.push { cls:=.type "range",data:=.fields #[.int lo t,.int hi u,.int 1 v] }).objs.size:=by simpa using hb
  subst e;exact I1.fpOk (AA8 _) (I1.hok.fresh (AA8 _))
def iRng1(ta:TA):TI:=λσ H R=>ta σ H λvs H1=>∃j:Int,vs=[.int j]/\-(2 ^ 62)<=j/\j<2 ^ 62/\R (Itr 0 j.toNat) H1
def iRng2(ta:TA):TI:=λσ H R=>ta σ H λvs H1=>∃i j:Int,vs=[.int i,.int j]/\(-(2 ^ 62)<=i/\i<2 ^ 62/\-(2 ^ 62)<=j/\j<2 ^ 62)/\R (Itr i (j-i).toNat) H1
def xE{a:Expr}{ta:TA}{p pos:Pos}(hg:Gl X "range")(hm:X.mg "range" = none)(ha:PA X [a] ta)(hs:starEach [a] X.env=[(false,eval a X.env)]:=by rfl):PI X tg (.Call (.Name "range" p) [a] [] pos) (iRng1 ta):=by
 intro pins s σ H R I h;refine Call_ (gF I hg hm boot_range (ABp (thn (ha pos pins s σ H _ I h) λus s1 ⟨vs,H1,I1,r1,q1⟩=>?_) hs rfl))
 obtain⟨j,e,q1,q2,q⟩:=q1;subst e;cases r1 with
 | cons r rr =>
  cases rr
  obtain⟨t,rfl⟩:=r;exact call_range_1 (uh I1 (by lia) (by lia) q1 q2 (by simpa using q))
def xD(hg:Gl X "range")(hm:X.mg "range" = none)(ha:PA X [a,b] ta)(hs:starEach [a,b] X.env=[(false,eval a X.env),(false,eval b X.env)]:=by rfl)(hs2:starEach [b] X.env=[(false,eval b X.env)]:=by rfl) :
  PI X tg (.Call (.Name "range" p) [a,b] [] pos) (iRng2 ta):=by
 intro pins s σ H R I h;refine Call_ (gF I hg hm boot_range (ABp (thn (ha pos pins s σ H _ I h) λus s1 ⟨vs,H1,I1,r1,q1⟩=>?_) (by rw[hs,hs2]) (by rw[hs2];rfl)))
 obtain⟨i,j,e,⟨q1,q2,q3,q4⟩,q⟩:=q1;subst e;cases r1 with
 | cons r rr =>
  cases rr with
  | cons r' rr =>
   cases rr
   obtain⟨t,rfl⟩:=r;obtain⟨t',rfl⟩:=r';exact call_range_2 (uh I1 q1 q2 q3 q4 q)
def tFor(wi:TI)(g:TG)(tb:TS):TS:=λD σ H=>wi σ H λJ H1=>∃W:Nat->Nat->St->Hp->Prop,(∃m,W 0 m σ H1)/\∀i m σ H,W i m σ H ->
 (J.stop i H/\D.nx σ H)\/(J.go i H/\∃N:St->Hp->Prop,(∀σ' H',N σ' H'->∃m',m' < m/\W (i+1) m' σ' H')/\∀x H',J.yld i H x H'->g x σ H' λσ2 H2=>tb { D with nx:=N,ct:=N,bk:=D.nx } σ2 H2)
def iz(fp:List Addr)(h:Heap):List (Addr×Obj):=fp.filterMap λb=>(h.get? b).map λo=>(b,o)
def fO(hb:b∈fp)(e:h.get? b=some o):(b,o)∈iz fp h:=List.mem_filterMap.mpr ⟨b,hb,by rw[e];rfl⟩
def qo(hp:p∈iz fp h):p.1∈fp/\h.get? p.1=some p.2:=by
 obtain⟨b,hb,e⟩:=ADk.mp hp;cases q:h.get? b with
 | none=>rw[q]at e;cases e
 | some o =>
  rw[q]at e;have e':(b,o)=p:=AAR e;subst e';exact⟨hb,q⟩
def Inv.pinned(I:Inv X pins σ H s)(hf:∀b∈fp,wu X pins H b)(ho:∀b∈fp,∃o,s.heap.get? b=some o/\∀v,o.data≠.cell v):Inv X (pins++iz fp s.heap) σ H s :=
 I.pins_of λp hp=>(AAa.mp hp).elim (λz=>I.pin p (AAB _ z)) λz=>by
  obtain⟨hb,e⟩:=qo z;obtain⟨f0,f1,f2,_⟩:=hf p.1 hb;obtain⟨o,e',d⟩:=ho p.1 hb;rw[e]at e';cases e';exact⟨e,f0,f1,f2,d⟩
def Inv.unpinned(I:Inv X (pins++pl) σ H s):Inv X pins σ H s:=I.pins_of λp hp=>I.pin p (AAB _ (AAP _ hp))
def FG(hp:PassesOwn (model X.prog X.w) X.A X.env X.xe)(hc:X.calm=true)(hi:PI X tg iter wi)(hg:PG X tg g)(hb:PSs X body tb)
  (hs:∀x,foldedSetIterable iter X.env x=pure x:=by intro _;rfl):PS X (.For tg iter body [] pos) (tFor wi g tb):=by
 intro pins s σ H D I h;refine wpAny_For (thn (hi pins s σ H _ I h) λv s1 h1=>thn h1 λitv s2 h2=>?_) hs
 obtain⟨it,fp,tn,J,H2,e,I2,T,st2,f2,W,⟨m0,w0⟩,turn⟩:=h2;subst e
 -- what stays true of the iterator's objects through the loop
 have stat:∀{H':Hp},(∀b∈fp,H' b=none)->∀b∈fp,wu X pins H' b:=λhn b hb=>⟨hn b hb,(f2 b hb).2⟩
 refine codeAny_forLoop_any (λn s'=>∃i σ' H',Inv X pins σ' H' s'/\tn i s'.heap/\(∀b∈fp,H' b=none)/\W i n σ' H') ?_ m0 ⟨0,σ,H2,I2,st2,λb hb=>(f2 b hb).1,w0⟩
 rintro n s3 ⟨i,σ3,H3,I3,st3,fr3,w3⟩;rcases turn i n σ3 H3 w3 with⟨stop,qn⟩|⟨go,N,hN,step⟩
 ·refine ACl hp (thn (T.done X rfl rfl rfl hc i pins s3 σ3 H3 X.xe I3 (stat fr3) st3 stop) λr s4 ⟨hr,I4⟩=>?_)
  subst hr;exact AEN ⟨σ3,H3,I4,qn⟩
 ·refine ACl hp (thn (T.item X rfl rfl rfl hc i pins s3 σ3 H3 X.xe I3 (stat fr3) st3 go) λr s4 ⟨u,hr,h4⟩=>?_)
  subst hr;refine ACl hp (thn h4 λ_ s5 ⟨x,H5,I5,r5,y5,st5,fr5⟩=>?_)
  have I5':=I5.pinned (stat fr5) (T.obj _ _ st5);refine ACl hp (thn (hg _ s5 σ3 H5 x u _ I5' r5 (step x H5 y5)) λ_ s6 ⟨σ6,H6,I6,q6⟩=>?_)
  refine ACl hp (thn (hb _ s6 σ6 H6 _ I6 q6) λf s7 q7=>?_)
  have again:∀{σ7:St}{H7:Hp},Inv X (pins++iz fp s5.heap) σ7 H7 s7->N σ7 H7->∃m,m<n/\∃i σ' H',Inv X pins σ' H' s7/\tn i s7.heap/\(∀b∈fp,H' b=none)/\W i m σ' H':=λ{σ7 H7} I7 n7=>by
   obtain⟨m',hm,w7⟩:=hN σ7 H7 n7;refine⟨m',hm,i+1,σ7,H7,I7.unpinned,T.keep _ _ _ st5 λb hb o e=>(I7.pin (b,o) (AAB _ (AAB _ (fO hb e)))).1,λb hb=>?_,w7⟩
   obtain⟨o,e,d⟩:=T.obj _ _ st5 b hb;exact(I7.pin (b,o) (AAB _ (AAB _ (fO hb e)))).2.1
  cases f with
  | next=>obtain⟨σ7,H7,I7,n7⟩:=q7;exact again I7 n7
  | cont=>obtain⟨σ7,H7,I7,n7⟩:=q7;exact again I7 n7
  | brk=>obtain⟨σ7,H7,I7,q7⟩:=q7;exact⟨σ7,H7,I7.unpinned,q7⟩
  | ret v=>obtain⟨x7,σ7,H7,I7,r7,q7⟩:=q7;exact⟨x7,σ7,H7,I7.unpinned,r7,q7⟩
end
abbrev R2:=V->V->Hp->VK->Prop
def OpR(X:Cx)(f:Value->Value->Sem Value)(r:R2):Prop :=
 ∀(pins:List (Addr×Obj)) (s:Shared) (σ:St) (H:Hp) (x y:V) (v u:Value) (Q:VK),Inv X pins σ H s->aI x v->aI y u->r x y H Q ->
  wpAny (model X.prog X.w) X.A (f v u) (EP X pins σ Q) X.xe s
def UnR(X:Cx)(f:Value->Sem Value)(r:V->Hp->VK->Prop):Prop :=
 ∀(pins:List (Addr×Obj)) (s:Shared) (σ:St) (H:Hp) (x:V) (v:Value) (Q:VK),Inv X pins σ H s->aI x v->r x H Q ->
  wpAny (model X.prog X.w) X.A (f v) (EP X pins σ Q) X.xe s
def hW(X:Cx)(f:Value)(r:List V->Hp->VK->Prop):Prop :=
 ∀(pins:List (Addr×Obj)) (s:Shared) (σ:St) (H:Hp) (xs:List V) (us:List Value) (Q:VK),Inv X pins σ H s->au xs us->r xs H Q ->
  wpAny (model X.prog X.w) X.A (call f us) (EP X pins σ Q) X.xe s
def tOp(r:R2)(ta tb:TE):TE:=λσ H Q=>ta σ H λx H1=>tb σ H1 λy H2=>r x y H2 Q
def rI(C:Int->Int->Prop)(g:Int->Int->V):R2:=λx y H Q=>∃i j,x=.int i/\y=.int j/\C i j/\Q (g i j) H
def rI0(g:Int->Int->V):R2:=λx y H Q=>∃i j,x=.int i/\y=.int j/\Q (g i j) H
section
variable{X:Cx}{a b c:Expr}{ta tb tc:TE}{pos:Pos}
def binT(ha:PE X a ta)(hb:PE X b tb){pins:List (Addr×Obj)}{s:Shared}{σ:St}{H:Hp}{R:V->V->Hp->Prop}(I:Inv X pins σ H s)
  (h:ta σ H λx H1=>tb σ H1 λy H2=>R x y H2) {Q:Value->Shared->Prop}{f:Value->Value->Sem Value}
  (hf:∀v u s2 x y H2,Inv X pins σ H2 s2->aI x v->aI y u->R x y H2->wpAny (model X.prog X.w) X.A (f v u) Q X.xe s2) :
  wpAny (model X.prog X.w) X.A (eval a X.env) (λv s₁=>wpAny (model X.prog X.w) X.A (eval b X.env) (λu s₂=>wpAny (model X.prog X.w) X.A (f v u) Q X.xe s₂) X.xe s₁) X.xe s:=by
 refine thn (ha pins s σ H _ I h) λv s1 ⟨x,H1,I1,r1,q1⟩=>?_
 refine thn (hb pins s1 σ H1 _ I1 q1) λu s2 ⟨y,H2,I2,r2,q2⟩=>?_
 exact hf v u s2 x y H2 I2 r1 r2 q2
def pe_op{op:Operator}{r:R2}(ho:OpR X (binaryOp op) r)(ha:PE X a ta)(hb:PE X b tb):PE X (.BinOp a op b pos) (tOp r ta tb):=by
 intro pins s σ H Q I h;exact wpAny_BinOp (binT ha hb I h λv u s2 x y H2 I2 rx ry q=>ho pins s2 σ H2 x y v u Q I2 rx ry q)
def opI{f:Value->Value->Sem Value}{C:Int->Int->Prop}{g:Int->Int->Int}
  (rule:∀(i j:Int) (t u:Tok) (s:Shared) (Q:Value->Shared->Prop) (E:Value->Shared->Prop),C i j->Q (.int (g i j) s.toks) { s with toks:=s.toks+1 }->wpAny (model X.prog X.w) X.A (f (.int i t) (.int j u)) Q E s) :
  OpR X f (rI C λi j=>.int (g i j)):=by
 intro pins s σ H x y v u Q I rx ry h;obtain⟨i,j,rfl,rfl,hc,q⟩:=h;obtain⟨t,rfl⟩:=rx;obtain⟨t',rfl⟩:=ry;exact rule i j t t' s _ _ hc ⟨.int (g i j),H,I.tok _,⟨_,rfl⟩,q⟩
def opI0{f:Value->Value->Sem Value}{g:Int->Int->Int}
  (rule:∀(i j:Int) (t u:Tok) (s:Shared) (Q:Value->Shared->Prop) (E:Value->Shared->Prop),Q (.int (g i j) s.toks) { s with toks:=s.toks+1 }->wpAny (model X.prog X.w) X.A (f (.int i t) (.int j u)) Q E s) :
  OpR X f (rI0 λi j=>.int (g i j)):=by
 intro pins s σ H x y v u Q I rx ry h;obtain⟨i,j,rfl,rfl,q⟩:=h;obtain⟨t,rfl⟩:=rx;obtain⟨t',rfl⟩:=ry;exact rule i j t t' s _ _ ⟨.int (g i j),H,I.tok _,⟨_,rfl⟩,q⟩
def opB0{f:Value->Value->Sem Value}{g:Int->Int->Bool}
  (rule:∀(i j:Int) (t u:Tok) (s:Shared) (Q:Value->Shared->Prop) (E:Value->Shared->Prop),Q (.bool (g i j)) s->wpAny (model X.prog X.w) X.A (f (.int i t) (.int j u)) Q E s) :
  OpR X f (rI0 λi j=>.bl (g i j)):=by
 intro pins s σ H x y v u Q I rx ry h;obtain⟨i,j,rfl,rfl,q⟩:=h;obtain⟨t,rfl⟩:=rx;obtain⟨t',rfl⟩:=ry;exact rule i j t t' s _ _ ⟨.bl (g i j),H,I,rfl,q⟩
def CPow(i j:Int):Prop:=0<=j/\j<=1000000/\i.natAbs<2 ^ 64
def CMul(i j:Int):Prop:=(-(2 ^ 64)<i/\i<2 ^ 64)\/(-(2 ^ 64)<j/\j<2 ^ 64)
def CMul.ok(h:CMul i j):IntMulOk i j:=by
 rcases h with⟨h1,h2⟩|⟨h1,h2⟩
 ·exact .of_left (intBits_le_64 h1 h2)
 ·exact .of_right (intBits_le_64 h1 h2)
def FZ:OpR X (binaryOp .Add) (rI0 λi j=>.int (i+j)):=opI0 λ_ _ _ _ _ _ _ q=>add_int q
def FT:OpR X (binaryOp .Sub) (rI0 λi j=>.int (i-j)):=opI0 λ_ _ _ _ _ _ _ q=>sub_int q
def FW:OpR X (binaryOp .Mult) (rI CMul λi j=>.int (i*j)):=opI λ_ _ _ _ _ _ _ hc q=>mul_int q hc.ok
def FX:OpR X (binaryOp .Mod) (rI (λ_ j=>0<j) λi j=>.int (i % j)):=opI λi j _ _ _ _ _ hc q=>by
 have h1:(0:Int)<j:=hc;exact mod_int' (by lia) (by rw[Int.fmod_eq_emod_of_nonneg i (by lia)];exact q)
def FV:OpR X (binaryOp .Pow) (rI CPow λi j=>.int (i ^ j.toNat)):=opI λ_ _ _ _ _ _ _ hc q=>pow_int_small hc.1 hc.2.1 hc.2.2 q
def FU:OpR X (binaryOp .LShift) (rI CPow λi j=>.int (i*2 ^ j.toNat)):=opI λ_ _ _ _ _ _ _ hc q=>lshift_int_small hc.1 hc.2.1 hc.2.2 q
end
section
variable{X:Cx}{a b c:Expr}{ta tb tc:TE}{pos:Pos}
def op_lt:OpR X (compareOp .Lt) (rI0 λi j=>.bl (decide (i<j))):=opB0 λ_ _ _ _ _ _ _ q=>lt_int q
def op_gt:OpR X (compareOp .Gt) (rI0 λi j=>.bl (decide (j<i))):=opB0 λ_ _ _ _ _ _ _ q=>gt_int q
def op_ge:OpR X (compareOp .GtE) (rI0 λi j=>.bl (decide (j<=i))):=opB0 λ_ _ _ _ _ _ _ q=>ge_int q
def OpR.or(h:OpR X f r)(h':OpR X f r'):OpR X f (λx y H Q=>r x y H Q\/r' x y H Q):=by
 intro pins s σ H x y v u Q I rx ry q;rcases q with q | q
 ·exact h pins s σ H x y v u Q I rx ry q
 ·exact h' pins s σ H x y v u Q I rx ry q
def Dh(ho:OpR X (compareOp op) r)(ha:PE X a ta)(hb:PE X b tb)(hm:behindInMarks op b=false):PE X (.Compare a [op] [b] pos) (tOp r ta tb):=by
 intro pins s σ H Q I h;exact wpAny_Compare1 (binT ha hb I h λv u s2 x y H2 I2 rx ry q=>ho pins s2 σ H2 x y v u Q I2 rx ry q) hm
def Fi(t:TE):TT:=λσ H Q=>t σ H λx H'=>∃k,x=.bl k/\Q k H'
def CW(ho:OpR X (compareOp op) r)(ha:PE X a ta)(hb:PE X b tb)(hm:behindInMarks op b=false):PT X (.Compare a [op] [b] pos) (Fi (tOp r ta tb)):=by
 intro pins s σ H Q I h;refine wpAny_isTrue_Compare1 (thn (ha pins s σ H _ I h) λv s1 ⟨x,H1,I1,r1,q1⟩=>thn (hb pins s1 σ H1 _ I1 q1) λu s2 ⟨y,H2,I2,r2,q2⟩ =>
  thn (ho pins s2 σ H2 x y v u _ I2 r1 r2 q2) λc s3 ⟨z,H3,I3,r3,k,e,q3⟩=>?_) hm
 subst e;cases r3
 exact ACk ⟨H3,I3,q3⟩
def mN:(sizeLine:Nat)<2 ^ 63:=by rw[ABq];decide
def vG:OpR X (binaryOp .Add) (λx y H Q=>∃i j,x=.str i/\y=.str j/\i.length+j.length<=sizeLine/\Q (.str (i++j)) H):=by
 intro pins s σ H x y v u Q I rx ry h;obtain⟨i,j,rfl,rfl,hz,q⟩:=h;obtain⟨t,rfl⟩:=rx;obtain⟨t',rfl⟩:=ry;exact add_str (λt' tk=>⟨.str (i++j),H,I.tok _,⟨_,rfl⟩,q⟩) hz
def CA(r:au [x] us):∃u,us=[u]/\aI x u:=by
 cases r with
 | cons r1 r2=>cases r2;exact⟨_,rfl,r1⟩
end
structure ObjM(h:Heap)(x dx C:Addr)(mA:Str->Option Value):Prop where
 obj:h.get? x=some (PySem.W.instObj C dx)
 ns:h.Ns1 dx mA
 ne:dx≠x
def Cr.some_of(r:Cr (some v) o):∃u,o=some u/\aI v u:=by
 cases o with
 | none=>exact(show False from r).elim
 | some u=>exact⟨u,rfl,r⟩
structure Cls(K:AA6)(C:Addr):Prop where
 pg:PySem.W.plainGet K C Str.empty=true
 hd:PySem.W.hasDictIn K C=true
 po:PySem.W.plainOver K C=true
 sa:AEB K (.ref C) "__setattr__" = some (some (.builtin "object.__setattr__"))
structure Con(K:AA6)(C:Addr)(f:Str)(v:V)(u:Value):Prop where
 at_:AEB K (.ref C) f=some (some u)
 rel:aI v u
 get:PySem.W.specialIn K u "__get__" = some none
 cp:PySem.W.copiedNames.contains f=false
structure Meth(K:AA6)(C:Addr)(m:Str)(f:Addr):Prop where
 at_:AEB K (.ref C) m=some (some (.ref f))
 fn:PySem.W.isFn K (.ref f)=true
 kp:ACf K (.ref f)=true
section
variable{X:Cx}{pins:List (Addr×Obj)}{σ:St}{H:Hp}{s:Shared}{A:Around}{E:Value->Shared->Prop}{Q:Value->Shared->Prop}{c:Value}{b:Bool}
inductive TyOf(K:AA6)(H:Hp):V->Value->Prop where
 | non:TyOf K H .non (.type "NoneType")
 | bl (x:Bool):TyOf K H (.bl x) (.type "bool")
 | int (i:Int):TyOf K H (.int i) (.type "int")
 | str (x:Str):TyOf K H (.str x) (.type "str")
 | flt (x:UInt64):TyOf K H (.flt x) (.type "float")
 | lst {a:Addr}{xs:List V} (e:H a=some (.lst xs)):TyOf K H (.ref a) (.type "list")
 | frz {a:Addr}{o:Obj}{xs:List V} (e:H a=some (.frz o (.lst xs))):TyOf K H (.ref a) (.type "list")
 | tup {a:Addr}{xs:List V} (e:H a=some (.tup xs)):TyOf K H (.ref a) (.type "tuple")
 | dK {a:Addr}{kvs:List (Key×V)} (e:H a=some (.dK kvs)):TyOf K H (.ref a) (.type "dict")
 | dT {a:Addr}{kvs:List (List Key×V)} (e:H a=some (.dT kvs)):TyOf K H (.ref a) (.type "dict")
 | ins {a C dx:Addr}{fs:List (Str×V)} (e:H a=some (.ins C dx fs)) (cl:Cls K C) (ha:AEB K (.ref C) "__class__" = some (some (.builtin "object.__class__")))
   (hn:PySem.W.specialIn K (.builtin "object.__class__") "__get__" = some (some (.builtin "getset_descriptor.__get__"))) (htk:PySem.W.takesIn K (.builtin "object.__class__")=some true)
   (hm:PySem.W.mroIn K C (.type "object")=some true):TyOf K H (.ref a) (.ref C)
end
structure Room(k:Nat)(A:Around):Prop where
 hd:A.handled=none
 dp:A.depth+3*k+5<recursionLimit
 un:A.units+16*k+200<cLine
def Room.mono(r:Room k A)(h:j<=k):Room j A:=⟨r.hd,by have:=r.dp;lia,by have:=r.un;lia⟩
def Room.deeper(r:Room (k+1) A)(env:Env):Room k (A.deeper env) :=
 ⟨r.hd,by have:=r.dp;show A.depth+1+3*k+5<_;lia,by have:=r.un;show A.units+3+16*k+200<_;lia⟩
def Room.in1(r:Room (k+1) A):Room k A.in1 :=
 ⟨r.hd,by have:=r.dp;show A.depth+3*k+5<_;lia,by have:=r.un;show A.units+1+16*k+200<_;lia⟩
def Room.depth(r:Room k A):A.depth<recursionLimit:=by have:=r.dp;lia
def tNil:TA:=λ_ H Q=>Q [] H
def tCons(ta:TE)(tr:TA):TA:=λσ H Q=>ta σ H λx H1=>tr σ H1 λxs H2=>Q (x::xs) H2
section
variable{X:Cx}{e:Expr}{es:List Expr}{te:TE}{t:TA}{pos:Pos}
def FS:PA X [] tNil:=λ_ _ _ _ H Q I h=>AE2 ⟨[],H,I,.nil,h⟩
def Dj(ha:PE X e te)(hr:PA X es t)(hs:starEach (e::es) X.env=(false,eval e X.env)::starEach es X.env:=by rfl):PA X (e::es) (tCons te t):=by
 intro pos pins s σ H Q I h;rw[hs];show wpAny _ _ (spliced ((false,eval e X.env)::backTo pos (starEach es X.env))) _ _ s;refine ADl (thn (ha pins s σ H _ I h) λu s1 ⟨x,H1,I1,r1,q1⟩=>?_)
 exact thn (hr pos pins s1 σ H1 _ I1 q1) λus s2 ⟨xs,H2,I2,r2,q2⟩=>⟨x::xs,H2,I2,.cons r1 r2,q2⟩
def tTup(t:TA):TE:=λσ H Q=>t σ H λxs H1=>xs.length<=sizeLine/\∀p,H1 p=none->Q (.ref p) (upd H1 p (.tup xs))
def tLst(t:TA):TE:=λσ H Q=>t σ H λxs H1=>xs.length<=sizeLine/\∀p,H1 p=none->Q (.ref p) (upd H1 p (.lst xs))
def FK{x1}(h:PA X es t):PE X (.Tuple es x1 pos) (tTup t):=by
 intro pins s σ H Q I hq;refine wpAny_Tuple_spliced (thn (h pos pins s σ H _ I hq) λus s1 ⟨xs,H1,I1,r,z,q⟩=>⟨by rw[<-r.length];exact z,?_⟩)
 have hf:H1 s1.heap.objs.size=none:=I1.hok.fresh (AA8 _);refine⟨.ref s1.heap.objs.size,upd H1 s1.heap.objs.size (.tup xs),I1.laid (t':=s1.toks) (λb u e=>AA3 _ e) (AA8 _) ?_,rfl,q _ hf⟩
 exact⟨z,us,r,⟨_,AAC _ rfl,rfl,⟨_,rfl⟩,rfl⟩⟩
def FO(h:PA X es t):PE X (.List es pos) (tLst t):=by
 intro pins s σ H Q I hq;refine wpAny_List_spliced (thn (h pos pins s σ H _ I hq) λus s1 ⟨xs,H1,I1,r,z,q⟩=>⟨by rw[<-r.length];exact z,?_⟩)
 have hf:H1 s1.heap.objs.size=none:=I1.hok.fresh (AA8 _);refine⟨.ref s1.heap.objs.size,upd H1 s1.heap.objs.size (.lst xs),I1.laid (t':=s1.toks) (λb u e=>AA3 _ e) (AA8 _) ?_,rfl,q _ hf⟩
 exact⟨z,us,0,r,AAC _ rfl⟩
end
abbrev Sp:=List V->Hp->VK->XK->Prop
abbrev CXT:=List Env->Hp->Shared->XK->Value->Shared->Prop
structure Env0(P:Program)(w:World)(K:AA6)(mg:Str->Option Value)(base:Heap)(A:Around)(outer:List Env)(s:Shared)(H:Hp):Prop where
 frames:A.frames=some outer
 mod:Mod K mg base
 bs:∀b o,base.get? b=some o->s.heap.get? b=some o/\H b=none
 bsz:base.objs.size<=s.heap.objs.size
 funs:s.heap.FunFrames base outer
 frf:∀b∈frs outer,H b=none
 hok:HOk P w H s.heap
 bare:AllBare s.gens
inductive CE(outer:List Env)(P:Program)(w:World)(H:Hp)(s:Shared)(Q:VK)(u:Value)(s':Shared):Prop
 | mk (v:_) (H':_) (f0:s'.os=s.os) (f1:AllBare s'.gens) (f2:Un (frs outer) [] H H' s.heap s'.heap) (f3:HOk P w H' s'.heap) (f4:aI v u) (f5:Q v H')
def CR(CX:CXT)(outer:List Env)(P:Program)(w:World)(H:Hp)(s:Shared)(Q:VK)(E:XK)(r:Result)(s':Shared):Prop :=
 match r with
 | .ok (.ret u)=>CE outer P w H s Q u s'
 | .ok _=>False
 | .error e=>CX outer H s E e s'
structure FnOk(P:Program)(w:World)(K:AA6)(mg:Str->Option Value)(base:Heap)(CX:CXT)(k:Nat)(f:Addr)(fd:FuncData)(ps:List Str)(sp:Sp):Prop where
 len:∀vs H Q E,sp vs H Q E->vs.length=ps.length
 run:∀(A:Around) (outer:List Env) (s:Shared) (H:Hp) (args:Args) (us:List Value) (vs:List V) (Q:VK) (E:XK),Room k A->Env0 P w K mg base A outer s H->BindsTo s fd args (ps.zip us)->au vs us->sp vs H Q E ->
  codeAny (model P w) A (.call (.ref f) args) (CR CX outer P w H s Q E) s
def Env0.in1{P:Program}{w:World}{K:AA6}{mg:Str->Option Value}{base:Heap}{A:Around}{outer:List Env}{s:Shared}{H:Hp}(e:Env0 P w K mg base A outer s H) :
  Env0 P w K mg base A.in1 outer s H:=⟨e.frames,e.mod,e.bs,e.bsz,e.funs,e.frf,e.hok,e.bare⟩
section
variable{X:Cx}{pins:List (Addr×Obj)}{σ:St}{H:Hp}{s s':Shared}
def Inv.env0(I:Inv X pins σ H s):Env0 X.prog X.w X.K X.mg X.base X.A X.stack s H :=
 ⟨I.ok.frames,I.ok.mod,I.bs,AB3 I.ok.bsz I.sz,I.stack,I.stkFree,I.hok,I.bare⟩
def Inv.after(I:Inv X pins σ H s)(h:CE X.stack X.prog X.w H s Q u s'):EP X pins σ Q u s':=by
 obtain⟨v,H',os,bare,un,hok,r,q⟩:=h;obtain⟨hh,g,d,t,os'⟩:=s';obtain rfl:os'=s.os:=os;exact⟨v,H',I.call (h':=hh) (g':=g) (d':=d) (t':=t) (ch:=[]) un hok bare (λb z=>absurd z (by simp)),r,q⟩
end
def Fk(sp:Sp)(dvs:List V)(E:XK)(t:TA):TE:=λσ H Q=>t σ H λvs H1=>sp (vs++dvs) H1 Q E
def rP(K:AA6)(fd:FuncData)(ps:List Str)(ds:List Value):Prop :=
 ∀(s:Shared) (us:List Value),K.In s.heap->(us++ds).length=ps.length->BindsTo s fd ⟨us,[]⟩ (ps.zip (us++ds))
def rP.all{K:AA6}{fd:FuncData}{ps:List Str}(h:∀us:List Value,us.length=ps.length->bindArgs fd ⟨us,[]⟩=pure (ps.zip us)):rP K fd ps []:=λs us _ hl=>by
 rw[AB7]at hl ⊢;exact .of_eq (h us hl)
def zw(CX:CXT)(X:Cx)(E:XK):Prop:=∀(pins:List (Addr×Obj)) (σ:St) (H:Hp) (s:Shared) (e:Value) (s':Shared),Inv X pins σ H s->CX X.stack H s E e s'->X.xe e s'
section
variable{X:Cx}{CX:CXT}{k:Nat}{f C:Addr}{fd:FuncData}{ps:List Str}{sp:Sp}{dvs:List V}{ds:List Value}{E:XK}{x m:Str}{p pos apos:Pos}{e o:Expr}{es:List Expr}{ta:TE}{t:TA}
def Fu(F:FnOk X.prog X.w X.K X.mg X.base CX k f fd ps sp)(hr:Room k X.A)(hb:rP X.K fd ps ds)(hd:au dvs ds)(hx:zw CX X E)
  (I:Inv X pins σ H s) (r:au vs us) (h:sp (vs++dvs) H Q E):wpAny (model X.prog X.w) X.A (call (.ref f) us) (EP X pins σ Q) X.xe s:=by
 have r2:au (vs++dvs) (us++ds):=r.append hd;have hl:(us++ds).length=ps.length:=by rw[<-r2.length];exact F.len _ _ _ _ h
 refine wpAny_call (ADf (F.run X.A X.stack s H ⟨us,[]⟩ (us++ds) (vs++dvs) Q E hr I.env0 (hb s us I.kIn hl) r2 h) λr s' hq=>?_)
 cases r with
 | error e=>exact hx pins σ H s e s' I hq
 | ok fl =>
  cases fl with
  | ret u=>exact I.after hq
  | next=>exact AD2 hq
  | brk=>exact AD2 hq
  | cont=>exact AD2 hq
def Di(F:FnOk X.prog X.w X.K X.mg X.base CX k f fd ps sp)(hr:Room k X.A)(hg:Gl X x)(hm:X.mg x=some (.ref f))(hk:ACf X.K (.ref f)=true)(hb:rP X.K fd ps ds)(hd:au dvs ds)(hx:zw CX X E)
  (ha:PA X (e::es) t) (hdb:(x==("__debug__":Str))=false:=by decide) (he:starEach (e::es) X.env=(false,eval e X.env)::starEach es X.env:=by rfl) (hpl:(backTo pos (starEach es X.env)).any (·.1)=false:=by rfl) :
  PE X (.Call (.Name x p) (e::es) [] pos) (Fk sp dvs E t):=by
 intro pins s σ H Q I h;refine ACF (DJ I hg hm ?_ hdb);refine PySem.W.callWith_K (h₀:=X.base) I.ok.mod.kin hk (thn (ha pos pins s σ H _ I h) λus s1 ⟨vs,H1,I1,r,q⟩=>⟨I1.kIn,?_⟩) he hpl
 exact Fu F hr hb hd hx I1 r q
structure Mk(K:AA6)(C f:Addr):Prop where
 makes:PySem.W.makesIn K C=true
 init:AEB K (.ref C) "__init__" = some (some (.ref f))
 fn:PySem.W.isFn K (.ref f)=true
 kp:ACf K (.ref C)=true
end
section
variable{X:Cx}{CX:CXT}{k:Nat}{f C:Addr}{fd:FuncData}{ps ks:List Str}{sp:Sp}{E:XK}{x m:Str}{p pos apos kpos:Pos}{e o:Expr}{es:List Expr}{kws:List Keyword}{te ta:TE}{t tk:TA}{nm:Option Str}
structure KBinds(K:AA6)(fd:FuncData)(ps ks:List Str)(g:List Value->List Value->List Value)(gV:List V->List V->List V):Prop where
 to:∀(s:Shared) (us ws:List Value),K.In s.heap->(g us ws).length=ps.length->BindsTo s fd ⟨us,ks.zip ws⟩ (ps.zip (g us ws))
 rel:∀{vs:List V}{us:List Value}{zs:List V}{ws:List Value},au vs us->au zs ws->au (gV vs zs) (g us ws)
variable{g:List Value->List Value->List Value}{gV:List V->List V->List V}
end
structure FnScope(N P:List Str)(sc:Scope):Prop where
 kind:sc.kind=.function
 co:sc.isCoroutine=false
 gen:sc.isGenerator=false
 nd:N.Nodup
 pre:N.take P.length=P
 par:∀x∈P,sc.names.lookup x=some .local\/sc.names.lookup x=some .cell
 nofree:∀y∈sc.names,y.2≠.free
def rG{kindOf:Str->Option NameKind}{x:Str}:∀{binds:List (Str×Value)}{m:Str->Option Value},(∀v,(x,v)∉binds)->bindL kindOf binds m x=m x
 | [],_,_=>rfl
 | (n,v)::r,m,h=>by
  unfold bindL;rw[rG λw hw=>h w (AA9 _ hw)]
  split
  ·have:x≠n:=by rintro rfl;exact h v AAI
   simp[this]
  ·rfl
def rJ{kindOf:Str->Option NameKind}{x:Str}:∀{binds:List (Str×Value)}{m:Str->Option Value},(∀v,(x,v)∉binds)->bindC kindOf binds m x=m x
 | [],_,_=>rfl
 | (n,v)::r,m,h=>by
  unfold bindC;rw[rJ λw hw=>h w (AA9 _ hw)]
  split
  ·rfl
  ·have:x≠n:=by rintro rfl;exact h v AAI
   simp[this]
def rH{kindOf:Str->Option NameKind}{x:Str}{v:Value}:∀{P:List Str}{vs:List Value}{i:Nat}{m:Str->Option Value},P.Nodup->P[i]?=some x->vs[i]?=some v->kindOf x=some .local ->
  bindL kindOf (P.zip vs) m x=some v
 | [],_,_,_,_,h,_,_=>by simp at h
 | _::_,[],_,_,_,_,h,_=>by simp at h
 | p::P,w::vs,0,m,nd,h1,h2,hk=>by
  simp at h1 h2;subst h1;subst h2;show bindL kindOf ((p,w)::P.zip vs) m p=_;unfold bindL;rw[rG λv hv=>(ABH.mp nd).1 (AEO hv).1,if_pos hk]
  simp
 | p::P,w::vs,i+1,m,nd,h1,h2,hk=>by
  show bindL kindOf ((p,w)::P.zip vs) m x=_;unfold bindL;exact rH (i:=i) (ABH.mp nd).2 (by simpa using h1) (by simpa using h2) hk
def rK{kindOf:Str->Option NameKind}{x:Str}{v:Value}:∀{P:List Str}{vs:List Value}{i:Nat}{m:Str->Option Value},P.Nodup->P[i]?=some x->vs[i]?=some v->kindOf x≠some .local ->
  bindC kindOf (P.zip vs) m x=some v
 | [],_,_,_,_,h,_,_=>by simp at h
 | _::_,[],_,_,_,_,h,_=>by simp at h
 | p::P,w::vs,0,m,nd,h1,h2,hk=>by
  simp at h1 h2;subst h1;subst h2;show bindC kindOf ((p,w)::P.zip vs) m p=_;unfold bindC;rw[rJ λv hv=>(ABH.mp nd).1 (AEO hv).1,if_neg hk]
  simp
 | p::P,w::vs,i+1,m,nd,h1,h2,hk=>by
  show bindC kindOf ((p,w)::P.zip vs) m x=_;unfold bindC;exact rK (i:=i) (ABH.mp nd).2 (by simpa using h1) (by simpa using h2) hk
def start(N:List Str)(vs:List V):St:=vs.map some++AEC (N.length-vs.length) none
def rC(CX:CXT)(P:Program)(w:World)(K:AA6)(mg:Str->Option Value)(base:Heap)(N:List Str)(qual:Str)(scope:Scope)(f:Addr)(cd:Value)(A:Around)(outer:List Env)(s:Shared)(H:Hp)(E:XK):Cx where
 prog:=P
 w:=w
 K:=K
 mg:=mg
 base:=base
 A:=A.deeper (envOfC qual scope s.heap.objs.size f cd)
 N:=N
 s₀:=s
 H₀:=H
 env:=envOfC qual scope s.heap.objs.size f cd
 outer:=outer
 stack:=envOfC qual scope s.heap.objs.size f cd::outer
 ex:=[]
 calm:=true
 fn:=λ_=>true
 pn:=[]
 xe:=λe s'=>wpAny (model P w) (A.deeper (envOfC qual scope s.heap.objs.size f cd)) (leaving (envOfC qual scope s.heap.objs.size f cd) e) (λ_ s''=>CX outer H s E e s'') (λe' s''=>CX outer H s E e' s'') s'
def uT{sc:Scope}{n:Nat}{x:Str}(h:sc.names.lookup x=some .cell):∃c,(cellsFrom n sc.names []).lookup x=some c:=by
 have q:=ADz sc.names n [] (.inl h);exact ADg.mp q
def qK{CX:CXT}{P:Program}{w:World}{K:AA6}{mg:Str->Option Value}{base:Heap}{N ps:List Str}{qual:Str}{scope:Scope}{f:Addr}{cd:Value}{A:Around}{outer:List Env}{s s1:Shared}{H:Hp}{E:XK}{us:List Value}{vs:List V}
  (S:FnScope N ps scope) (hd:A.handled=none) (e0:Env0 P w K mg base A outer s H) (hl:vs.length=ps.length) (r:au vs us)
  (x:InCallC s s.heap.objs.size (bindL (envOfC qual scope s.heap.objs.size f cd).kindOf (ps.zip us) λ_=>none) (cellsFrom (s.heap.objs.size+1) scope.names []) (bindC (envOfC qual scope s.heap.objs.size f cd).kindOf (ps.zip us) λ_=>none) s1) :
  Inv (rC CX P w K mg base N qual scope f cd A outer s H E) [] (start N vs) H s1:=by
 have hpl:ps.length<=N.length:=by have:=congrArg ABr S.pre;rw[AAy]at this;lia
 obtain⟨h1,tk,rfl,hk⟩:=x.done;have noA:∀b:Addr,b∉(rC CX P w K mg base N qual scope f cd A outer s H E).ex:=λb z=>absurd (show b∈([]:List Addr)from z) (by simp)
 refine⟨⟨e0.mod,S.kind,rfl,rfl,AA8 _,λy z c h1 h2=>?_,λy hy=>?_,λy c _ h=>?_,λ_=>hd,Around.frames_deeper e0.frames,.inr ⟨rfl,rfl⟩,λb z=>absurd z (noA b),e0.bs,e0.bsz,λb _ _=>noA b,λb z=>absurd z (noA b),e0.funs,e0.frf⟩,
  rfl,e0.bare,Un.kept hk,⟨_,x.toInCall.ns,λi y v h1 h2 h3=>?_⟩,λy c h=>⟨_,x.cell y c h⟩,e0.hok.fresh (AA8 _),λy c h=>?_,λp hp=>absurd (show p∈([]:List (Addr×Obj))from hp) (by simp),e0.hok.kept hk,?_⟩
 ·exact name_of_addr x.apart (ABV h1) (ABV h2)
 ·have hy:scope.names.lookup y=some .cell\/scope.names.lookup y=some .free:=hy
  rcases hy with hy | hy
  ·exact uT hy
  ·exact absurd rfl (S.nofree _ (ABV hy))
 ·exact ACN (x.above y c (ABV h))
 ·have hi:i<vs.length:=by
   unfold start at h2;by_cases hi:i<vs.length
   ·exact hi
   ·rw[AAe (by simpa using hi)]at h2
    rw[ACs]at h2;split at h2<;>cases h2
  have ha:vs[i]?=some v:=by
   unfold start at h2;rw[AAT (by simpa using hi),AAV]at h2
   cases e:vs[i]? with
   | none=>rw[e]at h2;cases h2
   | some a=>rw[e]at h2;cases h2;rfl
  obtain⟨u,hu,rv⟩:=r.get ha;have hp:ps[i]?=some y:=by
   rw[<-S.pre,ABk (by lia)];exact h1
  have ndP:ps.Nodup:=by rw[<-S.pre];exact S.nd.sublist (AE3 _ _)
  refine⟨u,rv,?_⟩;rcases S.par y (AAc hp)with k | k
  ·exact .inl ⟨k,rH ndP hp hu k⟩
  ·obtain⟨c,e⟩:=uT (n:=s.heap.objs.size+1) k
   refine .inr ⟨.inl k,c,e,?_⟩;have q:=x.cell y c e;rw[rK ndP hp hu (by show scope.names.lookup y≠_;rw[k];decide)]at q
   exact q
 ·exact e0.hok.fresh (ACN (x.above y c (ABV h)))
 ·unfold start
  show _=N.length;rw[AAA,AA4,ADD];lia
def GZ{CX:CXT}{P:Program}{w:World}{K:AA6}{mg:Str->Option Value}{base:Heap}{k:Nat}{f:Addr}{name qual:Str}{params:Arguments}{body:List Stmt}{scope:Scope}{dV kV doc pm cdv ct oc:Value}{an od:Option Addr}
  {osl:Array (Option Value)}{N ps:List Str}{sp:Sp} (lk:K.lookup f=some ⟨oc,od,.func (ACr name qual params body scope dV kV doc pm an cdv ct),osl⟩) (hcd:AEd K cdv qual=true) (S:FnScope N ps scope)
  (len:∀vs H Q E,sp vs H Q E->vs.length=ps.length)
  (hbody:∀(A:Around) (outer:List Env) (s:Shared) (H:Hp) (vs:List V) (Q:VK) (E:XK),Room k (A.deeper (envOfC qual scope s.heap.objs.size f cdv))->sp vs H Q E ->
   ∃t,PSs (rC CX P w K mg base N qual scope f cdv A outer s H E) body t/\t { nx:=λ_ H'=>Q .non H',rt:=Q } (start N vs) H) :
  FnOk P w K mg base CX (k+1) f (ACr name qual params body scope dV kV doc pm an cdv ct) ps sp:=by
 refine⟨len,λA outer s H args us vs Q E hr e0 hb r hsp=>?_⟩
 have hl:=len _ _ _ _ hsp;have KX:K.In s.heap:=e0.mod.kin.keeps λb o e=>(e0.bs b o e).1
 have lim:s.heap.NoLimit:=e0.mod.nolimit.keeps λb o e=>(e0.bs b o e).1
 have hkind:∀y∈ps.zip us,scope.names.lookup y.1=some .local\/(scope.names.lookup y.1=some .cell/\((cellsFrom (s.heap.objs.size+1) scope.names []).lookup y.1).isSome=true):=λ⟨n,v⟩ hy=>by
  rcases S.par n (AEO hy).1 with q | q
  ·exact .inl q
  ·exact .inr ⟨q,ADz _ _ _ (.inl q)⟩
 refine codeAny_call_function hr.depth (KX _ _ lk) rfl S.co S.gen rfl (PySem.W.codeRec_of KX hcd) (hb _ _ _ _ ?_);refine wpAny_newFunctionEnv_cells S.kind hkind λenv he s1 x=>?_
 subst he;refine⟨lim.keeps x.toInCall.keep,codeAny_func ?_⟩;obtain⟨t,ht,hq⟩:=hbody A outer s H vs Q E (hr.deeper _) hsp;have I:Inv (rC CX P w K mg base N qual scope f cdv A outer s H E) [] (start N vs) H s1:=qK S hr.hd e0 hl r x;refine ABA (ht [] s1 (start N vs) H _ I hq) (λfl s' hs=>?_) λe s' hs=>hs
 have fin:∀{σ':St}{H':Hp}{v:V}{u:Value},Inv (rC CX P w K mg base N qual scope f cdv A outer s H E) [] σ' H' s'->aI v u->Q v H'->CE outer P w H s Q u s' :=
  λ{σ' H' v u} J rv q=>⟨v,H',J.os,J.bare,J.base,J.hok,rv,q⟩
 cases fl with
 | ret u =>
  obtain⟨v,σ',H',J,rv,q⟩:=hs;exact fin J rv q
 | next =>
  obtain⟨σ',H',J,q⟩:=hs;exact fin (v:=V.non) (u:=ABj) J rfl q
 | brk =>
  obtain⟨_,_,_,q⟩:=hs;exact AD2 q
 | cont =>
  obtain⟨_,_,_,q⟩:=hs;exact AD2 q
section
variable{X:Cx}{x:Str}{p pos:Pos}{e:Expr}{es:List Expr}{t:TA}{id T:String}{r:List V->Hp->VK->Prop}
def tCB(r:List V->Hp->VK->Prop)(t:TA):TE:=λσ H Q=>t σ H λvs H1=>r vs H1 Q
theorem Ac(hc:hW X (.builtin id) r)(hg:Gl X x)(hm:X.mg x=none)(hv:bootBuiltins x=some (.builtin id))(ha:PA X (e::es) t)(hn:x≠"__name__":=by decide)(hdb:(x==("__debug__":Str))=false:=by decide)
  (he:starEach (e::es) X.env=(false,eval e X.env)::starEach es X.env:=by rfl) (hpl:(backTo pos (starEach es X.env)).any (·.1)=false:=by rfl):PE X (.Call (.Name x p) (e::es) [] pos) (tCB r t):=by
 intro pins s σ H Q I h;refine ACF (gF I hg hm hv ?_ hn hdb);exact PyProof.Rows.callWith_builtin1 (thn (ha pos pins s σ H _ I h) λus s1 ⟨vs,H1,I1,r1,q1⟩=>hc pins s1 σ H1 vs us Q I1 r1 q1) he hpl
def xG(hc:hW X (.type T) r)(hg:Gl X x)(hm:X.mg x=none)(hv:bootBuiltins x=some (.type T))(ha:PA X (e::es) t)(hn:x≠"__name__":=by decide)(hdb:(x==("__debug__":Str))=false:=by decide)
  (he:starEach (e::es) X.env=(false,eval e X.env)::starEach es X.env:=by rfl) (hpl:(backTo pos (starEach es X.env)).any (·.1)=false:=by rfl):PE X (.Call (.Name x p) (e::es) [] pos) (tCB r t):=by
 intro pins s σ H Q I h;refine ACF (gF I hg hm hv ?_ hn hdb);exact ABp (thn (ha pos pins s σ H _ I h) λus s1 ⟨vs,H1,I1,r1,q1⟩=>hc pins s1 σ H1 vs us Q I1 r1 q1) he hpl
end
end L2
namespace HT
open PySem PyProof.Rows
def rcLt_int(A:Around)(s:Shared)(a:Int)(t:Tok)(c:Int)(u:Tok)(prog:Program)(w:World)(E:Value->Shared->Prop)(Q:Value->Shared->Prop)(h:Q (.bool (decide (a<c))) s) :
  wpAny (model prog w) A (richCompare .Lt (.int a t) (.int c u)) Q E s :=
 (PyProof.Rows.lt_int h:wpAny (model prog w) A (compareOp .Lt (.int a t) (.int c u)) Q E s)
section
variable{prog:Program}{w:World}{A:Around}{E:Value->Shared->Prop}{s:Shared}
theorem cat_tup(ht:IsTup s.heap t vs.toArray)(hb:IsTup s.heap b ws.toArray)(hv:vs≠[])
  (h1:ws=[]->Q (.ref t) s) (h2:ws≠[]->Q (.ref s.heap.objs.size) { s with heap:=s.heap.push { cls:=.type "tuple",data:=.seq (vs++ws).toArray } })
  (hsz:vs.length+ws.length<=sizeLine):wpAny (model prog w) A (binaryOp .Add (.ref t) (.ref b)) Q E s:=by
 obtain⟨⟨cls,dd,data,sl⟩,ho,hc,n,hd⟩:=id ht;obtain⟨⟨cls2,dd2,data2,sl2⟩,ho2,hc2,n2,hd2⟩:=id hb;simp only at hc hd hc2 hd2;subst hc hd hc2 hd2;have e:vs.toArray++ws.toArray=(vs++ws).toArray:=by simp
 by_cases hw:ws=[]
 ·exact concat_meets ⟨_,ho,rfl⟩ ⟨_,ho2,rfl⟩ noFill_tuple_add seq_tuple_add AE0 ADn (ADh _ _)
   (tuple_addW1 t b vs.toArray ws.toArray n n2 dd dd2 sl sl2 (by simpa using hv) (by simp[hw])) ⟨ho,ho2,h1 hw⟩
 ·refine concat_meets ⟨_,ho,rfl⟩ ⟨_,ho2,rfl⟩ noFill_tuple_add seq_tuple_add AE0 ADn (ADh _ _)
   (tuple_addW2 t b vs.toArray ws.toArray n n2 dd dd2 sl sl2 (by simpa using hv) (by simpa using hw) (by rw[AAD,AAD];exact hsz)) ⟨ho,ho2,?_⟩
  rw[e];exact h2 hw
def sIx(n d:Nat):Option Int->Nat
 | none=>d
 | some v=>if v<0 then(v+(n:Int)).toNat else min v.toNat n
def sIx_nat(n d k:Nat):sIx n d (some (k:Int))=min k n:=by
 show (if (k:Int)<0 then((k:Int)+(n:Int)).toNat else min (k:Int).toNat n)=min k n;rw[if_neg (by lia),ABa]
def Fs(n d:Nat)(hd:d<=n)(o:Option Int):sIx n d o<=n:=by
 cases o with
 | none=>exact hd
 | some v =>
  show (if v<0 then(v+(n:Int)).toNat else min v.toNat n)<=n;by_cases hv:v<0
  ·rw[if_pos hv];lia
  ·rw[if_neg hv];exact Nat.min_le_right _ _
def zh(v:Int)(n d:Nat):(if v<0 then max (v+(n:Int)) 0 else min v (n:Int))=((sIx n d (some v):Nat):Int):=by
 show (if v<0 then max (v+(n:Int)) 0 else min v (n:Int))=(((if v<0 then(v+(n:Int)).toNat else min v.toNat n):Nat):Int);by_cases hv:v<0
 ·simp only[if_pos hv];lia
 ·simp only[if_neg hv];lia
def wm(lo hi:Option Int)(n:Nat):ADU lo hi 1 (n:Int)=(((sIx n 0 lo:Nat):Int),((sIx n n hi:Nat):Int)):=by
 have h1:¬((1:Int)<0):=by lia
 unfold ADU;simp only[h1,if_false];refine Prod.ext ?_ ?_
 ·cases lo with
  | none=>rfl
  | some v=>exact zh v n 0
 ·cases hi with
  | none=>rfl
  | some v=>exact zh v n n
def vF(i j:Nat):ACg (i:Int) (j:Int) 1=j-i:=by
 unfold ACg;have h1:(1:Int) > 0:=by lia
 simp only[h1,if_true,Int.ediv_one];split<;>lia
def mI(p:IsPart v o)(h:Q o s):wpAny (model prog w) A (Builtin.Slice.slicePartIndex v) Q E s:=by
 cases p with
 | none=>exact slicePart_none h
 | int i t=>exact slicePart_int h
theorem eJ{sl:Addr}{vl vu:Value}{lo hi:Option Int}{n:Nat}{Q:Int×Int×Nat->Shared->Prop}(hs:s.heap.IsSliceOf sl vl vu .none)(pl:IsPart vl lo)(pu:IsPart vu hi)
  (h:Q (((sIx n 0 lo:Nat):Int),1,sIx n n hi-sIx n 0 lo) s):wpAny (model prog w) A (AEY (.ref sl) (pure (n:Int))) Q E s:=by
 obtain⟨os,hos,hcs,hds⟩:=id hs;unfold AEY Builtin.Slice.sliceFields;refine AA0 (AA0 (wpAny_field hos hds (x:=vl) rfl (AA0 (wpAny_field hos hds (x:=vu) rfl (AA0 (wpAny_field hos hds (x:=.none) rfl (AA2 ?_)))))));refine AA0 (slicePart_none ?_);show wpAny _ _ (if ((1:Int)==0)=true then _ else _) _ _ s;rw[if_neg (by decide)]
 refine AA0 (mI pl (AA0 (mI pu (AA0 (AA2 ?_)))));show wpAny _ _ (match ADU lo hi 1 (n:Int)with | (lo,hi)=>pure (lo,(1:Int),ACg lo hi 1)) _ _ s
 rw[wm lo hi n];show wpAny _ _ (pure (((sIx n 0 lo:Nat):Int),(1:Int),ACg ((sIx n 0 lo:Nat):Int) ((sIx n n hi:Nat):Int) 1)) _ _ s;rw[vF];exact AA2 h
def zY(xs:Array Value)(i k:Nat):((AAu k).filterMap λ(m:Nat)=>xs[((i:Int)+(m:Int)*1).toNat]?).toArray=((xs.toList.drop i).take k).toArray:=by
 have e:(λ(m:Nat)=>xs[((i:Int)+(m:Int)*1).toNat]?)=λm=>xs[i+m]?:=by
  funext m;have:((i:Int)+(m:Int)*1).toNat=i+m:=by lia
  rw[this]
 rw[e];have:=pick_run xs i k;rw[List.filterMap_map]at this;have e2:((λx=>xs[x]?) ∘ λx=>i+x)=λm=>xs[i+m]?:=rfl
 rw[e2]at this;rw[this]
theorem getItem_tuple_cut{t sl:Addr}{items:Array Value}{vl vu:Value}{lo hi:Option Int}{Q:Value->Shared->Prop}(ht:IsTup s.heap t items)(hs:s.heap.IsSliceOf sl vl vu .none)(pl:IsPart vl lo)(pu:IsPart vu hi)
  (hw:¬(sIx items.size 0 lo=0/\sIx items.size items.size hi=items.size))
  (h:Q (.ref s.heap.objs.size) { s with heap:=s.heap.push { cls:=.type "tuple",data:=.seq ((items.toList.drop (sIx items.size 0 lo)).take (sIx items.size items.size hi-sIx items.size 0 lo)).toArray } })
  (hsz:items.size<=sizeLine):wpAny (model prog w) A (getItem (.ref t) (.ref sl)) Q E s:=by
 have htake:sizeOk (.seq ((items.toList.drop (sIx items.size 0 lo)).take (sIx items.size items.size hi-sIx items.size 0 lo)).toArray):=by
  show ((items.toList.drop (sIx items.size 0 lo)).take (sIx items.size items.size hi-sIx items.size 0 lo)).toArray.size<=sizeLine;rw[AAD,AAy,ABh,AAL];lia
 have hj:sIx items.size items.size hi<=items.size:=Fs _ _ (AA8 _) hi;obtain⟨os,hos,hcs,hds⟩:=id hs;have hTs:s.TypeIs (.ref sl) "slice":=⟨os,hos,hcs⟩;unfold getItem
 try with_reducible refine AAZ ?_
 first | refine AA0 (AA2 ?_) | skip
 refine AA0 (ADI ht.typeIs (by decide) ?_)
 refine AA0 (AAq (name:=AA1 "__getitem__") ht.typeIs ABI
  (AAp ABI ht.typeIs entry_tuple_getitem ?_ (args_tuple_getitem _ _)))
 show wpAny _ _ (ACU (.ref t) >>= _) _ _ s;refine AA0 (tupleItemsOf_ ht ?_);refine AA0 (ACO hTs ?_);rw[if_pos (by decide)]
 refine AA0 (eJ hs pl pu ?_);have hno:¬((((sIx items.size 0 lo:Nat):Int)==0&&(1:Int)==1&&(sIx items.size items.size hi-sIx items.size 0 lo)==items.size)=true):=by
  intro q;rw[AAY,AAY]at q;have q1:((sIx items.size 0 lo:Nat):Int)=0:=eq_of_beq q.1.1;have q2:sIx items.size items.size hi-sIx items.size 0 lo=items.size:=eq_of_beq q.2;exact hw ⟨by lia,by lia⟩
 show wpAny _ _ (if (((sIx items.size 0 lo:Nat):Int)==0&&(1:Int)==1&&(sIx items.size items.size hi-sIx items.size 0 lo)==items.size)=true then _ else _) _ _ s;rw[if_neg hno,zY];first
  | exact AA0 (m:=ACm _) (AAr (AA2 ⟨_,rfl,AA2 h⟩) htake)
  | exact AA0 (m:=ACm _) (AAr (AA0 (AA2 (AA2 ⟨_,rfl,AA2 h⟩))) htake)
  | exact AA0 (AA0 (m:=ACm _) (AAr (AA2 (AA2 ⟨_,rfl,AA2 h⟩)) htake))
  | exact AA0 (AA0 (m:=ACm _) (AAr (AA2 ⟨_,rfl,AA2 h⟩) htake))
end
end HT
namespace L2
open PySem PySem.Spec PyProof.Rows
abbrev TO:=St->Hp->(Option Int->Hp->Prop)->Prop
def PO(X:Cx)(e:Option Expr)(t:TO):Prop :=
 ∀(pins:List (Addr×Obj)) (s:Shared) (σ:St) (H:Hp) (Q:Option Int->Hp->Prop),Inv X pins σ H s->t σ H Q ->
  wpAny (model X.prog X.w) X.A (evalPart e X.env) (λu s'=>∃o H',Inv X pins σ H' s'/\IsPart u o/\Q o H') X.xe s
def CB:TO:=λ_ H Q=>Q none H
def tPart(t:TE):TO:=λσ H Q=>t σ H λx H1=>∃i,x=.int i/\Q (some i) H1
section
variable{X:Cx}{e:Expr}{te:TE}{lo hi:Option Expr}{tl th:TO}{pos p2:Pos}
def Dc:PO X none CB:=by
 intro pins s σ H Q I h;rw[evalPart_none];exact AA2 ⟨none,H,I,.none,h⟩
def Db(h:PE X e te):PO X (some e) (tPart te):=by
 intro pins s σ H Q I hw;rw[evalPart_some];refine thn (h pins s σ H _ I hw) λu s1 ⟨x,H1,I1,r1,q1⟩=>?_
 obtain⟨i,rfl,q⟩:=q1;obtain⟨t,rfl⟩:=r1;exact⟨some i,H1,I1,.int i t,q⟩
def SlR(X:Cx)(r:V->Option Int->Option Int->Hp->VK->Prop):Prop :=
 ∀(pins:List (Addr×Obj)) (s:Shared) (σ:St) (H:Hp) (x:V) (v vl vu:Value) (lo hi:Option Int) (sl:Addr) (Q:VK),Inv X pins σ H s->aI x v->s.heap.IsSliceOf sl vl vu .none->IsPart vl lo->IsPart vu hi->r x lo hi H Q ->
  ∃T id,typeLookup (.type T) "__getitem__" = pure (some (.builtin id))/\s.TypeIs v T/\wpAny (model X.prog X.w) X.A (getItem v (.ref sl)) (EP X pins σ Q) X.xe s
def tSl(r:V->Option Int->Option Int->Hp->VK->Prop)(te:TE)(tl th:TO):TE:=λσ H Q=>te σ H λx H1=>tl σ H1 λl H2=>th σ H2 λu H3=>r x l u H3 Q
theorem Ab(hr:SlR X r)(he:PE X e te)(hl:PO X lo tl)(hu:PO X hi th):PE X (.Subscript e (.Slice lo hi none p2) pos) (tSl r te tl th):=by
 intro pins s σ H Q I h;refine Subscript_ (thn (he pins s σ H _ I h) λv s1 ⟨x,H1,I1,r1,q1⟩=>?_)
 refine wpAny_Slice (thn (hl pins s1 σ H1 _ I1 q1) λvl s2 ⟨l,H2,I2,pl,q2⟩=>thn (hu pins s2 σ H2 _ I2 q2) λvu s3 ⟨u,H3,I3,pu,q3⟩=>?_)
 rw[evalPart_none];refine AA2 ?_
 have I4:Inv X pins σ H3 { s3 with heap:=s3.heap.push { cls:=.type "slice",data:=.fields #[vl,vu,.none] } }:=I3.kept (t':=s3.toks) λb ob q=>AA3 _ q
 obtain⟨T,id,hT,ht,hg⟩:=hr pins { s3 with heap:=s3.heap.push { cls:=.type "slice",data:=.fields #[vl,vu,.none] } } σ H3 x v vl vu l u s3.heap.objs.size Q I4 r1 (Heap.IsSliceOf.new ..) pl pu q3
 show wpAny (model X.prog X.w) X.A (subscriptTail e (.Slice lo hi none p2) v (.ref s3.heap.objs.size)) (EP X pins σ Q) X.xe { s3 with heap:=s3.heap.push { cls:=.type "slice",data:=.fields #[vl,vu,.none] } }
 exact tail_any (ops:=[.ref s3.heap.objs.size,v]) ht hT hg (by with_unfolding_all rfl)
def Cm(xs:List V)(lo hi:Option Int):List V:=(xs.drop (HT.sIx xs.length 0 lo)).take (HT.sIx xs.length xs.length hi-HT.sIx xs.length 0 lo)
def lz(xs:List V)(lo hi:Option Int):(Cm xs lo hi).length<=xs.length:=by
 unfold Cm;rw[AAy,ABh];lia
def rSlT(K:AA6):V->Option Int->Option Int->Hp->VK->Prop:=λx lo hi H Q=>∃a xs,x=.ref a/\SqT K H a xs /\
 ¬(HT.sIx xs.length 0 lo=0/\HT.sIx xs.length xs.length hi=xs.length)/\∀p,H p=none->Q (.ref p) (upd H p (.tup (Cm xs lo hi)))
def Fo:SlR X (rSlT X.K):=by
 intro pins s σ H x v vl vu lo hi sl Q I rx hs pl pu h;obtain⟨a,xs,rfl,hx,hw,q⟩:=h;cases rx
 obtain⟨its,r,ht,hz⟩:=I.tuple hx;have hlen:its.toArray.size=xs.length:=by rw[AAD];exact r.length.symm
 refine⟨"tuple",_,ABI.lookup,ht.typeIs,?_⟩;refine HT.getItem_tuple_cut ht hs pl pu (by rw[hlen];exact hw) ?_ (by rw[hlen];exact hz)
 rw[hlen];refine⟨.ref s.heap.objs.size,_,I.laid (t':=s.toks) (o:=.tup (Cm xs lo hi)) (λb ob q=>AA3 _ q) (AA8 _) ?_,rfl,q _ (I.hok.fresh (AA8 _))⟩
 exact⟨AB3 (lz xs lo hi) hz,_,(r.drop (HT.sIx xs.length 0 lo)).take (HT.sIx xs.length xs.length hi-HT.sIx xs.length 0 lo),Bo.new _ _⟩
def rCatT(K:AA6):R2:=λx y H Q=>∃a b xs ys,x=.ref a/\y=.ref b/\SqT K H a xs/\SqT K H b ys/\xs≠[]/\xs.length+ys.length<=sizeLine /\
 (ys=[]->Q (.ref a) H)/\(ys≠[]->∀p,H p=none->Q (.ref p) (upd H p (.tup (xs++ys))))
def au.nil_iff(r:au xs us):us=[]↔xs=[]:=by
 cases r with
 | nil=>simp
 | cons _ _=>simp
def Dp:OpR X (binaryOp .Add) (rCatT X.K):=by
 intro pins s σ H x y v u Q I rx ry h;obtain⟨a,b,xs,ys,rfl,rfl,ha,hb,hx,hz,q1,q2⟩:=h;cases rx
 cases ry
 obtain⟨its,r1,p1,_⟩:=I.tuple ha;obtain⟨its2,r2,p2,_⟩:=I.tuple hb;refine HT.cat_tup p1 p2 (λz=>hx (r1.nil_iff.mp z)) (λz=>⟨.ref a,H,I,rfl,q1 (r2.nil_iff.mp z)⟩) (λz=>?_) (by rw[<-r1.length,<-r2.length];exact hz)
 refine⟨.ref s.heap.objs.size,_,I.laid (t':=s.toks) (o:=.tup (xs++ys)) (λb ob q=>AA3 _ q) (AA8 _) ?_,rfl,q2 (λw=>z (r2.nil_iff.mpr w)) _ (I.hok.fresh (AA8 _))⟩
 exact⟨by rw[AAA];exact hz,_,r1.append r2,Bo.new _ _⟩
end
def ixN(n:Nat)(i:Int):Option Nat:=if 0<=i then(if i<n then some i.toNat else none)else if -(n:Int)<=i then some (i+n).toNat else none
def atI{α:Type}(xs:List α)(i:Int):Option α:=(ixN xs.length i).bind λj=>xs[j]?
def yE(h:ixN n i=some j):seqIndex? i n=some j/\j<n/\-(n:Int)<=i/\i<n:=by
 unfold ixN at h;by_cases h0:0<=i
 ·rw[if_pos h0]at h
  by_cases h1:i<n
  ·rw[if_pos h1]at h
   have e:i.toNat=j:=AAR h;exact⟨by rw[seqIndex_of h0 h1,e],by lia,by lia,h1⟩
  ·rw[if_neg h1]at h;cases h
 ·rw[if_neg h0]at h
  by_cases h1:-(n:Int)<=i
  ·rw[if_pos h1]at h
   have e:(i+n).toNat=j:=AAR h;exact⟨by rw[seqIndex_neg (by lia) h1,e],by lia,h1,by lia⟩
  ·rw[if_neg h1]at h;cases h
def sX{α:Type}{xs:List α}{i:Int}{v:α}(h:atI xs i=some v):∃j,seqIndex? i xs.length=some j/\xs[j]?=some v/\j<xs.length/\-(xs.length:Int)<=i/\i<xs.length:=by
 unfold atI at h;cases e:ixN xs.length i with
 | none=>rw[e]at h;cases h
 | some j =>
  rw[e]at h;obtain⟨h1,h2,h3,h4⟩:=yE e;exact⟨j,h1,h,h2,h3,h4⟩
def ay{α:Type}{xs:List α}{j:Nat}{v:α}(h:xs[j]?=some v):atI xs (j:Int)=some v:=by
 have hj:j<xs.length:=(AA7.mp h).1;have e:ixN xs.length (j:Int)=some j:=by
  unfold ixN;rw[if_pos (by lia),if_pos (by lia)];simp
 unfold atI;rw[e];exact h
def sZ(b:Expr):Prop:=∀o i,subscripted b false o i=operate [o,i] (getItem o i)
def IxR(X:Cx)(r:R2):Prop :=
 ∀(value slice:Expr) (pins:List (Addr×Obj)) (s:Shared) (σ:St) (H:Hp) (x y:V) (v u:Value) (Q:VK),Inv X pins σ H s->aI x v->aI y u->r x y H Q ->
  subscripted slice false v u=operate [v,u] (getItem v u)->wpAny (model X.prog X.w) X.A (subscriptTail value slice v u) (EP X pins σ Q) X.xe s
def MtR(X:Cx)(id:String)(r:V->List V->Hp->VK->Prop):Prop :=
 ∀(pins:List (Addr×Obj)) (s:Shared) (σ:St) (H:Hp) (x:V) (xs:List V) (v:Value) (us:List Value) (Q:VK),Inv X pins σ H s->aI x v->au xs us->r x xs H Q ->
  wpAny (model X.prog X.w) X.A (call (.builtin id) (v::us)) (EP X pins σ Q) X.xe s
section
variable{X:Cx}{a b:Expr}{ta tb:TE}{pos:Pos}
def IxR.or(h:IxR X r)(h':IxR X r'):IxR X (λx y H Q=>r x y H Q\/r' x y H Q):=by
 intro value slice pins s σ H x y v u Q I rx ry q hs;rcases q with q | q
 ·exact h value slice pins s σ H x y v u Q I rx ry q hs
 ·exact h' value slice pins s σ H x y v u Q I rx ry q hs
def pe_ix(hr:IxR X r)(ha:PE X a ta)(hb:PE X b tb)(hs:sZ b):PE X (.Subscript a b pos) (tOp r ta tb):=by
 intro pins s σ H Q I h;exact Subscript_ (binT ha hb I h λv u s2 x y H2 I2 rx ry q=>hr a b pins s2 σ H2 x y v u Q I2 rx ry q (hs _ _))
def rIxL(K:AA6):R2:=λx y H Q=>∃p xs i v,x=.ref p/\y=.int i/\SqL K H p xs/\atI xs i=some v/\Q v H
def rIxT(K:AA6):R2:=λx y H Q=>∃p xs i v,x=.ref p/\y=.int i/\SqT K H p xs/\atI xs i=some v/\Q v H
def rIxS:R2:=λx y H Q=>∃z i c,x=.str z/\y=.int i/\z.length<=sizeLine/\atI z.cps.toList i=some c/\Q (.str ⟨#[c]⟩) H
def DX:IxR X (rIxL X.K):=by
 intro value slice pins s σ H x y v u Q I rx ry h hs;obtain⟨p,xs,i,z,rfl,rfl,hq,he,q⟩:=h;cases rx
 obtain⟨t,rfl⟩:=ry;obtain⟨its,r,pl,hz⟩:=I.list hq;obtain⟨j,h1,h2,h3,h4,h5⟩:=sX he;obtain⟨w,ew,rw'⟩:=r.get h2;have hl:=r.length;have hn:=mN;have fin:EP X pins σ Q w s:=⟨z,H,I,rw',q⟩;by_cases h0:0<=i
 ·have hj:i.toNat=j:=by
   rw[seqIndex_of h0 h5]at h1;exact AAR h1
  exact item_listR pl.isList h0 (by lia) (by rw[hj];simpa using ew) fin hs
 ·have hj:(i+(its.toArray.size:Int)).toNat=j:=by
   rw[seqIndex_neg (by lia) h4]at h1
   rw[AAD,<-hl];exact AAR h1
  exact subscriptTail_builtinR (x:=w) pl.isList.typeIs slot_list_getitem.lookup
   (wpAny_getItem_list_neg (Q:=λr s'=>r=w/\EP X pins σ Q r s') pl.isList (by lia) (by rw[AAD]<;>lia) (by lia) (by rw[hj];simpa using ew) ⟨rfl,fin⟩) hs
def GJ:IxR X (rIxT X.K):=by
 intro value slice pins s σ H x y v u Q I rx ry h hs;obtain⟨p,xs,i,z,rfl,rfl,hq,he,q⟩:=h;cases rx
 obtain⟨t,rfl⟩:=ry;obtain⟨its,r,pl,hz⟩:=I.tuple hq;obtain⟨j,h1,h2,h3,h4,h5⟩:=sX he;obtain⟨w,ew,rw'⟩:=r.get h2;have hl:=r.length;have hn:=mN;have fin:EP X pins σ Q w s:=⟨z,H,I,rw',q⟩;exact subscriptTail_builtinR (x:=w) pl.typeIs slot_tuple_getitem.lookup
  (getItem_tuple (j:=j) (Q:=λr s'=>r=w/\EP X pins σ Q r s') pl (by lia) (by lia) (by rw[AAD,<-hl];exact h1) (by simpa using ew) ⟨rfl,fin⟩) hs
def GK:IxR X rIxS:=by
 intro value slice pins s σ H x y v u Q I rx ry h hs;obtain⟨z,i,c,rfl,rfl,hz,he,q⟩:=h;obtain⟨t,rfl⟩:=rx;obtain⟨t',rfl⟩:=ry;obtain⟨j,h1,h2,h3,h4,h5⟩:=sX he;have hl:z.cps.toList.length=z.length:=by simp[Str.length]
 rw[hl]at h1 h4 h5;have hn:=mN;exact tail_any (typeIs_str s z t) slot_str_getitem.lookup (getItem_str (c:=c) (by
  have e1:decide (i < -(2 ^ 63:Int))=false:=dF_ (by lia)
  have e2:decide (i ≥ 2 ^ 63)=false:=dF_ (by lia)
  rw[e1,e2,Bool.or_false]) (by rw[h1];simpa using h2) ⟨.str ⟨#[c]⟩,H,I.tok _,⟨_,rfl⟩,q⟩) hs
def rIx(K:AA6):R2:=λx y H Q=>rIxL K x y H Q\/rIxT K x y H Q\/rIxS x y H Q
def GL:IxR X (rIx X.K):=DX.or (GJ.or GK)
def vN(its:List Value)(n j:Nat)(u:Value):ABE (·.setIfInBounds j u) { cls:=.type "list",data:=.seq its.toArray n }={ cls:=.type "list",data:=.seq (its.set j u).toArray n }:=by
 simp[ABE]
def Inv.lst(I:Inv X pins σ H s)(h:H p=some (.lst xs)) :
  ∃(its:List Value) (n:Nat),au xs its/\s.heap.get? p=some { cls:=.type "list",data:=.seq its.toArray n }/\xs.length<=sizeLine:=by
 obtain⟨z,its,n,r,e⟩:=I.hok p _ h;exact⟨its,n,r,e,z⟩
def Inv.lstUpd{pins:List (Addr×Obj)}{σ:St}{H:Hp}{s:Shared}{p:Addr}{xs ys:List V}{its its':List Value}{n n':Nat}{f:Obj->Obj}(I:Inv X pins σ H s)(h:H p=some (.lst xs))
  (ho:s.heap.get? p=some { cls:=.type "list",data:=.seq its.toArray n }) (hf:f { cls:=.type "list",data:=.seq its.toArray n }={ cls:=.type "list",data:=.seq its'.toArray n' }) (r:au ys its') (hz:ys.length<=sizeLine) (t:Nat) :
  Inv X pins σ (upd H p (.lst ys)) { s with heap:=s.heap.update p f,toks:=t }:=by
 have e:(s.heap.update p f).get? p=some { cls:=.type "list",data:=.seq its'.toArray n' }:=by
  rw[AAf f ho (by rw[hf]<;>rfl),hf]
 refine I.write (x:=p) (e:=p) (by rw[h];trivial) (.inl rfl) (λb u hb q=>(AC2 _ _ (ABO hb)).trans q) ⟨_,e⟩ ?_
 exact⟨hz,its',n',r,e⟩
def rSetL:V->V->V->Hp->(Hp->Prop)->Prop:=λo i v H Q=>∃p xs k j,o=.ref p/\i=.int k/\H p=some (.lst xs)/\ixN xs.length k=some j/\Q (upd H p (.lst (xs.set j v)))
def zQ:PSet X rSetL:=by
 intro pins s σ H o i v ov iv u Q I ro ri rv h;obtain⟨p,xs,k,j,rfl,rfl,hp,hj,q⟩:=h;cases ro
 obtain⟨t,rfl⟩:=ri;obtain⟨its,n,r,ho,hz⟩:=I.lst hp;obtain⟨h1,h2,h3,h4⟩:=yE hj;have hl:=r.length;have hn:=mN;have I':Inv X pins σ (upd H p (.lst (xs.set j v))) { s with heap:=s.heap.update p (ABE (·.setIfInBounds j u)) } :=
  I.lstUpd hp ho (vN its n j u) (r.set rv j) (by rw[AB1];exact hz) s.toks
 by_cases h0:0<=k
 ·have hk:k.toNat=j:=by
   rw[seqIndex_of h0 h4]at h1;exact AAR h1
  exact PySem.W.ki_setAt ho h0 (by lia) (by rw[AAD,<-hl];exact h4) (by rw[hk];exact⟨_,I',q⟩)
 ·have hk:(k+(its.toArray.size:Int)).toNat=j:=by
   rw[seqIndex_neg (by lia) h3]at h1
   rw[AAD,<-hl];exact AAR h1
  exact PySem.W.ki_setBack ho (by lia) (by rw[AAD,<-hl];exact h3) (by lia) (by rw[hk];exact⟨_,I',q⟩)
def pV(lo hi:Option Int)(n:Nat):(sliceBounds lo hi none n).1=((HT.sIx n 0 lo:Nat):Int)/\(sliceBounds lo hi none n).2.1=((HT.sIx n n hi:Nat):Int)/\(sliceBounds lo hi none n).2.2=1:=by
 refine⟨?_,?_,rfl⟩
 ·cases lo with
  | none=>simp[sliceBounds,HT.sIx]
  | some i =>
   simp only[sliceBounds,HT.sIx,Option.getD_none,show (1:Int) > 0 by decide,if_true]
   by_cases h:i<0
   ·simp only[h,if_true]<;>lia
   ·simp only[h,if_false]<;>lia
 ·cases hi with
  | none=>simp[sliceBounds,HT.sIx]
  | some i =>
   simp only[sliceBounds,HT.sIx,Option.getD_none,show (1:Int) > 0 by decide,if_true]
   by_cases h:i<0
   ·simp only[h,if_true]<;>lia
   ·simp only[h,if_false]<;>lia
def nI(its:List Value)(lo hi:Option Int):slicePick its.toArray lo hi none=((its.drop (HT.sIx its.length 0 lo)).take (HT.sIx its.length its.length hi-HT.sIx its.length 0 lo)).toArray:=by
 obtain⟨h1,h2,h3⟩:=pV lo hi its.toArray.size;unfold slicePick;rw[h1,h2,h3];simp only[sliceRange_one,pick_run,AAD]<;>rfl
def rSlL(K:AA6):V->Option Int->Option Int->Hp->VK->Prop:=λx lo hi H Q=>∃a xs,x=.ref a/\SqL K H a xs/\∀p,H p=none->Q (.ref p) (upd H p (.lst (Cm xs lo hi)))
def CG:SlR X (rSlL X.K):=by
 intro pins s σ H x v vl vu lo hi sl Q I rx hs pl pu h;obtain⟨a,xs,rfl,hx,q⟩:=h;cases rx
 obtain⟨its,r,ht,hz⟩:=I.list hx;have hlen:=r.length;refine⟨"list",_,slot_list_getitem.lookup,ht.isList.typeIs,?_⟩;refine wpAny_getItem_list_slice ht.isList hs pl pu .none (by simp) ?_ (by rw[AAD]<;>lia)
 rw[nI,<-hlen];refine⟨.ref s.heap.objs.size,_,I.laid (t':=s.toks) (o:=.lst (Cm xs lo hi)) (λb ob q=>AA3 _ q) (AA8 _) ?_,rfl,q _ (I.hok.fresh (AA8 _))⟩
 exact⟨AB3 (lz xs lo hi) hz,_,0,(r.drop (HT.sIx xs.length 0 lo)).take (HT.sIx xs.length xs.length hi-HT.sIx xs.length 0 lo),AAC _ rfl⟩
def rF:hW X (.builtin "len") (λxs H Q=>∃p ys,xs=[.ref p]/\(SqL X.K H p ys\/SqT X.K H p ys)/\Q (.int ys.length) H):=by
 intro pins s σ H xs us Q I r h;obtain⟨p,ys,rfl,hq,q⟩:=h;obtain⟨u,rfl,rx⟩:=CA r;cases rx
 have hn:=mN;rcases hq with hq | hq
 ·obtain⟨its,r',pl,hz⟩:=I.list hq
  have hlen:=r'.length;exact Calls.call_len_list pl.isList (by simp only[AAD]<;>lia) ⟨.int ys.length,H,I.tok _,⟨s.toks+1,by rw[AAD,hlen]⟩,q⟩
 ·obtain⟨its,r',pl,hz⟩:=I.tuple hq
  have hlen:=r'.length;exact len_tuple pl (by simp only[AAD]<;>lia) ⟨.int ys.length,H,I.tok _,⟨s.toks+1,by rw[AAD,hlen]⟩,q⟩
def rE:hW X (.builtin "len") (λxs H Q=>∃z,xs=[.str z]/\z.length<=sizeLine/\Q (.int z.length) H):=by
 intro pins s σ H xs us Q I r h;obtain⟨z,rfl,hz,q⟩:=h;obtain⟨u,rfl,t,rfl⟩:=CA r;have hn:=mN;exact len_str (by lia) ⟨.int z.length,H,I.tok _,⟨_,rfl⟩,q⟩
def hW.or(h:hW X f r)(h':hW X f r'):hW X f (λxs H Q=>r xs H Q\/r' xs H Q):=by
 intro pins s σ H xs us Q I rs q;rcases q with q | q
 ·exact h pins s σ H xs us Q I rs q
 ·exact h' pins s σ H xs us Q I rs q
def oS:hW X (.type "tuple") (λxs H Q=>∃p ys,xs=[.ref p]/\((SqL X.K H p ys/\∀l,H l=none->Q (.ref l) (upd H l (.tup ys)))\/(SqT X.K H p ys/\Q (.ref p) H))):=by
 intro pins s σ H xs us Q I r h;obtain⟨p,ys,rfl,h⟩:=h;obtain⟨u,rfl,rx⟩:=CA r;cases rx
 rcases h with⟨hq,q⟩|⟨hq,q⟩
 ·obtain⟨its,r',pl,hz⟩:=I.list hq
  have hlen:=r'.length;refine call_tuple_list pl.isList (λh' kp=>?_) (by simp only[AAD]<;>lia)
  have I1:Inv X pins σ H { s with heap:=h' }:=I.kept (t':=s.toks) kp
  have I2:Inv X pins σ (upd H h'.objs.size (.tup ys)) { s with heap:=h'.push { cls:=.type "tuple",data:=.seq its.toArray } } :=
   I1.laid (t':=s.toks) (λb o e=>AA3 _ e) (AA8 _) (show bQ X.prog X.w _ _ _ (.tup ys)from⟨hz,its,r',Bo.new _ _⟩)
  exact⟨.ref h'.objs.size,_,I2,rfl,q _ (I1.hok.fresh (AA8 _))⟩
 ·obtain⟨its,r',pl,hz⟩:=I.tuple hq
  exact call_tuple_same pl ⟨.ref p,H,I,rfl,q⟩
def tyV(K:AA6)(T:String)(x:V)(H:Hp):Prop:=match x with
 | .str _=>T = "str"
 | .int _=>T = "int"
 | .ref p=>(T = "list"/\∃xs,SqL K H p xs)\/(T = "tuple"/\∃o,K.lookup p=some o/\o.cls=.type "tuple"/\o.dict=none) \/
   (T = "dict"/\((∃kvs,H p=some (.dK kvs))\/∃kvs,H p=some (.dT kvs)))\/(T = "set"/\∃S n,H p=some (.set S n))
 | _=>False
def Bq(I:Inv X pins σ H s)(r:aI x v)(ty:tyV X.K T x H) :
  s.TypeIs v T/\∀a,v=.ref a->∃ob,s.heap.get? a=some ob/\ob.dict=none:=by
 cases x with
 | str z =>
  obtain⟨t,rfl⟩:=r;cases (show T = "str" from ty)
  exact⟨typeIs_str s z t,λ_ e=>nomatch e⟩
 | int i =>
  obtain⟨t,rfl⟩:=r;cases (show T = "int" from ty)
  exact⟨typeIs_int s i t,λ_ e=>nomatch e⟩
 | ref p =>
  cases r
  rcases ty with⟨rfl,xs,hq⟩|⟨rfl,o,hk,hc,hd⟩|⟨rfl,hk⟩|⟨rfl,S,n,hk⟩
  ·obtain⟨its,_,pl,_⟩:=I.list hq
   refine⟨pl.isList.typeIs,λa e=>?_⟩
   cases e
   obtain⟨o,n,e,c,hd,_⟩:=pl;exact⟨o,e,hd⟩
  ·refine⟨⟨o,I.kIn p o hk,hc⟩,λa e=>?_⟩
   cases e
   exact⟨o,I.kIn _ o hk,hd⟩
  ·have z:∃o,s.heap.get? p=some o/\o.ExactDict:=by
    rcases hk with⟨kvs,hk⟩|⟨kvs,hk⟩
    ·obtain⟨_,_,_,_,o,_,_,e,ex,_⟩:=I.hok p _ hk
     exact⟨o,e,ex⟩
    ·obtain⟨_,_,_,_,o,_,_,e,ex,_⟩:=I.hok p _ hk
     exact⟨o,e,ex⟩
   obtain⟨o,e,ex⟩:=z;refine⟨⟨o,e,ex.1⟩,λa e2=>?_⟩
   cases e2
   exact⟨o,e,ex.2.1⟩
  ·obtain⟨o,_,_,_,e,ex,_⟩:=I.hok p _ hk
   refine⟨⟨o,e,ex.1⟩,λa e2=>?_⟩
   cases e2
   exact⟨o,e,ex.2.1⟩
 | _=>exact AD2 ty
def tBM0(K:AA6)(T:String)(r:V->List V->Hp->VK->Prop)(to:TE):TE:=λσ H Q=>to σ H λx H1=>tyV K T x H1/\r x [] H1 Q
def tBM(K:AA6)(T:String)(r:V->List V->Hp->VK->Prop)(to:TE)(t:TA):TE:=λσ H Q=>to σ H λx H1=>tyV K T x H1/\t σ H1 λxs H2=>r x xs H2 Q
variable{o e:Expr}{es:List Expr}{to:TE}{t:TA}{name:Str}{apos cpos:Pos}{T id:String}{r:V->List V->Hp->VK->Prop}
theorem FQ(pa:PlainAttrs T)(slot:Slot T name id)(hty:typeOf (.builtin id)=pure (.type "method_descriptor"))(hm:MtR X id r)(ho:PE X o to)
  (hbase:attributeBase o name X.env (eval o X.env)=eval o X.env:=by rfl) (hline:(apos.endLine==cpos.line)=true:=by rfl):PE X (.Call (.Attribute o name apos) [] [] cpos) (tBM0 X.K T r to):=by
 intro pins s σ H Q I h;refine ADo hbase hline (thn (ho pins s σ H _ I h) λv s1 ⟨x,H1,I1,r1,ty,q1⟩=>?_)
 obtain⟨h1,h2⟩:=Bq I1 r1 ty;exact⟨T,id,pa,slot,hty,h1,h2,AC3 rfl (AEP (hm pins s1 σ H1 x [] v [] Q I1 r1 .nil q1))⟩
theorem pe_bm(pa:PlainAttrs T)(slot:Slot T name id)(hty:typeOf (.builtin id)=pure (.type "method_descriptor"))(hm:MtR X id r)(ho:PE X o to)(ha:PA X (e::es) t)
  (hbase:attributeBase o name X.env (eval o X.env)=eval o X.env:=by rfl)
  (hfew:((backTo cpos (starEach (e::es) X.env)).all (λx=>!x.1)&&(backToKw cpos (keywordEach [] X.env)).all (λx=>x.1.isSome)
   && decide ((e::es).length+([]:List Keyword).length+(if ([]:List Keyword).isEmpty then 0 else 1)<30))=true:=by rfl)
  (hline:(apos.endLine==cpos.line)=true:=by rfl) (hs:starEach (e::es) X.env=(false,eval e X.env)::starEach es X.env:=by rfl) (hplain:(backTo cpos (starEach es X.env)).any (·.1)=false:=by rfl) :
  PE X (.Call (.Attribute o name apos) (e::es) [] cpos) (tBM X.K T r to t):=by
 intro pins s σ H Q I h;refine AE1 hbase hfew hline rfl (thn (ho pins s σ H _ I h) λv s1 ⟨x,H1,I1,r1,ty,q1⟩=>?_)
 obtain⟨h1,h2⟩:=Bq I1 r1 ty;refine⟨T,id,pa,slot,hty,h1,h2,?_⟩;have hA:=ha cpos pins s1 σ H1 _ I1 q1;rw[hs]at hA ⊢;refine AC3 (by show (false||(backTo cpos (starEach es X.env)).any (·.1))=false;rw[hplain]<;>rfl) (AEL ?_)
 exact thn hA λus s2 ⟨vs,H2,I2,r2,q2⟩=>hm pins s2 σ H2 x vs v us Q I2 r1 r2 q2
/- xs.append(e),list.index on a module's tuple .. are MtR facts of 06m -/
end
def MtM(X:Cx)(id:String)(r:V->List V->Hp->VK->Prop):Prop :=
 ∀(pins:List (Addr×Obj)) (s:Shared) (σ:St) (H:Hp) (x:V) (xs:List V) (v:Value) (us:List Value) (Q:VK),Inv X pins σ H s->aI x v->au xs us->r x xs H Q ->
  wpAny (model X.prog X.w) X.A (call (.builtin id) (v::us)) (EP X pins σ Q) X.xe s
def au.one:∀{x:V}{us:List Value},au [x] us->∃u,us=[u]/\aI x u
 | _,_,.cons r .nil=>⟨_,rfl,r⟩
def au.two:∀{x y:V}{us:List Value},au [x,y] us->∃u v,us=[u,v]/\aI x u/\aI y v
 | _,_,_,.cons r (.cons q .nil)=>⟨_,_,rfl,r,q⟩
def au.zero:∀{us:List Value},au [] us->us=[]
 | _,.nil=>rfl
def au.dropLast(h:au xs us):au xs.dropLast us.dropLast:=by
 induction h with
 | nil=>exact .nil
 | cons r t ih =>
  cases t with
  | nil=>exact .nil
  | cons q t'=>exact .cons r ih
def vZ{α:Type}(l:List α):l.eraseIdx (l.length-1)=l.dropLast:=by
 induction l with
 | nil=>rfl
 | cons a r ih =>
  cases r with
  | nil=>rfl
  | cons b r =>
   have e:(a::b::r).length-1=((b::r).length-1)+1:=by
    have h1:(a::b::r).length=r.length+2:=rfl;have h2:(b::r).length=r.length+1:=rfl;lia
   rw[e,List.eraseIdx_cons_succ,ih];all_goals rfl
section
variable{X:Cx}{pins:List (Addr×Obj)}{σ:St}{H:Hp}{s:Shared}{l b:Addr}{xs ys zs:List V}
def Inv.lset{its its':List Value}{n:Nat}{f:Array Value->Array Value}{t':Nat}(I:Inv X pins σ H s)(hH:H l=some (.lst xs))
  (e:s.heap.get? l=some { cls:=.type "list",data:=.seq its.toArray n }) (hf:f its.toArray=its'.toArray) (hv:au ys its') (hz:ys.length<=sizeLine) :
  Inv X pins σ (upd H l (.lst ys)) { s with heap:=s.heap.update l (ABE f),toks:=t' }:=by
 have q:=PySem.IsL.update e f;rw[hf]at q;refine I.write (x:=l) (e:=l) (by rw[hH];exact trivial) (.inl rfl) (λb' u hb hu=>(AC2 s.heap (ABE f) (ABO hb)).trans hu) ⟨_,q⟩ ?_
 exact⟨hz,its',_,hv,q⟩
def Inv.lnew(I:Inv X pins σ H s)(hv:au ys its)(hz:ys.length<=sizeLine) :
  Inv X pins σ (upd H s.heap.objs.size (.lst ys)) { s with heap:=s.heap.push { cls:=.type "list",data:=.seq its.toArray },toks:=t' } :=
 I.laid (λ_ _ q=>AA3 _ q) (AA8 _) ⟨hz,its,0,hv,AAC _ rfl⟩
def Inv.fresh(I:Inv X pins σ H s):H s.heap.objs.size=none:=I.hok.fresh (AA8 _)
def Inv.lstM(I:Inv X pins σ H s)(hH:H l=some (.lst xs)):xs.length<=sizeLine/\∃(its:List Value) (n:Nat),au xs its/\xs.length=its.length/\s.heap.get? l=some { cls:=.type "list",data:=.seq its.toArray n }:=by
 obtain⟨z,its,n,r,e⟩:=I.hok l _ hH;exact⟨z,its,n,r,r.length,e⟩
def Ak(h:n<=sizeLine):ADi n=false:=by
 unfold ADi;exact dF_ (by lia)
end
section
variable{X:Cx}
def CP:V->List V->Hp->VK->Prop:=λx vs H Q=>∃l xs y,x=.ref l/\vs=[y]/\H l=some (.lst xs)/\xs.length<sizeLine/\Q .non (upd H l (.lst (xs++[y])))
def xS:MtM X "list.append" CP:=by
 intro pins s σ H x vs v us Q I rx rv h;obtain⟨l,xs,y,rfl,rfl,hH,hz,q⟩:=h;cases rx
 obtain⟨u,rfl,ru⟩:=rv.one;obtain⟨z,its,n,r,hl,e⟩:=I.lstM hH;refine call_meets F.slot_list_append ⟨_,e,rfl⟩ F.entry_list_append (F.args_list_append_2 _ _) (PySem.list_append l its.toArray n u (by rw[AAD];lia)) ⟨e,?_⟩
 refine⟨.non,_,I.lset (its':=its++[u]) hH e (by simp) (r.append (.cons ru .nil)) ?_,rfl,q⟩
 rw[AAA,AAb];lia
def CO:V->List V->Hp->VK->Prop:=λx vs H Q=>∃l b xs zs,x=.ref l/\vs=[.ref b]/\H l=some (.lst xs)/\H b=some (.lst zs)/\xs.length+zs.length<=sizeLine/\Q .non (upd H l (.lst (xs++zs)))
def xR:MtM X "list.extend" CO:=by
 intro pins s σ H x vs v us Q I rx rv h;obtain⟨l,b,xs,zs,rfl,rfl,hH,hB,hz,q⟩:=h;cases rx
 obtain⟨u,rfl,ru⟩:=rv.one;cases ru
 obtain⟨z,its,n,r,hl,e⟩:=I.lstM hH;obtain⟨z2,its2,n2,r2,hl2,e2⟩:=I.lstM hB;have hsz:its.toArray.size+its2.toArray.size<=sizeLine:=by rw[AAD,AAD];lia
 have hlong:¬(!its.toArray.isEmpty&&ADi (its.toArray.size+its2.toArray.size))=true:=by
  rw[Ak hsz,AEe];exact ABB
 refine call_meets F.slot_list_extend ⟨_,e,rfl⟩ F.entry_list_extend (F.args_list_extend_2 _ _)
  (AutoSeq1.list_extend_list_list_0 l its.toArray n b its2.toArray n2 hlong (by rw[AAD];lia) (by lia)) ⟨e,e2,?_⟩
 refine⟨.non,_,I.lset (its':=its++its2) hH e (by simp) (r.append r2) ?_,rfl,q⟩
 rw[AAA];lia
def rPop:V->List V->Hp->VK->Prop:=λx vs H Q=>∃l xs y,x=.ref l/\vs=[]/\H l=some (.lst xs)/\xs[xs.length-1]?=some y/\Q y (upd H l (.lst xs.dropLast))
def Go:MtM X "list.pop" rPop:=by
 intro pins s σ H x vs v us Q I rx rv h;obtain⟨l,xs,y,rfl,rfl,hH,hy,q⟩:=h;cases rx
 have hus:=rv.zero;subst hus;obtain⟨z,its,n,r,hl,e⟩:=I.lstM hH;obtain⟨u,hu,ru⟩:=r.get hy;have hy':its.toArray[its.toArray.size-1]?=some u:=by
  show its.toArray[its.length-1]?=some u;rw[<-AAS,<-hl];exact hu
 refine call_meets F.slot_list_pop ⟨_,e,rfl⟩ F.entry_list_pop (F.args_list_pop_1 _) (MeetsSeq.list_pop_last l its.toArray n u hy' (by rw[AAD];lia)) ⟨e,?_⟩
 refine⟨y,_,I.lset (its':=its.dropLast) hH e ?_ r.dropLast ?_,ru,q⟩
 ·show its.toArray.eraseIdxIfInBounds (its.toArray.size-1)=its.dropLast.toArray
  rw[AAD,List.eraseIdxIfInBounds_toArray,vZ]
 ·rw[List.length_dropLast]
  lia
def rCat:R2:=λx y H Q=>∃l b xs zs,x=.ref l/\y=.ref b/\H l=some (.lst xs)/\H b=some (.lst zs)/\xs.length+zs.length<=sizeLine/\∀p,H p=none->Q (.ref p) (upd H p (.lst (xs++zs)))
def FY:OpR X (binaryOp .Add) rCat:=by
 intro pins s σ H x y v u Q I rx ry h;obtain⟨l,b,xs,zs,rfl,rfl,hH,hB,hz,q⟩:=h;cases rx
 cases ry
 obtain⟨z,its,n,r,hl,e⟩:=I.lstM hH;obtain⟨z2,its2,n2,r2,hl2,e2⟩:=I.lstM hB;refine PySem.P.add_list e e2 ?_ (by rw[AAD,AAD];lia)
 have ea:its.toArray++its2.toArray=(its++its2).toArray:=by simp
 rw[ea];exact⟨.ref _,_,I.lnew (t':=s.toks) (r.append r2) (by rw[AAA];lia),rfl,q _ I.fresh⟩
end
end L2
namespace Att
open PySem PySem.W PySem.Calls PyProof.Rows
def kY:∀(ns:List Int) (vs:List Value),WellAll P h vs (ns.map WData.int)->IntsAre vs ns:=by
 intro ns;induction ns with
 | nil =>
  intro vs w;rw[AEa]at w;cases w
  exact .nil
 | cons n ns ih =>
  intro vs w;rw[AAQ]at w;cases w with
  | cons a b =>
   cases a
   exact .cons _ _ (ih _ b)
def xt{l:OpenLaw}{n:Nat}(hn:l.most=some n){P:Params}{h:Heap}{args:List WData}{vals:List Value}
  (hpre:l.row.toRowW.claim.pre args=true) (hwl:WellAll P h vals args) :
  ∃a vs ns,vals=[AB6 a]/\args=[WData.list (ns.map WData.int)]/\h.get? a=some { cls:=.type "list",data:=.seq vs.toArray }/\IntsAre vs ns/\ns.length<=n:=by
 have hsh:WShape.hasAll [] args [.list .int]=true:=(pre_splitW hpre).1;have hc:l.pre.holds [] { args:=args }=true:=(pre_splitW hpre).2;obtain⟨d,r,rfl,h1,h2⟩:=hasAllW_cons hsh;obtain rfl:=hasAllW_nil h2;obtain⟨xs,rfl,h3⟩:=hasW_list h1;obtain⟨ns,rfl⟩:=items_int h3;have hlen:ns.length<=n:=by
  unfold OpenLaw.pre at hc;have h4:(WTm.not (.lt (.lit (.int (n:Int))) (.len (.arg 0)))).holds [] { args:=[.list (ns.map .int)] }=true:=by
   have h4:=(holds_andW hc).1;rw[hn]at h4;exact h4
  have h5:=condW_of h4 (w_not (w_lt w_lit (w_len_list (w_arg rfl))));rw[AA4]at h5;refine Nat.le_of_not_lt λq=>?_
  have q':(n:Int)<((ns.length:Nat):Int):=by lia
  first
   | (rw[dT_ q']at h5;exact absurd h5 (by decide))
   | (simp at h5;lia)
 cases hwl with
 | cons w1 w2 =>
  cases w2
  cases w1 with
  | list ho hall=>exact⟨_,_,ns,rfl,rfl,ho,kY ns _ hall,hlen⟩
def xA(l:OpenLaw)(args:List WData):l.row.toRowW.claim.post args (.bool true) args=true :=
 postW_of (r:=l.row.toRowW) (X:=(true==true))
  (show WShape.has [] (.bool true) .bool=true by first | rfl | decide | simp[WShape.has,WShape.arms,WShape.armsAll])
  (show (WTm.eq .res (.lit (.bool true))).value [] { args:=args,res:=some (.bool true),after:=args }=some (.bool (true==true))from w_eq_bool (w_res rfl) w_lit) rfl
def attach_call{l:OpenLaw}{n:Nat}{q:Program}{loose:List Str}{XP:(Str->Option Value)->Heap->Prop}{YP:World->Heap->Prop}{d:DefRec}
  (hn:l.most=some n) (hdf:d.params.defaults=[])
  (call:∀(w:World) (s₀ s₁:Shared) (mg mb:Str->Option Value) (fa:Addr) (o:Obj) (pm cd doc:Value) (a:Addr) (vs:List Value) (ns:List Int),
   Ground q loose [] XP w s₀ mg mb s₁.heap->YP w s₁.heap ->
   s₁.heap.get? fa=some o->o.data=.func (docDef d.name d.params d.body d.scope pm cd doc)->s₁.heap.CodeRec cd d.name->mg d.name=some (.ref fa) ->
   s₁.heap.get? a=some { cls:=.type "list",data:=.seq vs.toArray }->IntsAre vs ns->ns.length<=n->s₁.gens = #[] ->
   codeAny (model l.prog w) callerA (.call (.ref fa) ⟨[.ref a],[]⟩) (λr s'=>r=.ok (.ret (.bool true))/\OldK s₁.heap s'.heap/\s'.os=s₁.os/\AllBare s'.gens) s₁) :
  WalkO q loose XP YP l.row.toRowW d [] (λf vs=>PySem.call f vs):=by
 intro w s₀ s₁ mg mb G Y fa o pm cd doc dV kV ho hd hcd hD hmg hg args vals as hpre hlay hrd hwl hlo;obtain rfl:dV=.none:=Dflts.none hD hdf;obtain rfl:kV=.none:=Dflts.noKw hD;obtain⟨a,vs,ns,rfl,rfl,hobj,hints,hlen⟩:=xt hn hpre hwl;refine enter_call (ADf (call w s₀ s₁ mg mb fa o pm cd doc a vs ns G Y ho (fd_plain hd) hcd hmg hobj hints hlen hg) λr s' hq=>?_)
 obtain⟨rfl,h2,h3,h4⟩:=hq;exact⟨.inl ⟨.bool true,.bool true,[],rfl,λ_=>rfl,.bool true,xA l _,λ_=>⟨ADJ,λ_ hm=>(nomatch hm)⟩⟩,h2,h3,h4⟩
section
variable{prog:Program}{w:World}{A:Around}{E:Value->Shared->Prop}{s:Shared}{K:Frag}
def noObjs(h:Heap):Heap:={ h with objs:=#[] }
def noObjs_get(h:Heap)(b:Addr):(noObjs h).get? b=none:=by
 cases e:(noObjs h).get? b with
 | none=>rfl
 | some o=>exact absurd (AAG e) (ABs _)
def ledger(h:Heap)(L d:Addr):List (Addr×Obj):=(AAu h.objs.size).filterMap λa=>if a=L\/a=d then none else(h.get? a).map λo=>(a,o)
def mem_ledger:(a,o)∈ledger h L d↔a≠L/\a≠d/\h.get? a=some o:=by
 unfold ledger;rw[ADk];constructor
 ·rintro⟨b,_,e⟩
  split at e
  ·cases e
  ·rename_i hb
   obtain⟨o',ho,e'⟩:=ABF.mp e;cases e'
   exact⟨λq=>hb (.inl q),λq=>hb (.inr q),ho⟩
 ·rintro⟨n1,n2,ho⟩
  refine⟨a,AB2.mpr (AAG ho),?_⟩;rw[if_neg (show ¬(a=L\/a=d)from λq=>q.elim n1 n2),ho]<;>rfl
def news_ledger(hne:d≠L)(ho:h.get? d=some od):News (noObjs h) L h ([]++(d,od)::ledger h L d):=by
 rintro⟨a,o⟩ hp;rcases AAJ.mp hp with e | hp
 ·cases e
  exact⟨ho,hne,noObjs_get _ _⟩
 ·obtain⟨n1,n2,e⟩:=mem_ledger.mp hp
  exact⟨e,n1,noObjs_get _ _⟩
def fr_all(n:h.Ns L m):Fr (noObjs h) L h m :=
 ⟨n,λb o e=>(by rw[noObjs_get]at e;cases e),AAX _⟩
end
end Att
namespace L2
open PySem PySem.Spec PyProof.Rows
def pf:∀{vs:List Value}{ns:List Int},IntsAre vs ns->au (ns.map V.int) vs
 | _,_,.nil=>.nil
 | _,_,.cons n t h=>.cons ⟨t,rfl⟩ (pf h)
abbrev KOf{K:AA6}{h:Heap}(_:K.In h):AA6:=K
def gZ(s:Stmt):Arguments:=match s with
 | .FunctionDef _ a _ _ _ _ _ _ _ _=>a
 | _=>{ posonlyargs:=[],args:=[],vararg:=none,kwonlyargs:=[],kw_defaults:=[],kwarg:=none,defaults:=[] }
def bE(s:Stmt):List Stmt:=match s with
 | .FunctionDef _ _ b _ _ _ _ _ _ _=>b
 | _=>[]
def ap(s:Stmt):Scope:=match s with
 | .FunctionDef _ _ _ _ _ _ sc _ _ _=>sc
 | _=>{ kind:=.function,names:=[],isGenerator:=false,isCoroutine:=false }
abbrev CX0:CXT:=λ_ _ _ _ _ _=>False
abbrev E0:XK:=λ_ _ _=>False
def pass0:zw CX0 X E0:=λ_ _ _ _ _ _ _ h=>h.elim
structure Fun(K:AA6)(x qual:Str)(st:Stmt)(f:Addr)(fd:FuncData):Prop where
 ex:∃(oc:Value) (od:Option Addr) (kV doc pm:Value) (an:Option Addr) (cdv ct:Value) (osl:Array (Option Value)),
  fd=ACr x qual (gZ st) (bE st) (ap st) .none kV doc pm an cdv ct/\K.lookup f=some ⟨oc,od,.func fd,osl⟩/\AEd K cdv qual=true
 kp:ACf K (.ref f)=true
section
variable{P:Program}{w:World}{K:AA6}{mg:Str->Option Value}{base:Heap}
def Fun.ok{x qual:Str}{st:Stmt}{f:Addr}{fd:FuncData}{N ps:List Str}{k:Nat}{sp:Sp}(F:Fun K x qual st f fd)(S:FnScope N ps (ap st))(len:∀vs H Q E,sp vs H Q E->vs.length=ps.length)
  (hbody:∀(cdv:Value) (A:Around) (outer:List Env) (s:Shared) (H:Hp) (vs:List V) (Q:VK) (E:XK),Room k (A.deeper (envOfC qual (ap st) s.heap.objs.size f cdv))->sp vs H Q E ->
   ∃t,PSs (rC CX0 P w K mg base N qual (ap st) f cdv A outer s H E).nox (bE st) t/\t { nx:=λ_ H'=>Q .non H',rt:=Q } (start N vs) H):FnOk P w K mg base CX0 (k+1) f fd ps sp:=by
 obtain⟨oc,od,kV,doc,pm,an,cdv,ct,osl,rfl,lk,hcd⟩:=F.ex;refine GZ lk hcd S len λA outer s H vs Q E hr hsp=>?_
 obtain⟨t,h,q⟩:=hbody cdv A outer s H vs Q E hr hsp;exact⟨t,h.nox,q⟩
def Fun.binds{x qual:Str}{st:Stmt}{f:Addr}{fd:FuncData}{ps:List Str}(F:Fun K x qual st f fd)
  (h:∀(kV doc pm:Value) (an:Option Addr) (cdv ct:Value) (us:List Value),us.length=ps.length->bindArgs (ACr x qual (gZ st) (bE st) (ap st) .none kV doc pm an cdv ct) ⟨us,[]⟩=pure (ps.zip us)):rP K fd ps []:=by
 obtain⟨oc,od,kV,doc,pm,an,cdv,ct,osl,rfl,lk,hcd⟩:=F.ex;exact .all (h kV doc pm an cdv ct)
def GX{x qual:Str}{st:Stmt}{f:Addr}{oc:Value}{od an:Option Addr}{osl:Array (Option Value)}{kV doc pm cdv ct:Value}(l:K.lookup f=some ⟨oc,od,.func (ACr x qual (gZ st) (bE st) (ap st) .none kV doc pm an cdv ct),osl⟩)
  (c:AEd K cdv qual=true) (k:ACf K (.ref f)=true):Fun K x qual st f (ACr x qual (gZ st) (bE st) (ap st) .none kV doc pm an cdv ct):=⟨⟨oc,od,kV,doc,pm,an,cdv,ct,osl,rfl,l,c⟩,k⟩
end
def aB(h:n<=1000):n<sizeLine:=Nat.lt_of_le_of_lt h (by decide)
section
variable{X:Cx}
def pv(i:Nat)(hN:X.N[i]?=some x:=by rfl)(hv:Vis X.env.scope x:=by first | exact Or.inl rfl | exact Or.inr (Or.inl rfl) | exact Or.inr (Or.inr rfl))(hd:(x==("__debug__":Str))=false:=by decide)
  (hcd:(x==("__classdict__":Str))=false:=by decide):PE X (.Name x pos) (tVar i):=Bx hN hv hd hcd
end
def bZ{A B:Prop}(h:B):if false=true then A else B:=by
 rw[if_neg ABB];exact h
def db{A B:Prop}(h:A):if true=true then A else B:=by
 rw[if_pos rfl];exact h
section
variable{κ:Type}[DecidableEq κ]
def wv(kvs:List (κ×V))(k:κ):Option V:=(kvs.find? λkv=>decide (kv.1=k)).map (·.2)
def putK(kvs:List (κ×V))(k:κ)(v:V):List (κ×V) :=
 if (kvs.any λkv=>decide (kv.1=k))=true then kvs.map (λkv=>if kv.1=k then(kv.1,v)else kv)else kvs++[(k,v)]
def tw{p:κ×V}{r:List (κ×V)}{k:κ}(e:p.1=k):wv (p::r) k=some p.2:=by simp[wv,ABJ,e]
def tx{p:κ×V}{r:List (κ×V)}{k:κ}(e:¬p.1=k):wv (p::r) k=wv r k:=by simp[wv,ABJ,e]
def KV.val{kvs:List (κ×V)}{vs:List (κ×Value)}(r:KV kvs vs)(k:κ):Cr (wv kvs k) (valueAt vs k):=by
 unfold KV at r;induction r with
 | nil=>exact True.intro
 | @cons p q ps qs h t ih =>
  obtain⟨h1,h2⟩:=h;by_cases e:p.1=k
  ·have e':q.1=k:=h1.symm.trans e
   have b:valueAt (q::qs) k=some q.2:=by simp[valueAt,ABJ,e']
   rw[tw e,b];exact h2
  ·have e':¬q.1=k:=λz=>e (h1.trans z)
   have b:valueAt (q::qs) k=valueAt qs k:=by simp[valueAt,ABJ,e']
   rw[tx e,b];exact ih
def KV.any(r:KV kvs vs)(k:κ):(kvs.any λkv=>decide (kv.1=k))=vs.any λkv=>decide (kv.1=k):=by
 unfold KV at r;induction r with
 | nil=>rfl
 | cons h t ih=>rw[List.any_cons,List.any_cons,ih,h.1]
def KV.repl(r:KV kvs vs)(k:κ)(ry:aI y u) :
  KV (kvs.map λkv=>if kv.1=k then(kv.1,y)else kv) (vs.map λkv=>if kv.1=k then(kv.1,u)else kv):=by
 unfold KV at r ⊢;induction r with
 | nil=>exact .nil
 | @cons p q ps qs h t ih =>
  rw[AAQ,AAQ];refine .cons ?_ ih;obtain⟨h1,h2⟩:=h;by_cases e:p.1=k
  ·rw[if_pos e,if_pos (h1.symm.trans e)];exact⟨h1,ry⟩
  ·rw[if_neg e,if_neg (λz=>e (h1.trans z))];exact⟨h1,h2⟩
def KV.put(r:KV kvs vs)(k:κ)(ry:aI y u):KV (putK kvs k y) (stored vs k u):=by
 unfold putK stored;rw[r.any k];by_cases e:(vs.any λkv=>decide (kv.1=k))=true
 ·rw[if_pos e,if_pos e];exact r.repl k ry
 ·rw[if_neg e,if_neg e];exact Paired.snoc r ⟨rfl,ry⟩
def KV.length(r:KV kvs vs):kvs.length=vs.length:=Paired.length r
end
def DU(r:aI (kV k) u):(cj P w).is k u=true:=by
 cases k with
 | inl i=>obtain⟨t,e⟩:=(show ∃t,u=Value.int i t from r);subst e;exact sB P w i t
 | inr x=>obtain⟨t,e⟩:=(show ∃t,u=Value.str x t from r);subst e;exact sA P w x t
def qJ:∀{ks:List Key}{us:List Value},au (ks.map kV) us->ItemsAre (cj P w) ks us
 | [],_,r=>by rw[AEa]at r;cases r;exact .nil
 | k::ks,_,r=>by
  rw[AAQ]at r;cases r with
  | cons h t=>exact .cons (DU h) (qJ t)
abbrev KT(H:Hp):List (List Key×V)->List (List Key×Addr×Value)->Prop:=Paired λp q=>p.1=q.1/\H q.2.1=some (.tup (p.1.map kV))/\aI p.2 q.2.2
def KT.val{H:Hp}{kvs:List (List Key×V)}{xs:List (List Key×Addr×Value)}(r:KT H kvs xs)(k:List Key):Cr (wv kvs k) ((atKey xs k).map (·.2)):=by
 induction r with
 | nil=>exact True.intro
 | @cons p q ps qs h t ih =>
  obtain⟨h1,_,h2⟩:=h;by_cases e:p.1=k
  ·have e':q.1=k:=h1.symm.trans e
   have b:atKey (q::qs) k=some q.2:=by simp[atKey,ABJ,e']
   rw[tw e,b];exact h2
  ·have e':¬q.1=k:=λz=>e (h1.trans z)
   have b:atKey (q::qs) k=atKey qs k:=by simp[atKey,ABJ,e']
   rw[tx e,b];exact ih
section
variable{P:Program}{w:World}{H:Hp}{h:Heap}{a:Addr}
def Fw(ok:HOk P w H h)(e:Rd H a u):bQ P w H h a u:=e.ok ok
def Hr(ok:HOk P w H h)(e:Rd H a (.dK kvs)):kvs.length<=sizeLine/\(a==sysModules)=false/\∃vs,KV kvs vs/\h.DictOf (cj P w) a vs :=
 show bQ P w H h a (.dK kvs)from Fw ok e
def BT(ok:HOk P w H h)(e:H a=some (.tup (ks.map kV))):(tupleKind (cj P w)).is h ks a:=by
 obtain⟨_,its,r,o,h1,h2,⟨n,h3⟩,_⟩:=(show bQ P w H h a (.tup (ks.map kV))from ok a _ e);exact⟨o,its.toArray,n,h1,h2,h3,by simpa using qJ r⟩
def Hg(ok:HOk P w H h)(e:Rd H a (.dT kvs)):kvs.length<=sizeLine/\(a==sysModules)=false /\
  ∃xs,KT H kvs xs/\h.DictOfH (tupleKind (cj P w)) a xs:=by
 obtain⟨z,y,xs,r,o,es,ep,h1,h2,h3,h4,h5⟩:=(show bQ P w H h a (.dT kvs)from Fw ok e);refine⟨z,y,xs,r,o,es,ep,h1,h2,h3,h4,λx hx=>?_,h5⟩
 have all:∀{l:List (List Key×V)}{m:List (List Key×Addr×Value)},KT H l m->∀x∈m,(tupleKind (cj P w)).is h x.1 x.2.1:=by
  intro l m q;induction q with
  | nil=>intro x hx;exact nomatch hx
  | @cons p q ps qs hq t ih =>
   intro x hx;rcases AAJ.mp hx with e | hx
   ·subst e
    exact BT ok (by rw[<-hq.1];exact hq.2.1)
   ·exact ih x hx
 exact all r x hx
end
def DGet(H:Hp)(a:Addr)(y:V)(r:Option V):Prop :=
 (∃kvs k,Rd H a (.dK kvs)/\y=kV k/\r=wv kvs k)\/∃kvs k b,Rd H a (.dT kvs)/\y=.ref b/\H b=some (.tup (k.map kV))/\r=wv kvs k
section
variable{X:Cx}{pins:List (Addr×Obj)}{σ:St}{H:Hp}{s:Shared}{a:Addr}{y v:V}{u r:Value}{o:Option V}{A:Around}{E:Value->Shared->Prop}
def Inv.big(I:Inv X pins σ H s):sysModules<s.heap.objs.size:=by
 have h:mainGlobals<s.heap.objs.size:=(I.mod.glob.keeps I.bk).lt;exact Nat.lt_trans (by decide) h
def zc(hu:A.units+1<cLine)(I:Inv X pins σ H s)(g:DGet H a y (some v))(ry:aI y u)(h:∀w' s',Inv X pins σ H s'->aI v w'->Q w' s') :
  wpAny (model X.prog X.w) A (getItem (.ref a) u) Q E s:=by
 rcases g with⟨kvs,k,e,ey,l⟩|⟨kvs,k,b,e,ey,eb,l⟩
 ·subst ey
  obtain⟨z,hd,vs,rel,dd⟩:=Hr I.hok e;obtain⟨w',hw,rw'⟩:=Cr.some_of (v:=v) (o:=valueAt vs k) (by rw[l];exact rel.val k)
  exact wpAny_getItem_of (DU ry) dd.mapOf hw (h w' _ (I.tok _) rw')
 ·subst ey
  cases (show u=AB6 b from ry)
  obtain⟨z,hd,xs,rel,dd⟩:=Hg I.hok e;obtain⟨w',hw,rw'⟩:=Cr.some_of (v:=v) (o:=(atKey xs k).map (·.2)) (by rw[l];exact rel.val k)
  obtain⟨p,hp,hp2⟩:=ABF.mp hw;refine wpAny_getItem_heap (tupleKind_room_in1 hu) (BT I.hok eb) dd hp ?_
  rw[hp2];exact h w' _ (I.tok _) rw'
def sU(I:Inv X pins σ H s)(mu:Mut (H a))(hs:ABx a s.heap h')(he:∃q,h'.get? a=some q)(new:bQ X.prog X.w (upd H a ob) h' a ob) :
  Inv X pins σ (upd H a ob) { s with heap:=h',toks:=t' } :=
 I.write (x:=a) (e:=a) mu (.inl rfl) (λb q hb z=>(hs.2 b hb).trans z) he new
def Hs(z:kvs.length<=sizeLine)(hd:(a==sysModules)=false)(rel:KV kvs vs)(dd:h'.DictOf (cj P w) a vs) :
  bQ P w H' h' a (.dK kvs):=⟨z,hd,vs,rel,dd⟩
end
def Cs(i:Expr):Prop:=∀ov iv,subscripted i false ov iv=operate [ov,iv] (getItem ov iv)
theorem rZ{prog:Program}{w:World}{A:Around}{E:Value->Shared->Prop}{s:Shared}{env:Env}{value slice:Expr}{pos:Pos}{T id:String}{Q:Value->Shared->Prop}
  (hl:typeLookup (.type T) "__getitem__" = pure (some (.builtin id))) (hs:Cs slice)
  (h:wpAny (model prog w) A (eval value env) (λo s₁=>wpAny (model prog w) A (eval slice env) (λi s₂=>s₂.TypeIs o T/\wpAny (model prog w) A (getItem o i) Q E s₂) E s₁) E s) :
  wpAny (model prog w) A (eval (.Subscript value slice pos) env) Q E s:=by
 refine Subscript_ (ABA h (λo s₁ h₁=>ABA h₁ (λi s₂ h₂=>?_) λ_ _ x=>x) λ_ _ x=>x)
 obtain⟨hT,h₂⟩:=h₂;unfold subscriptTail;refine AA0 ?_
 rw[getitemInPython_of_ne hT.not_modules];refine AA0 (ABt hT hl ?_);have fin:wpAny (model prog w) A (subscripted slice false o i) (λr s₃=>wpAny (model prog w) A (letTemporaryGo value o r >>= λ_=>pure r) Q E s₃) E s₂:=by
  rw[hs o i];exact wpAny_operating (ABA h₂ (λr s₃ h₃=>AA0 (wpAny_letTemporaryGo (AA2 h₃))) λ_ _ x=>x)
 first
  | exact AA2 (AA0 fin)
  | exact AA0 (AA2 (AA0 fin))
  | exact AA0 fin
def sS(I:Inv X pins σ H s)(g:DGet H a y o):s.TypeIs (.ref a) "dict":=by
 rcases g with⟨kvs,k,e,_,_⟩|⟨kvs,k,b,e,_,_,_⟩
 ·obtain⟨_,_,vs,_,dd⟩:=Hr I.hok e
  exact dd.typeIs
 ·obtain⟨_,_,xs,_,dd⟩:=Hg I.hok e
  exact dd.typeIs
def tDGet(td ty:TE):TE:=λσ H Q=>td σ H λx H1=>ty σ H1 λy H2=>∃a v,x=.ref a/\DGet H2 a y (some v)/\Q v H2
section
variable{X:Cx}{o i e value:Expr}{pos pos' tpos:Pos}{td ty tv:TE}
def Dg(hu:X.A.units+1<cLine)(ho:PE X o td)(hi:PE X i ty)(hs:Cs i):PE X (.Subscript o i pos) (tDGet td ty):=by
 intro pins s σ H Q I h;refine rZ ADV.lookup hs (thn (ho pins s σ H _ I h) λu s1 ⟨x,H1,I1,rx,q1⟩=>thn (hi pins s1 σ H1 _ I1 q1) λiv s2 ⟨y,H2,I2,ry,a,v,ex,g,q2⟩=>?_)
 subst ex;obtain rfl:u=AB6 a:=rx;exact⟨sS I2 g,zc hu I2 g ry λw' s3 I3 rw'=>⟨v,H2,I3,rw',q2⟩⟩
end
end L2
namespace DL
open PySem
def hV(env:Env):∀(names:List (Str×NameKind)) (acc:List (Str×Addr)),
  (∀p∈names,p.2=ABN->∃c,env.cells.lookup p.1=some c) ->
  ∃cl,(forIn (m:=Sem) names acc λ(p:Str×NameKind) (r:List (Str×Addr)) =>
    if (p.2==ABN)=true then(do let a <-cellOf env p.1;pure (AEQ ((p.1,a)::r)))else pure (AEQ r))=pure cl /\
   (∀z c,cl.lookup z=some c->acc.lookup z=some c\/env.cells.lookup z=some c) /\
   (∀z c,acc.lookup z=some c->∃c',cl.lookup z=some c') /\
   (∀p∈names,p.2=ABN->∃c,cl.lookup p.1=some c)
 | [],acc,_=>⟨acc,rfl,λ_ _ h=>.inl h,λz c h=>⟨c,h⟩,λ_ h=>nomatch h⟩
 | (n,k)::aJ,acc,hyp=>by
  by_cases hk:k=ABN
  ·subst hk
   obtain⟨c0,hc0⟩:=hyp (n,.free) AAI rfl;obtain⟨cl,e,h1,h2,h3⟩:=hV env aJ ((n,c0)::acc) λp hp=>hyp p (AA9 _ hp)
   have ce:cellOf env n=pure c0:=by unfold cellOf;rw[hc0]
   have own:∃c',cl.lookup n=some c':=h2 n c0 (by simp[ACI])
   refine⟨cl,?_,λz c hz=>?_,λz c hz=>?_,λp hp hf=>?_⟩
   ·rw[List.forIn_cons]
    simp only[beq_self_eq_true,if_true,ce,pure_bind];exact e
   ·rcases h1 z c hz with q | q
    ·rw[ACI]at q
     by_cases hz':(z==n)=true
     ·rw[hz']at q
      have:z=n:=by simpa using hz'
      subst this;cases q
      exact .inr hc0
     ·have hz'':(z==n)=false:=by simpa using hz'
      rw[hz'']at q;exact .inl q
    ·exact .inr q
   ·by_cases hz':z=n
    ·subst hz';exact own
    ·refine h2 z c ?_
     rw[ACI];have hz'':(z==n)=false:=by simpa using hz'
     rw[hz''];exact hz
   ·rcases AAJ.mp hp with rfl | hp
    ·exact own
    ·exact h3 p hp hf
  ·have hb:(k==ABN)=false:=by simpa using hk
   obtain⟨cl,e,h1,h2,h3⟩:=hV env aJ acc λp hp=>hyp p (AA9 _ hp)
   refine⟨cl,?_,h1,h2,λp hp hf=>?_⟩
   ·rw[List.forIn_cons]
    simp only[hb,AAE,if_false,pure_bind];exact e
   ·rcases AAJ.mp hp with rfl | hp
    ·exact absurd hf hk
    ·exact h3 p hp hf
def jr(hyp:∀p∈scope.names,p.2=ABN->∃c,env.cells.lookup p.1=some c) :
  ∃cl,closureFor scope env=pure cl/\(∀z c,cl.lookup z=some c->env.cells.lookup z=some c)/\(∀p∈scope.names,p.2=ABN->∃c,cl.lookup p.1=some c):=by
 obtain⟨cl,e,h1,h2,h3⟩:=hV env scope.names [] hyp;refine⟨cl,?_,λz c hz=>?_,h3⟩
 ·unfold closureFor
  simp only[bind_pure];exact e
 ·rcases h1 z c hz with q | q
  ·simp at q
  ·exact q
def eY{env:Env}:∀{names:List (Str×NameKind)}{x:Str}{k:NameKind},
  (names.map λ(p:Str×NameKind)=>if (p.2==ABN&&env.scope.kind==.function&&env.kindOf p.1==some .cell)=true then(p.1,ACt)else(p.1,p.2)).lookup x=some k ->
   (names.lookup x=some k\/(k=ACt/\names.lookup x=some .free))
 | [],_,_,h=>by simp at h
 | (n,j)::aJ,x,k,h=>by
  have ih:=@eY env aJ x k;rw[AAQ,ACI]at h;by_cases hx:(x==n)=true
  ·have hl:List.lookup x ((n,j)::aJ)=some j:=by rw[ACI,hx]
   rw[hl];by_cases hc:(j==ABN&&env.scope.kind==.function&&env.kindOf n==some .cell)=true
   ·simp only[hc,if_true,hx]at h
    cases h
    have:j=ABN:=by
     simp only[AAY]at hc;simpa using hc.1.1
    exact .inr ⟨rfl,by rw[this]⟩
   ·simp only[hc,AAE,if_false,hx]at h
    exact .inl h
  ·have hx':(x==n)=false:=by simpa using hx
   have hl:List.lookup x ((n,j)::aJ)=List.lookup x aJ:=by rw[ACI,hx']
   rw[hl];refine ih ?_
   by_cases hc:(j==ABN&&env.scope.kind==.function&&env.kindOf n==some .cell)=true
   ·simp only[hc,if_true,hx']at h
    exact h
   ·simp only[hc,AAE,if_false,hx']at h
    exact h
section
variable{prog:Program}{w:World}{A:Around}{R:Result->Shared->Prop}{s:Shared}
def nD(ifs:List Expr)(env:Env):compTests ifs env =
  (forIn ifs true λc r=>if r=true then do let ok <-isTrue c env (eval c env);pure (AEQ ok)else pure (AEQ r)):=by
 unfold compTests;simp only[bind_pure]
def wg(J:Nat->Shared->Prop)(ne:Value->Shared->Prop)
  (hne:∀e s',ne e s'->notedBy (model prog w) A env (λe s'=>R (.error e) s') e s')
  (turn:∀n s,J n s->wpAny (model prog w) A (pyNext it) (λr s1=>match r with
   | none=>R (.ok .next) s1
   | some v=>wpAny (model prog w) A (letOwnedTupleGo target it v) (λ_ s2=>wpAny (model prog w) A (assign target env v) (λ_ s3 =>
     wpAny (model prog w) A (compTests ifs env) (λok s4 =>
      if ok=true then wpAny (model prog w) A (eval elt env) (λy s5=>wpAny (model prog w) A (call (.builtin "list.append") [acc,y]) (λ_ s6=>∃m,m<n/\J m s6) ne s5) ne s4
      else ∃m,m<n/\J m s4) ne s3) ne s2) ne s1) ne s)
  (n:Nat) (h:J n s):codeAny (model prog w) A (.compLoop (.ListComp elt [⟨target,iter,ifs,0⟩] scope pos) 0 it acc env) R s:=by
 refine codeAny_loop rfl J (λn s hJ=>?_) n h
 show wpAny _ A ((compTurn (.ListComp elt [⟨target,iter,ifs,0⟩] scope pos) 0 it acc env).onRaise (λx=>do noteFrame x env;theTreesLotGoes x)) _ _ s
 refine wpAny_noted ?_
 rw[compTurn_list];refine AA0 (wpAny_standAt (AA0 (ABA (turn n s hJ) (λr s1 h1=>?_) hne)))
 cases r with
 | none=>exact AA2 h1
 | some v =>
  refine AA0 (ABA h1 (λ_ s2 h2=>?_) hne)
  refine AA0 (ABA h2 (λ_ s3 h3=>?_) hne)
  rw[nD]at h3;refine AA0 (ABA h3 (λok s4 h4=>?_) hne)
  cases ok with
  | false=>exact AA2 ⟨rfl,h4⟩
  | true =>
   exact AA0 (AA0 (ABA h4 (λy s5 h5=>AA0 (ABA h5 (λ_ s6 h6=>AA2 (AA2 ⟨rfl,h6⟩)) hne)) hne))
end
end DL
namespace L2
open PySem PySem.Spec PyProof.Rows DL
def jm{env:Env}:∀{names:List (Str×NameKind)}{x:Str},names.lookup x=some .free ->
  ((names.map λ(p:Str×NameKind)=>if (p.2==ABN&&env.scope.kind==.function&&env.kindOf p.1==some .cell)=true then(p.1,ACt)else(p.1,p.2)).lookup x=some .cell \/
   (names.map λ(p:Str×NameKind)=>if (p.2==ABN&&env.scope.kind==.function&&env.kindOf p.1==some .cell)=true then(p.1,ACt)else(p.1,p.2)).lookup x=some .free)
 | [],_,h=>by simp at h
 | (n,j)::aJ,x,h=>by
  have ih:=@jm env aJ x;rw[AAQ,ACI];rw[ACI]at h;by_cases hc:(j==ABN&&env.scope.kind==.function&&env.kindOf n==some .cell)=true
  ·by_cases hx:(x==n)=true
   ·simp[hc,hx]
   ·have hx':(x==n)=false:=by simpa using hx
    rw[hx']at h;simp only[hc,if_true,hx'];exact ih h
  ·by_cases hx:(x==n)=true
   ·rw[hx]at h
    cases h
    right
    simp only[hc,AAE,if_false,hx]
   ·have hx':(x==n)=false:=by simpa using hx
    rw[hx']at h;simp only[hc,AAE,if_false,hx'];exact ih h
def blk(X:Cx)(N':List Str)(scope:Scope)(cl:List (Str×Addr))(s₀:Shared)(H₀:Hp)(ex:List Addr):Cx :=
 { X with N:=N',s₀:=s₀,H₀:=H₀,env:=compEnvC scope cl s₀.heap.objs.size X.env,outer:=X.stack,ex:=ex,fn:=λx=>scope.names.lookup x==some .cell,pn:=[],xe:=λ_ _=>False }
structure BlkSc(X:Cx)(N':List Str)(nt:Nat)(js:List Nat)(scope:Scope):Prop where
 kind:scope.kind=.function
 nocell:∀y∈scope.names,y.2≠.cell
 loc:∀y∈scope.names,y.2=.local->scope.names.lookup y.1=some .local
 free:∀y∈scope.names,y.2=.free->(X.env.kindOf y.1=some .cell\/X.env.kindOf y.1=some .free)
 len:N'.length=nt+js.length
 fr:∀(k j:Nat),js[k]?=some j->∃x,N'[nt+k]?=some x/\X.N[j]?=some x/\scope.names.lookup x=some .free/\(X.env.kindOf x=some .cell\/X.env.kindOf x=some .free)
def bst(nt:Nat)(js:List Nat)(σ:St):St:=AEC nt none++js.map λj=>(σ[j]?).join
def zo(nt:Nat)(js:List Nat)(σ:St):(bst nt js σ).length=nt+js.length:=by simp[bst]
def EH(h:(bst nt js σ)[i]?=some (some v)):∃k j,i=nt+k/\js[k]?=some j/\σ[j]?=some (some v):=by
 unfold bst at h;by_cases hi:i<nt
 ·rw[AAT (by simpa using hi),ACs]at h
  simp[hi]at h
 ·rw[AAe (by simpa using ADK.mp hi),ADD,AAV]at h
  cases e:js[i-nt]? with
  | none=>rw[e]at h;cases h
  | some j =>
   rw[e]at h;refine⟨i-nt,j,by lia,e,?_⟩
   have h':(σ[j]?).join=some v:=by simpa using h
   cases q:σ[j]? with
   | none=>rw[q]at h';cases h'
   | some o=>rw[q]at h';exact congrArg some h'
def PTs(X:Cx)(ifs:List Expr)(t:TT):Prop :=
 ∀(pins:List (Addr×Obj)) (s:Shared) (σ:St) (H:Hp) (Q:Bool->Hp->Prop),Inv X pins σ H s->t σ H Q->wpAny (model X.prog X.w) X.A (compTests ifs X.env) (TP X pins σ Q) X.xe s
def ttNil:TT:=λ_ H Q=>Q true H
def CV:PTs X [] ttNil:=λpins s σ H Q I h=>by
 rw[nD];exact wpAny_tests_nil ⟨H,I,h⟩
def CU(h:PT X c t):PTs X [c] t:=λpins s σ H Q I hq=>by
 rw[nD];exact wpAny_tests_one (h pins s σ H Q I hq)
def tLC(nt:Nat)(js:List Nat)(wi:TI)(g:TG)(tt:TT)(te:TE):TE:=λσ H Q=>wi σ H λJ H1=>∃W:Nat->Nat->List V->St->Hp->Prop,(∃m,W 0 m [] (bst nt js σ) H1) /\
 ∀i m vs τ H,W i m vs τ H->(J.stop i H/\∀p,H p=none->Q (.ref p) (upd H p (.lst vs))) \/
  (J.go i H/\∀x H',J.yld i H x H'->g x τ H' λτ2 H2=>tt τ2 H2 λb H3=>if b=true then te τ2 H3 λy H4=>vs.length<sizeLine/\∃m',m' < m/\W (i+1) m' (vs++[y]) τ2 H4 else ∃m',m' < m/\W (i+1) m' vs τ2 H3)
abbrev cq(its:List Value)(k:Nat):Obj:={ cls:=.type "list",data:=.seq its.toArray k }
section
variable{X:Cx}{pins:List (Addr×Obj)}{σ:St}{H:Hp}{s:Shared}
def Inv.blkOk(B:BlkSc X N' nt js scope)(I:Inv X pins σ H s)
  (hcl1:∀z c,cl.lookup z=some c->X.env.cells.lookup z=some c) (hcl2:∀p∈scope.names,p.2=ABN->∃c,cl.lookup p.1=some c) (hf:∀b∈fp,wu X pins H b) (hfs:∀b∈fp,b<s.heap.objs.size) :
  (blk X N' scope cl { s with heap:=s.heap.push ob } H (s.heap.objs.size::fp)).Ok:=by
 have J:Inv X pins σ H { s with heap:=s.heap.push ob }:=I.kept (t':=s.toks) λb o e=>AA3 _ e
 have ltc:∀z c,cl.lookup z=some c->c<s.heap.objs.size:=λz c e=>by
  obtain⟨v,q⟩:=I.cell z c (hcl1 z c e);exact q.lt
 have hC:(s.heap.push ob).objs.size=s.heap.objs.size+1:=ABZ ..;refine⟨I.ok.mod,B.kind,I.ok.glob,I.ok.blt,AA8 _,λy z c h1 h2=>I.ok.inj y z c (hcl1 y c h1) (hcl1 z c h2),λy hy=>?_,λy c h=>?_,I.ok.hd,I.ok.frames,.inl rfl,λb hb=>?_,λb o e=>?_,?_,λb o e hb=>?_,λb hb=>?_,J.stack,I.stkFree⟩
 ·have key:scope.names.lookup y=some .free:=by
   rcases hy with hy | hy
   ·rcases eY (env:=X.env) (names:=scope.names) (x:=y) (k:=.cell) hy with q | ⟨_,q⟩
    ·exact absurd rfl (B.nocell _ (ABV q))
    ·exact q
   ·rcases eY (env:=X.env) (names:=scope.names) (x:=y) (k:=.free) hy with q | ⟨q,_⟩
    ·exact q
    ·cases q
  exact hcl2 (y,.free) (ABV key) rfl
 ·exact absurd rfl (B.nocell _ (ABV (beq_iff_eq.mp (show (scope.names.lookup y==some ACt)=true from h))))
 ·show b≠(s.heap.push ob).objs.size/\∀x c,cl.lookup x=some c->c≠b
  rw[hC];rcases AAJ.mp hb with rfl | hb
  ·exact⟨AAO (AB0 _),λx c e=>AAO (ltc x c e)⟩
  ·exact⟨AAO (AC5 (hfs b hb)),λx c e=>(hf b hb).2.2.2.2.1 x c (hcl1 x c e)⟩
 ·exact⟨AA3 _ (I.bs b o e).1,(I.bs b o e).2⟩
 ·show X.base.objs.size<=(s.heap.push ob).objs.size
  rw[hC];exact Nat.le_succ_of_le (AB3 I.ok.bsz I.sz)
 ·rcases AAJ.mp hb with rfl | hb
  ·exact absurd (AAG (I.bs _ o e).1) (AAn _)
  ·rcases(hf b hb).2.2.2.1 with z | z
   ·exact I.ok.noex b o e z
   ·exact absurd (AAd (AAG (I.ok.bs b o e).1) z) (AAn _)
 ·intro hz
  have hz':=I.stkSub b hz;rcases AAJ.mp hb with rfl | hb
  ·rcases AAJ.mp hz' with q | q
   ·exact absurd I.lt (by rw[<-q];exact AAn _)
   ·exact I.nofs (AA8 _) q
  ·rcases AAJ.mp hz' with q | q
   ·exact(hf b hb).2.1 q
   ·exact(hf b hb).2.2.1 q
def Inv.blkStart(B:BlkSc X N' nt js scope)(I:Inv X pins σ H s)
  (hcl1:∀z c,cl.lookup z=some c->X.env.cells.lookup z=some c) (hcl2:∀p∈scope.names,p.2=ABN->∃c,cl.lookup p.1=some c) (hf:∀b∈fp,wu X pins H b) (hfs:∀b∈fp,b<s.heap.objs.size)
  (old:∀b o,(s.heap.push (cq [] 0)).get? b=some o->h1.get? b=some o) (hn:h1.Ns (s.heap.push (cq [] 0)).objs.size mm) :
  Inv (blk X N' scope cl { s with heap:=s.heap.push (cq [] 0) } H (s.heap.objs.size::fp)) [(s.heap.objs.size,cq [] 0)] (bst nt js σ) H { s with heap:=h1,toks:=tk }:=by
 have old2:∀b o,s.heap.get? b=some o->h1.get? b=some o:=λb o e=>old b o (AA3 _ e)
 have hC:(s.heap.push (cq [] 0)).objs.size=s.heap.objs.size+1:=ABZ ..;refine⟨I.blkOk B hcl1 hcl2 hf hfs,rfl,I.bare,Un.kept old,⟨mm,hn,λi x v e1 e2 e3=>?_⟩,λx c e=>?_,?_,λx c e=>I.freeC x c (hcl1 x c e),λp hp=>?_,I.hok.kept old2,?_⟩
 ·obtain⟨k,j,rfl,hj,hσ⟩:=EH e2
  obtain⟨x',n1,n2,lf,kf⟩:=B.fr k j hj;have ex:x=x':=AAR (e1.symm.trans n1);subst ex;obtain⟨m2,hn2,hl2⟩:=I.loc;have vis:Vis X.env.scope x:=kf.elim (λz=>.inr (.inl z)) λz=>.inr (.inr z)
  obtain⟨u,r,look⟩:=hl2 j x v n2 hσ vis;refine⟨u,r,?_⟩;rcases look with⟨q,_⟩|⟨q,c,hc,hcell⟩
  ·rcases kf with z | z<;>(rw[q]at z;cases z)
  ·obtain⟨c',hc'⟩:=hcl2 (x,.free) (ABV lf) rfl
   have:c'=c:=AAR ((hcl1 x c' hc').symm.trans hc);subst this;exact .inr ⟨jm (env:=X.env) lf,c',hc',hcell.keeps old2⟩
 ·obtain⟨v,q⟩:=I.cell x c (hcl1 x c e)
  exact⟨v,q.keeps old2⟩
 ·exact I.hok.fresh (by show s.heap.objs.size<=(s.heap.push (cq [] 0)).objs.size;rw[hC];exact ADc _)
 ·have e:p=(s.heap.objs.size,cq [] 0):=by simpa [blk]using hp
  subst e;refine⟨old _ _ (AAC _ rfl),I.hok.fresh (AA8 _),?_,?_,λv z=>by cases z⟩
  ·show s.heap.objs.size≠(s.heap.push (cq [] 0)).objs.size
   rw[hC];exact AAO (AB0 _)
  ·intro hz
   rcases AAJ.mp (I.stkSub _ hz)with q | q
   ·exact absurd I.lt (by rw[<-q];exact AAn _)
   ·exact I.nofs (AA8 _) q
 ·rw[zo]
  exact B.len.symm
def Inv.blkEnd(I:Inv X pins σ H s)
  (hf:∀b∈fp,wu X pins H b)
  (I4:Inv (blk X N' scope cl { s with heap:=s.heap.push (cq [] 0) } H (s.heap.objs.size::fp)) [(s.heap.objs.size,cq its k)] τ H' s')
  (rv:au vs its) (hl:vs.length<=sizeLine) (sb:ABx (s.heap.push (cq [] 0)).objs.size s'.heap h') :
  Inv X pins σ (upd H' s.heap.objs.size (.lst vs)) { s' with heap:=h' }:=by
 have hC:(s.heap.push (cq [] 0)).objs.size=s.heap.objs.size+1:=ABZ ..;have hDC:s.heap.objs.size≠(s.heap.push (cq [] 0)).objs.size:=by rw[hC];exact AAO (AB0 _)
 obtain⟨oD,fD,_⟩:=I4.pin (s.heap.objs.size,cq its k) (by simp[blk])
 have oD':s'.heap.get? s.heap.objs.size=some (cq its k):=oD;have fD':H' s.heap.objs.size=none:=fD;have fC:H' (s.heap.push (cq [] 0)).objs.size=none:=I4.free;have u:Un (frs X.stack) (s.heap.objs.size::fp) H H' (s.heap.push (cq [] 0)) s'.heap:=I4.base;have ne:∀b o,s.heap.get? b=some o->b≠s.heap.objs.size/\b≠(s.heap.push (cq [] 0)).objs.size:=λb o e=>by
  have:=AAG e;exact⟨AAO this,by rw[hC];exact AAO (AC5 this)⟩
 have up:∀b o,s.heap.get? b=some o->(s.heap.push (cq [] 0)).get? b=some o:=λb o e=>AA3 _ e
 have nx:∀b o,s.heap.get? b=some o->b∉fp->b∉s.heap.objs.size::fp:=λb o e hx hz=>by
  rcases AAJ.mp hz with q | q
  ·exact(ne b o e).1 q
  ·exact hx q
 refine I.call' (s':={ s' with heap:=h' }) (ch:=fp) I4.os ⟨λb o e n hb hx=>?_,λb o e n hb hx=>?_,λb o e n hx=>?_,λb o e hx=>?_,λb xs e=>?_,λb o w e=>?_,λb ps e=>?_⟩ (λb w q=>?_) I4.bare λb hb=>?_
 ·exact(sb.2 b (ne b o e).2).trans (u.keep b o (up b o e) n hb (nx b o e hx))
 ·obtain⟨sl,z⟩:=u.slot b o (up b o e) n hb (nx b o e hx)
  exact⟨sl,(sb.2 b (ne b o e).2).trans z⟩
 ·rw[af (ne b o e).1]
  exact u.free b o (up b o e) n (nx b o e hx)
 ·obtain⟨o',z⟩:=u.there b o (up b o e) (nx b o e hx)
  exact⟨o',(sb.2 b (ne b o e).2).trans z⟩
 ·have z:=u.tups b xs e
  rw[af (ad z fD')];exact z
 ·have z:=u.frzs b o w e
  rw[af (ad z fD')];exact z
 ·obtain⟨more,z⟩:=u.tbls b ps e
  exact⟨more,by rw[af (ad z fD')];exact z⟩
 ·by_cases hb:b=s.heap.objs.size
  ·subst hb
   rw[aA]at q;cases q
   exact⟨hl,its,k,rv,(sb.2 _ hDC).trans oD'⟩
  ·rw[af hb]at q
   refine(I4.hok b w q).stay (λc v hc r=>(sb.2 c ?_).trans r) (λc z=>by rw[af (ad z fD')];exact z) λc xs z=>by rw[af (ad z fD')];exact z
   rcases hc with rfl | hc
   ·exact ad q fC
   ·exact ad hc fC
 ·obtain⟨_,f1,_,f3,f4,f5⟩:=hf b hb
  exact⟨f3,f1,f4,f5⟩
def yc{elt tg iter:Expr}{ifs:List Expr}{scope:Scope}{pos:Pos}{N':List Str}{cl:List (Str×Addr)}{J:It}{fp:List Addr}{it:Addr}{tn:Nat->Heap->Prop}{g:TG}{tt:TT}{te:TE}{Q:VK}
  {W:Nat->Nat->List V->St->Hp->Prop}{R:Result->Shared->Prop}{s0:Shared}{H0:Hp}{D:Addr} (hc:X.calm=true)
  (hg:PG (blk X N' scope cl s0 H0 (D::fp)) tg g) (ht:PTs (blk X N' scope cl s0 H0 (D::fp)) ifs tt) (he:PE (blk X N' scope cl s0 H0 (D::fp)) elt te)
  (T:Turn X.prog X.w X.K tg J fp it tn) (hDf:D∉fp)
  (turn:∀i m vs τ H,W i m vs τ H->(J.stop i H/\∀p,H p=none->Q (.ref p) (upd H p (.lst vs))) \/
   (J.go i H/\∀x H',J.yld i H x H'->g x τ H' λτ2 H2=>tt τ2 H2 λb H3=>if b=true then te τ2 H3 λy H4=>vs.length<sizeLine/\∃m',m' < m/\W (i+1) m' (vs++[y]) τ2 H4 else ∃m',m' < m/\W (i+1) m' vs τ2 H3))
  (hstat:∀b∈fp,b≠s0.heap.objs.size/\b∉frs X.stack/\∀x c,cl.lookup x=some c->c≠b) (hDC:D≠s0.heap.objs.size) (hDs:D∉frs X.stack) (hDc:∀x c,cl.lookup x=some c->c≠D)
  (fin:∀τ H' s' vs its k,Inv (blk X N' scope cl s0 H0 (D::fp)) [(D,cq its k)] τ H' s'->au vs its->vs.length<=sizeLine->Q (.ref D) (upd H' D (.lst vs))->R (.ok .next) s')
  (m0:Nat) {τ0:St}{s3:Shared}{H3:Hp} (I3:Inv (blk X N' scope cl s0 H0 (D::fp)) [(D,cq [] 0)] τ0 H3 s3) (st3:tn 0 s3.heap) (fr3:∀b∈fp,H3 b=none) (w0:W 0 m0 [] τ0 H3) :
  codeAny (model X.prog X.w) X.A (.compLoop (.ListComp elt [⟨tg,iter,ifs,0⟩] scope pos) 0 (.ref it) (.ref D) (compEnvC scope cl s0.heap.objs.size X.env)) R s3:=by
 have fok:∀{ob:Obj}{H':Hp},(∀b∈fp,H' b=none)->∀b∈fp,wu (blk X N' scope cl s0 H0 (D::fp)) [(D,ob)] H' b:=λ{ob H'} hn b hb=>by
  obtain⟨a1,a2,a3⟩:=hstat b hb;refine⟨hn b hb,a1,a2,.inl (AA9 _ hb),a3,λp hp z=>?_⟩
  have e:p=(D,ob):=by simpa [blk]using hp
  subst e;exact hDf (by rw[show D=b from z];exact hb)
 refine wg (λn s'=>∃i τ H' vs its k,Inv (blk X N' scope cl s0 H0 (D::fp)) [(D,cq its k)] τ H' s'/\tn i s'.heap/\(∀b∈fp,H' b=none)/\au vs its/\vs.length<=sizeLine/\W i n vs τ H')
  (λ_ _=>False) (λ_ _ z=>z.elim) ?_ m0 ⟨0,τ0,H3,[],[],0,I3,st3,fr3,.nil,AAX _,w0⟩
 rintro n s' ⟨i,τ,H',vs,its,k,I',st',fr',rv,hl,w'⟩;rcases turn i n vs τ H' w' with⟨stop,q⟩|⟨go,step⟩
 ·refine thn (T.done (blk X N' scope cl s0 H0 (D::fp)) rfl rfl rfl hc i _ s' τ H' (λ_ _=>False) I' (fok fr') st' stop) λr s4 ⟨hr,I4⟩=>?_
  subst hr;exact fin τ H' s4 vs its k I4 rv hl (q D (I'.pin (D,cq its k) (by simp[blk])).2.1)
 ·refine thn (T.item (blk X N' scope cl s0 H0 (D::fp)) rfl rfl rfl hc i _ s' τ H' (λ_ _=>False) I' (fok fr') st' go) λr s4 ⟨u,hr,h4⟩=>?_
  subst hr;refine thn h4 λ_ s5 ⟨x,H5,I5,r5,y5,st5,fr5⟩=>?_
  have I5':=I5.pinned (fok fr5) (T.obj _ _ st5);refine thn (hg _ s5 τ H5 x u _ I5' r5 (step x H5 y5)) λ_ s6 ⟨τ6,H6,I6,q6⟩=>?_
  refine thn (ht _ s6 τ6 H6 _ I6 q6) λok s7 ⟨H7,I7,q7⟩=>?_
  have memF:∀{b:Addr}{o:Obj},b∈fp->s5.heap.get? b=some o->(b,o)∈(blk X N' scope cl s0 H0 (D::fp)).pn++([(D,cq its k)]++iz fp s5.heap):=λhb e=>AAB _ (AAB _ (fO hb e))
  cases ok with
  | false =>
   obtain⟨m',hm,w7⟩:=(show ∃m',m' < n/\W (i+1) m' vs τ6 H7 from q7);refine⟨m',hm,i+1,τ6,H7,vs,its,k,I7.unpinned,T.keep _ _ _ st5 λb hb o e=>(I7.pin (b,o) (memF hb e)).1,λb hb=>?_,rv,hl,w7⟩
   obtain⟨o,e,_⟩:=T.obj _ _ st5 b hb;exact(I7.pin (b,o) (memF hb e)).2.1
  | true =>
   refine thn (he _ s7 τ6 H7 _ I7 q7) λyv s8 ⟨y,H8,I8,r8,q8⟩=>?_
   obtain⟨hsz,m',hm,w8⟩:=q8;obtain⟨oD,fD,_⟩:=I8.pin (D,cq its k) (AAB _ (AAP _ (by simp)))
   have fD':H8 D=none:=fD;refine append_at (its:=its.toArray) (n:=k) oD (λh9 sb9 o9=>?_) (by rw[AAD,<-rv.length];exact hl)
   have J8:Inv (blk X N' scope cl s0 H0 (D::fp)) (iz fp s5.heap) τ6 H8 s8:=I8.pins_of λp hp=>I8.pin p (AAB _ (AAB _ hp))
   have J9:Inv (blk X N' scope cl s0 H0 (D::fp)) (iz fp s5.heap) τ6 H8 { s8 with heap:=h9 }:=J8.turned (t':=s8.toks) (it:=D) (λb o hb e=>(sb9.2 b hb).trans e) fD' hDC (.inl AAI) hDc λp hp z=>by
    have hp':p∈iz fp s5.heap:=by simpa [blk]using hp
    exact hDf (by rw[<-z];exact(qo hp').1)
   have memG:∀{b:Addr}{o:Obj},b∈fp->s5.heap.get? b=some o->(b,o)∈(blk X N' scope cl s0 H0 (D::fp)).pn++iz fp s5.heap:=λhb e=>AAB _ (fO hb e)
   refine⟨m',hm,i+1,τ6,H8,vs++[y],its++[yv],k+1,J9.pins_of λp hp=>?_,T.keep _ _ _ st5 λb hb o e=>(J9.pin (b,o) (memG hb e)).1,λb hb=>?_,rv.append (.cons r8 .nil),?_,w8⟩
   ·have e:p=(D,cq (its++[yv]) (k+1)):=by simpa using hp
    subst e;refine⟨?_,fD',hDC,hDs,λv z=>by cases z⟩
    rw[show cq (its++[yv]) (k+1)=({ cls:=.type "list",data:=.seq (its.toArray.push yv) (k+1) }:Obj) by rw[List.push_toArray]]
    exact o9
   ·obtain⟨o,e,_⟩:=T.obj _ _ st5 b hb
    exact(J9.pin (b,o) (memG hb e)).2.1
   ·rw[AAA]
    exact hsz
end
section
variable{X:Cx}
theorem pe_lc{elt tg iter:Expr}{ifs:List Expr}{scope:Scope}{pos:Pos}{N':List Str}{nt:Nat}{js:List Nat}{wi:TI}{g:TG}{tt:TT}{te:TE}(B:BlkSc X N' nt js scope)(hc:X.calm=true)(hi:PI X tg iter wi)
  (hg:∀cl s0 H0 ex,PG (blk X N' scope cl s0 H0 ex) tg g) (ht:∀cl s0 H0 ex,PTs (blk X N' scope cl s0 H0 ex) ifs tt) (he:∀cl s0 H0 ex,PE (blk X N' scope cl s0 H0 ex) elt te)
  (hs:∀x,foldedSetIterable iter X.env x=pure x:=by intro _;rfl):PE X (.ListComp elt [⟨tg,iter,ifs,0⟩] scope pos) (tLC nt js wi g tt te):=by
 intro pins s σ H Q I h;rw[eval_ListComp];obtain⟨cl,ecl,hcl1,hcl2⟩:=jr (scope:=scope) (env:=X.env) λp hp hf=>I.ok.has p.1 (B.free p hp hf)
 refine wpAny_comprehension_free (use:=none) rfl hs ecl B.kind B.loc ?_
 refine thn (hi pins s σ H _ I h) λv s1 h1=>thn h1 λitv s2 h2=>?_
 obtain⟨it,fp,tn,J,H2,e,I2,T,st2,f2,W,⟨m0,w0⟩,turn⟩:=h2;subst e;refine AAr (wpAny_newFunctionEnv B.nocell (by intro y hy;simp at hy) (λh1 hns1 hsb1=>?_) B.kind)
 have hfs:∀b∈fp,b<s2.heap.objs.size:=λb hb=>by
  obtain⟨o,e,_⟩:=T.obj _ _ st2 b hb;exact AAG e
 have hC:(s2.heap.push (cq [] 0)).objs.size=s2.heap.objs.size+1:=ABZ ..;have old:∀b o,(s2.heap.push (cq [] 0)).get? b=some o->h1.get? b=some o:=λb o e=>(hsb1.2 b (AAO (AAG e))).trans (AA3 _ e)
 have I3:=I2.blkStart (tk:=s2.toks+([]:List (Str×Value)).length) B hcl1 hcl2 f2 hfs old hns1;have st3:tn 0 h1:=T.keep _ _ _ st2 λb _ o e=>old b o (AA3 _ e)
 have hDf:s2.heap.objs.size∉fp:=λz=>AAn _ (hfs _ z)
 have hDs:s2.heap.objs.size∉frs X.stack:=λz=>by
  rcases AAJ.mp (I2.stkSub _ z)with q | q
  ·exact absurd I2.lt (by rw[<-q];exact AAn _)
  ·exact I2.nofs (AA8 _) q
 have hDC:s2.heap.objs.size≠(s2.heap.push (cq [] 0)).objs.size:=by rw[hC];exact AAO (AB0 _)
 have ltc:∀z c,cl.lookup z=some c->c<s2.heap.objs.size:=λz c e=>by
  obtain⟨v,q⟩:=I2.cell z c (hcl1 z c e);exact q.lt
 have hstat:∀b∈fp,b≠(s2.heap.push (cq [] 0)).objs.size/\b∉frs X.stack/\∀x c,cl.lookup x=some c->c≠b:=λb hb=>by
  refine⟨by rw[hC];exact AAO (AC5 (hfs b hb)),λz=>?_,λx c e=>(f2 b hb).2.2.2.2.1 x c (hcl1 x c e)⟩
  rcases AAJ.mp (I2.stkSub b z)with q | q
  ·exact(f2 b hb).2.1 q
  ·exact(f2 b hb).2.2.1 q
 have loop:codeAny (model X.prog X.w) X.A (.compLoop (.ListComp elt [⟨tg,iter,ifs,0⟩] scope pos) 0 (.ref it) (.ref s2.heap.objs.size) (compEnvC scope cl (s2.heap.push (cq [] 0)).objs.size X.env))
   (compPost (model X.prog X.w) X.A X.xe none (EP X pins σ Q) (.ref s2.heap.objs.size) (s2.heap.push (cq [] 0)).objs.size) { s2 with heap:=h1,toks:=s2.toks+([]:List (Str×Value)).length }:=by
  refine yc (s0:={ s2 with heap:=s2.heap.push (cq [] 0) }) (H0:=H2) (N':=N') (Q:=Q) hc (hg _ _ _ _) (ht _ _ _ _) (he _ _ _ _) T hDf turn hstat hDC hDs (λx c e=>AAO (ltc x c e)) ?_ m0 I3 st3 (λb hb=>(f2 b hb).1) w0
  intro τ H' s' vs its k I4 rv hl q;obtain⟨mm,hn,_⟩:=id I4.loc;exact⟨mm,hn,λh' sb=>⟨.ref s2.heap.objs.size,_,I2.blkEnd f2 I4 rv hl sb,rfl,q⟩⟩
 exact codeAny_compStart_list loop (T.self _ 0 _ _ _ st3 loop)
end
inductive D where
 | non | bl (b:Bool) | int (i:Int) | str (x:Str) | ty (n:String) | tup (ds:List D) | ref (n:Nat)
inductive MO where
 | lst (xs:List D)
 | fz (xs:List D)
 | kl (xs:List D)
 | dct (kvs:List (Str×D))
 | dkt (kvs:List (D×D))
 | dkq (kvs:List (D×D))
 | dkm (kvs:List (D×D))
 | fdc (o:Obj) (kvs:List (Str×D))
 | tb (x:Str) (b:Bool)
abbrev Mem:=List MO
def MO.isL:MO->Bool
 | .dct _=>false
 | .dkt _=>false
 | .dkq _=>false
 | .fdc _ _=>false
 | .dkm _=>false
 | .tb _ _=>false
 | _=>true
def lD(ks:List Str)(vs:List V):List (Key×V):=(ks.zip vs).map λp=>(ACS p.1,p.2)
mutual
inductive Rep(K:AA6)(ρ:List Addr)(H:Hp):D->V->Prop
 | non:Rep K ρ H .non .non
 | bl (b:Bool):Rep K ρ H (.bl b) (.bl b)
 | int (i:Int):Rep K ρ H (.int i) (.int i)
 | str (x:Str):Rep K ρ H (.str x) (.str x)
 | ty (n:String):Rep K ρ H (.ty n) (.ty n)
 | tup {a:Addr}{vs:List V}{ds:List D} (h:SqT K H a vs) (r:Reps K ρ H ds vs):Rep K ρ H (.tup ds) (.ref a)
 | ref {n:Nat}{a:Addr} (h:ρ[n]?=some a):Rep K ρ H (.ref n) (.ref a)
inductive Reps(K:AA6)(ρ:List Addr)(H:Hp):List D->List V->Prop
 | nil:Reps K ρ H [] []
 | cons {d:D}{v:V}{ds:List D}{vs:List V} (h:Rep K ρ H d v) (t:Reps K ρ H ds vs):Reps K ρ H (d::ds) (v::vs)
end
def KList(K:AA6)(a:Addr)(xs:List V):Prop :=
 ∃(o:Obj) (its:Array Value) (n:Nat),K.lookup a=some o/\o.cls=.type "list"/\o.dict=none/\o.data=.seq its n/\its.size<=sizeLine/\au xs its.toList
def cw:Nat->D->Bool
 | _,.str _=>true
 | _,.int _=>true
 | n+1,.tup ds=>ds.all (cw n)
 | _,_=>false
def hkD(w:World):Nat->D->Int
 | _,.str x=>hashStr w x
 | _,.int i=>hashInt i
 | n+1,.tup ds=>reduceHash (ABQ (ds.map (hkD w n)))
 | _,_=>0
def dX(a:Addr)(xs:List (D×Addr×Value)):Program->World->Heap->Prop:=λ_ w h =>
 ∃(o:Obj) (es:Array DictEntry),h.get? a=some o/\o.ExactDict/\o.data=.dict es xs.length/\es.toList=xs.map λx=>⟨hkD w 8 x.1,.ref x.2.1,x.2.2⟩
def dQ(a:Addr)(e:Nat)(xs:List (D×Addr×Value)):Program->World->Heap->Prop:=λ_ w h =>
 ∃(o:Obj) (es:Array DictEntry),h.get? a=some o/\o.ExactDict/\o.data=.dict es e/\es.toList=xs.map λx=>⟨hkD w 8 x.1,.ref x.2.1,x.2.2⟩
def oW:D->Bool
 | .non=>true
 | .tup ks=>cw 8 (.tup ks)
 | _=>false
def hkM(w:World):D->Int
 | .non=>reduceHash 0xFCA86420
 | d=>hkD w 8 d
def oO(hs:D->Int)(x:D×Value×Value):DictEntry:=⟨hs x.1,x.2.1,x.2.2⟩
def dM(a:Addr)(xs:List (D×Value×Value)):Program->World->Heap->Prop:=λ_ w h =>
 ∃(o:Obj) (es:Array DictEntry),h.get? a=some o/\o.ExactDict/\o.data=.dict es xs.length/\es.toList=xs.map (oO (hkM w))
def KvM(K:AA6)(ρ:List Addr)(H:Hp)(p:D×D)(q:D×Value×Value):Prop:=p.1=q.1/\oW p.1=true/\(∃u,Rep K ρ H p.1 u/\aI u q.2.1)/\∃v,Rep K ρ H p.2 v/\aI v q.2.2
def tp(K:AA6)(ρ:List Addr)(H:Hp)(p:D×D)(q:D×Addr×Value):Prop:=p.1=q.1/\cw 8 p.1=true/\Rep K ρ H p.1 (.ref q.2.1)/\∃v,Rep K ρ H p.2 v/\aI v q.2.2
def wz(K:AA6)(ρ:List Addr)(H:Hp)(a:Addr):MO->Prop
 | .lst ds=>∃vs,H a=some (.lst vs)/\Reps K ρ H ds vs
 | .fz ds=>∃o vs,H a=some (.frz o (.lst vs))/\Reps K ρ H ds vs
 | .kl ds=>∃vs,KList K a vs/\Reps K ρ H ds vs
 | .dct kvs=>∃vs,H a=some (.dK (lD (kvs.map (·.1)) vs))/\Reps K ρ H (kvs.map (·.2)) vs
 | .dkt kvs=>kvs.length<=sizeLine/\(a==sysModules)=false/\(kvs.map (·.1)).Nodup/\∃xs,H a=some (.ext (dX a xs))/\Paired (tp K ρ H) kvs xs
 | .dkq kvs=>kvs.length<=sizeLine/\(a==sysModules)=false/\(kvs.map (·.1)).Nodup/\∃xs,(∃e,H a=some (.ext (dQ a e xs)))/\Paired (tp K ρ H) kvs xs
 | .dkm kvs=>kvs.length<=sizeLine/\(a==sysModules)=false/\(kvs.map (·.1)).Nodup/\∃xs,H a=some (.ext (dM a xs))/\Paired (KvM K ρ H) kvs xs
 | .fdc o kvs=>∃vs,H a=some (.frz o (.dK (lD (kvs.map (·.1)) vs)))/\Reps K ρ H (kvs.map (·.2)) vs
 | .tb x b=>(∃c,PySem.W.tabIn K x=some (c,a)/\∀h:Heap,K.In h->PySem.W.CodeHd h c a)/\∃ps,H a=some (.tbl ps)/\(b=false->ps = #[])
def isK(mo:Option MO):Prop:=∃ds,mo=some (.kl ds)
def ak(M:Mem)(n:Nat)(xs:List D):Prop:=M[n]?=some (.lst xs)\/M[n]?=some (.fz xs)\/M[n]?=some (.kl xs)
structure Sim(K:AA6)(ρ:List Addr)(M:Mem)(H:Hp):Prop where
 nd:∀(n m:Nat) (a:Addr),n≠m->ρ[n]?=some a->ρ[m]?=some a->isK M[n]?\/isK M[m]?
 len:ρ.length=M.length
 obj:∀(n:Nat) (a:Addr) (mo:MO),ρ[n]?=some a->M[n]?=some mo->wz K ρ H a mo
structure Grow(K:AA6)(ρ:List Addr)(H:Hp)(ρ':List Addr)(H':Hp):Prop where
 pre:ρ <+: ρ'
 tup:∀a xs,SqT K H a xs->SqT K H' a xs
def Grow.refl{K:AA6}{ρ:List Addr}{H:Hp}:Grow K ρ H ρ H:=⟨ACn,λ_ _ h=>h⟩
def Grow.trans{K:AA6}{ρ ρ1 ρ2:List Addr}{H H1 H2:Hp}(a:Grow K ρ H ρ1 H1)(b:Grow K ρ1 H1 ρ2 H2):Grow K ρ H ρ2 H2:=⟨a.pre.trans b.pre,λx xs h=>b.tup x xs (a.tup x xs h)⟩
def am{α:Type}{l l':List α}(h:l <+: l'){n:Nat}{a:α}(e:l[n]?=some a):l'[n]?=some a:=by
 obtain⟨t,rfl⟩:=h;rw[AAT (AA7.mp e).1];exact e
mutual
def Rep.grow{K:AA6}{ρ ρ':List Addr}{H H':Hp}(g:Grow K ρ H ρ' H'):∀{d:D}{v:V},Rep K ρ H d v->Rep K ρ' H' d v
 | _,_,.non=>.non
 | _,_,.bl b=>.bl b
 | _,_,.int i=>.int i
 | _,_,.str x=>.str x
 | _,_,.ty n=>.ty n
 | _,_,.tup h r=>.tup (g.tup _ _ h) (Reps.grow g r)
 | _,_,.ref h=>.ref (am g.pre h)
def Reps.grow{K:AA6}{ρ ρ':List Addr}{H H':Hp}(g:Grow K ρ H ρ' H'):∀{ds:List D}{vs:List V},Reps K ρ H ds vs->Reps K ρ' H' ds vs
 | _,_,.nil=>.nil
 | _,_,.cons h t=>.cons (Rep.grow g h) (Reps.grow g t)
end
section
variable{K:AA6}{ρ ρ':List Addr}{H H':Hp}{M:Mem}
def Reps.length:∀{ds:List D}{vs:List V},Reps K ρ H ds vs->ds.length=vs.length
 | _,_,.nil=>rfl
 | _,_,.cons _ t=>by rw[AAN,AAN,Reps.length t]
def Reps.append:∀{ds es:List D}{vs ws:List V},Reps K ρ H ds vs->Reps K ρ H es ws->Reps K ρ H (ds++es) (vs++ws)
 | _,_,_,_,.nil,s=>s
 | _,_,_,_,.cons r t,s=>.cons r (Reps.append t s)
def Reps.get:∀{ds:List D}{vs:List V}{i:Nat}{d:D},Reps K ρ H ds vs->ds[i]?=some d->∃v,vs[i]?=some v/\Rep K ρ H d v
 | _,_,_,_,.nil,e=>by simp at e
 | _,_,0,_,.cons r _,e=>by simp at e;subst e;exact⟨_,rfl,r⟩
 | _,_,i+1,d,.cons _ t,e=>by
  obtain⟨v,h1,h2⟩:=Reps.get (i:=i) (d:=d) t (by simpa using e)
  exact⟨v,by simpa using h1,h2⟩
def Reps.getV:∀{ds:List D}{vs:List V}{i:Nat}{v:V},Reps K ρ H ds vs->vs[i]?=some v->∃d,ds[i]?=some d/\Rep K ρ H d v
 | _,_,_,_,.nil,e=>by simp at e
 | _,_,0,_,.cons r _,e=>by simp at e;subst e;exact⟨_,rfl,r⟩
 | _,_,i+1,d,.cons _ t,e=>by
  obtain⟨v,h1,h2⟩:=Reps.getV (i:=i) (v:=d) t (by simpa using e)
  exact⟨v,by simpa using h1,h2⟩
def Reps.take:∀{ds:List D}{vs:List V} (n:Nat),Reps K ρ H ds vs->Reps K ρ H (ds.take n) (vs.take n)
 | _,_,0,_=>by simpa using .nil
 | _,_,_+1,.nil=>.nil
 | _,_,n+1,.cons r t=>.cons r (Reps.take n t)
def Reps.drop:∀{ds:List D}{vs:List V} (n:Nat),Reps K ρ H ds vs->Reps K ρ H (ds.drop n) (vs.drop n)
 | _,_,0,r=>r
 | _,_,_+1,.nil=>.nil
 | _,_,n+1,.cons _ t=>Reps.drop n t
def SqT.laid(hp:H p=none)(h:SqT K H a xs):SqT K (upd H p o) a xs:=by
 rcases h with h | h
 ·rcases h with h | ⟨ob,h⟩
  ·exact .inl (.inl (by rw[af (ad h hp)];exact h))
  ·exact .inl (.inr ⟨ob,by rw[af (ad h hp)];exact h⟩)
 ·exact .inr h
def SqT.written(hp:H p=some (.lst vs))(h:SqT K H a xs):SqT K (upd H p o) a xs:=by
 rcases h with h | h
 ·rcases h with h | ⟨ob,h⟩
  ·exact .inl (.inl (by rw[af (Am h hp (by intro z;cases z))];exact h))
  ·exact .inl (.inr ⟨ob,by rw[af (Am h hp (by intro z;cases z))];exact h⟩)
 ·exact .inr h
def Grow.laid(hp:H p=none):Grow K ρ H ρ (upd H p o):=⟨ACn,λ_ _ h=>SqT.laid hp h⟩
def Grow.laidR(hp:H p=none):Grow K ρ H (ρ++[p]) (upd H p o):=⟨AAl _ _,λ_ _ h=>SqT.laid hp h⟩
def Sim.tracked(S:Sim K ρ M H){n:Nat}{a:Addr}(e:ρ[n]?=some a):(∃o,H a=some o)\/isK M[n]?:=by
 have hn:n<M.length:=by rw[<-S.len];exact(AA7.mp e).1
 have hm:M[n]?=some M[n]:=AA5 hn;have h:=S.obj n a _ e hm;rw[hm];cases hmo:M[n] with
 | lst ds=>rw[hmo]at h;obtain⟨vs,h,_⟩:=h;exact .inl ⟨_,h⟩
 | fz ds=>rw[hmo]at h;obtain⟨o,vs,h,_⟩:=h;exact .inl ⟨_,h⟩
 | kl ds=>exact .inr ⟨ds,rfl⟩
 | dct kvs=>rw[hmo]at h;obtain⟨vs,h,_⟩:=h;exact .inl ⟨_,h⟩
 | dkt kvs=>rw[hmo]at h;obtain⟨_,_,_,xs,h,_⟩:=h;exact .inl ⟨_,h⟩
 | dkq kvs=>rw[hmo]at h;obtain⟨_,_,_,xs,⟨_,h⟩,_⟩:=h;exact .inl ⟨_,h⟩
 | fdc o kvs=>rw[hmo]at h;obtain⟨vs,h,_⟩:=h;exact .inl ⟨_,h⟩
 | dkm kvs=>rw[hmo]at h;obtain⟨_,_,_,xs,h,_⟩:=h;exact .inl ⟨_,h⟩
 | tb x b=>rw[hmo]at h;obtain⟨_,ps,h,_⟩:=h;exact .inl ⟨_,h⟩
def wz.grow(g:Grow K ρ H ρ' H')(hs:H' a=H a\/isK (some mo))(h:wz K ρ H a mo):wz K ρ' H' a mo:=by
 cases mo with
 | lst ds =>
  obtain⟨vs,e,r⟩:=h;rcases hs with hs | ⟨_,z⟩
  ·exact⟨vs,by rw[hs];exact e,r.grow g⟩
  ·cases z
 | fz ds =>
  obtain⟨o,vs,e,r⟩:=h;rcases hs with hs | ⟨_,z⟩
  ·exact⟨o,vs,by rw[hs];exact e,r.grow g⟩
  ·cases z
 | fdc o kvs =>
  obtain⟨vs,e,r⟩:=h;rcases hs with hs | ⟨_,z⟩
  ·exact⟨vs,by rw[hs];exact e,r.grow g⟩
  ·cases z
 | tb x b =>
  obtain⟨c,ps,e,q⟩:=h;rcases hs with hs | ⟨_,z⟩
  ·exact⟨c,ps,by rw[hs];exact e,q⟩
  ·cases z
 | kl ds=>obtain⟨vs,e,r⟩:=h;exact⟨vs,e,r.grow g⟩
 | dkm kvs =>
  obtain⟨h1,h2,h3,xs,e,r⟩:=h;rcases hs with hs | ⟨_,z⟩
  ·exact⟨h1,h2,h3,xs,by rw[hs];exact e,Paired.mapP r λ_ _ ⟨q1,q2,⟨u,q3,q3'⟩,v,q4,q5⟩=>⟨q1,q2,⟨u,q3.grow g,q3'⟩,v,q4.grow g,q5⟩⟩
  ·cases z
 | dct kvs =>
  obtain⟨vs,e,r⟩:=h;rcases hs with hs | ⟨_,z⟩
  ·exact⟨vs,by rw[hs];exact e,r.grow g⟩
  ·cases z
 | dkt kvs =>
  obtain⟨h1,h2,h3,xs,e,r⟩:=h;rcases hs with hs | ⟨_,z⟩
  ·exact⟨h1,h2,h3,xs,by rw[hs];exact e,Paired.mapP r λ_ _ ⟨q1,q2,q3,v,q4,q5⟩=>⟨q1,q2,q3.grow g,v,q4.grow g,q5⟩⟩
  ·cases z
 | dkq kvs =>
  obtain⟨h1,h2,h3,xs,e,r⟩:=h;rcases hs with hs | ⟨_,z⟩
  ·exact⟨h1,h2,h3,xs,by rw[hs];exact e,Paired.mapP r λ_ _ ⟨q1,q2,q3,v,q4,q5⟩=>⟨q1,q2,q3.grow g,v,q4.grow g,q5⟩⟩
  ·cases z
def Sim.keeps{p:Addr}{o:HO}(S:Sim K ρ M H)(hp:H p=none){n:Nat}{a:Addr}{mo:MO}(e1:ρ[n]?=some a)(e2:M[n]?=some mo):upd H p o a=H a\/isK (some mo):=by
 rcases S.tracked e1 with⟨ob,hob⟩ | q
 ·exact .inl (af (ad hob hp))
 ·rw[e2]at q
  exact .inr q
def Sim.laid{p:Addr}{o:HO}(S:Sim K ρ M H)(hp:H p=none):Sim K ρ M (upd H p o) :=
 ⟨S.nd,S.len,λn a mo e1 e2=>(S.obj n a mo e1 e2).grow (Grow.laid hp) (S.keeps hp e1 e2)⟩
def aR{α:Type}{l:List α}{x y:α}{n:Nat}(h:(l++[x])[n]?=some y):l[n]?=some y\/(n=l.length/\y=x):=by
 by_cases hn:n<l.length
 ·rw[AAT hn]at h
  exact .inl h
 ·have hn':n=l.length:=by
   have:=(AA7.mp h).1;rw[AAA,AAb]at this;lia
  subst hn';rw[AAe (AA8 _),ADE]at h;simp at h;exact .inr ⟨rfl,h.symm⟩
def isK.more{mo:MO}{n:Nat}(h:isK M[n]?):isK (M++[mo])[n]?:=by
 obtain⟨ds,e⟩:=h;exact⟨ds,by rw[AAT (AA7.mp e).1];exact e⟩
def Sim.laidL{p:Addr}{ds:List D}{vs:List V}(S:Sim K ρ M H)(hp:H p=none)(r:Reps K ρ H ds vs):Sim K (ρ++[p]) (M++[.lst ds]) (upd H p (.lst vs)):=by
 have g:Grow K ρ H (ρ++[p]) (upd H p (.lst vs)):=Grow.laidR hp;have old:∀(n:Nat),ρ[n]?=some p->isK M[n]?:=λn e=>by
  rcases S.tracked e with⟨o,q⟩ | q
  ·rw[hp]at q;cases q
  ·exact q
 refine⟨λn m a hnm e1 e2=>?_,by rw[AAA,AAA,S.len];rfl,λn a mo e1 e2=>?_⟩
 ·rcases aR e1 with f1 | ⟨f1,g1⟩
  ·rcases aR e2 with f2 | ⟨f2,g2⟩
   ·exact(S.nd n m a hnm f1 f2).elim (λz=>.inl z.more) λz=>.inr z.more
   ·subst g2
    exact .inl (old n f1).more
  ·rcases aR e2 with f2 | ⟨f2,g2⟩
   ·subst g1
    exact .inr (old m f2).more
   ·exact absurd (f1.trans f2.symm) hnm
 ·rcases aR e1 with f1 | ⟨f1,g1⟩
  ·have hn:n<M.length:=by rw[<-S.len];exact(AA7.mp f1).1
   rw[AAT hn]at e2;exact(S.obj n a mo f1 e2).grow g (S.keeps hp f1 e2)
  ·subst g1 f1
   rw[S.len,AAe (AA8 _),ADE]at e2;simp at e2;subst e2;exact⟨vs,aA,r.grow g⟩
def Sim.last(S:Sim K ρ M H):(ρ++[p])[M.length]?=some p:=by
 rw[<-S.len,AAe (AA8 _),ADE];rfl
def Sim.write(S:Sim K ρ M H)(e1:ρ[n]?=some a)(hM:M[n]?=some (.lst ds))(hH:H a=some (.lst vs))(r:Reps K ρ H ds' vs') :
  Sim K ρ (M.set n (.lst ds')) (upd H a (.lst vs'))/\Grow K ρ H ρ (upd H a (.lst vs')):=by
 have g:Grow K ρ H ρ (upd H a (.lst vs')):=⟨ACn,λ_ _ h=>SqT.written hH h⟩
 have hk:∀m,m≠n->(M.set n (.lst ds'))[m]?=M[m]?:=λm hm=>AAv (ABO hm)
 have notK:¬isK M[n]?:=λ⟨_,z⟩=>by rw[hM]at z;cases z
 refine⟨⟨λm m' b hne f1 f2=>?_,by rw[AB1];exact S.len,λm b mo f1 f2=>?_⟩,g⟩
 ·have q:=S.nd m m' b hne f1 f2
  by_cases h1:m=n
  ·subst h1
   rw[hk m' (ABO hne)];exact .inr (q.resolve_left notK)
  ·rw[hk m h1]
   by_cases h2:m'=n
   ·subst h2
    exact .inl (q.resolve_right notK)
   ·rw[hk m' h2]
    exact q
 by_cases hm:m=n
 ·subst hm
  have hb:b=a:=AAR (f1.symm.trans e1);subst hb;rw[AAx (by rw[<-S.len];exact(AA7.mp e1).1)]at f2
  cases f2
  exact⟨vs',aA,r.grow g⟩
 ·rw[hk m hm]at f2
  by_cases hb:b=a
  ·subst hb
   have q:=S.nd m n b hm f1 e1;have q':=q.resolve_right notK;rw[f2]at q';exact(S.obj m b mo f1 f2).grow g (.inr q')
  ·exact(S.obj m b mo f1 f2).grow g (.inl (af hb))
def ak.seq(S:Sim K ρ M H)(h:ak M n xs)(e:ρ[n]?=some a):∃vs,SqL K H a vs/\Reps K ρ H xs vs:=by
 rcases h with h | h | h
 ·obtain⟨vs,q,r⟩:=S.obj n a _ e h
  exact⟨vs,.inl (.inl q),r⟩
 ·obtain⟨o,vs,q,r⟩:=S.obj n a _ e h
  exact⟨vs,.inl (.inr ⟨o,q⟩),r⟩
 ·obtain⟨vs,q,r⟩:=S.obj n a _ e h
  exact⟨vs,.inr q,r⟩
def Sim.get(S:Sim K ρ M H){n:Nat}{mo:MO}(e:M[n]?=some mo):∃a,ρ[n]?=some a/\wz K ρ H a mo:=by
 have hn:n<ρ.length:=by rw[S.len];exact(AA7.mp e).1
 exact⟨ρ[n],AA5 hn,S.obj n _ mo (AA5 hn) e⟩
end
abbrev SD:=List (Option D)
structure SRep(K:AA6)(ρ:List Addr)(H:Hp)(S:SD)(σ:St):Prop where
 len:S.length=σ.length
 get:∀(i:Nat) (d:D),S[i]?=some (some d)->∃v,σ[i]?=some (some v)/\Rep K ρ H d v
def SRep.grow{K:AA6}{ρ ρ':List Addr}{H H':Hp}{S:SD}{σ:St}(r:SRep K ρ H S σ)(g:Grow K ρ H ρ' H'):SRep K ρ' H' S σ :=
 ⟨r.len,λi d e=>let ⟨v,h1,h2⟩:=r.get i d e;⟨v,h1,h2.grow g⟩⟩
def SRep.set{K:AA6}{ρ:List Addr}{H:Hp}{S:SD}{σ:St}(r:SRep K ρ H S σ)(i:Nat){d:D}{v:V}(h:Rep K ρ H d v):SRep K ρ H (S.set i (some d)) (σ.set i (some v)):=by
 refine⟨by rw[AB1,AB1];exact r.len,λj e hj=>?_⟩
 by_cases hij:i=j
 ·subst hij
  by_cases hl:i<S.length
  ·rw[AAx hl]at hj
   cases hj
   exact⟨v,by rw[AAx (by rw[<-r.len];exact hl)],h⟩
  ·rw[ABW (by rw[AB1];lia)]at hj
   cases hj
 ·rw[AAv hij]at hj
  rw[AAv hij];exact r.get j e hj
abbrev DK:=D->Mem->Prop
abbrev DTE:=SD->Mem->DK->Prop
abbrev DTT:=SD->Mem->(Bool->Mem->Prop)->Prop
abbrev DTA:=SD->Mem->(List D->Mem->Prop)->Prop
structure DEnds where
 nx:SD->Mem->Prop
 rt:DK
 bk:SD->Mem->Prop:=λ_ _=>False
 ct:SD->Mem->Prop:=λ_ _=>False
abbrev DTS:=DEnds->SD->Mem->Prop
abbrev DTG:=D->SD->Mem->(SD->Mem->Prop)->Prop
abbrev Ct:=List D->SD->Mem->(SD->Mem->Prop)->Prop
abbrev DR2:=D->D->Mem->DK->Prop
abbrev DR1:=D->Mem->DK->Prop
abbrev DRA:=List D->Mem->DK->Prop
section
variable(K:AA6)
inductive VQ(ρ:List Addr)(H:Hp)(Q:DK)(v:V)(H':Hp):Prop
 | mk (d:D) (M':Mem) (ρ':List Addr) (s:Sim K ρ' M' H') (g:Grow K ρ H ρ' H') (r:Rep K ρ' H' d v) (q:Q d M')
inductive BQ(ρ:List Addr)(H:Hp)(Q:Bool->Mem->Prop)(b:Bool)(H':Hp):Prop
 | mk (M':Mem) (ρ':List Addr) (s:Sim K ρ' M' H') (g:Grow K ρ H ρ' H') (q:Q b M')
inductive AQ(ρ:List Addr)(H:Hp)(Q:List D->Mem->Prop)(vs:List V)(H':Hp):Prop
 | mk (ds:List D) (M':Mem) (ρ':List Addr) (s:Sim K ρ' M' H') (g:Grow K ρ H ρ' H') (r:Reps K ρ' H' ds vs) (q:Q ds M')
inductive SQ(ρ:List Addr)(H:Hp)(Q:SD->Mem->Prop)(σ':St)(H':Hp):Prop
 | mk (S':SD) (M':Mem) (ρ':List Addr) (s:Sim K ρ' M' H') (g:Grow K ρ H ρ' H') (r:SRep K ρ' H' S' σ') (q:Q S' M')
structure Ups(ρ:List Addr)(H:Hp)(F:DEnds)(E:Ends):Prop where
 nx:∀σ' H',SQ K ρ H F.nx σ' H'->E.nx σ' H'
 rt:∀v H',VQ K ρ H F.rt v H'->E.rt v H'
 bk:∀σ' H',SQ K ρ H F.bk σ' H'->E.bk σ' H'
 ct:∀σ' H',SQ K ρ H F.ct σ' H'->E.ct σ' H'
inductive lowE(t:DTE)(σ:St)(H:Hp)(R:VK):Prop
 | mk (S:SD) (M:Mem) (ρ:List Addr) (Q:DK) (s:Sim K ρ M H) (sr:SRep K ρ H S σ) (q:t S M Q) (k:∀v H',VQ K ρ H Q v H'->R v H')
inductive lowT(t:DTT)(σ:St)(H:Hp)(R:Bool->Hp->Prop):Prop
 | mk (S:SD) (M:Mem) (ρ:List Addr) (Q:Bool->Mem->Prop) (s:Sim K ρ M H) (sr:SRep K ρ H S σ) (q:t S M Q) (k:∀v H',BQ K ρ H Q v H'->R v H')
inductive lowA(t:DTA)(σ:St)(H:Hp)(R:List V->Hp->Prop):Prop
 | mk (S:SD) (M:Mem) (ρ:List Addr) (Q:List D->Mem->Prop) (s:Sim K ρ M H) (sr:SRep K ρ H S σ) (q:t S M Q) (k:∀v H',AQ K ρ H Q v H'->R v H')
inductive lowS(t:DTS)(E:Ends)(σ:St)(H:Hp):Prop
 | mk (S:SD) (M:Mem) (ρ:List Addr) (F:DEnds) (s:Sim K ρ M H) (sr:SRep K ρ H S σ) (q:t F S M) (k:Ups K ρ H F E)
inductive lowG(g:DTG)(v:V)(σ:St)(H:Hp)(R:St->Hp->Prop):Prop
 | mk (d:D) (S:SD) (M:Mem) (ρ:List Addr) (Q:SD->Mem->Prop) (s:Sim K ρ M H) (sr:SRep K ρ H S σ) (r:Rep K ρ H d v) (q:g d S M Q) (k:∀σ' H',SQ K ρ H Q σ' H'->R σ' H')
inductive lowGs(g:Ct)(vs:List V)(σ:St)(H:Hp)(R:St->Hp->Prop):Prop
 | mk (ds:List D) (S:SD) (M:Mem) (ρ:List Addr) (Q:SD->Mem->Prop) (s:Sim K ρ M H) (sr:SRep K ρ H S σ) (r:Reps K ρ H ds vs) (q:g ds S M Q) (k:∀σ' H',SQ K ρ H Q σ' H'->R σ' H')
inductive lowR(r:DR2)(vx vy:V)(H:Hp)(R:VK):Prop
 | mk (x y:D) (M:Mem) (ρ:List Addr) (Q:DK) (s:Sim K ρ M H) (r1:Rep K ρ H x vx) (r2:Rep K ρ H y vy) (q:r x y M Q) (k:∀v H',VQ K ρ H Q v H'->R v H')
inductive lowU(r:DR1)(vx:V)(H:Hp)(R:VK):Prop
 | mk (x:D) (M:Mem) (ρ:List Addr) (Q:DK) (s:Sim K ρ M H) (r1:Rep K ρ H x vx) (q:r x M Q) (k:∀v H',VQ K ρ H Q v H'->R v H')
inductive lowC(r:DRA)(vs:List V)(H:Hp)(R:VK):Prop
 | mk (ds:List D) (M:Mem) (ρ:List Addr) (Q:DK) (s:Sim K ρ M H) (r1:Reps K ρ H ds vs) (q:r ds M Q) (k:∀v H',VQ K ρ H Q v H'->R v H')
end
def DE(X:Cx)(e:Expr)(t:DTE):Prop:=PE X e (lowE X.K t)
def DT(X:Cx)(e:Expr)(t:DTT):Prop:=PT X e (lowT X.K t)
def DW(X:Cx)(e:Expr)(t:DTT):Prop:=PW X e (lowT X.K t)
def DA(X:Cx)(es:List Expr)(t:DTA):Prop:=PA X es (lowA X.K t)
def DS(X:Cx)(st:Stmt)(t:DTS):Prop:=PS X st (lowS X.K t)
def DSs(X:Cx)(st:List Stmt)(t:DTS):Prop:=PSs X st (lowS X.K t)
def DG(X:Cx)(tg:Expr)(g:DTG):Prop:=PG X tg (lowG X.K g)
def DGs(X:Cx)(tg:List Expr)(g:Ct):Prop:=PGs X tg (lowGs X.K g)
def OpD(X:Cx)(f:Value->Value->Sem Value)(r:DR2):Prop:=OpR X f (lowR X.K r)
def UnD(X:Cx)(f:Value->Sem Value)(r:DR1):Prop:=UnR X f (lowU X.K r)
def jC(X:Cx)(f:Value)(r:DRA):Prop:=hW X f (lowC X.K r)
section
variable{K:AA6}{ρ ρ1:List Addr}{H H1:Hp}
def VQ.trans(g:Grow K ρ H ρ1 H1)(h:VQ K ρ1 H1 Q v H'):VQ K ρ H Q v H':=by
 obtain⟨d,M',ρ',s,g',r,q⟩:=h;exact⟨d,M',ρ',s,g.trans g',r,q⟩
def BQ.trans(g:Grow K ρ H ρ1 H1)(h:BQ K ρ1 H1 Q v H'):BQ K ρ H Q v H':=by
 obtain⟨M',ρ',s,g',q⟩:=h;exact⟨M',ρ',s,g.trans g',q⟩
def SQ.trans(g:Grow K ρ H ρ1 H1)(h:SQ K ρ1 H1 Q v H'):SQ K ρ H Q v H':=by
 obtain⟨d,M',ρ',s,g',r,q⟩:=h;exact⟨d,M',ρ',s,g.trans g',r,q⟩
def Ups.trans(g:Grow K ρ H ρ1 H1)(h:Ups K ρ H F E):Ups K ρ1 H1 F E :=
 ⟨λσ' H' q=>h.nx σ' H' (SQ.trans g q),λv H' q=>h.rt v H' (VQ.trans g q),λσ' H' q=>h.bk σ' H' (SQ.trans g q),λσ' H' q=>h.ct σ' H' (SQ.trans g q)⟩
def VQ.now(s:Sim K ρ M H)(r:Rep K ρ H d v)(q:Q d M):VQ K ρ H Q v H:=⟨d,M,ρ,s,.refl,r,q⟩
end
section
variable{K:AA6}{ρ:List Addr}{H:Hp}{v:V}{vs:List V}
def Rep.inv_non(h:Rep K ρ H .non v):v=.non:=by cases h;rfl
def Rep.inv_bl(h:Rep K ρ H (.bl b) v):v=.bl b:=by cases h;rfl
def Rep.inv_int(h:Rep K ρ H (.int i) v):v=.int i:=by cases h;rfl
def Rep.inv_str(h:Rep K ρ H (.str x) v):v=.str x:=by cases h;rfl
def Rep.inv_ty(h:Rep K ρ H (.ty n) v):v=.ty n:=by cases h;rfl
def Rep.inv_tup(h:Rep K ρ H (.tup ds) v):∃a vs,v=.ref a/\SqT K H a vs/\Reps K ρ H ds vs:=by cases h with | tup h r=>exact⟨_,_,rfl,h,r⟩
def Rep.inv_ref(h:Rep K ρ H (.ref n) v):∃a,v=.ref a/\ρ[n]?=some a:=by cases h with | ref h=>exact⟨_,rfl,h⟩
def au.inv_cons(h:au (x::vs) us):∃u ws,us=u::ws/\aI x u/\au vs ws:=by cases h with | cons h t=>exact⟨_,_,rfl,h,t⟩
def au.inv_nil(h:au [] us):us=[]:=by cases h;rfl
def Reps.inv_nil(h:Reps K ρ H [] vs):vs=[]:=by cases h;rfl
def Reps.inv_cons(h:Reps K ρ H (d::ds) vs):∃v ws,vs=v::ws/\Rep K ρ H d v/\Reps K ρ H ds ws:=by cases h with | cons h t=>exact⟨_,_,rfl,h,t⟩
end
def PE.imp(h:PE X e t')(i:∀σ H R,t σ H R->t' σ H R):PE X e t:=λpins s σ H R I q=>h pins s σ H R I (i σ H R q)
def PT.imp(h:PT X e t')(i:∀σ H R,t σ H R->t' σ H R):PT X e t:=λpins s σ H R I q=>h pins s σ H R I (i σ H R q)
def PW.imp(h:PW X e t')(i:∀σ H R,t σ H R->t' σ H R):PW X e t:=λw pins s σ H R I q=>h w pins s σ H R I (i σ H R q)
def PA.imp(h:PA X e t')(i:∀σ H R,t σ H R->t' σ H R):PA X e t:=λpos pins s σ H R I q=>h pos pins s σ H R I (i σ H R q)
def PS.imp(h:PS X e t')(i:∀E σ H,t E σ H->t' E σ H):PS X e t:=λpins s σ H R I q=>h pins s σ H R I (i R σ H q)
def PSs.imp(h:PSs X e t')(i:∀E σ H,t E σ H->t' E σ H):PSs X e t:=λpins s σ H R I q=>h pins s σ H R I (i R σ H q)
def OpR.imp(h:OpR X f r')(i:∀x y H R,r x y H R->r' x y H R):OpR X f r:=λpins s σ H x y v u R I a b q=>h pins s σ H x y v u R I a b (i x y H R q)
def hW.imp(h:hW X f r')(i:∀xs H R,r xs H R->r' xs H R):hW X f r:=λpins s σ H xs us R I a q=>h pins s σ H xs us R I a (i xs H R q)
section
variable{X:Cx}{a b c:Expr}{ta tb tc:DTE}{pos:Pos}
def ab(i:Nat):DTE:=λS M Q=>match S[i]? with
 | some (some d)=>Q d M
 | _=>False
def dC(d:D):DTE:=λ_ M Q=>Q d M
def As{K:AA6}{i:Nat}(σ:St)(H:Hp)(R:VK)(h:lowE K (ab i) σ H R):tVar i σ H R:=by
 obtain⟨S,M,ρ,Q,s,r,q,k⟩:=h;unfold ab at q;cases e:S[i]? with
 | none=>rw[e]at q;exact q.elim
 | some o =>
  cases o with
  | none=>rw[e]at q;exact q.elim
  | some d =>
   rw[e]at q;obtain⟨v,hv,rv⟩:=r.get i d e;exact⟨v,hv,k v H (VQ.now s rv q)⟩
def d_var(hN:X.N[i]?=some x:=by rfl)(hv:Vis X.env.scope x:=by first | exact Or.inl rfl | exact Or.inr (Or.inl rfl) | exact Or.inr (Or.inr rfl))(hd:(x==("__debug__":Str))=false:=by decide)
  (hcd:(x==("__classdict__":Str))=false:=by decide):DE X (.Name x pos) (ab i):=PE.imp (Bx hN hv hd hcd) As
def cV:D->Option V
 | .non=>some .non
 | .bl b=>some (.bl b)
 | .int i=>some (.int i)
 | .str x=>some (.str x)
 | .ty n=>some (.ty n)
 | _=>none
def zm{K:AA6}{ρ:List Addr}{H:Hp}{d:D}{v:V}(h:cV d=some v):Rep K ρ H d v:=by
 cases d with
 | non=>cases h;exact .non
 | bl b=>cases h;exact .bl b
 | int b=>cases h;exact .int b
 | str b=>cases h;exact .str b
 | ty b=>cases h;exact .ty b
 | tup b=>cases h
 | ref b=>cases h
def ut{K:AA6}{d:D}{v:V}(hd:cV d=some v)(σ:St)(H:Hp)(R:VK)(h:lowE K (dC d) σ H R):tC v σ H R:=by
 obtain⟨S,M,ρ,Q,s,r,q,k⟩:=h;exact k v H (VQ.now s (zm hd) q)
def d_int{i:Int}{j:Nat}:DE X (.Constant (.int i) j pos) (dC (.int i)):=PE.imp FP (ut rfl)
def d_bl{i:Bool}{j:Nat}:DE X (.Constant (.bool i) j pos) (dC (.bl i)):=PE.imp pe_bl (ut rfl)
def d_non{j:Nat}:DE X (.Constant .none j pos) (dC .non):=PE.imp FN (ut rfl)
def d_str{i:Str}{j:Nat}:DE X (.Constant (.str i) j pos) (dC (.str i)):=PE.imp FL (ut rfl)
def low2{K:AA6}{S:SD}{M:Mem}{ρ:List Addr}{σ:St}{H:Hp}{P:D->D->Mem->Prop}{G:V->V->Hp->Prop}(s:Sim K ρ M H)(r:SRep K ρ H S σ)(h:ta S M λx M1=>tb S M1 λy M2=>P x y M2)
  (k:∀x y vx vy M2 ρ2 H2,Sim K ρ2 M2 H2->Grow K ρ H ρ2 H2->Rep K ρ2 H2 x vx->Rep K ρ2 H2 y vy->P x y M2->G vx vy H2):lowE K ta σ H λvx H1=>lowE K tb σ H1 λvy H2=>G vx vy H2:=by
 refine⟨S,M,ρ,_,s,r,h,λvx H1 ⟨x,M1,ρ1,s1,g1,r1,q1⟩=>⟨S,M1,ρ1,_,s1,r.grow g1,q1,λvy H2 ⟨y,M2,ρ2,s2,g2,r2,q2⟩=>?_⟩⟩
 exact k x y vx vy M2 ρ2 H2 s2 (g1.trans g2) (r1.grow g2) r2 q2
def dOp(r:DR2)(ta tb:DTE):DTE:=λS M Q=>ta S M λx M1=>tb S M1 λy M2=>r x y M2 Q
def oj{K:AA6}{r:DR2}(σ:St)(H:Hp)(R:VK)(h:lowE K (dOp r ta tb) σ H R):tOp (lowR K r) (lowE K ta) (lowE K tb) σ H R:=by
 obtain⟨S,M,ρ,Q,s,sr,q,k⟩:=h;exact low2 s sr q λx y vx vy M2 ρ2 H2 s2 g2 r1 r2 q2=>⟨x,y,M2,ρ2,Q,s2,r1,r2,q2,λv H' w=>k v H' (VQ.trans g2 w)⟩
def d_op(ho:OpD X (binaryOp op) r)(ha:DE X a ta)(hb:DE X b tb):DE X (.BinOp a op b pos) (dOp r ta tb):=PE.imp (pe_op ho ha hb) oj
def d_cmp(ho:OpD X (compareOp op) r)(ha:DE X a ta)(hb:DE X b tb)(hm:behindInMarks op b=false:=by with_unfolding_all rfl):DE X (.Compare a [op] [b] pos) (dOp r ta tb):=PE.imp (Dh ho ha hb hm) oj
def aG(t:DTE):DTT:=λS M Q=>t S M λx M'=>match x with
 | .bl b=>Q b M'
 | _=>False
def qw{K:AA6}{t:DTE}(σ:St)(H:Hp)(R:Bool->Hp->Prop)(h:lowT K (aG t) σ H R):Fi (lowE K t) σ H R:=by
 obtain⟨S,M,ρ,Q,s,sr,q,k⟩:=h;refine⟨S,M,ρ,_,s,sr,q,λv H' ⟨d,M',ρ',s',g',r',q'⟩=>?_⟩
 cases r' with
 | bl b=>exact⟨b,rfl,k b H' ⟨M',ρ',s',g',q'⟩⟩
 | _=>exact q'.elim
def Hi(ho:OpD X (compareOp op) r)(ha:DE X a ta)(hb:DE X b tb)(hm:behindInMarks op b=false:=by with_unfolding_all rfl):DT X (.Compare a [op] [b] pos) (aG (dOp r ta tb)):=by
 refine PT.imp (CW ho ha hb hm) λσ H R h=>?_
 obtain⟨S,M,ρ,Q,s,sr,q,k⟩:=qw σ H R h;exact oj σ H _ ⟨S,M,ρ,Q,s,sr,q,k⟩
def Hf(h:DE X e t)(he:∀whole,isTrue e X.env whole=(do let v <-whole;standAt e.pos;holding [v] (truthy v)):=by intro _;rfl):DT X e (aG t):=PT.imp (FC h he) qw
def onB(z:D)(k:Bool->Prop):Prop:=match z with
 | .bl b=>k b
 | _=>False
def By{b:Bool}{k:Bool->Prop}:onB (.bl b) k=k b:=rfl
variable{tA tB:DTT}{aJ:List Expr}
def EW(t u:DTT):DTT:=λS M Q=>t S M λb M1=>if b=true then u S M1 Q else Q false M1
def dOr(t u:DTT):DTT:=λS M Q=>t S M λb M1=>if b=true then Q true M1 else u S M1 Q
def EB(t:DTT):DTT:=λS M Q=>t S M λb M1=>Q (!b) M1
def Eh(ha:DT X a tA):DW X (.BoolOp .And [a] pos) tA:=CS ha
def Hc(ha:DT X a tA):DW X (.BoolOp .Or [a] pos) tA:=FA ha
def He(ha:DT X a tA)(hb:DW X (.BoolOp .And (b::aJ) pos) tB):DW X (.BoolOp .And (a::b::aJ) pos) (EW tA tB):=by
 refine PW.imp (FB ha hb) λσ H R ⟨S,M,ρ,Q,s,sr,q,k⟩=>⟨S,M,ρ,_,s,sr,q,λc H1 ⟨M1,ρ1,s1,g1,q1⟩=>?_⟩
 cases c with
 | true=>exact db ⟨S,M1,ρ1,Q,s1,sr.grow g1,(show tB S M1 Q from q1),λv H' w=>k v H' (BQ.trans g1 w)⟩
 | false=>exact bZ (k false H1 ⟨M1,ρ1,s1,g1,q1⟩)
def dw_or(ha:DT X a tA)(hb:DW X (.BoolOp .Or (b::aJ) pos) tB):DW X (.BoolOp .Or (a::b::aJ) pos) (dOr tA tB):=by
 refine PW.imp (pw_or ha hb) λσ H R ⟨S,M,ρ,Q,s,sr,q,k⟩=>⟨S,M,ρ,_,s,sr,q,λc H1 ⟨M1,ρ1,s1,g1,q1⟩=>?_⟩
 cases c with
 | false=>exact bZ ⟨S,M1,ρ1,Q,s1,sr.grow g1,(show tB S M1 Q from q1),λv H' w=>k v H' (BQ.trans g1 w)⟩
 | true=>exact db (k true H1 ⟨M1,ρ1,s1,g1,q1⟩)
def dw_t(h:DW X e t):DT X e t:=PW.pt h
def Hh(ha:DT X a tA):DT X (.UnaryOp .Not a pos) (EB tA) :=
 PT.imp (FD ha) λσ H R ⟨S,M,ρ,Q,s,sr,q,k⟩=>⟨S,M,ρ,_,s,sr,q,λc H1 ⟨M1,ρ1,s1,g1,q1⟩=>k (!c) H1 ⟨M1,ρ1,s1,g1,q1⟩⟩
def we(ta tb:DTE):DTE:=λS M Q=>ta S M λx M1=>onB x λb=>if b=true then tb S M1 Q else Q (.bl false) M1
def dOrV(ta tb:DTE):DTE:=λS M Q=>ta S M λx M1=>onB x λb=>if b=true then Q (.bl true) M1 else tb S M1 Q
def d_one{op}(h:DE X a ta):DE X (.BoolOp op [a] pos) ta:=FM h
def d_and(ha:DE X a ta)(hb:DE X (.BoolOp .And (b::aJ) pos) tb):DE X (.BoolOp .And (a::b::aJ) pos) (we ta tb):=by
 refine PE.imp (FR ha hb) λσ H R ⟨S,M,ρ,Q,s,sr,q,k⟩=>⟨S,M,ρ,_,s,sr,q,λv H1 ⟨d,M1,ρ1,s1,g1,r1,q1⟩=>?_⟩
 cases r1 with
 | bl c =>
  cases c with
  | true=>exact⟨true,rfl,db ⟨S,M1,ρ1,Q,s1,sr.grow g1,(show tb S M1 Q from q1),λv H' w=>k v H' (VQ.trans g1 w)⟩⟩
  | false=>exact⟨false,rfl,bZ (k _ H1 ⟨_,M1,ρ1,s1,g1,.bl false,(show Q (.bl false) M1 from q1)⟩)⟩
 | _=>exact q1.elim
def d_or(ha:DE X a ta)(hb:DE X (.BoolOp .Or (b::aJ) pos) tb):DE X (.BoolOp .Or (a::b::aJ) pos) (dOrV ta tb):=by
 refine PE.imp (pe_or ha hb) λσ H R ⟨S,M,ρ,Q,s,sr,q,k⟩=>⟨S,M,ρ,_,s,sr,q,λv H1 ⟨d,M1,ρ1,s1,g1,r1,q1⟩=>?_⟩
 cases r1 with
 | bl c =>
  cases c with
  | false=>exact⟨false,rfl,bZ ⟨S,M1,ρ1,Q,s1,sr.grow g1,(show tb S M1 Q from q1),λv H' w=>k v H' (VQ.trans g1 w)⟩⟩
  | true=>exact⟨true,rfl,db (k _ H1 ⟨_,M1,ρ1,s1,g1,.bl true,(show Q (.bl true) M1 from q1)⟩)⟩
 | _=>exact q1.elim
variable{e:Expr}{es:List Expr}{te:DTE}{t:DTA}
def ag:DTA:=λ_ M Q=>Q [] M
def aa(te:DTE)(t:DTA):DTA:=λS M Q=>te S M λd M1=>t S M1 λds M2=>Q (d::ds) M2
def HF:DA X [] ag:=PA.imp FS λσ H R ⟨S,M,ρ,Q,s,sr,q,k⟩=>k [] H ⟨[],M,ρ,s,.refl,.nil,q⟩
def Ex(ha:DE X e te)(hr:DA X es t)(hs:starEach (e::es) X.env=(false,eval e X.env)::starEach es X.env:=by rfl):DA X (e::es) (aa te t) :=
 PA.imp (Dj ha hr hs) λσ H R ⟨S,M,ρ,Q,s,sr,q,k⟩=>⟨S,M,ρ,_,s,sr,q,λv H1 ⟨d,M1,ρ1,s1,g1,r1,q1⟩=>⟨S,M1,ρ1,_,s1,sr.grow g1,q1,λvs H2 ⟨ds,M2,ρ2,s2,g2,r2,q2⟩ =>
  k _ H2 ⟨d::ds,M2,ρ2,s2,g1.trans g2,.cons (r1.grow g2) r2,q2⟩⟩⟩
def iH(t:DTA):DTE:=λS M Q=>t S M λds M1=>ds.length<=sizeLine/\Q (.tup ds) M1
def lu(t:DTA):DTE:=λS M Q=>t S M λds M1=>ds.length<=sizeLine/\Q (.ref M1.length) (M1++[.lst ds])
def VQ.laidT{K:AA6}{ρ ρ1:List Addr}{H H1:Hp}{M1:Mem}{ds:List D}{vs:List V}{Q:DK}{p:Addr}(s1:Sim K ρ1 M1 H1)(g1:Grow K ρ H ρ1 H1)(r1:Reps K ρ1 H1 ds vs)(hp:H1 p=none)(q:Q (.tup ds) M1):VQ K ρ H Q (.ref p) (upd H1 p (.tup vs)) :=
 ⟨.tup ds,M1,ρ1,s1.laid hp,g1.trans (Grow.laid hp),.tup (SqT.of aA) (r1.grow (Grow.laid hp)),q⟩
def VQ.laidL{K:AA6}{ρ ρ1:List Addr}{H H1:Hp}{M1:Mem}{ds:List D}{vs:List V}{Q:DK}{p:Addr}(s1:Sim K ρ1 M1 H1)(g1:Grow K ρ H ρ1 H1)(r1:Reps K ρ1 H1 ds vs)(hp:H1 p=none)(q:Q (.ref M1.length) (M1++[.lst ds])):VQ K ρ H Q (.ref p) (upd H1 p (.lst vs)) :=
 ⟨.ref M1.length,M1++[.lst ds],ρ1++[p],s1.laidL hp r1,g1.trans (Grow.laidR hp),.ref s1.last,q⟩
def d_tup{x1}(h:DA X es t):DE X (.Tuple es x1 pos) (iH t) :=
 PE.imp (FK h) λσ H R ⟨S,M,ρ,Q,s,sr,q,k⟩=>⟨S,M,ρ,_,s,sr,q,λvs H1 ⟨ds,M1,ρ1,s1,g1,r1,z,q1⟩=>⟨by rw[<-r1.length];exact z,λp hp=>k _ _ (VQ.laidT s1 g1 r1 hp q1)⟩⟩
def d_lst(h:DA X es t):DE X (.List es pos) (lu t) :=
 PE.imp (FO h) λσ H R ⟨S,M,ρ,Q,s,sr,q,k⟩=>⟨S,M,ρ,_,s,sr,q,λvs H1 ⟨ds,M1,ρ1,s1,g1,r1,z,q1⟩=>⟨by rw[<-r1.length];exact z,λp hp=>k _ _ (VQ.laidL s1 g1 r1 hp q1)⟩⟩
def dCB(r:DRA)(t:DTA):DTE:=λS M Q=>t S M λds M1=>r ds M1 Q
def xW{K:AA6}{r:DRA}(σ:St)(H:Hp)(R:VK)(h:lowE K (dCB r t) σ H R):tCB (lowC K r) (lowA K t) σ H R:=by
 obtain⟨S,M,ρ,Q,s,sr,q,k⟩:=h;exact⟨S,M,ρ,_,s,sr,q,λvs H1 ⟨ds,M1,ρ1,s1,g1,r1,q1⟩=>⟨ds,M1,ρ1,Q,s1,r1,q1,λv H' w=>k v H' (VQ.trans g1 w)⟩⟩
theorem EA{x:Str}{p:Pos}{id:String}{r:DRA}(hc:jC X (.builtin id) r)(hm:X.mg x=none)(hv:bootBuiltins x=some (.builtin id))(ha:DA X (e::es) t)(hg:Gl X x:=by rfl)(hn:x≠"__name__":=by decide)(hdb:(x==("__debug__":Str))=false:=by decide)
  (he:starEach (e::es) X.env=(false,eval e X.env)::starEach es X.env:=by rfl) (hpl:(backTo pos (starEach es X.env)).any (·.1)=false:=by rfl):DE X (.Call (.Name x p) (e::es) [] pos) (dCB r t) :=
 PE.imp (Ac hc hg hm hv ha hn hdb he hpl) xW
def Bb(hc:jC X (.type T) r)(hm:X.mg x=none)(hv:bootBuiltins x=some (.type T))(ha:DA X (e::es) t)(hg:Gl X x:=by rfl)(hn:x≠"__name__":=by decide)(hdb:(x==("__debug__":Str))=false:=by decide)
  (he:starEach (e::es) X.env=(false,eval e X.env)::starEach es X.env:=by rfl) (hpl:(backTo pos (starEach es X.env)).any (·.1)=false:=by rfl):DE X (.Call (.Name x p) (e::es) [] pos) (dCB r t) :=
 PE.imp (xG hc hg hm hv ha hn hdb he hpl) xW
abbrev DSp:=List D->Mem->DK->Prop
def spL(K:AA6)(P:DSp):Sp:=λvs H Q _=>∃ds M ρ R,Sim K ρ M H/\Reps K ρ H ds vs/\P ds M R/\∀v H',VQ K ρ H R v H'->Q v H'
def xU{K:AA6}{P:DSp}(σ:St)(H:Hp)(R:VK)(h:lowE K (dCB P t) σ H R):Fk (spL K P) [] E0 (lowA K t) σ H R:=by
 obtain⟨S,M,ρ,Q,s,sr,q,k⟩:=h;exact⟨S,M,ρ,_,s,sr,q,λvs H1 ⟨ds,M1,ρ1,s1,g1,r1,q1⟩=>⟨ds,M1,ρ1,Q,s1,by rw[AB7];exact r1,q1,λv H' w=>k v H' (VQ.trans g1 w)⟩⟩
def HM(F:FnOk X.prog X.w X.K X.mg X.base CX0 k f fd ps (spL X.K P))(hr:Room k X.A)(hm:X.mg x=some (.ref f))(hk:ACf X.K (.ref f)=true)(hb:rP X.K fd ps [])
  (ha:DA X (e::es) t) (hg:Gl X x:=by rfl) (hdb:(x==("__debug__":Str))=false:=by decide) (he:starEach (e::es) X.env=(false,eval e X.env)::starEach es X.env:=by rfl) (hpl:(backTo pos (starEach es X.env)).any (·.1)=false:=by rfl) :
  DE X (.Call (.Name x p) (e::es) [] pos) (dCB P t):=PE.imp (Di F hr hg hm hk hb .nil pass0 ha hdb he hpl) xU
end
section
variable{X:Cx}{st:Stmt}{aJ:List Stmt}{t u:DTS}{e:Expr}{te:DTE}{pos:Pos}
def bi:DTS:=λE S M=>E.nx S M
def az(t u:DTS):DTS:=λE S M=>t { E with nx:=λS' M'=>u E S' M' } S M
def Hn:DSs X [] bi:=PSs.imp CZ λE σ H ⟨S,M,ρ,F,s,sr,q,k⟩=>k.nx σ H ⟨S,M,ρ,s,.refl,sr,q⟩
def Hm(h:DS X st t):DSs X [st] t:=CY h
def Eo(h1:DS X st t)(h2:DSs X aJ u):DSs X (st::aJ) (az t u) :=
 PSs.imp (zV h1 h2) λE σ H ⟨S,M,ρ,F,s,sr,q,k⟩=>⟨S,M,ρ,_,s,sr,q,⟨λσ' H' ⟨S',M',ρ',s',g',sr',q'⟩=>⟨S',M',ρ',F,s',sr',q',k.trans g'⟩,k.rt,k.bk,k.ct⟩⟩
def jB(te:DTE):DTS:=λE S M=>te S M λ_ M1=>E.nx S M1
def En(he:DE X e te)(hs:swapsWith e none pos.line X.env=pure false:=by rfl):DS X (.Expr e pos) (jB te) :=
 PS.imp (Da he hs) λE σ H ⟨S,M,ρ,F,s,sr,q,k⟩=>⟨S,M,ρ,_,s,sr,q,λv H1 ⟨d,M1,ρ1,s1,g1,r1,q1⟩=>k.nx σ H1 ⟨S,M1,ρ1,s1,g1,sr.grow g1,q1⟩⟩
def bA(te:DTE):DTS:=λE S M=>te S M E.rt
def Hk(he:DE X e te):DS X (.Return (some e) pos) (bA te) :=
 PS.imp (FF he) λE σ H ⟨S,M,ρ,F,s,sr,q,k⟩=>⟨S,M,ρ,_,s,sr,q,λv H1 w=>k.rt v H1 w⟩
def dIf(c:DTT)(t u:DTS):DTS:=λE S M=>c S M λb M1=>if b=true then t E S M1 else u E S M1
def ds_if(hc:DT X c tc)(ha:DSs X a t)(hb:DSs X b u):DS X (.If c a b pos) (dIf tc t u):=by
 refine PS.imp (ps_if hc ha hb) λE σ H ⟨S,M,ρ,F,s,sr,q,k⟩=>⟨S,M,ρ,_,s,sr,q,λc H1 ⟨M1,ρ1,s1,g1,q1⟩=>?_⟩
 cases c with
 | true=>exact db ⟨S,M1,ρ1,F,s1,sr.grow g1,(show t F S M1 from q1),k.trans g1⟩
 | false=>exact bZ ⟨S,M1,ρ1,F,s1,sr.grow g1,(show u F S M1 from q1),k.trans g1⟩
def bd(te:DTE)(i:Nat):DTS:=λE S M=>te S M λd M1=>E.nx (S.set i (some d)) M1
def Hj(hN:X.N.Nodup)(he:DE X e te)(hi:X.N[i]?=some x:=by rfl)(hx:Loc X.env.scope x:=by first | exact Or.inl rfl | exact Or.inr rfl)(hs:swapsWith e (some (.Name x pos')) pos.line X.env=pure false:=by rfl)
  (hf:X.fn x=true\/X.env.scope.names.lookup x=some .local:=by first | exact .inl rfl | exact .inr rfl | assumption):DS X (.Assign [.Name x pos'] e pos) (bd te i) :=
 PS.imp (FE hN hi hx he hs hf) λE σ H ⟨S,M,ρ,F,s,sr,q,k⟩=>⟨S,M,ρ,_,s,sr,q,λv H1 ⟨d,M1,ρ1,s1,g1,r1,q1⟩=>k.nx _ H1 ⟨_,M1,ρ1,s1,g1,(sr.grow g1).set i r1,q1⟩⟩
def ar(i:Nat):DTG:=λd S M Q=>Q (S.set i (some d)) M
def sT(hN:X.N.Nodup)(hi:X.N[i]?=some x:=by rfl)(hx:Loc X.env.scope x:=by first | exact Or.inl rfl | exact Or.inr rfl)(hf:X.fn x=true\/X.env.scope.names.lookup x=some .local:=by first | exact .inl rfl | exact .inr rfl | assumption):DG X (.Name x pos) (ar i) :=
 λpins s σ H v u R I r ⟨d,S,M,ρ,Q,sm,sr,rd,q,k⟩=>Df hN hi hx hf pins s σ H v u R I r (k _ H ⟨_,M,ρ,sm,.refl,sr.set i rd,q⟩)
end
def vm{P:Program}{w:World}{K:AA6}{tg:Expr}(it:Addr)(n:Nat)(PV:Nat->Value->Prop)(PX:Nat->V->Prop)(Sx:Nat->Heap->Prop)
  (W:∀A':Around,A'.handled=none->Walks P w A' it [it] [it] n PV Sx) (hrel:∀i v,PV i v->∃x,aI x v/\PX i x)
  (hobj:∀i h,Sx i h->∃(o:Obj) (nm:String) (vs:Array Value),h.get? it=some o/\o.cls=.type nm/\o.data=.fields vs/\["enumerate","zip","dict_itemiterator","dict_reverseitemiterator","odict_iterator","itertools.zip_longest","itertools.pairwise"].contains nm=false)
  (hframe:∀(i:Nat) (h h':Heap),Sx i h->(∀o,h.get? it=some o->h'.get? it=some o)->Sx i h')
  (hself:∀(A:Around) (i:Nat) (s:Shared) (Q:Value->Shared->Prop) (E:Value->Shared->Prop),Sx i s.heap->Q (.ref it) s->wpAny (model P w) A (pyIter (.ref it)) Q E s) :
  Turn P w K tg ⟨λi _=>i<n,λi H x H'=>H'=H/\PX i x,λi _=>i=n⟩ [it] it Sx where
 mem:=by simp
 obj:=λi h st b hb=>by
  have e:b=it:=by simpa using hb
  subst e;obtain⟨o,nm,vs,e,_,d,_⟩:=hobj i h st;exact⟨o,e,λv z=>by rw[d]at z;cases z⟩
 keep:=λi h h' st k=>hframe i h h' st λo e=>k it (by simp) o e
 item:=by
  intro X hP hw hK hc i pins s σ H E I hf st hg;subst hP hw hK;obtain⟨f0,f1,f2,f3,f4,f5⟩:=hf it (by simp)
  refine(W X.A (I.ok.hd hc)).item i s _ _ hg st λv h' tk hv st' kk=>?_
  obtain⟨x,rx,px⟩:=hrel i v hv;have I1:Inv X pins σ H { s with heap:=h',toks:=tk }:=I.turned (λb o hb e=>kk b o (by simpa using hb) e) f0 f1 f3 f4 f5
  obtain⟨o,nm,vs,e,c,d,hn⟩:=hobj _ _ st';exact⟨v,rfl,sO (s:={ s with heap:=h',toks:=tk }) e c d hn ⟨x,H,I1,rx,⟨rfl,px⟩,st',λb hb=>(hf b hb).1⟩⟩
 done:=by
  intro X hP hw hK hc i pins s σ H E I hf st hg;subst hP hw hK;obtain⟨f0,f1,f2,f3,f4,f5⟩:=hf it (by simp)
  have hi:i=n:=hg;subst hi;exact(W X.A (I.ok.hd hc)).done s _ _ st λh' tk kk=>⟨rfl,I.turned (λb o hb e=>kk b o (by simpa using hb) e) f0 f1 f3 f4 f5⟩
 self:=hself
def xr(x:Str):List D:=x.cps.toList.map λc=>.str ⟨#[c]⟩
structure Src where
 items:List D
 ok:Mem->Prop
abbrev DTI:=SD->Mem->(Src->Mem->Prop)->Prop
structure ItD(K:AA6)(src:Src)(ρ0:List Addr)(H0:Hp)(J:It):Prop where
 go:∀(i:Nat) ρ M H,Sim K ρ M H->Grow K ρ0 H0 ρ H->src.ok M->i<src.items.length->J.go i H
 yld:∀(i:Nat) ρ M H x H',Sim K ρ M H->Grow K ρ0 H0 ρ H->src.ok M->i<src.items.length->J.yld i H x H'->∃d ρ',src.items[i]?=some d/\Sim K ρ' M H'/\Grow K ρ H ρ' H'/\Rep K ρ' H' d x
 stop:∀(ρ:List Addr) M H,Sim K ρ M H->Grow K ρ0 H0 ρ H->src.ok M->J.stop src.items.length H
def IQ(K:AA6)(ρ:List Addr)(H:Hp)(Q:Src->Mem->Prop):It->Hp->Prop:=λJ H'=>∃src M' ρ',Sim K ρ' M' H'/\Grow K ρ H ρ' H'/\ItD K src ρ' H' J/\Q src M'
def lowI(K:AA6)(di:DTI):TI:=λσ H R=>∃S M ρ Q,Sim K ρ M H/\SRep K ρ H S σ/\di S M Q/\∀J H',IQ K ρ H Q J H'->R J H'
def DI(X:Cx)(tg iter:Expr)(di:DTI):Prop:=PI X tg iter (lowI X.K di)
def ItD.tup{K:AA6}{ρ:List Addr}{H:Hp}{a:Addr}{vs:List V}{ds:List D}(h:SqT K H a vs)(r:Reps K ρ H ds vs)(uniq:∀ys,SqT K H a ys->ys=vs):ItD K ⟨ds,λ_=>True⟩ ρ H (Itt K a) where
 go:=λi ρ' M H' s g _ hi=>by
  have hl:i<vs.length:=by rw[<-r.length];exact hi
  exact⟨vs,vs[i],g.tup a vs h,AA5 hl⟩
 yld:=λi ρ' M H' x H2 s g _ hi y=>by
  obtain⟨rfl,y⟩:=y;obtain⟨d,hd,rd⟩:=(r.grow g).getV (y vs (g.tup a vs h));exact⟨d,ρ',hd,s,.refl,rd⟩
 stop:=λρ' M H' s g _=>⟨vs,g.tup a vs h,by rw[<-r.length];exact AA8 _⟩
def ItD.lst{K:AA6}{ρ:List Addr}{H:Hp}{n:Nat}{a:Addr}{ds:List D}(e:ρ[n]?=some a):ItD K ⟨ds,λM=>ak M n ds⟩ ρ H (Itl K a) where
 go:=λi ρ' M H' s g ok hi=>by
  obtain⟨vs,h,r⟩:=ak.seq s ok (am g.pre e);have hl:i<vs.length:=by rw[<-r.length];exact hi
  exact⟨vs,vs[i],h,AA5 hl⟩
 yld:=λi ρ' M H' x H2 s g ok hi y=>by
  obtain⟨rfl,y⟩:=y;obtain⟨vs,h,r⟩:=ak.seq s ok (am g.pre e);obtain⟨d,hd,rd⟩:=r.getV (y vs h);exact⟨d,ρ',hd,s,.refl,rd⟩
 stop:=λρ' M H' s g ok=>by
  obtain⟨vs,h,r⟩:=ak.seq s ok (am g.pre e);exact⟨vs,h,by rw[<-r.length];exact AA8 _⟩
def ItD.plain{K:AA6}{ρ:List Addr}{H:Hp}{ds:List D}{J:It}(hg:∀i H,i<ds.length->J.go i H)(hy:∀i H x H',i<ds.length->J.yld i H x H'->H'=H/\∃d,ds[i]?=some d/\cV d=some x)(hs:∀H,J.stop ds.length H):ItD K ⟨ds,λ_=>True⟩ ρ H J where
 go:=λi ρ' M H' s g _ hi=>hg i H' hi
 yld:=λi ρ' M H' x H2 s g _ hi y=>by
  obtain⟨rfl,d,hd,hv⟩:=hy i _ x H2 hi y;exact⟨d,ρ',hd,s,.refl,zm hv⟩
 stop:=λρ' M H' s g _=>hs H'
section
variable{X:Cx}{tg:Expr}
def dc(te:DTE):DTI:=λS M R=>te S M λd M1=>match d with
 | .tup ds=>ds.length<=sizeLine->R ⟨ds,λ_=>True⟩ M1
 | .str x=>R ⟨xr x,λ_=>True⟩ M1
 | .ref n=>∃xs,ak M1 n xs/\(xs.length<=sizeLine->R ⟨xs,λM=>ak M n xs⟩ M1)
 | _=>False
def Hu(hl:DE X l tl):DI X tg l (dc tl):=by
 intro pins s σ H R I h;obtain⟨S,M,ρ,Q,sm,sr,q,k⟩:=h;refine thn (hl pins s σ H _ I ⟨S,M,ρ,_,sm,sr,q,λv H' w=>w⟩) λu s1 ⟨v,H1,I1,rv,d,M1,ρ1,sm1,g1,r1,q1⟩=>?_
 cases r1 with
 | non=>exact q1.elim
 | bl b=>exact q1.elim
 | int i=>exact q1.elim
 | ty n=>exact q1.elim
 | @tup a vs ds hq r =>
  cases rv
  obtain⟨its,rr,p,hz⟩:=I1.tuple hq;refine wpAny_pyIter_tuple (show s1.heap.IsTuple a its.toArray from p) ?_
  refine⟨s1.heap.objs.size,[s1.heap.objs.size],_,_,H1,rfl,I1.kept (t':=s1.toks) λb o e=>AA3 _ e,vn a _,⟨_,AAC _ rfl,rfl,rfl⟩,λb hb=>?_,k _ H1 ⟨⟨ds,λ_=>True⟩,M1,ρ1,sm1,g1,ItD.tup hq r λys hy=>I1.tuple_inj hy hq,?_⟩⟩
  ·have e:b=s1.heap.objs.size:=by simpa using hb
   subst e;exact I1.fpOk (AA8 _) (I1.hok.fresh (AA8 _))
  ·exact(show ds.length<=sizeLine->Q ⟨ds,λ_=>True⟩ M1 from q1) (by rw[r.length];exact hz)
 | @ref n a hn =>
  cases rv
  obtain⟨xs,hL,q2⟩:=(show ∃xs,ak M1 n xs/\(xs.length<=sizeLine->Q ⟨xs,λM=>ak M n xs⟩ M1)from q1)
  obtain⟨vs,hq,r⟩:=ak.seq sm1 hL hn;obtain⟨its,rr,p,hz⟩:=I1.list hq;refine wpAny_pyIter_list p.isList ?_
  refine⟨s1.heap.objs.size,[s1.heap.objs.size],_,_,H1,rfl,I1.kept (t':=s1.toks) λb o e=>AA3 _ e,wG a _,⟨_,AAC _ rfl,rfl,rfl⟩,λb hb=>?_,k _ H1 ⟨⟨xs,λM=>ak M n xs⟩,M1,ρ1,sm1,g1,ItD.lst hn,q2 (by rw[r.length];exact hz)⟩⟩
  have e:b=s1.heap.objs.size:=by simpa using hb
  subst e;exact I1.fpOk (AA8 _) (I1.hok.fresh (AA8 _))
 | str x =>
  obtain⟨t,rfl⟩:=rv;have fin:∀(nm:String) (ob:Obj),(ob.cls=.type nm/\ob.data=.fields #[.str x t,.int 0 0]) ->
    (∀A':Around,A'.handled=none->Walks X.prog X.w A' s1.heap.objs.size [s1.heap.objs.size] [s1.heap.objs.size] x.cps.size (SignAt x) (λi h=>h.IsStrIter s1.heap.objs.size nm x t i)) ->
    (∀(A:Around) (i:Nat) (s:Shared) (Q:Value->Shared->Prop) (E:Value->Shared->Prop),s.heap.IsStrIter s1.heap.objs.size nm x t i->Q (.ref s1.heap.objs.size) s->wpAny (model X.prog X.w) A (pyIter (.ref s1.heap.objs.size)) Q E s) ->
    ["enumerate","zip","dict_itemiterator","dict_reverseitemiterator","odict_iterator","itertools.zip_longest","itertools.pairwise"].contains nm=false->(s1.heap.push ob).IsStrIter s1.heap.objs.size nm x t 0 ->
    PIE X pins σ tg R (.ref s1.heap.objs.size) { s1 with heap:=s1.heap.push ob }:=λnm ob hob W hself hnm st=>by
   refine⟨s1.heap.objs.size,[s1.heap.objs.size],_,_,H1,rfl,I1.kept (t':=s1.toks) λb o e=>AA3 _ e,
    vm (PX:=λi v=>∃c,x.cps[i]?=some c/\v=.str ⟨#[c]⟩) _ _ _ _ W (λi v ⟨c,u,e1,e2⟩=>⟨.str ⟨#[c]⟩,⟨u,e2⟩,c,e1,rfl⟩) (λi h st=>?_) (λi h h' st k=>?_) hself,st,λb hb=>?_,k _ H1 ⟨⟨xr x,λ_=>True⟩,M1,ρ1,sm1,g1,ItD.plain ?_ ?_ ?_,q1⟩⟩
   ·obtain⟨o,e,c,d⟩:=st
    exact⟨o,nm,_,e,c,d,hnm⟩
   ·obtain⟨o,e,r⟩:=st
    exact⟨o,k o e,r⟩
   ·have e:b=s1.heap.objs.size:=by simpa using hb
    subst e;exact I1.fpOk (AA8 _) (I1.hok.fresh (AA8 _))
   ·intro i _ hi
    simpa [xr]using hi
   ·rintro i H x' H' _ ⟨rfl,c,e,rfl⟩
    exact⟨rfl,.str ⟨#[c]⟩,by simp[xr,e],rfl⟩
   ·intro H
    simp[xr]
  cases ha:x.cps.all (· < 128)
  ·exact wpAny_pyIter_wide ha (fin _ _ ⟨rfl,rfl⟩ (λA' hA=>Walks.strWide hA _ x t) (λ_ _ _ _ _ st h=>wpAny_pyIter_striter_wide st h) (by decide) ⟨_,AAC _ rfl,rfl,rfl⟩)
  ·exact wpAny_pyIter_ascii ha (fin _ _ ⟨rfl,rfl⟩ (λA' hA=>Walks.strAscii hA _ x t) (λ_ _ _ _ _ st h=>wpAny_pyIter_striter_ascii st h) (by decide) ⟨_,AAC _ rfl,rfl,rfl⟩)
def rQ(lo:Int)(n:Nat):List D:=(AAu n).map λi=>.int (lo+((i:Nat):Int))
def ItD.rng{K:AA6}{ρ:List Addr}{H:Hp}(lo:Int)(n:Nat):ItD K ⟨rQ lo n,λ_=>True⟩ ρ H (Itr lo n):=by
 refine ItD.plain (λi _ hi=>?_) (λi H x H' hi y=>?_) λH=>?_
 ·show i<n
  simpa [rQ]using hi
 ·obtain⟨e,rfl⟩:=y
  have hi':i<n:=by simpa [rQ]using hi
  exact⟨e,.int (lo+i),by simp[rQ,hi'],rfl⟩
 ·show n<=(rQ lo n).length
  simp[rQ]
def dW(ta:DTA):DTI:=λS M R=>ta S M λds M1=>match ds with
 | [.int j]=>(-(2 ^ 62)<=j/\j<2 ^ 62)/\R ⟨rQ 0 j.toNat,λ_=>True⟩ M1
 | _=>False
def oQ(ta:DTA):DTI:=λS M R=>ta S M λds M1=>match ds with
 | [.int i,.int j]=>(-(2 ^ 62)<=i/\i<2 ^ 62/\-(2 ^ 62)<=j/\j<2 ^ 62)/\R ⟨rQ i (j-i).toNat,λ_=>True⟩ M1
 | _=>False
def PI.imp(h:PI X tg iter t')(i:∀σ H R,t σ H R->t' σ H R):PI X tg iter t:=λpins s σ H R I q=>h pins s σ H R I (i σ H R q)
def zb(hm:X.mg "range" = none)(ha:DA X [a] ta)(hg:Gl X "range":=by rfl)(hs:starEach [a] X.env=[(false,eval a X.env)]:=by rfl):DI X tg (.Call (.Name "range" p) [a] [] pos) (dW ta):=by
 refine PI.imp (xE hg hm ha hs) λσ H R ⟨S,M,ρ,Q,s,sr,q,k⟩=>⟨S,M,ρ,_,s,sr,q,λvs H1 ⟨ds,M1,ρ1,s1,g1,r1,q1⟩=>?_⟩
 try dsimp only at q1
 split at q1
 ·rename_i j
  obtain⟨⟨h1,h2⟩,q2⟩:=q1;first | have hzz:=Reps.inv_cons r1 | have hzz:=au.inv_cons r1
  clear r1;obtain⟨_,_,rfl,r,t⟩:=hzz;cases r
  cases t
  exact⟨j,rfl,h1,h2,k _ H1 ⟨_,M1,ρ1,s1,g1,ItD.rng 0 j.toNat,q2⟩⟩
 ·exact q1.elim
def za(hm:X.mg "range" = none)(ha:DA X [a,b] ta)(hg:Gl X "range":=by rfl)(hs:starEach [a,b] X.env=[(false,eval a X.env),(false,eval b X.env)]:=by rfl)(hs2:starEach [b] X.env=[(false,eval b X.env)]:=by rfl) :
  DI X tg (.Call (.Name "range" p) [a,b] [] pos) (oQ ta):=by
 refine PI.imp (xD hg hm ha hs hs2) λσ H R ⟨S,M,ρ,Q,s,sr,q,k⟩=>⟨S,M,ρ,_,s,sr,q,λvs H1 ⟨ds,M1,ρ1,s1,g1,r1,q1⟩=>?_⟩
 try dsimp only at q1
 split at q1
 ·rename_i i j
  obtain⟨h,q2⟩:=q1;first | have hzz:=Reps.inv_cons r1 | have hzz:=au.inv_cons r1
  clear r1;obtain⟨_,_,rfl,r,t⟩:=hzz;cases r
  cases t with
  | cons r t =>
   cases r
   cases t
   exact⟨i,j,rfl,h,k _ H1 ⟨_,M1,ρ1,s1,g1,ItD.rng i (j-i).toNat,q2⟩⟩
 ·exact q1.elim
end
mutual
inductive Bel(k:Nat):D->Prop
 | non:Bel k .non
 | bl (b:Bool):Bel k (.bl b)
 | int (i:Int):Bel k (.int i)
 | str (x:Str):Bel k (.str x)
 | ty (n:String):Bel k (.ty n)
 | tup {ds:List D} (h:Bels k ds):Bel k (.tup ds)
 | ref {n:Nat} (h:n<k):Bel k (.ref n)
inductive Bels(k:Nat):List D->Prop
 | nil:Bels k []
 | cons {d:D}{ds:List D} (h:Bel k d) (t:Bels k ds):Bels k (d::ds)
end
def MO.items:MO->List D
 | .lst xs=>xs
 | .fz xs=>xs
 | .kl xs=>xs
 | .dct kvs=>kvs.map (·.2)
 | .dkt kvs=>kvs.map (·.2)
 | .dkq kvs=>kvs.map (·.2)
 | .fdc _ kvs=>kvs.map (·.2)
 | .dkm kvs=>kvs.map (·.2)
 | .tb _ _=>[]
mutual
def Rep.bel{K:AA6}{ρ:List Addr}{H:Hp}:∀{d:D}{v:V},Rep K ρ H d v->Bel ρ.length d
 | _,_,.non=>.non
 | _,_,.bl b=>.bl b
 | _,_,.int i=>.int i
 | _,_,.str x=>.str x
 | _,_,.ty n=>.ty n
 | _,_,.tup h r=>.tup (Reps.bel r)
 | _,_,.ref h=>.ref (AA7.mp h).1
def Reps.bel{K:AA6}{ρ:List Addr}{H:Hp}:∀{ds:List D}{vs:List V},Reps K ρ H ds vs->Bels ρ.length ds
 | _,_,.nil=>.nil
 | _,_,.cons h t=>.cons (Rep.bel h) (Reps.bel t)
end
mutual
def Rep.cut{K:AA6}{ρ:List Addr}{H:Hp}{k:Nat}:∀{d:D}{v:V},Rep K ρ H d v->Bel k d->Rep K (ρ.take k) H d v
 | _,_,.non,_=>.non
 | _,_,.bl b,_=>.bl b
 | _,_,.int i,_=>.int i
 | _,_,.str x,_=>.str x
 | _,_,.ty n,_=>.ty n
 | _,_,.tup h r,.tup b=>.tup h (Reps.cut r b)
 | _,_,.ref h,.ref b=>.ref (by rw[ABk b];exact h)
def Reps.cut{K:AA6}{ρ:List Addr}{H:Hp}{k:Nat}:∀{ds:List D}{vs:List V},Reps K ρ H ds vs->Bels k ds->Reps K (ρ.take k) H ds vs
 | _,_,.nil,_=>.nil
 | _,_,.cons h t,.cons b c=>.cons (Rep.cut h b) (Reps.cut t c)
end
mutual
def Bel.mono{j k:Nat}(h:j<=k):∀{d:D},Bel j d->Bel k d
 | _,.non=>.non
 | _,.bl b=>.bl b
 | _,.int i=>.int i
 | _,.str x=>.str x
 | _,.ty n=>.ty n
 | _,.tup b=>.tup (Bels.mono h b)
 | _,.ref b=>.ref (AAd b h)
def Bels.mono{j k:Nat}(h:j<=k):∀{ds:List D},Bels j ds->Bels k ds
 | _,.nil=>.nil
 | _,.cons b c=>.cons (Bel.mono h b) (Bels.mono h c)
end
def Bels.of:∀{xs:List D},(∀d∈xs,Bel k d)->Bels k xs
 | [],_=>.nil
 | d::ds,h=>.cons (h d AAI) (Bels.of λe he=>h e (AA9 _ he))
section
variable{K:AA6}{ρ ρ':List Addr}{H H':Hp}{M M':Mem}
def uC:∀(n:Nat) (d:D),cw n d=true->Bel k d:=by
 intro n;induction n with
 | zero =>
  intro d h;cases d with
  | str x=>exact .str x
  | int x=>exact .int x
  | _=>cases h
 | succ n ih =>
  intro d h;cases d with
  | str x=>exact .str x
  | int x=>exact .int x
  | tup ds=>exact .tup (Bels.of λx hx=>ih x (AAh.mp (show ds.all (cw n)=true from h) x hx))
  | _=>cases h
def yg(r:Paired (tp K ρ H) kvs xs):Bels ρ.length (kvs.map (·.2)):=by
 induction r with
 | nil=>exact .nil
 | cons q _ ih =>
  obtain⟨_,_,_,v,q4,_⟩:=q;exact .cons q4.bel ih
def yf(r:Paired (tp K ρ H) kvs xs)(b:Bels k (kvs.map (·.2))):Paired (tp K (ρ.take k) H) kvs xs:=by
 induction r with
 | nil=>exact .nil
 | cons q _ ih =>
  obtain⟨q1,q2,q3,v,q4,q5⟩:=q;rw[AAQ]at b;cases b with
  | cons b1 b2=>exact .cons ⟨q1,q2,q3.cut (uC _ _ q2),v,q4.cut b1,q5⟩ (ih b2)
def AE:∀(d:D),oW d=true->Bel k d
 | .non,_=>.non
 | .tup ks,h=>uC 8 _ h
 | .bl _,h=>nomatch h
 | .int _,h=>nomatch h
 | .str _,h=>nomatch h
 | .ty _,h=>nomatch h
 | .ref _,h=>nomatch h
def DQ(r:Paired (KvM K ρ H) kvs xs):Bels ρ.length (kvs.map (·.2)):=by
 induction r with
 | nil=>exact .nil
 | cons q _ ih =>
  obtain⟨_,_,_,v,q4,_⟩:=q;exact .cons q4.bel ih
def DP(r:Paired (KvM K ρ H) kvs xs)(b:Bels k (kvs.map (·.2))):Paired (KvM K (ρ.take k) H) kvs xs:=by
 induction r with
 | nil=>exact .nil
 | cons q _ ih =>
  obtain⟨q1,q2,⟨u,q3,q3'⟩,v,q4,q5⟩:=q;rw[AAQ]at b;cases b with
  | cons b1 b2=>exact .cons ⟨q1,q2,⟨u,q3.cut (AE _ q2),q3'⟩,v,q4.cut b1,q5⟩ (ih b2)
def wz.bels(h:wz K ρ H a mo):Bels ρ.length mo.items:=by
 cases mo with
 | lst ds=>obtain⟨vs,_,r⟩:=h;exact r.bel
 | fz ds=>obtain⟨o,vs,_,r⟩:=h;exact r.bel
 | kl ds=>obtain⟨vs,_,r⟩:=h;exact r.bel
 | dct kvs=>obtain⟨vs,_,r⟩:=h;exact r.bel
 | dkt kvs=>obtain⟨_,_,_,xs,_,r⟩:=h;exact yg r
 | dkq kvs=>obtain⟨_,_,_,xs,_,r⟩:=h;exact yg r
 | fdc o kvs=>obtain⟨vs,_,r⟩:=h;exact r.bel
 | dkm kvs=>obtain⟨_,_,_,xs,_,r⟩:=h;exact DQ r
 | tb x b=>exact .nil
def wz.cut(h:wz K ρ H a mo)(b:Bels k mo.items):wz K (ρ.take k) H a mo:=by
 cases mo with
 | lst ds=>obtain⟨vs,e,r⟩:=h;exact⟨vs,e,r.cut b⟩
 | fz ds=>obtain⟨o,vs,e,r⟩:=h;exact⟨o,vs,e,r.cut b⟩
 | kl ds=>obtain⟨vs,e,r⟩:=h;exact⟨vs,e,r.cut b⟩
 | dct kvs=>obtain⟨vs,e,r⟩:=h;exact⟨vs,e,r.cut b⟩
 | dkt kvs=>obtain⟨h1,h2,h3,xs,e,r⟩:=h;exact⟨h1,h2,h3,xs,e,yf r b⟩
 | dkq kvs=>obtain⟨h1,h2,h3,xs,e,r⟩:=h;exact⟨h1,h2,h3,xs,e,yf r b⟩
 | fdc o kvs=>obtain⟨vs,e,r⟩:=h;exact⟨vs,e,r.cut b⟩
 | dkm kvs=>obtain⟨h1,h2,h3,xs,e,r⟩:=h;exact⟨h1,h2,h3,xs,e,DP r b⟩
 | tb x b=>exact h
def Sim.bels(S:Sim K ρ M H){n:Nat}{mo:MO}(e:M[n]?=some mo):Bels M.length mo.items:=by
 obtain⟨a,_,h⟩:=S.get e;rw[<-S.len];exact h.bels
def Sim.cut(S:Sim K ρ M H)(k:Nat)(hb:∀(n:Nat) (mo:MO),n<k->M[n]?=some mo->Bels k mo.items):Sim K (ρ.take k) (M.take k) H:=by
 have lt:∀{n:Nat}{a:Addr},(ρ.take k)[n]?=some a->n<k/\ρ[n]?=some a:=λ{n a} e=>by
  have h1:=(AA7.mp e).1;rw[AAy]at h1;have h2:n<k:=by lia
  rw[ABk h2]at e;exact⟨h2,e⟩
 refine⟨λn m a hne e1 e2=>?_,by rw[AAy,AAy,S.len],λn a mo e1 e2=>?_⟩
 ·obtain⟨l1,f1⟩:=lt e1
  obtain⟨l2,f2⟩:=lt e2;rw[ABk l1,ABk l2];exact S.nd n m a hne f1 f2
 ·obtain⟨l1,f1⟩:=lt e1
  rw[ABk l1]at e2;exact(S.obj n a mo f1 e2).cut (hb n mo l1 e2)
def SRep.cut(r:SRep K ρ H S σ)(hl:S'.length=S.length)(h:∀(i:Nat) d,S'[i]?=some (some d)->S[i]?=some (some d)/\Bel k d):SRep K (ρ.take k) H S' σ :=
 ⟨hl.trans r.len,λi d e=>let ⟨e',b⟩:=h i d e;let ⟨v,hv,rv⟩:=r.get i d e';⟨v,hv,rv.cut b⟩⟩
def Grow.cut(g:Grow K ρ H ρ' H')(h:ρ.length<=k):Grow K ρ H (ρ'.take k) H':=by
 refine⟨?_,g.tup⟩;obtain⟨t,rfl⟩:=g.pre;rw[List.take_append];rw[AD6 h];exact AAl _ _
end
inductive FgtS(k:Nat):SD->SD->Prop
 | nil:FgtS k [] []
 | keep {d:D}{S S':SD} (h:Bel k d) (t:FgtS k S S'):FgtS k (some d::S) (some d::S')
 | drop {o:Option D}{S S':SD} (t:FgtS k S S'):FgtS k (o::S) (none::S')
def FgtS.len(h:FgtS k S S'):S'.length=S.length:=by
 induction h with
 | nil=>rfl
 | keep _ _ ih=>rw[AAN,AAN,ih]
 | drop _ ih=>rw[AAN,AAN,ih]
def FgtS.get(h:FgtS k S S'):∀(i:Nat) d,S'[i]?=some (some d)->S[i]?=some (some d)/\Bel k d:=by
 induction h with
 | nil=>intro i d e;simp at e
 | keep b _ ih =>
  intro i d e;cases i with
  | zero=>simp at e;subst e;exact⟨rfl,b⟩
  | succ i=>exact ih i d (by simpa using e)
 | drop _ ih =>
  intro i d e;cases i with
  | zero=>simp at e
  | succ i=>exact ih i d (by simpa using e)
def Fgt(M0:Mem)(P:SD->Mem->Prop)(S:SD)(M:Mem):Prop :=
 P S M\/(∃k S',M0.length<=k/\FgtS k S S'/\(∀(n:Nat) mo,n<k->M[n]?=some mo->Bels k mo.items)/\P S' (M.take k))\/∃S',FgtS M0.length S S'/\M0 <+: M/\P S' M0
def zJ{α:Type}{l l':List α}(h:l <+: l'):l'.take l.length=l:=by
 obtain⟨t,rfl⟩:=h;rw[List.take_append_of_le_length (AA8 _),ABi]
def SQ.fgt{K:AA6}{ρ:List Addr}{H:Hp}{M0:Mem}{P:SD->Mem->Prop}{σ':St}{H':Hp}(s0:Sim K ρ M0 H)(h:SQ K ρ H (Fgt M0 P) σ' H'):SQ K ρ H P σ' H':=by
 have hk:ρ.length<=M0.length:=by rw[s0.len];exact AA8 _
 obtain⟨S',M',ρ',s',g',sr',q'⟩:=h;rcases q' with q' | ⟨k,S2,h1,h2,h4,q⟩|⟨S2,h2,hp,q⟩
 ·exact⟨S',M',ρ',s',g',sr',q'⟩
 ·exact⟨S2,M'.take k,ρ'.take k,s'.cut k h4,g'.cut (AB3 hk h1),sr'.cut h2.len h2.get,q⟩
 ·have sc:=s'.cut M0.length λn mo hn e=>by
   obtain⟨t,rfl⟩:=hp;rw[AAT hn]at e;exact s0.bels e
  rw[zJ hp]at sc;exact⟨S2,M0,ρ'.take M0.length,sc,g'.cut hk,sr'.cut h2.len h2.get,q⟩
def rA(ok:Mem->Prop)(g:DTG)(tb:DTS)(E:DEnds)(k0:Mem):List D->SD->Mem->Prop
 | [],S,M=>ok M/\E.nx S M
 | x::xs,S,M=>ok M/\g x S M λS2 M2=>tb ⟨Fgt k0 (rA ok g tb E k0 xs),E.rt,E.nx,Fgt k0 (rA ok g tb E k0 xs)⟩ S2 M2
def mZ(di:DTI)(g:DTG)(tb:DTS):DTS:=λE S M=>di S M λsrc M1=>rA src.ok g tb E M1 src.items S M1
def qW{α:Type}{l:List α}{i:Nat}{x:α}(h:l[i]?=some x):l.drop i=x::l.drop (i+1):=by
 obtain⟨hi,e⟩:=AA7.mp h;rw[ADW hi,e]
def Ar{K:AA6}{di:DTI}{g:DTG}{tb:DTS}(E:Ends)(σ:St)(H:Hp)(h:lowS K (mZ di g tb) E σ H):tFor (lowI K di) (lowG K g) (lowS K tb) E σ H:=by
 obtain⟨S,M,ρ,F,s,sr,q,k⟩:=h;refine⟨S,M,ρ,_,s,sr,q,λJ H1 ⟨src,M1,ρ1,s1,g1,it,q1⟩=>?_⟩
 have k1:=k.trans g1;refine⟨λi m τ H2=>∃S2 M2 ρ2,Sim K ρ2 M2 H2/\Grow K ρ1 H1 ρ2 H2/\SRep K ρ2 H2 S2 τ/\i<=src.items.length/\m=src.items.length-i/\rA src.ok g tb F M1 (src.items.drop i) S2 M2,
  ⟨_,S,M1,ρ1,s1,.refl,sr.grow g1,AAX _,rfl,q1⟩,?_⟩
 rintro i m τ H2 ⟨S2,M2,ρ2,s2,g2,sr2,hi,rfl,q2⟩;by_cases hlt:i<src.items.length
 ·have hx:src.items[i]?=some src.items[i]:=AA5 hlt
  rw[qW hx]at q2;obtain⟨ok,q3⟩:=(show src.ok M2/\g src.items[i] S2 M2 _ from q2);refine .inr ⟨it.go i ρ2 M2 H2 s2 g2 ok hlt,_,λτ' H' z=>z,λx H3 y=>?_⟩
  obtain⟨d,ρ3,hd,s3,g3,r3⟩:=it.yld i ρ2 M2 H2 x H3 s2 g2 ok hlt y;have ed:d=src.items[i]:=AAR (hd.symm.trans hx);subst ed;refine⟨_,S2,M2,ρ3,_,s3,sr2.grow g3,r3,q3,λτ4 H4 ⟨S4,M4,ρ4,s4,g4,sr4,q4⟩=>?_⟩
  have g14:=(g2.trans g3).trans g4;refine⟨S4,M4,ρ4,_,s4,sr4,q4,?_⟩;have again:∀τ5 H5,SQ K ρ4 H4 (Fgt M1 (rA src.ok g tb F M1 (src.items.drop (i+1)))) τ5 H5 ->
    ∃m',m' < src.items.length-i/\∃S2 M2 ρ2,Sim K ρ2 M2 H5/\Grow K ρ1 H1 ρ2 H5/\SRep K ρ2 H5 S2 τ5/\i+1<=src.items.length/\m'=src.items.length-(i+1)/\rA src.ok g tb F M1 (src.items.drop (i+1)) S2 M2:=λτ5 H5 z=>by
   obtain⟨S5,M5,ρ5,s5,g5,sr5,q5⟩:=SQ.fgt (ρ:=ρ1) (H:=H1) s1 (SQ.trans g14 z);exact⟨_,by lia,S5,M5,ρ5,s5,g5,sr5,hlt,rfl,q5⟩
  exact⟨again,λv H5 z=>k1.rt v H5 (VQ.trans g14 z),λτ5 H5 z=>k1.nx τ5 H5 (SQ.trans g14 z),again⟩
 ·have e:i=src.items.length:=by lia
  subst e;rw[List.drop_of_length_le (AA8 _)]at q2;obtain⟨ok,q3⟩:=(show src.ok M2/\F.nx S2 M2 from q2);exact .inl ⟨it.stop ρ2 M2 H2 s2 g2 ok,k1.nx τ H2 ⟨S2,M2,ρ2,s2,g2,sr2,q3⟩⟩
section
variable{X:Cx}
def Ho(hi:DI X tg iter di)(hg:DG X tg g)(hb:DSs X body tb)(hp:PassesOwn (model X.prog X.w) X.A X.env X.xe:=by exact PassesOwn.never)(hc:X.calm=true:=by rfl)
  (hs:∀x,foldedSetIterable iter X.env x=pure x:=by intro _;rfl):DS X (.For tg iter body [] pos) (mZ di g tb):=PS.imp (FG hp hc hi hg hb hs) Ar
def HD(nt:Nat)(js:List Nat)(S:SD):SD:=AEC nt none++js.map λj=>(S[j]?).join
def lX(ok:Mem->Prop)(g:DTG)(tt:DTT)(te:DTE)(Q:DK):List D->List D->SD->Mem->Prop
 | [],acc,S,M=>ok M/\Q (.ref M.length) (M++[.lst acc])
 | x::xs,acc,S,M=>ok M/\g x S M λS2 M2=>tt S2 M2 λb M3=>if b=true then te S2 M3 λy M4=>acc.length<sizeLine/\lX ok g tt te Q xs (acc++[y]) S2 M4 else lX ok g tt te Q xs acc S2 M3
def dLC(nt:Nat)(js:List Nat)(di:DTI)(g:DTG)(tt:DTT)(te:DTE):DTE:=λS M Q=>di S M λsrc M1=>lX src.ok g tt te Q src.items [] (HD nt js S) M1
def SRep.bst{K:AA6}{ρ:List Addr}{H:Hp}{S:SD}{σ:St}(r:SRep K ρ H S σ)(nt:Nat)(js:List Nat):SRep K ρ H (HD nt js S) (L2.bst nt js σ):=by
 refine⟨by simp[HD,zo],λi d e=>?_⟩
 unfold HD at e;unfold L2.bst;by_cases hi:i<nt
 ·rw[AAT (by simpa using hi),ACs]at e
  simp[hi]at e
 ·rw[AAe (by simpa using ADK.mp hi),ADD,AAV]at e
  rw[AAe (by simpa using ADK.mp hi),ADD,AAV]
  cases q:js[i-nt]? with
  | none=>rw[q]at e;cases e
  | some j =>
   rw[q]at e;have e':(S[j]?).join=some d:=by simpa using e
   cases q2:S[j]? with
   | none=>rw[q2]at e';cases e'
   | some o =>
    rw[q2]at e';have e2:o=some d:=e';subst e2;obtain⟨v,hv,rv⟩:=r.get j d q2;exact⟨v,by simp[hv],rv⟩
def xV{K:AA6}{nt:Nat}{js:List Nat}{di:DTI}{g:DTG}{tt:DTT}{te:DTE}(σ:St)(H:Hp)(R:VK)(h:lowE K (dLC nt js di g tt te) σ H R):tLC nt js (lowI K di) (lowG K g) (lowT K tt) (lowE K te) σ H R:=by
 obtain⟨S,M,ρ,Q,s,sr,q,k⟩:=h;refine⟨S,M,ρ,_,s,sr,q,λJ H1 ⟨src,M1,ρ1,s1,g1,it,q1⟩=>?_⟩
 refine⟨λi m vs τ H2=>∃S2 M2 ρ2 acc,Sim K ρ2 M2 H2/\Grow K ρ1 H1 ρ2 H2/\SRep K ρ2 H2 S2 τ/\Reps K ρ2 H2 acc vs/\i<=src.items.length/\m=src.items.length-i/\lX src.ok g tt te Q (src.items.drop i) acc S2 M2,
  ⟨_,_,M1,ρ1,[],s1,.refl,(sr.grow g1).bst nt js,.nil,AAX _,rfl,q1⟩,?_⟩
 rintro i m vs τ H2 ⟨S2,M2,ρ2,acc,s2,g2,sr2,ra,hi,rfl,q2⟩;by_cases hlt:i<src.items.length
 ·have hx:src.items[i]?=some src.items[i]:=AA5 hlt
  rw[qW hx]at q2;obtain⟨ok,q3⟩:=(show src.ok M2/\g src.items[i] S2 M2 _ from q2);refine .inr ⟨it.go i ρ2 M2 H2 s2 g2 ok hlt,λx H3 y=>?_⟩
  obtain⟨d,ρ3,hd,s3,g3,r3⟩:=it.yld i ρ2 M2 H2 x H3 s2 g2 ok hlt y;have ed:d=src.items[i]:=AAR (hd.symm.trans hx);subst ed;refine⟨_,S2,M2,ρ3,_,s3,sr2.grow g3,r3,q3,λτ4 H4 ⟨S4,M4,ρ4,s4,g4,sr4,q4⟩=>?_⟩
  refine⟨S4,M4,ρ4,_,s4,sr4,q4,λb H5 ⟨M5,ρ5,s5,g5,q5⟩=>?_⟩
  have g15:=((g2.trans g3).trans g4).trans g5;cases b with
  | false=>exact bZ ⟨_,by lia,S4,M5,ρ5,acc,s5,g15,sr4.grow g5,ra.grow ((g3.trans g4).trans g5),hlt,rfl,(show lX src.ok g tt te Q (src.items.drop (i+1)) acc S4 M5 from q5)⟩
  | true =>
   refine db ⟨S4,M5,ρ5,_,s5,sr4.grow g5,(show te S4 M5 _ from q5),λv H6 ⟨y',M6,ρ6,s6,g6,r6,hl,q6⟩=>?_⟩
   have ra6:=ra.grow (((g3.trans g4).trans g5).trans g6);exact⟨by rw[<-ra.length];exact hl,_,by lia,S4,M6,ρ6,acc++[y'],s6,g15.trans g6,sr4.grow (g5.trans g6),ra6.append (.cons r6 .nil),hlt,rfl,q6⟩
 ·have e:i=src.items.length:=by lia
  subst e;rw[List.drop_of_length_le (AA8 _)]at q2;obtain⟨ok,q3⟩:=(show src.ok M2/\Q (.ref M2.length) (M2++[.lst acc])from q2);exact .inl ⟨it.stop ρ2 M2 H2 s2 g2 ok,λp hp=>k _ _ (VQ.laidL s2 (g1.trans g2) ra hp q3)⟩
def d_lc(B:BlkSc X N' nt js scope)(hi:DI X tg iter di)
  (hg:∀cl s0 H0 ex,DG (blk X N' scope cl s0 H0 ex) tg g) (ht:∀cl s0 H0 ex,PTs (blk X N' scope cl s0 H0 ex) ifs (lowT X.K tt)) (he:∀cl s0 H0 ex,DE (blk X N' scope cl s0 H0 ex) elt te) (hc:X.calm=true:=by rfl)
  (hs:∀x,foldedSetIterable iter X.env x=pure x:=by intro _;rfl):DE X (.ListComp elt [⟨tg,iter,ifs,0⟩] scope pos) (dLC nt js di g tt te):=PE.imp (pe_lc (g:=lowG X.K g) (tt:=lowT X.K tt) (te:=lowE X.K te) B hc hi (λcl s0 H0 ex=>hg cl s0 H0 ex) ht (λcl s0 H0 ex=>he cl s0 H0 ex) hs) xV
def uR:DTT:=λ_ M Q=>Q true M
def Ej:PTs X [] (lowT X.K uR):=λpins s σ H R I ⟨S,M,ρ,Q,sm,sr,q,k⟩=>CV pins s σ H R I (k true H ⟨M,ρ,sm,.refl,q⟩)
def Ei(h:DT X c t):PTs X [c] (lowT X.K t):=CU h
end
def Chg(M M1:Mem):Prop:=M1.length=M.length/\∀(i:Nat) (mo:MO),M1[i]?=some mo->M[i]?=some mo\/Bels M.length mo.items
def Chg.refl:Chg M M:=⟨rfl,λ_ _ h=>.inl h⟩
def Chg.set(c:Chg M M1)(b:Bels M.length mo.items):Chg M (M1.set n mo):=by
 refine⟨by rw[AB1];exact c.1,λi mo' h=>?_⟩
 by_cases e:n=i
 ·subst e
  by_cases hl:n<M1.length
  ·rw[AAx hl]at h
   cases h
   exact .inr b
  ·rw[ABW (by rw[AB1];lia)]at h
   cases h
 ·rw[AAv e]at h
  exact c.2 i mo' h
def bI(M:Mem)(R:DK):DK:=λd M'=>R d M'\/(∃M1,Chg M M1/\Bel M.length d/\M1 <+: M'/\R d M1)\/∃M1 n xs,Chg M M1/\d=.ref n/\M.length<=n/\M'[n]?=some (.lst xs)/\M1 <+: M'/\Bels M.length xs/\R (.ref M.length) (M1++[.lst xs])
def cT{α:Type}{l l':List α}(h:l <+: l'):l'.take l.length=l:=by
 obtain⟨t,rfl⟩:=h;rw[List.take_append_of_le_length (AA8 _),ABi]
theorem VQ.endq{K:AA6}{ρ:List Addr}{M:Mem}{H:Hp}{R:DK}{v:V}{H':Hp}(s:Sim K ρ M H)(h:VQ K ρ H (bI M R) v H'):VQ K ρ H R v H':=by
 obtain⟨d,M',ρ',s',g',r',q'⟩:=h;have hρ:ρ'.take M.length=ρ:=by rw[<-s.len];exact cT g'.pre
 rcases q' with q | ⟨M1,c,b,pre,q⟩|⟨M1,n,xs,c,rfl,hnM,e,pre,b,q⟩
 ·exact⟨d,M',ρ',s',g',r',q⟩
 ·have sc:=s'.cut M.length λn mo hn e=>by
   have e':M1[n]?=some mo:=by
    obtain⟨t,rfl⟩:=pre;rw[AAT (by rw[c.1];exact hn)]at e
    exact e
   exact(c.2 n mo e').elim (λz=>s.bels z) id
  have tk:M'.take M.length=M1:=by rw[<-c.1];exact cT pre
  rw[hρ,tk]at sc;have rc:=r'.cut b;rw[hρ]at rc;exact⟨d,M1,ρ,sc,⟨ACn,g'.tup⟩,rc,q⟩
 ·have sc:=s'.cut M.length λn mo hn e=>by
   have e':M1[n]?=some mo:=by
    obtain⟨t,rfl⟩:=pre;rw[AAT (by rw[c.1];exact hn)]at e
    exact e
   exact(c.2 n mo e').elim (λz=>s.bels z) id
  have tk:M'.take M.length=M1:=by rw[<-c.1];exact cT pre
  rw[hρ,tk]at sc;obtain⟨a,rfl,hn⟩:=Rep.inv_ref r';obtain⟨vs,hH,rr⟩:=s'.obj n a _ hn e;have rc:=rr.cut b;rw[hρ]at rc;have g2:Grow K ρ H' (ρ++[a]) H':=⟨AAl _ _,λ_ _ h=>h⟩
  have old:∀(m:Nat),ρ[m]?=some a->isK M1[m]?:=λm em=>by
   have hm:m≠n:=λz=>by
    have:m<M.length:=by rw[<-s.len];exact(AA7.mp em).1
    lia
   have q:=s'.nd m n a hm (am g'.pre em) hn;have hlt:m<M.length:=by rw[<-s.len];exact(AA7.mp em).1
   rcases q with⟨ds,z⟩|⟨ds,z⟩
   ·refine⟨ds,?_⟩
    have hlt1:m<M1.length:=by rw[c.1];exact hlt
    have:=am pre (AA5 hlt1);rw[z]at this;rw[AA5 hlt1];exact this.symm
   ·rw[e]at z;cases z
  refine⟨.ref M.length,M1++[.lst xs],ρ++[a],⟨λn1 m1 a1 hne e1 e2=>?_,by rw[AAA,AAA,sc.len];rfl,λn1 a1 mo e1 e2=>?_⟩,⟨AAl _ _,g'.tup⟩,.ref (by have:=sc.last (p:=a);rw[c.1]at this;exact this),q⟩
  ·rcases aR e1 with f1 | ⟨f1,w1⟩
   ·rcases aR e2 with f2 | ⟨f2,w2⟩
    ·exact(sc.nd n1 m1 a1 hne f1 f2).elim (λz=>.inl z.more) λz=>.inr z.more
    ·subst w2
     exact .inl (old n1 f1).more
   ·rcases aR e2 with f2 | ⟨f2,w2⟩
    ·subst w1
     exact .inr (old m1 f2).more
    ·exact absurd (f1.trans f2.symm) hne
  ·rcases aR e1 with f1 | ⟨f1,w1⟩
   ·have hn1:n1<M1.length:=by rw[<-sc.len];exact(AA7.mp f1).1
    rw[AAT hn1]at e2;exact(sc.obj n1 a1 mo f1 e2).grow g2 (.inl rfl)
   ·subst w1 f1
    rw[sc.len,AAe (AA8 _),ADE]at e2;simp at e2;subst e2;exact⟨vs,hH,rc.grow g2⟩
def cb(N:List Str)(ds:List D):SD:=ds.map some++AEC (N.length-ds.length) none
def SRep.start{K:AA6}{ρ:List Addr}{H:Hp}{ds:List D}{vs:List V}(r:Reps K ρ H ds vs)(N:List Str):SRep K ρ H (cb N ds) (L2.start N vs):=by
 refine⟨by simp[cb,L2.start,r.length],λi d e=>?_⟩
 unfold cb at e;unfold L2.start;by_cases hi:i<ds.length
 ·rw[AAT (by simpa using hi),AAV]at e
  rw[AAT (by simpa [<-r.length]using hi),AAV]
  have e':ds[i]?=some d:=by
   rw[AA5 hi]at e ⊢;simpa using e
  obtain⟨v,hv,rv⟩:=r.get e';exact⟨v,by rw[hv];rfl,rv⟩
 ·rw[AAe (by simpa using ADK.mp hi),ACs]at e
  split at e<;>cases e
def d_fn{P:Program}{w:World}{K:AA6}{mg:Str->Option Value}{base:Heap}{x qual:Str}{st:Stmt}{f:Addr}{fd:FuncData}{N ps:List Str}{k:Nat}(Pr:DSp)(F:Fun K x qual st f fd)(Sc:FnScope N ps (ap st))
  (len:∀ds M R,Pr ds M R->ds.length=ps.length)
  (hbody:∀(cdv:Value) (A:Around) (outer:List Env) (s:Shared) (H:Hp) (E:XK),Room k (A.deeper (envOfC qual (ap st) s.heap.objs.size f cdv)) ->
   ∃t,DSs (rC CX0 P w K mg base N qual (ap st) f cdv A outer s H E).nox (bE st) t/\∀ds M R,Pr ds M R->t ⟨λ_ M'=>bI M R .non M',bI M R,λ_ _=>False,λ_ _=>False⟩ (cb N ds) M) :
  FnOk P w K mg base CX0 (k+1) f fd ps (spL K Pr):=by
 refine F.ok Sc (λvs H Q E ⟨ds,M,ρ,R,s,r,q,_⟩=>by rw[<-r.length];exact len ds M R q) λcdv A outer s H vs Q E hr h=>?_
 obtain⟨ds,M,ρ,R,sm,r,q,kk⟩:=h;obtain⟨t,ht,hq⟩:=hbody cdv A outer s H E hr;refine⟨lowS K t,ht,cb N ds,M,ρ,_,sm,SRep.start r N,hq ds M R q,⟨λσ' H' ⟨S',M',ρ',s',g',sr',q'⟩=>?_,λv H' z=>kk v H' (VQ.endq sm z),λσ' H' ⟨S',M',ρ',s',g',sr',q'⟩=>q'.elim,λσ' H' ⟨S',M',ρ',s',g',sr',q'⟩=>q'.elim⟩⟩
 exact kk .non H' (VQ.endq sm ⟨.non,M',ρ',s',g',.non,q'⟩)
section
variable{X:Cx}
def dfin(I:Inv X pins σ H s)(sm:Sim X.K ρ M H)(k:∀v H',VQ X.K ρ H Q v H'->R v H')(hv:cV d=some v)(rel:aI v u)(q:Q d M):EP X pins σ R u s :=
 ⟨v,H,I,rel,k v H (VQ.now sm (zm hv) q)⟩
def fB(I:Inv X pins σ H s)(sm:Sim X.K ρ M H)(k:∀v H',VQ X.K ρ H Q v H'->R v H')(q:Q (.bl b) M):EP X pins σ R (.bool b) s :=
 ⟨.bl b,H,I,rfl,k _ H (VQ.now sm (.bl b) q)⟩
def qAdd:DR2:=λx y M Q=>match x,y with
 | .int i,.int j=>Q (.int (i+j)) M
 | .str a,.str b=>a.length+b.length<=sizeLine/\Q (.str (a++b)) M
 | .ref n,.ref m=>∃xs ys,M[n]?=some (.lst xs)/\M[m]?=some (.lst ys)/\xs.length+ys.length<=sizeLine/\Q (.ref M.length) (M++[.lst (xs++ys)])
 | _,_=>False
def Gn:OpD X (binaryOp .Add) qAdd:=by
 refine OpR.imp (FZ.or (vG.or FY)) λvx vy H R ⟨x,y,M,ρ,Q,sm,r1,r2,q,k⟩=>?_
 unfold qAdd at q;split at q
 ·cases r1
  cases r2
  exact .inl ⟨_,_,rfl,rfl,k _ H (VQ.now sm (.int _) q)⟩
 ·cases r1
  cases r2
  exact .inr (.inl ⟨_,_,rfl,rfl,q.1,k _ H (VQ.now sm (.str _) q.2)⟩)
 ·obtain⟨xs,ys,e1,e2,hl,q⟩:=q
  obtain⟨_,rfl,h1⟩:=Rep.inv_ref r1;obtain⟨_,rfl,h2⟩:=Rep.inv_ref r2;obtain⟨vs,f1,g1⟩:=sm.obj _ _ _ h1 e1;obtain⟨ws,f2,g2⟩:=sm.obj _ _ _ h2 e2;exact .inr (.inr ⟨_,_,vs,ws,rfl,rfl,f1,f2,by rw[<-g1.length,<-g2.length];exact hl,λp hp=>k _ _ (VQ.laidL sm .refl (g1.append g2) hp q)⟩)
 ·exact q.elim
def Fx:DR2:=λx y M Q=>match x,y with
 | .int i,.int j=>Q (.int (i-j)) M
 | _,_=>False
def Ge:OpD X (binaryOp .Sub) Fx:=by
 refine OpR.imp FT λvx vy H R ⟨x,y,M,ρ,Q,sm,r1,r2,q,k⟩=>?_
 unfold Fx at q;split at q
 ·cases r1
  cases r2
  exact⟨_,_,rfl,rfl,k _ H (VQ.now sm (.int _) q)⟩
 ·exact q.elim
def EN(i j:Int):Prop:=0<j/\j<340282366920938463463374607431768211456
def Ae:OpR X (binaryOp .FloorDiv) (rI EN λi j=>.int (i / j)):=opI λi j _ _ _ _ _ hc q=>by
 have h1:(0:Int)<j:=hc.1;have h2:j<340282366920938463463374607431768211456:=hc.2;have h3:j.natAbs.log2<128:=(Nat.log2_lt (by lia)).mpr (by rw[show (2:Nat) ^ 128=340282366920938463463374607431768211456 by decide];lia)
 exact floordiv_int (by lia) (by rw[Int.fdiv_eq_ediv_of_nonneg i (by lia)];exact q) (.inl (PyProof.noPylong_of_log2 (by lia)))
def sf:DR2:=λx y M Q=>match x,y with
 | .int i,.int j=>EN i j/\Q (.int (i / j)) M
 | _,_=>False
def Du:OpD X (binaryOp .FloorDiv) sf:=by
 refine OpR.imp Ae λvx vy H R ⟨x,y,M,ρ,Q,sm,r1,r2,q,k⟩=>?_
 unfold sf at q;split at q
 ·cases r1
  cases r2
  exact⟨_,_,rfl,rfl,q.1,k _ H (VQ.now sm (.int _) q.2)⟩
 ·exact q.elim
def xw:DR2:=λx y M Q=>match x,y with
 | .int i,.int j=>0<j/\Q (.int (i % j)) M
 | _,_=>False
def Gh:OpD X (binaryOp .Mod) xw:=by
 refine OpR.imp FX λvx vy H R ⟨x,y,M,ρ,Q,sm,r1,r2,q,k⟩=>?_
 unfold xw at q;split at q
 ·cases r1
  cases r2
  exact⟨_,_,rfl,rfl,q.1,k _ H (VQ.now sm (.int _) q.2)⟩
 ·exact q.elim
def pR(a b:Str):Bool:=decide (a.cps.toList<b.cps.toList)
def qLt:DR2:=λx y M Q=>match x,y with
 | .int i,.int j=>Q (.bl (decide (i<j))) M
 | .str a,.str b=>Q (.bl (pR a b)) M
 | _,_=>False
def qGt:DR2:=λx y M Q=>match x,y with
 | .int i,.int j=>Q (.bl (decide (j<i))) M
 | .str a,.str b=>Q (.bl (pR b a)) M
 | _,_=>False
def qGe:DR2:=λx y M Q=>match x,y with
 | .int i,.int j=>Q (.bl (decide (j<=i))) M
 | .str a,.str b=>Q (.bl (!pR a b)) M
 | _,_=>False
def Gj:OpD X (compareOp .Lt) qLt:=by
 intro pins s σ H vx vy v u R I rx ry ⟨x,y,M,ρ,Q,sm,r1,r2,q,k⟩;unfold qLt at q;split at q
 ·cases r1
  cases r2
  exact op_lt pins s σ H _ _ v u R I rx ry ⟨_,_,rfl,rfl,k _ H (VQ.now sm (.bl _) q)⟩
 ·cases r1
  cases r2
  obtain⟨t,rfl⟩:=rx;obtain⟨t',rfl⟩:=ry;exact PySem.P.lt_str (fB I sm k q)
 ·exact q.elim
def od_gt:OpD X (compareOp .Gt) qGt:=by
 intro pins s σ H vx vy v u R I rx ry ⟨x,y,M,ρ,Q,sm,r1,r2,q,k⟩;unfold qGt at q;split at q
 ·cases r1
  cases r2
  exact op_gt pins s σ H _ _ v u R I rx ry ⟨_,_,rfl,rfl,k _ H (VQ.now sm (.bl _) q)⟩
 ·cases r1
  cases r2
  obtain⟨t,rfl⟩:=rx;obtain⟨t',rfl⟩:=ry;exact PySem.P.gt_str (fB I sm k q)
 ·exact q.elim
def od_ge:OpD X (compareOp .GtE) qGe:=by
 intro pins s σ H vx vy v u R I rx ry ⟨x,y,M,ρ,Q,sm,r1,r2,q,k⟩;unfold qGe at q;split at q
 ·cases r1
  cases r2
  exact op_ge pins s σ H _ _ v u R I rx ry ⟨_,_,rfl,rfl,k _ H (VQ.now sm (.bl _) q)⟩
 ·cases r1
  cases r2
  obtain⟨t,rfl⟩:=rx;obtain⟨t',rfl⟩:=ry;exact PySem.P.ge_str (fB I sm k q)
 ·exact q.elim
def qIs:DR2:=λx y M Q=>match x,y with
 | .bl a,.bl b=>Q (.bl (a==b)) M
 | .non,.non=>Q (.bl true) M
 | _,.non=>Q (.bl false) M
 | _,_=>False
def CM{K:AA6}{ρ:List Addr}{H:Hp}{x:D}{v:V}(r:Rep K ρ H x v)(h:x≠.non):v≠.non:=by
 cases r<;>first | exact absurd rfl h | (intro z;cases z)
def od_is:OpD X (compareOp .Is) qIs:=by
 intro pins s σ H vx vy v u R I rx ry ⟨x,y,M,ρ,Q,sm,r1,r2,q,k⟩;unfold qIs at q;split at q
 ·cases r1
  cases r2
  cases rx
  cases ry
  exact is_bool (fB I sm k q)
 ·cases r1
  cases r2
  cases rx
  cases ry
  exact is_none_gen (dfin (d:=.bl true) I sm k rfl rfl q)
 ·rename_i h1 h2
  cases r2
  cases ry
  refine is_none_gen (dfin (d:=.bl false) I sm k rfl ?_ q);have:=CM r1 λz=>by subst z;exact h2 rfl
  rw[rx.none_iff,dF_ this];rfl
 ·exact q.elim
def tyD(M:Mem):D->String
 | .non=>"NoneType"
 | .bl _=>"bool"
 | .int _=>"int"
 | .str _=>"str"
 | .ty _=>"type"
 | .tup _=>"tuple"
 | .ref n=>match M[n]? with
  | some mo=>if mo.isL=true then "list" else "?"
  | none=>"?"
def mK:DRA:=λds M Q=>match ds with
 | [.str x]=>x.length<=sizeLine/\Q (.int x.length) M
 | [.tup xs]=>Q (.int xs.length) M
 | [.ref n]=>∃xs,ak M n xs/\Q (.int xs.length) M
 | _=>False
def HQ:jC X (.builtin "len") mK:=by
 refine hW.imp (rF.or rE) λvs H R ⟨ds,M,ρ,Q,sm,rs,q,k⟩=>?_
 unfold mK at q;split at q
 ·first | have hzz:=Reps.inv_cons rs | have hzz:=au.inv_cons rs
  clear rs;obtain⟨_,_,rfl,r1,rs⟩:=hzz;cases rs
  cases r1
  exact .inr ⟨_,rfl,q.1,k _ H (VQ.now sm (.int _) q.2)⟩
 ·first | have hzz:=Reps.inv_cons rs | have hzz:=au.inv_cons rs
  clear rs;obtain⟨_,_,rfl,r1,rs⟩:=hzz;cases rs
  cases r1 with
  | tup h r=>exact .inl ⟨_,_,rfl,.inr h,k _ H (VQ.now sm (by rw[<-r.length];exact .int _) q)⟩
 ·obtain⟨xs,hL,q⟩:=q
  first | have hzz:=Reps.inv_cons rs | have hzz:=au.inv_cons rs
  clear rs;obtain⟨_,_,rfl,r1,rs⟩:=hzz;cases rs
  obtain⟨_,rfl,e⟩:=Rep.inv_ref r1;obtain⟨ws,hq,r⟩:=ak.seq sm hL e;exact .inl ⟨_,_,rfl,.inl hq,k _ H (VQ.now sm (by rw[<-r.length];exact .int _) q)⟩
 ·exact q.elim
end
end L2
namespace L2
open PySem PySem.Spec PyProof.Rows DL _root_.HT
section
variable{prog:Program}{w:World}{A:Around}{E:Value->Shared->Prop}{s:Shared}
theorem oH{t sl:Addr}{items:Array Value}{vl vu:Value}{lo hi:Option Int}{Q:Value->Shared->Prop}(ht:IsTup s.heap t items)(hs:s.heap.IsSliceOf sl vl vu .none)(pl:IsPart vl lo)(pu:IsPart vu hi)
  (hw:sIx items.size 0 lo=0/\sIx items.size items.size hi=items.size) (h:Q (.ref t) s):wpAny (model prog w) A (getItem (.ref t) (.ref sl)) Q E s:=by
 obtain⟨os,hos,hcs,hds⟩:=id hs;have hTs:s.TypeIs (.ref sl) "slice":=⟨os,hos,hcs⟩;unfold getItem
 try with_reducible refine AAZ ?_
 first | refine AA0 (AA2 ?_) | skip
 refine AA0 (ADI ht.typeIs (by decide) (AA0 (AAq (name:=AA1 "__getitem__") ht.typeIs ABI (AAp ABI ht.typeIs entry_tuple_getitem ?_ (args_tuple_getitem _ _)))))
 refine(show wpAny (model prog w) _ (ACU (.ref t) >>= _) _ _ s from AA0 (tupleItemsOf_ ht (AA0 (ACO hTs ?_))));rw[if_pos (by decide)]
 refine AA0 (eJ hs pl pu ?_);refine(show wpAny (model prog w) _ (if (((sIx items.size 0 lo:Nat):Int)==0&&(1:Int)==1&&(sIx items.size items.size hi-sIx items.size 0 lo)==items.size)=true then _ else _) _ _ s from ?_);rw[if_pos (by rw[hw.1,hw.2];simp)]
 unfold Builtin.Tuple.tupleIsExact;refine AA0 (AA0 (ACO ht.typeIs (AA2 ?_)));rw[if_pos (by decide)]
 exact AA0 (ABU (AA2 ⟨_,rfl,AA2 h⟩))
end
end L2
namespace L2
open PySem PySem.Spec PyProof.Rows DL
section
variable{X:Cx}{a b:Expr}{ta tb:DTE}{pos:Pos}
def IxR.imp(h:IxR X r')(i:∀x y H R,r x y H R->r' x y H R):IxR X r:=λvalue slice pins s σ H x y v u R I rx ry q hs=>h value slice pins s σ H x y v u R I rx ry (i x y H R q) hs
def Reps.atI{K:AA6}{ρ:List Addr}{H:Hp}{ds:List D}{vs:List V}{i:Int}{d:D}(r:Reps K ρ H ds vs)(h:L2.atI ds i=some d):∃v,L2.atI vs i=some v/\Rep K ρ H d v:=by
 unfold L2.atI at h ⊢;rw[r.length]at h;cases e:ixN vs.length i with
 | none=>rw[e]at h;cases h
 | some j =>
  rw[e]at h;obtain⟨v,hv,rv⟩:=r.get (show ds[j]?=some d from h);exact⟨v,hv,rv⟩
def qIx:DR2:=λx y M Q=>match x,y with
 | .tup xs,.int i=>match L2.atI xs i with
  | some d=>Q d M
  | none=>False
 | .str z,.int i=>z.length<=sizeLine/\match L2.atI z.cps.toList i with
  | some c=>Q (.str ⟨#[c]⟩) M
  | none=>False
 | .ref n,.int i=>∃xs,ak M n xs/\match L2.atI xs i with
  | some d=>Q d M
  | none=>False
 | _,_=>False
def DV:IxR X (lowR X.K qIx):=by
 refine IxR.imp GL λvx vy H R ⟨x,y,M,ρ,Q,sm,r1,r2,q,k⟩=>?_
 unfold qIx at q;split at q
 ·rename_i xs i
  split at q
  ·rename_i d e
   cases r2
   obtain⟨_,_,rfl,h,r⟩:=Rep.inv_tup r1;obtain⟨v,hv,rv⟩:=r.atI e;exact .inr (.inl ⟨_,_,_,v,rfl,rfl,h,hv,k _ H (VQ.now sm rv q)⟩)
  ·exact q.elim
 ·rename_i z i
  obtain⟨hz,q⟩:=q;split at q
  ·rename_i c e
   cases r2
   cases r1
   exact .inr (.inr ⟨z,i,c,rfl,rfl,hz,e,k _ H (VQ.now sm (.str _) q)⟩)
  ·exact q.elim
 ·rename_i n i
  obtain⟨xs,hL,q⟩:=q;split at q
  ·rename_i d e
   cases r2
   obtain⟨_,rfl,hn⟩:=Rep.inv_ref r1;obtain⟨vs,hq,r⟩:=ak.seq sm hL hn;obtain⟨v,hv,rv⟩:=r.atI e;exact .inl ⟨_,_,_,v,rfl,rfl,hq,hv,k _ H (VQ.now sm rv q)⟩
  ·exact q.elim
 ·exact q.elim
def d_ix(ha:DE X a ta)(hb:DE X b tb)(hs:sZ b:=by intro _ _;rfl):DE X (.Subscript a b pos) (dOp qIx ta tb):=PE.imp (pe_ix DV ha hb hs) oj
abbrev DTO:=SD->Mem->(Option Int->Mem->Prop)->Prop
def Gs(K:AA6)(t:DTO):TO:=λσ H R=>∃S M ρ Q,Sim K ρ M H/\SRep K ρ H S σ/\t S M Q/\∀o H',(∃M' ρ',Sim K ρ' M' H'/\Grow K ρ H ρ' H'/\Q o M')->R o H'
def fE:DTO:=λ_ M Q=>Q none M
def jA(t:DTE):DTO:=λS M Q=>t S M λx M1=>match x with
 | .int i=>Q (some i) M1
 | _=>False
def PO.imp(h:PO X e t')(i:∀σ H R,t σ H R->t' σ H R):PO X e t:=λpins s σ H R I q=>h pins s σ H R I (i σ H R q)
def Er:PO X none (Gs X.K fE):=PO.imp Dc λσ H R ⟨S,M,ρ,Q,s,sr,q,k⟩=>k none H ⟨M,ρ,s,.refl,q⟩
def Ep(h:DE X e te):PO X (some e) (Gs X.K (jA te)):=by
 refine PO.imp (Db h) λσ H R ⟨S,M,ρ,Q,s,sr,q,k⟩=>⟨S,M,ρ,_,s,sr,q,λv H1 ⟨d,M1,ρ1,s1,g1,r1,q1⟩=>?_⟩
 cases r1 with
 | int i=>exact⟨i,rfl,k _ H1 ⟨M1,ρ1,s1,g1,q1⟩⟩
 | _=>exact q1.elim
def Fp:SlR X (λx lo hi H Q=>∃z,x=.str z/\z.length<=sizeLine/\Q (.str (AER z lo hi)) H):=by
 intro pins s σ H x v vl vu lo hi sl Q I rx hs pl pu h;obtain⟨z,rfl,hz,q⟩:=h;obtain⟨t,rfl⟩:=rx;have part:∀{v:Value}{o:Option Int},IsPart v o->∃p:Option (Int×Tok),v=partValue p/\p.map (·.1)=o:=λh=>by
  cases h with
  | none=>exact⟨none,rfl,rfl⟩
  | int i t=>exact⟨some (i,t),rfl,rfl⟩
 obtain⟨p1,rfl,e1⟩:=part pl;obtain⟨p2,rfl,e2⟩:=part pu;subst e1 e2;refine⟨"str",_,slot_str_getitem.lookup,typeIs_str _ _ _,wpAny_getItem_str_slice (l:=p1) (u:=p2) (st:=none) hs rfl ?_⟩;exact post_val_or_str ⟨AB3 (Txt.slice_le z _ _) hz,λt' k=>⟨.str _,H,I.tok k,⟨t',rfl⟩,q⟩⟩
def cutD(xs:List D)(lo hi:Option Int):List D:=(xs.drop (HT.sIx xs.length 0 lo)).take (HT.sIx xs.length xs.length hi-HT.sIx xs.length 0 lo)
def Reps.cutD{K:AA6}{ρ:List Addr}{H:Hp}{ds:List D}{vs:List V}(r:Reps K ρ H ds vs)(lo hi:Option Int):Reps K ρ H (L2.cutD ds lo hi) (Cm vs lo hi):=by
 unfold L2.cutD Cm;rw[r.length];exact(r.drop _).take _
def qSl:D->Option Int->Option Int->Mem->DK->Prop:=λx lo hi M Q=>match x with
 | .str z=>z.length<=sizeLine/\Q (.str (AER z lo hi)) M
 | .ref n=>∃xs,ak M n xs/\Q (.ref M.length) (M++[.lst (cutD xs lo hi)])
 | .tup xs=>Q (.tup (cutD xs lo hi)) M
 | _=>False
def lowSl(K:AA6)(r:D->Option Int->Option Int->Mem->DK->Prop):V->Option Int->Option Int->Hp->VK->Prop:=λvx lo hi H R=>∃x M ρ Q,Sim K ρ M H/\Rep K ρ H x vx/\r x lo hi M Q/\∀v H',VQ K ρ H Q v H'->R v H'
def sld:SlR X (lowSl X.K qSl):=by
 intro pins s σ H x v vl vu lo hi sl R I rx hs pl pu ⟨d,M,ρ,Q,sm,r1,q,k⟩;unfold qSl at q;split at q
 ·cases r1
  exact Fp pins s σ H _ v vl vu lo hi sl R I rx hs pl pu ⟨_,rfl,q.1,k _ H (VQ.now sm (.str _) q.2)⟩
 ·obtain⟨xs,hL,q⟩:=q
  obtain⟨_,rfl,hn⟩:=Rep.inv_ref r1;obtain⟨vs,hq,r⟩:=ak.seq sm hL hn;exact CG pins s σ H _ v vl vu lo hi sl R I rx hs pl pu ⟨_,vs,rfl,hq,λp hp=>k _ _ (VQ.laidL sm .refl (r.cutD lo hi) hp q)⟩
 ·obtain⟨_,_,rfl,h,r⟩:=Rep.inv_tup r1
  rename_i xs a vs;by_cases hw:HT.sIx xs.length 0 lo=0/\HT.sIx xs.length xs.length hi=xs.length
  ·cases rx
   obtain⟨its,rr,ht,hz⟩:=I.tuple h;have hlen:its.toArray.size=xs.length:=by rw[AAD,r.length];exact rr.length.symm
   have e:L2.cutD xs lo hi=xs:=by unfold L2.cutD;rw[hw.1,hw.2,List.drop_zero,Nat.sub_zero,ABi]
   rw[e]at q;exact⟨"tuple",_,ABI.lookup,ht.typeIs,oH ht hs pl pu (by rw[hlen];exact hw) ⟨.ref _,H,I,rfl,k _ H (VQ.now sm (.tup h r) q)⟩⟩
  ·exact Fo pins s σ H _ v vl vu lo hi sl R I rx hs pl pu ⟨_,_,rfl,h,by rw[<-r.length];exact hw,λp hp=>k _ _ (VQ.laidT sm .refl (r.cutD lo hi) hp q)⟩
 ·exact q.elim
def dSl(te:DTE)(tl th:DTO):DTE:=λS M Q=>te S M λx M1=>tl S M1 λl M2=>th S M2 λu M3=>qSl x l u M3 Q
def Ey{e:Expr}{te:DTE}{lo hi:Option Expr}{tl th:DTO}{p2:Pos}(he:DE X e te)(hl:PO X lo (Gs X.K tl))(hu:PO X hi (Gs X.K th)):DE X (.Subscript e (.Slice lo hi none p2) pos) (dSl te tl th):=by
 refine PE.imp (Ab sld he hl hu) λσ H R ⟨S,M,ρ,Q,s,sr,q,k⟩=>⟨S,M,ρ,_,s,sr,q,λv H1 ⟨d,M1,ρ1,s1,g1,r1,q1⟩=>⟨S,M1,ρ1,_,s1,sr.grow g1,q1,λl H2 ⟨M2,ρ2,s2,g2,q2⟩=>⟨S,M2,ρ2,_,s2,sr.grow (g1.trans g2),q2,λu H3 ⟨M3,ρ3,s3,g3,q3⟩=>?_⟩⟩⟩
 exact⟨d,M3,ρ3,Q,s3,r1.grow (g2.trans g3),q3,λv H' w=>k v H' (VQ.trans ((g1.trans g2).trans g3) w)⟩
def nL:DR2:=λx y M Q=>match x,y with
 | .int i,.int j=>CMul i j/\Q (.int (i*j)) M
 | .str z,.int n=>(0<=n/\n<2 ^ 63/\z.length*n.toNat<=sizeLine)/\Q (.str (Txt.mul z n)) M
 | _,_=>False
def sw(h0:0<=n)(h:z.length*n.toNat<=sizeLine)(hn:n<2 ^ 63):MulOk z n:=by
 refine⟨?_,λh1 h2=>?_,λh1 h2=>?_⟩
 ·have e1:decide (n < -(2 ^ 63:Int))=false:=dF_ (by lia)
  have e2:decide (n ≥ 2 ^ 63)=false:=dF_ (by lia)
  rw[e1,e2];rfl
 ·have hz:(z.length:Int)*n<=2 ^ 24:=by
   have e:((z.length*n.toNat:Nat):Int)=(z.length:Int)*n:=by
    rw[Int.natCast_mul,Int.toNat_of_nonneg h0]
   have h':((z.length*n.toNat:Nat):Int)<=(2 ^ 24:Nat):=Int.ofNat_le.mpr h;rw[e]at h';exact h'
  have hpos:0<n:=by lia
  intro hgt;have:=Int.lt_of_lt_of_le (Int.lt_mul_of_ediv_lt hpos hgt) hz;lia
 ·unfold PySem.Builtin.Str.tooLong
  simpa using h
def Dt:OpD X (binaryOp .Mult) nL:=by
 intro pins s σ H vx vy v u R I rx ry ⟨x,y,M,ρ,Q,sm,r1,r2,q,k⟩;unfold nL at q;split at q
 ·cases r1
  cases r2
  exact FW pins s σ H _ _ v u R I rx ry ⟨_,_,rfl,rfl,q.1,k _ H (VQ.now sm (.int _) q.2)⟩
 ·rename_i z n
  cases r1
  cases r2
  obtain⟨t,rfl⟩:=rx;obtain⟨t',rfl⟩:=ry;obtain⟨⟨h0,h2,h1⟩,q⟩:=q;exact PySem.SB.mul (sw h0 h1 h2) λt' j=>⟨.str _,H,I.tok j,⟨t',rfl⟩,k _ H (VQ.now sm (.str _) q)⟩
 ·exact q.elim
variable{o e:Expr}{es:List Expr}{to:DTE}{t:DTA}{name:Str}{apos cpos:Pos}{id:String}
def lowMs(K:AA6)(r:Str->DRA):V->List V->Hp->VK->Prop:=λvx vs H R=>∃z ds M ρ Q,vx=.str z/\Sim K ρ M H/\Reps K ρ H ds vs/\r z ds M Q/\∀v H',VQ K ρ H Q v H'->R v H'
def lK(K:AA6)(r:Nat->DRA):V->List V->Hp->VK->Prop:=λvx vs H R=>∃n a ds M ρ Q,vx=.ref a/\ρ[n]?=some a/\Sim K ρ M H/\Reps K ρ H ds vs/\r n ds M Q/\∀v H',VQ K ρ H Q v H'->R v H'
def dMl(r:Nat->DRA)(to:DTE)(t:DTA):DTE:=λS M Q=>to S M λx M1=>match x with
 | .ref n=>(∃xs,ak M1 n xs)/\t S M1 λds M2=>r n ds M2 Q
 | _=>False
theorem d_ml(slot:Slot "list" name id)(hty:typeOf (.builtin id)=pure (.type "method_descriptor"))(hm:MtR X id (lK X.K r))(ho:DE X o to)(ha:DA X (e::es) t)
  (hbase:attributeBase o name X.env (eval o X.env)=eval o X.env:=by rfl)
  (hfew:((backTo cpos (starEach (e::es) X.env)).all (λx=>!x.1)&&(backToKw cpos (keywordEach [] X.env)).all (λx=>x.1.isSome)
   && decide ((e::es).length+([]:List Keyword).length+(if ([]:List Keyword).isEmpty then 0 else 1)<30))=true:=by rfl)
  (hline:(apos.endLine==cpos.line)=true:=by rfl) (hs:starEach (e::es) X.env=(false,eval e X.env)::starEach es X.env:=by rfl) (hplain:(backTo cpos (starEach es X.env)).any (·.1)=false:=by rfl) :
  DE X (.Call (.Attribute o name apos) (e::es) [] cpos) (dMl r to t):=by
 refine PE.imp (pe_bm PySem.F.plainAttrs_list slot hty hm ho ha hbase hfew hline hs hplain) λσ H R ⟨S,M,ρ,Q,s,sr,q,k⟩=>⟨S,M,ρ,_,s,sr,q,λv H1 ⟨d,M1,ρ1,s1,g1,r1,q1⟩=>?_⟩
 cases r1 with
 | @ref n a hn =>
  obtain⟨⟨xs,hL⟩,q1⟩:=(show (∃xs,ak M1 n xs)/\t S M1 _ from q1);obtain⟨vs,hq,_⟩:=ak.seq s1 hL hn;exact⟨.inl ⟨rfl,vs,hq⟩,S,M1,ρ1,_,s1,sr.grow g1,q1,λvs H2 ⟨ds,M2,ρ2,s2,g2,r2,q2⟩=>⟨n,a,ds,M2,ρ2,Q,rfl,am g2.pre hn,s2,r2,q2,λv H' w=>k v H' (VQ.trans (g1.trans g2) w)⟩⟩
 | _=>exact q1.elim
def cH(n:Nat):DRA:=λds M Q=>match ds with
 | [d]=>∃xs,M[n]?=some (.lst xs)/\xs.length<sizeLine/\Q .non (M.set n (.lst (xs++[d])))
 | _=>False
def vM:MtR X "list.append" (lK X.K cH):=by
 intro pins s σ H x xs v us R I rx rs ⟨n,a,ds,M,ρ,Q,ez,hn,sm,rr,q,k⟩;unfold cH at q;split at q
 ·rename_i d
  obtain⟨ys,e,hl,q⟩:=q;first | have hzz:=Reps.inv_cons rr | have hzz:=au.inv_cons rr
  clear rr;obtain⟨_,_,rfl,r1,rr⟩:=hzz;cases rr
  obtain⟨vs,hH,r⟩:=sm.obj n a _ hn e;obtain⟨w1,w2⟩:=sm.write hn e hH (r.append (.cons r1 .nil));exact xS pins s σ H x _ v us R I rx rs ⟨a,vs,_,ez,rfl,hH,by rw[<-r.length];exact hl,k _ _ ⟨.non,_,ρ,w1,w2,.non,q⟩⟩
 ·exact q.elim
end
def cS(K:AA6)(mg:Str->Option Value)(x:Str)(st:Stmt)(ps:List Str):Prop :=
 ∃f fd,Fun K x x st f fd/\mg x=some (.ref f)/\rP K fd ps []
def Cal(P:Program)(w:World)(K:AA6)(mg:Str->Option Value)(base:Heap)(k:Nat)(x:Str)(ps:List Str)(Pr:DSp):Prop :=
 ∃f fd,FnOk P w K mg base CX0 k f fd ps (spL K Pr)/\mg x=some (.ref f)/\ACf K (.ref f)=true/\rP K fd ps []
def fnat_mk{K:AA6}{h:Heap}{mg:Str->Option Value}{x:Str}{st:Stmt}{ps:List Str}{f:Addr}{oc:Value}{od an:Option Addr}{osl:Array (Option Value)}{kV doc pm cdv ct:Value}
  (X:K.In h) (G:h.Ns mainGlobals mg) (a:PySem.W.nsIn K mainGlobals x=some (some (.ref f)))
  (l:K.lookup f=some ⟨oc,od,.func (ACr x x (gZ st) (bE st) (ap st) .none kV doc pm an cdv ct),osl⟩)
  (c:AEd K cdv x=true) (k:ACf K (.ref f)=true)
  (h:∀(kV doc pm:Value) (an:Option Addr) (cdv ct:Value) (us:List Value),us.length=ps.length->bindArgs (ACr x x (gZ st) (bE st) (ap st) .none kV doc pm an cdv ct) ⟨us,[]⟩=pure (ps.zip us)):cS K mg x st ps :=
 have F:=GX (st:=st) l c k
 ⟨f,_,F,PySem.W.mg_of X G a,F.binds h⟩
def Cal.of{P:Program}{w:World}{K:AA6}{mg:Str->Option Value}{base:Heap}{x:Str}{st:Stmt}{N ps:List Str}{k:Nat}{Pr:DSp}(F:cS K mg x st ps)(Sc:FnScope N ps (ap st))
  (len:∀ds M R,Pr ds M R->ds.length=ps.length) {t:DTS}
  (der:∀(f:Addr) (cdv:Value) (A:Around) (outer:List Env) (s:Shared) (H:Hp) (E:XK),Room k (A.deeper (envOfC x (ap st) s.heap.objs.size f cdv))->DSs (rC CX0 P w K mg base N x (ap st) f cdv A outer s H E).nox (bE st) t)
  (wp:∀ds M R,Pr ds M R->t ⟨λ_ M'=>bI M R .non M',bI M R,λ_ _=>False,λ_ _=>False⟩ (cb N ds) M):Cal P w K mg base (k+1) x ps Pr:=by
 obtain⟨f,fd,F1,hm,hb⟩:=F;exact⟨f,fd,d_fn Pr F1 Sc len λcdv A outer s H E hr=>⟨t,der f cdv A outer s H E hr,wp⟩,hm,F1.kp,hb⟩
def Ee{P:Program}{w:World}{K:AA6}{mg:Str->Option Value}{base:Heap}{x:Str}{st:Stmt}{N ps:List Str}{k:Nat}{Pr:DSp}{f:Addr}{fd:FuncData}(F:Fun K x x st f fd)(Sc:FnScope N ps (ap st))
  (len:∀ds M R,Pr ds M R->ds.length=ps.length) {t:DTS}
  (der:∀(f:Addr) (cdv:Value) (A:Around) (outer:List Env) (s:Shared) (H:Hp) (E:XK),Room k (A.deeper (envOfC x (ap st) s.heap.objs.size f cdv))->DSs (rC CX0 P w K mg base N x (ap st) f cdv A outer s H E).nox (bE st) t)
  (wp:∀ds M R,Pr ds M R->t ⟨λ_ M'=>bI M R .non M',bI M R,λ_ _=>False,λ_ _=>False⟩ (cb N ds) M):FnOk P w K mg base CX0 (k+1) f fd ps (spL K Pr) :=
 d_fn Pr F Sc len λcdv A outer s H E hr=>⟨t,der f cdv A outer s H E hr,wp⟩
section
variable{X:Cx}{e:Expr}{es:List Expr}{t:DTA}{pos:Pos}
def d_cal(C:Cal X.prog X.w X.K X.mg X.base j x ps P)(hr:Room k X.A)(ha:DA X (e::es) t)(hj:j<=k:=by decide)
  (hg:Gl X x:=by rfl) (hdb:(x==("__debug__":Str))=false:=by decide) (he:starEach (e::es) X.env=(false,eval e X.env)::starEach es X.env:=by rfl) (hpl:(backTo pos (starEach es X.env)).any (·.1)=false:=by rfl) :
  DE X (.Call (.Name x p) (e::es) [] pos) (dCB P t):=by
 obtain⟨f,fd,F,hm,hk,hb⟩:=C;exact HM F (hr.mono hj) hm hk hb ha hg hdb he hpl
end
def qv(h:M[n]?=some mo)(hl:mo.isL=true):ak M n mo.items:=by
 cases mo with
 | lst xs=>exact .inl h
 | fz xs=>exact .inr (.inl h)
 | kl xs=>exact .inr (.inr h)
 | dct xs=>cases hl
 | dkt xs=>cases hl
 | dkq xs=>cases hl
 | fdc o xs=>cases hl
 | dkm xs=>cases hl
 | tb x b=>cases hl
def ir{K:AA6}{ρ:List Addr}{H:Hp}:∀(ns:List Int),Reps K ρ H (ns.map D.int) (ns.map V.int)
 | []=>.nil
 | n::ns=>.cons (.int n) (ir ns)
def ng(nm:List (Str×NameKind))(N N':List Str)(nt:Nat)(js:List Nat)(sc:Scope):Bool :=
 sc.kind==.function&&sc.names.all (λy=>y.2 != .cell&&(y.2 != .local||sc.names.lookup y.1==some .local)&&(y.2 != .free||(nm.lookup y.1==some .cell||nm.lookup y.1==some .free))) &&
 N'.length==nt+js.length&&(AAu js.length).all λk=>match js[k]?,N'[nt+k]? with
  | some j,some x=>N[j]?==some x&&sc.names.lookup x==some .free&&(nm.lookup x==some .cell||nm.lookup x==some .free)
  | _,_=>false
def BlkSc.chk(h:ng X.env.scope.names X.N N' nt js scope=true):BlkSc X N' nt js scope:=by
 unfold ng at h;simp only[AAY,AAh,beq_iff_eq,AES,bne_iff_ne]at h;obtain⟨⟨⟨h1,h2⟩,h3⟩,h4⟩:=h;refine⟨h1,λy hy=>(h2 y hy).1.1,λy hy e=>((h2 y hy).1.2.resolve_left (λz=>z e)),λy hy e=>((h2 y hy).2.resolve_left (λz=>z e)),h3,λk j e=>?_⟩
 have hk:k<js.length:=(AA7.mp e).1;have q:=h4 k (AB2.mpr hk);rw[e]at q;cases f:N'[nt+k]? with
 | none=>rw[f]at q;exact absurd q (by simp)
 | some x =>
  rw[f]at q;simp only[AAY,beq_iff_eq,AES]at q;exact⟨x,rfl,q.1.1,q.1.2,q.2⟩
def eqL(f:D->D->Bool):List D->List D->Bool
 | [],[]=>true
 | x::xs,y::ys=>f x y&&eqL f xs ys
 | _,_=>false
def eqD(M:Mem):Nat->D->D->Bool
 | _,.non,.non=>true
 | _,.bl a,.bl b=>a==b
 | _,.bl a,.int b=>(if a then 1 else 0)==b
 | _,.int a,.bl b=>a==(if b then 1 else 0)
 | _,.int a,.int b=>a==b
 | _,.str a,.str b=>a==b
 | n+1,.tup xs,.tup ys=>eqL (eqD M n) xs ys
 | n+1,.ref i,.ref j=>match M[i]?,M[j]? with
  | some a,some b=>eqL (eqD M n) a.items b.items
  | _,_=>false
 | _,_,_=>false
def okD(M:Mem):Nat->D->Bool
 | _,.ty _=>false
 | n+1,.tup xs=>xs.all (okD M n)
 | n+1,.ref i=>match M[i]? with
  | some a=>a.isL&&a.items.all (okD M n)
  | none=>false
 | 0,.tup _=>false
 | 0,.ref _=>false
 | _,_=>true
def yT:∀{xs ys:List D},eqL f xs ys=true->xs.length=ys.length
 | [],[],_=>rfl
 | [],_::_,h=>by simp[eqL]at h
 | _::_,[],h=>by simp[eqL]at h
 | x::xs,y::ys,h=>by
  simp only[eqL,AAY]at h;rw[AAN,AAN,yT h.2]
def zu(n:Nat)(e:Nat->Bool):(AAu (n+1)).all e=(e 0&&(AAu n).all λj=>e (j+1)):=by
 rw[List.range_succ_eq_map,ABT,List.all_map];rfl
def kZ:∀{xs ys:List D}{e:Nat->Bool},xs.length=ys.length->(∀(j:Nat) x y,xs[j]?=some x->ys[j]?=some y->e j=f x y)->(AAu xs.length).all e=eqL f xs ys
 | [],[],e,_,_=>by simp[eqL]
 | [],_::_,_,h,_=>by simp at h
 | _::_,[],_,h,_=>by simp at h
 | x::xs,y::ys,e,h,he=>by
  rw[AAN,zu,eqL,he 0 x y rfl rfl,kZ (by simpa using h) λj x' y' h1 h2=>he (j+1) x' y' (by simpa using h1) (by simpa using h2)]
def yS(h:xs.length≠ys.length):eqL f xs ys=false:=by
 cases q:eqL f xs ys with
 | false=>rfl
 | true=>exact absurd (yT q) h
def hZ{vs:List V}{us:List Value}(h:au vs us){j:Nat}{v:V}(e:vs[j]?=some v):∃u,us[j]?=some u/\aI v u:=by
 induction h generalizing j with
 | nil=>simp at e
 | cons r _ ih =>
  cases j with
  | zero=>simp at e;subst e;exact⟨_,rfl,r⟩
  | succ j=>exact ih (by simpa using e)
section
variable{X:Cx}{pins:List (Addr×Obj)}{σ:St}{H:Hp}{s:Shared}{ρ:List Addr}{M:Mem}
def ko(I:Inv X pins σ H s)(sm:Sim X.K ρ M H){i:Nat}{a:Addr}{mo:MO}(e:ρ[i]?=some a)(hm:M[i]?=some mo)(hl:mo.isL=true):∃vs its,SqL X.K H a vs/\Reps X.K ρ H mo.items vs/\au vs its/\PlainL s.heap a its.toArray:=by
 obtain⟨vs,hq,r⟩:=ak.seq sm (qv hm hl) e;obtain⟨its,rr,pl,_⟩:=I.list hq;exact⟨vs,its,hq,r,rr,pl⟩
def dj(hm:M[i]?=some mo)(o:okD M (n+1) (.ref i)=true):mo.isL=true/\mo.items.all (okD M n)=true:=by
 have o':(match M[i]? with | some a=>a.isL&&a.items.all (okD M n) | none=>false)=true:=o
 rw[hm]at o';exact(AAY _ _).mp o'
def AR(I:Inv X pins σ H s)(sm:Sim X.K ρ M H):∀(n:Nat) (x y:D) (v:V),Rep X.K ρ H x v->Rep X.K ρ H y v->okD M n x=true->okD M n y=true->eqD M n x y=true:=by
 have all:∀(n:Nat),(∀(x y:D) (v:V),Rep X.K ρ H x v->Rep X.K ρ H y v->okD M n x=true->okD M n y=true->eqD M n x y=true) ->
   ∀(xs ys:List D) (vs:List V),Reps X.K ρ H xs vs->Reps X.K ρ H ys vs->xs.all (okD M n)=true->ys.all (okD M n)=true->eqL (eqD M n) xs ys=true:=by
  intro n ih xs;induction xs with
  | nil=>intro ys vs h1 h2 _ _;cases h1;cases h2;rfl
  | cons x xs hi =>
   intro ys vs h1 h2 o1 o2;cases h1 with
   | cons r1 t1 =>
    cases h2 with
    | cons r2 t2 =>
     rw[ABT,AAY]at o1 o2;rw[eqL,ih _ _ _ r1 r2 o1.1 o2.1,hi _ _ t1 t2 o1.2 o2.2];rfl
 intro n;induction n with
 | zero =>
  intro x y v h1 h2 o1 o2;cases h1<;>cases h2<;>first | (simp[okD]at o1;done) | rfl | simp[eqD]
 | succ n ih =>
  intro x y v h1 h2 o1 o2;cases h1 with
  | non=>cases h2;rfl
  | bl b=>cases h2;simp[eqD]
  | int b=>cases h2;simp[eqD]
  | str b=>cases h2;simp[eqD]
  | ty b=>simp[okD]at o1
  | @tup a vs ds hq r =>
   cases h2 with
   | tup hq' r' =>
    have e:=I.tuple_inj hq hq';subst e;exact all n ih _ _ _ r r' (by simpa [okD]using o1) (by simpa [okD]using o2)
   | @ref i _ e =>
    exfalso
    obtain⟨its,_,⟨o,e1,e2,_⟩,_⟩:=I.tuple hq;have hi:i<M.length:=by rw[<-sm.len];exact(AA7.mp e).1
    obtain⟨vs',its',_,_,_,⟨o',n',f1,f2,_⟩⟩:=ko I sm e (AA5 hi) (dj (AA5 hi) o2).1;rw[e1]at f1;cases f1;rw[e2]at f2;injection f2 with f3;exact absurd f3 (by decide)
  | @ref i a e =>
   have hi:i<M.length:=by rw[<-sm.len];exact(AA7.mp e).1
   have hm:=AA5 hi;obtain⟨vs,its,hq,r,rr,pl⟩:=ko I sm e hm (dj hm o1).1;cases h2 with
   | tup hq' r' =>
    exfalso
    obtain⟨its',_,⟨o,e1,e2,_⟩,_⟩:=I.tuple hq';obtain⟨o',n',f1,f2,_⟩:=pl;rw[e1]at f1;cases f1;rw[e2]at f2;injection f2 with f3;exact absurd f3 (by decide)
   | @ref j _ e' =>
    have hj:j<M.length:=by rw[<-sm.len];exact(AA7.mp e').1
    have hm':=AA5 hj;obtain⟨vs',its',hq',r',rr',pl'⟩:=ko I sm e' hm' (dj hm' o2).1;have ev:vs=vs':=I.list_inj hq hq';subst ev;have o1':=(dj hm o1).2;have o2':=(dj hm' o2).2;simp only[eqD,hm,hm'];exact all n ih _ _ _ r r' o1' o2'
def jo(I:Inv X pins σ H s)(sm:Sim X.K ρ M H):∀(n:Nat) (A:Around) (x y:D) (vx vy:V) (u v:Value),A.units+n<cLine->Rep X.K ρ H x vx->aI vx u->Rep X.K ρ H y vy->aI vy v->okD M n x=true->okD M n y=true ->
  ACP A s u v (eqD M n x y)/\SeqAt.RcAt A s u v (eqD M n x y)/\SeqAt.RcNeAt A s u v (!eqD M n x y):=by
 intro n;induction n with
 | zero =>
  intro A x y vx vy u v hu r1 e1 r2 e2 o1 o2;cases r1 with
  | ty b=>simp[okD]at o1
  | tup b=>simp[okD]at o1
  | ref b=>simp[okD]at o1
  | non =>
   cases e1
   cases r2 with
   | ty b=>simp[okD]at o2
   | tup b=>simp[okD]at o2
   | ref b=>simp[okD]at o2
   | non=>cases e2;exact⟨AET _,SeqAt.RcAt.none_none,SeqAt.RcNeAt.none_none⟩
   | bl b=>cases e2;exact⟨SeqAt.EqAt.none_bool _,SeqAt.RcAt.none_bool _,SeqAt.RcNeAt.none_bool _⟩
   | int b=>obtain⟨t,rfl⟩:=e2;exact⟨SeqAt.EqAt.none_int _ _,SeqAt.RcAt.none_int _ _,SeqAt.RcNeAt.none_int _ _⟩
   | str b=>obtain⟨t,rfl⟩:=e2;exact⟨SeqAt.EqAt.none_str _ _,SeqAt.RcAt.none_str _ _,SeqAt.RcNeAt.none_str _ _⟩
  | bl a =>
   cases e1
   cases r2 with
   | ty b=>simp[okD]at o2
   | tup b=>simp[okD]at o2
   | ref b=>simp[okD]at o2
   | non=>cases e2;exact⟨SeqAt.EqAt.bool_none _,SeqAt.RcAt.bool_none _,SeqAt.RcNeAt.bool_none _⟩
   | bl b=>cases e2;exact⟨SeqAt.EqAt.bool_bool _ _,SeqAt.RcAt.bool_bool _ _,SeqAt.RcNeAt.bool_bool _ _⟩
   | int b=>obtain⟨t,rfl⟩:=e2;exact⟨SeqAt.EqAt.bool_int _ _ _,SeqAt.RcAt.bool_int _ _ _,SeqAt.RcNeAt.bool_int _ _ _⟩
   | str b=>obtain⟨t,rfl⟩:=e2;exact⟨SeqAt.EqAt.bool_str _ _ _,SeqAt.RcAt.bool_str _ _ _,SeqAt.RcNeAt.bool_str _ _ _⟩
  | int a =>
   obtain⟨t0,rfl⟩:=e1;cases r2 with
   | ty b=>simp[okD]at o2
   | tup b=>simp[okD]at o2
   | ref b=>simp[okD]at o2
   | non=>cases e2;exact⟨SeqAt.EqAt.int_none _ _,SeqAt.RcAt.int_none _ _,SeqAt.RcNeAt.int_none _ _⟩
   | bl b=>cases e2;exact⟨SeqAt.EqAt.int_bool _ _ _,SeqAt.RcAt.int_bool _ _ _,SeqAt.RcNeAt.int_bool _ _ _⟩
   | int b=>obtain⟨t,rfl⟩:=e2;exact⟨ADp _ _ _ _,SeqAt.RcAt.int_int _ _ _ _,SeqAt.RcNeAt.int_int _ _ _ _⟩
   | str b=>obtain⟨t,rfl⟩:=e2;exact⟨AD8 _ _ _ _,SeqAt.RcAt.int_str _ _ _ _,SeqAt.RcNeAt.int_str _ _ _ _⟩
  | str a =>
   obtain⟨t0,rfl⟩:=e1;cases r2 with
   | ty b=>simp[okD]at o2
   | tup b=>simp[okD]at o2
   | ref b=>simp[okD]at o2
   | non=>cases e2;exact⟨SeqAt.EqAt.str_none _ _,SeqAt.RcAt.str_none _ _,SeqAt.RcNeAt.str_none _ _⟩
   | bl b=>cases e2;exact⟨SeqAt.EqAt.str_bool _ _ _,SeqAt.RcAt.str_bool _ _ _,SeqAt.RcNeAt.str_bool _ _ _⟩
   | int b=>obtain⟨t,rfl⟩:=e2;exact⟨AD9 _ _ _ _,SeqAt.RcAt.str_int _ _ _ _,SeqAt.RcNeAt.str_int _ _ _ _⟩
   | str b=>obtain⟨t,rfl⟩:=e2;exact⟨ADq _ _ _ _,SeqAt.RcAt.str_str _ _ _ _,SeqAt.RcNeAt.str_str _ _ _ _⟩
 | succ n ih =>
  intro A x y vx vy u v hu r1 e1 r2 e2 o1 o2;have hu0:A.units<cLine:=by lia
  have hu1:A.in1.units+n<cLine:=by show A.units+1+n<cLine;lia
  -- what a list or a tuple is,as the heap has it
  have tupAt:∀{a:Addr}{vs:List V}{ds:List D},SqT X.K H a vs->Reps X.K ρ H ds vs->∃its:List Value,au vs its/\s.heap.IsTuple a its.toArray/\ds.length=its.length:=λ{a vs ds} hq r=>by
   obtain⟨its,rr,pl,_⟩:=I.tuple hq;exact⟨its,rr,pl,r.length.trans rr.length⟩
  have lstAt:∀{i:Nat}{a:Addr},ρ[i]?=some a->okD M (n+1) (.ref i)=true->∃mo,M[i]?=some mo/\∃vs its,Reps X.K ρ H mo.items vs/\au vs its/\s.heap.IsList a its.toArray/\mo.items.length=its.length:=λ{i a} e ok=>by
   have hi:i<M.length:=by rw[<-sm.len];exact(AA7.mp e).1
   have hm:=AA5 hi;obtain⟨vs,its,hq,r,rr,pl⟩:=ko I sm e hm (dj hm ok).1;exact⟨_,hm,vs,its,r,rr,pl.isList,r.length.trans rr.length⟩
  have items:∀{xs ys:List D}{vs ws:List V}{its jts:List Value},Reps X.K ρ H xs vs->au vs its->Reps X.K ρ H ys ws->au ws jts->xs.all (okD M n)=true->ys.all (okD M n)=true ->
    ∀(j:Nat) (h1:j<its.toArray.size) (h2:j<jts.toArray.size),ACP A.in1 s its.toArray[j] jts.toArray[j] (eqD M n (xs.getD j .non) (ys.getD j .non)):=λ{xs ys vs ws its jts} r1 q1 r2 q2 o1 o2 j h1 h2=>by
   have l1:j<xs.length:=by rw[r1.length,q1.length];simpa using h1
   have l2:j<ys.length:=by rw[r2.length,q2.length];simpa using h2
   obtain⟨v1,g1,p1⟩:=r1.get (AA5 l1);obtain⟨v2,g2,p2⟩:=r2.get (AA5 l2);obtain⟨u1,k1,m1⟩:=hZ q1 g1;obtain⟨u2,k2,m2⟩:=hZ q2 g2;have z1:its.toArray[j]=u1:=by
    have:=(AA7.mp k1).2;simpa using this
   have z2:jts.toArray[j]=u2:=by
    have:=(AA7.mp k2).2;simpa using this
   rw[z1,z2];have y1:xs.getD j .non=xs[j]:=by simp[AEh,AA5 l1]
   have y2:ys.getD j .non=ys[j]:=by simp[AEh,AA5 l2]
   rw[y1,y2];exact(ih A.in1 _ _ _ _ _ _ hu1 p1 m1 p2 m2 (AAh.mp o1 _ (AB5 l1)) (AAh.mp o2 _ (AB5 l2))).1
  have rng:∀(xs ys:List D),xs.length=ys.length->(AAu xs.length).all (λj=>eqD M n (xs.getD j .non) (ys.getD j .non))=eqL (eqD M n) xs ys:=λxs ys h=>kZ h λj x y h1 h2=>by
   simp[AEh,h1,h2]
  have fin:∀{a b:Addr}{k:Bool},Rep X.K ρ H x (.ref a)->Rep X.K ρ H y (.ref b)->eqD M (n+1) x y=k->SeqAt.RcAt A s (.ref a) (.ref b) k->SeqAt.RcNeAt A s (.ref a) (.ref b) (!k) ->
    ACP A s (.ref a) (.ref b) (eqD M (n+1) x y)/\SeqAt.RcAt A s (.ref a) (.ref b) (eqD M (n+1) x y)/\SeqAt.RcNeAt A s (.ref a) (.ref b) (!eqD M (n+1) x y):=λ{a b k} p1 p2 ek h1 h2=>by
   subst ek;refine⟨?_,h1,h2⟩;by_cases hab:a=b
   ·subst hab
    rw[AR I sm (n+1) x y _ p1 p2 o1 o2];exact AET _
   ·exact SeqAt.EqAt.of_refs hab h1
  cases r1 with
  | ty b=>simp[okD]at o1
  | non =>
   cases e1
   cases r2 with
   | ty b=>simp[okD]at o2
   | tup hq r=>cases e2;obtain⟨its,rr,pl,_⟩:=tupAt hq r;exact⟨SeqAt.EqAt.none_tuple pl hu0,SeqAt.RcAt.none_tuple pl hu0,SeqAt.RcNeAt.none_tuple pl hu0⟩
   | ref e=>cases e2;obtain⟨mo,hm,vs,its,r,rr,pl,_⟩:=lstAt e o2;exact⟨SeqAt.EqAt.none_list pl hu0,SeqAt.RcAt.none_list pl hu0,SeqAt.RcNeAt.none_list pl hu0⟩
   | non=>cases e2;exact⟨AET _,SeqAt.RcAt.none_none,SeqAt.RcNeAt.none_none⟩
   | bl b=>cases e2;exact⟨SeqAt.EqAt.none_bool _,SeqAt.RcAt.none_bool _,SeqAt.RcNeAt.none_bool _⟩
   | int b=>obtain⟨t,rfl⟩:=e2;exact⟨SeqAt.EqAt.none_int _ _,SeqAt.RcAt.none_int _ _,SeqAt.RcNeAt.none_int _ _⟩
   | str b=>obtain⟨t,rfl⟩:=e2;exact⟨SeqAt.EqAt.none_str _ _,SeqAt.RcAt.none_str _ _,SeqAt.RcNeAt.none_str _ _⟩
  | bl a =>
   cases e1
   cases r2 with
   | ty b=>simp[okD]at o2
   | tup hq r=>cases e2;obtain⟨its,rr,pl,_⟩:=tupAt hq r;exact⟨SeqAt.EqAt.bool_tuple _ pl hu0,SeqAt.RcAt.bool_tuple _ pl hu0,SeqAt.RcNeAt.bool_tuple _ pl hu0⟩
   | ref e=>cases e2;obtain⟨mo,hm,vs,its,r,rr,pl,_⟩:=lstAt e o2;exact⟨SeqAt.EqAt.bool_list _ pl hu0,SeqAt.RcAt.bool_list _ pl hu0,SeqAt.RcNeAt.bool_list _ pl hu0⟩
   | non=>cases e2;exact⟨SeqAt.EqAt.bool_none _,SeqAt.RcAt.bool_none _,SeqAt.RcNeAt.bool_none _⟩
   | bl b=>cases e2;exact⟨SeqAt.EqAt.bool_bool _ _,SeqAt.RcAt.bool_bool _ _,SeqAt.RcNeAt.bool_bool _ _⟩
   | int b=>obtain⟨t,rfl⟩:=e2;exact⟨SeqAt.EqAt.bool_int _ _ _,SeqAt.RcAt.bool_int _ _ _,SeqAt.RcNeAt.bool_int _ _ _⟩
   | str b=>obtain⟨t,rfl⟩:=e2;exact⟨SeqAt.EqAt.bool_str _ _ _,SeqAt.RcAt.bool_str _ _ _,SeqAt.RcNeAt.bool_str _ _ _⟩
  | int a =>
   obtain⟨t0,rfl⟩:=e1;cases r2 with
   | ty b=>simp[okD]at o2
   | tup hq r=>cases e2;obtain⟨its,rr,pl,_⟩:=tupAt hq r;exact⟨SeqAt.EqAt.int_tuple _ _ pl hu0,SeqAt.RcAt.int_tuple _ _ pl hu0,SeqAt.RcNeAt.int_tuple _ _ pl hu0⟩
   | ref e=>cases e2;obtain⟨mo,hm,vs,its,r,rr,pl,_⟩:=lstAt e o2;exact⟨SeqAt.EqAt.int_list _ _ pl hu0,SeqAt.RcAt.int_list _ _ pl hu0,SeqAt.RcNeAt.int_list _ _ pl hu0⟩
   | non=>cases e2;exact⟨SeqAt.EqAt.int_none _ _,SeqAt.RcAt.int_none _ _,SeqAt.RcNeAt.int_none _ _⟩
   | bl b=>cases e2;exact⟨SeqAt.EqAt.int_bool _ _ _,SeqAt.RcAt.int_bool _ _ _,SeqAt.RcNeAt.int_bool _ _ _⟩
   | int b=>obtain⟨t,rfl⟩:=e2;exact⟨ADp _ _ _ _,SeqAt.RcAt.int_int _ _ _ _,SeqAt.RcNeAt.int_int _ _ _ _⟩
   | str b=>obtain⟨t,rfl⟩:=e2;exact⟨AD8 _ _ _ _,SeqAt.RcAt.int_str _ _ _ _,SeqAt.RcNeAt.int_str _ _ _ _⟩
  | str a =>
   obtain⟨t0,rfl⟩:=e1;cases r2 with
   | ty b=>simp[okD]at o2
   | tup hq r=>cases e2;obtain⟨its,rr,pl,_⟩:=tupAt hq r;exact⟨SeqAt.EqAt.str_tuple _ _ pl hu0,SeqAt.RcAt.str_tuple _ _ pl hu0,SeqAt.RcNeAt.str_tuple _ _ pl hu0⟩
   | ref e=>cases e2;obtain⟨mo,hm,vs,its,r,rr,pl,_⟩:=lstAt e o2;exact⟨SeqAt.EqAt.str_list _ _ pl hu0,SeqAt.RcAt.str_list _ _ pl hu0,SeqAt.RcNeAt.str_list _ _ pl hu0⟩
   | non=>cases e2;exact⟨SeqAt.EqAt.str_none _ _,SeqAt.RcAt.str_none _ _,SeqAt.RcNeAt.str_none _ _⟩
   | bl b=>cases e2;exact⟨SeqAt.EqAt.str_bool _ _ _,SeqAt.RcAt.str_bool _ _ _,SeqAt.RcNeAt.str_bool _ _ _⟩
   | int b=>obtain⟨t,rfl⟩:=e2;exact⟨AD9 _ _ _ _,SeqAt.RcAt.str_int _ _ _ _,SeqAt.RcNeAt.str_int _ _ _ _⟩
   | str b=>obtain⟨t,rfl⟩:=e2;exact⟨ADq _ _ _ _,SeqAt.RcAt.str_str _ _ _ _,SeqAt.RcNeAt.str_str _ _ _ _⟩
  | @tup a vs ds hq r =>
   cases e1
   obtain⟨its,rr,pl,ll⟩:=tupAt hq r;cases r2 with
   | ty b=>simp[okD]at o2
   | non=>cases e2;exact⟨SeqAt.EqAt.tuple_none pl hu0,SeqAt.RcAt.tuple_none pl hu0,SeqAt.RcNeAt.tuple_none pl hu0⟩
   | bl b=>cases e2;exact⟨SeqAt.EqAt.tuple_bool _ pl hu0,SeqAt.RcAt.tuple_bool _ pl hu0,SeqAt.RcNeAt.tuple_bool _ pl hu0⟩
   | int b=>obtain⟨t,rfl⟩:=e2;exact⟨SeqAt.EqAt.tuple_int _ _ pl hu0,SeqAt.RcAt.tuple_int _ _ pl hu0,SeqAt.RcNeAt.tuple_int _ _ pl hu0⟩
   | str b=>obtain⟨t,rfl⟩:=e2;exact⟨SeqAt.EqAt.tuple_str _ _ pl hu0,SeqAt.RcAt.tuple_str _ _ pl hu0,SeqAt.RcNeAt.tuple_str _ _ pl hu0⟩
   | ref e=>cases e2;obtain⟨mo,hm,vs',its',r',rr',pl',_⟩:=lstAt e o2;exact⟨SeqAt.EqAt.tuple_list pl pl' hu0,SeqAt.RcAt.tuple_list pl pl' hu0,SeqAt.RcNeAt.tuple_list pl pl' hu0⟩
   | @tup b ws es hq' r' =>
    cases e2
    obtain⟨jts,rr',pl',ll'⟩:=tupAt hq' r';have ok1:ds.all (okD M n)=true:=by simpa [okD]using o1
    have ok2:es.all (okD M n)=true:=by simpa [okD]using o2
    have key:((AAu (min its.toArray.size jts.toArray.size)).all (λj=>eqD M n (ds.getD j .non) (es.getD j .non))&&its.toArray.size==jts.toArray.size)=eqL (eqD M n) ds es:=by
     rw[AAD,AAD];by_cases hl:ds.length=es.length
     ·rw[<-ll,<-ll',<-hl,Nat.min_self,rng ds es hl]
      simp
     ·rw[yS hl,<-ll,<-ll']
      simp[hl]
    have h1:=SeqAt.RcAt.tuples pl pl' hu0 (items r rr r' rr' ok1 ok2);have h2:=SeqAt.RcNeAt.tuples pl pl' hu0 (items r rr r' rr' ok1 ok2);rw[key]at h1 h2;exact fin (.tup hq r) (.tup hq' r') rfl h1 h2
  | @ref i a e =>
   cases e1
   obtain⟨mo,hm,vs,its,r,rr,pl,ll⟩:=lstAt e o1;cases r2 with
   | ty b=>simp[okD]at o2
   | non=>cases e2;exact⟨SeqAt.EqAt.list_none pl hu0,SeqAt.RcAt.list_none pl hu0,SeqAt.RcNeAt.list_none pl hu0⟩
   | bl b=>cases e2;exact⟨SeqAt.EqAt.list_bool _ pl hu0,SeqAt.RcAt.list_bool _ pl hu0,SeqAt.RcNeAt.list_bool _ pl hu0⟩
   | int b=>obtain⟨t,rfl⟩:=e2;exact⟨SeqAt.EqAt.list_int _ _ pl hu0,SeqAt.RcAt.list_int _ _ pl hu0,SeqAt.RcNeAt.list_int _ _ pl hu0⟩
   | str b=>obtain⟨t,rfl⟩:=e2;exact⟨SeqAt.EqAt.list_str _ _ pl hu0,SeqAt.RcAt.list_str _ _ pl hu0,SeqAt.RcNeAt.list_str _ _ pl hu0⟩
   | tup hq' r'=>cases e2;obtain⟨its',rr',pl',_⟩:=tupAt hq' r';exact⟨SeqAt.EqAt.list_tuple pl pl' hu0,SeqAt.RcAt.list_tuple pl pl' hu0,SeqAt.RcNeAt.list_tuple pl pl' hu0⟩
   | @ref j b e' =>
    cases e2
    obtain⟨mo',hm',ws,jts,r',rr',pl',ll'⟩:=lstAt e' o2;have ok1:mo.items.all (okD M n)=true:=(dj hm o1).2;have ok2:mo'.items.all (okD M n)=true:=(dj hm' o2).2;have ek:eqD M (n+1) (.ref i) (.ref j)=eqL (eqD M n) mo.items mo'.items:=by simp only[eqD,hm,hm']
    by_cases hl:mo.items.length=mo'.items.length
    ·have hsz:its.toArray.size=jts.toArray.size:=by rw[AAD,AAD,<-ll,<-ll',hl]
     have h1:=SeqAt.RcAt.lists pl pl' hsz hu0 (items r rr r' rr' ok1 ok2);have h2:=SeqAt.RcNeAt.lists pl pl' hsz hu0 (items r rr r' rr' ok1 ok2);rw[AAD,<-ll,rng _ _ hl]at h1 h2;exact fin (.ref e) (.ref e') ek h1 h2
    ·have hsz:(its.toArray.size != jts.toArray.size)=true:=by
      rw[AAD,AAD,<-ll,<-ll'];simpa using hl
     have h1:=SeqAt.RcAt.lists_lengths pl pl' hsz hu0;have h2:=SeqAt.RcNeAt.lists_lengths pl pl' hsz hu0;exact fin (.ref e) (.ref e') (ek.trans (yS hl)) h1 h2
def eqN:Nat:=30
def qEq:DR2:=λx y M Q=>(okD M eqN x=true/\okD M eqN y=true)/\Q (.bl (eqD M eqN x y)) M
def qNe:DR2:=λx y M Q=>(okD M eqN x=true/\okD M eqN y=true)/\Q (.bl (!eqD M eqN x y)) M
def inD(M:Mem)(x:D)(ys:List D):Bool:=ys.any λy=>eqD M eqN y x
def Fz(neg:Bool):DR2:=λx y M Q=>match y with
 | .tup ys=>(okD M eqN x=true/\ys.all (okD M eqN)=true)/\Q (.bl (inD M x ys != neg)) M
 | .ref n=>∃ys,ak M n ys/\(okD M eqN x=true/\ys.all (okD M eqN)=true)/\Q (.bl (inD M x ys != neg)) M
 | .str z=>match x with
  | .str p=>Q (.bl ((!(Builtin.Str.occurrences z p 0 z.length 1).isEmpty) != neg)) M
  | _=>False
 | _=>False
abbrev qIn:DR2:=Fz false
abbrev kx:DR2:=Fz true
end
section
variable{X:Cx}
def nB(hr:Room k A):A.units+eqN<cLine:=by have:=hr.un;unfold eqN;lia
def od_eq(hr:Room k X.A):OpD X (compareOp .Eq) qEq:=by
 intro pins s σ H vx vy v u R I rx ry ⟨x,y,M,ρ,Q,sm,r1,r2,⟨⟨o1,o2⟩,q⟩,k⟩;exact(jo I sm eqN X.A x y vx vy v u (nB hr) r1 rx r2 ry o1 o2).2.1 _ _ _ _ (fB I sm k q)
def od_ne(hr:Room k X.A):OpD X (compareOp .NotEq) qNe:=by
 intro pins s σ H vx vy v u R I rx ry ⟨x,y,M,ρ,Q,sm,r1,r2,⟨⟨o1,o2⟩,q⟩,k⟩;exact(jo I sm eqN X.A x y vx vy v u (nB hr) r1 rx r2 ry o1 o2).2.2 _ _ _ _ (fB I sm k q)
def qS{pins:List (Addr×Obj)}{σ:St}{H:Hp}{s:Shared}{ρ:List Addr}{M:Mem}(I:Inv X pins σ H s)(sm:Sim X.K ρ M H):∀(n:Nat) (x y z:D) (v:V),Rep X.K ρ H x v->Rep X.K ρ H y v->okD M n x=true->okD M n y=true->eqD M n x z=eqD M n y z:=by
 have all:∀(n:Nat),(∀(x y z:D) (v:V),Rep X.K ρ H x v->Rep X.K ρ H y v->okD M n x=true->okD M n y=true->eqD M n x z=eqD M n y z) ->
   ∀(xs ys zs:List D) (vs:List V),Reps X.K ρ H xs vs->Reps X.K ρ H ys vs->xs.all (okD M n)=true->ys.all (okD M n)=true->eqL (eqD M n) xs zs=eqL (eqD M n) ys zs:=by
  intro n ih xs;induction xs with
  | nil=>intro ys zs vs h1 h2 _ _;cases h1;cases h2;rfl
  | cons x xs hi =>
   intro ys zs vs h1 h2 o1 o2;cases h1 with
   | cons r1 t1 =>
    cases h2 with
    | cons r2 t2 =>
     cases zs with
     | nil=>rfl
     | cons z zs =>
      rw[ABT,AAY]at o1 o2;rw[eqL,eqL,ih _ _ z _ r1 r2 o1.1 o2.1,hi _ zs _ t1 t2 o1.2 o2.2]
 intro n;induction n with
 | zero =>
  intro x y z v h1 h2 o1 o2;cases h1<;>cases h2<;>first | rfl | (cases z<;>rfl)
 | succ n ih =>
  intro x y z v h1 h2 o1 o2;cases h1 with
  | non=>cases h2;rfl
  | bl b=>cases h2;rfl
  | int b=>cases h2;rfl
  | str b=>cases h2;rfl
  | ty b=>cases h2;rfl
  | @tup a vs ds hq r =>
   cases h2 with
   | tup hq' r' =>
    have e:=I.tuple_inj hq hq';subst e;cases z with
    | tup zs=>exact all n ih _ _ zs _ r r' o1 o2
    | _=>rfl
   | @ref i _ e =>
    exfalso
    obtain⟨its,_,⟨o,e1,e2,_⟩,_⟩:=I.tuple hq;have hi:i<M.length:=by rw[<-sm.len];exact(AA7.mp e).1
    obtain⟨vs',its',_,_,_,⟨o',n',f1,f2,_⟩⟩:=ko I sm e (AA5 hi) (dj (AA5 hi) o2).1;rw[e1]at f1;cases f1;rw[e2]at f2;injection f2 with f3;exact absurd f3 (by decide)
  | @ref i a e =>
   have hi:i<M.length:=by rw[<-sm.len];exact(AA7.mp e).1
   have hm:=AA5 hi;obtain⟨vs,its,hq,r,rr,pl⟩:=ko I sm e hm (dj hm o1).1;cases h2 with
   | tup hq' r' =>
    exfalso
    obtain⟨its',_,⟨o,e1,e2,_⟩,_⟩:=I.tuple hq';obtain⟨o',n',f1,f2,_⟩:=pl;rw[e1]at f1;cases f1;rw[e2]at f2;injection f2 with f3;exact absurd f3 (by decide)
   | @ref j _ e' =>
    have hj:j<M.length:=by rw[<-sm.len];exact(AA7.mp e').1
    have hm':=AA5 hj;obtain⟨vs',its',hq',r',rr',pl'⟩:=ko I sm e' hm' (dj hm' o2).1;have ev:vs=vs':=I.list_inj hq hq';subst ev;cases z with
    | ref k =>
     simp only[eqD,hm,hm'];cases M[k]? with
     | none=>rfl
     | some mo=>exact all n ih _ _ _ _ r r' (dj hm o1).2 (dj hm' o2).2
    | _=>rfl
def yF{k:Nat}(hr:Room k X.A){pins:List (Addr×Obj)}{σ:St}{H:Hp}{s:Shared}{ρ:List Addr}{M:Mem}(I:Inv X pins σ H s)(sm:Sim X.K ρ M H){x:D}{vx:V}{v:Value}(r1:Rep X.K ρ H x vx)(rx:aI vx v)(o1:okD M eqN x=true) :
  ∀{ys:List D}{ws:List V}{its:List Value},Reps X.K ρ H ys ws->au ws its->ys.all (okD M eqN)=true->∃e:Value->Bool,(∀u∈its,ACP X.A.in1 s u v (e u))/\its.any e=inD M x ys:=by
 have hu:X.A.in1.units+eqN<cLine:=by have:=hr.un;show X.A.units+1+eqN<cLine;unfold eqN;lia
 intro ys ws its rs vs ok
 classical
 refine⟨λu=>if h:∃d v',Rep X.K ρ H d v'/\aI v' u/\okD M eqN d=true then eqD M eqN h.choose x else false,λu hm=>?_,?_⟩
 ·obtain⟨j,hj,ej⟩:=List.getElem_of_mem hm
  have lj:j<ws.length:=by rw[vs.length];exact hj
  obtain⟨d,hd,rd⟩:=rs.getV (AA5 lj);obtain⟨u',hu',ru⟩:=hZ vs (AA5 lj);have:u'=u:=by rw[AA5 hj]at hu';cases hu';exact ej
  subst this;have okd:=AAh.mp ok _ (AAc hd);have h:∃d v',Rep X.K ρ H d v'/\aI v' u'/\okD M eqN d=true:=⟨d,_,rd,ru,okd⟩;show ACP X.A.in1 s u' v (if h:_ then _ else _);rw[dif_pos h];obtain⟨v',p1,p2,p3⟩:=h.choose_spec;have ev:=aI.inj p2 ru;subst ev;rw[qS I sm eqN _ d x _ p1 rd p3 okd];exact(jo I sm eqN X.A.in1 d x _ vx _ v hu rd ru r1 rx (AAh.mp ok _ (AAc hd)) o1).1
 ·clear hu o1
  unfold inD;induction ys generalizing ws its with
  | nil=>cases rs;cases vs;rfl
  | cons d ds ih =>
   cases rs with
   | cons r t =>
   cases vs with
   | cons q t' =>
    rename_i v' vs' u us;rw[ABT,AAY]at ok;have h:∃d v',Rep X.K ρ H d v'/\aI v' u/\okD M eqN d=true:=⟨d,_,r,q,ok.1⟩;rw[List.any_cons,List.any_cons,ih t t' ok.2,dif_pos h];obtain⟨v2,p1,p2,p3⟩:=h.choose_spec;have ev:=aI.inj p2 q;subst ev;rw[qS I sm eqN _ d x _ p1 r p3 ok.1]
def BA(neg:Bool)(hr:Room k X.A):OpD X (compareOp (if neg then .NotIn else .In)) (Fz neg):=by
 intro pins s σ H vx vy v u R I rx ry ⟨x,y,M,ρ,Q,sm,r1,r2,q,k⟩;cases r2 with
 | non=>exact q.elim
 | bl b=>exact q.elim
 | int b=>exact q.elim
 | ty b=>exact q.elim
 | str z =>
  cases r1 with
  | str p =>
   obtain⟨t,rfl⟩:=rx;obtain⟨t',rfl⟩:=ry;cases neg with
   | false=>exact in_str (fB I sm k (by simpa [Fz]using q))
   | true=>exact notIn_str (fB I sm k (by simpa [Fz]using q))
  | _=>exact q.elim
 | @tup a ws ys hq r =>
  cases ry
  obtain⟨⟨o1,o2⟩,q⟩:=(show (okD M eqN x=true/\_)/\_ from q);obtain⟨its,rr,pl,hz⟩:=I.tuple hq;obtain⟨e,he,ee⟩:=yF hr I sm r1 rx o1 r rr o2;have ea:its.toArray.any e=inD M x ys:=by rw[<-ee];simp
  cases neg with
  | false=>exact SeqAt.in_tupleAt e pl (λw hw=>he w (by simpa using hw)) (by rw[ea];exact fB I sm k (by simpa using q))
  | true=>exact SeqAt.notIn_tupleAt e pl (λw hw=>he w (by simpa using hw)) (by rw[ea];exact fB I sm k (by simpa using q))
 | ref h =>
  cases ry
  obtain⟨ys,hL,⟨o1,o2⟩,q⟩:=(show ∃ys,ak M _ ys/\(okD M eqN x=true/\_)/\_ from q);obtain⟨ws,hq,r⟩:=ak.seq sm hL h;obtain⟨its,rr,pl,hz⟩:=I.list hq;obtain⟨e,he,ee⟩:=yF hr I sm r1 rx o1 r rr o2;have ea:its.toArray.any e=inD M x ys:=by rw[<-ee];simp
  cases neg with
  | false=>exact SeqAt.in_listAt e pl.isList (λw hw=>he w (by simpa using hw)) (by rw[ea];exact fB I sm k (by simpa using q))
  | true=>exact SeqAt.notIn_listAt e pl.isList (λw hw=>he w (by simpa using hw)) (by rw[ea];exact fB I sm k (by simpa using q))
def od_in(hr:Room k X.A):OpD X (compareOp .In) qIn:=BA false hr
def Aj(hr:Room k X.A):OpD X (compareOp .NotIn) kx:=BA true hr
end
def HU:bootBuiltins "len" = some (.builtin "len"):=by decide +kernel
def rN:bootBuiltins "sorted" = some (.builtin "sorted"):=by decide +kernel
def EJ:bootBuiltins "list" = some (.type "list"):=by decide +kernel
def Bm:bootBuiltins "tuple" = some (.type "tuple"):=by decide +kernel
def EK:bootBuiltins "dict" = some (.type "dict"):=by decide +kernel
def visB(sc:Scope)(x:Str):Bool:=match sc.names.lookup x with
 | some .local=>true
 | some .cell=>true
 | some .free=>true
 | _=>false
def Fc(h:visB sc x=true):Vis sc x:=by
 unfold visB at h;unfold Vis;split at h
 ·rename_i e;exact .inl e
 ·rename_i e;exact .inr (.inl e)
 ·rename_i e;exact .inr (.inr e)
 ·cases h
def EU(sc:Scope)(x:Str):Bool:=match sc.names.lookup x with
 | some .local=>true
 | some .cell=>true
 | _=>false
def xX(h:EU sc x=true):Loc sc x:=by
 unfold EU at h;unfold Loc;split at h
 ·rename_i e;exact .inl e
 ·rename_i e;exact .inr e
 ·cases h
structure HE(X:Cx)(e:Expr)(t:DTE):Prop where
 ok:DE X e t
structure HT(X:Cx)(e:Expr)(t:DTT):Prop where
 ok:DT X e t
structure HW(X:Cx)(e:Expr)(t:DTT):Prop where
 ok:DW X e t
structure HA(X:Cx)(es:List Expr)(t:DTA):Prop where
 ok:DA X es t
structure HS(X:Cx)(e:Stmt)(t:DTS):Prop where
 ok:DS X e t
structure HB(X:Cx)(e:List Stmt)(t:DTS):Prop where
 ok:DSs X e t
structure HG(X:Cx)(e:Expr)(t:DTG):Prop where
 ok:DG X e t
structure HI(X:Cx)(tg e:Expr)(t:DTI):Prop where
 ok:DI X tg e t
structure HTs(X:Cx)(e:List Expr)(t:DTT):Prop where
 ok:PTs X e (lowT X.K t)
structure HO'(X:Cx)(e:Option Expr)(t:DTO):Prop where
 ok:PO X e (Gs X.K t)
structure HOp(X:Cx)(f:Value->Value->Sem Value)(r:DR2):Prop where
 ok:OpD X f r
structure HUn(X:Cx)(f:Value->Sem Value)(r:DR1):Prop where
 ok:UnD X f r
structure HC(X:Cx)(f:Value)(r:DRA):Prop where
 ok:jC X f r
structure HMs(X:Cx)(name:Str)(r:Str->DRA):Prop where
 ok:∃id,Slot "str" name id/\typeOf (.builtin id)=pure (.type "method_descriptor")/\MtR X id (lowMs X.K r)
structure HMl(X:Cx)(name:Str)(r:Nat->DRA):Prop where
 ok:∃id,Slot "list" name id/\typeOf (.builtin id)=pure (.type "method_descriptor")/\MtR X id (lK X.K r)
section
variable{X:Cx}{e a b c o:Expr}{es aJ:List Expr}{te ta tb tc to:DTE}{t:DTA}{pos p:Pos}{x:Str}{tA tB:DTT}{k:Nat}
def Gx(hN:X.N[i]?=some x:=by kernel_rfl)(hv:visB X.env.scope x=true:=by kernel_rfl)(hd:(x==("__debug__":Str))=false:=by kernel_rfl)
  (hcd:(x==("__classdict__":Str))=false:=by kernel_rfl):HE X (.Name x pos) (ab i):=⟨d_var hN (Fc hv) hd hcd⟩
def GF:HE X (.Constant (.int i) j pos) (dC (.int i)):=⟨d_int⟩
def k_bl:HE X (.Constant (.bool i) j pos) (dC (.bl i)):=⟨d_bl⟩
def GB:HE X (.Constant .none j pos) (dC .non):=⟨d_non⟩
def Gz:HE X (.Constant (.str i) j pos) (dC (.str i)):=⟨d_str⟩
def k_op(ho:HOp X (binaryOp op) r)(ha:HE X a ta)(hb:HE X b tb):HE X (.BinOp a op b pos) (dOp r ta tb):=⟨d_op ho.ok ha.ok hb.ok⟩
def GG(ho:HOp X (compareOp op) r)(ha:HE X a ta)(hb:HE X b tb)(hm:behindInMarks op b=false:=by kernel_rfl):HE X (.Compare a [op] [b] pos) (dOp r ta tb):=⟨d_cmp ho.ok ha.ok hb.ok hm⟩
def BI(ho:HOp X (compareOp op) r)(ha:HE X a ta)(hb:HE X b tb)(hm:behindInMarks op b=false:=by kernel_rfl):HT X (.Compare a [op] [b] pos) (aG (dOp r ta tb)):=⟨Hi ho.ok ha.ok hb.ok hm⟩
def BG(h:HE X e te)(he:∀whole,isTrue e X.env whole=(do let v <-whole;standAt e.pos;holding [v] (truthy v)):=by intro _;kernel_rfl):HT X e (aG te):=⟨Hf h.ok he⟩
def ye(ha:HT X a tA):HW X (.BoolOp .And [a] pos) tA:=⟨Eh ha.ok⟩
def BD(ha:HT X a tA):HW X (.BoolOp .Or [a] pos) tA:=⟨Hc ha.ok⟩
def uu(ha:HT X a tA)(hb:HW X (.BoolOp .And (b::aJ) pos) tB):HW X (.BoolOp .And (a::b::aJ) pos) (EW tA tB):=⟨He ha.ok hb.ok⟩
def Az(ha:HT X a tA)(hb:HW X (.BoolOp .Or (b::aJ) pos) tB):HW X (.BoolOp .Or (a::b::aJ) pos) (dOr tA tB):=⟨dw_or ha.ok hb.ok⟩
def kw_t(h:HW X e tA):HT X e tA:=⟨dw_t h.ok⟩
def BH(ha:HT X a tA):HT X (.UnaryOp .Not a pos) (EB tA):=⟨Hh ha.ok⟩
def GA{op}(h:HE X a ta):HE X (.BoolOp op [a] pos) ta:=⟨d_one h.ok⟩
def GI(ha:HE X a ta)(hb:HE X (.BoolOp .And (b::aJ) pos) tb):HE X (.BoolOp .And (a::b::aJ) pos) (we ta tb):=⟨d_and ha.ok hb.ok⟩
def k_or(ha:HE X a ta)(hb:HE X (.BoolOp .Or (b::aJ) pos) tb):HE X (.BoolOp .Or (a::b::aJ) pos) (dOrV ta tb):=⟨d_or ha.ok hb.ok⟩
def BU:HA X [] ag:=⟨HF⟩
def yz(ha:HE X e te)(hr:HA X es t)(hs:starEach (e::es) X.env=(false,eval e X.env)::starEach es X.env:=by kernel_rfl):HA X (e::es) (aa te t):=⟨Ex ha.ok hr.ok hs⟩
def Gy{x1}(h:HA X es t):HE X (.Tuple es x1 pos) (iH t):=⟨d_tup h.ok⟩
def GD(h:HA X es t):HE X (.List es pos) (lu t):=⟨d_lst h.ok⟩
theorem yD{id:String}{r:DRA}(hc:HC X (.builtin id) r)(hm:X.mg x=none)(hv:bootBuiltins x=some (.builtin id))(ha:HA X (e::es) t)(hg:X.env.kindOf x=some .globalImplicit:=by kernel_rfl)(hn:(x==("__name__":Str))=false:=by kernel_rfl)(hdb:(x==("__debug__":Str))=false:=by kernel_rfl)
  (he:starEach (e::es) X.env=(false,eval e X.env)::starEach es X.env:=by kernel_rfl) (hpl:(backTo pos (starEach es X.env)).any (·.1)=false:=by kernel_rfl):HE X (.Call (.Name x p) (e::es) [] pos) (dCB r t):=⟨EA hc.ok hm hv ha.ok hg (by simpa using hn) hdb he hpl⟩
def uD(hc:HC X (.type T) r)(hm:X.mg x=none)(hv:bootBuiltins x=some (.type T))(ha:HA X (e::es) t)(hg:X.env.kindOf x=some .globalImplicit:=by kernel_rfl)(hn:(x==("__name__":Str))=false:=by kernel_rfl)(hdb:(x==("__debug__":Str))=false:=by kernel_rfl)
  (he:starEach (e::es) X.env=(false,eval e X.env)::starEach es X.env:=by kernel_rfl) (hpl:(backTo pos (starEach es X.env)).any (·.1)=false:=by kernel_rfl):HE X (.Call (.Name x p) (e::es) [] pos) (dCB r t):=⟨Bb hc.ok hm hv ha.ok hg (by simpa using hn) hdb he hpl⟩
def GH(C:Cal X.prog X.w X.K X.mg X.base j x ps P)(hr:Room k X.A)(ha:HA X (e::es) t)(hj:Nat.ble j k=true:=by kernel_rfl)
  (hg:X.env.kindOf x=some .globalImplicit:=by kernel_rfl) (hdb:(x==("__debug__":Str))=false:=by kernel_rfl) (he:starEach (e::es) X.env=(false,eval e X.env)::starEach es X.env:=by kernel_rfl) (hpl:(backTo pos (starEach es X.env)).any (·.1)=false:=by kernel_rfl) :
  HE X (.Call (.Name x p) (e::es) [] pos) (dCB P t):=⟨d_cal C hr ha.ok (Nat.le_of_ble_eq_true hj) hg hdb he hpl⟩
def k_ix(ha:HE X a ta)(hb:HE X b tb)(hs:sZ b:=by intro _ _;kernel_rfl):HE X (.Subscript a b pos) (dOp qIx ta tb):=⟨d_ix ha.ok hb.ok hs⟩
def ym:HO' X none fE:=⟨Er⟩
def yk(h:HE X e te):HO' X (some e) (jA te):=⟨Ep h.ok⟩
def yB{lo hi:Option Expr}{tl th:DTO}{p2:Pos}(he:HE X e te)(hl:HO' X lo tl)(hu:HO' X hi th):HE X (.Subscript e (.Slice lo hi none p2) pos) (dSl te tl th):=⟨Ey he.ok hl.ok hu.ok⟩
variable{name:Str}{apos cpos:Pos}
def k_ml(hm:HMl X name r)(ho:HE X o to)(ha:HA X (e::es) t)
  (hbase:attributeBase o name X.env (eval o X.env)=eval o X.env:=by kernel_rfl)
  (hfew:((backTo cpos (starEach (e::es) X.env)).all (λx=>!x.1)&&(backToKw cpos (keywordEach [] X.env)).all (λx=>x.1.isSome)
   && decide ((e::es).length+([]:List Keyword).length+(if ([]:List Keyword).isEmpty then 0 else 1)<30))=true:=by kernel_rfl)
  (hline:(apos.endLine==cpos.line)=true:=by kernel_rfl) (hs:starEach (e::es) X.env=(false,eval e X.env)::starEach es X.env:=by kernel_rfl) (hplain:(backTo cpos (starEach es X.env)).any (·.1)=false:=by kernel_rfl) :
  HE X (.Call (.Attribute o name apos) (e::es) [] cpos) (dMl r to t):=let ⟨_,h1,h2,h3⟩:=hm.ok;⟨d_ml h1 h2 h3 ho.ok ha.ok hbase hfew hline hs hplain⟩
variable{st:Stmt}{sts:List Stmt}{ts us:DTS}{aS bS:List Stmt}
def BK:HB X [] bi:=⟨Hn⟩
def BJ(h:HS X st ts):HB X [st] ts:=⟨Hm h.ok⟩
def yj(h1:HS X st ts)(h2:HB X sts us):HB X (st::sts) (az ts us):=⟨Eo h1.ok h2.ok⟩
def oB(he:HE X e te)(hs:swapsWith e none pos.line X.env=pure false:=by kernel_rfl):HS X (.Expr e pos) (jB te):=⟨En he.ok hs⟩
def uw(he:HE X e te):HS X (.Return (some e) pos) (bA te):=⟨Hk he.ok⟩
def AB(hc:HT X c tA)(ha:HB X aS ts)(hb:HB X bS us):HS X (.If c aS bS pos) (dIf tA ts us):=⟨ds_if hc.ok ha.ok hb.ok⟩
def uv(hN:X.N.Nodup)(he:HE X e te)(hi:X.N[i]?=some x:=by kernel_rfl)(hx:EU X.env.scope x=true:=by kernel_rfl)(hs:swapsWith e (some (.Name x pos')) pos.line X.env=pure false:=by kernel_rfl)
  (hf:X.fn x=true:=by kernel_rfl):HS X (.Assign [.Name x pos'] e pos) (bd te i):=⟨Hj hN he.ok hi (xX hx) hs (.inl hf)⟩
def yr(hN:X.N.Nodup)(hi:X.N[i]?=some x:=by kernel_rfl)(hx:EU X.env.scope x=true:=by kernel_rfl)(hf:X.fn x=true:=by kernel_rfl):HG X (.Name x pos) (ar i):=⟨sT hN hi (xX hx) (.inl hf)⟩
def BR(hN:X.N.Nodup)(hi:X.N[i]?=some x:=by kernel_rfl)(hf:X.env.scope.names.lookup x=some .local:=by kernel_rfl):HG X (.Name x pos) (ar i):=⟨sT hN hi (.inl hf) (.inr hf)⟩
variable{tg iter:Expr}{di:DTI}{g:DTG}
def BL(h:HE X e te):HI X tg e (dc te):=⟨Hu h.ok⟩
def ux{body:List Stmt}{tb:DTS}(hi:HI X tg iter di)(hg:HG X tg g)(hb:HB X body tb)(hp:PassesOwn (model X.prog X.w) X.A X.env X.xe:=by exact PassesOwn.never)(hc:X.calm=true:=by kernel_rfl)
  (hs:∀x,foldedSetIterable iter X.env x=pure x:=by intro _;kernel_rfl):HS X (.For tg iter body [] pos) (mZ di g tb):=⟨Ho hi.ok hg.ok hb.ok hp hc hs⟩
def yi:HTs X [] uR:=⟨Ej⟩
def yh(h:HT X c tA):HTs X [c] tA:=⟨Ei h.ok⟩
def k_lc(hi:HI X tg iter di)
  (hg:∀cl s0 H0 ex,HG (blk X N' scope cl s0 H0 ex) tg g) (ht:∀cl s0 H0 ex,HTs (blk X N' scope cl s0 H0 ex) ifs tt) (he:∀cl s0 H0 ex,HE (blk X N' scope cl s0 H0 ex) elt te) (B:ng X.env.scope.names X.N N' nt js scope=true:=by kernel_rfl) (hc:X.calm=true:=by kernel_rfl)
  (hs:∀x,foldedSetIterable iter X.env x=pure x:=by intro _;kernel_rfl):HE X (.ListComp elt [⟨tg,iter,ifs,0⟩] scope pos) (dLC nt js di g tt te):=⟨d_lc (BlkSc.chk B) hi.ok (λcl s0 H0 ex=>(hg cl s0 H0 ex).ok) (λcl s0 H0 ex=>(ht cl s0 H0 ex).ok) (λcl s0 H0 ex=>(he cl s0 H0 ex).ok) hc hs⟩
def qH(hm:X.mg "range" = none)(ha:HA X [a] t)(hg:X.env.kindOf "range" = some .globalImplicit:=by kernel_rfl)(hs:starEach [a] X.env=[(false,eval a X.env)]:=by kernel_rfl):HI X tg (.Call (.Name "range" p) [a] [] pos) (dW t):=⟨zb hm ha.ok hg hs⟩
def qG(hm:X.mg "range" = none)(ha:HA X [a,b] t)(hg:X.env.kindOf "range" = some .globalImplicit:=by kernel_rfl)(hs:starEach [a,b] X.env=[(false,eval a X.env),(false,eval b X.env)]:=by kernel_rfl)(hs2:starEach [b] X.env=[(false,eval b X.env)]:=by kernel_rfl) :
  HI X tg (.Call (.Name "range" p) [a,b] [] pos) (oQ t):=⟨za hm ha.ok hg hs hs2⟩
def Cb:HOp X (binaryOp .Sub) Fx:=⟨Ge⟩
def Ce:HOp X (binaryOp .Mult) nL:=⟨Dt⟩
def yH:HOp X (binaryOp .FloorDiv) sf:=⟨Du⟩
def Cf:HOp X (binaryOp .Mod) xw:=⟨Gh⟩
def GN:HOp X (compareOp .Lt) qLt:=⟨Gj⟩
def GQ:HOp X (compareOp .Gt) qGt:=⟨od_gt⟩
def GR:HOp X (compareOp .GtE) qGe:=⟨od_ge⟩
def GO:HOp X (compareOp .Is) qIs:=⟨od_is⟩
def GS(hr:Room k X.A):HOp X (compareOp .Eq) qEq:=⟨od_eq hr⟩
def GM(hr:Room k X.A):HOp X (compareOp .NotEq) qNe:=⟨od_ne hr⟩
def GP(hr:Room k X.A):HOp X (compareOp .In) qIn:=⟨od_in hr⟩
def uG(hr:Room k X.A):HOp X (compareOp .NotIn) kx:=⟨Aj hr⟩
def Ck:HC X (.builtin "len") mK:=⟨HQ⟩
def qO:HMl X "append" cH:=⟨_,PySem.F.slot_list_append,PySem.F.type_list_append,vM⟩
end
def Cal.byH{P:Program}{w:World}{K:AA6}{mg:Str->Option Value}{base:Heap}{x:Str}{st:Stmt}{N ps:List Str}{k:Nat}{Pr:DSp}(F:cS K mg x st ps)(Sc:FnScope N ps (ap st))
  (len:∀ds M R,Pr ds M R->ds.length=ps.length) {t:DTS}
  (der:∀(f:Addr) (cdv:Value) (A:Around) (outer:List Env) (s:Shared) (H:Hp) (E:XK),Room k (A.deeper (envOfC x (ap st) s.heap.objs.size f cdv))->HB (rC CX0 P w K mg base N x (ap st) f cdv A outer s H E).nox (bE st) t)
  (wp:∀ds M R,Pr ds M R->t ⟨λ_ M'=>bI M R .non M',bI M R,λ_ _=>False,λ_ _=>False⟩ (cb N ds) M):Cal P w K mg base (k+1) x ps Pr :=
 Cal.of F Sc len (λf cdv A outer s H E hr=>(der f cdv A outer s H E hr).ok) wp
def AM{P:Program}{w:World}{K:AA6}{mg:Str->Option Value}{base:Heap}{x:Str}{st:Stmt}{N ps:List Str}{k:Nat}{Pr:DSp}{f:Addr}{fd:FuncData}(F:Fun K x x st f fd)(Sc:FnScope N ps (ap st))
  (len:∀ds M R,Pr ds M R->ds.length=ps.length) {t:DTS}
  (der:∀(f:Addr) (cdv:Value) (A:Around) (outer:List Env) (s:Shared) (H:Hp) (E:XK),Room k (A.deeper (envOfC x (ap st) s.heap.objs.size f cdv))->HB (rC CX0 P w K mg base N x (ap st) f cdv A outer s H E).nox (bE st) t)
  (wp:∀ds M R,Pr ds M R->t ⟨λ_ M'=>bI M R .non M',bI M R,λ_ _=>False,λ_ _=>False⟩ (cb N ds) M):FnOk P w K mg base CX0 (k+1) f fd ps (spL K Pr) :=
 Ee F Sc len (λf cdv A outer s H E hr=>(der f cdv A outer s H E hr).ok) wp
section
variable{ok:Mem->Prop}{g:DTG}{tb:DTS}{E:DEnds}{k0:Mem}
def jP(I:List D->SD->Mem->Prop)(h0:∀S M,I [] S M->ok M/\E.nx S M)
  (h1:∀x xs S M,I (x::xs) S M->∀L:SD->Mem->Prop,(∀S' M',I xs S' M'->L S' M')->ok M/\g x S M λS2 M2=>tb ⟨Fgt k0 L,E.rt,E.nx,Fgt k0 L⟩ S2 M2) :
  ∀xs S M,I xs S M->rA ok g tb E k0 xs S M
 | [],S,M,h=>h0 S M h
 | x::xs,S,M,h=>h1 x xs S M h _ (jP I h0 h1 xs)
def bj(I:Nat->SD->Mem->Prop)(h0:∀S M,I xs.length S M->ok M/\E.nx S M)
  (h1:∀i x S M,xs[i]?=some x->I i S M->∀L:SD->Mem->Prop,(∀S' M',I (i+1) S' M'->L S' M')->ok M/\g x S M λS2 M2=>tb ⟨Fgt k0 L,E.rt,E.nx,Fgt k0 L⟩ S2 M2)
 (h:I 0 S M):rA ok g tb E k0 xs S M:=by
 refine jP (λys S M=>∃i,xs.drop i=ys/\i+ys.length=xs.length/\I i S M) ?_ ?_ xs S M ⟨0,rfl,by simp,h⟩
 ·rintro S M ⟨i,_,e,q⟩
  have:i=xs.length:=by simpa using e
  subst this;exact h0 S M q
 ·rintro x ys S M ⟨i,e,el,q⟩ L hL
  have hx:xs[i]?=some x:=by
   have:(xs.drop i)[0]?=some x:=by rw[e];rfl
   simpa using this
  refine h1 i x S M hx q L λS' M' q'=>hL S' M' ⟨i+1,?_,by simp at el;lia,q'⟩
  rw[<-List.drop_drop,e];rfl
def Fgt.now(h:P S M):Fgt k0 P S M:=.inl h
def fM{lo:Int}{n i:Nat}{x:D}:(rQ lo n)[i]?=some x↔i<n/\x=.int (lo+(i:Int)):=by
 unfold rQ;rw[AAV];by_cases h:i<n
 ·simp[h,eq_comm]
 ·simp[h]
def iq{lo:Int}{n:Nat}:(rQ lo n).length=n:=by simp[rQ]
end
def bp(p:D->Bool)(f:D->D)(I:SD->Prop)(hok:ok M) :
  ∀(xs acc:List D) (S:SD),(∀x∈xs,∀S,I S->∃S',I S'/\∀(Y:D->SD->Mem->Prop) (Z:SD->Mem->Prop),(if p x=true then Y (f x) S' M else Z S' M) ->
    g x S M λS2 M2=>tt S2 M2 λb M3=>if b=true then te S2 M3 λy M4=>Y y S2 M4 else Z S2 M3) ->
   I S->acc.length+xs.length<=sizeLine->Q (.ref M.length) (M++[.lst (acc++(xs.filter p).map f)])->lX ok g tt te Q xs acc S M
 | [],acc,S,_,_,_,q=>⟨hok,by simpa using q⟩
 | x::xs,acc,S,step,hS,hl,q=>by
  obtain⟨S',hS',k⟩:=step x AAI S hS;refine⟨hok,k (λy S2 M4=>acc.length<sizeLine/\lX ok g tt te Q xs (acc++[y]) S2 M4) (λS2 M3=>lX ok g tt te Q xs acc S2 M3) ?_⟩
  have step':=λy hy=>step y (AA9 _ hy)
  rw[AAN]at hl;by_cases hp:p x=true
  ·rw[if_pos hp]
   refine⟨by lia,bp p f I hok xs _ S' step' hS' (by rw[AAA,AAb];lia) ?_⟩
   rw[List.filter_cons_of_pos hp,AAQ]at q;rw[AAk];exact q
  ·rw[if_neg hp]
   refine bp p f I hok xs acc S' step' hS' (by lia) ?_
   rw[List.filter_cons_of_neg hp]at q;exact q
def cf(f:D->D)(I:SD->Prop)(hok:ok M)
  (xs acc:List D) (S:SD) (step:∀x∈xs,∀S,I S->∃S',I S'/\∀(Y:D->SD->Mem->Prop),Y (f x) S' M->g x S M λS2 M2=>te S2 M2 λy M4=>Y y S2 M4)
  (hS:I S) (hl:acc.length+xs.length<=sizeLine) (q:Q (.ref M.length) (M++[.lst (acc++xs.map f)])):lX ok g uR te Q xs acc S M:=by
 refine bp (λ_=>true) f I hok xs acc S (λx hx S hS=>?_) hS hl (by rw[List.filter_eq_self.mpr λ_ _=>rfl];exact q)
 obtain⟨S',hS',k⟩:=step x hx S hS;refine⟨S',hS',λY Z h=>?_⟩
 rw[if_pos rfl]at h;have:=k Y h;simp only[uR,if_true];exact this
def ae:(M++[mo])[M.length]?=some mo:=by simp
def aE:ak (M++[.lst xs]) M.length xs:=.inl ae
def ak.more(h:ak M n xs)(L:Mem):ak (M++L) n xs:=by
 have key:∀{mo:MO},M[n]?=some mo->(M++L)[n]?=some mo:=λe=>by
  rw[AAT (AA7.mp e).1];exact e
 rcases h with h | h | h
 ·exact .inl (key h)
 ·exact .inr (.inl (key h))
 ·exact .inr (.inr (key h))
def bI.keep(h:R d M)(b:Bel M.length d)(p:M <+: M'):bI M R d M':=.inr (.inl ⟨M,.refl,b,p,h⟩)
def bI.now(h:R d M):bI M R d M:=.inl h
def bI.bl(h:R (.bl b) M)(p:M <+: M'):bI M R (.bl b) M':=.keep h (.bl b) p
def eM:M <+: M++[mo]:=AAl _ _
def CD{a b:Str}(h:a.cps.toList=b.cps.toList):a=b:=by
 cases a;cases b
 simp only[Array.toList_inj]at h;simpa using h
def kT{a:Str}:a.length=a.cps.toList.length:=by show a.cps.size=_;simp
def EL{a b:Str}:(a++b).cps.toList=a.cps.toList++b.cps.toList:=by
 show (a.cps++b.cps).toList=_;simp
def bV{a b:Str}:(a++b).length=a.length+b.length:=by
 rw[kT,kT,kT,EL,AAA]
def aw(h:n<=1000):n<=sizeLine:=ACN (aB h)
def gI{α:Type}{xs:List α}{i:Int}(h0:0<=i)(h1:i<xs.length):∃(j:Nat) (hj:j<xs.length),atI xs i=some xs[j]/\(j:Int)=i:=by
 have hj:i.toNat<xs.length:=by lia
 refine⟨i.toNat,hj,?_,by lia⟩
 have e:i=((i.toNat:Nat):Int):=by lia
 have q:atI xs ((i.toNat:Nat):Int)=some xs[i.toNat]:=ay (AA5 hj);rw[<-e]at q;exact q
section
variable{M:Mem}
def ak.get(h:ak M n xs):∃mo,M[n]?=some mo/\mo.items=xs/\mo.isL=true:=by
 rcases h with h | h | h<;>exact⟨_,h,rfl,rfl⟩
def uM(h1:ak M i xs)(h2:ak M j ys):eqD M (n+1) (.ref i) (.ref j)=eqL (eqD M n) xs ys:=by
 obtain⟨a,ha,rfl,hl1⟩:=h1.get;obtain⟨b,hb,rfl,hl2⟩:=h2.get;simp only[eqD,ha,hb]
def nZ(h1:ak M i xs)(h:∀x∈xs,okD M n x=true):okD M (n+1) (.ref i)=true:=by
 obtain⟨a,ha,rfl,hl1⟩:=h1.get;simp only[okD,ha,hl1,Bool.true_and];exact AAh.mpr h
def Dr(h:∀x∈xs,okD M n x=true):okD M (n+1) (.tup xs)=true:=by
 simp only[okD];exact AAh.mpr h
def aU:okD M n (.str x)=true:=by cases n<;>rfl
def oh:okD M n (.int x)=true:=by cases n<;>rfl
def Bz:okD M n (.bl x)=true:=by cases n<;>rfl
def xP:okD M n .non=true:=by cases n<;>rfl
def Eg:eqL f xs []=xs.isEmpty:=by cases xs<;>rfl
def gX:eqD M n (.int a) (.int b)=(a==b):=by cases n<;>rfl
def ck:eqD M n (.str a) (.str b)=(a==b):=by cases n<;>rfl
end
section
variable{X:Cx}{pos:Pos}
def lV:Ct:=λds S M Q=>match ds with
 | []=>Q S M
 | _=>False
def cc(t:DTG)(u:Ct):Ct:=λds S M Q=>match ds with
 | d::r=>t d S M λS' M'=>u r S' M' Q
 | []=>False
def lU(n:Nat)(t:Ct):DTG:=λd S M Q=>match d with
 | .tup ds=>ds.length=n/\t ds S M Q
 | _=>False
def Et:DGs X [] lV:=by
 intro pins s σ H vs us R I r ⟨ds,S,M,ρ,Q,sm,sr,rr,q,k⟩;cases rr with
 | nil=>exact De pins s σ H _ us R I r ⟨rfl,k σ H ⟨S,M,ρ,sm,.refl,sr,q⟩⟩
 | cons _ _=>exact q.elim
def AY(h1:DG X e t)(h2:DGs X es u)
  (hs:(assignEach (e::es) X.env).map (·.2)=assign e X.env::(assignEach es X.env).map (·.2):=by rfl):DGs X (e::es) (cc t u):=by
 intro pins s σ H vs us R I r ⟨ds,S,M,ρ,Q,sm,sr,rr,q,k⟩;cases rr with
 | nil=>exact q.elim
 | cons r1 rr =>
  refine zZ h1 h2 hs pins s σ H _ us R I r ⟨_,_,rfl,_,S,M,ρ,_,sm,sr,r1,q,λσ1 H1 ⟨S1,M1,ρ1,s1,g1,sr1,q1⟩=>?_⟩
  exact⟨_,S1,M1,ρ1,Q,s1,sr1,rr.grow g1,q1,λσ' H' w=>k σ' H' (SQ.trans g1 w)⟩
def Hw(h:DGs X es t)(hc:X.calm=true:=by rfl)
  (hn:(assignEach es X.env).length=n:=by rfl) (hst:(assignEach es X.env).findIdx? (·.1)=none:=by rfl):DG X (.Tuple es j pos) (lU n t):=by
 intro pins s σ H v u R I r ⟨d,S,M,ρ,Q,sm,sr,rd,q,k⟩;cases rd with
 | tup hq rr=>exact FI hc h hn hst pins s σ H _ u R I r ⟨_,_,rfl,hq,by rw[<-rr.length];exact q.1,_,S,M,ρ,Q,sm,sr,rr,q.2,k⟩
 | _=>exact q.elim
def HN(te:DTE)(g:DTG):DTS:=λE S M=>te S M λd M1=>g d S M1 E.nx
def Hq(he:DE X e te)(hg:DG X tg g)(hs:swapsWithSole [tg] e pos.line X.env=pure false:=by rfl)(hw:swappedStores [tg] e X.env=pure none:=by rfl)
  (h1:(assignEach [tg] X.env).map (·.2)=[assign tg X.env]:=by rfl):DS X (.Assign [tg] e pos) (HN te g) :=
 PS.imp (FH he hg hs hw h1) λE σ H ⟨S,M,ρ,F,s,sr,q,k⟩=>⟨S,M,ρ,_,s,sr,q,λv H1 ⟨d,M1,ρ1,s1,g1,r1,q1⟩=>⟨d,S,M1,ρ1,_,s1,sr.grow g1,r1,q1,λσ' H' w=>k.nx σ' H' (SQ.trans g1 w)⟩⟩
def qSet:D->D->D->Mem->(Mem->Prop)->Prop:=λo i v M Q=>match o,i with
 | .ref n,.int k=>∃xs j,M[n]?=some (.lst xs)/\ixN xs.length k=some j/\Q (M.set n (.lst (xs.set j v)))
 | _,_=>False
def Reps.set{K:AA6}{ρ:List Addr}{H:Hp}{d:D}{v:V}(r:Rep K ρ H d v):∀{ds:List D}{vs:List V} (i:Nat),Reps K ρ H ds vs->Reps K ρ H (ds.set i d) (vs.set i v)
 | _,_,_,.nil=>.nil
 | _,_,0,.cons _ t=>.cons r t
 | _,_,i+1,.cons q t=>.cons q (Reps.set r i t)
def AZ(to ti:DTE):DTG:=λv S M Q=>to S M λo M1=>ti S M1 λi M2=>qSet o i v M2 λM3=>Q S M3
def Hy(ho:DE X o to)(hi:DE X i ti)
  (ha:∀v,assign (.Subscript o i pos) X.env v=(do
   let ov <-holding [v] (eval o X.env)
   let iv <-holding [v,ov] (eval i X.env)
   standAt pos
   holding [v,ov,iv] (setItem ov iv v)
   release [v,ov,iv] []):=by intro _;rfl):DG X (.Subscript o i pos) (AZ to ti):=by
 intro pins s σ H v u R I r ⟨d,S,M,ρ,Q,sm,sr,rd,q,k⟩;refine FJ ho hi zQ ha pins s σ H v u R I r ⟨S,M,ρ,_,sm,sr,q,λvo H1 ⟨o',M1,ρ1,s1,g1,r1,q1⟩=>⟨S,M1,ρ1,_,s1,sr.grow g1,q1,λvi H2 ⟨i',M2,ρ2,s2,g2,r2,q2⟩=>?_⟩⟩
 have r1':=r1.grow g2;cases r1' with
 | @ref n a hn =>
  cases r2 with
  | int j =>
   obtain⟨xs,jj,e,hj,q3⟩:=(show ∃xs j',M2[n]?=some (.lst xs)/\ixN xs.length j=some j'/\Q S (M2.set n (.lst (xs.set j' d)))from q2);obtain⟨vs,hH,rr⟩:=s2.obj n a _ hn e;obtain⟨w1,w2⟩:=s2.write hn e hH (Reps.set (rd.grow (g1.trans g2)) jj rr);exact⟨a,vs,j,jj,rfl,rfl,hH,by rw[<-rr.length];exact hj,k σ _ ⟨S,_,ρ2,w1,(g1.trans g2).trans w2,sr.grow ((g1.trans g2).trans w2),q3⟩⟩
  | _=>exact q2.elim
 | _=>exact q2.elim
def iw:DRA:=λds M Q=>match ds with
 | [.ref n]=>∃xs,ak M n xs/\Q (.tup xs) M
 | [.tup xs]=>Q (.tup xs) M
 | _=>False
def Bi:jC X (.type "tuple") iw:=by
 refine hW.imp oS λvs H R ⟨ds,M,ρ,Q,sm,rs,q,k⟩=>?_
 unfold iw at q;split at q
 ·obtain⟨xs,hL,q⟩:=q
  first | have hzz:=Reps.inv_cons rs | have hzz:=au.inv_cons rs
  clear rs;obtain⟨_,_,rfl,r1,rs⟩:=hzz;cases rs
  obtain⟨_,rfl,e⟩:=Rep.inv_ref r1;obtain⟨ws,hq,r⟩:=ak.seq sm hL e;exact⟨_,ws,rfl,.inl ⟨hq,λl hl=>k _ _ (VQ.laidT sm .refl r hl q)⟩⟩
 ·first | have hzz:=Reps.inv_cons rs | have hzz:=au.inv_cons rs
  clear rs;obtain⟨_,_,rfl,r1,rs⟩:=hzz;cases rs
  cases r1 with
  | tup hq r=>exact⟨_,_,rfl,.inr ⟨hq,k _ H (VQ.now sm (.tup hq r) q)⟩⟩
 ·exact q.elim
theorem Af:OpR X (binaryOp .Add) (λx y H Q=>∃a b ys,x=.ref a/\y=.ref b/\SqT X.K H a []/\SqT X.K H b ys/\Q (.ref b) H):=by
 intro pins s σ H x y v u Q I rx ry h;obtain⟨a,b,ys,rfl,rfl,ha,hb,q⟩:=h;cases rx
 cases ry
 obtain⟨its,r1,p1,_⟩:=I.tuple ha;obtain⟨its2,r2,p2,_⟩:=I.tuple hb;have e:its=[]:=r1.nil_iff.mpr rfl;subst e;obtain⟨⟨cls,dd,data,sl⟩,ho,hc,n,hd⟩:=id p1;obtain⟨⟨cls2,dd2,data2,sl2⟩,ho2,hc2,n2,hd2⟩:=id p2;simp only at hc hd hc2 hd2;subst hc hd hc2 hd2;exact concat_meets ⟨_,ho,rfl⟩ ⟨_,ho2,rfl⟩ noFill_tuple_add seq_tuple_add AE0 ADn (ADh _ _)
  (tuple_addW0 a b _ _ n n2 dd dd2 sl sl2 (by simp)) ⟨ho,ho2,⟨.ref b,H,I,rfl,q⟩⟩
def bh:DR2:=λx y M Q=>match x,y with
 | .tup xs,.tup ys=>xs.length+ys.length<=sizeLine/\Q (.tup (xs++ys)) M
 | _,_=>qAdd x y M Q
def Dv:OpD X (binaryOp .Add) bh:=by
 intro pins s σ H vx vy v u R I rx ry ⟨x,y,M,ρ,Q,sm,r1,r2,q,k⟩;unfold bh at q;split at q
 ·rename_i xs ys
  obtain⟨a,vs,rfl,h1,t1⟩:=Rep.inv_tup r1;obtain⟨b,ws,rfl,h2,t2⟩:=Rep.inv_tup r2;have l1:=t1.length;have l2:=t2.length;cases xs with
  | nil =>
   cases t1
   exact Af pins s σ H _ _ v u R I rx ry ⟨a,b,ws,rfl,rfl,h1,h2,k _ H (VQ.now sm (.tup h2 t2) q.2)⟩
  | cons x0 xs0 =>
   refine Dp pins s σ H _ _ v u R I rx ry ⟨a,b,vs,ws,rfl,rfl,h1,h2,?_,by rw[<-l1,<-l2];exact q.1,λz=>?_,λ_ p hp=>k _ _ (VQ.laidT sm .refl (t1.append t2) hp q.2)⟩
   ·intro z
    subst z;simp at l1
   ·subst z
    have:ys=[]:=by simpa using l2
    subst this;rw[AB7]at q;exact k _ H (VQ.now sm (.tup h1 t1) q.2)
 ·exact Gn pins s σ H vx vy v u R I rx ry ⟨x,y,M,ρ,Q,sm,r1,r2,q,k⟩
def iP(n:Nat):DRA:=λds M Q=>match ds with
 | [.ref m]=>∃xs ys,M[n]?=some (.lst xs)/\M[m]?=some (.lst ys)/\n≠m/\xs.length+ys.length<=sizeLine/\Q .non (M.set n (.lst (xs++ys)))
 | _=>False
def vL:MtR X "list.extend" (lK X.K iP):=by
 intro pins s σ H x xs v us R I rx rs ⟨n,a,ds,M,ρ,Q,ez,hn,sm,rr,q,k⟩;unfold iP at q;split at q
 ·rename_i m
  obtain⟨ys,zs,e,e2,hne,hl,q⟩:=q;first | have hzz:=Reps.inv_cons rr | have hzz:=au.inv_cons rr
  clear rr;obtain⟨_,_,rfl,r1,rr⟩:=hzz;cases rr
  obtain⟨b,rfl,hm⟩:=Rep.inv_ref r1;obtain⟨vs,hH,r⟩:=sm.obj n a _ hn e;obtain⟨ws,hH2,r2⟩:=sm.obj m b _ hm e2;obtain⟨w1,w2⟩:=sm.write hn e hH (r.append r2);exact xR pins s σ H x _ v us R I rx rs ⟨a,b,vs,ws,ez,rfl,hH,hH2,by rw[<-r.length,<-r2.length];exact hl,k _ _ ⟨.non,_,ρ,w1,w2,.non,q⟩⟩
 ·exact q.elim
end
end L2
namespace Srt
open PySem PySem.W PyProof.Rows
def run{α:Type}(c:Nat->Nat->Bool):KasT α->α
 | .ret a=>a
 | .ask i j k=>run c (k (c i j))
def fL{α β:Type}{c:Nat->Nat->Bool}{f:α->KasT β}:∀t:KasT α,run c (t.bind f)=run c (f (run c t))
 | .ret a=>rfl
 | .ask i j k=>fL (k (c i j))
def Bd{α:Type}(n:Nat):KasT α->Prop
 | .ret _=>True
 | .ask i j k=>i<n/\j<n/\∀b,Bd n (k b)
def All{α:Type}(P:α->Prop):KasT α->Prop
 | .ret a=>P a
 | .ask _ _ k=>∀b,All P (k b)
def All.mono{α:Type}{P Q:α->Prop}(h:∀a,P a->Q a):∀t:KasT α,All P t->All Q t
 | .ret a,q=>h a q
 | .ask _ _ k,q=>λb=>All.mono h (k b) (q b)
def All.bind{α β:Type}{P:β->Prop}{f:α->KasT β}:∀t:KasT α,All (λa=>All P (f a)) t->All P (t.bind f)
 | .ret a,q=>q
 | .ask _ _ k,q=>λb=>All.bind (k b) (q b)
def Bd.bindA{α β:Type}{n:Nat}{f:α->KasT β}:∀t:KasT α,Bd n t->All (λa=>Bd n (f a)) t->Bd n (t.bind f)
 | .ret a,_,q=>q
 | .ask _ _ k,b,q=>⟨b.1,b.2.1,λx=>Bd.bindA (k x) (b.2.2 x) (q x)⟩
def All.run{α:Type}{P:α->Prop}{c:Nat->Nat->Bool}:∀t:KasT α,All P t->P (Srt.run c t)
 | .ret a,q=>q
 | .ask i j k,q=>All.run (k (c i j)) (q _)
def wp_run{α:Type}{cmp:Nat->Nat->(Bool->Shared->Prop)->Shared->Prop}{c:Nat->Nat->Bool}{n:Nat}{s:Shared}{Q:α->Shared->Prop}(hc:∀i j (C:Bool->Shared->Prop),i<n->j<n->C (c i j) s->cmp i j C s) :
  ∀t:KasT α,Bd n t->Q (run c t) s->t.kasWp cmp Q s
 | .ret a,_,q=>q
 | .ask i j k,b,q=>hc i j _ b.1 b.2.1 (wp_run hc (k (c i j)) (b.2.2 _) q)
structure Ord(c:Nat->Nat->Bool):Prop where
 irr:∀a,c a a=false
 tr:∀a b d,c a b=true->c b d=true->c a d=true
 neg:∀a b d,c a d=true->c a b=true\/c b d=true
section
variable{c:Nat->Nat->Bool}(O:Ord c)
def le(c:Nat->Nat->Bool)(a b:Nat):Prop:=c b a=false
def le_refl(O:Ord c)(a:Nat):le c a a:=O.irr a
def le_trans(O:Ord c)(h1:le c a b)(h2:le c b d):le c a d:=by
 unfold le at *;cases q:c d a with
 | false=>rfl
 | true =>
  rcases O.neg d b a q with h | h
  ·rw[h2]at h;cases h
  ·rw[h1]at h;cases h
def le_of_lt(O:Ord c)(h:c a b=true):le c a b:=by
 unfold le;cases q:c b a with
 | false=>rfl
 | true=>have:=O.tr a b a h q;rw[O.irr]at this;cases this
abbrev at_(p:Array Nat)(k:Nat):Nat:=p.getD k 0
def Up(c:Nat->Nat->Bool)(p:Array Nat)(m:Nat):Prop:=∀i j,i<=j->j<m->le c (at_ p i) (at_ p j)
def Dn(c:Nat->Nat->Bool)(p:Array Nat)(m:Nat):Prop:=∀i j,i<=j->j<m->le c (at_ p j) (at_ p i)
def Eqs(c:Nat->Nat->Bool)(p:Array Nat)(a b:Nat):Prop:=∀i j,a<=i->i<b->a<=j->j<b->le c (at_ p i) (at_ p j)
def Up.one(O:Ord c)(p:Array Nat):Up c p 1:=λi j hij hj=>by
 have:i=j:=by lia
 subst this;exact le_refl O _
def Up.snoc(O:Ord c)(h:Up c p n)(h1:1<=n)(hl:le c (at_ p (n-1)) (at_ p n)):Up c p (n+1):=λi j hij hj=>by
 by_cases hjn:j<n
 ·exact h i j hij hjn
 ·have:j=n:=by lia
  subst this;by_cases hi:i=j
  ·subst hi;exact le_refl O _
  ·exact le_trans O (h i (j-1) (by lia) (by lia)) hl
def Dn.snoc(O:Ord c)(h:Dn c p n)(h1:1<=n)(hl:le c (at_ p n) (at_ p (n-1))):Dn c p (n+1):=λi j hij hj=>by
 by_cases hjn:j<n
 ·exact h i j hij hjn
 ·have:j=n:=by lia
  subst this;by_cases hi:i=j
  ·subst hi;exact le_refl O _
  ·exact le_trans O hl (h i (j-1) (by lia) (by lia))
def gH(hj:j<=p.size)(k:Nat):at_ (ADS p i j) k=if i<=k/\k<j then at_ p (i+j-1-k)else at_ p k:=by
 have e:=getElem?_mirror_all (xs:=p) (i:=i) hj k;unfold at_ ADS;rw[AB8,e];by_cases h:i<=k/\k<j
 ·rw[if_pos h,if_pos h,AB8]
 ·rw[if_neg h,if_neg h,AB8]
def rO(hk:k<p.size)(hd:d<=k)(i:Nat):at_ (bubble p k d) i=if i=k-d then at_ p k else if k-d<i/\i<=k then at_ p (i-1)else at_ p i:=by
 have e:=getElem?_bubble (xs:=p) hk d hd i;unfold at_;rw[AB8,e];by_cases h:i=k-d
 ·rw[if_pos h,if_pos h,AB8]
 ·rw[if_neg h,if_neg h]
  by_cases h':k-d<i/\i<=k
  ·rw[if_pos h',if_pos h',AB8]
  ·rw[if_neg h',if_neg h',AB8]
def Dn.rev(h:Dn c p n)(hn:n<=p.size):Up c (ADS p 0 n) n:=λi j hij hj=>by
 rw[gH hn,gH hn,if_pos ⟨AAX _,by lia⟩,if_pos ⟨AAX _,hj⟩]
 exact h _ _ (by lia) (by lia)
def Dn.revEq(O:Ord c)(h:Dn c p n)(hn:n<=p.size)(he:Eqs c p a n):Dn c (ADS p a n) n:=λi j hij hj=>by
 rw[gH hn,gH hn];by_cases h1:a<=i/\i<n
 ·by_cases h2:a<=j/\j<n
  ·rw[if_pos h1,if_pos h2]
   exact he _ _ (by lia) (by lia) (by lia) (by lia)
  ·exact absurd ⟨by lia,hj⟩ h2
 ·by_cases h2:a<=j/\j<n
  ·rw[if_neg h1,if_pos h2]
   exact h _ _ (by lia) (by lia)
  ·rw[if_neg h1,if_neg h2]
   exact h _ _ hij hj
def sY(O:Ord c):∀(f n:Nat),1<=n->Up c p n->Up c p (run c (AE4 p f n))/\n<=run c (AE4 p f n)/\run c (AE4 p f n)<=n+f /\
  (run c (AE4 p f n)<n+f->c (at_ p (run c (AE4 p f n))) (at_ p (run c (AE4 p f n)-1))=true)
 | 0,n,_,h=>⟨h,AA8 _,AA8 _,λz=>absurd z (AAn _)⟩
 | f+1,n,h1,h=>by
  show Up c p (run c (if c (at_ p n) (at_ p (n-1))=true then .ret n else AE4 p f (n+1)))/\n<=run c (if c (at_ p n) (at_ p (n-1))=true then .ret n else AE4 p f (n+1)) /\
   run c (if c (at_ p n) (at_ p (n-1))=true then .ret n else AE4 p f (n+1))<=n+(f+1)/\(run c (if c (at_ p n) (at_ p (n-1))=true then .ret n else AE4 p f (n+1))<n+(f+1) ->
    c (at_ p (run c (if c (at_ p n) (at_ p (n-1))=true then .ret n else AE4 p f (n+1)))) (at_ p (run c (if c (at_ p n) (at_ p (n-1))=true then .ret n else AE4 p f (n+1))-1))=true)
  by_cases q:c (at_ p n) (at_ p (n-1))=true
  ·rw[if_pos q]
   exact⟨h,AA8 _,ADb _ _,λ_=>q⟩
  ·rw[if_neg q]
   obtain⟨a1,a2,a3,a4⟩:=sY O f (n+1) (by lia) (h.snoc O h1 (by unfold le;simpa using q))
   exact⟨a1,by lia,by lia,λz=>a4 (by lia)⟩
def dD:(ADS p i j).size=p.size:=mirror_size _ _ _ _
def zx(c:Nat->Nat->Bool)(z n m:Nat)(r:Array Nat×Nat×Nat):Prop:=r.1.size=z/\Dn c r.1 r.2.1/\n<=r.2.1/\r.2.1<=m/\r.2.2+1<=r.2.1/\Eqs c r.1 (r.2.1-(r.2.2+1)) r.2.1
def oV(c:Nat->Nat->Bool)(z nrem:Nat)(r:Nat×Array Nat):Prop:=r.2.size=z/\Up c r.2 r.1/\1<=r.1/\r.1<=nrem
def tj(c:Nat->Nat->Bool)(p:Array Nat)(k m:Nat):Prop:=m<=k/\(∀i,i<m->le c (at_ p i) (at_ p k))/\∀i,m<=i->i<k->c (at_ p k) (at_ p i)=true
def jN(O:Ord c):∀(f:Nat) (p:Array Nat) (n q:Nat),q+1<=n->n+f<=p.size->Dn c p n->Eqs c p (n-(q+1)) n ->
  zx c p.size n (n+f) (run c (ACG f p n q))
 | 0,p,n,q,h1,h2,hd,he=>⟨rfl,hd,AA8 _,AA8 _,h1,he⟩
 | f+1,p,n,q,h1,h2,hd,he=>by
  have hn:n<=p.size:=by lia
  show zx c p.size n (n+(f+1)) (run c (if c (at_ p n) (at_ p (n-1))=true then(if q > 0 then ACG f (ADS p (n-(q+1)) n) (n+1) 0 else ACG f p (n+1) 0)
   else .ask (at_ p (n-1)) (at_ p n) λd=>if d=true then .ret (p,n,q)else ACG f p (n+1) (q+1)))
  by_cases hc:c (at_ p n) (at_ p (n-1))=true
  ·rw[if_pos hc]
   by_cases hq:q > 0
   ·rw[if_pos hq]
    have hd':Dn c (ADS p (n-(q+1)) n) (n+1):=by
     refine(hd.revEq O hn he).snoc O (by lia) ?_
     rw[gH hn,gH hn,if_neg (by lia),if_pos ⟨by lia,by lia⟩]
     exact le_trans O (le_of_lt O hc) (he _ _ (by lia) (by lia) (by lia) (by lia))
    have r:=jN O f (ADS p (n-(q+1)) n) (n+1) 0 (by lia) (by rw[dD];lia) hd' (λi j a1 a2 a3 a4=>by
     have:i=n:=by lia
     have:j=n:=by lia
     subst_vars
     exact le_refl O _)
    obtain⟨a1,a2,a3,a4,a5,a6⟩:=r;exact⟨a1.trans dD,a2,by lia,by lia,a5,a6⟩
   ·rw[if_neg hq]
    have r:=jN O f p (n+1) 0 (by lia) (by lia) (hd.snoc O (by lia) (le_of_lt O hc)) (λi j a1 a2 a3 a4=>by
     have:i=n:=by lia
     have:j=n:=by lia
     subst_vars
     exact le_refl O _)
    obtain⟨a1,a2,a3,a4,a5,a6⟩:=r;exact⟨a1,a2,by lia,by lia,a5,a6⟩
  ·rw[if_neg hc]
   show zx c p.size n (n+(f+1)) (run c (if c (at_ p (n-1)) (at_ p n)=true then .ret (p,n,q)else ACG f p (n+1) (q+1)));by_cases hc':c (at_ p (n-1)) (at_ p n)=true
   ·rw[if_pos hc']
    exact⟨rfl,hd,AA8 _,by show n<=_;lia,h1,he⟩
   ·rw[if_neg hc']
    have l1:le c (at_ p n) (at_ p (n-1)):=by unfold le;simpa using hc'
    have l2:le c (at_ p (n-1)) (at_ p n):=by unfold le;simpa using hc
    have r:=jN O f p (n+1) (q+1) (by lia) (by lia) (hd.snoc O (by lia) l1) (λi j a1 a2 a3 a4=>by
     by_cases hi:i=n
     ·by_cases hj:j=n
      ·subst hi hj;exact le_refl O _
      ·subst hi
       exact le_trans O l1 (he _ _ (by lia) (by lia) (by lia) (by lia))
     ·by_cases hj:j=n
      ·subst hj
       exact le_trans O (he _ _ (by lia) (by lia) (by lia) (by lia)) l2
      ·exact he _ _ (by lia) (by lia) (by lia) (by lia))
    obtain⟨a1,a2,a3,a4,a5,a6⟩:=r;exact⟨a1,a2,by lia,by lia,a5,a6⟩
def pj(O:Ord c)(h1:1<=n)(hn:n<=nrem)(hz:nrem<=p.size)(hd:Dn c p n) :
  oV c p.size nrem (run c (kas_tail3 n nrem p)):=by
 unfold kas_tail3;rw[fL];obtain⟨a1,a2,a3,_⟩:=sY O (nrem-n) n h1 (hd.rev (by lia))
 exact⟨dD,a1,AB3 h1 a2,AB3 a3 (by lia)⟩
def jp(O:Ord c)(h1:1<=n)(hn:n+1<=nrem)(hz:nrem<=p.size)(he:Eqs c p 0 n)(hc:c (at_ p n) (at_ p (n-1))=true) :
  oV c p.size nrem (run c (AEE n nrem p)):=by
 have hd:Dn c p (n+1):=by
  refine Dn.snoc O (λi j hij hj=>he _ _ (by lia) (by lia) (by lia) (by lia)) h1 (le_of_lt O hc)
 unfold AEE;rw[fL];obtain⟨b1,b2,b3,b4,b5,b6⟩:=jN O (nrem-(n+1)) p (n+1) 0 (by lia) (by lia) hd (λi j a1 a2 a3 a4=>by
  have:i=n:=by lia
  have:j=n:=by lia
  subst_vars
  exact le_refl O _)
 by_cases hq:(run c (ACG (nrem-(n+1)) p (n+1) 0)).2.2 > 0
 ·rw[if_pos hq]
  obtain⟨d1,d2,d3,d4⟩:=pj O (p:=ADS (run c (ACG (nrem-(n+1)) p (n+1) 0)).1 ((run c (ACG (nrem-(n+1)) p (n+1) 0)).2.1-((run c (ACG (nrem-(n+1)) p (n+1) 0)).2.2+1)) (run c (ACG (nrem-(n+1)) p (n+1) 0)).2.1)
   (n:=(run c (ACG (nrem-(n+1)) p (n+1) 0)).2.1) (nrem:=nrem) (by lia) (by lia) (by rw[dD,b1];exact hz) (b2.revEq O (by rw[b1];lia) b6)
  exact⟨d1.trans (dD.trans b1),d2,d3,d4⟩
 ·rw[if_neg hq]
  obtain⟨d1,d2,d3,d4⟩:=pj O (p:=(run c (ACG (nrem-(n+1)) p (n+1) 0)).1) (n:=(run c (ACG (nrem-(n+1)) p (n+1) 0)).2.1) (nrem:=nrem) (by lia) (by lia) (by rw[b1];exact hz) b2
  exact⟨d1.trans b1,d2,d3,d4⟩
def zf(O:Ord c)(h1:1<=nrem)(hz:nrem<=p.size) :
  oV c p.size nrem (run c (kas_count nrem p)):=by
 unfold kas_count;rw[fL];obtain⟨a1,a2,a3,a4⟩:=sY O (nrem-1) 1 (AA8 _) (Up.one O p);generalize run c (AE4 p (nrem-1) 1)=n at a1 a2 a3 a4;by_cases hn:(n==nrem)=true
 ·rw[if_pos hn]
  exact⟨rfl,a1,a2,by show n<=nrem;lia⟩
 ·rw[if_neg hn]
  have hn':n≠nrem:=by simpa using hn
  have hlt:c (at_ p n) (at_ p (n-1))=true:=a4 (by lia)
  by_cases h2:n > 1
  ·rw[if_pos h2]
   show oV c p.size nrem (run c (if c (at_ p 0) (at_ p (n-1))=true then .ret (n,p)else AEE n nrem (ADS p 0 n)));by_cases hc:c (at_ p 0) (at_ p (n-1))=true
   ·rw[if_pos hc]
    exact⟨rfl,a1,a2,by show n<=nrem;lia⟩
   ·rw[if_neg hc]
    have hz':n<=p.size:=by lia
    have l0:le c (at_ p (n-1)) (at_ p 0):=by unfold le;simpa using hc
    have he:Eqs c p 0 n:=λi j b1 b2 b3 b4=>le_trans O (a1 i (n-1) (by lia) (by lia)) (le_trans O l0 (a1 0 j (by lia) b4))
    have he':Eqs c (ADS p 0 n) 0 n:=λi j b1 b2 b3 b4=>by
     rw[gH hz',gH hz',if_pos ⟨b1,b2⟩,if_pos ⟨b3,b4⟩];exact he _ _ (by lia) (by lia) (by lia) (by lia)
    have hc':c (at_ (ADS p 0 n) n) (at_ (ADS p 0 n) (n-1))=true:=by
     rw[gH hz',gH hz',if_neg (by lia),if_pos ⟨by lia,by lia⟩]
     rcases O.neg _ (at_ p (0+n-1-(n-1))) _ hlt with z | z
     ·exact z
     ·have:=he (n-1) (0+n-1-(n-1)) (by lia) (by lia) (by lia) (by lia)
      unfold le at this;rw[this]at z;cases z
    obtain⟨d1,d2,d3,d4⟩:=jp O (p:=ADS p 0 n) (n:=n) (nrem:=nrem) (by lia) (by lia) (by rw[dD];exact hz) he' hc'
    exact⟨d1.trans dD,d2,d3,d4⟩
  ·rw[if_neg h2]
   have:n=1:=by lia
   subst this;exact jp O (by lia) (by lia) hz (λi j b1 b2 b3 b4=>by
    have:i=0:=by lia
    have:j=0:=by lia
    subst_vars
    exact le_refl O _) hlt
def kC(O:Ord c)(hu:Up c p k):∀(f l r:Nat),l<=r->r<=k->r-l<=f->(∀i,i<l->le c (at_ p i) (at_ p k))->(∀i,r<=i->i<k->c (at_ p k) (at_ p i)=true) ->
  tj c p k (run c (ADX p k f l r))
 | 0,l,r,h1,h2,h3,h4,h5=>⟨by show l<=k;lia,h4,λi a1 a2=>h5 i (by have a1':l<=i:=a1;lia) a2⟩
 | f+1,l,r,h1,h2,h3,h4,h5=>by
  show tj c p k (run c (if l ≥ r then .ret l else .ask (at_ p k) (at_ p ((l+r) / 2)) λc=>if c=true then ADX p k f l ((l+r) / 2)else ADX p k f ((l+r) / 2+1) r))
  by_cases hl:l ≥ r
  ·rw[if_pos hl]
   exact⟨by show l<=k;lia,h4,λi a1 a2=>h5 i (by have a1':l<=i:=a1;lia) a2⟩
  ·rw[if_neg hl]
   show tj c p k (run c (if c (at_ p k) (at_ p ((l+r) / 2))=true then ADX p k f l ((l+r) / 2)else ADX p k f ((l+r) / 2+1) r));by_cases hc:c (at_ p k) (at_ p ((l+r) / 2))=true
   ·rw[if_pos hc]
    refine kC O hu f l ((l+r) / 2) (by lia) (by lia) (by lia) h4 λi a1 a2=>?_
    rcases O.neg _ (at_ p i) _ hc with z | z
    ·exact z
    ·have:=hu ((l+r) / 2) i a1 a2
     unfold le at this;rw[this]at z;cases z
   ·rw[if_neg hc]
    have lm:le c (at_ p ((l+r) / 2)) (at_ p k):=by unfold le;simpa using hc
    refine kC O hu f ((l+r) / 2+1) r (by lia) h2 (by lia) (λi hi=>?_) h5
    exact le_trans O (hu i ((l+r) / 2) (by lia) (by lia)) lm
def zn(O:Ord c)(hk:k<p.size)(hu:Up c p k)(hm:m<=k)(h1:∀i,i<m->le c (at_ p i) (at_ p k))(h2:∀i,m<=i->i<k->c (at_ p k) (at_ p i)=true):Up c (bubble p k (k-m)) (k+1):=by
 intro i j hij hj;have e:k-(k-m)=m:=by lia
 rw[rO hk (by lia),rO hk (by lia),e]
 by_cases hi:i=m
 ·rw[if_pos hi]
  by_cases hjm:j=m
  ·rw[if_pos hjm];exact le_refl O _
  ·rw[if_neg hjm,if_pos ⟨by lia,by lia⟩]
   exact le_of_lt O (h2 _ (by lia) (by lia))
 ·rw[if_neg hi]
  by_cases hi2:m<i/\i<=k
  ·rw[if_pos hi2,if_neg (by lia),if_pos ⟨by lia,by lia⟩]
   exact hu _ _ (by lia) (by lia)
  ·rw[if_neg hi2]
   by_cases hjm:j=m
   ·rw[if_pos hjm];exact h1 i (by lia)
   ·rw[if_neg hjm]
    by_cases hj2:m<j/\j<=k
    ·rw[if_pos hj2]
     exact hu _ _ (by lia) (by lia)
    ·rw[if_neg hj2]
     exact hu _ _ hij (by lia)
def zq(O:Ord c):∀(f:Nat) (p:Array Nat) (k:Nat),k+f<=p.size->Up c p k->(run c (kas_bin f p k)).size=p.size/\Up c (run c (kas_bin f p k)) (k+f)
 | 0,p,k,_,h=>⟨rfl,h⟩
 | f+1,p,k,hz,h=>by
  show (run c ((ADX p k k 0 k).bind λl=>kas_bin f (bubble p k (k-l)) (k+1))).size=p.size/\Up c (run c ((ADX p k k 0 k).bind λl=>kas_bin f (bubble p k (k-l)) (k+1))) (k+(f+1))
  rw[fL];obtain⟨a1,a2,a3⟩:=kC O h k 0 k (AAX _) (AA8 _) (by lia) (λi hi=>absurd hi (ABs _)) λi a1 a2=>absurd a2 (by lia)
  obtain⟨b1,b2⟩:=zq O f (bubble p k (k-run c (ADX p k k 0 k))) (k+1) (by rw[bubble_size];lia) (zn O (by lia) h a1 a2 a3)
  exact⟨b1.trans (bubble_size _ _ _),by rw[show k+(f+1)=k+1+f by lia];exact b2⟩
def CF(O:Ord c)(h1:1<=n):(run c (AED n)).size=n/\Up c (run c (AED n)) n:=by
 have hs:(ABy (AAu n)).size=n:=by simp
 unfold AED;rw[fL];obtain⟨a1,a2,a3,a4⟩:=zf O (p:=ABy (AAu n)) h1 (by rw[hs];exact AA8 _)
 rw[hs]at a1;generalize run c (kas_count n (ABy (AAu n)))=r at a1 a2 a3 a4;by_cases hl:r.1<n
 ·rw[if_pos hl]
  obtain⟨b1,b2⟩:=zq O (n-max r.1 1) r.2 (max r.1 1) (by rw[a1];lia) (by rw[show max r.1 1=r.1 by lia];exact a2)
  exact⟨b1.trans a1,by rw[show n=max r.1 1+(n-max r.1 1) by lia];simpa using b2⟩
 ·rw[if_neg hl]
  have e1:r.1=n:=by lia
  rw[e1]at a2;exact⟨a1,a2⟩
def Ent(n:Nat)(p:Array Nat):Prop:=p.toList.Perm (AAu n)
def Ent.lt(h:Ent n p)(h0:0<n)(k:Nat):at_ p k<n:=by
 unfold at_;rw[AB8];cases e:p[k]? with
 | none=>simpa using h0
 | some x =>
  have:x∈p.toList:=by
   rw[<-AAS]at e;exact AAc e
  have:=h.mem_iff.mp this;simpa using this
def Ent.rev(h:Ent n p):Ent n (ADS p i j):=(Array.perm_iff_toList_perm.mp (mirror_perm p i j ((j-i) / 2))).trans h
def Ent.bub(h:Ent n p):Ent n (bubble p i j):=(Array.perm_iff_toList_perm.mp (bubble_perm p i j)).trans h
section
variable{n:Nat}(h0:0<n)
def zt(h0:0<n)(h:Ent n p):∀(f k:Nat),Bd n (AE4 p f k)
 | 0,_=>trivial
 | f+1,k=>⟨h.lt h0 _,h.lt h0 _,λb=>by cases b with
  | true=>exact trivial
  | false=>exact zt h0 h f (k+1)⟩
def oP(h0:0<n):∀(f:Nat) (p:Array Nat) (k q:Nat),Ent n p->Bd n (ACG f p k q)/\All (λr=>Ent n r.1) (ACG f p k q)
 | 0,p,k,q,h=>⟨trivial,h⟩
 | f+1,p,k,q,h=>by
  have key:∀b,(Bd n (if b=true then(if q > 0 then ACG f (ADS p (k-(q+1)) k) (k+1) 0 else ACG f p (k+1) 0)
    else KasT.ask (p.getD (k-1) 0) (p.getD k 0) λd=>if d=true then KasT.ret (p,k,q)else ACG f p (k+1) (q+1)))/\All (λr=>Ent n r.1) (if b=true then(if q > 0 then ACG f (ADS p (k-(q+1)) k) (k+1) 0 else ACG f p (k+1) 0)
    else KasT.ask (p.getD (k-1) 0) (p.getD k 0) λd=>if d=true then KasT.ret (p,k,q)else ACG f p (k+1) (q+1)):=λb=>by
   cases b with
   | true =>
    rw[if_pos rfl];by_cases hq:q > 0
    ·rw[if_pos hq];exact oP h0 f _ _ _ h.rev
    ·rw[if_neg hq];exact oP h0 f _ _ _ h
   | false =>
    rw[if_neg (by simp)]
    have a:=oP h0 f p (k+1) (q+1) h;refine⟨⟨h.lt h0 _,h.lt h0 _,λb=>?_⟩,λb=>?_⟩
    ·cases b with
     | true=>exact trivial
     | false=>exact a.1
    ·cases b with
     | true=>exact h
     | false=>exact a.2
  exact⟨⟨h.lt h0 _,h.lt h0 _,λb=>(key b).1⟩,λb=>(key b).2⟩
def jD(h0:0<n)(h:Ent n p):Bd n (kas_tail3 k m p)/\All (λr=>Ent n r.2) (kas_tail3 k m p):=by
 have triv:∀{t:KasT Nat}{Q:Prop},Q->All (λ_=>Q) t:=λ{t Q} q=>by
  induction t with
  | ret a=>exact q
  | ask i j k ih=>exact λb=>ih b
 unfold kas_tail3;exact⟨Bd.bindA _ (zt h0 h.rev _ _) (triv trivial),All.bind _ (triv h.rev)⟩
def dU(h0:0<n)(h:Ent n p):Bd n (AEE k m p)/\All (λr=>Ent n r.2) (AEE k m p):=by
 unfold AEE;obtain⟨b1,b2⟩:=oP h0 (m-(k+1)) p (k+1) 0 h;refine⟨Bd.bindA _ b1 (b2.mono (λr hr=>?_)),All.bind _ (b2.mono (λr hr=>?_))⟩
 ·by_cases hq:r.2.2 > 0
  ·rw[if_pos hq];exact(jD h0 hr.rev).1
  ·rw[if_neg hq];exact(jD h0 hr).1
 ·by_cases hq:r.2.2 > 0
  ·rw[if_pos hq];exact(jD h0 hr.rev).2
  ·rw[if_neg hq];exact(jD h0 hr).2
def Bh(h0:0<n)(h:Ent n p):Bd n (kas_count m p)/\All (λr=>Ent n r.2) (kas_count m p):=by
 have triv:∀{t:KasT Nat}{Q:Nat->Prop},(∀a,Q a)->All Q t:=λ{t Q} q=>by
  induction t with
  | ret a=>exact q a
  | ask i j k ih=>exact λb=>ih b
 unfold kas_count;refine⟨Bd.bindA _ (zt h0 h _ _) (triv λk=>?_),All.bind _ (triv λk=>?_)⟩
 ·by_cases h1:(k==m)=true
  ·rw[if_pos h1];exact trivial
  ·rw[if_neg h1]
   by_cases h2:k > 1
   ·rw[if_pos h2]
    refine⟨h.lt h0 _,h.lt h0 _,λb=>?_⟩
    cases b with
    | true=>exact trivial
    | false=>exact(dU h0 h.rev).1
   ·rw[if_neg h2];exact(dU h0 h).1
 ·by_cases h1:(k==m)=true
  ·rw[if_pos h1];exact h
  ·rw[if_neg h1]
   by_cases h2:k > 1
   ·rw[if_pos h2]
    intro b;cases b with
    | true=>exact h
    | false=>exact(dU h0 h.rev).2
   ·rw[if_neg h2];exact(dU h0 h).2
def nN(h0:0<n)(h:Ent n p):∀(f l r:Nat),Bd n (ADX p k f l r)
 | 0,_,_=>trivial
 | f+1,l,r=>by
  show Bd n (if l ≥ r then KasT.ret l else KasT.ask (p.getD k 0) (p.getD ((l+r) / 2) 0) λc=>if c=true then ADX p k f l ((l+r) / 2)else ADX p k f ((l+r) / 2+1) r)
  by_cases hl:l ≥ r
  ·rw[if_pos hl];exact trivial
  ·rw[if_neg hl]
   refine⟨h.lt h0 _,h.lt h0 _,λb=>?_⟩
   cases b with
   | true=>exact nN h0 h f _ _
   | false=>exact nN h0 h f _ _
def uU(h0:0<n):∀(f:Nat) (p:Array Nat) (k:Nat),Ent n p->Bd n (kas_bin f p k)/\All (λr=>Ent n r) (kas_bin f p k)
 | 0,p,k,h=>⟨trivial,h⟩
 | f+1,p,k,h=>by
  have triv:∀{t:KasT Nat}{Q:Nat->Prop},(∀a,Q a)->All Q t:=λ{t Q} q=>by
   induction t with
   | ret a=>exact q a
   | ask i j k ih=>exact λb=>ih b
  exact⟨Bd.bindA _ (nN h0 h _ _ _) (triv λl=>(uU h0 f _ _ h.bub).1),All.bind _ (triv λl=>(uU h0 f _ _ h.bub).2)⟩
def sort_bd(h0:0<n):Bd n (AED n)/\All (λr=>Ent n r) (AED n):=by
 have h:Ent n (ABy (AAu n)):=by unfold Ent;simp
 obtain⟨b1,b2⟩:=Bh h0 (m:=n) h;unfold AED;refine⟨Bd.bindA _ b1 (b2.mono λr hr=>?_),All.bind _ (b2.mono λr hr=>?_)⟩
 ·by_cases hl:r.1<n
  ·rw[if_pos hl];exact(uU h0 _ _ _ hr).1
  ·rw[if_neg hl];exact trivial
 ·by_cases hl:r.1<n
  ·rw[if_pos hl];exact(uU h0 _ _ _ hr).2
  ·rw[if_neg hl];exact hr
end
def sort_list{α:Type}[Inhabited α]{lt:α->α->Bool}(xs:List α)(h1:1<=xs.length)(irr:∀a∈xs,lt a a=false)(tr:∀a∈xs,∀b∈xs,∀d∈xs,lt a b=true->lt b d=true->lt a d=true)
  (neg:∀a∈xs,∀b∈xs,∀d∈xs,lt a d=true->lt a b=true\/lt b d=true) :
  let c:=λi j=>if i<xs.length then(if j<xs.length then lt (xs.getD i default) (xs.getD j default)else true)else false
  let p:=run c (AED xs.length)
  let ys:=p.toList.map λi=>xs.getD i default
  ys.Perm xs/\ys.Pairwise λa b=>lt b a=false:=by
 intro c p ys;have mem:∀i,i<xs.length->xs.getD i default∈xs:=λi hi=>by
  rw[AAU,AA5 hi];exact AB5 hi
 have O:Ord c:=by
  refine⟨λa=>?_,λa b d=>?_,λa b d=>?_⟩
  ·show (if a<xs.length then(if a<xs.length then lt _ _ else true)else false)=false
   by_cases ha:a<xs.length
   ·rw[if_pos ha,if_pos ha];exact irr _ (mem a ha)
   ·rw[if_neg ha]
  ·show (if a<xs.length then(if b<xs.length then lt _ _ else true)else false)=true->(if b<xs.length then(if d<xs.length then lt _ _ else true)else false)=true->(if a<xs.length then(if d<xs.length then lt _ _ else true)else false)=true
   by_cases ha:a<xs.length
   ·by_cases hb:b<xs.length
    ·by_cases hd:d<xs.length
     ·rw[if_pos ha,if_pos hb,if_pos hb,if_pos hd,if_pos ha,if_pos hd];exact tr _ (mem a ha) _ (mem b hb) _ (mem d hd)
     ·intro _ _;rw[if_pos ha,if_neg hd]
    ·rw[if_neg (show ¬b<xs.length from hb)]
     intro _ z;rw[if_neg hb]at z;cases z
   ·intro z;rw[if_neg ha]at z;cases z
  ·show (if a<xs.length then(if d<xs.length then lt _ _ else true)else false)=true->(if a<xs.length then(if b<xs.length then lt _ _ else true)else false)=true\/(if b<xs.length then(if d<xs.length then lt _ _ else true)else false)=true
   by_cases ha:a<xs.length
   ·by_cases hb:b<xs.length
    ·by_cases hd:d<xs.length
     ·rw[if_pos ha,if_pos hd,if_pos ha,if_pos hb,if_pos hb,if_pos hd];exact neg _ (mem a ha) _ (mem b hb) _ (mem d hd)
     ·intro _;right;rw[if_pos hb,if_neg hd]
    ·intro _;left;rw[if_pos ha,if_neg hb]
   ·intro z;rw[if_neg ha]at z;cases z
 have hE:Ent xs.length p:=All.run _ (sort_bd (by lia)).2
 obtain⟨hs,hU⟩:=CF O h1;refine⟨?_,?_⟩
 ·have e:(AAu xs.length).map (λi=>xs.getD i default)=xs:=by
   apply ADL
   intro i;rw[AAV];by_cases hi:i<xs.length
   ·rw[List.getElem?_range hi]
    simp[AAU,AA5 hi]
   ·rw[ABW (by simpa using hi),ABW (by simpa using hi)]
    rfl
  have:=hE.map λi=>xs.getD i default
  rw[e]at this;exact this
 ·show (p.toList.map λi=>xs.getD i default).Pairwise λa b=>lt b a=false
  rw[List.pairwise_iff_getElem];intro i j hi hj hij;rw[AA4,AAL]at hi hj;have hs':p.size=xs.length:=hs;have l:=hU i j (by lia) (by lia)
  have hl:∀k,at_ p k<xs.length:=λk=>hE.lt (by lia) k
  unfold le at l;have l':(if at_ p j<xs.length then(if at_ p i<xs.length then lt (xs.getD (at_ p j) default) (xs.getD (at_ p i) default)else true)else false)=false:=l;rw[if_pos (hl j),if_pos (hl i)]at l';have ai:p.toList[i]=at_ p i:=by unfold at_;simp[ACV,hi]
  have aj:p.toList[j]=at_ p j:=by unfold at_;simp[ACV,hj]
  rw[ACW,ACW,ai,aj];exact l'
end
end Srt
namespace L2
open PySem PySem.Spec PyProof.Rows DL
def wt(A:Around)(s:Shared)(x y:Value)(k:Bool):Prop:=∀(prog:Program) (w:World) (E:Value->Shared->Prop) (Q:Value->Shared->Prop),Q (.bool k) s->wpAny (model prog w) A (richCompare .Lt x y) Q E s
inductive LexAt(A:Around)(s:Shared):List Value->List Value->Bool->Prop
 | nn:LexAt A s [] [] false
 | nc {y:Value}{ys:List Value}:LexAt A s [] (y::ys) true
 | cn {x:Value}{xs:List Value}:LexAt A s (x::xs) [] false
 | eq {x y:Value}{xs ys:List Value}{k:Bool} (h:ACP A s x y true) (t:LexAt A s xs ys k):LexAt A s (x::xs) (y::ys) k
 | ne {x y:Value}{xs ys:List Value}{k:Bool} (h:ACP A s x y false) (t:wt A s x y k):LexAt A s (x::xs) (y::ys) k
section
open PySem.SeqAt
open PySem.AutoSeq1 (wpAny_loadPart')
open PySem.MeetsSeq PySem.MeetsSeq2 PySem.MeetsSeq3
def ph(l b:Addr)(items items2:Array Value)(n n2:Nat)(dd dd2:Option Addr)(sl sl2:Array (Option Value))(k:Bool) :
  Meets (Builtin.«tuple.__lt__» ⟨[.ref l,.ref b],[]⟩)
   (λA R s=>s.heap.get? l=some (⟨.type "tuple",dd,.seq items n,sl⟩:Obj)/\s.heap.get? b=some { cls:=.type "tuple",dict:=dd2,data:=.seq items2 n2,slots:=sl2 } /\
    LexAt A.in1 s items.toList items2.toList k/\R (.ok (.ret (.bool k))) s) :=
 .of_wp λprog w A R s h=>by
  obtain⟨hp,g,d,tk,os⟩:=s;obtain⟨hl,hb,hx,h⟩:=h;have f2:=AutoSeq1.sub_tuple_tuple
  wp_walk using ADm hl,ADm hb,ABP _ (λaJ b s'=>b.1=none/\s'=⟨hp,g,d,tk,os⟩/\∃(vs ws:List Value),aJ=vs.zip ws /\
   LexAt A.in1 ⟨hp,g,d,tk,os⟩ vs ws k/\vs.length+items2.size=ws.length+items.size) _
  case turn =>
   rintro⟨y,x⟩ aJ b s' ⟨hb',rfl,vs,ws,hz,hlex,hlen⟩;cases hlex with
   | nn=>cases hz
   | nc=>cases hz
   | cn=>cases hz
   | eq he t =>
    rw[ACH]at hz;injection hz with hyx hrest
    injection hyx with hy hx
    subst hy hx;refine AA0 (he prog w _ _ ?_)
    wp_walk
    exact⟨rfl,rfl,_,_,hrest,t,by simp only[AAN]at hlen;lia⟩
   | ne he t =>
    rw[ACH]at hz;injection hz with hyx hrest
    injection hyx with hy hx
    subst hy hx;refine AA0 (he prog w _ _ ?_);have hri:=t prog w
    wp_walk using hri
    exact⟨_,rfl,by simpa using h⟩
  case fin =>
   rintro⟨b1,b2⟩ s' ⟨hb',rfl,vs,ws,hz,hlex,hlen⟩;simp only at hb';subst hb';have hv:k=decide (items.size<items2.size):=by
    cases hlex with
    | nn=>simp only[AAm]at hlen;exact(dF_ (by lia)).symm
    | nc=>simp only[AAm,AAN]at hlen;exact(dT_ (by lia)).symm
    | cn=>simp only[AAm,AAN]at hlen;exact(dF_ (by lia)).symm
    | eq _ _=>rw[ACH]at hz;cases hz
    | ne _ _=>rw[ACH]at hz;cases hz
   rw[hv]at h
   wp_walk
   exact⟨_,rfl,by simpa [Builtin.Tuple.tupleCompareSizes]using h⟩
  case h =>
   exact⟨rfl,rfl,items.toList,items2.toList,rfl,hx,by simp;lia⟩
end
theorem wt.tuples(hl:s.heap.IsTuple l items)(hb:s.heap.IsTuple b items2)(hu:A.units<cLine)(hx:LexAt A.in1 s items.toList items2.toList k):wt A s (.ref l) (.ref b) k:=λprog w E Q h=>by
 obtain⟨⟨cls,dd,data,sl⟩,ho,hc,n,hd⟩:=id hl;obtain⟨⟨cls2,dd2,data2,sl2⟩,ho2,hc2,n2,hd2⟩:=id hb;simp only at hc hd hc2 hd2;subst hc hd hc2 hd2;exact richCompare_meets_room (op:=.Lt) ⟨_,ho,rfl⟩ ⟨_,ho2,rfl⟩ PySem.F.slot_tuple_lt PySem.F.entry_tuple_lt (PySem.F.args_tuple_lt_2 _ _) (ph l b items items2 n n2 dd dd2 sl sl2 k)
  ⟨ho,ho2,hx,show Value.bool k≠Value.notImplemented/\Q (.bool k) s from⟨(λx=>nomatch x),h⟩⟩ hu
def sF(f g:D->D->Bool):List D->List D->Bool
 | [],[]=>false
 | [],_::_=>true
 | _::_,[]=>false
 | x::xs,y::ys=>if f x y=true then sF f g xs ys else g x y
def ltD(M:Mem):Nat->D->D->Bool
 | _,.int a,.int b=>decide (a<b)
 | _,.str a,.str b=>pR a b
 | n+1,.tup xs,.tup ys=>sF (eqD M n) (ltD M n) xs ys
 | _,_,_=>false
def zB(f g:D->D->Bool):List D->List D->Bool
 | x::xs,y::ys=>if f x y=true then zB f g xs ys else g x y
 | _,_=>true
def iM(M:Mem):Nat->D->D->Bool
 | _,.int _,.int _=>true
 | _,.str _,.str _=>true
 | n+1,.tup xs,.tup ys=>zB (eqD M n) (iM M n) xs ys
 | _,_,_=>false
def wt.ints(A:Around)(s:Shared)(a:Int)(t:Tok)(c:Int)(u:Tok):wt A s (.int a t) (.int c u) (decide (a<c)):=λprog w E Q h=>HT.rcLt_int A s a t c u prog w E Q h
def wt.texts(A:Around)(s:Shared)(a:Str)(t:Tok)(c:Str)(u:Tok):wt A s (.str a t) (.str c u) (pR a c):=λprog w E Q h =>
 (PySem.P.lt_str (show Q (.bool (decide (a.cps.toList<c.cps.toList))) s from h):wpAny (model prog w) A (compareOp .Lt (.str a t) (.str c u)) Q E s)
section
variable{X:Cx}{pins:List (Addr×Obj)}{σ:St}{H:Hp}{s:Shared}{ρ:List Addr}{M:Mem}
def xT(I:Inv X pins σ H s)(sm:Sim X.K ρ M H):∀(n:Nat) (A:Around) (x y:D) (vx vy:V) (u v:Value),A.units+n<cLine->Rep X.K ρ H x vx->aI vx u->Rep X.K ρ H y vy->aI vy v->okD M n x=true->okD M n y=true->iM M n x y=true ->
  wt A s u v (ltD M n x y):=by
 intro n;induction n with
 | zero =>
  intro A x y vx vy u v hu r1 e1 r2 e2 o1 o2 cm;cases r1 with
  | int a =>
   cases r2 with
   | int b=>obtain⟨t,rfl⟩:=e1;obtain⟨t',rfl⟩:=e2;exact wt.ints A s a t b t'
   | _=>simp[iM]at cm
  | str a =>
   cases r2 with
   | str b=>obtain⟨t,rfl⟩:=e1;obtain⟨t',rfl⟩:=e2;exact wt.texts A s a t b t'
   | _=>simp[iM]at cm
  | _=>simp[iM]at cm
 | succ n ih =>
  intro A x y vx vy u v hu r1 e1 r2 e2 o1 o2 cm;have hu0:A.units<cLine:=by lia
  have hu1:A.in1.units+n<cLine:=by show A.units+1+n<cLine;lia
  have lex:∀(ds es:List D) (vs ws:List V) (its jts:List Value),Reps X.K ρ H ds vs->au vs its->Reps X.K ρ H es ws->au ws jts->ds.all (okD M n)=true->es.all (okD M n)=true->zB (eqD M n) (iM M n) ds es=true ->
    LexAt A.in1 s its jts (sF (eqD M n) (ltD M n) ds es):=by
   intro ds;induction ds with
   | nil =>
    intro es vs ws its jts p1 q1 p2 q2 _ _ _;cases p1;cases q1
    cases p2 with
    | nil=>cases q2;exact .nn
    | cons _ _=>cases q2;exact .nc
   | cons d ds hi =>
    intro es vs ws its jts p1 q1 p2 q2 k1 k2 k3;cases p1 with
    | cons a1 p1 =>
     cases q1 with
     | cons b1 q1 =>
      cases p2 with
      | nil=>cases q2;exact .cn
      | @cons e _ es' _ a2 p2 =>
       cases q2 with
       | cons b2 q2 =>
        rw[ABT,AAY]at k1 k2;have he:=(jo I sm n A.in1 d _ _ _ _ _ hu1 a1 b1 a2 b2 k1.1 k2.1).1;rw[sF];rw[zB]at k3;by_cases hq:eqD M n d e=true
        ·rw[hq]at he
         rw[if_pos hq]at k3 ⊢;exact .eq he (hi _ _ _ _ _ p1 q1 p2 q2 k1.2 k2.2 k3)
        ·have hq':=ABl.mpr hq
         rw[hq']at he;rw[if_neg hq]at k3 ⊢;exact .ne he (ih A.in1 _ _ _ _ _ _ hu1 a1 b1 a2 b2 k1.1 k2.1 k3)
  cases r1 with
  | int a =>
   cases r2 with
   | int b=>obtain⟨t,rfl⟩:=e1;obtain⟨t',rfl⟩:=e2;exact wt.ints A s a t b t'
   | _=>simp[iM]at cm
  | str a =>
   cases r2 with
   | str b=>obtain⟨t,rfl⟩:=e1;obtain⟨t',rfl⟩:=e2;exact wt.texts A s a t b t'
   | _=>simp[iM]at cm
  | tup hq r =>
   cases r2 with
   | tup hq' r' =>
    cases e1;cases e2
    obtain⟨its,rr,pl,_⟩:=I.tuple hq;obtain⟨jts,rr',pl',_⟩:=I.tuple hq';refine wt.tuples pl pl' hu0 ?_
    exact lex _ _ _ _ _ _ r rr r' rr' (by simpa [okD]using o1) (by simpa [okD]using o2) cm
   | _=>simp[iM]at cm
  | _=>simp[iM]at cm
end
def ER:DR2:=λx y M Q=>match x,y with
 | .tup xs,.tup ys=>(okD M eqN (.tup xs)=true/\okD M eqN (.tup ys)=true/\iM M eqN (.tup xs) (.tup ys)=true)/\Q (.bl (ltD M eqN (.tup xs) (.tup ys))) M
 | _,_=>qLt x y M Q
def Gi(hr:Room k X.A):OpD X (compareOp .Lt) ER:=by
 intro pins s σ H vx vy v u R I rx ry ⟨x,y,M,ρ,Q,sm,r1,r2,q,k⟩;unfold ER at q;split at q
 ·obtain⟨⟨o1,o2,o3⟩,q⟩:=q
  exact xT I sm eqN X.A _ _ vx vy v u (nB hr) r1 rx r2 ry o1 o2 o3 _ _ _ _ (fB I sm k q)
 ·exact Gj pins s σ H vx vy v u R I rx ry ⟨x,y,M,ρ,Q,sm,r1,r2,q,k⟩
def okP:Nat->D->Bool
 | _,.int _=>true
 | _,.str _=>true
 | n+1,.tup xs=>xs.all (okP n)
 | _,_=>false
def EV(f:D->List Int):List D->List Int
 | []=>[0]
 | x::xs=>1::(f x++EV f xs)
def enc:Nat->D->List Int
 | _,.int i=>[0,i]
 | _,.str x=>1::(x.cps.toList.map (λ(c:Nat)=>(c:Int)+1)++[0])
 | n+1,.tup xs=>2::EV (enc n) xs
 | _,_=>[3]
def bY(x y:List Int):Prop:=∀a b,x++a<y++b
def bY.cons(i:Int)(h:bY x y):bY (i::x) (i::y):=λa b=>ABC.mpr (.inr ⟨rfl,h a b⟩)
def bY.head(x y:List Int)(h:i<j):bY (i::x) (j::y):=λa b=>ABC.mpr (.inl h)
def bY.lt(h:bY x y):x<y:=by have:=h [] [];simpa using this
def bY.pre(z:List Int)(h:bY x y):bY (z++x) (z++y):=by
 induction z with
 | nil=>exact h
 | cons i z ih=>exact ih.cons i
def bY.more(u v:List Int)(h:bY x y):bY (x++u) (y++v):=λa b=>by
 rw[AAk,AAk];exact h _ _
def Tri(x y:D)(n:Nat)(l:Bool)(r:Bool):Prop:=(x=y/\l=false/\r=false)\/(x≠y/\l=true/\r=false/\bY (enc n x) (enc n y))\/(x≠y/\l=false/\r=true/\bY (enc n y) (enc n x))
def rD:∀(x y:List Nat),(x=y)\/(x<y/\¬y<x/\bY (x.map (λ(c:Nat)=>(c:Int)+1)++[0]) (y.map (λ(c:Nat)=>(c:Int)+1)++[0]))\/(¬x<y/\y<x/\bY (y.map (λ(c:Nat)=>(c:Int)+1)++[0]) (x.map (λ(c:Nat)=>(c:Int)+1)++[0]))
 | [],[]=>.inl rfl
 | [],c::y=>.inr (.inl ⟨List.nil_lt_cons _ _,List.not_lt_nil _,bY.head _ _ (by dsimp only;lia)⟩)
 | c::x,[]=>.inr (.inr ⟨List.not_lt_nil _,List.nil_lt_cons _ _,bY.head _ _ (by dsimp only;lia)⟩)
 | c::x,e::y=>by
  rcases ADM c e with h | h | h
  ·refine .inr (.inl ⟨ABC.mpr (.inl h),λz=>?_,bY.head _ _ (by dsimp only;lia)⟩)
   rcases ABC.mp z with z | ⟨z,_⟩<;>lia
  ·subst h
   rcases rD x y with q | ⟨q1,q2,q3⟩|⟨q1,q2,q3⟩
   ·exact .inl (by rw[q])
   ·refine .inr (.inl ⟨ABC.mpr (.inr ⟨rfl,q1⟩),λz=>?_,q3.cons _⟩)
    rcases ABC.mp z with z | ⟨_,z⟩
    ·lia
    ·exact q2 z
   ·refine .inr (.inr ⟨λz=>?_,ABC.mpr (.inr ⟨rfl,q2⟩),q3.cons _⟩)
    rcases ABC.mp z with z | ⟨_,z⟩
    ·lia
    ·exact q1 z
  ·refine .inr (.inr ⟨λz=>?_,ABC.mpr (.inl h),bY.head _ _ (by dsimp only;lia)⟩)
   rcases ABC.mp z with z | ⟨z,_⟩<;>lia
def Hb(M:Mem):∀(n:Nat) (x y:D),okP n x=true->okP n y=true->(eqD M n x y=true↔x=y):=by
 have all:∀(n:Nat),(∀(x y:D),okP n x=true->okP n y=true->(eqD M n x y=true↔x=y))->∀(xs ys:List D),xs.all (okP n)=true->ys.all (okP n)=true->(eqL (eqD M n) xs ys=true↔xs=ys):=by
  intro n ih xs;induction xs with
  | nil=>intro ys _ _;cases ys<;>simp[eqL]
  | cons x xs hi =>
   intro ys h1 h2;cases ys with
   | nil=>simp[eqL]
   | cons y ys =>
    rw[ABT,AAY]at h1 h2;rw[eqL,AAY,ih x y h1.1 h2.1,hi ys h1.2 h2.2,ADr]
 intro n;induction n with
 | zero =>
  intro x y h1 h2;cases x<;>simp[okP]at h1<;>cases y<;>simp[okP]at h2<;>simp[eqD]
 | succ n ih =>
  intro x y h1 h2;cases x with
  | int a=>cases y<;>simp[okP]at h2<;>simp[eqD]
  | str a=>cases y<;>simp[okP]at h2<;>simp[eqD]
  | tup xs =>
   cases y with
   | tup ys =>
    simp only[eqD,D.tup.injEq];exact all n ih xs ys (by simpa [okP]using h1) (by simpa [okP]using h2)
   | int a=>simp[eqD]
   | str a=>simp[eqD]
   | _=>simp[okP]at h2
  | _=>simp[okP]at h1
def Gc(M:Mem):∀(n:Nat) (x:D),okP n x=true->okD M n x=true:=by
 intro n;induction n with
 | zero=>intro x h;cases x<;>simp[okP]at h<;>rfl
 | succ n ih =>
  intro x h;cases x with
  | int a=>rfl
  | str a=>rfl
  | tup xs =>
   simp only[okD];rw[AAh];intro y hy;exact ih y (AAh.mp (show xs.all (okP n)=true from h) y hy)
  | _=>simp[okP]at h
def Fd(M:Mem):∀(n:Nat) (x y:D),okP n x=true->okP n y=true->iM M n x y=true->Tri x y n (ltD M n x y) (ltD M n y x):=by
 have base:∀(n:Nat) (a b:Int),Tri (.int a) (.int b) n (decide (a<b)) (decide (b<a)):=λn a b=>by
  have e:∀a,enc n (.int a)=[0,a]:=λa=>by cases n<;>rfl
  rcases Int.lt_trichotomy a b with h | h | h
  ·exact .inr (.inl ⟨by simp;lia,dT_ h,dF_ (by lia),by rw[e,e];exact(bY.head [] [] h).cons 0⟩)
  ·subst h;exact .inl ⟨rfl,dF_ (by lia),dF_ (by lia)⟩
  ·exact .inr (.inr ⟨by simp;lia,dF_ (by lia),dT_ h,by rw[e,e];exact(bY.head [] [] h).cons 0⟩)
 have bases:∀(n:Nat) (a b:Str),Tri (.str a) (.str b) n (pR a b) (pR b a):=λn a b=>by
  have e:∀a:Str,enc n (.str a)=1::(a.cps.toList.map (λ(c:Nat)=>(c:Int)+1)++[0]):=λa=>by cases n<;>rfl
  unfold pR;rcases rD a.cps.toList b.cps.toList with h | ⟨h1,h2,h3⟩|⟨h1,h2,h3⟩
  ·have:a=b:=CD h
   subst this;exact .inl ⟨rfl,dF_ (ABD _),dF_ (ABD _)⟩
  ·exact .inr (.inl ⟨λz=>by cases z;exact h2 h1,dT_ h1,dF_ h2,by rw[e,e];exact h3.cons 1⟩)
  ·exact .inr (.inr ⟨λz=>by cases z;exact h1 h2,dF_ h1,dT_ h2,by rw[e,e];exact h3.cons 1⟩)
 intro n;induction n with
 | zero =>
  intro x y h1 h2 h3;cases x<;>simp[okP]at h1<;>cases y<;>simp[okP]at h2<;>first | exact base 0 _ _ | exact bases 0 _ _ | simp[iM]at h3
 | succ n ih =>
  intro x y h1 h2 h3;have lists:∀(xs ys:List D),xs.all (okP n)=true->ys.all (okP n)=true->zB (eqD M n) (iM M n) xs ys=true ->
    (xs=ys/\sF (eqD M n) (ltD M n) xs ys=false/\sF (eqD M n) (ltD M n) ys xs=false) \/
    (xs≠ys/\sF (eqD M n) (ltD M n) xs ys=true/\sF (eqD M n) (ltD M n) ys xs=false/\bY (EV (enc n) xs) (EV (enc n) ys)) \/
    (xs≠ys/\sF (eqD M n) (ltD M n) xs ys=false/\sF (eqD M n) (ltD M n) ys xs=true/\bY (EV (enc n) ys) (EV (enc n) xs)):=by
   intro xs;induction xs with
   | nil =>
    intro ys _ _ _;cases ys with
    | nil=>exact .inl ⟨rfl,rfl,rfl⟩
    | cons y ys=>exact .inr (.inl ⟨by simp,rfl,rfl,bY.head _ _ (by decide)⟩)
   | cons x xs hi =>
    intro ys h1 h2 h3;cases ys with
    | nil=>exact .inr (.inr ⟨by simp,rfl,rfl,bY.head _ _ (by decide)⟩)
    | cons y ys =>
     rw[ABT,AAY]at h1 h2;rw[zB]at h3;have qe:=Hb M n x y h1.1 h2.1;have qe':=Hb M n y x h2.1 h1.1;rw[sF,sF];by_cases hq:x=y
     ·subst hq
      rw[if_pos (qe.mpr rfl)]at h3;rw[if_pos (qe.mpr rfl),if_pos (qe.mpr rfl)];rcases hi ys h1.2 h2.2 h3 with⟨a1,a2,a3⟩|⟨a1,a2,a3,a4⟩|⟨a1,a2,a3,a4⟩
      ·exact .inl ⟨by rw[a1],a2,a3⟩
      ·exact .inr (.inl ⟨λz=>a1 (AEk z).2,a2,a3,(a4.pre (enc n x)).cons 1⟩)
      ·exact .inr (.inr ⟨λz=>a1 (AEk z).2,a2,a3,(a4.pre (enc n x)).cons 1⟩)
     ·have n1:¬eqD M n x y=true:=λz=>hq (qe.mp z)
      have n2:¬eqD M n y x=true:=λz=>hq (qe'.mp z).symm
      rw[if_neg n1]at h3;rw[if_neg n1,if_neg n2];rcases ih x y h1.1 h2.1 h3 with⟨a1,_⟩|⟨a1,a2,a3,a4⟩|⟨a1,a2,a3,a4⟩
      ·exact absurd a1 hq
      ·exact .inr (.inl ⟨λz=>hq (AEk z).1,a2,a3,(a4.more _ _).cons 1⟩)
      ·exact .inr (.inr ⟨λz=>hq (AEk z).1,a2,a3,(a4.more _ _).cons 1⟩)
  cases x with
  | int a=>cases y<;>simp[okP]at h2<;>first | exact base (n+1) _ _ | simp[iM]at h3
  | str a=>cases y<;>simp[okP]at h2<;>first | exact bases (n+1) _ _ | simp[iM]at h3
  | tup xs =>
   cases y with
   | tup ys =>
    rcases lists xs ys (by simpa [okP]using h1) (by simpa [okP]using h2) h3 with⟨a1,a2,a3⟩|⟨a1,a2,a3,a4⟩|⟨a1,a2,a3,a4⟩
    ·exact .inl ⟨by rw[a1],a2,a3⟩
    ·exact .inr (.inl ⟨λz=>a1 (D.tup.inj z),a2,a3,a4.cons 2⟩)
    ·exact .inr (.inr ⟨λz=>a1 (D.tup.inj z),a2,a3,a4.cons 2⟩)
   | _=>simp[iM]at h3
  | _=>simp[okP]at h1
def oi(h1:okP n x=true)(h2:okP n y=true)(h3:iM M n x y=true):ltD M n x y=decide (enc n x<enc n y):=by
 rcases Fd M n x y h1 h2 h3 with⟨a1,a2,a3⟩|⟨a1,a2,a3,a4⟩|⟨a1,a2,a3,a4⟩
 ·subst a1;rw[a2,dF_ (ABD _)]
 ·rw[a2,dT_ a4.lt]
 ·rw[a2,dF_ (λz=>ABD _ (List.lt_trans z a4.lt))]
def yX(h1:okP n x=true)(h2:okP n y=true)(h3:iM M n x y=true)(e:enc n x=enc n y):x=y:=by
 rcases Fd M n x y h1 h2 h3 with⟨a1,_⟩|⟨_,_,_,a4⟩|⟨_,_,_,a4⟩
 ·exact a1
 ·have:=a4.lt;rw[e]at this;exact absurd this (ABD _)
 ·have:=a4.lt;rw[e]at this;exact absurd this (ABD _)
end L2
namespace L2
open PySem PySem.Spec PyProof.Rows DL PySem.W
section
variable{X:Cx}{pins:List (Addr×Obj)}{σ:St}{H:Hp}{s:Shared}
def Inv.laidF(I:Inv X pins σ H s)(k:∀b u,b≠X.env.locals->s.heap.get? b=some u->h'.get? b=some u)(hn:s.heap.Ns X.env.locals m)(hn':h'.Ns X.env.locals m)
  (hp:s.heap.get? a=none) (fa:H a=none) (new:bQ X.prog X.w (upd H a o) h' a o):Inv X pins σ (upd H a o) { s with heap:=h',toks:=t' }:=by
 have nea:∀b u,s.heap.get? b=some u->b≠a:=λb u e z=>by subst z;rw[hp]at e;cases e
 refine I.step (g':=s.gens) (d':=s.drawn) (ch:=[]) (λ_ z=>nomatch z) (λb u hL _ _ e _=>k b u hL e) (λb u hL _ _ e _=>⟨u.slots,k b u hL e⟩) (λb u _ e n=>by rw[af (nea b u e)];exact n) (λb u _ e=>?_)
  (λb xs q=>by rw[af (ad q fa)];exact q) (λb u xs q=>by rw[af (ad q fa)];exact q) (λb ps q=>⟨#[],by rw[af (ad q fa),q];simp⟩) (λm' hm=>?_) (λb w q=>?_) I.bare
 ·by_cases hb:b=X.env.locals
  ·subst hb
   obtain⟨o',_,_,ho,_⟩:=hn';exact⟨o',ho⟩
  ·exact⟨u,k b u hb e⟩
 ·have:m=m':=funext λx=>hn.agree hm x
  subst this;exact hn'
 ·by_cases hb:b=a
  ·subst hb
   rw[aA]at q;cases q
   exact new
  ·rw[af hb]at q
   refine(I.hok b w q).stay (λc v hc r=>k c v ?_ r) (λc z=>by rw[af (ad z fa)];exact z) λc xs z=>by rw[af (ad z fa)];exact z
   rcases hc with rfl | hc
   ·exact ad q I.free
   ·exact ad hc I.free
def Inv.keptF(I:Inv X pins σ H s)(k:∀b u,b≠X.env.locals->s.heap.get? b=some u->h'.get? b=some u)(hn:s.heap.Ns X.env.locals m)(hn':h'.Ns X.env.locals m):Inv X pins σ H { s with heap:=h',toks:=t' }:=by
 refine I.step (g':=s.gens) (d':=s.drawn) (ch:=[]) (λ_ z=>nomatch z) (λb u hL _ _ e _=>k b u hL e) (λb u hL _ _ e _=>⟨u.slots,k b u hL e⟩) (λb u _ e n=>n) (λb u _ e=>?_)
  (λb xs q=>q) (λb u xs q=>q) (λb ps q=>⟨#[],by rw[q];simp⟩) (λm' hm=>?_) (λb w q=>?_) I.bare
 ·by_cases hb:b=X.env.locals
  ·subst hb
   obtain⟨o',_,_,ho,_⟩:=hn';exact⟨o',ho⟩
  ·exact⟨u,k b u hb e⟩
 ·have:m=m':=funext λx=>hn.agree hm x
  subst this;exact hn'
 ·refine(I.hok b w q).stay (λc v hc r=>k c v ?_ r) (λc z=>z) λc xs z=>z
  rcases hc with rfl | hc
  ·exact ad q I.free
  ·exact ad hc I.free
end
section
variable{prog:Program}{w:World}{A:Around}{E:Value->Shared->Prop}{s:Shared}
def pT{l:Addr}{vs:List Value}{Q:Value->Shared->Prop}(hl:s.heap.IsList l vs.toArray)(h2:vs.length<2)
  (h:∀D h' n,s.heap.objs.size<=D->(∀b o,s.heap.get? b=some o->h'.get? b=some o)->h'.get? D=some { cls:=.type "list",data:=.seq vs.toArray n }->Q (.ref D) { s with heap:=h' }) :
  wpAny (model prog w) A (call (.builtin "sorted") ([AB6 l])) Q E s:=by
 have few:vs.length<=sizeLine:=by rw[ABq];lia
 refine Calls.call_function_entry kind_sorted plain_sorted entry_sorted (args_sorted1 (.ref l)) ?_
 unfold Builtin.«sorted»;refine AA0 (m:=checkCount "sorted" 1 1 _) (AA2 (AA0 (collect_list hl (AA0 (ADN ?_ few)) few)));generalize hg:((s.heap.push (seqObj "list" #[] 0)).update s.heap.objs.size (ABE (· ++ vs.toArray)))=g1;have hsz:g1.objs.size=s.heap.objs.size+1:=by rw[<-hg,Heap.size_update,size_push']
 have k1:∀b o,s.heap.get? b=some o->g1.get? b=some o:=λb o q=>by
  have hlt:=AAG q;rw[<-hg,AC6 _ _ _ _ (AAO hlt),Heap.get?_push_ne _ _ _ (AAO hlt)];exact q
 show wpAny _ _ _ _ _ { s with heap:=g1.push (seqObj "list" vs.toArray 0) }
 have hoL:(g1.push (seqObj "list" vs.toArray 0)).get? g1.objs.size=some (seqObj "list" vs.toArray 0):=AAC _ rfl;refine AA0 (AAZ (AAp slot_list_sort (⟨_,hoL,rfl⟩) entry_list_sort ?body (args_list_sort (.ref _))))
 case body =>
  rw[list_sort_plain];refine AA0 (AEF hoL rfl ?_);refine AA0 (ADO hoL rfl ?_ (by rw[AAD,ABq];lia) (AAX _))
  obtain⟨e1,ho1⟩:∃e1,((g1.push (seqObj "list" vs.toArray 0)).update g1.objs.size (ABE λ_=>(#[]:Array Value))).get? g1.objs.size=some (seqObj "list" #[] e1):=⟨_,ACo hoL λ_=>#[]⟩
  refine AA0 (seqEpoch_at ho1 rfl (AA0 (wpAny_newTuple (AA0 (ADN (AAZ ?_) (AAX _))) few)));dsimp only;have hv2:vs.toArray.size<2:=by rw[AAD];exact h2
  rw[if_pos hv2,if_pos hv2];refine AA0 (AA2 ?_);rw[StateT.run_pure];refine AA0 (AA2 ?_);dsimp only;generalize hg3:(((g1.push (seqObj "list" vs.toArray 0)).update g1.objs.size (ABE λ_=>(#[]:Array Value))).push (seqObj "tuple" vs.toArray 0)).push (seqObj "list" #[] 0)=g3
  have ho3:g3.get? g1.objs.size=some (seqObj "list" #[] e1):=by rw[<-hg3];exact AA3 _ (AA3 _ ho1)
  have k3:∀b o,b≠g1.objs.size->s.heap.get? b=some o->g3.get? b=some o:=λb o hb q=>by
   have q1:=k1 b o q;rw[<-hg3];refine AA3 _ (AA3 _ ?_);rw[AC6 _ _ _ _ hb];exact AA3 _ q1
  refine AA0 (seqEpoch_at ho3 rfl ?_);have eo:∀us:List Value,us.length<2->(us.toArray.zip us.toArray).map (·.2)=us.toArray:=λus hu=>by
   match us,hu with
   | [],_=>simp
   | [v],_=>simp
   | _::_::_,hu=>simp at hu;lia
  have eout:(arrOf (SortSt.mk' general' (vs.toArray.zip vs.toArray) #[] 7 none)).map (·.2)=vs.toArray:=eo vs h2;rw[eout];refine AA0 (ADO ho3 rfl ?_ (AAX _) (by rw[AAD,ABq];lia))
  simp only[show failedOf (SortSt.mk' general' (vs.toArray.zip vs.toArray) #[] 7 none)=none from rfl,bne_self_eq_false,AAE,if_false];refine AA2 ⟨_,rfl,AA2 ⟨_,rfl,?_⟩⟩;obtain⟨c2,hc2⟩:∃c2,(g3.update g1.objs.size (ABE λ_=>vs.toArray)).get? g1.objs.size=some (seqObj "list" vs.toArray c2):=⟨_,ACo ho3 λ_=>vs.toArray⟩
  refine h g1.objs.size _ c2 (by lia) (λb o q=>?_) hc2
  have hb:b≠g1.objs.size:=AAO (by rw[hsz];exact AC5 (AAG q))
  rw[AC6 _ _ _ _ hb];exact k3 b o hb q
end
structure SrtOk(M:Mem)(xs:List D):Prop where
 len:xs.length<64
 ok:∀x∈xs,okP eqN x=true
 cm:∀x∈xs,∀y∈xs,iM M eqN x y=true
 kd:(∀x∈xs,∃z,x=.str z)\/(∀x∈xs,∃i,x=.int i)\/(∀x∈xs,∃z r,x=.tup (.str z::r))\/(∀x∈xs,∃i r,x=.tup (.int i::r))\/(∀x∈xs,∃z r,x=.tup (.tup z::r))
structure SrtG(M:Mem)(xs:List D):Prop where
 len:xs.length<64
 okd:∀x∈xs,okD M eqN x=true
 cm:∀x∈xs,∀y∈xs,iM M eqN x y=true
 kd:(∀x∈xs,∃z,x=.str z)\/(∀x∈xs,∃i,x=.int i)\/(∀x∈xs,∃z r,x=.tup (.str z::r))\/(∀x∈xs,∃i r,x=.tup (.int i::r))\/(∀x∈xs,∃z r,x=.tup (.tup z::r))
 od:∃en:D->List Int,∀a∈xs,∀b∈xs,ltD M eqN a b=decide (en a<en b)
def SrtOk.g(so:SrtOk M xs):SrtG M xs :=
 ⟨so.len,λx hx=>Gc M _ _ (so.ok x hx),so.cm,so.kd,enc eqN,λa ha b hb=>oi (so.ok a ha) (so.ok b hb) (so.cm a ha b hb)⟩
def Cq(M:Mem)(ys:List D):Prop:=ys.Pairwise λa b=>ltD M eqN b a=false
def kw:DRA:=λds M Q=>match ds with
 | [.ref n]=>∃xs,ak M n xs/\SrtG M xs/\∀ys,ys.Perm xs->Cq M ys->Q (.ref M.length) (M++[.lst ys])
 | _=>False
def Reps.perm{K:AA6}{ρ:List Addr}{H:Hp}{ds:List D}{vs:List V}(r:Reps K ρ H ds vs)(is:List Nat)(hi:∀i∈is,i<ds.length):Reps K ρ H (is.map λi=>ds.getD i .non) (is.map λi=>vs.getD i .non):=by
 induction is with
 | nil=>exact .nil
 | cons i is ih =>
  have h:=hi i AAI;obtain⟨v,e,rv⟩:=r.get (AA5 h);refine .cons ?_ (ih λj hj=>hi j (AA9 _ hj))
  show Rep K ρ H (ds.getD i .non) (vs.getD i .non);rw[AAU,AAU,e,AA5 h];exact rv
def au.perm(r:au vs us)(is:List Nat)(hi:∀i∈is,i<vs.length):au (is.map λi=>vs.getD i .non) (is.map λi=>us.getD i .none):=by
 induction is with
 | nil=>exact .nil
 | cons i is ih =>
  have h:=hi i AAI;obtain⟨v,e,rv⟩:=hZ r (AA5 h);refine .cons ?_ (ih λj hj=>hi j (AA9 _ hj))
  show aI (vs.getD i .non) (us.getD i .none);rw[AAU,AAU,e,AA5 h];exact rv
instance:Inhabited D:=⟨.non⟩
section
variable{X:Cx}{pins:List (Addr×Obj)}{σ:St}{H:Hp}{s:Shared}{ρ:List Addr}{M:Mem}
def Dw:∀(o:HO),bQ P w H h a o->∃u,h.get? a=some u
 | .lst _,⟨_,_,_,_,e⟩=>⟨_,e⟩
 | .tup _,⟨_,_,_,o,e,_⟩=>⟨o,e⟩
 | .dK _,⟨_,_,_,_,_,_,_,e,_⟩=>⟨_,e⟩
 | .dT _,⟨_,_,_,_,o,_,_,e,_⟩=>⟨o,e⟩
 | .set _ _,x=>by obtain⟨o,_,_,_,e,_⟩:=x;exact⟨_,e⟩
 | .ins _ _ _,⟨_,_,_,e,_⟩=>⟨_,e⟩
 | .own _,x=>x
 | .xd _,⟨_,⟨_,_,_,e,_⟩,_⟩=>⟨_,e⟩
 | .rng _ _,⟨_,_,_,e⟩=>⟨_,e⟩
 | .frz _ _,⟨e,_⟩=>⟨_,e⟩
 | .tbl _,e=>⟨_,e⟩
 | .met _ _,e=>⟨_,e⟩
 | .ext _,⟨_,e,_⟩=>e
def HOk.none(x:HOk P w H h)(e:h.get? a=none):H a=none:=by
 cases q:H a with
 | none=>rfl
 | some o =>
  exfalso
  obtain⟨u,hu⟩:=Dw o (x a o q);rw[e]at hu;cases hu
def DB(I:Inv X pins σ H s)(sm:Sim X.K ρ M H)(n:Nat)(A:Around)(hu:A.units+n<cLine):∀(ds es:List D) (vs ws:List V) (its jts:List Value),Reps X.K ρ H ds vs->au vs its->Reps X.K ρ H es ws->au ws jts->ds.all (okD M n)=true->es.all (okD M n)=true ->
  zB (eqD M n) (iM M n) ds es=true->LexAt A s its jts (sF (eqD M n) (ltD M n) ds es):=by
 intro ds;induction ds with
 | nil =>
  intro es vs ws its jts p1 q1 p2 q2 _ _ _;cases p1;cases q1
  cases p2 with
  | nil=>cases q2;exact .nn
  | cons _ _=>cases q2;exact .nc
 | cons d ds hi =>
  intro es vs ws its jts p1 q1 p2 q2 k1 k2 k3;cases p1 with
  | cons a1 p1 =>
   cases q1 with
   | cons b1 q1 =>
    cases p2 with
    | nil=>cases q2;exact .cn
    | @cons e _ es' _ a2 p2 =>
     cases q2 with
     | cons b2 q2 =>
      rw[ABT,AAY]at k1 k2;have he:=(jo I sm n A d _ _ _ _ _ hu a1 b1 a2 b2 k1.1 k2.1).1;rw[sF];rw[zB]at k3;by_cases hq:eqD M n d e=true
      ·rw[hq]at he
       rw[if_pos hq]at k3 ⊢;exact .eq he (hi _ _ _ _ _ p1 q1 p2 q2 k1.2 k2.2 k3)
      ·have hq':=ABl.mpr hq
       rw[hq']at he;rw[if_neg hq]at k3 ⊢;exact .ne he (xT I sm n A _ _ _ _ _ _ hu a1 b1 a2 b2 k1.1 k2.1 k3)
end
section
variable{prog:Program}{w:World}{A:Around}{s:Shared}{b:Bool}{Q:Bool->Shared->Prop}
def AG(h:LexAt A s its jts k):∀(i:Nat),(b&&i==0)=false->(b&&i+1==0)=false->Q k s->KatLex prog w A b (decide (its.length<jts.length)) Q (its.zip jts) i s:=by
 have un:∀i:Nat,(b&&i+1==0)=false:=λi=>by cases b<;>simp
 induction h with
 | nn=>intro i _ _ q;exact q
 | nc=>intro i _ _ q;exact(show Q (decide (0<_+1)) s by rw[dT_ (Nat.succ_pos _)];exact q)
 | cn=>intro i _ _ q;exact(show Q (decide (_+1<0)) s by rw[dF_ (ABs _)];exact q)
 | @eq x y xs ys k he t ih =>
  intro i hb _ q;refine kat_cons (he prog w _ _ (kat_yes ?_));have:=ih (i+1) (un i) (un (i+1)) q;rw[show decide ((x::xs).length<(y::ys).length)=decide (xs.length<ys.length) by simp]
  exact this
 | @ne x y xs ys k he t =>
  intro i hb _ q;refine kat_cons (he prog w _ _ (kat_no ?_));rw[hb];exact kat_one _ _ (t prog w _ _ q)
def yy(he:ACP A s p q e)(hl:e=false->∀Q':Bool->Shared->Prop,Q' l s->wpAny (model prog w) A (oneLt' (b&&0==0) p q) Q' (λ_ _=>False) s)(ht:e=true->LexAt A s its jts k)(h:Q (if e=true then k else l) s) :
  KatLex prog w A b (decide ((p::its).length<(q::jts).length)) Q ((p::its).zip (q::jts)) 0 s:=by
 refine kat_cons (he prog w _ _ ?_);cases e with
 | true =>
  refine kat_yes ?_
  rw[show decide ((p::its).length<(q::jts).length)=decide (its.length<jts.length) by simp]
  exact AG (ht rfl) 1 (by cases b<;>rfl) (by cases b<;>rfl) h
 | false=>exact kat_no (hl rfl _ h)
end
section
variable{X:Cx}{pins:List (Addr×Obj)}{σ:St}{H:Hp}{s:Shared}{ρ:List Addr}{M:Mem}
def qy{M:Model}{h:Heap}{x:Str}{t:Tok}:Looks M h (typeOf (.str x t)) (.type "str"):=Looks.of_pure rfl
def qz{M:Model}{h:Heap}{x:Int}{t:Tok}:Looks M h (typeOf (.int x t)) (.type "int"):=Looks.of_pure rfl
def Reps.getD'(r:Reps X.K ρ H ds vs)(rr:au vs its)(h:i<ds.length):∃v,Rep X.K ρ H (ds.getD i default) v/\aI v (its.getD i .none)/\ds.getD i default∈ds:=by
 obtain⟨v,e,rv⟩:=r.get (AA5 h);obtain⟨u,e',ru⟩:=hZ rr e;refine⟨v,?_,?_,?_⟩
 ·rw[AAU,AA5 h];exact rv
 ·rw[AAU,e'];exact ru
 ·rw[AAU,AA5 h];exact AB5 h
def Reps.mem(r:Reps X.K ρ H ds vs)(rr:au vs its)(h:u∈its):∃d v,d∈ds/\Rep X.K ρ H d v/\aI v u:=by
 induction ds generalizing vs its with
 | nil=>cases r;cases rr;cases h
 | cons d0 ds ih =>
  cases r with
  | cons r1 r =>
   cases rr with
   | cons q1 q =>
    rcases(AAJ (a:=u)).mp h with rfl | h
    ·exact⟨_,_,AAI,r1,q1⟩
    ·obtain⟨d,v,h1,h2,h3⟩:=ih r q h
     exact⟨d,v,AA9 _ h1,h2,h3⟩
def sM(I:Inv X pins σ H s)(r:Reps X.K ρ H xs ws)(rr:au ws its)(hx:∀x∈xs,∃f r,x=.tup (f::r)) :
  ∃fs,KatTups s.heap its fs/\fs.length=its.length/\∀u∈fs,∃d v,Rep X.K ρ H d v/\aI v u/\∃r,D.tup (d::r)∈xs:=by
 induction xs generalizing ws its with
 | nil=>cases r;cases rr;exact⟨[],.nil,rfl,λ_ z=>nomatch z⟩
 | cons d ds ih =>
  cases r with
  | cons r1 r =>
   cases rr with
   | cons q1 q =>
    obtain⟨fs,h1,h2,h3⟩:=ih r q λx hx'=>hx x (AA9 _ hx')
    obtain⟨f,aJ,rfl⟩:=hx d AAI;cases r1 with
    | tup hq rs =>
     cases q1
     obtain⟨its,rv,pl,hz⟩:=I.tuple hq;cases rs with
     | cons a1 rs =>
      cases rv with
      | cons b1 rv =>
       obtain⟨o,ho,hc,n,hd⟩:=pl;refine⟨_::fs,.cons ho hc hd rfl h1,by simp[h2],λu hu=>?_⟩
       rcases AAJ.mp hu with rfl | hu
       ·exact⟨_,_,a1,b1,_,AAI⟩
       ·obtain⟨d,v,e1,e2,r',e3⟩:=h3 u hu
        exact⟨d,v,e1,e2,r',AA9 _ e3⟩
def ltc(M:Mem)(xs:List D)(i j:Nat):Bool:=ltD M eqN (xs.getD i default) (xs.getD j default)
def kn(I:Inv X pins σ H s)(sm:Sim X.K ρ M H){xs:List D}{ws:List V}{its:List Value}(so:SrtG M xs)(r:Reps X.K ρ H xs ws)(rr:au ws its)(h2:2<=its.length){A:Around}(hu:A.units+eqN<cLine) :
  wpAny (model X.prog X.w) A (keyKind' its.toArray) (λκ s'=>s'=s/\∀i j (C:Bool->Shared->Prop),i<its.length->j<its.length->C (ltc M xs i j) s->kas_ask X.prog X.w A κ its i j C s) (λ_ _=>False) s:=by
 have lw:=r.length;have li:=rr.length;have le:xs.length=its.length:=by lia
 have tups:∀(b:Bool),(∀x∈xs,∃f r,x=.tup (f::r))->(∀(f g:D) (vf vg:V) (p q:Value) (r r':List D),D.tup (f::r)∈xs->D.tup (g::r')∈xs->Rep X.K ρ H f vf->aI vf p->Rep X.K ρ H g vg->aI vg q ->
   (eqD M 29 f g=false->∀Q':Bool->Shared->Prop,Q' (ltD M 29 f g) s->wpAny (model X.prog X.w) A (oneLt' (b&&0==0) p q) Q' (λ_ _=>False) s)) ->
   ∀i j (C:Bool->Shared->Prop),i<its.length->j<its.length->C (ltc M xs i j) s->kas_ask X.prog X.w A (tuples' b) its i j C s:=by
  intro b hx hone i j C hi hj hc;unfold kas_ask;obtain⟨v1,r1,e1,m1⟩:=r.getD' rr (show i<xs.length by lia)
  obtain⟨v2,r2,e2,m2⟩:=r.getD' rr (show j<xs.length by lia)
  unfold ltc at hc;have k1:=so.okd _ m1;have k2:=so.okd _ m2;have k3:=so.cm _ m1 _ m2;generalize xs.getD i default=x at *;generalize xs.getD j default=y at *;obtain⟨f,rf,rfl⟩:=hx _ m1;obtain⟨g,rg,rfl⟩:=hx _ m2;cases r1 with
  | tup hq rs =>
   cases r2 with
   | tup hq' rs' =>
    generalize its.getD i .none=u1 at *;generalize its.getD j .none=u2 at *;cases e1;cases e2
    obtain⟨as,ra,pa,_⟩:=I.tuple hq;obtain⟨bs,rb,pb,_⟩:=I.tuple hq';obtain⟨o,ho,_,n,hd⟩:=pa;obtain⟨o',ho',_,n',hd'⟩:=pb;refine kat_lt ho hd ho' hd' ?_
    cases rs with
    | cons a1 rs =>
     cases ra with
     | @cons _ p _ la b1 ra =>
      cases rs' with
      | cons a2 rs' =>
       cases rb with
       | @cons _ q _ lb b2 rb =>
        have hu':A.units+29<cLine:=by have:eqN=30:=rfl;lia
        have z1:okD M 29 f=true/\rf.all (okD M 29)=true:=by
         have:(f::rf).all (okD M 29)=true:=k1
         rwa [ABT,AAY]at this
        have z2:okD M 29 g=true/\rg.all (okD M 29)=true:=by
         have:(g::rg).all (okD M 29)=true:=k2
         rwa [ABT,AAY]at this
        have z3:(if eqD M 29 f g=true then zB (eqD M 29) (iM M 29) rf rg else iM M 29 f g)=true:=k3;have he:=(jo I sm 29 A _ _ _ _ _ _ hu' a1 b1 a2 b2 z1.1 z2.1).1;have hc':C (if eqD M 29 f g=true then sF (eqD M 29) (ltD M 29) rf rg else ltD M 29 f g) s:=hc;cases hq3:eqD M 29 f g with
        | true =>
         rw[hq3]at he hc' z3;have:=yy (prog:=X.prog) (w:=X.w) (b:=b) (Q:=C) (l:=true) he (λz=>nomatch z) (λ_=>DB I sm 29 A hu' _ _ _ _ _ _ rs ra rs' rb z1.2 z2.2 z3) hc'
         simpa using this
        | false =>
         rw[hq3]at he hc';have:=yy (prog:=X.prog) (w:=X.w) (b:=b) (Q:=C) (l:=ltD M 29 f g) (its:=la) (jts:=lb) (k:=true) he (λ_=>hone f g _ _ _ _ _ _ m1 m2 a1 b1 a2 b2 hq3) (λz=>nomatch z) hc'
         simpa using this
 have fin:∀(κ:SortKind),(∀i j (C:Bool->Shared->Prop),i<its.length->j<its.length->C (ltc M xs i j) s->kas_ask X.prog X.w A κ its i j C s)->(s=s/\∀i j (C:Bool->Shared->Prop),i<its.length->j<its.length->C (ltc M xs i j) s->kas_ask X.prog X.w A κ its i j C s):=λκ h=>⟨rfl,h⟩
 have eqn:A.units+29<cLine:=by have:eqN=30:=rfl;lia
 rcases so.kd with hk | hk | hk | hk | hk
 ·refine kas_kind (T:=.type "str") h2 (λu hu=>?_) (by decide) (by decide) (fin _ λi j C hi hj hc=>?_)
  ·obtain⟨d,v,m1,r1,e1⟩:=r.mem rr hu
   obtain⟨z,rfl⟩:=hk d m1;cases r1
   obtain⟨t,rfl⟩:=e1;exact qy
  ·unfold kas_ask
   obtain⟨v1,r1,e1,m1⟩:=r.getD' rr (show i<xs.length by lia)
   obtain⟨v2,r2,e2,m2⟩:=r.getD' rr (show j<xs.length by lia)
   unfold ltc at hc;obtain⟨z,hz⟩:=hk _ m1;obtain⟨z',hz'⟩:=hk _ m2;rw[hz]at r1 hc;rw[hz']at r2 hc;cases r1;cases r2
   obtain⟨t,h1⟩:=e1;obtain⟨t',h2⟩:=e2;rw[h1,h2];exact kas_lt_str hc
 ·refine kas_kind (T:=.type "int") h2 (λu hu=>?_) (by decide) (by decide) (fin _ λi j C hi hj hc=>?_)
  ·obtain⟨d,v,m1,r1,e1⟩:=r.mem rr hu
   obtain⟨z,rfl⟩:=hk d m1;cases r1
   obtain⟨t,rfl⟩:=e1;exact qz
  ·unfold kas_ask
   obtain⟨v1,r1,e1,m1⟩:=r.getD' rr (show i<xs.length by lia)
   obtain⟨v2,r2,e2,m2⟩:=r.getD' rr (show j<xs.length by lia)
   unfold ltc at hc;obtain⟨z,hz⟩:=hk _ m1;obtain⟨z',hz'⟩:=hk _ m2;rw[hz]at r1 hc;rw[hz']at r2 hc;cases r1;cases r2
   obtain⟨t,h1⟩:=e1;obtain⟨t',h2⟩:=e2;rw[h1,h2];exact kat_lt_int hc
 ·obtain⟨fs,t1,t2,t3⟩:=sM I r rr λx hx=>(hk x hx).elim λz ⟨r,e⟩=>⟨_,_,e⟩
  refine kat_kind (T:=.type "str") t1 (by lia) (λu hu=>?_) (by decide) (fin _ (tups _ (λx hx=>(hk x hx).elim λz ⟨r,e⟩=>⟨_,_,e⟩) λf g vf vg p q r r' m1 m2 r1 e1 r2 e2 hq Q' h=>?_))
  ·obtain⟨d,v,r1,e1,r',m1⟩:=t3 u hu
   obtain⟨z,r'',e⟩:=hk _ m1;cases e
   cases r1
   obtain⟨t,rfl⟩:=e1;exact qy
  ·obtain⟨z,_,e⟩:=hk _ m1
   cases e
   obtain⟨z',_,e'⟩:=hk _ m2;cases e'
   cases r1;cases r2
   obtain⟨t,rfl⟩:=e1;obtain⟨t',rfl⟩:=e2;exact oneLt_str h
 ·obtain⟨fs,t1,t2,t3⟩:=sM I r rr λx hx=>(hk x hx).elim λz ⟨r,e⟩=>⟨_,_,e⟩
  refine kat_kind (T:=.type "int") t1 (by lia) (λu hu=>?_) (by decide) (fin _ (tups _ (λx hx=>(hk x hx).elim λz ⟨r,e⟩=>⟨_,_,e⟩) λf g vf vg p q r r' m1 m2 r1 e1 r2 e2 hq Q' h=>?_))
  ·obtain⟨d,v,r1,e1,r',m1⟩:=t3 u hu
   obtain⟨z,r'',e⟩:=hk _ m1;cases e
   cases r1
   obtain⟨t,rfl⟩:=e1;exact qz
  ·obtain⟨z,_,e⟩:=hk _ m1
   cases e
   obtain⟨z',_,e'⟩:=hk _ m2;cases e'
   cases r1;cases r2
   obtain⟨t,rfl⟩:=e1;obtain⟨t',rfl⟩:=e2;exact oneLt_int h
 ·obtain⟨fs,t1,t2,t3⟩:=sM I r rr λx hx=>(hk x hx).elim λz ⟨r,e⟩=>⟨_,_,e⟩
  refine kat_kind (T:=.type "tuple") t1 (by lia) (λu hu=>?_) (by decide) (fin _ (tups _ (λx hx=>(hk x hx).elim λz ⟨r,e⟩=>⟨_,_,e⟩) λf g vf vg p q r r' m1 m2 r1 e1 r2 e2 hq Q' h=>?_))
  ·obtain⟨d,v,r1,e1,r',m1⟩:=t3 u hu
   obtain⟨z,r'',e⟩:=hk _ m1;cases e
   cases r1 with
   | tup hq rs =>
    cases e1
    obtain⟨_,_,pl,_⟩:=I.tuple hq;obtain⟨o,ho,hc,_⟩:=pl;rw[<-hc];exact(show Looks _ s.heap (typeOf (.ref _)) o.cls from(Looks.ld ho).andThen .now)
  ·have k1:okD M 29 f=true:=by
    have:(f::r).all (okD M 29)=true:=so.okd _ m1;rw[ABT,AAY]at this;exact this.1
   have k2:okD M 29 g=true:=by
    have:(g::r').all (okD M 29)=true:=so.okd _ m2;rw[ABT,AAY]at this;exact this.1
   have k3:(if eqD M 29 f g=true then zB (eqD M 29) (iM M 29) r r' else iM M 29 f g)=true:=so.cm _ m1 _ m2;rw[hq]at k3;exact kat_one _ _ (xT I sm 29 A _ _ _ _ _ _ eqn r1 e1 r2 e2 k1 k2 k3 _ _ _ _ h)
end
section
variable{X:Cx}{pins:List (Addr×Obj)}{σ:St}{H:Hp}{s:Shared}{ρ:List Addr}{M:Mem}
def Do(so:SrtG M xs):(∀a∈xs,ltD M eqN a a=false)/\(∀a∈xs,∀b∈xs,∀d∈xs,ltD M eqN a b=true->ltD M eqN b d=true->ltD M eqN a d=true)/\∀a∈xs,∀b∈xs,∀d∈xs,ltD M eqN a d=true->ltD M eqN a b=true\/ltD M eqN b d=true:=by
 obtain⟨en,e⟩:=so.od;refine⟨λa ha=>?_,λa ha b hb d hd h1 h2=>?_,λa ha b hb d hd h=>?_⟩
 ·rw[e a ha a ha,dF_ (ABD _)]
 ·rw[e a ha b hb,decide_eq_true_eq]at h1
  rw[e b hb d hd,decide_eq_true_eq]at h2;rw[e a ha d hd,decide_eq_true_eq];exact List.lt_trans h1 h2
 ·rw[e a ha d hd,decide_eq_true_eq]at h
  rw[e a ha b hb,e b hb d hd,decide_eq_true_eq,decide_eq_true_eq];by_cases z:en a<en b
  ·exact .inl z
  ·have z':en b<=en a:=z
   exact .inr (List.lt_of_le_of_lt z' h)
theorem zM{k:Nat}{l:Addr}{xs:List D}{ws:List V}{its:List Value}{R:VK}(hr:Room k X.A)(I:Inv X pins σ H s)(sm:Sim X.K ρ M H)(so:SrtG M xs)(r:Reps X.K ρ H xs ws)(rr:au ws its)(hl:s.heap.IsList l its.toArray)(hz:ws.length<=sizeLine)(h2:2<=its.length)(h64:its.length<64)
  (hne:l≠X.env.locals) (kk:∀v H',((∀Q:DK,(∀ys,ys.Perm xs->Cq M ys->Q (.ref M.length) (M++[.lst ys]))->VQ X.K ρ H Q v H'))->R v H') :
  wpAny (model X.prog X.w) X.A (call (.builtin "sorted") [.ref l]) (EP X pins σ R) X.xe s:=by
 obtain⟨m,hn,hm⟩:=I.loc;have lw:=r.length;have li:=rr.length;obtain⟨ol,hol,_⟩:=id hl;have mem:∀a o,(a,o)∈[]++(l,ol)::Att.ledger s.heap X.env.locals l↔a≠X.env.locals/\s.heap.get? a=some o:=λa o=>by
  rw[AAs,AAJ,Att.mem_ledger];constructor
  ·rintro(h | ⟨h1,_,h3⟩)
   ·cases h;exact⟨hne,hol⟩
   ·exact⟨h1,h3⟩
  ·rintro⟨h1,h2⟩
   by_cases hal:a=l
   ·subst hal
    rw[hol]at h2;cases h2;exact .inl rfl
   ·exact .inr ⟨h1,hal,h2⟩
 refine kat_sorted (Att.fr_all hn) (Att.news_ledger hne hol) hl h2 h64 λD e1 h' F' N' lt=>?_
 have kp:∀b u,b≠X.env.locals->s.heap.get? b=some u->h'.get? b=some u:=λb u hb e=>(N' (b,u) (AA9 _ ((mem b u).mpr ⟨hb,e⟩))).1
 have hDL:D≠X.env.locals:=(N' _ AAI).2.1;have hD:s.heap.get? D=none:=by
  cases q:s.heap.get? D with
  | none=>rfl
  | some o=>exact absurd (lt (D,o) ((mem D o).mpr ⟨hDL,q⟩)) (AAn _)
 have I':Inv X pins σ H { s with heap:=h' }:=I.keptF (t':=s.toks) kp hn F'.ns
 have hu:X.A.in1.in1.units+eqN<cLine:=by
  have:=hr.un;have:eqN=30:=rfl;show X.A.units+1+1+eqN<cLine;lia
 refine ABA (kn I' sm so r rr h2 hu) (λκ s' hk=>?_) λ_ _ x=>x
 obtain⟨rfl,hask⟩:=hk;refine Srt.wp_run (n:=its.length) (c:=λi j=>if i<xs.length then(if j<xs.length then ltD M eqN (xs.getD i default) (xs.getD j default)else true)else false) (λi j C hi hj hc=>?_) _ (Srt.sort_bd (by lia)).1 ?_
 ·refine hask i j C hi hj ?_
  rw[if_pos (by lia),if_pos (by lia)]at hc
  exact hc
 ·have hent:=Srt.All.run (c:=λi j=>if i<xs.length then(if j<xs.length then ltD M eqN (xs.getD i default) (xs.getD j default)else true)else false) _ (Srt.sort_bd (n:=its.length) (by lia)).2
  obtain⟨o1,o2,o3⟩:=Do so;have hsl:=Srt.sort_list xs (by lia) o1 o2 o3
  try dsimp only at hsl
  rw[show xs.length=its.length by lia]at hsl hent ⊢
  generalize Srt.run _ (AED its.length)=p at hent hsl ⊢;have hi:∀i∈p.toList,i<xs.length:=λi h=>by
   have:=hent.mem_iff.mp h;rw[AB2]at this;lia
  refine KasFin.intro F' N' (UpdF.head λq hq=>AAO (lt q hq)) λh2 c F2 N2=>?_
  have r':=r.perm p.toList hi;have rr':=rr.perm p.toList (λi h=>by have:=hi i h;lia)
  have hD':H D=none:=HOk.none I.hok hD;refine⟨.ref D,_,I.laidF (t':=s.toks) (o:=.lst (p.toList.map λi=>ws.getD i .non)) (λb u hb e=>(N2 (b,u) (AA9 _ ((mem b u).mpr ⟨hb,e⟩))).1) hn F2.ns hD hD' ⟨?_,_,c,rr',(N2 _ AAI).1⟩,rfl,
   kk _ _ λQ hQ=>VQ.laidL sm .refl r' hD' (hQ _ hsl.1 hsl.2)⟩
  rw[AA4];have:=hsl.1.length_eq;rw[AA4]at this;lia
end
def Inv.sqL_ne(I:Inv X pins σ H s)(h:SqL X.K H a xs):a≠X.env.locals:=by
 rcases h with h | ⟨o,its,n,hk,_⟩
 ·rcases h with h | ⟨_,h⟩
  ·exact ad h I.free
  ·exact ad h I.free
 ·have:=AAG (I.mod.kin a o hk)
  exact AAO (AAd this (AB3 I.ok.bsz I.ok.above))
section
variable{X:Cx}
def zj(hr:Room k X.A):jC X (.builtin "sorted") kw:=by
 intro pins s σ H vs us R I rv ⟨ds,M,ρ,Q,sm,rs,q,kk⟩;unfold kw at q;split at q
 ·obtain⟨xs,hL,so,q⟩:=q
  cases rs with
  | cons r1 rs =>
   cases rs
   obtain⟨u,rfl,e1⟩:=au.one rv;cases r1 with
   | ref e =>
    cases e1
    obtain⟨ws,hq,r⟩:=ak.seq sm hL e;obtain⟨its,rr,pl,hz⟩:=I.list hq;have lw:=r.length;have li:=rr.length;by_cases h2:its.length<2
    ·refine pT pl.isList h2 λD h' n hD hk ho=>?_
     refine⟨.ref D,_,I.laid (t':=s.toks) (o:=.lst ws) hk hD ⟨hz,its,n,rr,ho⟩,rfl,kk _ _ (VQ.laidL sm .refl r (I.hok.fresh hD) (q xs (AD3 _) ?_))⟩;unfold Cq;match xs,(show xs.length<2 by lia) with
     | [],_=>exact ADJ
     | [x],_=>exact ADs _ _
     | _::_::_,hx=>simp at hx;lia
    ·have h2':2<=its.length:=by lia
     have h64:its.length<64:=by have:=so.len;lia
     exact zM hr I sm so r rr pl.isList hz h2' h64 (I.sqL_ne hq) λv H' x=>kk v H' (x Q q)
 ·exact q.elim
end
structure ZA(z TI TO i1 i2:Addr)(f1 f2:List Addr):Prop where
 nd:[z,TI,TO,i1,i2].Nodup
 z1:z∉f1
 o1:TO∉f1
 y1:i2∉f1
 z2:z∉f2
 o2:TO∉f2
 x2:i1∉f2
section
variable{X:Cx}{pins:List (Addr×Obj)}{σ:St}{H:Hp}{s:Shared}{h':Heap}
def Inv.turnedL{t':Nat}{fp:List Addr}(I:Inv X pins σ H s)(hf:∀b∈fp,wu X pins H b)(k:∀b o,b∉fp->s.heap.get? b=some o->h'.get? b=some o):Inv X pins σ H { s with heap:=h',toks:=t' }:=by
 have nfp:∀b u,H b=some u->b∉fp:=λb u e z=>by rw[(hf b z).1]at e;cases e
 refine I.step (g':=s.gens) (d':=s.drawn) (ch:=fp) (λb hb=>⟨(hf b hb).2.2.2.1,(hf b hb).2.1,(hf b hb).2.2.2.2.1,(hf b hb).2.2.2.2.2⟩) (λb o _ _ hc e _=>k b o hc e) (λb o _ _ hc e _=>⟨o.slots,k b o hc e⟩) (λ_ _ _ _ n=>n)
  (λb o hc e=>⟨o,k b o hc e⟩) (λ_ _ e=>e) (λ_ _ _ e=>e) (λb ps e=>⟨#[],by rw[e];simp⟩) (λm hm=>?_) (λb u e=>?_) I.bare
 ·obtain⟨o,es,ep,ho,r⟩:=hm
  exact⟨o,es,ep,k _ o (λz=>(hf _ z).2.1 rfl) ho,r⟩
 ·refine(I.hok b u e).stay (λc v hc q=>k c v ?_ q) (λ_ q=>q) λ_ _ q=>q
  rcases hc with rfl | z
  ·exact nfp _ u e
  ·exact nfp _ _ z
def Inv.turnedT{t':Nat}{fp:List Addr}{T:Addr}{o:HO}(I:Inv X pins σ H s)(hf:∀b∈fp,wu X pins H b)(k:∀b o,b∉fp->s.heap.get? b=some o->h'.get? b=some o)(hT:s.heap.objs.size<=T)(new:bQ X.prog X.w (upd H T o) h' T o):Inv X pins σ (upd H T o) { s with heap:=h',toks:=t' }:=by
 have fa:H T=none:=I.hok.fresh hT;have neT:∀b u,s.heap.get? b=some u->b≠T:=λb u e=>AAO (AAd (AAG e) hT)
 have nfp:∀b u,H b=some u->b∉fp:=λb u e z=>by rw[(hf b z).1]at e;cases e
 refine I.step (g':=s.gens) (d':=s.drawn) (ch:=fp) (λb hb=>⟨(hf b hb).2.2.2.1,(hf b hb).2.1,(hf b hb).2.2.2.2.1,(hf b hb).2.2.2.2.2⟩) (λb o _ _ hc e _=>k b o hc e) (λb o _ _ hc e _=>⟨o.slots,k b o hc e⟩) (λb u _ e n=>by rw[af (neT b u e)];exact n)
  (λb o hc e=>⟨o,k b o hc e⟩) (λb xs q=>by rw[af (ad q fa)];exact q) (λb u xs q=>by rw[af (ad q fa)];exact q) (λb ps q=>⟨#[],by rw[af (ad q fa),q];simp⟩) (λm hm=>?_) (λb u e=>?_) I.bare
 ·obtain⟨o,es,ep,ho,r⟩:=hm
  exact⟨o,es,ep,k _ o (λz=>(hf _ z).2.1 rfl) ho,r⟩
 ·by_cases hb:b=T
  ·subst hb
   rw[aA]at e;cases e
   exact new
  ·rw[af hb]at e
   refine(I.hok b u e).stay (λc v hc q=>k c v ?_ q) (λc q=>by rw[af (ad q fa)];exact q) λc xs q=>by rw[af (ad q fa)];exact q
   rcases hc with rfl | z
   ·exact nfp _ u e
   ·exact nfp _ _ z
end
def zipD(xs ys:List D):List D:=(xs.zip ys).map λp=>.tup [p.1,p.2]
def RowAt(M:Mem)(x:D)(xs:List D)(ok:Mem->Prop):Prop:=match x with
 | .tup ds=>xs=ds/\ok=λ_=>True
 | .ref n=>ak M n xs/\ok=λM=>ak M n xs
 | _=>False
section
variable{prog:Program}{w:World}{A:Around}{E:Value->Shared->Prop}{s:Shared}
def sD{D:Addr}{vs:List Value}{n:Nat}{Q:Value->Shared->Prop}(ho:s.heap.get? D=some (seqObj "list" vs.toArray n))(h2:vs.length<2)
  (h:∀h' c,(∀b o,b≠D->s.heap.get? b=some o->h'.get? b=some o)->h'.get? D=some (seqObj "list" vs.toArray c)->Q .none { s with heap:=h' }):wpAny (model prog w) A (call (.builtin "list.sort") [.ref D]) Q E s:=by
 have few:vs.length<=sizeLine:=by rw[ABq];lia
 refine AAp slot_list_sort (⟨_,ho,rfl⟩) entry_list_sort ?_ (args_list_sort (.ref D));rw[list_sort_plain];refine AA0 (AEF ho rfl (AA0 (ADO ho rfl ?_ (by rw[AAD];exact few) (AAX _))))
 obtain⟨e1,ho1⟩:∃e1,(s.heap.update D (ABE λ_=>(#[]:Array Value))).get? D=some (seqObj "list" #[] e1):=⟨_,ACo ho λ_=>#[]⟩
 refine AA0 (seqEpoch_at ho1 rfl (AA0 (wpAny_newTuple (AA0 (ADN (AAZ ?_) (AAX _))) few)));dsimp only;have hv2:vs.toArray.size<2:=by rw[AAD];exact h2
 rw[if_pos hv2,if_pos hv2];refine AA0 (AA2 ?_);rw[StateT.run_pure];refine AA0 (AA2 ?_);dsimp only;generalize hg3:((s.heap.update D (ABE λ_=>(#[]:Array Value))).push (seqObj "tuple" vs.toArray 0)).push (seqObj "list" #[] 0)=g3
 have ho3:g3.get? D=some (seqObj "list" #[] e1):=by rw[<-hg3];exact AA3 _ (AA3 _ ho1)
 have k3:∀b o,b≠D->s.heap.get? b=some o->g3.get? b=some o:=λb o hb q=>by
  rw[<-hg3];refine AA3 _ (AA3 _ ?_);rw[AC6 _ _ _ _ hb];exact q
 refine AA0 (seqEpoch_at ho3 rfl ?_);have eo:∀us:List Value,us.length<2->(us.toArray.zip us.toArray).map (·.2)=us.toArray:=λus hu=>by
  match us,hu with
  | [],_=>simp
  | [v],_=>simp
  | _::_::_,hu=>simp at hu;lia
 have eout:(arrOf (SortSt.mk' general' (vs.toArray.zip vs.toArray) #[] 7 none)).map (·.2)=vs.toArray:=eo vs h2;rw[eout];refine AA0 (ADO ho3 rfl ?_ (AAX _) (by rw[AAD];exact Nat.le_succ_of_le few))
 simp only[show failedOf (SortSt.mk' general' (vs.toArray.zip vs.toArray) #[] 7 none)=none from rfl,bne_self_eq_false,AAE,if_false];obtain⟨c2,hc2⟩:∃c2,(g3.update D (ABE λ_=>vs.toArray)).get? D=some (seqObj "list" vs.toArray c2):=⟨_,ACo ho3 λ_=>vs.toArray⟩
 refine AA2 ⟨_,rfl,h _ c2 (λb o hb q=>?_) hc2⟩
 rw[AC6 _ _ _ _ hb];exact k3 b o hb q
end
section
variable{X:Cx}{pins:List (Addr×Obj)}{σ:St}{H:Hp}{s:Shared}{ρ:List Addr}{M:Mem}
def xp{k:Nat}{D:Addr}{xs:List L2.D}{ws:List V}{its:List Value}{R:VK}{h1:Heap}{tk n:Nat}{m:Str->Option Value}{A:Around}{E:Value->Shared->Prop}(hr:Room k X.A)(hA:A.units<=X.A.units+4)(I:Inv X pins σ H s)(sm:Sim X.K ρ M H)(so:SrtG M xs)(r:Reps X.K ρ H xs ws)(rr:au ws its)
  (hn:s.heap.Ns X.env.locals m) (hn1:h1.Ns X.env.locals m) (kp1:∀b u,b≠X.env.locals->s.heap.get? b=some u->h1.get? b=some u) (hD:s.heap.get? D=none) (hne:D≠X.env.locals) (ho:h1.get? D=some (seqObj "list" its.toArray n))
  (kk:∀v H',((∀Q:DK,(∀ys,ys.Perm xs->Cq M ys->Q (.ref M.length) (M++[.lst ys]))->VQ X.K ρ H Q v H'))->R v H') :
  wpAny (model X.prog X.w) A (call (.builtin "list.sort") [.ref D]) (λ_ s'=>EP X pins σ R (.ref D) s') E { s with heap:=h1,toks:=tk }:=by
 have lw:=r.length;have li:=rr.length;have l64:=so.len;have hH:H D=none:=HOk.none I.hok hD;have neD:∀b u,s.heap.get? b=some u->b≠D:=λb u e q=>by subst q;rw[hD]at e;cases e
 by_cases h2:its.length<2
 ·refine sD ho h2 λh' c kp' ho'=>?_
  have hn':h'.Ns X.env.locals m:=by
   obtain⟨o,es,ep,e,aJ⟩:=hn1;exact⟨o,es,ep,kp' _ _ (ABO hne) e,aJ⟩
  refine⟨.ref D,_,I.laidF (t':=tk) (o:=.lst ws) (λb u hb e=>kp' b u (neD b u e) (kp1 b u hb e)) hn hn' hD hH ⟨by rw[ABq];lia,its,c,rr,ho'⟩,rfl,kk _ _ λQ hQ=>VQ.laidL sm .refl r hH (hQ xs (AD3 _) ?_)⟩
  unfold Cq;match xs,(show xs.length<2 by lia) with
  | [],_=>exact ADJ
  | [x],_=>exact ADs _ _
  | _::_::_,hx=>simp at hx;lia
 ·have h2':2<=its.length:=by lia
  have mem:∀a o,(a,o)∈Att.ledger h1 X.env.locals D↔a≠X.env.locals/\a≠D/\h1.get? a=some o:=λa o=>Att.mem_ledger
  have U:UpdF D (seqObj "list" its.toArray n) ([]++(D,seqObj "list" its.toArray n)::Att.ledger h1 X.env.locals D) λo'=>(D,o')::Att.ledger h1 X.env.locals D:=UpdF.head λp hp=>((mem p.1 p.2).mp hp).2.1
  refine kat_lsort (s:={ s with heap:=h1,toks:=tk }) (vs:=its) (Att.fr_all hn1) (Att.news_ledger hne ho) U rfl h2' (by lia) λe1 h' F' N'=>?_
  have kp:∀b u,b≠X.env.locals->s.heap.get? b=some u->h'.get? b=some u:=λb u hb e=>(N' (b,u) (AA9 _ ((mem b u).mpr ⟨hb,neD b u e,kp1 b u hb e⟩))).1
  have I':Inv X pins σ H { s with heap:=h',toks:=tk }:=I.keptF (t':=tk) kp hn F'.ns
  have hu:A.in1.units+eqN<cLine:=by
   have:=hr.un;have:eqN=30:=rfl;show A.units+1+eqN<cLine;lia
  refine ABA (kn I' sm so r rr h2' hu) (λκ s' hk=>?_) λ_ _ x=>x
  obtain⟨rfl,hask⟩:=hk;refine Srt.wp_run (n:=its.length) (c:=λi j=>if i<xs.length then(if j<xs.length then ltD M eqN (xs.getD i default) (xs.getD j default)else true)else false) (λi j C hi hj hc=>?_) _ (Srt.sort_bd (by lia)).1 ?_
  ·refine hask i j C hi hj ?_
   rw[if_pos (by lia),if_pos (by lia)]at hc
   exact hc
  ·have hent:=Srt.All.run (c:=λi j=>if i<xs.length then(if j<xs.length then ltD M eqN (xs.getD i default) (xs.getD j default)else true)else false) _ (Srt.sort_bd (n:=its.length) (by lia)).2
   obtain⟨o1,o2,o3⟩:=Do so;have hsl:=Srt.sort_list xs (by lia) o1 o2 o3
   try dsimp only at hsl
   rw[show xs.length=its.length by lia]at hsl hent ⊢
   generalize Srt.run _ (AED its.length)=p at hent hsl ⊢;have hi:∀i∈p.toList,i<xs.length:=λi h=>by
    have:=hent.mem_iff.mp h;rw[AB2]at this;lia
   refine KasFin.intro F' N' (UpdF.head λq hq=>((mem q.1 q.2).mp hq).2.1) λh2 c F2 N2=>?_
   have r':=r.perm p.toList hi;have rr':=rr.perm p.toList (λi h=>by have:=hi i h;lia)
   refine⟨.ref D,_,I.laidF (t':=tk) (o:=.lst (p.toList.map λi=>ws.getD i .non)) (λb u hb e=>(N2 (b,u) (AA9 _ ((mem b u).mpr ⟨hb,neD b u e,kp1 b u hb e⟩))).1) hn F2.ns hD hH ⟨?_,_,c,rr',(N2 _ AAI).1⟩,rfl,
    kk _ _ λQ hQ=>VQ.laidL sm .refl r' hH (hQ _ hsl.1 hsl.2)⟩
   rw[AA4];have:=hsl.1.length_eq;rw[AA4]at this;rw[ABq];lia
end
section
variable{K:AA6}{ρ:List Addr}{H:Hp}{M:Mem}
def Sim.laidM(S:Sim K ρ M H)(hp:H p=none)(ok:wz K (ρ++[p]) (upd H p o) p mo):Sim K (ρ++[p]) (M++[mo]) (upd H p o):=by
 have g:Grow K ρ H (ρ++[p]) (upd H p o):=Grow.laidR hp;have old:∀(n:Nat),ρ[n]?=some p->isK M[n]?:=λn e=>by
  rcases S.tracked e with⟨o,q⟩ | q
  ·rw[hp]at q;cases q
  ·exact q
 refine⟨λn m a hnm e1 e2=>?_,by rw[AAA,AAA,S.len];rfl,λn a mo' e1 e2=>?_⟩
 ·rcases aR e1 with f1 | ⟨f1,g1⟩
  ·rcases aR e2 with f2 | ⟨f2,g2⟩
   ·exact(S.nd n m a hnm f1 f2).elim (λz=>.inl z.more) λz=>.inr z.more
   ·subst g2
    exact .inl (old n f1).more
  ·rcases aR e2 with f2 | ⟨f2,g2⟩
   ·subst g1
    exact .inr (old m f2).more
   ·exact absurd (f1.trans f2.symm) hnm
 ·rcases aR e1 with f1 | ⟨f1,g1⟩
  ·have hn:n<M.length:=by rw[<-S.len];exact(AA7.mp f1).1
   rw[AAT hn]at e2;exact(S.obj n a mo' f1 e2).grow g (S.keeps hp f1 e2)
  ·subst g1 f1
   rw[S.len,AAe (AA8 _),ADE]at e2;simp at e2;subst e2;exact ok
def Bp(kvs:List (Str×D))(k:Str):Option D:=(kvs.find? λp=>decide (p.1=k)).map (·.2)
def xz(kvs:List (Str×D))(k:Str)(d:D):List (Str×D):=if (kvs.any λp=>decide (p.1=k))=true then kvs.map (λp=>if p.1=k then(p.1,d)else p)else kvs++[(k,d)]
def DZ(a b:Str):decide ((ACS a:Key)=ACS b)=decide (a=b):=BS a b
def tD:∀{kvs:List (Str×D)}{vs:List V},Reps K ρ H (kvs.map (·.2)) vs->Bp kvs k=some d->∃v,wv (lD (kvs.map (·.1)) vs) (ACS k)=some v/\Rep K ρ H d v
 | [],_,_,e=>by simp[Bp]at e
 | (k',d')::kvs,_,.cons h t,e=>by
  by_cases q:k'=k
  ·subst q
   have:d'=d:=by simpa [Bp]using e
   subst this;exact⟨_,by simp[lD,wv],h⟩
  ·have e':Bp kvs k=some d:=by simpa [Bp,ABJ,q]using e
   obtain⟨v,h1,h2⟩:=tD t e';refine⟨v,?_,h2⟩;have:¬(ACS k':Key)=ACS k:=λz=>q (Sum.inr.inj z)
   simpa [lD,wv,ABJ,this]using h1
def uV:∀{kvs:List (Str×D)}{vs:List V},Reps K ρ H (kvs.map (·.2)) vs->((lD (kvs.map (·.1)) vs).any λkv=>decide (kv.1=ACS k))=kvs.any λp=>decide (p.1=k)
 | [],_,_=>rfl
 | (k',d')::kvs,_,.cons h t=>by
  have ih:=uV (k:=k) t;show (decide ((ACS k':Key)=ACS k)||(lD (kvs.map (·.1)) _).any _)=(decide (k'=k)||kvs.any _);rw[ih,DZ]
def ur(hd:Rep K ρ H d v):∀{kvs:List (Str×D)}{vs:List V},Reps K ρ H (kvs.map (·.2)) vs->∃vs',(lD (kvs.map (·.1)) vs).map (λkv=>if kv.1=ACS k then(kv.1,v)else kv)=lD ((kvs.map λp=>if p.1=k then(p.1,d)else p).map (·.1)) vs'/\Reps K ρ H ((kvs.map λp=>if p.1=k then(p.1,d)else p).map (·.2)) vs'
 | [],_,.nil=>⟨[],rfl,.nil⟩
 | (k',d')::kvs,_,.cons (v:=v') h t=>by
  obtain⟨vs',e,r⟩:=ur (k:=k) hd t;by_cases q:k'=k
  ·subst q
   refine⟨v::vs',?_,?_⟩
   ·simp only[AAQ,if_true,lD,ACH]at e ⊢
    rw[e]
   ·simp only[AAQ,if_true]
    exact .cons hd r
  ·have q':¬(ACS k':Key)=ACS k:=λz=>q (Sum.inr.inj z)
   refine⟨v'::vs',?_,?_⟩
   ·simp only[AAQ,if_neg q,if_neg q',lD,ACH]at e ⊢
    rw[e]
   ·simp only[AAQ,if_neg q]
    exact .cons h r
def pU:∀{kvs:List (Str×D)}{vs:List V},Reps K ρ H (kvs.map (·.2)) vs->lD (kvs.map (·.1)) vs++[(ACS k,v)]=lD (kvs.map (·.1)++[k]) (vs++[v])
 | [],_,.nil=>rfl
 | (k',d')::kvs,_,.cons h t=>by
  have:=pU (k:=k) (v:=v) t;simp only[AAQ,lD,ACH,ACX]at this ⊢;rw[this]
def CT(hd:Rep K ρ H d v)(r:Reps K ρ H (kvs.map (·.2)) vs):∃vs',putK (lD (kvs.map (·.1)) vs) (ACS k) v=lD ((xz kvs k d).map (·.1)) vs'/\Reps K ρ H ((xz kvs k d).map (·.2)) vs':=by
 unfold putK xz;rw[uV r];by_cases q:(kvs.any λp=>decide (p.1=k))=true
 ·rw[if_pos q,if_pos q]
  exact ur hd r
 ·rw[if_neg q,if_neg q]
  refine⟨vs++[v],?_,?_⟩
  ·rw[pU r,AAW]
   rfl
  ·rw[AAW]
   exact r.append (.cons hd .nil)
end
section
variable{X:Cx}{o i value:Expr}{td ty tv:DTE}{pos pos':Pos}
def Bg(td ty:DTE):DTE:=λS M Q=>td S M λx M1=>ty S M1 λy M2=>match x,y with
 | .ref n,.str k=>∃kvs d,M2[n]?=some (.dct kvs)/\Bp kvs k=some d/\Q d M2
 | _,_=>False
def HL(hu:X.A.units+1<cLine)(ho:DE X o td)(hi:DE X i ty)(hs:Cs i):DE X (.Subscript o i pos) (Bg td ty):=by
 refine PE.imp (Dg hu ho hi hs) λσ H R ⟨S,M,ρ,Q,s,sr,q,k⟩=>⟨S,M,ρ,_,s,sr,q,λv H1 ⟨d,M1,ρ1,s1,g1,r1,q1⟩=>⟨S,M1,ρ1,_,s1,sr.grow g1,q1,λu H2 ⟨e,M2,ρ2,s2,g2,r2,q2⟩=>?_⟩⟩
 try dsimp only at q2
 split at q2
 ·obtain⟨kvs,d,hM,hv,q3⟩:=q2
  obtain⟨_,rfl,hn⟩:=Rep.inv_ref r1;cases r2
  obtain⟨vs,hH,rr⟩:=s2.obj _ _ _ (am g2.pre hn) hM;obtain⟨w,e1,rw'⟩:=tD rr hv;exact⟨_,w,rfl,.inl ⟨_,ACS _,.inl hH,rfl,e1.symm⟩,k _ _ ⟨d,M2,ρ2,s2,g1.trans g2,rw',q3⟩⟩
 ·exact q2.elim
end
structure HGs(X:Cx)(es:List Expr)(t:Ct):Prop where
 ok:DGs X es t
section
variable{X:Cx}{e a b c o i tg:Expr}{es aJ:List Expr}{te ta tb tc to ti:DTE}{t:DTA}{pos p p2 pos':Pos}{x:Str}{k:Nat}{g:DTG}{u:Ct}{name:Str}{apos cpos:Pos}
def yq:HGs X [] lV:=⟨Et⟩
def uB(h1:HG X e g)(h2:HGs X es u)(hs:(assignEach (e::es) X.env).map (·.2)=assign e X.env::(assignEach es X.env).map (·.2):=by kernel_rfl):HGs X (e::es) (cc g u):=⟨AY h1.ok h2.ok hs⟩
def BO(h:HGs X es u)(hc:X.calm=true:=by kernel_rfl)(hn:(assignEach es X.env).length=n:=by kernel_rfl)(hst:(assignEach es X.env).findIdx? (·.1)=none:=by kernel_rfl):HG X (.Tuple es j pos) (lU n u):=⟨Hw h.ok hc hn hst⟩
def BP(ho:HE X o to)(hi:HE X i ti)
  (ha:∀v,assign (.Subscript o i pos) X.env v=(do
   let ov <-holding [v] (eval o X.env)
   let iv <-holding [v,ov] (eval i X.env)
   standAt pos
   holding [v,ov,iv] (setItem ov iv v)
   release [v,ov,iv] []):=by intro _;kernel_rfl):HG X (.Subscript o i pos) (AZ to ti):=⟨Hy ho.ok hi.ok ha⟩
def uy(he:HE X e te)(hg:HG X tg g)(hs:swapsWithSole [tg] e pos.line X.env=pure false:=by kernel_rfl)(hw:swappedStores [tg] e X.env=pure none:=by kernel_rfl)
  (h1:(assignEach [tg] X.env).map (·.2)=[assign tg X.env]:=by kernel_rfl):HS X (.Assign [tg] e pos) (HN te g):=⟨Hq he.ok hg.ok hs hw h1⟩
def yI:HOp X (binaryOp .Add) bh:=⟨Dv⟩
def Cg(hr:Room k X.A):HOp X (compareOp .Lt) ER:=⟨Gi hr⟩
def uH:HC X (.type "tuple") iw:=⟨Bi⟩
def qN:HMl X "extend" iP:=⟨_,PySem.F.slot_list_extend,PySem.F.type_list_extend,vL⟩
def dMl0(r:Nat->DRA)(to:DTE):DTE:=λS M Q=>to S M λx M1=>match x with
 | .ref n=>(∃xs,ak M1 n xs)/\r n [] M1 Q
 | _=>False
theorem GC(hm:HMl X name r)(ho:HE X o to)(hbase:attributeBase o name X.env (eval o X.env)=eval o X.env:=by kernel_rfl)(hline:(apos.endLine==cpos.line)=true:=by kernel_rfl) :
  HE X (.Call (.Attribute o name apos) [] [] cpos) (dMl0 r to):=by
 obtain⟨id,h1,h2,h3⟩:=hm.ok;refine⟨PE.imp (FQ PySem.F.plainAttrs_list h1 h2 h3 ho.ok hbase hline) λσ H R ⟨S,M,ρ,Q,s,sr,q,k⟩=>⟨S,M,ρ,_,s,sr,q,λv H1 ⟨d,M1,ρ1,s1,g1,r1,q1⟩=>?_⟩⟩
 cases r1 with
 | @ref n a hn =>
  obtain⟨⟨xs,hL⟩,q1⟩:=(show (∃xs,ak M1 n xs)/\r n [] M1 _ from q1);obtain⟨vs,hq,_⟩:=ak.seq s1 hL hn;exact⟨.inl ⟨rfl,vs,hq⟩,n,a,[],M1,ρ1,Q,rfl,hn,s1,.nil,q1,λv H' w=>k v H' (VQ.trans g1 w)⟩
 | _=>exact q1.elim
def zT(hr:Room k X.A):X.A.units+1<cLine:=by have:=hr.un;lia
def Ca(hr:Room k X.A)(ho:HE X o to)(hi:HE X i ti)(hs:Cs i:=by intro _ _;kernel_rfl):HE X (.Subscript o i pos) (Bg to ti):=⟨HL (zT hr) ho.ok hi.ok hs⟩
end
section
variable{X:Cx}
def Fj(nt:Nat)(js:List Nat)(wi:TI)(g:TG)(tt:TT)(te:TE)(gN:TG):TS:=λD σ H=>tLC nt js wi g tt te σ H λv H1=>gN v σ H1 D.nx
theorem zX(B:BlkSc X N' nt js scope)(hc:X.calm=true)(hi:PI X tg iter wi)
  (hg:∀cl s0 H0 ex,PG (blk X N' scope cl s0 H0 ex) tg g) (ht:∀cl s0 H0 ex,PTs (blk X N' scope cl s0 H0 ex) ifs tt) (he:∀cl s0 H0 ex,PE (blk X N' scope cl s0 H0 ex) elt te) (hn:PG X (.Name x pos') gN)
  (hs:∀x,foldedSetIterable iter X.env x=pure x) (hsw:swapsWith (.ListComp elt [⟨tg,iter,ifs,0⟩] scope pos) (some (.Name x pos')) pos2.line X.env=pure true) :
  PS X (.Assign [.Name x pos'] (.ListComp elt [⟨tg,iter,ifs,0⟩] scope pos) pos2) (Fj nt js wi g tt te gN):=by
 intro pins s σ H Dn I h;rw[exec_Assign_Name_used _ _ _ _ hsw];refine AA0 (wpAny_standAt ?_);obtain⟨cl,ecl,hcl1,hcl2⟩:=jr (scope:=scope) (env:=X.env) λp hp hf=>I.ok.has p.1 (B.free p hp hf)
 refine AA0 (show wpAny (model X.prog X.w) X.A (comprehension (.ListComp elt [⟨tg,iter,ifs,0⟩] scope pos) scope X.env _ (newList []) false (eval iter X.env) (some (assign (.Name x pos') X.env)) >>= λ_=>pure ()) _ _ _ from AA0 ?_)
 refine wpAny_comprehension_free (use:=some (assign (.Name x pos') X.env)) (Q:=λ_ s''=>wpAny (model X.prog X.w) X.A (pure ()) (λ_ s3=>wpAny (model X.prog X.w) X.A (pure Flow.next) (SP X pins Dn) X.xe s3) X.xe s'') rfl hs ecl B.kind B.loc ?_
 refine thn (hi pins s σ H _ I h) λv s1 h1=>thn h1 λitv s2 h2=>?_
 obtain⟨it,fp,tn,J,H2,e,I2,T,st2,f2,W,⟨m0,w0⟩,turn⟩:=h2;subst e;refine AAr (wpAny_newFunctionEnv B.nocell (by intro y hy;simp at hy) (λh1 hns1 hsb1=>?_) B.kind)
 have hfs:∀b∈fp,b<s2.heap.objs.size:=λb hb=>by
  obtain⟨o,e,_⟩:=T.obj _ _ st2 b hb;exact AAG e
 have hC:(s2.heap.push (cq [] 0)).objs.size=s2.heap.objs.size+1:=ABZ ..;have old:∀b o,(s2.heap.push (cq [] 0)).get? b=some o->h1.get? b=some o:=λb o e=>(hsb1.2 b (AAO (AAG e))).trans (AA3 _ e)
 have I3:=I2.blkStart (tk:=s2.toks+([]:List (Str×Value)).length) B hcl1 hcl2 f2 hfs old hns1;have st3:tn 0 h1:=T.keep _ _ _ st2 λb _ o e=>old b o (AA3 _ e)
 have hDf:s2.heap.objs.size∉fp:=λz=>AAn _ (hfs _ z)
 have hDs:s2.heap.objs.size∉frs X.stack:=λz=>by
  rcases AAJ.mp (I2.stkSub _ z)with q | q
  ·exact absurd I2.lt (by rw[<-q];exact AAn _)
  ·exact I2.nofs (AA8 _) q
 have hDC:s2.heap.objs.size≠(s2.heap.push (cq [] 0)).objs.size:=by rw[hC];exact AAO (AB0 _)
 have ltc:∀z c,cl.lookup z=some c->c<s2.heap.objs.size:=λz c e=>by
  obtain⟨v,q⟩:=I2.cell z c (hcl1 z c e);exact q.lt
 have hstat:∀b∈fp,b≠(s2.heap.push (cq [] 0)).objs.size/\b∉frs X.stack/\∀x c,cl.lookup x=some c->c≠b:=λb hb=>by
  refine⟨by rw[hC];exact AAO (AC5 (hfs b hb)),λz=>?_,λx c e=>(f2 b hb).2.2.2.2.1 x c (hcl1 x c e)⟩
  rcases AAJ.mp (I2.stkSub b z)with q | q
  ·exact(f2 b hb).2.1 q
  ·exact(f2 b hb).2.2.1 q
 have leC:s2.heap.objs.size<=(s2.heap.push (cq [] 0)).objs.size:=by rw[hC];exact ADc _
 have loop:codeAny (model X.prog X.w) X.A (.compLoop (.ListComp elt [⟨tg,iter,ifs,0⟩] scope pos) 0 (.ref it) (.ref s2.heap.objs.size) (compEnvC scope cl (s2.heap.push (cq [] 0)).objs.size X.env))
   (compPost (model X.prog X.w) X.A X.xe (some (assign (.Name x pos') X.env)) (λ_ s''=>wpAny (model X.prog X.w) X.A (pure ()) (λ_ s3=>wpAny (model X.prog X.w) X.A (pure Flow.next) (SP X pins Dn) X.xe s3) X.xe s'') (.ref s2.heap.objs.size) (s2.heap.push (cq [] 0)).objs.size) { s2 with heap:=h1,toks:=s2.toks+([]:List (Str×Value)).length }:=by
  refine yc (s0:={ s2 with heap:=s2.heap.push (cq [] 0) }) (H0:=H2) (N':=N') (Q:=λv H1=>gN v σ H1 Dn.nx) hc (hg _ _ _ _) (ht _ _ _ _) (he _ _ _ _) T hDf turn hstat hDC hDs (λx c e=>AAO (ltc x c e)) ?_ m0 I3 st3 (λb hb=>(f2 b hb).1) w0
  intro τ H' s' vs its k I4 rv hl q;obtain⟨mm,hn4,_⟩:=id I4.loc;obtain⟨oC,es,ep,eC,aJ⟩:=id hn4;have I5:Inv X pins σ (upd H' s2.heap.objs.size (.lst vs)) s':=I2.blkEnd f2 I4 rv hl ⟨rfl,λ_ _=>rfl⟩
  have fC:upd H' s2.heap.objs.size (.lst vs) (s2.heap.push (cq [] 0)).objs.size=none:=by rw[af (ABO hDC)];exact I4.free
  have fk:∀Hx:Hp,Hx (s2.heap.push (cq [] 0)).objs.size=none->wu X pins Hx (s2.heap.push (cq [] 0)).objs.size:=λHx hx=>I2.fpOk leC hx
  have dC:∀v,oC.data≠.cell v:=λv z=>by
   have:∃es ep,oC.data=.dict es ep:=by
    first
     | (obtain⟨d,_⟩:=aJ;exact⟨_,_,d⟩)
     | (obtain⟨_,d,_⟩:=aJ;exact⟨_,_,d⟩)
     | (obtain⟨_,_,d,_⟩:=aJ;exact⟨_,_,d⟩)
   obtain⟨_,_,d⟩:=this;rw[d]at z;cases z
  have I6:Inv X (pins++[((s2.heap.push (cq [] 0)).objs.size,oC)]) σ (upd H' s2.heap.objs.size (.lst vs)) s':=I5.pins_of λp hp=>by
   rcases AAa.mp hp with hp | hp
   ·exact I5.pin p (AAB _ hp)
   ·have:p=((s2.heap.push (cq [] 0)).objs.size,oC):=by simpa using hp
    subst this;exact⟨eC,fC,(fk _ fC).2.1,(fk _ fC).2.2.1,dC⟩
  refine thn (hn _ s' σ _ (.ref s2.heap.objs.size) (.ref s2.heap.objs.size) _ I6 rfl q) λ_ s7 ⟨σ7,H7,I7,q7⟩=>?_
  obtain⟨p1,p2,_⟩:=I7.pin ((s2.heap.push (cq [] 0)).objs.size,oC) (AAB _ (AAB _ AAI));refine⟨mm,⟨oC,es,ep,p1,aJ⟩,λh' sb=>AA2 (AA2 ⟨σ7,H7,?_,q7⟩)⟩
  have I8:Inv X pins σ7 H7 s7:=I7.pins_of λp hp=>I7.pin p (AAB _ (AAP _ hp))
  refine I8.turnedL (t':=s7.toks) (fp:=[(s2.heap.push (cq [] 0)).objs.size]) (λb hb=>?_) λb o hb e=>(sb.2 b (by simpa using hb)).trans e
  have:b=(s2.heap.push (cq [] 0)).objs.size:=by simpa using hb
  subst this;exact fk H7 p2
 exact codeAny_compStart_list loop (T.self _ 0 _ _ _ st3 loop)
def jq(nt:Nat)(js:List Nat)(di:DTI)(g:DTG)(tt:DTT)(te:DTE)(i:Nat):DTS:=λE S M=>dLC nt js di g tt te S M λd M1=>ar i d S M1 E.nx
def AU(B:BlkSc X N' nt js scope)(hc:X.calm=true)(hi:DI X tg iter di)
  (hg:∀cl s0 H0 ex,DG (blk X N' scope cl s0 H0 ex) tg g) (ht:∀cl s0 H0 ex,PTs (blk X N' scope cl s0 H0 ex) ifs (lowT X.K tt)) (he:∀cl s0 H0 ex,DE (blk X N' scope cl s0 H0 ex) elt te) (hn:DG X (.Name x pos') (ar i))
  (hs:∀x,foldedSetIterable iter X.env x=pure x) (hsw:swapsWith (.ListComp elt [⟨tg,iter,ifs,0⟩] scope pos) (some (.Name x pos')) pos2.line X.env=pure true) :
  DS X (.Assign [.Name x pos'] (.ListComp elt [⟨tg,iter,ifs,0⟩] scope pos) pos2) (jq nt js di g tt te i) :=
 PS.imp (zX (g:=lowG X.K g) (tt:=lowT X.K tt) (te:=lowE X.K te) B hc hi (λcl s0 H0 ex=>hg cl s0 H0 ex) ht (λcl s0 H0 ex=>he cl s0 H0 ex) hn hs hsw) λE σ H ⟨S,M,ρ,F,s,sr,q,k⟩ =>
  xV σ H _ ⟨S,M,ρ,_,s,sr,q,λv H1 ⟨d,M1,ρ1,s1,g1,r1,q1⟩=>⟨d,S,M1,ρ1,_,s1,sr.grow g1,r1,q1,λσ' H' w=>k.nx σ' H' (SQ.trans g1 w)⟩⟩
def AA(hN:X.N.Nodup)(hi:HI X tg iter di)
  (hg:∀cl s0 H0 ex,HG (blk X N' scope cl s0 H0 ex) tg g) (ht:∀cl s0 H0 ex,HTs (blk X N' scope cl s0 H0 ex) ifs tt) (he:∀cl s0 H0 ex,HE (blk X N' scope cl s0 H0 ex) elt te) (B:ng X.env.scope.names X.N N' nt js scope=true:=by kernel_rfl) (hc:X.calm=true:=by kernel_rfl)
  (hs:∀x,foldedSetIterable iter X.env x=pure x:=by intro _;kernel_rfl) (hsw:swapsWith (.ListComp elt [⟨tg,iter,ifs,0⟩] scope pos) (some (.Name x pos')) pos2.line X.env=pure true:=by kernel_rfl)
  (hix:X.N[i]?=some x:=by kernel_rfl) (hx:EU X.env.scope x=true:=by kernel_rfl) (hf:X.fn x=true:=by kernel_rfl):HS X (.Assign [.Name x pos'] (.ListComp elt [⟨tg,iter,ifs,0⟩] scope pos) pos2) (jq nt js di g tt te i) :=
 ⟨AU (BlkSc.chk B) hc hi.ok (λcl s0 H0 ex=>(hg cl s0 H0 ex).ok) (λcl s0 H0 ex=>(ht cl s0 H0 ex).ok) (λcl s0 H0 ex=>(he cl s0 H0 ex).ok) (sT hN hix (xX hx) (.inl hf)) hs hsw⟩
end
def at0:atI (a::r) 0=some a:=by
 have:=ay (xs:=a::r) (j:=0) (v:=a) rfl;simpa using this
def at1:atI (a::b::r) 1=some b:=by
 have:=ay (xs:=a::b::r) (j:=1) (v:=b) rfl;simpa using this
def at2:atI (a::b::c::r) 2=some c:=by
 have:=ay (xs:=a::b::c::r) (j:=2) (v:=c) rfl;simpa using this
def bI.lst(h:R (.ref M.length) (M++[.lst xs]))(hn:M.length<=n)(e:(M++L)[n]?=some (.lst xs))(b:Bels M.length xs):bI M R (.ref n) (M++L) :=
 .inr (.inr ⟨M,n,xs,.refl,rfl,hn,e,AAl _ _,b,h⟩)
def bI.chg(c:Chg M M1)(h:R d M1)(b:Bel M.length d)(p:M1 <+: M'):bI M R d M':=.inr (.inl ⟨M1,c,b,p,h⟩)
def bI.chgL(c:Chg M M1)(h:R (.ref M.length) (M1++[.lst xs]))(hn:M.length<=n)(e:M'[n]?=some (.lst xs))(p:M1 <+: M')(b:Bels M.length xs):bI M R (.ref n) M':=.inr (.inr ⟨M1,n,xs,c,rfl,hn,e,p,b,h⟩)
def nJ:(M++a::L).set M.length b=M++b::L:=by
 rw[AEG _ _ (AA8 _)];simp
def iX:(M++a::L)[M.length]?=some a:=by simp
def oR(I:List D->List D->SD->Mem->Prop)(h0:∀acc S M,I [] acc S M->ok M/\Q (.ref M.length) (M++[.lst acc]))
  (h1:∀x xs acc S M,I (x::xs) acc S M->∀K:List D->SD->Mem->Prop,(∀acc S M,I xs acc S M->K acc S M)->ok M/\g x S M λS2 M2=>tt S2 M2 λb M3=>if b=true then te S2 M3 λy M4=>acc.length<sizeLine/\K (acc++[y]) S2 M4 else K acc S2 M3) :
  ∀xs acc S M,I xs acc S M->lX ok g tt te Q xs acc S M
 | [],acc,S,M,h=>h0 acc S M h
 | x::xs,acc,S,M,h=>h1 x xs acc S M h _ (oR I h0 h1 xs)
def unS:D->Str
 | .str x=>x
 | _=>Str.empty
theorem qc{ys:List D}{ks:List Str}(h:ys.Perm (ks.map D.str)):∃ns:List Str,ys=ns.map D.str/\ns.Perm ks:=by
 refine⟨ys.map unS,?_,?_⟩
 ·rw[AAt]
  have:∀y∈ys,(D.str ∘ unS) y=y:=λy hy=>by
   obtain⟨x,_,rfl⟩:=AAK.mp (h.mem_iff.mp hy);rfl
  exact(AC7 this ▸ (List.map_id' ys).symm:ys=ys.map (D.str ∘ unS))
 ·have:=h.map unS
  rw[AAt]at this;have e:(unS ∘ D.str)=id:=rfl
  rwa [e,ACu]at this
def zU:(xz kvs k d).length<=kvs.length+1/\1<=(xz kvs k d).length:=by
 unfold xz;by_cases q:(kvs.any λp=>decide (p.1=k))=true
 ·rw[if_pos q,AA4]
  obtain⟨p,hp,_⟩:=AD0.mp q;have:0<kvs.length:=List.length_pos_of_mem hp;lia
 ·rw[if_neg q,AAA,AAb]
  lia
def uL:(M++a::b::L)[M.length+1]?=some b:=by
 rw[AAe (by lia),show M.length+1-M.length=1 by lia];rfl
theorem Aa{α:Type}(f:α->D)(g:D->α)(hg:∀a,g (f a)=a){ys:List D}{l:List α}(h:ys.Perm (l.map f)):∃l':List α,ys=l'.map f/\l'.Perm l:=by
 refine⟨ys.map g,?_,?_⟩
 ·rw[AAt]
  have:∀y∈ys,(f ∘ g) y=y:=λy hy=>by
   obtain⟨x,_,rfl⟩:=AAK.mp (h.mem_iff.mp hy);show f (g (f x))=f x;rw[hg]
  exact(AC7 this ▸ (List.map_id' ys).symm:ys=ys.map (f ∘ g))
 ·have:=h.map g
  rw[AAt]at this;have e:(g ∘ f)=id:=funext hg
  rwa [e,ACu]at this
section
variable{prog:Program}{w:World}{A:Around}{E:Value->Shared->Prop}{s:Shared}
def aV(w:World):Obj:={ cls:=.type "set",dict:=none,data:=.set #[] 0 (.fresh 0 0 (!w.params.followText "set-order")) }
def sW(a:Value)(h:Q₁ (.ref s.heap.objs.size) { s with heap:=s.heap.push (aV w) }) :
  codeAny (model prog w) A (.call (.builtin "set.__new__") ⟨[.type "set",a],[]⟩) (wants Q₁ E) s:=by
 refine codeAny_of_tree (show wpAny (model prog w) A.in1 (do checkBuiltinCall "set.__new__" ⟨[.type "set",a],[]⟩;again (.builtin "set.__new__" ⟨[.type "set",a],[]⟩)) _ _ s from ?_)
 refine AA0 (wpAny_of_eq (F.newCall_set_1 a) (AA2 ⟨ACa F.plain_set_new _,ABX F.entry_set_new ?_⟩));rw[ABS F.plain_set_new _];have hsub:=sub_set_self;obtain⟨hp,g,d,tk,os⟩:=s;unfold Builtin.«set.__new__» Builtin.Frozenset.newClass;dsimp only
 wp_walk
 refine ACY (AA2 ?_);simp only[newObj];exact AA0 (wpAny_alloc (AA2 (AA2 h)))
end
structure TxSrc(prog:Program)(w:World)(h:Heap)(l:Addr)(T:String)(n:Nat)(P:Nat->Value->Prop):Prop where
 obj:∃o,h.get? l=some o/\o.cls=.type T
 ns:isSubtype (.type T) (.type "set")=pure false
 nf:isSubtype (.type T) (.type "frozenset")=pure false
 nd:(ADe T==ADe "dict")=false
 iter:∀(A:Around) (s':Shared),A.handled=none->(∀o,h.get? l=some o->s'.heap.get? l=some o)->∃(oI:Obj) (St:Nat->Heap->Prop),
  (∀(E:Value->Shared->Prop) (Q:Value->Shared->Prop),Q (.ref s'.heap.objs.size) { s' with heap:=s'.heap.push oI }->wpAny (model prog w) A (pyIter (.ref l)) Q E s') /\
  Walks prog w A s'.heap.objs.size [s'.heap.objs.size,l] [s'.heap.objs.size] n P St/\St 0 (s'.heap.push oI)
def rY:isSubtype (.type "tuple") (.type "set")=pure false:=by rw[isSubtype_type];kernel_rfl
def pQ:isSubtype (.type "tuple") (.type "frozenset")=pure false:=by rw[isSubtype_type];kernel_rfl
def TxSrc.list(hl:h.IsList l its):TxSrc prog w h l "list" its.size (λi v=>its[i]?=some v):=by
 refine⟨let ⟨o,e,c,_⟩:=hl;⟨o,e,c⟩,F.sub_list_set,F.sub_list_frozenset,by decide,λA s' hh hk=>?_⟩
 have hl':s'.heap.IsList l its:=hl.at hk;have lt:l<s'.heap.objs.size:=let ⟨o,e,_⟩:=hl';AAG e
 exact⟨_,_,λE Q q=>wpAny_pyIter_list hl' q,Walks.list hh _ l (AAO lt) its,⟨_,AAC _ rfl,rfl,rfl⟩,hl'.push _⟩
def TxSrc.tuple(hl:h.IsTuple l its):TxSrc prog w h l "tuple" its.size (λi v=>its[i]?=some v):=by
 refine⟨let ⟨o,e,c,_⟩:=hl;⟨o,e,c⟩,rY,pQ,by decide,λA s' hh hk=>?_⟩
 have hl':s'.heap.IsTuple l its:=let ⟨o,e,r⟩:=hl;⟨o,hk o e,r⟩
 have lt:l<s'.heap.objs.size:=let ⟨o,e,_⟩:=hl';AAG e
 exact⟨_,_,λE Q q=>wpAny_pyIter_tuple hl' q,Walks.tuple hh _ l (AAO lt) its,⟨_,AAC _ rfl,rfl,rfl⟩,let ⟨o,e,r⟩:=hl';⟨o,AA3 _ e,r⟩⟩
def aW:Slot "set_iterator" "__next__" "set_iterator.__next__" :=
 .of (owner:="set_iterator") (n:="__next__") (by rw[ADt,ACb];kernel_rfl) (by decide +kernel) (by decide +kernel) (by decide +kernel) (by first | exact .inl (by decide +kernel) | exact .inr (by decide +kernel)) (by rw[isSubtype_type];kernel_rfl)
def dR:entryFor table "set_iterator.__next__" = some Builtin.«set_iterator.__next__»:=entryFor_of_tree (by kernel_rfl)
def kJ:Manifest.owners.lookup (String.ofList ['r','o','t','a','r','e','t','i','_','t','e','s'].reverse)=some Manifest.sig_set_iterator:=by kernel_rfl
theorem fR(a:Value):argsOk "set_iterator.__next__" ⟨[a],[]⟩:=by
 unfold argsOk;rw[signature?_of (id:="set_iterator.__next__") (n:=['_','_','t','x','e','n','_','_']) (o:=['r','o','t','a','r','e','t','i','_','t','e','s']) (by kernel_rfl) kJ];kernel_rfl
def oN:entryFor table "set.__iter__" = some Builtin.«frozenset.__iter__»:=entryFor_alias (id':="frozenset.__iter__") (by kernel_rfl) rfl (by decide +kernel) (by kernel_rfl)
def iY{α:Type}:∀(l:List α) (i:Nat) (h:i<l.length),(l[i]::l.eraseIdx i).Perm l
 | x::l,0,_=>AD3 _
 | x::l,i+1,h=>by
  have h':i<l.length:=by simpa using h
  exact(List.Perm.swap x l[i] (l.eraseIdx i)).trans (AEf x (iY l i h'))
def wk(hn:n≠0)(h:∀i d,i<n->Q i { s with drawn:=d }):wpAny M A (choose src n) Q E s:=by
 intro Γ p hΓ;show Sem.wp M Γ (Sem.choose src n λi=>Sem.pure i) _ _ p s
 rw[Sem.wp_choose];refine⟨hn,?_⟩;rw[Sem.wp_pure];exact h _ _ (Nat.mod_lt _ (Nat.pos_of_ne_zero hn))
def qX{α:Type}{M:Model}{A:Around}{E:Value->Shared->Prop}:∀(n:Nat) (xs:List α) (s:Shared) (Q:List α->Shared->Prop),xs.length=n->(∀ys d,ys.Perm xs->Q ys { s with drawn:=d })->wpAny M A (drawOrder n xs) Q E s
 | 0,xs,s,Q,e,h=>by
  cases xs with
  | nil=>exact AA2 (h [] s.drawn (AD3 _))
  | cons _ _=>cases e
 | n+1,[],s,Q,e,h=>by cases e
 | n+1,x::xs,s,Q,e,h=>by
  unfold drawOrder;refine AA0 (wk (by simp) λi d hi=>?_)
  rw[AA5 hi];refine AA0 (qX n ((x::xs).eraseIdx i) { s with drawn:=d } _ (by rw[List.length_eraseIdx_of_lt hi];simp at e ⊢;lia) λys d' hp=>AA2 (h _ d' ?_))
  exact(AEf _ hp).trans (iY _ i hi)
def kD{α:Type}(next:Nat->Nat)(xs:Array α):(pickOrder next xs).toList.Perm xs.toList:=by
 have go:∀(fuel k:Nat) (left:List α) (out:Array α),left.length=fuel->(pickOrder.go next fuel k left out).toList.Perm (out.toList++left):=by
  intro fuel;induction fuel with
  | zero =>
   intro k left out e;cases left with
   | nil=>simp[pickOrder.go]
   | cons _ _=>cases e
  | succ n ih =>
   intro k left out e;have hi:next k % left.length<left.length:=Nat.mod_lt _ (by lia)
   unfold pickOrder.go;rw[AA5 hi];dsimp only;refine(ih (k+1) _ _ (by rw[List.length_eraseIdx_of_lt hi];lia)).trans ?_
   rw[ADP,AAk];exact List.Perm.append_left _ (iY _ _ hi)
 have:=go xs.size 0 xs.toList #[] (by simp)
 simpa [pickOrder]using this
def dN(first:Value)(i n:Nat)(a:Addr)(ep:Nat):Obj:={ cls:=.type "set_iterator",data:=.fields #[first,rawInt i,.ref a,rawInt n,rawInt ep] }
structure SetAt(h:Heap)(a:Addr)(o:Obj)(es:Array (Int×Value))(ep:Nat)(t:SetTable):Prop where
 ob:h.get? a=some o
 dt:o.data=.set es ep t
 ft:t.fits es.size=true
section
variable{prog:Program}{w:World}{A:Around}{E:Value->Shared->Prop}{s:Shared}{a it:Addr}{o:Obj}{es:Array (Int×Value)}{ep:Nat}{t:SetTable}
def mH(hh:A.handled=none)(h:∀h' e,(∀b o,s.heap.get? b=some o->h'.get? b=some o)->(∃o,h'.get? e=some o/\o.cls=.type "StopIteration")->F (.ref e) { s with heap:=h' }) :
  wpAny (model prog w) A (do raiseNew (<-newExc (.type "StopIteration") []):Sem Fin) Q F s:=by
 refine AA0 ?_
 simp only[newExc,newTuple];refine AA0 (AAr (AA0 (m:=firstArgMember _ _) (wpAny_of_eq (a:=ABj) (by first | rfl | (simp only[firstArgMember];rfl)) (AAr ?_ (by size_fits)))) (by size_fits))
 simp only[raiseNew];refine AA0 (wpAny_handled ?_);rw[hh];exact AA0 (AA2 (wpAny_throw (h _ _ (λb o e=>AA3 _ (AA3 _ e)) ⟨_,AAC _ rfl,rfl⟩)))
def kO{slot i next:Nat}{x:Value}{Q:Option Value->Shared->Prop}(hI:s.heap.get? it=some (dN (rawInt slot) i es.size a ep))(S:SetAt s.heap a o es ep t)
  (hn:∀(A:Around) (E:Value->Shared->Prop) (Q:Option (Value×Nat)->Shared->Prop),Q (some (x,next)) s->wpAny (model prog w) A (setNext a slot i ep) Q E s)
  (hQ:∀h',h'.get? it=some (dN (rawInt next) (i+1) es.size a ep)->ABx it s.heap h'->Q (some x) { s with heap:=h' }):wpAny (model prog w) A (pyNext (.ref it)) Q E s:=by
 have hT:s.TypeIs (.ref it) "set_iterator":=⟨_,hI,rfl⟩;unfold pyNext;refine AA0 (ACc (AAq (name:=AA1 "__next__") hT aW (AAp aW hT dR ?_ (fR _))));unfold Builtin.«set_iterator.__next__»;refine AA0 (AA2 (AA0 (ABg hI rfl ?_)));dsimp only [dN,rawInt];refine AA0 (ACv S.ob S.dt S.ft ?_);rw[if_neg (by simp)]
 refine AA0 (hn _ _ _ ?_);dsimp only;refine AA0 (ACC hI rfl (by simp) (AA0 (ACC (AAf _ hI rfl) rfl (by simp) (AA2 ⟨x,rfl,AA2 (hQ _ ?_ ((AAo ..).trans (AAo ..)))⟩))))
 refine(AAf _ (AAf _ hI rfl) rfl).trans ?_
 simp[dN,ADQ,rawInt]
def dI{slot i:Nat}{Q:Option Value->Shared->Prop}(hh:A.handled=none)(hI:s.heap.get? it=some (dN (rawInt slot) i es.size a ep))(S:SetAt s.heap a o es ep t)
  (hn:∀(A:Around) (E:Value->Shared->Prop) (Q:Option (Value×Nat)->Shared->Prop),Q none s->wpAny (model prog w) A (setNext a slot i ep) Q E s)
  (hQ:∀h',(∀b o,b≠it->s.heap.get? b=some o->h'.get? b=some o)->Q none { s with heap:=h' }):wpAny (model prog w) A (pyNext (.ref it)) Q E s:=by
 have hT:s.TypeIs (.ref it) "set_iterator":=⟨_,hI,rfl⟩;unfold pyNext;refine AA0 (ACc (AAq (name:=AA1 "__next__") hT aW (AAp aW hT dR ?_ (fR _))));unfold Builtin.«set_iterator.__next__»;refine AA0 (AA2 (AA0 (ABg hI rfl ?_)));dsimp only [dN,rawInt];refine AA0 (ACv S.ob S.dt S.ft ?_);rw[if_neg (by simp)]
 refine AA0 (hn _ _ _ ?_);dsimp only;refine AA0 (ACC hI rfl (by simp) ?_)
 refine mH (by simp[hh]) λh' e hk ⟨oe,he,hc⟩=>?_
 refine AA0 (ACZ (T:="StopIteration") (b:=true) ⟨oe,he,hc⟩ isSubtype_stop (AA2 (hQ h' λb ob hb eb=>hk b ob ?_)))
 exact((AAo ..).2 b hb).trans eb
def vK{tt:Addr}{ps:List Nat}{i j:Nat}{e:Int×Value}{Q:Option Value->Shared->Prop}(hI:s.heap.get? it=some (dN (.ref tt) i es.size a ep))(hP:s.heap.IsTuple tt (ps.map λ(k:Nat)=>rawInt k).toArray)(S:SetAt s.heap a o es ep t)
  (hj:ps[i]?=some j) (he:es[j]?=some e) (hQ:∀h',h'.get? it=some (dN (.ref tt) (i+1) es.size a ep)->ABx it s.heap h'->Q (some e.2) { s with heap:=h' }):wpAny (model prog w) A (pyNext (.ref it)) Q E s:=by
 have hT:s.TypeIs (.ref it) "set_iterator":=⟨_,hI,rfl⟩;obtain⟨ot,hot,_,nt,hdt⟩:=hP;unfold pyNext;refine AA0 (ACc (AAq (name:=AA1 "__next__") hT aW (AAp aW hT dR ?_ (fR _))));unfold Builtin.«set_iterator.__next__»;refine AA0 (AA2 (AA0 (ABg hI rfl ?_)));dsimp only [dN,rawInt];refine AA0 (ACv S.ob S.dt S.ft ?_);rw[if_neg (by simp)]
 refine AA0 (ACh hot hdt ?_);have hx:(ps.map λ(k:Nat)=>rawInt k).toArray[i]?=some (.int j 0):=by simp[hj,rawInt]
 simp only[ABa,hx];unfold setNextDrawn;refine AA0 (AA0 (ABK S.ob S.dt S.ft ?_));simp only[bne_self_eq_false,AAE,if_false,he];refine AA2 (AA0 (ACC hI rfl (by simp) (AA2 ⟨_,rfl,AA2 (hQ _ ?_ (AAo ..))⟩)))
 refine(AAf _ hI rfl).trans ?_
 simp[dN,ADQ,rawInt]
def lJ{tt:Addr}{ps:List Nat}{i:Nat}{Q:Option Value->Shared->Prop}(hh:A.handled=none)(hI:s.heap.get? it=some (dN (.ref tt) i es.size a ep))(hP:s.heap.IsTuple tt (ps.map λ(k:Nat)=>rawInt k).toArray)(S:SetAt s.heap a o es ep t)
  (hj:ps[i]?=none) (hQ:∀h',(∀b o,b≠it->s.heap.get? b=some o->h'.get? b=some o)->Q none { s with heap:=h' }):wpAny (model prog w) A (pyNext (.ref it)) Q E s:=by
 have hT:s.TypeIs (.ref it) "set_iterator":=⟨_,hI,rfl⟩;obtain⟨ot,hot,_,nt,hdt⟩:=hP;unfold pyNext;refine AA0 (ACc (AAq (name:=AA1 "__next__") hT aW (AAp aW hT dR ?_ (fR _))));unfold Builtin.«set_iterator.__next__»;refine AA0 (AA2 (AA0 (ABg hI rfl ?_)));dsimp only [dN,rawInt];refine AA0 (ACv S.ob S.dt S.ft ?_);rw[if_neg (by simp)]
 refine AA0 (ACh hot hdt ?_);have hx:(ps.map λ(k:Nat)=>rawInt k).toArray[i]?=none:=by simpa using hj
 simp only[ABa,hx];refine AA0 (ACC hI rfl (by simp) (AA0 (ACC (AAf _ hI rfl) rfl (by simp) ?_)))
 refine mH (by simp[hh]) λh' e hk ⟨oe,he,hc⟩=>?_
 refine AA0 (ACZ (T:="StopIteration") (b:=true) ⟨oe,he,hc⟩ isSubtype_stop (AA2 (hQ h' λb ob hb eb=>hk b ob ?_)))
 exact(((AAo ..).trans (AAo ..)).2 b hb).trans eb
end
end L2
namespace L2
def nodup_le{α:Type}[DecidableEq α]:∀(l xs:List α),l.Nodup->(∀x∈l,x∈xs)->l.length<=xs.length
 | [],xs,_,_=>AAX _
 | a::l,xs,nd,h=>by
  have ha:a∈xs:=h a AAI;have nd':=ABH.mp nd;have ih:=nodup_le l (xs.erase a) nd'.2 λx hx=>(List.mem_erase_of_ne (show x≠a from λz=>nd'.1 (by rw[<-z];exact hx))).mpr (h x (AA9 _ hx))
  rw[List.length_erase_of_mem ha]at ih;have:0<xs.length:=List.length_pos_of_mem ha;rw[AAN];lia
end L2
namespace Ht
open PySem
def adv(m:Nat)(p:ACi):ACi :=
 if p.more > 0 then { p with j:=p.j+1,more:=p.more-1 } else
 { p with j:=(ACd m p.i p.perturb).1,more:=AAz m (ACd m p.i p.perturb).1-(ACd m p.i p.perturb).1,i:=(ACd m p.i p.perturb).1,perturb:=(ACd m p.i p.perturb).2 }
def iO(m i pt:Nat):ACi:={ j:=i,more:=AAz m i-i,i,perturb:=pt,dummy:=none }
def kj(m:Nat)(p:ACi):Nat->ACi
 | 0=>p
 | n+1=>adv m (kj m p n)
def sq(m:Nat)(h:Int)(n:Nat):ACi:=kj m (iO m (ACD h % (m+1)) (ACD h)) n
def pS(m:Nat)(p:ACi)(a b:Nat):kj m p (a+b)=kj m (kj m p a) b:=by
 induction b with
 | zero=>rfl
 | succ b ih=>rw[Nat.add_succ,kj,ih];rfl
def Ft(m i:Nat):AAz m i-i<=9:=by
 unfold AAz;split<;>lia
def yG(m i pt:Nat):∀k,k<=AAz m i-i->kj m (iO m i pt) k={ j:=i+k,more:=AAz m i-i-k,i,perturb:=pt,dummy:=none }
 | 0,_=>by simp[kj,iO]
 | k+1,h=>by
  rw[kj,yG m i pt k (by lia)]
  unfold adv;rw[if_pos (show AAz m i-i-k > 0 by lia)]
  simp only[SetTable.Probe.mk.injEq,true_and,and_true];lia
def Al(m i pt:Nat):kj m (iO m i pt) (AAz m i-i+1)=iO m (ACd m i pt).1 (ACd m i pt).2:=by
 rw[kj,yG m i pt _ (AA8 _)];unfold adv;rw[if_neg (show ¬AAz m i-i-(AAz m i-i) > 0 by lia)]
 rfl
def dB(m:Nat)(h:Int):Nat->Nat×Nat
 | 0=>(ACD h % (m+1),ACD h)
 | k+1=>ACd m (dB m h k).1 (dB m h k).2
def dZ(m:Nat)(h:Int):Nat->Nat
 | 0=>0
 | k+1=>dZ m h k+(AAz m (dB m h k).1-(dB m h k).1+1)
def Bn(m:Nat)(h:Int)(k:Nat):dZ m h k<=10*k:=by
 induction k with
 | zero=>exact AA8 _
 | succ k ih=>have:=Ft m (dB m h k).1;unfold dZ;lia
def Bw(m:Nat)(h:Int)(k:Nat):sq m h (dZ m h k)=iO m (dB m h k).1 (dB m h k).2:=by
 induction k with
 | zero=>rfl
 | succ k ih =>
  unfold sq at ih ⊢;unfold dZ;rw[pS,ih,Al];rfl
def xo(m:Nat)(h:Int)(k r:Nat)(hr:r<=AAz m (dB m h k).1-(dB m h k).1):(sq m h (dZ m h k+r)).j=(dB m h k).1+r:=by
 have e:=Bw m h k;unfold sq at e ⊢;rw[pS,e,yG _ _ _ _ hr]
def EI(h:Int):ACD h<2 ^ 64:=by
 unfold ACD;have h0:=Int.emod_nonneg h (show (2 ^ 64:Int)≠0 by decide)
 have h1:=Int.emod_lt_of_pos h (show (0:Int)<2 ^ 64 by decide)
 lia
def mM(m:Nat)(h:Int):∀k,(dB m h k).2=ACD h / 32 ^ k
 | 0=>by simp[dB]
 | k+1=>by
  show (dB m h k).2 / 32=_;rw[mM m h k,Nat.div_div_eq_div_mul,<-Nat.pow_succ]
def qa(m:Nat)(h:Int)(k:Nat)(hk:13<=k):(dB m h k).2=0:=by
 rw[mM];apply Nat.div_eq_of_lt
 have h1:=EI h;have h2:32 ^ 13<=32 ^ k:=Nat.pow_le_pow_right (by decide) hk
 have h3:(2:Nat) ^ 64<32 ^ 13:=by decide
 lia
def tu(m i:Nat):Nat:=(i*5+1) % (m+1)
def bJ(m i:Nat):Nat->Nat
 | 0=>i
 | k+1=>tu m (bJ m i k)
def dw(m i a b:Nat):bJ m i (a+b)=bJ m (bJ m i a) b:=by
 induction b with
 | zero=>rfl
 | succ b ih=>rw[Nat.add_succ,bJ,ih];rfl
def sd(m:Nat)(h:Int)(r:Nat):(dB m h (13+r)).1=bJ m (dB m h 13).1 r:=by
 induction r with
 | zero=>rfl
 | succ r ih =>
  show (ACd m (dB m h (13+r)).1 (dB m h (13+r)).2).1=tu m (bJ m (dB m h 13).1 r);rw[qa m h _ (by lia),ih]
  rfl
def se(m:Nat)(h:Int):∀k,(dB m h k).1<=m
 | 0=>Nat.lt_succ_iff.mp (Nat.mod_lt _ (Nat.succ_pos _))
 | k+1=>Nat.lt_succ_iff.mp (Nat.mod_lt _ (Nat.succ_pos _))
def EX(m:Nat):Prop:=bJ m 0 (m+1)=0/\∀s,s<=m->∃k,k<=m/\bJ m 0 k=s
def ss(m:Nat):Nat->Nat->List Nat
 | 0,_=>[]
 | n+1,i=>i::ss m n (tu m i)
def kK(m:Nat):∀(n i k:Nat),k<n->(ss m n i)[k]?=some (bJ m i k)
 | 0,_,_,h=>absurd h (ABs _)
 | n+1,i,0,_=>rfl
 | n+1,i,k+1,h=>by
  rw[ss,ABb,kK m n (tu m i) k (by lia),<-show bJ m (bJ m i 1) k=bJ m i (k+1)from by rw[<-dw,Nat.add_comm]]
  rfl
def sP(m:Nat)(h:((ss m (m+2) 0)[m+1]?==some 0&&(AAu (m+1)).all λs=>(ss m (m+1) 0).contains s)=true):EX m:=by
 rw[AAY,beq_iff_eq,AAh]at h;refine⟨?_,λs hs=>?_⟩
 ·have:=kK m (m+2) 0 (m+1) (by lia)
  rw[h.1]at this;exact(AAR this).symm
 ·have:=h.2 s (AB2.mpr (by lia))
  rw[List.contains_iff_mem]at this;obtain⟨k,hk⟩:=AB9 this;have hl:k<m+1:=by
   have:=(AA7.mp hk).1;have len:∀n i,(ss m n i).length=n:=by
    intro n;induction n with
    | zero=>intro i;rfl
    | succ n ih=>intro i;simp[ss,ih]
   rw[len]at this;exact this
  rw[kK m _ 0 k hl]at hk;exact⟨k,by lia,AAR hk⟩
def full7:EX 7:=sP 7 (by decide +kernel)
def GY:EX 31:=sP 31 (by decide +kernel)
def Ec:EX 127:=sP 127 (by decide +kernel)
def yP(F:EX m)(hi:i<=m)(hs:s<=m):∃k,k<=m/\bJ m i k=s:=by
 obtain⟨a,ha,ea⟩:=F.2 i hi;obtain⟨b,hb,eb⟩:=F.2 s hs;by_cases h:a<=b
 ·refine⟨b-a,by lia,?_⟩
  rw[<-ea,<-dw,show a+(b-a)=b by lia];exact eb
 ·refine⟨m+1-a+b,by lia,?_⟩
  rw[<-ea,<-dw,show a+(m+1-a+b)=(m+1)+b by lia,dw,F.1];exact eb
def lZ(m:Nat):Prop:=m=7\/m=31\/m=127
def lZ.full(h:lZ m):EX m:=by
 rcases h with rfl | rfl | rfl
 ·exact full7
 ·exact GY
 ·exact Ec
def Cn(hm:lZ m)(h:Int)(hs:s<=m):∃k,k<=m+13/\(dB m h k).1=s:=by
 obtain⟨r,hr,e⟩:=yP hm.full (se m h 13) hs;exact⟨13+r,by lia,by rw[sd];exact e⟩
def CN(hm:lZ m)(h:Int)(hs:s<=m):∃n,n<10*(m+15)/\(sq m h n).j=s:=by
 obtain⟨k,hk,e⟩:=Cn hm h hs;refine⟨dZ m h k,by have:=Bn m h k;lia,?_⟩
 rw[Bw];exact e
def Fm(h:Int):∀n,∃k r,r<=AAz m (dB m h k).1-(dB m h k).1/\n=dZ m h k+r
 | 0=>⟨0,0,AAX _,rfl⟩
 | n+1=>by
  obtain⟨k,r,hr,e⟩:=Fm (m:=m) h n;by_cases q:r<AAz m (dB m h k).1-(dB m h k).1
  ·exact⟨k,r+1,q,by lia⟩
  ·exact⟨k+1,0,AAX _,by rw[dZ];lia⟩
def xn(h:Int)(n:Nat):(sq m h n).j<=m:=by
 obtain⟨k,r,hr,e⟩:=Fm (m:=m) h n;rw[e,xo m h k r hr];have:=se m h k;unfold AAz at hr;split at hr<;>lia
def below_spec(xs:Array Nat)(hr:xs.toList.Pairwise (· < ·))(j:Nat) :
  AAi xs j<=xs.size/\(∀k (h:k<xs.size),k<AAi xs j->xs[k]<j)/\∀k (h:k<xs.size),AAi xs j<=k->j<=xs[k]:=by
 have mono:∀a b (ha:a<xs.size) (hb:b<xs.size),a<b->xs[a]<xs[b]:=λa b ha hb h=>by
  have:=ACj.mp hr a b (by simpa using ha) (by simpa using hb) h
  simpa using this
 have go:∀(fuel lo hi:Nat),lo<=hi->hi<=xs.size->hi-lo<=fuel->(∀k (h:k<xs.size),k<lo->xs[k]<j)->(∀k (h:k<xs.size),hi<=k->j<=xs[k]) ->
   ACQ xs j fuel lo hi<=xs.size/\(∀k (h:k<xs.size),k<ACQ xs j fuel lo hi->xs[k]<j)/\∀k (h:k<xs.size),ACQ xs j fuel lo hi<=k->j<=xs[k]:=by
  intro fuel;induction fuel with
  | zero =>
   intro lo hi h1 h2 h3 h4 h5;have:lo=hi:=by lia
   subst this;exact⟨h2,h4,h5⟩
  | succ fuel ih =>
   intro lo hi h1 h2 h3 h4 h5;unfold ACQ;by_cases h:lo<hi
   ·rw[if_pos h]
    have hm:(lo+hi) / 2<xs.size:=by lia
    have eg:xs.getD ((lo+hi) / 2) j=xs[(lo+hi) / 2]:=by simp[ACV,hm]
    simp only[eg];by_cases q:xs[(lo+hi) / 2]<j
    ·rw[if_pos q]
     refine ih _ _ (by lia) h2 (by lia) (λk hk hlt=>?_) h5
     rcases ABd k ((lo+hi) / 2)with z | z
     ·exact Nat.lt_trans (mono k _ hk hm z) q
     ·have:k=(lo+hi) / 2:=by lia
      subst this;exact q
    ·rw[if_neg q]
     refine ih _ _ (by lia) (by lia) (by lia) h4 λk hk hle=>?_
     rcases ABd ((lo+hi) / 2) k with z | z
     ·exact AB3 (ADK.mp q) (ACN (mono _ k hm hk z))
     ·have:k=(lo+hi) / 2:=by lia
      subst this;exact ADK.mp q
   ·rw[if_neg h]
    have:lo=hi:=by lia
    subst this;exact⟨h2,h4,h5⟩
 exact go xs.size 0 xs.size (AAX _) (AA8 _) (by lia) (λk _ h=>absurd h (ABs _)) λk h h'=>absurd h (ADK.mpr h')
def below_at(hr:xs.toList.Pairwise (· < ·))(h:xs[i]?=some j):AAi xs j=i:=by
 obtain⟨hi,e⟩:=AAw.mp h;obtain⟨b1,b2,b3⟩:=below_spec xs hr j;have mono:∀a b (ha:a<xs.size) (hb:b<xs.size),a<b->xs[a]<xs[b]:=λa b ha hb h=>by
  have:=ACj.mp hr a b (by simpa using ha) (by simpa using hb) h
  simpa using this
 rcases ADM (AAi xs j) i with q | q | q
 ·have hb:AAi xs j<xs.size:=by lia
  have:=b3 _ hb (AA8 _);have:=mono _ i hb hi q;lia
 ·exact q
 ·have:=b2 i hi q
  lia
def slot_live{t:SetTable}(hr:t.place.toList.Pairwise (· < ·)){i j:Nat}(h:t.place[i]?=some j):t.slot j=.live i:=by
 unfold SetTable.slot;simp only[below_at hr h];rw[if_pos (by rw[h];simp)]
def vB{t:SetTable}(hd:t.dummies = #[]){j:Nat}(h:j∉t.place.toList):t.slot j=.empty:=by
 unfold SetTable.slot;have e1:¬(t.place[AAi t.place j]?==some j)=true:=λz=>h (by
  rw[beq_iff_eq]at z;have:=Array.mem_of_getElem? z;simpa using this)
 have e2:SetTable.has t.dummies j=false:=by rw[hd];rfl
 simp only[e1,if_false,e2,AAE]
def go_spec{t:SetTable}(hr:t.place.toList.Pairwise (· < ·))(hd:t.dummies = #[])(hashAt:Nat->Int)(h:Int):∀(fuel n N:Nat),n<=N->N<n+fuel->(sq t.mask h N).j∉t.place.toList->(∀k,n<=k->k<N->(sq t.mask h k).j∈t.place.toList) ->
  (∀k,(sq t.mask h k).dummy=none) ->
  ((∀k i,n<=k->k<N->t.place[i]?=some (sq t.mask h k).j->hashAt i≠h)/\AEi t hashAt h fuel (sq t.mask h n)=some (.empty (sq t.mask h N).j none)) \/
  ∃n' i,n<=n'/\n' < N/\t.place[i]?=some (sq t.mask h n').j/\hashAt i=h/\(∀k i,n<=k->k<n'->t.place[i]?=some (sq t.mask h k).j->hashAt i≠h)/\AEi t hashAt h fuel (sq t.mask h n)=some (.candidate (sq t.mask h n').j i (sq t.mask h (n'+1))):=by
 intro fuel;induction fuel with
 | zero=>intro n N h1 h2;lia
 | succ fuel ih =>
  intro n N h1 h2 h3 h4 h5;unfold AEi;by_cases e:n=N
  ·subst e
   rw[vB hd h3];exact .inl ⟨λk i a b=>by lia,by rw[h5]⟩
  ·have hm:=h4 n (AA8 _) (by lia)
   obtain⟨i,hi⟩:=AB9 hm;have hi':t.place[i]?=some (sq t.mask h n).j:=by rw[<-AAS];exact hi
   rw[slot_live hr hi'];dsimp only;have uq:∀i',t.place[i']?=some (sq t.mask h n).j->i'=i:=λi' z=>by rw[<-below_at hr z,below_at hr hi']
   by_cases q:hashAt i=h
   ·simp only[beq_iff_eq,q,if_true]
    exact .inr ⟨n,i,AA8 _,by lia,hi',q,λk i a b=>by lia,rfl⟩
   ·simp only[beq_iff_eq,q,if_false]
    rcases ih (n+1) N (by lia) (by lia) h3 (λk a b=>h4 k (by lia) b) h5 with⟨z1,z2⟩|⟨n',i',a1,a2,a3,a4,a5,a6⟩
    ·refine .inl ⟨λk i' a b c=>?_,z2⟩
     rcases ABd n k with z | z
     ·exact z1 k i' z b c
     ·have:k=n:=by lia
      subst this;rw[uq i' c];exact q
    ·refine .inr ⟨n',i',by lia,a2,a3,a4,λk i'' a b c=>?_,a6⟩
     rcases ABd n k with z | z
     ·exact a5 k i'' z b c
     ·have:k=n:=by lia
      subst this;rw[uq i'' c];exact q
def sq_dummy(m:Nat)(h:Int):∀n,(sq m h n).dummy=none
 | 0=>rfl
 | n+1=>by
  show (adv m (sq m h n)).dummy=none;unfold adv;split
  ·exact sq_dummy m h n
  ·exact sq_dummy m h n
structure TOk(t:SetTable)(hs:List Int):Prop where
 msk:lZ t.mask
 len:t.place.size=hs.length
 nod:t.dummies = #[]
 ris:t.place.toList.Pairwise (· < ·)
 rng:∀j∈t.place.toList,j<=t.mask
 few:t.place.size*5<t.mask*3
 path:∀(i:Nat) (h:Int) (j:Nat),hs[i]?=some h->t.place[i]?=some j->∃n,(sq t.mask h n).j=j/\∀n',n' < n->(sq t.mask h n').j∈t.place.toList
def yN{m:Nat}{l:List Nat}(hn:l.Nodup)(hr:∀j∈l,j<=m)(hl:l.length<=m):∃j,j<=m/\j∉l:=by
 refine AB4 λhc=>?_
 have all:∀j∈AAu (m+1),j∈l:=λj hj=>AB4 λhj'=>hc ⟨j,by have:=AB2.mp hj;lia,hj'⟩
 have:=L2.nodup_le (AAu (m+1)) l List.nodup_range all;rw[ACR]at this;lia
def sQ{m:Nat}(hm:lZ m){l:List Nat}(hn:l.Nodup)(hr:∀j∈l,j<=m)(hl:l.length<=m)(h:Int):∃N,N<10*(m+15)/\(sq m h N).j∉l/\∀k,k<N->(sq m h k).j∈l:=by
 obtain⟨s,hs,hs'⟩:=yN hn hr hl;obtain⟨n,hn1,hn2⟩:=CN hm h hs;have:∀b n,n<b->(sq m h n).j∉l->∃N,N<=n/\(sq m h N).j∉l/\∀k,k<N->(sq m h k).j∈l:=by
  intro b;induction b with
  | zero=>intro n h;lia
  | succ b ih =>
   intro n hb hq;by_cases q:∀k,k<n->(sq m h k).j∈l
   ·exact⟨n,AA8 _,hq,q⟩
   ·have:∃k,k<n/\(sq m h k).j∉l:=AB4 λz=>q λk hk=>AB4 λz'=>z ⟨k,hk,z'⟩
    obtain⟨k,hk,hk'⟩:=this;obtain⟨N,a1,a2,a3⟩:=ih k (by lia) hk'
    exact⟨N,by lia,a2,a3⟩
 obtain⟨N,a1,a2,a3⟩:=this (n+1) n (AB0 _) (by rw[hn2];exact hs')
 exact⟨N,by lia,a2,a3⟩
def TOk.empty{t:SetTable}{hs:List Int}(T:TOk t hs)(h:Int):∃N,N<10*(t.mask+15)/\(sq t.mask h N).j∉t.place.toList/\∀k,k<N->(sq t.mask h k).j∈t.place.toList:=by
 refine sQ T.msk (T.ris.imp λh=>AAO h) T.rng ?_ h
 have:=T.few;rw[AAL];rcases T.msk with e | e | e<;>lia
def xy{t:SetTable}(hr:t.place.toList.Pairwise (· < ·)){j:Nat}(hj:j∉t.place.toList) :
  (t.put j).1.place.toList=t.place.toList.take (AAi t.place j)++j::t.place.toList.drop (AAi t.place j)/\(t.put j).1.place.toList.Pairwise (· < ·):=by
 obtain⟨b1,b2,b3⟩:=below_spec t.place hr j;have e:(t.put j).1.place.toList=t.place.toList.take (AAi t.place j)++j::t.place.toList.drop (AAi t.place j):=by
  show (AE5 t.place (AAi t.place j) j).toList=_;rw[SetTable.toList_insertAt]
 refine⟨e,?_⟩;rw[e,List.pairwise_append];refine⟨hr.sublist (AE3 ..),ADu.mpr ⟨λx hx=>?_,hr.sublist (List.drop_sublist ..)⟩,λx hx y hy=>?_⟩
 ·obtain⟨k,hk⟩:=AB9 hx
  rw[ADA]at hk;have hk':t.place[AAi t.place j+k]?=some x:=by rw[<-AAS];exact hk
  obtain⟨hl,ex⟩:=AAw.mp hk';have:=b3 _ hl (ADb _ _);rw[ex]at this;rcases ABd j x with z | z
  ·exact z
  ·have:x=j:=by lia
   subst this;exact absurd (List.mem_of_mem_drop hx) hj
 ·obtain⟨k,hk⟩:=AB9 hx
  rw[ADv]at hk;split at hk
  ·rename_i hkl
   have hk':t.place[k]?=some x:=by rw[<-AAS];exact hk
   obtain⟨hl,ex⟩:=AAw.mp hk';have h1:=b2 k hl hkl;rw[ex]at h1;rcases AAJ.mp hy with rfl | hy
   ·exact h1
   ·obtain⟨k2,hk2⟩:=AB9 hy
    rw[ADA]at hk2;have hk2':t.place[AAi t.place j+k2]?=some y:=by rw[<-AAS];exact hk2
    obtain⟨hl2,ey⟩:=AAw.mp hk2';have:=b3 _ hl2 (ADb _ _);rw[ey]at this;lia
  ·cases hk
end Ht
namespace L2
open PySem PySem.Spec PyProof.Rows DL PySem.W
def eW:Slot "set_iterator" "__iter__" "set_iterator.__iter__" :=
 .of (owner:="set_iterator") (n:="__iter__") (by rw[ADt,ACb];kernel_rfl) (by decide +kernel) (by decide +kernel) (by decide +kernel) (by first | exact .inl (by decide +kernel) | exact .inr (by decide +kernel)) (by rw[isSubtype_type];kernel_rfl)
def jz:entryFor table "set_iterator.__iter__" = some Builtin.«dict_keyiterator.__iter__»:=entryFor_alias (id':="dict_keyiterator.__iter__") (by kernel_rfl) rfl (by decide +kernel) (by kernel_rfl)
theorem lC(a:Value):argsOk "set_iterator.__iter__" ⟨[a],[]⟩:=by
 unfold argsOk;rw[signature?_of (id:="set_iterator.__iter__") (n:=['_','_','r','e','t','i','_','_']) (o:=['r','o','t','a','r','e','t','i','_','t','e','s']) (by kernel_rfl) kJ];kernel_rfl
section
variable{prog:Program}{w:World}{A:Around}{E:Value->Shared->Prop}{s:Shared}{a it:Addr}{o:Obj}{es:Array (Int×Value)}{ep:Nat}{t:SetTable}
def fJ(hI:s.heap.get? it=some (dN first i n a ep))(h:Q (.ref it) s):wpAny (model prog w) A (pyIter (.ref it)) Q E s:=by
 have hT:s.TypeIs (.ref it) "set_iterator":=⟨_,hI,rfl⟩;refine AE6 hT eW (AAp eW hT jz (show wpAny _ _ (ret (.ref it)) _ _ s from ?_) (lC _));exact AA2 ⟨_,rfl,"set_iterator",_,hT,aW.lookup,h⟩
def SetAt.at(S:SetAt h a o es ep t)(k:∀o,h.get? a=some o->h'.get? a=some o):SetAt h' a o es ep t:=⟨k _ S.ob,S.dt,S.ft⟩
def jh(hb:w.params.followText "set-order" = true)(S:SetAt s.heap a o es ep t)(h:Q (((pickOrder (w.params.setOrder a ep) es)[i]?).map λe=>(e.2,0)) s) :
  wpAny (model prog w) A (setNext a 0 i ep) Q E s:=by
 unfold setNext;refine AA0 (ABK S.ob S.dt S.ft ?_);unfold setsByText;refine AA0 (AA0 (ACY (AA2 ?_)));simp only[model,hb,if_true,bne_self_eq_false,AAE,if_false];unfold setWalk;refine AA0 (AA0 (ABK S.ob S.dt S.ft ?_));unfold setsByText;refine AA0 (AA0 (ACY (AA2 ?_)));simp only[model,hb,if_true];exact AA0 (ACY (AA2 (AA2 h)))
def vc(hb:w.params.followText "set-order" = true)(hh:A.handled=none)(hne:a≠it) :
  Walks prog w A it [it,a] [it] es.size (λi v=>((pickOrder (w.params.setOrder a ep) es).toList.map (·.2))[i]?=some v) (λi h=>h.get? it=some (dN (rawInt 0) i es.size a ep)/\SetAt h a o es ep t) where
 sub:=λb hb=>by simp at hb;simp[hb]
 frame:=λ_ _ _ st hk=>⟨hk it (by simp) _ st.1,st.2.at λo e=>hk a (by simp) o e⟩
 item:=λi s Q E hi st hQ=>by
  have hl:(pickOrder (w.params.setOrder a ep) es).size=es.size:=by have:=(kD (w.params.setOrder a ep) es).length_eq;simpa using this
  obtain⟨e,he⟩:∃e,(pickOrder (w.params.setOrder a ep) es)[i]?=some e:=⟨_,AAM (by rw[hl];exact hi)⟩
  refine kO (slot:=0) (next:=0) (x:=e.2) st.1 st.2 (λA E Q q=>jh hb st.2 (by rw[he];exact q)) λh' h1 sb=>hQ _ h' s.toks (by simp[he]) ⟨h1,st.2.at λo e=>(sb.2 a hne).trans e⟩ λb o hb e=>(sb.2 b (by simpa using hb)).trans e
 done:=λs Q E st hQ=>by
  have hl:(pickOrder (w.params.setOrder a ep) es).size=es.size:=by have:=(kD (w.params.setOrder a ep) es).length_eq;simpa using this
  refine dI (slot:=0) hh st.1 st.2 (λA E Q q=>jh hb st.2 ?_) λh' k=>hQ h' s.toks λb o hb e=>k b o (by simpa using hb) e
  rw[ABf (by rw[hl];exact AA8 _)]
  exact q
 self:=λ_ _ _ _ st hQ=>fJ st.1 hQ
def rT{tt:Addr}{ps:List Nat}(hp:ps.Perm (AAu es.size))(hh:A.handled=none)(hne:a≠it)(hnt:tt≠it) :
  Walks prog w A it [it,a,tt] [it] es.size (λi v=>(ps.filterMap λj=>(es[j]?).map (·.2))[i]?=some v) (λi h=>h.get? it=some (dN (.ref tt) i es.size a ep)/\SetAt h a o es ep t/\h.IsTuple tt (ps.map λ(k:Nat)=>rawInt k).toArray) where
 sub:=λb hb=>by simp at hb;simp[hb]
 frame:=λ_ _ _ st hk=>⟨hk it (by simp) _ st.1,st.2.1.at λo e=>hk a (by simp) o e,let ⟨o,e,r⟩:=st.2.2;⟨o,hk tt (by simp) _ e,r⟩⟩
 item:=λi s Q E hi st hQ=>by
  have hl:ps.length=es.size:=by have:=hp.length_eq;simpa using this
  have hall:∀j∈ps,j<es.size:=λj hj=>by have:=hp.mem_iff.mp hj;simpa using this
  have hj:ps[i]?=some ps[i]:=AA5 (by lia)
  have hlt:ps[i]<es.size:=hall _ (AB5 _);have he:es[ps[i]]?=some es[ps[i]]:=AAM hlt;have fm:(ps.filterMap λj=>(es[j]?).map (·.2))=ps.map λj=>(es.getD j default).2:=by
   clear hj hl hp hi st hQ he hlt;induction ps with
   | nil=>rfl
   | cons j r ih =>
    have hj:=hall j AAI;rw[AC4,AAM hj,AAQ,<-ih λk hk=>hall k (AA9 _ hk)]
    simp[ACV,hj]
  refine vK st.1 st.2.2 st.2.1 hj he λh' h1 sb=>hQ _ h' s.toks ?_ ⟨h1,st.2.1.at λo e=>(sb.2 a hne).trans e,let ⟨o,e,r⟩:=st.2.2;⟨o,(sb.2 tt hnt).trans e,r⟩⟩ λb o hb e=>(sb.2 b (by simpa using hb)).trans e
  rw[fm,AAV,hj];simp[ACV,hlt]
 done:=λs Q E st hQ=>by
  have hl:ps.length=es.size:=by have:=hp.length_eq;simpa using this
  exact lJ hh st.1 st.2.2 st.2.1 (ABW (by lia)) λh' k=>hQ h' s.toks λb o hb e=>k b o (by simpa using hb) e
 self:=λ_ _ _ _ st hQ=>fJ st.1 hQ
def ji(hb:w.params.followText "set-order" = false)(hled:t.led=true)(hsz:es.size<=1)(S:SetAt s.heap a o es ep t)
  (h:Q (match es[AAi t.place slot]?,t.place[AAi t.place slot]? with | some (_,x),some j=>some (x,j+1) | _,_=>none) s) :
  wpAny (model prog w) A (setNext a slot i ep) Q E s:=by
 unfold setNext;refine AA0 (ABK S.ob S.dt S.ft ?_);unfold setsByText;refine AA0 (AA0 (ACY (AA2 ?_)));simp only[model,hb,AAE,if_false];refine ABu (λz=>?_) λ_=>?_
 ·have z':(!t.plain&&decide (es.size > 1))=true:=z
  simp at z';lia
 ·refine AA0 (show wpAny (model prog w) A (if (!t.led && !es.isEmpty)=true then unsupported _ else pure ()) _ _ s from ?_)
  rw[hled];simp only[ABv,Bool.false_and,AAE,if_false];exact AA2 (AA2 h)
def rL(j k:Nat):AAi #[j] k=if j<k then 1 else 0:=by
 unfold AAi;simp only[AAD,AAN,AAm];unfold ACQ;simp only[Nat.zero_lt_succ,if_true];by_cases h:j<k
 ·simp[h,ACQ]
 ·simp[h,ACQ]
def vh(hb:w.params.followText "set-order" = false)(hled:t.led=true)(hsz:es.size<=1)(hh:A.handled=none)(hne:a≠it) :
  Walks prog w A it [it,a] [it] es.size (λi v=>(es.toList.map (·.2))[i]?=some v) (λi h=>h.get? it=some (dN (rawInt (if i=0 then 0 else t.place.getD 0 0+1:Nat)) i es.size a ep)/\SetAt h a o es ep t) where
 sub:=λb hb=>by simp at hb;simp[hb]
 frame:=λ_ _ _ st hk=>⟨hk it (by simp) _ st.1,st.2.at λo e=>hk a (by simp) o e⟩
 item:=λi s Q E hi st hQ=>by
  obtain rfl:i=0:=by lia
  have ps:t.place.size=1:=by have:=st.2.ft;simp[ADw]at this;lia
  obtain⟨j,hj⟩:∃j,t.place = #[j]:=⟨t.place[0],by apply Array.ext (by simpa using ps);intro i h1 h2;simp at h2;subst h2;rfl⟩
  have he:es[0]?=some es[0]:=AAM hi;refine kO (slot:=0) (next:=j+1) (x:=es[0].2) st.1 st.2 (λA E Q q=>ji hb hled hsz st.2 ?_) λh' h1 sb=>hQ _ h' s.toks ?_ ⟨?_,st.2.at λo e=>(sb.2 a hne).trans e⟩ λb o hb e=>(sb.2 b (by simpa using hb)).trans e
  ·rw[hj,rL,if_neg (ABs _),he]
   exact q
  ·rw[AAV,AAS,he];rfl
  ·simpa [hj]using h1
 done:=λs Q E st hQ=>by
  refine dI (slot:=if es.size=0 then 0 else t.place.getD 0 0+1) hh st.1 st.2 (λA E Q q=>ji hb hled hsz st.2 ?_) λh' k=>hQ h' s.toks λb o hb e=>k b o (by simpa using hb) e
  have ps:t.place.size=es.size:=by have:=st.2.ft;simp[ADw]at this;lia
  by_cases z:es.size=0
  ·have:es = #[]:=Array.eq_empty_of_size_eq_zero z
   subst this;simpa using q
  ·obtain⟨j,hj⟩:∃j,t.place = #[j]:=⟨t.place[0],by apply Array.ext (by simp;lia);intro i h1 h2;simp at h2;subst h2;rfl⟩
   have e1:AAi t.place (if es.size=0 then 0 else t.place.getD 0 0+1)=1:=by rw[if_neg z,hj,rL];simp
   rw[e1,ABf (by lia)]
   exact q
 self:=λ_ _ _ _ st hQ=>fJ st.1 hQ
def jk(hb:w.params.followText "set-order" = false)(hled:t.led=true)(hnd:(!t.plain&&decide (es.size > 1))=false)(S:SetAt s.heap a o es ep t)
  (h:Q (match es[AAi t.place slot]?,t.place[AAi t.place slot]? with | some (_,x),some j=>some (x,j+1) | _,_=>none) s) :
  wpAny (model prog w) A (setNext a slot i ep) Q E s:=by
 unfold setNext;refine AA0 (ABK S.ob S.dt S.ft ?_);unfold setsByText;refine AA0 (AA0 (ACY (AA2 ?_)));simp only[model,hb,AAE,if_false];refine ABu (λz=>?_) λ_=>?_
 ·have z':(!t.plain&&decide (es.size > 1))=true:=z
  rw[hnd]at z';cases z'
 ·refine AA0 (show wpAny (model prog w) A (if (!t.led && !es.isEmpty)=true then unsupported _ else pure ()) _ _ s from ?_)
  rw[hled];simp only[ABv,Bool.false_and,AAE,if_false];exact AA2 (AA2 h)
def vj(hb:w.params.followText "set-order" = false)(hled:t.led=true)(hnd:(!t.plain&&decide (es.size > 1))=false)(hr:t.place.toList.Pairwise (· < ·))(hh:A.handled=none)(hne:a≠it) :
  Walks prog w A it [it,a] [it] es.size (λi v=>(es.toList.map (·.2))[i]?=some v) (λi h=>h.get? it=some (dN (rawInt (if i=0 then 0 else t.place.getD (i-1) 0+1:Nat)) i es.size a ep)/\SetAt h a o es ep t):=by
 have bel:∀i,i<=t.place.size->AAi t.place (if i=0 then 0 else t.place.getD (i-1) 0+1)=i:=λi hi=>by
  obtain⟨b1,b2,b3⟩:=Ht.below_spec t.place hr (if i=0 then 0 else t.place.getD (i-1) 0+1);have mono:∀a b (ha:a<t.place.size) (hb:b<t.place.size),a<b->t.place[a]<t.place[b]:=λa b ha hb h=>by
   have:=ACj.mp hr a b (by simpa using ha) (by simpa using hb) h
   simpa using this
  by_cases z:i=0
  ·rw[if_pos z]at b1 b2 b3 ⊢
   rcases Nat.eq_zero_or_pos (AAi t.place 0)with q | q
   ·rw[q,z]
   ·have:=b2 0 (by lia) q
    lia
  ·rw[if_neg z]at b1 b2 b3 ⊢
   have hl:i-1<t.place.size:=by lia
   have eg:t.place.getD (i-1) 0=t.place[i-1]:=by simp[ACV,hl]
   rw[eg]at b1 b2 b3 ⊢;rcases ADM (AAi t.place (t.place[i-1]+1)) i with q | q | q
   ·have:=b3 (i-1) hl (by lia)
    lia
   ·exact q
   ·have:=b2 i (by lia) q
    have:=mono (i-1) i hl (by lia) (by lia)
    lia
 exact {
  sub:=λb hb=>by simp at hb;simp[hb]
  frame:=λ_ _ _ st hk=>⟨hk it (by simp) _ st.1,st.2.at λo e=>hk a (by simp) o e⟩
  item:=λi s Q E hi st hQ=>by
   have ps:t.place.size=es.size:=by have:=st.2.ft;simp[ADw]at this;lia
   have hp:i<t.place.size:=by lia
   have he:es[i]?=some es[i]:=AAM hi;have hpl:t.place[i]?=some t.place[i]:=AAM hp;refine kO (next:=t.place[i]+1) (x:=es[i].2) st.1 st.2 (λA E Q q=>jk hb hled hnd st.2 ?_) λh' h1 sb=>hQ _ h' s.toks ?_ ⟨?_,st.2.at λo e=>(sb.2 a hne).trans e⟩ λb o hb e=>(sb.2 b (by simpa using hb)).trans e
   ·rw[bel i (by lia),he,hpl]
    exact q
   ·rw[AAV,AAS,he];rfl
   ·rw[if_neg (Nat.succ_ne_zero i),ADx,show t.place.getD i 0=t.place[i] by simp[ACV,hp]]
    exact h1
  done:=λs Q E st hQ=>by
   have ps:t.place.size=es.size:=by have:=st.2.ft;simp[ADw]at this;lia
   refine dI hh st.1 st.2 (λA E Q q=>jk hb hled hnd st.2 ?_) λh' k=>hQ h' s.toks λb o hb e=>k b o (by simpa using hb) e
   rw[bel es.size (by lia),ABf (AA8 _)]
   exact q
  self:=λ_ _ _ _ st hQ=>fJ st.1 hQ }
end
section
variable{prog:Program}{w:World}{A:Around}{E:Value->Shared->Prop}{s:Shared}{a:Addr}{o:Obj}{es:Array (Int×Value)}{ep:Nat}{t:SetTable}
def AH(S:SetAt s.heap a o es ep t)(hc:o.cls=.type "set")(hpl:t.plain=true->es.size<=1\/t.place.toList.Pairwise (· < ·))(hled:t.led = !w.params.followText "set-order")(hz:es.size<=sizeLine)
  (h:∀(it:Addr) (h':Heap) (d:Drawn) (vs:List Value) (fp:List Addr) (St:Nat->Heap->Prop),(∀b o,s.heap.get? b=some o->h'.get? b=some o)->vs.Perm (es.toList.map (·.2))->s.heap.objs.size<=it->it<h'.objs.size->(∀b∈fp,b=a\/s.heap.objs.size<=b/\b<h'.objs.size) ->
   (∀A':Around,A'.handled=none->Walks prog w A' it fp [it] es.size (λi v=>vs[i]?=some v) St)->St 0 h'->Q (.ref it) { s with heap:=h',drawn:=d }):wpAny (model prog w) A (pyIter (.ref a)) Q E s:=by
 have hT:s.TypeIs (.ref a) "set":=⟨o,S.ob,hc⟩;have la:a<s.heap.objs.size:=AAG S.ob;refine AE6 hT F.slot_set_iter (AAp F.slot_set_iter hT oN ?_ (F.args_set_iter_1 _));unfold Builtin.«frozenset.__iter__»;refine AA0 (show wpAny (model prog w) _ (pure a) _ _ s from AA2 ?_);unfold Builtin.Frozenset.sizeOf;refine AA0 (AA0 (ACv S.ob S.dt S.ft (AA2 ?_)));unfold setDrawn;refine AA0 (AA0 (ABK S.ob S.dt S.ft ?_));unfold setsByText;refine AA0 (AA0 (ACY (AA2 (AA2 ?_))));by_cases hd:(!w.params.followText "set-order" && (!t.plain&&decide (es.size > 1)))=true
 ·refine ABu (λ_=>?_) λz=>absurd hd z
  refine AA0 (qX _ _ _ _ (by simp) λps d hp=>?_)
  refine AA0 (show wpAny (model prog w) _ (newObj (.type "tuple") (.seq (ps.map λ(i:Nat)=>rawInt i).toArray)) _ _ _ from AAr ?_ (by have e:=hp.length_eq;rw[ACR]at e;show (ps.map λ(i:Nat)=>rawInt i).toArray.size<=sizeLine;rw[AAD,AA4,e];exact hz))
  have S1:=S.at (h':=s.heap.push { cls:=.type "tuple",data:=.seq (ps.map λ(i:Nat)=>rawInt i).toArray }) λo e=>AA3 _ e
  refine AA0 (wpAny_setEpoch_of (s:={ s with heap:=_,drawn:=d }) S1.ob S1.dt S1.ft ?_)
  refine AA0 (show wpAny (model prog w) _ (newObj (.type "set_iterator") (.fields #[.ref s.heap.objs.size,rawInt 0,.ref a,rawInt es.size,rawInt ep])) _ _ _ from AAr ?_ (by size_fits))
  refine AA2 ⟨_,rfl,"set_iterator",_,⟨_,AAC _ rfl,rfl⟩,aW.lookup,?_⟩;have sz:(s.heap.push { cls:=.type "tuple",data:=.seq (ps.map λ(i:Nat)=>rawInt i).toArray }).objs.size=s.heap.objs.size+1:=ABZ ..
  refine h _ _ d (ps.filterMap λj=>(es[j]?).map (·.2)) _ _ (λb o e=>AA3 _ (AA3 _ e)) ?_ (by show s.heap.objs.size<=(s.heap.push _).objs.size;rw[sz];exact ADc _) (by show _<((s.heap.push _).push _).objs.size;rw[ABZ (h:=s.heap.push _)];exact AB0 _) ?_
   (λA' hh=>rT (o:=o) (t:=t) (ep:=ep) hp hh (AAO (by rw[sz];exact AC5 la)) (AAO (by rw[sz];exact AB0 _))) ⟨AAC _ rfl,S1.at λo e=>AA3 _ e,⟨_,AA3 _ (AAC _ rfl),rfl,_,rfl⟩⟩
  ·refine(hp.filterMap _).trans ?_
   have e1:(AAu es.size).filterMap (λj=>(es[j]?).map (·.2))=((AAu es.size).filterMap λj=>es[j]?).map (·.2):=by rw[List.map_filterMap]
   rw[e1,filterMap_getElem?_range]
  ·intro b hb
   rw[ABZ,sz];rcases AAJ.mp hb with rfl | hb
   ·exact .inr ⟨by rw[sz];exact ADc _,by rw[sz];exact AB0 _⟩
   ·rcases AAJ.mp hb with rfl | hb
    ·exact .inl rfl
    ·rw[ABe.mp hb]
     exact .inr ⟨AA8 _,AC5 (AB0 _)⟩
 ·refine ABu (λz=>absurd z hd) λ_=>?_
  refine AA0 (AA2 (AA0 (wpAny_setEpoch_of S.ob S.dt S.ft ?_)));refine AA0 (show wpAny (model prog w) _ (newObj (.type "set_iterator") (.fields #[rawInt 0,rawInt 0,.ref a,rawInt es.size,rawInt ep])) _ _ _ from AAr ?_ (by size_fits))
  refine AA2 ⟨_,rfl,"set_iterator",_,⟨_,AAC _ rfl,rfl⟩,aW.lookup,?_⟩;have S1:=S.at (h':=s.heap.push (dN (rawInt 0) 0 es.size a ep)) λo e=>AA3 _ e
  have fpl:∀b∈[s.heap.objs.size,a],b=a\/s.heap.objs.size<=b/\b<(s.heap.push (dN (rawInt 0) 0 es.size a ep)).objs.size:=λb hb=>by
   rcases AAJ.mp hb with rfl | hb
   ·exact .inr ⟨AA8 _,by rw[ABZ];exact AB0 _⟩
   ·exact .inl (ABe.mp hb)
  by_cases hb:w.params.followText "set-order" = true
  ·refine h _ _ s.drawn ((pickOrder (w.params.setOrder a ep) es).toList.map (·.2)) _ _ (λb o e=>AA3 _ e) ((kD _ es).map _) (AA8 _) (by rw[ABZ];exact AB0 _) fpl
    (λA' hh=>vc (o:=o) (t:=t) (ep:=ep) hb hh (AAO la)) ⟨AAC _ rfl,S1⟩
  ·have hb':w.params.followText "set-order" = false:=by simpa using hb
   have hnd:(!t.plain&&decide (es.size > 1))=false:=by
    rw[hb']at hd;simpa using hd
   have aw:es.size<=1\/t.place.toList.Pairwise (· < ·):=by
    by_cases q:t.plain=true
    ·exact hpl q
    ·simp[q]at hnd
     exact .inl hnd
   rcases aw with h1 | hr
   ·refine h _ _ s.drawn (es.toList.map (·.2)) _ _ (λb o e=>AA3 _ e) (AD3 _) (AA8 _) (by rw[ABZ];exact AB0 _) fpl
     (λA' hh=>vh (o:=o) (t:=t) (ep:=ep) hb' (by rw[hled,hb'];rfl) h1 hh (AAO la)) ⟨?_,S1⟩
    rw[if_pos rfl];exact AAC _ rfl
   ·refine h _ _ s.drawn (es.toList.map (·.2)) _ _ (λb o e=>AA3 _ e) (AD3 _) (AA8 _) (by rw[ABZ];exact AB0 _) fpl
     (λA' hh=>vj (o:=o) (t:=t) (ep:=ep) hb' (by rw[hled,hb'];rfl) hnd hr hh (AAO la)) ⟨?_,S1⟩
    rw[if_pos rfl];exact AAC _ rfl
end
end L2
namespace L2
open PySem PySem.Spec PyProof.Rows DL PySem.W PySem.Calls PyProof.V
section
variable{prog:Program}{w:World}{A:Around}{E:Value->Shared->Prop}{s:Shared}{a:Addr}{o:Obj}{es:Array (Int×Value)}{ep:Nat}{t:SetTable}
def AJ(hT:s.TypeIs (.ref a) "set")(h:Q false s):wpAny (model prog w) A (AEU (.ref a)) Q E s:=by
 unfold AEU;refine AA0 (ABt hT F.slot_set_len.lookup ?_);generalize hi:("set.__len__":String)=ident
 wp_delta
 rw[show splitId ident=some ("set","__len__") by rw[<-hi];decide +kernel]
 rw[<-hi];refine AA0 (ACZ (T:="set") (b:=true) hT sub_set_self (ABu (λz=>absurd z (by decide)) λ_=>ABu (λ_=>AA0 (ACO hT (AA2 h))) λz=>absurd (by decide +kernel) z))
def vY{R:Result->Shared->Prop}(hh:A.handled=none)(S:SetAt s.heap a o es ep t)(hc:o.cls=.type "set")(hpl:t.plain=true->es.size<=1\/t.place.toList.Pairwise (· < ·))(hled:t.led = !w.params.followText "set-order")(hz:es.size<=sizeLine)
  {D:Addr}{c₀:Nat} (hDa:D≠a) (hD:s.heap.get? D=some { cls:=.type "list",data:=.seq #[] c₀ }) (res:Value)
  (hR:∀h' tk d vs c,(∀b u,b≠D->s.heap.get? b=some u->h'.get? b=some u)->h'.get? D=some { cls:=.type "list",data:=.seq vs c }->vs.toList.Perm (es.toList.map (·.2))->R (.ok (.ret res)) { s with heap:=h',toks:=tk,drawn:=d }) :
  wpAny (model prog w) A.in1 (ACT (.ref D) (.ref a) res)
   (λfin s'=>match fin with | .done f=>R (.ok f) s' | .again c'=>c'.quiet=true/\codeAny (model prog w) A c' R s') (λe s'=>R (.error e) s') s:=by
 have ld:D<s.heap.objs.size:=AAG hD;have hT:s.TypeIs (.ref a) "set":=⟨o,S.ob,hc⟩;unfold ACT;refine AA0 (ACO hT ?_);have e1:Builtin.List.listSameRef (.ref D) (.ref a)=false:=by simp[Builtin.List.listSameRef,hDa]
 have e2:(ADe "set" == ADe "list")=false:=by decide
 have e3:(ADe "set" == ADe "tuple")=false:=by decide
 simp only[e1,e2,e3,Bool.or_false,AAE,if_false];refine AA0 (AH S hc hpl hled hz λit h1 d vs fp St k1 pv lit uit hfp W st=>?_)
 have hDf:D∉fp:=λz=>by
  rcases hfp D z with e | ⟨e,_⟩
  ·exact hDa e
  ·exact absurd ld (ADK.mpr e)
 have lv:vs.length=es.size:=by have:=pv.length_eq;simpa using this
 have go:∀(h:Heap) (c₁:Nat),St 0 h->(∀b u,b≠D->h1.get? b=some u->h.get? b=some u)->h.get? D=some { cls:=.type "list",data:=.seq #[] c₁ } ->
   codeAny (model prog w) A (.builtin "list.extend.loop" ⟨[.ref D,.ref it,res],[]⟩) R { s with heap:=h,drawn:=d }:=λh c₁ st' kk hD'=>by
  refine codeAny_extend_loopS (W A.in1 (by simp[hh])).toS hz D hDf res es.size 0 _ #[] c₁ rfl (AAX _) st' hD' (ItemsOf.nil _) λs' acc c' hm hD'' hacc=>?_
  rw[Moved.eq_with hm];have ea:acc.toList=vs:=by
   apply ADL
   intro i;by_cases hi:i<es.size
   ·have hi':i<acc.size:=by rw[hacc.1];exact hi
    have h1:acc[i]?=some acc[i]:=AAM hi';rw[AAS,h1];exact(hacc.2 i _ h1).symm
   ·rw[ABW (by rw[AAL,hacc.1];lia),ABW (by lia)]
  refine hR s'.heap s'.toks d acc c' (λb u hb e=>hm.heap b u (λz=>?_) (kk b u hb (k1 b u e))) hD'' (by rw[ea];exact pv)
  rcases AAJ.mp z with e' | z
  ·exact hb e'
  ·rw[ABe.mp z]at e
   exact absurd (AAG e) (ADK.mpr lit)
 have hD1:=k1 _ _ hD;refine AA0 (AAZ (AJ (s:={ s with heap:=h1,drawn:=d }) ⟨o,k1 _ _ S.ob,hc⟩ ?_))
 refine ABu (λz=>?_) λ_=>AA2 ⟨ACa F.plain_extend_loop _,go h1 c₀ st (λ_ _ _ e=>e) hD1⟩
 refine AA0 (ABU (AA0 (show wpAny (model prog w) _ (updateSeq D (·.push .none) >>= λ_=>updateSeq D (·.pop)) _ _ _ from AA0 (wpAny_updateSeq hD1 rfl ?_))))
 have hD2:=AAf (ABE (·.push ABj)) hD1 rfl;refine wpAny_updateSeq (hz:=by seq_fits) hD2 rfl ?_
 have hD3:=AAf (ABE (·.pop)) hD2 rfl;have other:∀b,b≠D->((h1.update D (ABE (·.push ABj))).update D (ABE (·.pop))).get? b=h1.get? b:=λb hb=>by
  rw[AC2 _ _ (ABO hb),AC2 _ _ (ABO hb)]
 refine AA2 ⟨ACa F.plain_extend_loop _,go _ _ ((W A hh).frame 0 _ _ st λb hb u e=>(other b λq=>hDf (q ▸ hb)).trans e) (λb u hb e=>(other b hb).trans e) hD3⟩
def vz{Q:Value->Shared->Prop}(hh:A.handled=none)(S:SetAt s.heap a o es ep t)(hc:o.cls=.type "set")(hpl:t.plain=true->es.size<=1\/t.place.toList.Pairwise (· < ·))(hled:t.led = !w.params.followText "set-order")(hz:es.size<=sizeLine)
  (h:∀h' tk d D (vs:List Value),(∀b u,s.heap.get? b=some u->h'.get? b=some u)->s.heap.get? D=none->h'.get? D=some { cls:=.type "list",data:=.seq vs.toArray }->vs.Perm (es.toList.map (·.2)) ->
   wpAny (model prog w) A.in1 (call (.builtin "list.sort") [.ref D]) (λ_ s'=>Q (.ref D) s') E { s with heap:=h',toks:=tk,drawn:=d }):wpAny (model prog w) A (call (.builtin "sorted") [.ref a]) Q E s:=by
 have la:a<s.heap.objs.size:=AAG S.ob;refine call_function_entry kind_sorted plain_sorted entry_sorted (args_sorted1 _) ?_
 unfold Builtin.«sorted»;refine AA0 (m:=checkCount "sorted" 1 1 _) (AA2 ?_);unfold collect;refine AA0 (AA0 (wpAny_runValue (ABX F.entry_proto_collect ?_)));rw[ABS F.plain_proto_collect _];refine(show wpAny (model prog w) _ (newList [] >>= λl=>again (.builtin "list.__iadd__" ⟨[l,.ref a],[]⟩)) _ _ s from AA0 (AAr (AA2 ⟨ACa F.plain_list_iadd _,ABX F.entry_list_iadd ?_⟩)))
 rw[ABS F.plain_list_iadd _];have S1:=S.at (h':=s.heap.push { cls:=.type "list",data:=.seq ([]:List Value).toArray }) λo e=>AA3 _ e
 have key:=vY (prog:=prog) (A:=A.in1) (s:={ s with heap:=s.heap.push { cls:=.type "list",data:=.seq ([]:List Value).toArray } }) (D:=s.heap.objs.size) (c₀:=0) (res:=.ref s.heap.objs.size)
  (R:=λr s'=>∃h' tk d vs c,r=.ok (.ret (.ref s.heap.objs.size))/\s'={ s with heap:=h',toks:=tk,drawn:=d }/\(∀b u,s.heap.get? b=some u->h'.get? b=some u)/\h'.get? s.heap.objs.size=some { cls:=.type "list",data:=.seq vs c }/\vs.toList.Perm (es.toList.map (·.2)))
  (by simp[hh]) S1 hc hpl hled hz (AEZ la) (AAC _ rfl) λh' tk d vs c k hD p=>⟨h',tk,d,vs,c,rfl,rfl,λb u e=>k b u (AAO (AAG e)) (AA3 _ e),hD,p⟩
 have last:∀h' tk d (vs:Array Value) c,(∀b u,s.heap.get? b=some u->h'.get? b=some u)->h'.get? s.heap.objs.size=some { cls:=.type "list",data:=.seq vs c }->vs.toList.Perm (es.toList.map (·.2)) ->
   wpAny (model prog w) A.in1 (do let ob <-load s.heap.objs.size;match ob.data with | .seq xs _=>pure xs.toList | _=>unsupported "internal:collect":Sem (List Value))
    (λxs s'=>wpAny (model prog w) A.in1 (do let l <-newList xs;let _ <-holding [l] (call (.builtin "list.sort") [l] []);ret l) (λfin s'=>∃v,fin=Fin.done (Flow.ret v)/\Q v s') E s') E { s with heap:=h',toks:=tk,drawn:=d }:=λh' tk d vs c kk hD p=>by
  refine AA0 (wpAny_load hD (AA2 (AA0 (ADN ?_ (by rw[p.length_eq];simpa using hz)))))
  have la':s.heap.objs.size<h'.objs.size:=AAG hD;refine AA0 (AAZ (ABA (h (h'.push { cls:=.type "list",data:=.seq vs.toList.toArray }) tk d h'.objs.size vs.toList (λb u e=>AA3 _ (kk b u e)) ?_ (AAC _ rfl) p) (λ_ s' q=>AA2 ⟨_,rfl,q⟩) λ_ _ z=>z))
  cases q:s.heap.get? h'.objs.size with
  | none=>rfl
  | some o'=>exact absurd (AAG (kk _ _ q)) (AAn _)
 refine ABA key (λfin s' x=>?_) λe s' ⟨_,_,_,_,_,z,_⟩=>by cases z
 cases fin with
 | done f =>
  obtain⟨h',tk,d,vs,c,z,rfl,kk,hD,p⟩:=x;cases z
  exact last h' tk d vs c kk hD p
 | again c' =>
  refine⟨x.1,ADf x.2 λr s2 ⟨h',tk,d,vs,c,z,e,kk,hD,p⟩=>?_⟩
  subst z e;exact last h' tk d vs c kk hD p
end
end L2
namespace L2
open PySem PySem.Spec PyProof.Rows DL PySem.W
section
variable{X:Cx}{e:Expr}{te:DTE}{p p' pos pos':Pos}{k:Nat}
def Inv.drew(I:Inv X pins σ H s):Inv X pins σ H { s with drawn:=d } :=
 ⟨I.ok,I.os,I.bare,I.base,I.loc,I.cell,I.free,I.freeC,I.pin,I.hok,I.len⟩
end
end L2
namespace L2
open PySem PySem.Spec PyProof.Rows DL PySem.Builtin PySem.Builtin.Str PySem.StrLaws
def zi(a b len:Nat):strSliceIndices (some (a:Int)) (some (b:Int)) 1 len=strSliceIndices (some ((min a len:Nat):Int)) (some ((min b len:Nat):Int)) 1 len:=by
 have e:∀i:Nat,max (0:Int) (min (i:Int) (len:Int))=max (0:Int) (min ((min i len:Nat):Int) (len:Int)):=λi=>by lia
 have n:∀i:Nat,¬((i:Int)<0):=λi=>by lia
 simp only[strSliceIndices,n,if_false,show ((1:Int) > 0)=True by simp,if_true]
 rw[e a,e b]
def ip(x:Str)(l u:Option Int):(AER x l u).cps.toList=if (strSliceIndices l u 1 x.length).length=x.length then x.cps.toList else(strSliceIndices l u 1 x.length).filterMap (x.cps[·]?):=by
 unfold AER;by_cases h:(strSliceIndices l u 1 x.length).length=x.length
 ·rw[if_pos (by simp[h]),if_pos h]
 ·rw[if_neg (by simp[h]),if_neg h]
def xq(x:Str){a b:Nat}(hab:a<=b):(AER x (some (a:Int)) (some (b:Int))).cps.toList=(x.cps.toList.drop a).take (b-a):=by
 have hm:min a x.length<=min b x.length:=by lia
 have key:(strSliceIndices (some ((min a x.length:Nat):Int)) (some ((min b x.length:Nat):Int)) 1 x.length).filterMap (x.cps[·]?)=(x.cps.toList.drop (min a x.length)).take (min b x.length-min a x.length):=sliced_plain x hm (Nat.min_le_right ..);have ll:=kT (a:=x);have fin:(x.cps.toList.drop (min a x.length)).take (min b x.length-min a x.length)=(x.cps.toList.drop a).take (b-a):=by
  by_cases ha:a<=x.length
  ·rw[AEV ha]
   by_cases hb:b<=x.length
   ·rw[AEV hb]
   ·rw[Nat.min_eq_right (by lia),AD6 (by rw[ABh];lia),AD6 (by rw[ABh];lia)]
  ·rw[List.drop_eq_nil_of_le (i:=a) (by lia),List.drop_eq_nil_of_le (i:=min a x.length) (by lia)]
   simp
 rw[ip,zi,key,fin];split
 ·rename_i h
  rw[strSliceIndices_plain hm (Nat.min_le_right ..)]at h;simp only[AA4,ACR]at h;have h0:min a x.length=0:=by lia
  by_cases hx:x.length=0
  ·have:x.cps.toList=[]:=List.eq_nil_of_length_eq_zero (by lia)
   rw[this];simp
  ·have:a=0:=by lia
   subst this;rw[List.drop_zero,AD6 (by lia)]
 ·rfl
end L2
namespace L2
open PySem PySem.Spec PyProof.Rows DL PySem.W
section
variable{X:Cx}
def CQ:DR2:=λx y M Q=>match x,y with
 | .int i,.int j=>CPow i j/\Q (.int (i ^ j.toNat)) M
 | _,_=>False
def Gg:OpD X (binaryOp .Pow) CQ:=by
 refine OpR.imp FV λvx vy H R ⟨x,y,M,ρ,Q,sm,r1,r2,q,k⟩=>?_
 unfold CQ at q;split at q
 ·cases r1
  cases r2
  exact⟨_,_,rfl,rfl,q.1,k _ H (VQ.now sm (.int _) q.2)⟩
 ·exact q.elim
def Cd:HOp X (binaryOp .Pow) CQ:=⟨Gg⟩
end
end L2
namespace Ht
open PySem
def Occ(ow:Array (Option Nat))(s:Nat):Prop:=∃i,ow[s]?=some (some i)
def getD_none(hs:s<ow.size):(ow.getD s (some 0)).isNone=true↔¬Occ ow s:=by
 have e:ow[s]?=some ow[s]:=AAM hs;have e2:ow.getD s (some 0)=ow[s]:=by simp[ACV,hs]
 rw[e2];unfold Occ;rw[e];cases ow[s]<;>simp
def yQ(hz:ow.size=m+1)(h:Int):∀(fuel k0 k:Nat),k0<=k->k<k0+fuel->¬Occ ow (dB m h k).1->(∀n,n<dZ m h k0->Occ ow (sq m h n).j) ->
  ∃N,AD7 m ow fuel (dB m h k0).1 (dB m h k0).2=some (sq m h N).j/\¬Occ ow (sq m h N).j/\∀n,n<N->Occ ow (sq m h n).j:=by
 intro fuel;induction fuel with
 | zero=>intro k0 k h1 h2;lia
 | succ fuel ih =>
  intro k0 k h1 h2 h3 h4;have ile:=se m h k0;have rle:AAz m (dB m h k0).1<=m/\(dB m h k0).1<=AAz m (dB m h k0).1:=by
   unfold AAz;split<;>lia
  unfold AD7;cases hf:(AAu (AAz m (dB m h k0).1+1-(dB m h k0).1)).find? λk=>(ow.getD ((dB m h k0).1+k) (some 0)).isNone with
  | some r =>
   have hr:=AEW hf;have hmem:=List.mem_of_find?_eq_some hf;rw[AB2]at hmem;refine⟨dZ m h k0+r,by rw[xo m h k0 r (by lia)],?_,λn hn=>?_⟩
   ·rw[xo m h k0 r (by lia)]
    exact(getD_none (by lia)).mp hr
   ·rcases ABd n (dZ m h k0)with q | q
    ·exact h4 n q
    ·obtain⟨r',rfl⟩:∃r',n=dZ m h k0+r':=⟨n-dZ m h k0,by lia⟩
     rw[xo m h k0 r' (by lia)]
     refine AB4 λhno=>?_
     have hlt:r' < r:=by lia
     have z:=(getD_none (ow:=ow) (s:=(dB m h k0).1+r') (by lia)).mpr hno
     have:=List.find?_range_eq_some.mp hf;have:=this.2.2 r' hlt;rw[z]at this;exact absurd this (by simp)
  | none =>
   have all:∀r,r<=AAz m (dB m h k0).1-(dB m h k0).1->Occ ow ((dB m h k0).1+r):=λr hr=>by
    refine AB4 λhno=>?_
    have z:=(getD_none (ow:=ow) (s:=(dB m h k0).1+r) (by lia)).mpr hno
    have:=List.find?_eq_none.mp hf r (AB2.mpr (by lia))
    exact this z
   have hk:k0≠k:=λe=>by subst e;exact h3 (all 0 (AAX _))
   refine ih (k0+1) k (by lia) (by lia) h3 λn hn=>?_
   unfold dZ at hn;rcases ABd n (dZ m h k0)with q | q
   ·exact h4 n q
   ·obtain⟨r',rfl⟩:∃r',n=dZ m h k0+r':=⟨n-dZ m h k0,by lia⟩
    rw[xo m h k0 r' (by lia)]
    exact all r' (by lia)
structure Laid(m:Nat)(hs:List Int)(ow:Array (Option Nat))(k:Nat):Prop where
 sz:ow.size=m+1
 lt:∀s i:Nat,ow[s]?=some (some i)->i<k
 inj:∀s s' i:Nat,ow[s]?=some (some i)->ow[s']?=some (some i)->s=s'
 all:∀i:Nat,i<k->∃s:Nat,ow[s]?=some (some i)
 path:∀(s i:Nat) (h:Int),ow[s]?=some (some i)->hs[i]?=some h->∃n,(sq m h n).j=s/\∀n',n' < n->Occ ow (sq m h n').j
def Laid.room(L:Laid m hs ow k)(hk:k<=m):∃s,s<=m/\¬Occ ow s:=by
 refine AB4 λhc=>?_
 have occ:∀s,s<=m->Occ ow s:=λs hs=>AB4 λz=>hc ⟨s,hs,z⟩
 have idx:∀s,s∈AAu (m+1)->((ow.getD s none).getD 0)∈AAu k:=λs hs'=>by
  obtain⟨i,e⟩:=occ s (by have:=AB2.mp hs';lia)
  have:ow.getD s none=some i:=by
   obtain⟨hl,z⟩:=AAw.mp e;simp[ACV,hl,z]
  rw[this];exact AB2.mpr (L.lt s i e)
 have nd:((AAu (m+1)).map λs=>(ow.getD s none).getD 0).Nodup:=by
  rw[AC1,AC8];have base:=List.nodup_range (n:=m+1);rw[AC1]at base;refine base.imp_of_mem λ{a b} ha hb hne e=>hne ?_
  obtain⟨i,ei⟩:=occ a (by have:=AB2.mp ha;lia)
  obtain⟨j,ej⟩:=occ b (by have:=AB2.mp hb;lia)
  have e1:ow.getD a none=some i:=by
   obtain⟨hl,z⟩:=AAw.mp ei;simp[ACV,hl,z]
  have e2:ow.getD b none=some j:=by
   obtain⟨hl,z⟩:=AAw.mp ej;simp[ACV,hl,z]
  rw[e1,e2]at e;have:i=j:=e;subst this;exact L.inj a b i ei ej
 have:=L2.nodup_le _ (AAu k) nd λx hx=>by
  obtain⟨s,hs',rfl⟩:=AAK.mp hx;exact idx s hs'
 rw[AA4,ACR,ACR]at this;lia
def Laid.step(hm:lZ m)(L:Laid m hs ow k)(hk:k<=m)(hh:hs[k]?=some h) :
  ∃j,AD7 m ow (ADY m) (ACD h % (m+1)) (ACD h)=some j/\Laid m hs (ow.setIfInBounds j (some k)) (k+1):=by
 obtain⟨s,hs1,hs2⟩:=L.room hk;obtain⟨k',hk',e⟩:=Cn hm h hs1;obtain⟨N,f1,f2,f3⟩:=yQ L.sz h (ADY m) 0 k' (AAX _) (by unfold ADY;lia) (by rw[e];exact hs2) λn hn=>absurd hn (ABs _)
 refine⟨(sq m h N).j,f1,?_⟩;have jl:(sq m h N).j<ow.size:=by have:=xn (m:=m) h N;rw[L.sz];lia
 have same:(ow.setIfInBounds (sq m h N).j (some k))[(sq m h N).j]?=some (some k):=by
  rw[Array.getElem?_setIfInBounds_self_of_lt jl]
 have other:∀s,s≠(sq m h N).j->(ow.setIfInBounds (sq m h N).j (some k))[s]?=ow[s]?:=λs hne=>Array.getElem?_setIfInBounds_ne (ABO hne)
 have grow:∀s,Occ ow s->Occ (ow.setIfInBounds (sq m h N).j (some k)) s:=λs ⟨i,z⟩=>by
  by_cases q:s=(sq m h N).j
  ·subst q;exact⟨k,same⟩
  ·exact⟨i,by rw[other s q];exact z⟩
 have wh:∀s i,(ow.setIfInBounds (sq m h N).j (some k))[s]?=some (some i)->(s=(sq m h N).j/\i=k)\/(s≠(sq m h N).j/\ow[s]?=some (some i)):=λs i z=>by
  by_cases q:s=(sq m h N).j
  ·subst q;rw[same]at z;cases z;exact .inl ⟨rfl,rfl⟩
  ·rw[other s q]at z;exact .inr ⟨q,z⟩
 refine⟨by rw[Array.size_setIfInBounds];exact L.sz,λs i z=>?_,λs s' i z z'=>?_,λi hi=>?_,λs i h' z hh'=>?_⟩
 ·rcases wh s i z with⟨_,e⟩|⟨_,z⟩
  ·lia
  ·have:=L.lt s i z;lia
 ·rcases wh s i z with⟨e1,e2⟩|⟨_,z⟩
  ·rcases wh s' i z' with⟨e3,_⟩|⟨_,z'⟩
   ·rw[e1,e3]
   ·have:=L.lt s' i z';lia
  ·rcases wh s' i z' with⟨_,e4⟩|⟨_,z'⟩
   ·have:=L.lt s i z;lia
   ·exact L.inj s s' i z z'
 ·by_cases q:i=k
  ·subst q;exact⟨_,same⟩
  ·obtain⟨s,z⟩:=L.all i (by lia)
   refine⟨s,?_⟩;rw[other s λe=>f2 ⟨i,by rw[<-e];exact z⟩]
   exact z
 ·rcases wh s i z with⟨e1,e2⟩|⟨_,z⟩
  ·subst e1 e2
   rw[hh]at hh';cases hh';exact⟨N,rfl,λn' hn'=>grow _ (f3 n' hn')⟩
  ·obtain⟨n,a1,a2⟩:=L.path s i h' z hh'
   exact⟨n,a1,λn' hn'=>grow _ (a2 n' hn')⟩
def DM(hm:lZ m)(hs:List Int)(hl:hs.length<=m):∃ow,SetTable.layClean m hs.toArray=some ow/\Laid m hs ow hs.length:=by
 have start:Laid m hs (Array.replicate (m+1) none) 0:=by
  have no:∀s i:Nat,(Array.replicate (m+1) (none:Option Nat))[s]?≠some (some i):=λs i z=>by
   rw[Array.getElem?_replicate]at z;split at z<;>cases z
  exact⟨by simp,λs i z=>absurd z (no s i),λs _ i z=>absurd z (no s i),λi hi=>absurd hi (ABs _),λs i _ z=>absurd z (no s i)⟩
 have go:∀(aJ:List Int) (k:Nat) (ow:Array (Option Nat)),hs.drop k=aJ->k+aJ.length=hs.length->Laid m hs ow k ->
   ∃ow',aJ.foldl (init:=some (ow,k)) (λacc h=>do
    let (owner,k) <-acc
    let j <-AD7 m owner (ADY m) (ACD h % (m+1)) (ACD h)
    pure (owner.setIfInBounds j (some k),k+1))=some (ow',hs.length)/\Laid m hs ow' hs.length:=by
  intro aJ;induction aJ with
  | nil =>
   intro k ow e hk L;have:k=hs.length:=by simpa using hk
   subst this;exact⟨ow,rfl,L⟩
  | cons h aJ ih =>
   intro k ow e hk L;have hh:hs[k]?=some h:=by
    have:(hs.drop k)[0]?=some h:=by rw[e];rfl
    rw[ADA]at this;simpa using this
   rw[AAN]at hk;obtain⟨j,f1,L'⟩:=L.step hm (by lia) hh
   obtain⟨ow',g1,g2⟩:=ih (k+1) (ow.setIfInBounds j (some k)) (by
    have:hs.drop (k+1)=(hs.drop k).drop 1:=by rw[List.drop_drop]
    rw[this,e];rfl) (by lia) L'
   refine⟨ow',?_,g2⟩;rw[List.foldl_cons];simp only[Option.bind_eq_bind,Option.bind_some,f1,Option.pure_def];exact g1
 obtain⟨ow,g1,g2⟩:=go hs 0 _ rfl (by simp) start
 refine⟨ow,?_,g2⟩;unfold SetTable.layClean;rw[<-Array.foldl_toList];have:hs.toArray.toList=hs:=by simp
 rw[this,g1];rfl
def kE{α:Type}[DecidableEq α]:∀{l l':List α},l.Nodup->l'.Nodup->(∀x,x∈l↔x∈l')->l.Perm l'
 | [],l',_,_,h=>by
  have:l'=[]:=List.eq_nil_iff_forall_not_mem.mpr λx hx=>absurd ((h x).mpr hx) (by simp)
  rw[this]
 | x::l,l',n,n',h=>by
  have hx:x∈l':=(h x).mp AAI;have n1:=ABH.mp n;refine(AEf x (kE n1.2 (n'.erase x) λy=>?_)).trans (List.perm_cons_erase hx).symm
  by_cases e:y=x
  ·subst e
   constructor
   ·intro z;exact absurd z n1.1
   ·intro z;exact absurd z (List.Nodup.not_mem_erase n')
  ·rw[List.mem_erase_of_ne e,<-h y,AAJ]
   exact⟨.inr,λz=>z.resolve_left e⟩
def bu(m:Nat)(ow:Array (Option Nat)):List (Nat×Nat):=(AAu (m+1)).filterMap λj=>(ow.getD j none).map (j,·)
def dJ(L:Laid m hs ow k):(s,i)∈bu m ow↔ow[s]?=some (some i):=by
 unfold bu;rw[ADk];constructor
 ·rintro⟨j,hj,e⟩
  have hj':j<ow.size:=by rw[L.sz];exact AB2.mp hj
  have e2:ow.getD j none=ow[j]:=by simp[ACV,hj']
  rw[e2]at e;cases q:ow[j] with
  | none=>rw[q]at e;cases e
  | some i' =>
   rw[q]at e;have:=AAR e;cases this
   rw[AAM hj',q]
 ·intro e
  obtain⟨hl,z⟩:=AAw.mp e;refine⟨s,AB2.mpr (by rw[<-L.sz];exact hl),?_⟩
  have e2:ow.getD s none=ow[s]:=by simp[ACV,hl]
  rw[e2,z];rfl
def qA(m:Nat)(ow:Array (Option Nat)):((bu m ow).map (·.1)).Pairwise (· < ·):=by
 unfold bu;rw[AC8];refine List.Pairwise.filterMap (R:=(· < ·)) _ (λa a' h b hb b' hb'=>?_) (List.pairwise_lt_range)
 obtain⟨x,_,rfl⟩:=ABF.mp hb;obtain⟨y,_,rfl⟩:=ABF.mp hb';exact h
def qB(L:Laid m hs ow hs.length):((bu m ow).map (·.2)).Perm (AAu hs.length):=by
 have nd1:(bu m ow).Nodup:=by
  have:=qA m ow;rw[AC8]at this;exact this.imp λh e=>by rw[e]at h;exact AAn _ h
 have nd:((bu m ow).map (·.2)).Nodup:=by
  rw[AC1,AC8];rw[AC1]at nd1;refine nd1.imp_of_mem λ{a b} ha hb hne e=>hne ?_
  obtain⟨s,i⟩:=a;obtain⟨s',i'⟩:=b;have e':i=i':=e;subst e';rw[L.inj s s' i ((dJ L).mp ha) ((dJ L).mp hb)]
 refine kE nd List.nodup_range λi=>?_
 rw[AB2,AAK];constructor
 ·rintro⟨⟨s,i'⟩,hm,rfl⟩
  exact L.lt s i' ((dJ L).mp hm)
 ·intro hi
  obtain⟨s,e⟩:=L.all i hi;exact⟨(s,i),(dJ L).mpr e,rfl⟩
def oG{α:Type}{l:List α}{p:Nat}{x y:α}(hp:p<=l.length){i:Nat}(h:(l.take p++x::l.drop p)[i]?=some y):(i<p/\l[i]?=some y)\/(i=p/\y=x)\/(p<i/\l[i-1]?=some y):=by
 have lt:(l.take p).length=p:=by rw[AAy];lia
 rcases ADM i p with q | q | q
 ·rw[AAT (by lia),ADv,if_pos q]at h
  exact .inl ⟨q,h⟩
 ·subst q
  rw[AAe (by lia),lt,ADE]at h
  exact .inr (.inl ⟨rfl,(AAR h).symm⟩)
 ·rw[AAe (by lia),lt]at h
  obtain⟨r,hr⟩:∃r,i-p=r+1:=⟨i-p-1,by lia⟩
  rw[hr,ABb,ADA]at h;exact .inr (.inr ⟨q,by rw[show i-1=p+r by lia];exact h⟩)
structure TPre(t:SetTable)(hs:List Int):Prop where
 msk:lZ t.mask
 len:t.place.size=hs.length
 nod:t.dummies = #[]
 ris:t.place.toList.Pairwise (· < ·)
 rng:∀j∈t.place.toList,j<=t.mask
 path:∀(i:Nat) (h:Int) (j:Nat),hs[i]?=some h->t.place[i]?=some j->∃n,(sq t.mask h n).j=j/\∀n',n' < n->(sq t.mask h n').j∈t.place.toList
def put_pre(T:TOk t hs)(h2:(sq t.mask h N).j∉t.place.toList)(h3:∀k,k<N->(sq t.mask h k).j∈t.place.toList)(pl:Bool) :
  (t.put (sq t.mask h N).j).2<=hs.length/\TPre { (t.put (sq t.mask h N).j).1 with plain:=pl } (hs.take (t.put (sq t.mask h N).j).2++h::hs.drop (t.put (sq t.mask h N).j).2):=by
 obtain⟨e,ris⟩:=xy T.ris h2;obtain⟨b1,_,_⟩:=below_spec t.place T.ris (sq t.mask h N).j;have bl:AAi t.place (sq t.mask h N).j<=hs.length:=by rw[<-T.len];exact b1
 refine⟨bl,⟨T.msk,?_,?_,ris,λj hj=>?_,λi h' j hh hj=>?_⟩⟩
 ·have:=congrArg ABr e
  rw[AAL,AAA,AAN,AAy,ABh,AAL]at this;show (t.put (sq t.mask h N).j).1.place.size=(hs.take (AAi t.place (sq t.mask h N).j)++h::hs.drop (AAi t.place (sq t.mask h N).j)).length;rw[this,AAA,AAN,AAy,ABh,T.len]
 ·show (if SetTable.has t.dummies (sq t.mask h N).j then SetTable.eraseAt t.dummies (AAi t.dummies (sq t.mask h N).j)else t.dummies) = #[]
  rw[T.nod];rfl
 ·have hj':j∈(t.put (sq t.mask h N).j).1.place.toList:=hj
  rw[e]at hj';rcases AAa.mp hj' with q | q
  ·exact T.rng j (List.mem_of_mem_take q)
  ·rcases AAJ.mp q with q | q
   ·rw[q];exact xn h N
   ·exact T.rng j (List.mem_of_mem_drop q)
 ·have sub:∀x,x∈t.place.toList->x∈(t.put (sq t.mask h N).j).1.place.toList:=λx hx=>by
   rw[e];rw[<-ACe (AAi t.place (sq t.mask h N).j) t.place.toList]at hx;rcases AAa.mp hx with q | q
   ·exact AAP _ q
   ·exact AAB _ (AA9 _ q)
  have hj':(t.put (sq t.mask h N).j).1.place.toList[i]?=some j:=by rw[AAS];exact hj
  rw[e]at hj';have go:∀k,hs[k]?=some h'->t.place[k]?=some j->∃n,(sq t.mask h' n).j=j/\∀n',n' < n->(sq t.mask h' n').j∈(t.put (sq t.mask h N).j).1.place.toList:=λk z1 z2=>by
   obtain⟨n,a1,a2⟩:=T.path k h' j z1 z2;exact⟨n,a1,λn' hn'=>sub _ (a2 n' hn')⟩
  rcases oG (by rw[AAL];exact b1) hj' with⟨q,z⟩|⟨q,z⟩|⟨q,z⟩
  ·rcases oG bl hh with⟨q',z'⟩|⟨q',z'⟩|⟨q',z'⟩
   ·exact go i z' (by rw[<-AAS];exact z)
   ·lia
   ·lia
  ·rcases oG bl hh with⟨q',z'⟩|⟨q',z'⟩|⟨q',z'⟩
   ·lia
   ·subst z z'
    exact⟨N,rfl,λn' hn'=>sub _ (h3 n' hn')⟩
   ·lia
  ·rcases oG bl hh with⟨q',z'⟩|⟨q',z'⟩|⟨q',z'⟩
   ·lia
   ·lia
   ·exact go (i-1) z' (by rw[<-AAS];exact z)
def TPre.ok(T:TPre t hs)(h:t.tooFull=false):TOk t hs:=by
 refine⟨T.msk,T.len,T.nod,T.ris,T.rng,?_,T.path⟩;unfold SetTable.tooFull AEl at h;rw[T.nod]at h;simp at h;simpa using h
def TPre.anew(T:TPre t hs)(h:t.tooFull=true)(hb:(hs.length-1)*5<t.mask*3)(h60:hs.length<=64) :
  AEb (AD4 hs.length)<=sizeLine/\∃t2 ord,t.relaid hs.toArray (AD4 hs.length)=some (t2,ord)/\ord.toList.Perm (AAu hs.length)/\TOk t2 (ord.toList.map λi=>hs.getD i 0)/\t2.led=t.led:=by
 have full:hs.length*5 ≥ t.mask*3:=by
  unfold SetTable.tooFull AEl at h;rw[T.nod,T.len]at h;simpa using h
 have gm:∃m,AEb (AD4 hs.length)=m+1/\lZ m/\hs.length<=m/\hs.length*5<m*3:=by
  rcases T.msk with e | e | e
  ·have:hs.length=5:=by lia
   rw[this];exact⟨31,by decide +kernel,.inr (.inl rfl),by decide,by decide⟩
  ·have:hs.length=19:=by lia
   rw[this];exact⟨127,by decide +kernel,.inr (.inr rfl),by decide,by decide⟩
  ·lia
 obtain⟨m,e,hm,hl,few⟩:=gm;refine⟨by rw[e,ABq];rcases hm with rfl | rfl | rfl<;>lia,?_⟩
 obtain⟨ow,f1,L⟩:=DM hm hs hl;unfold SetTable.relaid;rw[e,ADx];unfold SetTable.laid;rw[f1];refine⟨_,_,rfl,?_,?_,rfl⟩
 ·show ((bu m ow).map (·.2)).toArray.toList.Perm _
  simpa using qB L
 ·have pl:((bu m ow).map (·.1)).toArray.toList=(bu m ow).map (·.1):=by simp
  have ol:((bu m ow).map (·.2)).toArray.toList=(bu m ow).map (·.2):=by simp
  have ln:(bu m ow).length=hs.length:=by have:=(qB L).length_eq;simpa using this
  refine⟨hm,?_,rfl,?_,λj hj=>?_,?_,λi h' j hh hj=>?_⟩
  ·show ((bu m ow).map (·.1)).toArray.size=(((bu m ow).map (·.2)).toArray.toList.map λi=>hs.getD i 0).length
   simp
  ·show ((bu m ow).map (·.1)).toArray.toList.Pairwise _
   rw[pl];exact qA m ow
  ·have hj':j∈((bu m ow).map (·.1)).toArray.toList:=hj
   rw[pl]at hj';obtain⟨⟨s,i⟩,hm',rfl⟩:=AAK.mp hj';have:=(AAw.mp ((dJ L).mp hm')).1;rw[L.sz]at this;show s<=m;lia
  ·show ((bu m ow).map (·.1)).toArray.size*5<m*3
   rw[AAD,AA4,ln];exact few
  ·have hh':(((bu m ow).map (·.2)).map λi=>hs.getD i 0)[i]?=some h':=by rw[<-ol];exact hh
   have hj':((bu m ow).map (·.1))[i]?=some j:=by rw[<-pl,AAS];exact hj
   rw[AAt,AAV]at hh';rw[AAV]at hj';cases q:(bu m ow)[i]? with
   | none=>rw[q]at hj';cases hj'
   | some p =>
    obtain⟨s,k⟩:=p;rw[q]at hh' hj';have e1:s=j:=AAR hj';have e2:hs.getD k 0=h':=AAR hh';subst e1;have mem:=(dJ L).mp (AAc q);have kl:=L.lt s k mem;have hk:hs[k]?=some h':=by
     rw[AA5 kl];rw[<-e2];simp[AEh,kl]
    obtain⟨n,a1,a2⟩:=L.path s k h' mem hk;refine⟨n,a1,λn' hn'=>?_⟩
    obtain⟨k',z⟩:=a2 n' hn';show (sq m h' n').j∈((bu m ow).map (·.1)).toArray.toList;rw[pl];exact AAK.mpr ⟨(_,k'),(dJ L).mpr z,rfl⟩
end Ht
namespace L2
open PySem PySem.Spec PyProof.Rows DL PySem.W
def oE:∀(n:Nat) (d:D),cw n d=true->okD M n d=true
 | 0,d,h=>by cases d<;>first | rfl | cases h
 | n+1,d,h=>by
  cases d with
  | tup ds =>
   have h':ds.all (cw n)=true:=h;show ds.all (okD M n)=true;rw[AAh]at h' ⊢;exact λx hx=>oE n x (h' x hx)
  | str x=>rfl
  | int i=>rfl
  | _=>cases h
def gU:∀(n:Nat) (x y:D),cw n x=true->cw n y=true->(eqD M n x y=true↔x=y):=by
 intro n;induction n with
 | zero =>
  intro x y h1 h2;cases x with
  | str a =>
   cases y with
   | str b=>simp[eqD]
   | int b=>simp[eqD]
   | _=>cases h2
  | int a =>
   cases y with
   | str b=>simp[eqD]
   | int b=>simp[eqD]
   | _=>cases h2
  | _=>cases h1
 | succ n ih =>
  have go:∀xs ys:List D,xs.all (cw n)=true->ys.all (cw n)=true->(eqL (eqD M n) xs ys=true↔xs=ys):=by
   intro xs;induction xs with
   | nil=>intro ys _ _;cases ys<;>simp[eqL]
   | cons x xs ih2 =>
    intro ys a1 a2;cases ys with
    | nil=>simp[eqL]
    | cons y ys =>
     rw[ABT,AAY]at a1 a2;show (eqD M n x y&&eqL (eqD M n) xs ys)=true↔_;rw[AAY,ih x y a1.1 a2.1,ih2 ys a1.2 a2.2,ADr]
  intro x y h1 h2;cases x with
  | str a =>
   cases y with
   | str b=>simp[eqD]
   | int b=>simp[eqD]
   | tup ys=>simp[eqD]
   | _=>cases h2
  | int a =>
   cases y with
   | str b=>simp[eqD]
   | int b=>simp[eqD]
   | tup ys=>simp[eqD]
   | _=>cases h2
  | tup xs =>
   cases y with
   | str b=>simp[eqD]
   | int b=>simp[eqD]
   | tup ys=>rw[D.tup.injEq];exact go _ _ h1 h2
   | _=>cases h2
  | _=>cases h1
section
variable{X:Cx}{pins:List (Addr×Obj)}{σ:St}{H:Hp}{ρ:List Addr}{M:Mem}
theorem GU(sm:Sim X.K ρ M H):∀(n:Nat) (A:Around) (s:Shared) (d:D) (v:V) (u:Value) (E:Value->Shared->Prop) (Q:Int->Shared->Prop),A.units+n<cLine->Inv X pins σ H s->Rep X.K ρ H d v->aI v u->cw n d=true ->
  (∀tk,Q (hkD X.w n d) { s with toks:=tk })->wpAny (model X.prog X.w) A (pyHash u) Q E s:=by
 intro n;induction n with
 | zero =>
  intro A s d v u E Q hu I r rv hk h;cases r with
  | str x=>obtain⟨t,rfl⟩:=rv;exact ADa (h _)
  | int x=>obtain⟨t,rfl⟩:=rv;exact ADZ (h _)
  | _=>cases hk
 | succ n ih =>
  intro A s d v u E Q hu I r rv hk h;cases r with
  | str x=>obtain⟨t,rfl⟩:=rv;exact ADa (h _)
  | int x=>obtain⟨t,rfl⟩:=rv;exact ADZ (h _)
  | @tup a vs ds hq rr =>
   cases rv
   obtain⟨its,r2,p,_⟩:=I.tuple hq;obtain⟨o,ho,hc,nn,hd⟩:=id p;have hT:s.TypeIs (.ref a) "tuple":=⟨o,ho,hc⟩;have hks:ds.all (cw n)=true:=hk;unfold pyHash;first | unfold pyHashByItsType | skip
   first | refine AA0 (wpAny_cRoomFor_or (.inr (by lia)) ?_) | skip
   refine AA0 (ABt hT F.slot_tuple_hash.lookup ?_);refine(show wpAny (model X.prog X.w) _ (if (some (Value.builtin "tuple.__hash__")==some ABj)=true then _ else _) Q E s from ?_);rw[if_neg (by rw[AEK];exact ABB)]
   refine AA0 (ABt hT F.slot_tuple_hash.lookup ?_);refine(show wpAny (model X.prog X.w) _ (callSpecialIfBoundUnlessNone? (.ref a) "__hash__" _ >>= _) Q E s from AA0 (ADC hT F.slot_tuple_hash (AAp F.slot_tuple_hash hT F.entry_tuple_hash ?_ (F.args_tuple_hash_1 _))));refine(show wpAny (model X.prog X.w) _ (ACU (.ref a) >>= _) _ _ s from AA0 (wpAny_tupleItemsOf ho hd (AA0 ?_)));rw[<-ABw];refine ABP _ (λaJ (b:Array Int) s'=>∃done left ws,ds=done++left/\Reps X.K ρ H left ws/\au ws aJ/\b.toList=done.map (hkD X.w n)/\∃tk,s'={ s with toks:=tk }) _ ?_ ?_ _ _ ⟨[],ds,vs,rfl,rr,by simpa using r2,rfl,s.toks,rfl⟩
   ·rintro x aJ b s' ⟨done,left,ws,e,h1,h2,hb,tk,rfl⟩
    cases h2 with
    | @cons v0 _ ws' _ q1 q2 =>
     cases h1 with
     | @cons d0 _ left' _ r0 t0 =>
      refine AA0 (ih _ _ d0 v0 x _ _ (by show A.units+1+n<cLine;lia) (I.tok tk) r0 q1 ?_ λtk'=>?_)
      ·have:=AAh.mp hks d0 (by rw[e];simp)
       exact this
      ·first
        | exact AA2 ⟨done++[d0],left',ws',by rw[e];simp,t0,q2,by simp[hb],tk',rfl⟩
        | exact AA0 (AA2 (AA2 ⟨done++[d0],left',ws',by rw[e];simp,t0,q2,by simp[hb],tk',rfl⟩))
   ·rintro b s' ⟨done,left,ws,e,h1,h2,hb,tk,rfl⟩
    cases h2
    cases h1
    rw[AB7]at e;subst e;refine(show wpAny (model X.prog X.w) _ (retInt (ABQ b.toList)) _ _ _ from ?_);rw[hb];refine wpAny_ret_mkInt ?_
    have key:hkD X.w (n+1) (.tup ds)=reduceHash (ABQ (ds.map (hkD X.w n))):=rfl;generalize ABQ (ds.map (hkD X.w n))=z at key;refine(show wpAny (model X.prog X.w) _ (if (decide (-(2:Int) ^ 63<=z)&&decide (z<2 ^ 63))=true then _ else _) Q E _ from ?_);unfold reduceHash at key;by_cases hr:(decide (-(2:Int) ^ 63<=z)&&decide (z<2 ^ 63))=true
    ·rw[if_pos hr]at key ⊢
     exact AA2 (by rw[<-key];exact h _)
    ·rw[if_neg hr]at key ⊢
     exact AA0 (ABU (AA2 (by rw[<-key];exact h _)))
  | _=>cases hk
end
section
variable{X:Cx}{pins:List (Addr×Obj)}{σ:St}{H:Hp}{ρ:List Addr}{M:Mem}
theorem hbv_D(sm:Sim X.K ρ M H):∀(n k:Nat) (A:Around) (s:Shared) (d:D) (v:V) (u:Value) (E:Value->Shared->Prop) (Q:Bool->Shared->Prop),n<=k->Inv X pins σ H s->Rep X.K ρ H d v->aI v u->cw n d=true->(∀b,Q b s)->wpAny (model X.prog X.w) A (hashByValue k u) Q E s:=by
 intro n;induction n with
 | zero =>
  intro k A s d v u E Q hk I r rv kd h;cases r with
  | str x=>obtain⟨t,rfl⟩:=rv;cases k<;>exact AA2 (h _)
  | int x=>obtain⟨t,rfl⟩:=rv;cases k<;>exact AA2 (h _)
  | _=>cases kd
 | succ n ih =>
  intro k A s d v u E Q hk I r rv kd h;cases r with
  | str x=>obtain⟨t,rfl⟩:=rv;cases k<;>exact AA2 (h _)
  | int x=>obtain⟨t,rfl⟩:=rv;cases k<;>exact AA2 (h _)
  | @tup a vs ds hq rr =>
   cases rv
   obtain⟨k,rfl⟩:∃k',k=k'+1:=⟨k-1,by lia⟩
   obtain⟨its,r2,p,_⟩:=I.tuple hq;obtain⟨o,ho,hc,nn,hd⟩:=id p;have hT:s.TypeIs (.ref a) "tuple":=⟨o,ho,hc⟩;have hks:ds.all (cw n)=true:=kd;unfold hashByValue;refine AA0 (ABt hT F.slot_tuple_hash.lookup ?_);dsimp only;refine AA0 (ACh ho hd ?_);simp only[Option.getD_some];rw[<-ABw];refine AA0 ?_
   refine ABP _ (λaJ r s'=>s'=s/\r.1=none/\∃left ws,(∀x∈left,cw n x=true)/\Reps X.K ρ H left ws/\au ws aJ) _ ?_ ?_ _ _ ⟨rfl,rfl,ds,vs,AAh.mp hks,rr,by simpa using r2⟩
   ·rintro x aJ r s' ⟨rfl,hr,left,ws,hl,h1,h2⟩
    cases h2 with
    | cons q1 q2 =>
     cases h1 with
     | cons r0 t0 =>
      refine AA0 (ih k _ _ _ _ x _ _ (by lia) I r0 q1 (hl _ AAI) λb=>?_)
      cases b with
      | false=>exact AA2 (AA2 (h _))
      | true=>exact AA2 ⟨rfl,rfl,_,_,λx hx=>hl x (AA9 _ hx),t0,q2⟩
   ·rintro⟨r1,r2⟩ s' ⟨rfl,hr,_⟩
    simp only at hr;subst hr;exact AA2 (h _)
  | _=>cases kd
theorem xv(sm:Sim X.K ρ M H):∀(n k:Nat) (A:Around) (s:Shared) (d:D) (v:V) (u:Value) (E:Value->Shared->Prop) (Q:Bool->Shared->Prop),n<=k->Inv X pins σ H s->Rep X.K ρ H d v->aI v u->cw n d=true->Q true s->wpAny (model X.prog X.w) A (eqIsQuiet k u) Q E s:=by
 intro n;induction n with
 | zero =>
  intro k A s d v u E Q hk I r rv kd h;cases r with
  | str x=>obtain⟨t,rfl⟩:=rv;rw[AC9 k (v:=.str x t) rfl];exact AA2 h
  | int x=>obtain⟨t,rfl⟩:=rv;rw[AC9 k (v:=.int x t) rfl];exact AA2 h
  | _=>cases kd
 | succ n ih =>
  intro k A s d v u E Q hk I r rv kd h;cases r with
  | str x=>obtain⟨t,rfl⟩:=rv;rw[AC9 k (v:=.str x t) rfl];exact AA2 h
  | int x=>obtain⟨t,rfl⟩:=rv;rw[AC9 k (v:=.int x t) rfl];exact AA2 h
  | @tup a vs ds hq rr =>
   cases rv
   obtain⟨k,rfl⟩:∃k',k=k'+1:=⟨k-1,by lia⟩
   obtain⟨its,r2,p,_⟩:=I.tuple hq;obtain⟨o,ho,hc,nn,hd⟩:=id p;have hT:s.TypeIs (.ref a) "tuple":=⟨o,ho,hc⟩;have hks:ds.all (cw n)=true:=kd;unfold eqIsQuiet;refine AA0 (ABt hT F.slot_tuple_eq.lookup ?_);refine(show wpAny (model X.prog X.w) A (isInstance (.ref a) (.type "tuple") >>= _) _ _ s from AA0 (ACZ hT isSubtype_tuple_tuple ?_));simp only[ABv,AAE,if_false];refine AA0 (ACh ho hd ?_);simp only[Option.getD_some];refine AA0 ?_
   rw[<-ABw];refine ABP _ (λaJ r s'=>s'=s/\r.1=none/\∃left ws,(∀x∈left,cw n x=true)/\Reps X.K ρ H left ws/\au ws aJ) _ ?_ ?_ _ _ ⟨rfl,rfl,ds,vs,AAh.mp hks,rr,by simpa using r2⟩
   ·rintro x aJ r s' ⟨rfl,hr,left,ws,hl,h1,h2⟩
    cases h2 with
    | cons q1 q2 =>
     cases h1 with
     | cons r0 t0 =>
      refine AA0 (ih k _ _ _ _ x _ _ (by lia) I r0 q1 (hl _ AAI) ?_)
      simp only[ABv,AAE,if_false];exact AA2 ⟨rfl,rfl,_,_,λx hx=>hl x (AA9 _ hx),t0,q2⟩
   ·rintro⟨r1,r2⟩ s' ⟨rfl,hr,_⟩
    simp only at hr;subst hr;exact AA2 h
  | _=>cases kd
theorem HP(sm:Sim X.K ρ M H):∀(n k:Nat) (A:Around) (s:Shared) (d:D) (v:V) (u:Value) (E:Value->Shared->Prop) (Q:Bool->Shared->Prop),n<=k->Inv X pins σ H s->Rep X.K ρ H d v->aI v u->cw n d=true->Q false s->wpAny (model X.prog X.w) A (ofAClassStatement k u) Q E s:=by
 intro n;induction n with
 | zero =>
  intro k A s d v u E Q hk I r rv kd h;cases r with
  | str x=>obtain⟨t,rfl⟩:=rv;cases k<;>exact AA2 h
  | int x=>obtain⟨t,rfl⟩:=rv;cases k<;>exact AA2 h
  | _=>cases kd
 | succ n ih =>
  intro k A s d v u E Q hk I r rv kd h;cases r with
  | str x=>obtain⟨t,rfl⟩:=rv;cases k<;>exact AA2 h
  | int x=>obtain⟨t,rfl⟩:=rv;cases k<;>exact AA2 h
  | @tup a vs ds hq rr =>
   cases rv
   obtain⟨k,rfl⟩:∃k',k=k'+1:=⟨k-1,by lia⟩
   obtain⟨its,r2,p,_⟩:=I.tuple hq;obtain⟨o,ho,hc,nn,hd⟩:=id p;have hT:s.TypeIs (.ref a) "tuple":=⟨o,ho,hc⟩;have hks:ds.all (cw n)=true:=kd;unfold ofAClassStatement;refine AA0 (ACO hT ?_);dsimp only;simp only[beq_self_eq_true,if_true];refine AA0 (AA2 ?_);simp only[ABv,AAE,if_false];refine AA0 (ACh ho hd ?_);dsimp only;refine AA0 ?_
   rw[<-ABw];refine ABP _ (λaJ r s'=>s'=s/\r.1=none/\∃left ws,(∀x∈left,cw n x=true)/\Reps X.K ρ H left ws/\au ws aJ) _ ?_ ?_ _ _ ⟨rfl,rfl,ds,vs,AAh.mp hks,rr,by simpa using r2⟩
   ·rintro x aJ r s' ⟨rfl,hr,left,ws,hl,h1,h2⟩
    cases h2 with
    | cons q1 q2 =>
     cases h1 with
     | cons r0 t0 =>
      refine AA0 (ih k _ _ _ _ x _ _ (by lia) I r0 q1 (hl _ AAI) ?_)
      simp only[AAE,if_false];exact AA2 ⟨rfl,rfl,_,_,λx hx=>hl x (AA9 _ hx),t0,q2⟩
   ·rintro⟨r1,r2⟩ s' ⟨rfl,hr,_⟩
    simp only at hr;subst hr;exact AA2 h
  | _=>cases kd
end
def gG:D->Bool
 | .tup _=>true
 | _=>false
def Ent(X:Cx)(ρ:List Addr)(H:Hp)(n:Nat)(d:D)(e:Int×Value):Prop:=(∃v,Rep X.K ρ H d v/\aI v e.2)/\e.1=hkD X.w n d/\cw n d=true/\gG d=true
structure KSet(X:Cx)(ρ:List Addr)(H:Hp)(h:Heap)(a:Addr)(n:Nat)(ds:List D)(o:Obj)(es:Array (Int×Value))(ep:Nat)(t:SetTable):Prop where
 ob:h.get? a=some o
 ex:o.ExactSet
 dt:o.data=.set es ep t
 en:Paired (Ent X ρ H n) ds es.toList
 nd:ds.Nodup
 tk:Ht.TOk t (es.toList.map (·.1))
 ld:t.led = !X.w.params.followText "set-order"
def cU{α β:Type}{R:α->β->Prop}:∀{xs:List α}{ys:List β}{i:Nat}{y:β},Paired R xs ys->ys[i]?=some y->∃x,xs[i]?=some x/\R x y
 | _,_,i,y,.nil,e=>by simp at e
 | _,_,0,y,.cons r _,e=>by simp at e;subst e;exact⟨_,rfl,r⟩
 | _,_,i+1,y,.cons _ t,e=>by
  obtain⟨x,h1,h2⟩:=cU (i:=i) t (by simpa using e)
  exact⟨x,by simpa using h1,h2⟩
def iA{α β:Type}{R:α->β->Prop}:∀{xs:List α}{ys:List β}{i:Nat}{x:α},Paired R xs ys->xs[i]?=some x->∃y,ys[i]?=some y/\R x y
 | _,_,i,y,.nil,e=>by simp at e
 | _,_,0,y,.cons r _,e=>by simp at e;subst e;exact⟨_,rfl,r⟩
 | _,_,i+1,y,.cons _ t,e=>by
  obtain⟨x,h1,h2⟩:=iA (i:=i) t (by simpa using e)
  exact⟨x,by simpa using h1,h2⟩
def KSet.fits(S:KSet X ρ H h a n ds o es ep t):t.fits es.size=true:=by
 have h1:=S.tk.len;have h2:=S.tk.few;rw[AA4,AAL]at h1;unfold ADw;have h3:t.fill=t.place.size:=by unfold AEl;rw[S.tk.nod];rfl
 rw[h3];simp only[AAY,beq_iff_eq,decide_eq_true_eq];lia
section
variable{X:Cx}{pins:List (Addr×Obj)}{σ:St}{H:Hp}{ρ:List Addr}{M:Mem}{A:Around}{E:Value->Shared->Prop}{s:Shared}{a:Addr}{n:Nat}{ds:List D}{o:Obj}{es:Array (Int×Value)}{ep:Nat}{t:SetTable}
def zF(sm:Sim X.K ρ M H)(I:Inv X pins σ H s)(hn:n<=8)(r:Rep X.K ρ H d v)(rv:aI v u)(kd:cw n d=true)(h:Q false s) :
  ∀(l:List Value),(∀y∈l,∃d' v',Rep X.K ρ H d' v'/\aI v' y/\cw n d'=true)->wpAny (model X.prog X.w) A (searchCouldBeSeen u l) Q E s:=by
 intro l hl;unfold searchCouldBeSeen;refine AA0 ?_
 refine ABP _ (λaJ r s'=>s'=s/\r.1=none/\∀y∈aJ,∃d' v',Rep X.K ρ H d' v'/\aI v' y/\cw n d'=true) _ ?_ ?_ _ _ ⟨rfl,rfl,hl⟩
 ·rintro y aJ r' s' ⟨rfl,hr,hy⟩
  have tl:∀z∈aJ,∃d' v',Rep X.K ρ H d' v'/\aI v' z/\cw n d'=true:=λz hz=>hy z (AA9 _ hz)
  obtain⟨d',v',r1,r2,kd'⟩:=hy y AAI;dsimp only;refine ABu (λ_=>AA2 ⟨rfl,rfl,tl⟩) λ_=>?_
  refine AA0 (xv sm n 8 A _ d v u _ _ hn I r rv kd ?_);simp only[ABv,AAE,if_false];refine AA0 (xv sm n 8 A _ d' v' y _ _ hn I r1 r2 kd' ?_);simp only[ABv,AAE,if_false];refine AA0 (HP sm n 8 A _ d v u _ _ hn I r rv kd ?_);simp only[AAE,if_false];refine AA0 (HP sm n 8 A _ d' v' y _ _ hn I r1 r2 kd' ?_);simp only[AAE,if_false];exact AA2 ⟨rfl,rfl,tl⟩
 ·rintro⟨r1,r2⟩ s' ⟨rfl,hr,_⟩
  simp only at hr;subst hr;exact AA2 h
def zR(sm:Sim X.K ρ M H)(I:Inv X pins σ H s)(hn:n<=8)(hu:A.units+n<cLine)(S:KSet X ρ H s.heap a n ds o es ep t)(r:Rep X.K ρ H d v)(rv:aI v u)(kd:cw n d=true)
  (hthere:d∈ds->Q (.there none) s) (hN1:N<10*(t.mask+15)) (hN2:(Ht.sq t.mask (hkD X.w n d) N).j∉t.place.toList) (hN3:∀k,k<N->(Ht.sq t.mask (hkD X.w n d) k).j∈t.place.toList)
  (hfree:d∉ds->Q (.free (Ht.sq t.mask (hkD X.w n d) N).j false) s) :
  ∀(fuel m:Nat) (stand:Option ACi),m<=N->N<m+fuel->stand.getD (t.probeStart (hkD X.w n d))=Ht.sq t.mask (hkD X.w n d) m->(∀k i:Nat,k<m->t.place[i]?=some (Ht.sq t.mask (hkD X.w n d) k).j->ds[i]?≠some d) ->
   wpAny (model X.prog X.w) A (setSearchFrom a u (hkD X.w n d) true fuel stand) Q E s:=by
 intro fuel;induction fuel with
 | zero=>intro m stand h1 h2;lia
 | succ fuel ih =>
  intro m stand h1 h2 hs hb;unfold setSearchFrom;refine AA0 (ABK S.ob S.dt S.fits ?_);dsimp only;have gw:t.gaveWay=false:=by
   unfold SetTable.gaveWay;rcases S.tk.msk with e | e | e<;>rw[e]<;>rfl
  rw[gw];simp only[AAE,if_false];rw[hs];rcases Ht.go_spec S.tk.ris S.tk.nod (λi=>(es[i]?.map (·.1)).getD 0) (hkD X.w n d) (10*ADY t.mask) m N h1 (by unfold ADY;lia) hN2 (λk _ hk=>hN3 k hk) (Ht.sq_dummy _ _)with⟨z1,z2⟩|⟨m',i,a1,a2,a3,a4,a5,a6⟩
  ·generalize hpr:SetTable.probe t _ (hkD X.w n d) (Ht.sq t.mask (hkD X.w n d) m)=pr
   obtain rfl:pr=_:=hpr.symm.trans z2;dsimp only;refine AA2 (hfree λhd=>?_)
   obtain⟨i,hi⟩:=AB9 hd;obtain⟨e,he,_,eh,_⟩:=iA S.en hi;have he':es[i]?=some e:=by rw[<-AAS];exact he
   have hh:(es.toList.map (·.1))[i]?=some (hkD X.w n d):=by rw[AAV,he];exact congrArg some eh
   have hl:i<t.place.size:=by rw[S.tk.len];exact(AA7.mp hh).1
   obtain⟨ni,b1,b2⟩:=S.tk.path i _ t.place[i] hh (AAM hl);have hlt:ni<N:=by
    rcases ADM ni N with q | q | q
    ·exact q
    ·subst q
     exact absurd (show (Ht.sq t.mask (hkD X.w n d) ni).j∈t.place.toList by rw[b1];simp) hN2
    ·exact absurd (b2 N q) hN2
   have hp:t.place[i]?=some (Ht.sq t.mask (hkD X.w n d) ni).j:=by rw[b1];exact AAM hl
   rcases ABd ni m with q | q
   ·exact hb ni i q hp hi
   ·refine z1 ni i q hlt hp ?_
    rw[he'];exact eh
  ·generalize hpr:SetTable.probe t _ (hkD X.w n d) (Ht.sq t.mask (hkD X.w n d) m)=pr
   obtain rfl:pr=_:=hpr.symm.trans a6;dsimp only;have hil:i<es.size:=by
    have:=(AAw.mp a3).1;rw[S.tk.len,AA4,AAL]at this;exact this
   have hei:es[i]?=some es[i]:=AAM hil;obtain⟨d0,hd0,⟨v0,r0,rv0⟩,eh0,kd0,it0⟩:=cU S.en (i:=i) (y:=es[i]) (by rw[AAS];exact hei)
   have seen:∀(f:Bool->Sem SetFound),wpAny (model X.prog X.w) A (f false) Q E s->wpAny (model X.prog X.w) A (searchCouldBeSeen u ((es.filter (·.1==hkD X.w n d)).toList.map (·.2)) >>= f) Q E s:=λf hf=>by
    refine AA0 (zF sm I hn r rv kd hf _ λy hy=>?_)
    obtain⟨e,he,rfl⟩:=AAK.mp hy;have he2:e∈es.toList:=by
     have:e∈es.filter (·.1==hkD X.w n d):=by simpa using he
     simpa using(Array.mem_filter.mp this).1
    obtain⟨j,hj⟩:=AB9 he2;obtain⟨d1,_,⟨v1,r1,rv1⟩,_,kd1,_⟩:=cU S.en hj;exact⟨d1,v1,r1,rv1,kd1⟩
   have hbv:∃b,es[i].2=AB6 b:=by
    cases r0 with
    | tup _ _=>exact⟨_,rv0⟩
    | _=>cases it0
   obtain⟨b,hbv⟩:=hbv;have heq:ACP A s es[i].2 u (eqD M n d0 d):=(jo I sm n A d0 d v0 v es[i].2 u hu r0 rv0 r rv (oE n d0 kd0) (oE n d kd)).1;refine ABu (λ_=>seen _ ?_) λ_=>?_
   ·simp only[AAE,if_false]
    rw[hei];dsimp only;refine AA0 (AAZ (heq _ _ _ _ (AA0 (ABK S.ob S.dt S.fits ?_))));dsimp only;by_cases hq:eqD M n d0 d=true
    ·rw[hq]
     simp only[Bool.and_self,if_true];have:d0=d:=(gU n d0 d kd0 kd).mp hq;subst this;exact AA2 (hthere (AAc hd0))
    ·rw[ABl.mpr hq]
     simp only[AEe,AAE,if_false];have sm':t.sameMemory t.moves t.mask=some true:=by unfold SetTable.sameMemory;simp
     rw[sm'];dsimp only;simp only[if_true];rw[Ht.slot_live S.tk.ris a3];dsimp only;rw[hei];have sam:wpAny (model X.prog X.w) A (isSame es[i].2 es[i].2) (λb s'=>b=true/\s'=s) E s:=by
      unfold isSame;rw[hbv];simp only[beq_self_eq_true,if_true];exact AA2 (And.intro rfl rfl)
     refine AA0 (ABA sam (λb s' ⟨e1,e2⟩=>?_) λ_ _ z=>z)
     subst e1 e2;refine AA0 (AA2 ?_);simp only[if_true];refine ih (m'+1) _ (by lia) (by lia) rfl λk i' hk hp hds=>?_
     rcases ABd k m with q | q
     ·exact hb k i' q hp hds
     ·rcases ABd k m' with q' | q'
      ·refine a5 k i' q q' hp ?_
       obtain⟨e,he,_,eh,_⟩:=iA S.en hds;have he':es[i']?=some e:=by rw[<-AAS];exact he
       rw[he'];exact eh
      ·have:k=m':=by lia
       subst this;have:i'=i:=by rw[<-Ht.below_at S.tk.ris hp,Ht.below_at S.tk.ris a3]
       subst this;rw[hd0]at hds;cases hds
       exact hq ((gU n d d kd kd).mpr rfl)
   ·rw[hei]
    dsimp only;refine AA0 (AAZ (heq _ _ _ _ (AA0 (ABK S.ob S.dt S.fits ?_))));dsimp only;by_cases hq:eqD M n d0 d=true
    ·rw[hq]
     simp only[Bool.and_self,if_true];have:d0=d:=(gU n d0 d kd0 kd).mp hq;subst this;exact AA2 (hthere (AAc hd0))
    ·rw[ABl.mpr hq]
     simp only[AEe,AAE,if_false];have sm':t.sameMemory t.moves t.mask=some true:=by unfold SetTable.sameMemory;simp
     rw[sm'];dsimp only;simp only[if_true];rw[Ht.slot_live S.tk.ris a3];dsimp only;rw[hei];have sam:wpAny (model X.prog X.w) A (isSame es[i].2 es[i].2) (λb s'=>b=true/\s'=s) E s:=by
      unfold isSame;rw[hbv];simp only[beq_self_eq_true,if_true];exact AA2 (And.intro rfl rfl)
     refine AA0 (ABA sam (λb s' ⟨e1,e2⟩=>?_) λ_ _ z=>z)
     subst e1 e2;refine AA0 (AA2 ?_);simp only[if_true];refine ih (m'+1) _ (by lia) (by lia) rfl λk i' hk hp hds=>?_
     rcases ABd k m with q | q
     ·exact hb k i' q hp hds
     ·rcases ABd k m' with q' | q'
      ·refine a5 k i' q q' hp ?_
       obtain⟨e,he,_,eh,_⟩:=iA S.en hds;have he':es[i']?=some e:=by rw[<-AAS];exact he
       rw[he'];exact eh
      ·have:k=m':=by lia
       subst this;have:i'=i:=by rw[<-Ht.below_at S.tk.ris hp,Ht.below_at S.tk.ris a3]
       subst this;rw[hd0]at hds;cases hds
       exact hq ((gU n d d kd kd).mpr rfl)
end
def Paired.ins{α β:Type}{R:α->β->Prop}{x:α}{y:β}(r:R x y):∀{xs:List α}{ys:List β} (p:Nat),Paired R xs ys->Paired R (xs.take p++x::xs.drop p) (ys.take p++y::ys.drop p)
 | _,_,0,h=>by simpa using .cons r h
 | _,_,p+1,.nil=>.cons r .nil
 | _,_,p+1,.cons h t=>.cons h (Paired.ins r p t)
def Paired.pick{α β:Type}{R:α->β->Prop}:∀{xs:List α}{ys:List β} (is:List Nat),Paired R xs ys->(∀i∈is,i<xs.length)->Paired R (is.filterMap (xs[·]?)) (is.filterMap (ys[·]?))
 | _,_,[],_,_=>.nil
 | xs,ys,i::is,h,hi=>by
  have hl:=hi i AAI;have e:xs[i]?=some xs[i]:=AA5 hl;obtain⟨y,hy,r⟩:=iA h e;rw[AC4,AC4,e,hy];exact .cons r (Paired.pick is h λj hj=>hi j (AA9 _ hj))
def mL{α:Type}{l:List α}{is:List Nat}(h:is.Perm (AAu l.length)):(is.filterMap (l[·]?)).Perm l:=by
 have:=h.filterMap (l[·]?)
 rwa [List.filterMap_getElem?_range_length]at this
section
variable{X:Cx}{pins:List (Addr×Obj)}{σ:St}{H:Hp}{ρ:List Addr}{M:Mem}{A:Around}{E:Value->Shared->Prop}{s:Shared}{a:Addr}{n:Nat}{ds:List D}{o:Obj}{es:Array (Int×Value)}{ep:Nat}{t:SetTable}
def KS(X:Cx)(ρ:List Addr)(H:Hp)(h:Heap)(a:Addr)(n:Nat)(ds:List D):Prop:=∃o es ep t,KSet X ρ H h a n ds o es ep t
set_option maxHeartbeats 1000000 in
theorem add_D(sm:Sim X.K ρ M H)(I:Inv X pins σ H s)(hn:n<=8)(hu:A.units+n+1<cLine)(S:KS X ρ H s.heap a n ds)(h60:ds.length+1<=64)(r:Rep X.K ρ H d v)(rv:aI v u)(kd:cw n d=true)(it:gG d=true)
  (h:∀b h' tk ds',(∀c u,c≠a->s.heap.get? c=some u->h'.get? c=some u)->KS X ρ H h' a n ds'->(∀x,x∈ds'↔x∈ds\/x=d)->ds'.length<=ds.length+1->Q b { s with heap:=h',toks:=tk }) :
  wpAny (model X.prog X.w) A (setAdd a u) Q E s:=by
 obtain⟨o,es,ep,t,S⟩:=S;obtain⟨ra,rfl⟩:∃ra,u=AB6 ra:=by
  cases r with
  | tup _ _=>exact⟨_,rv⟩
  | _=>cases it
 unfold setAdd;refine AAZ (AA0 (GU sm n A s d v _ _ _ (by lia) I r rv kd λtk=>?_))
 unfold setAddHashed setAddHashedIn;refine AAZ (AA0 (ABK (s:={ s with toks:=tk }) S.ob S.dt S.fits ?_))
 dsimp only;have bs:byScan (.ref ra) es=false:=rfl;rw[bs];simp only[AAE,if_false];obtain⟨N,hN1,hN2,hN3⟩:=S.tk.empty (hkD X.w n d);have I1:Inv X pins σ H { s with toks:=tk }:=I.tok tk
 unfold setSearch;refine AA0 (zR (s:={ s with toks:=tk }) sm I1 hn (by lia) S r rv kd (λhd=>?_) hN1 hN2 hN3 (λhd=>?_) 100000 0 none (AAX _) ?_ rfl λk i hk=>absurd hk (ABs _))
 ·exact AA2 (h _ s.heap tk ds (λ_ _ _ e=>e) ⟨o,es,ep,t,S⟩ (λx=>⟨.inl,λz=>z.elim id λe=>e ▸ hd⟩) (ADc _))
 ·dsimp only
  refine AA0 (ABK (s:={ s with toks:=tk }) S.ob S.dt S.fits ?_)
  dsimp only;have len:=S.tk.len;rw[AA4,AAL]at len;have dl:ds.length=es.size:=by have:=Paired.length S.en;simpa using this
  have fin:∀pl:Bool,wpAny (model X.prog X.w) A (do
    storeSet a (AE5 es (t.put (Ht.sq t.mask (hkD X.w n d) N).j).2 (hkD X.w n d,AB6 ra)) { (t.put (Ht.sq t.mask (hkD X.w n d) N).j).1 with plain:=pl }
    if (!false&&({ (t.put (Ht.sq t.mask (hkD X.w n d) N).j).1 with plain:=pl }:SetTable).tooFull)=true then do
      setRelay a (AD4 (es.size+1))
      pure true
     else pure true) Q E { s with toks:=tk }:=λpl=>by
   obtain⟨pb,T1⟩:=Ht.put_pre S.tk hN2 hN3 pl;have ld1:({ (t.put (Ht.sq t.mask (hkD X.w n d) N).j).1 with plain:=pl }:SetTable).led=t.led:=rfl
   have mk1:({ (t.put (Ht.sq t.mask (hkD X.w n d) N).j).1 with plain:=pl }:SetTable).mask=t.mask:=rfl
   generalize ({ (t.put (Ht.sq t.mask (hkD X.w n d) N).j).1 with plain:=pl }:SetTable)=t1 at T1 ld1 mk1
   generalize (t.put (Ht.sq t.mask (hkD X.w n d) N).j).2=p at pb T1;rw[AA4,AAL]at pb;have e1:(AE5 es p (hkD X.w n d,AB6 ra)).toList=es.toList.take p++(hkD X.w n d,AB6 ra)::es.toList.drop p:=SetTable.toList_insertAt ..;generalize AE5 es p (hkD X.w n d,AB6 ra)=es1 at e1;have hs1:es1.toList.map (·.1)=(es.toList.map (·.1)).take p++hkD X.w n d::(es.toList.map (·.1)).drop p:=by rw[e1,AAW,AAQ,List.map_take,List.map_drop]
   rw[<-hs1]at T1;have sz1:es1.size=es.size+1:=by
    have:=congrArg ABr e1;rw[AAL,AAA,AAN,AAy,ABh,AAL]at this;lia
   have en1:Paired (Ent X ρ H n) (ds.take p++d::ds.drop p) es1.toList:=by
    rw[e1];exact Paired.ins ⟨⟨v,r,rv⟩,rfl,kd,it⟩ p S.en
   have pm:(ds.take p++d::ds.drop p).Perm (d::ds):=by
    refine List.perm_middle.trans (AEf d ?_);rw[ACe]
   have nd1:(ds.take p++d::ds.drop p).Nodup:=pm.nodup_iff.mpr (ABH.mpr ⟨hd,S.nd⟩);have fit1:t1.fits es1.size=true:=by
    have l1:=T1.len;rw[AA4,AAL]at l1;have h3:t1.fill=t1.place.size:=by unfold AEl;rw[T1.nod];rfl
    have fw:=S.tk.few;unfold ADw;rw[h3];simp only[AAY,beq_iff_eq,decide_eq_true_eq];rw[len]at fw;rcases S.tk.msk with e | e | e<;>rw[mk1,e]<;>rw[e]at fw<;>lia
   have zz:es1.size<=sizeLine:=by rw[ABq];lia
   refine AA0 (wpAny_storeSet_of (s:={ s with toks:=tk }) S.ob S.dt ?_ zz)
   have ob1:(s.heap.update a (AEj es1 t1)).get? a=some { o with data:=.set es1 (ep+1) t1 }:=by
    have q:=AAf (AEj es1 t1) S.ob (by rw[putSet_of es1 t1 S.dt];rfl)
    rwa [putSet_of es1 t1 S.dt]at q
   have oth:∀c u,c≠a->s.heap.get? c=some u->(s.heap.update a (AEj es1 t1)).get? c=some u:=λc u hc e=>(AC2 _ _ (ABO hc)).trans e
   by_cases tf:t1.tooFull=true
   ·rw[tf]
    simp only[Bool.not_false,Bool.and_self,if_true];have hbd:((es1.toList.map (·.1)).length-1)*5<t1.mask*3:=by
     have fw:=S.tk.few;rw[len]at fw;rw[AA4,AAL,sz1,mk1];simpa using fw
    obtain⟨zl,t2,ord,g1,g2,T2,ld2⟩:=T1.anew tf hbd (by rw[AA4,AAL];lia)
    rw[AA4,AAL]at g2 zl;have eg:AD4 (es.size+1)=AD4 (es1.toList.map (·.1)).length:=by rw[AA4,AAL,sz1]
    unfold setRelay;refine AA0 (AA0 (ABK (s:={ s with heap:=_,toks:=tk }) ob1 rfl fit1 ?_))
    dsimp only;rw[eg];have nz:¬AEb (AD4 (es1.toList.map (·.1)).length) > sizeLine:=by
     rw[AA4,AAL];lia
    simp only[nz,if_false];have ea:es1.map (·.1)=(es1.toList.map (·.1)).toArray:=by apply Array.ext';simp
    rw[ea,g1];have es2:(ord.filterMap (es1[·]?)).toList=ord.toList.filterMap (es1.toList[·]?):=by
     rw[Array.toList_filterMap];congr 1;funext i;rw[AAS]
    have sz2:(ord.filterMap (es1[·]?)).size=es1.size:=by
     have:=(mL (l:=es1.toList) (is:=ord.toList) (by rw[AAL];exact g2)).length_eq
     rw[<-es2,AAL,AAL]at this;exact this
    refine AA0 (show wpAny (model X.prog X.w) A (if ((ord.filterMap (es1[·]?)).size != es1.size)=true then _ else pure (ord.filterMap (es1[·]?),t2)) _ _ _ from ?_);rw[if_neg (by rw[sz2];simp)]
    refine AA2 ?_
    generalize ord.filterMap (es1[·]?)=es2' at es2 sz2;have pm2:(ord.toList.filterMap ((ds.take p++d::ds.drop p)[·]?)).Perm (ds.take p++d::ds.drop p):=mL (by
     have:(ds.take p++d::ds.drop p).length=es1.size:=by rw[pm.length_eq,AAN,dl,sz1]
     rw[this];exact g2)
    refine wpAny_storeSet_of (s:={ s with heap:=_,toks:=tk }) ob1 rfl ?_ (by rw[sz2];exact zz)
    have ob2:((s.heap.update a (AEj es1 t1)).update a (AEj es2' t2)).get? a=some { o with data:=.set es2' (ep+1+1) t2 }:=by
     have q:=AAf (AEj es2' t2) ob1 (by rw[putSet_of es2' t2 (es:=es1) (ep:=ep+1) (t:=t1) rfl];rfl)
     rwa [putSet_of es2' t2 (es:=es1) (ep:=ep+1) (t:=t1) rfl]at q
    refine AA2 (h _ _ tk (ord.toList.filterMap ((ds.take p++d::ds.drop p)[·]?)) (λc u hc e=>(AC2 _ _ (ABO hc)).trans (oth c u hc e)) ⟨_,es2',_,t2,ob2,S.ex,rfl,?_,pm2.nodup_iff.mpr nd1,?_,ld2.trans (ld1.trans S.ld)⟩ (λx=>?_) ?_)
    ·rw[es2]
     refine Paired.pick _ en1 λi hi=>?_
     have:=g2.mem_iff.mp hi;rw[AB2]at this;rw[pm.length_eq,AAN,dl,<-sz1];exact this
    ·have e2:es2'.toList.map (·.1)=ord.toList.map λi=>(es1.toList.map (·.1)).getD i 0:=by
      rw[es2];have:∀(is:List Nat),(∀i∈is,i<es1.toList.length)->(is.filterMap (es1.toList[·]?)).map (·.1)=is.map λi=>(es1.toList.map (·.1)).getD i 0:=by
       intro is;induction is with
       | nil=>intro _;rfl
       | cons i is ih =>
        intro hi;have hl:=hi i AAI;rw[AC4,AA5 hl,AAQ,AAQ,ih λj hj=>hi j (AA9 _ hj)]
        congr 1;rw[AAU,AAV,AA5 hl];rfl
      refine this _ λi hi=>?_
      have:=g2.mem_iff.mp hi;rw[AB2]at this;rw[AAL];exact this
     rw[e2];exact T2
    ·rw[pm2.mem_iff,pm.mem_iff,AAJ]
     exact⟨λz=>z.symm,λz=>z.symm⟩
    ·rw[pm2.length_eq,pm.length_eq];exact AA8 _
   ·rw[ABl.mpr tf]
    simp only[AEe,AAE,if_false];refine AA2 (h _ _ tk _ oth ⟨_,es1,_,t1,ob1,S.ex,rfl,en1,nd1,T1.ok (ABl.mpr tf),ld1.trans S.ld⟩ (λx=>?_) ?_)
    ·rw[pm.mem_iff,AAJ]
     exact⟨λz=>z.symm,λz=>z.symm⟩
    ·rw[pm.length_eq];exact AA8 _
  refine ABu (λ_=>AA0 (hbv_D sm n 8 A _ d v _ _ _ hn I1 r rv kd λb=>?_)) λ_=>?_
  ·cases b with
   | true=>exact fin (t.put (Ht.sq t.mask (hkD X.w n d) N).j).1.plain
   | false=>exact fin false
  ·exact fin (t.put (Ht.sq t.mask (hkD X.w n d) N).j).1.plain
 ·have:=hN1
  rcases S.tk.msk with e | e | e<;>rw[e]at this<;>lia
end
section
variable{X:Cx}{pins:List (Addr×Obj)}{σ:St}{H:Hp}{ρ:List Addr}{M:Mem}{A:Around}{E:Value->Shared->Prop}{s:Shared}{n:Nat}
def KS.at(x:KS X ρ H h a n ds)(k:∀o,h.get? a=some o->h'.get? a=some o):KS X ρ H h' a n ds:=by
 obtain⟨o,es,ep,t,S⟩:=x;exact⟨o,es,ep,t,k _ S.ob,S.ex,S.dt,S.en,S.nd,S.tk,S.ld⟩
def DR(sm:Sim X.K ρ M H)(I:Inv X pins σ H s)(hn:n<=8)(hu:A.units+n+2<cLine)(W:Walks X.prog X.w A.in1 J fp wr m P Sx)(S:Addr)(hSf:S∉fp)
  (hS0:s.heap.get? S=none) (hw0:∀b∈wr,s.heap.get? b=none) (val:Nat->D) (hval:∀i v,P i v->∃vv,Rep X.K ρ H (val i) vv/\aI vv v/\cw n (val i)=true/\gG (val i)=true) (hb:m<=63) :
  ∀(k i:Nat) (h:Heap) (tk:Nat) (ds:List D),m-i=k->i<=m->Sx i h->KS X ρ H h S n ds->(∀x,x∈ds↔∃j,j<i/\val j=x)->ds.length<=i->(∀b u,s.heap.get? b=some u->h.get? b=some u) ->
   (∀h' tk ds',(∀b u,s.heap.get? b=some u->h'.get? b=some u)->KS X ρ H h' S n ds'->(∀x,x∈ds'↔∃j,j<m/\val j=x)->ds'.length<=m->R (.ok (.ret .none)) { s with heap:=h',toks:=tk }) ->
   codeAny (model X.prog X.w) A (.builtin "set.update.loop" ⟨[.ref S,.ref J],[]⟩) R { s with heap:=h,toks:=tk }:=by
 have hSw:S∉wr:=λh=>hSf (W.sub _ h)
 intro k;induction k with
 | zero =>
  intro i h tk ds hk hi hst hS hm hl hold hR;obtain rfl:i=m:=by lia
  refine ABX F.entry_set_update_loop ?_
  rw[ABS F.plain_set_update_loop _];refine(show wpAny (model X.prog X.w) A.in1 (pyNext (.ref J) >>= _) _ _ _ from AA0 (W.done _ _ _ hst λh' tk hk'=>?_))
  refine AA2 (hR h' tk ds (λb u e=>hk' b u (λz=>by rw[hw0 b z]at e;cases e) (hold b u e)) (hS.at λo e=>hk' S o hSw e) hm hl)
 | succ k ih =>
  intro i h tk ds hk hi hst hS hm hl hold hR;refine ABX F.entry_set_update_loop ?_
  rw[ABS F.plain_set_update_loop _];refine(show wpAny (model X.prog X.w) A.in1 (pyNext (.ref J) >>= _) _ _ _ from AA0 (W.item i _ _ _ (by lia) hst λv h' tk hP hst' hk'=>?_))
  obtain⟨vv,r,rv,kd,it⟩:=hval i v hP;have old':∀b u,s.heap.get? b=some u->h'.get? b=some u:=λb u e=>hk' b u (λz=>by rw[hw0 b z]at e;cases e) (hold b u e)
  have I':Inv X pins σ H { s with heap:=h',toks:=tk }:=I.kept old'
  refine AA0 (AAZ (add_D (s:={ s with heap:=h',toks:=tk }) sm I' hn (by show A.units+1+n+1<cLine;lia) (hS.at λo e=>hk' S o hSw e) (by lia) r rv kd it λb h2 tk2 ds2 k2 hS2 hm2 hl2=>?_))
  refine AA2 ⟨ACa F.plain_set_update_loop _,ih (i+1) h2 tk2 ds2 (by lia) (by lia) (W.frame _ h' h2 hst' λb' hb' o e=>k2 b' o (λz=>hSf (z ▸ hb')) e) hS2 (λx=>?_) (by lia) (λb u e=>k2 b u (λz=>by rw[z,hS0]at e;cases e) (old' b u e)) hR⟩
  rw[hm2,hm];constructor
  ·rintro(⟨j,hj,e⟩ | rfl)
   ·exact⟨j,by lia,e⟩
   ·exact⟨i,by lia,rfl⟩
  ·rintro⟨j,hj,rfl⟩
   by_cases q:j=i
   ·subst q;exact .inr rfl
   ·exact .inl ⟨j,by lia,rfl⟩
def AC(e:h.get? a=some (aV X.w)):KS X ρ H h a n [] :=
 ⟨_,#[],0,_,e,⟨rfl,rfl,rfl⟩,rfl,.nil,AD5,⟨.inl rfl,rfl,rfl,ADJ,λj hj=>by simp[SetTable.fresh]at hj,(by show 0*5<7*3;decide),λi h j hh=>by simp at hh⟩,rfl⟩
end
section
variable{X:Cx}{pins:List (Addr×Obj)}{σ:St}{H:Hp}{ρ:List Addr}{M:Mem}{A:Around}{E:Value->Shared->Prop}{s:Shared}{m:Nat}
def Ea(sm:Sim X.K ρ M H)(I:Inv X pins σ H s)(hm8:m<=8)(hu:A.units+m+3<cLine){l:Addr}{T:String}{n:Nat}{P:Nat->Value->Prop}{G:Shared->Prop}(hh:A.handled=none)(K:TxSrc X.prog X.w s.heap l T n P)(val:Nat->D)(hval:∀i v,P i v->∃vv,Rep X.K ρ H (val i) vv/\aI vv v/\cw m (val i)=true/\gG (val i)=true)(hb:n<=63)
  (h:∀h' tk ds,(∀b o,s.heap.get? b=some o->h'.get? b=some o)->KS X ρ H h' s.heap.objs.size m ds->(∀x,x∈ds↔∃j,j<n/\val j=x)->ds.length<=n->G { s with heap:=h',toks:=tk }) :
  wpAny (model X.prog X.w) A (Builtin.«set.__init__» ⟨[.ref s.heap.objs.size,.ref l],[]⟩) (λfin s'=>fin=.done (.ret .none)/\G s') E { s with heap:=s.heap.push (aV X.w) }:=by
 have hS:(s.heap.push (aV X.w)).get? s.heap.objs.size=some (aV X.w):=AAC _ rfl;have hT:ADR { s with heap:=s.heap.push (aV X.w) } (.ref s.heap.objs.size) "set":=⟨_,hS,rfl⟩
 obtain⟨ol,hol,hcl⟩:=K.obj;have hol':(s.heap.push (aV X.w)).get? l=some ol:=AA3 _ hol;have hTl:ADR { s with heap:=s.heap.push (aV X.w) } (.ref l) T:=⟨ol,hol',hcl⟩
 have ll:l<s.heap.objs.size:=AAG hol;have sz:(s.heap.push (aV X.w)).objs.size=s.heap.objs.size+1:=ABZ ..;obtain⟨oI,St,hit,W,st⟩:=K.iter A.in1 { s with heap:=s.heap.push (aV X.w) } hh λo e=>AA3 _ e
 have ns:=K.ns;have nf:=K.nf;have nd:=K.nd;unfold Builtin.«set.__init__» noKeywords Builtin.Frozenset.updateFrom;generalize hPI:pyIter=PI
 wp_walk
 subst hPI;refine wpAny_of_in1 (hit _ _ ?_);have hSf:s.heap.objs.size∉[(s.heap.push (aV X.w)).objs.size,l]:=by
  rw[sz];simp only[AAJ,ABz,or_false,not_or];exact⟨AAO (AB0 _),AEZ ll⟩
 have hS0:s.heap.get? s.heap.objs.size=none:=by
  cases q:s.heap.get? s.heap.objs.size with
  | none=>rfl
  | some o=>exact absurd (AAG q) (AAn _)
 have hw0:∀b∈[(s.heap.push (aV X.w)).objs.size],s.heap.get? b=none:=λb hb'=>by
  rw[ABe.mp hb',sz];cases q:s.heap.get? (s.heap.objs.size+1) with
  | none=>rfl
  | some o=>exact absurd (AAG q) (ADK.mpr (ADc _))
 refine AA0 (wpAny_runValue (DR (s:=s) sm I hm8 (by first | exact(show A.units+m+2<cLine by lia) | exact(show A.units+1+m+2<cLine by lia)) W s.heap.objs.size hSf hS0 hw0 val hval hb n 0 _ _ [] rfl (AAX _) st (AC (AA3 _ hS)) (λx=>by simp) (AA8 _) (λb u e=>AA3 _ (AA3 _ e)) λh' tk ks hk hks hm hl=>?_))
 exact AA2 (AA2 ⟨rfl,h h' tk ks hk hks hm hl⟩)
set_option maxHeartbeats 1000000 in
def EF(sm:Sim X.K ρ M H)(I:Inv X pins σ H s)(hm8:m<=8)(hu:A.units+m+20<cLine){l:Addr}{T:String}{n:Nat}{P:Nat->Value->Prop}{Q:Value->Shared->Prop}(hh:A.handled=none)(K:TxSrc X.prog X.w s.heap l T n P)(val:Nat->D)(hval:∀i v,P i v->∃vv,Rep X.K ρ H (val i) vv/\aI vv v/\cw m (val i)=true/\gG (val i)=true)(hb:n<=63)
  (h:∀h' tk ds,(∀b o,s.heap.get? b=some o->h'.get? b=some o)->KS X ρ H h' s.heap.objs.size m ds->(∀x,x∈ds↔∃j,j<n/\val j=x)->ds.length<=n->Q (.ref s.heap.objs.size) { s with heap:=h',toks:=tk }) :
  wpAny (model X.prog X.w) A (call (.type "set") [.ref l]) Q E s:=by
 have fm:=F.called_set.made;have fs:=F.called_set.sub;have fn:=F.called_set.notType;have fc:=F.called_set.canCreate;have ft:=F.typeCall_set_1 (.ref l);obtain⟨c,tl,fo⟩:=F.called_set.mro;refine wpAny_call (codeAny_of_tree (show wpAny _ _ (callAny (.type "set") _) _ _ _ from AA2 ⟨Code.quiet_builtin _ (by decide +kernel),ABX F.entry_type_call ?_⟩))
 rw[Around.under_plain (weight_type_call_type "set" [.ref l] []) rfl];repeat (any_goals (first | assumption | wp_step))
 refine ADf (sW (.ref l) (E:=E) (Q₁:=λobj s₁=>obj=.ref s.heap.objs.size/\s₁={ s with heap:=s.heap.push (aV X.w) }) ⟨rfl,rfl⟩) λr s₁ hr=>?_
 match r,hr with
 | .error e,hr=>exact hr
 | .ok (.ret obj),⟨e1,e2⟩ =>
  subst e1 e2;have hS:(s.heap.push (aV X.w)).get? s.heap.objs.size=some (aV X.w):=AAC _ rfl;have hT:ADR { s with heap:=s.heap.push (aV X.w) } (.ref s.heap.objs.size) "set":=⟨_,hS,rfl⟩
  have fl:=F.called_set.init.lookup;have fb:=F.called_set.init.bind (.ref s.heap.objs.size);repeat (any_goals (first | assumption | wp_step))
  refine ADf (codeAny_call_builtin (R:=wants (λr s₂=>r=.none/\Q (.ref s.heap.objs.size) s₂) E) F.called_set.init.plain F.entry_set_init (check_set_init_1 hT ?_)) λr₂ s₂ hr₂=>?_
  ·refine ABA (Ea (G:=λs2=>Q (.ref s.heap.objs.size) s2) sm I hm8 (by first | (show A.units+1+1+1+m+3<cLine;lia) | (show A.units+1+1+m+3<cLine;lia) | (show A.units+1+m+3<cLine;lia)) (by simp[hh]) K val hval hb h) (λfin s' ⟨e,g⟩=>?_) λ_ _ z=>z
   subst e;exact⟨rfl,g⟩
  ·match r₂,hr₂ with
   | .error e,hr₂=>exact hr₂
   | .ok (.ret r),⟨e,q⟩ =>
    subst e;repeat (any_goals (first | assumption | wp_step))
end
def SqAt(M:Mem)(d:D)(xs:List D):Prop:=(∃n,d=.ref n/\ak M n xs)\/d=.tup xs
def SrtOk.sub(h:SrtOk M xs)(s:∀y∈ys,y∈xs)(l:ys.length<64):SrtOk M ys:=by
 refine⟨l,λx hx=>h.ok x (s x hx),λx hx y hy=>h.cm x (s x hx) y (s y hy),?_⟩
 rcases h.kd with k | k | k | k | k
 ·exact .inl λx hx=>k x (s x hx)
 ·exact .inr (.inl λx hx=>k x (s x hx))
 ·exact .inr (.inr (.inl λx hx=>k x (s x hx)))
 ·exact .inr (.inr (.inr (.inl λx hx=>k x (s x hx))))
 ·exact .inr (.inr (.inr (.inr λx hx=>k x (s x hx))))
section
variable{X:Cx}{e:Expr}{te:DTE}{p p' pos pos':Pos}{k:Nat}
def Fl(I:Inv X pins σ H s)(sm:Sim X.K ρ M H)(r:Rep X.K ρ H d v)(rv:aI v u)(t:SqAt M d xs) :
  ∃(a:Addr) (T:String) (its:Array Value) (vs:List V),u=.ref a/\TxSrc X.prog X.w s.heap a T its.size (λi v=>its[i]?=some v)/\Reps X.K ρ H xs vs/\au vs its.toList:=by
 rcases t with⟨n,rfl,hL⟩ | rfl
 ·cases r with
  | @ref _ a ha =>
   cases rv
   obtain⟨vs,hs,rr⟩:=hL.seq sm ha;obtain⟨its,r2,p,_⟩:=I.list hs;exact⟨a,_,its.toArray,vs,rfl,TxSrc.list p.isList,rr,by simpa using r2⟩
 ·cases r with
  | @tup a vs _ hs rr =>
   cases rv
   obtain⟨its,r2,p,_⟩:=I.tuple hs;exact⟨a,_,its.toArray,vs,rfl,TxSrc.tuple p,rr,by simpa using r2⟩
def nw:∀{ds:List D}{vs:List V}{its:List Value}{i:Nat}{u:Value}{ρ:List Addr}{H:Hp},Reps X.K ρ H ds vs->au vs its->its[i]?=some u->∃d v,ds[i]?=some d/\Rep X.K ρ H d v/\aI v u
 | _,_,_,i,u,_,_,.nil,h,e=>by cases h;simp at e
 | _,_,_,0,u,_,_,.cons r _,h,e=>by
  cases h with
  | cons a _=>simp at e;subst e;exact⟨_,_,rfl,r,a⟩
 | _,_,_,i+1,u,_,_,.cons _ t,h,e=>by
  cases h with
  | cons _ b =>
   obtain⟨d,v,e1,r,rv⟩:=nw (i:=i) t b (by simpa using e)
   exact⟨d,v,by simpa using e1,r,rv⟩
def ents:∀{ds:List D}{es:List (Int×Value)},Paired (Ent X ρ H n) ds es->∃vs,Reps X.K ρ H ds vs/\au vs (es.map (·.2))
 | _,_,.nil=>⟨[],.nil,.nil⟩
 | _,_,.cons ⟨⟨v,r,rv⟩,_⟩ t=>by
  obtain⟨vs,a,b⟩:=ents t;exact⟨v::vs,.cons r a,.cons rv b⟩
def xF(p:us'.Perm us):∀{ds:List D}{vs:List V},Reps X.K ρ H ds vs->au vs us->∃ds' vs',ds'.Perm ds/\Reps X.K ρ H ds' vs'/\au vs' us':=by
 induction p with
 | nil=>intro ds vs r h;exact⟨ds,vs,.refl _,r,h⟩
 | cons x _ ih =>
  intro ds vs r h;cases h with
  | cons a b =>
   cases r with
   | cons c d =>
    obtain⟨ds',vs',h1,h2,h3⟩:=ih d b;exact⟨_,_,h1.cons _,.cons c h2,.cons a h3⟩
 | swap x y l =>
  intro ds vs r h;cases h with
  | cons a b =>
   cases b with
   | cons a2 b2 =>
    cases r with
    | cons c d =>
     cases d with
     | cons c2 d2=>exact⟨_,_,.swap _ _ _,.cons c2 (.cons c d2),.cons a2 (.cons a b2)⟩
 | trans _ _ ih1 ih2 =>
  intro ds vs r h;obtain⟨ds',vs',h1,h2,h3⟩:=ih2 r h;obtain⟨ds2,vs2,g1,g2,g3⟩:=ih1 h2 h3;exact⟨ds2,vs2,g1.trans h1,g2,g3⟩
end
def iI(te:DTE):DTE:=λS M Q=>te S M λd M1=>∃n xs,n<=8/\SqAt M1 d xs/\xs.length<64/\(∀x∈xs,cw n x=true/\gG x=true)/\SrtOk M1 xs/\∀ys:List D,ys.Nodup->(∀x,x∈ys↔x∈xs)->Cq M1 ys->Q (.ref M1.length) (M1++[.lst ys])
section
variable{X:Cx}{e:Expr}{te:DTE}{p p' pos pos':Pos}{k:Nat}
set_option maxHeartbeats 1000000 in
def wc(hr:Room k X.A)(hc:X.calm=true)(he:DE X e te)(hm1:X.mg "sorted" = none)(hm2:X.mg "set" = none)(hg1:X.env.kindOf "sorted" = some .globalImplicit)(hg2:X.env.kindOf "set" = some .globalImplicit)
  (h1:starEach [e] X.env=[(false,eval e X.env)]) (h2:starEach [AEX (.Name "set" p') [e] [] pos'] X.env=[(false,eval (AEX (.Name "set" p') [e] [] pos') X.env)]) :
  DE X (.Call (.Name "sorted" p) [.Call (.Name "set" p') [e] [] pos'] [] pos) (iI te):=by
 intro pins s σ H R I ⟨S,M,ρ,Q,sm,sr,q,kk⟩;refine ACF (gF I hg1 hm1 (by rfl) ?_)
 refine callWith_builtin1 ?_ (by rw[h2];rfl) rfl
 rw[h2];refine ADl ?_
 refine ACF (gF I hg2 hm2 (by rfl) ?_)
 refine callWith_type1 ?_ (by rw[h1];rfl) rfl
 rw[h1];refine ADl (thn (he pins s σ H _ I ⟨S,M,ρ,_,sm,sr,q,λv H' z=>z⟩) λu s1 ⟨v,H1,I1,rv,d,M1,ρ1,sm1,g1,r1,cases⟩=>?_)
 refine AE2 ?_
 obtain⟨n,xs,n8,sq,hl,hk,so,fin⟩:=cases;obtain⟨a,T,its,ws,rfl,src,rps,vx⟩:=Fl I1 sm1 r1 rv sq;have li:its.size=xs.length:=by have h1:=vx.length;have h2:=rps.length;simp at h1;lia
 have un:=hr.un;refine EF sm1 I1 n8 (by lia) (I1.ok.hd hc) src (λi=>xs.getD i .non) (λi v e=>?_) (by lia) λh2 tk2 ds k2 kset hks hle=>?_
 ·obtain⟨d,vv,e1,r,rv⟩:=nw rps vx (by rw[AAS];exact e)
  have ed:xs.getD i .non=d:=by rw[AAU,e1];rfl
  have:=hk d (AAc e1);exact⟨vv,by rw[ed];exact r,rv,by rw[ed];exact this.1,by rw[ed];exact this.2⟩
 refine AE2 ?_
 have I2:=I1.kept (t':=tk2) k2;obtain⟨o,es,ep,t,KSt⟩:=kset;have lds:ds.length=es.size:=by have:=KSt.en.length;simpa using this
 have hz:es.size<=sizeLine:=by rw[ABq];lia
 refine vz (s:={ s1 with heap:=h2,toks:=tk2 }) (I2.ok.hd hc) ⟨KSt.ob,KSt.dt,KSt.fits⟩ KSt.ex.1 (λz=>.inr KSt.tk.ris) KSt.ld hz λh3 tk3 dr D vs k3 hD hD3 pv=>?_
 have hmem:∀x,x∈ds↔x∈xs:=λx=>by
  rw[hks x,li];constructor
  ·rintro⟨j,hj,rfl⟩
   have e:xs.getD j .non=xs[j]:=by simp[AEh,hj]
   rw[e];exact AB5 hj
  ·intro hx
   obtain⟨j,hj,e⟩:=List.getElem_of_mem hx;exact⟨j,hj,by rw[show xs.getD j .non=xs[j] by simp[AEh,hj]];exact e⟩
 obtain⟨ws0,rp0,va0⟩:=ents KSt.en;obtain⟨ds',ws',pd,rp1,va1⟩:=xF pv rp0 va0;obtain⟨m,hn,_⟩:=I2.loc;have hDL:D≠X.env.locals:=λz=>by
  obtain⟨oL,_,_,hL,_⟩:=hn;rw[z]at hD;rw[hD]at hL;cases hL
 have hn3:h3.Ns X.env.locals m:=hn.at' λo e=>k3 _ _ e
 refine xp (X:=X) (pins:=pins) (σ:=σ) (s:={ s1 with heap:=h2,toks:=tk2,drawn:=dr }) (n:=0) hr (by show X.A.units+1<=X.A.units+4;lia) I2.drew sm1 (so.sub (ys:=ds') (λy hy=>(hmem y).mp (pd.mem_iff.mp hy)) (by rw[pd.length_eq];lia)).g rp1 va1 hn hn3 (λb u _ e=>k3 b u e) hD hDL hD3 λv H' x=>?_
 refine kk v H' ?_
 have:=x (λd M'=>Q d M') λys hp hri=>?_
 ·obtain⟨d,M',ρ',a1,a2,a3,a4⟩:=this
  exact⟨d,M',ρ',a1,g1.trans a2,a3,a4⟩
 ·exact fin ys ((hp.trans pd).nodup_iff.mpr KSt.nd) (λx=>((hp.trans pd).mem_iff).trans (hmem x)) hri
def mP(hr:Room k X.A)(he:HE X e te)(hm1:X.mg "sorted" = none)(hm2:X.mg "set" = none)(hc:X.calm=true:=by kernel_rfl)(hg1:X.env.kindOf "sorted" = some .globalImplicit:=by kernel_rfl)(hg2:X.env.kindOf "set" = some .globalImplicit:=by kernel_rfl)
  (h1:starEach [e] X.env=[(false,eval e X.env)]:=by kernel_rfl) (h2:starEach [AEX (.Name "set" p') [e] [] pos'] X.env=[(false,eval (AEX (.Name "set" p') [e] [] pos') X.env)]:=by kernel_rfl) :
  HE X (.Call (.Name "sorted" p) [.Call (.Name "set" p') [e] [] pos'] [] pos) (iI te):=⟨wc hr hc he.ok hm1 hm2 hg1 hg2 h1 h2⟩
end
def eP(h:Heap):Nat->D->Value->Prop
 | _,.str x,v=>∃t,v=.str x t
 | _,.int i,v=>∃t,v=.int i t
 | n+1,.tup ds,v=>∃a its,v=.ref a/\h.IsTuple a its/\Paired (eP h n) ds its.toList
 | _,_,_=>False
def drD:Nat->D->Nat
 | n+1,.tup ds=>(ds.map (drD n)).sum+1
 | _,_=>1
def iF:∀(n:Nat) (d:D) (v:Value),eP h n d v->cw n d=true:=by
 intro n;induction n with
 | zero=>intro d v k;cases d<;>first | rfl | exact k.elim
 | succ n ih =>
  intro d v k;cases d with
  | str x=>rfl
  | int x=>rfl
  | tup ds =>
   obtain⟨a,its,_,_,p⟩:=k;show ds.all (cw n)=true;generalize its.toList=l at p;induction p with
   | nil=>rfl
   | cons r _ i2=>rw[ABT,ih _ _ r,i2];rfl
  | _=>exact k.elim
def sN{h:Heap}{a:Addr}{xs ys:Array Value}(h1:h.IsTuple a xs)(h2:h.IsTuple a ys):xs=ys:=by
 obtain⟨o,e1,_,n,d1⟩:=h1;obtain⟨o',e2,_,n',d2⟩:=h2;obtain rfl:o=o':=AAR (e1.symm.trans e2);rw[d1]at d2;injection d2
def kX{h:Heap}:∀(n:Nat) (x y:D) (v:Value),eP h n x v->eP h n y v->x=y:=by
 intro n;induction n with
 | zero =>
  intro x y v k1 k2;cases x with
  | str a =>
   obtain⟨t,rfl⟩:=k1;cases y with
   | str b=>obtain⟨t',e⟩:=k2;injection e with e;rw[e]
   | int b=>obtain⟨t',e⟩:=k2;cases e
   | _=>exact k2.elim
  | int a =>
   obtain⟨t,rfl⟩:=k1;cases y with
   | str b=>obtain⟨t',e⟩:=k2;cases e
   | int b=>obtain⟨t',e⟩:=k2;injection e with e;rw[e]
   | _=>exact k2.elim
  | _=>exact k1.elim
 | succ n ih =>
  intro x y v k1 k2;cases x with
  | str a =>
   obtain⟨t,rfl⟩:=k1;cases y with
   | str b=>obtain⟨t',e⟩:=k2;injection e with e;rw[e]
   | int b=>obtain⟨t',e⟩:=k2;cases e
   | tup b=>obtain⟨_,_,e,_⟩:=k2;cases e
   | _=>exact k2.elim
  | int a =>
   obtain⟨t,rfl⟩:=k1;cases y with
   | str b=>obtain⟨t',e⟩:=k2;cases e
   | int b=>obtain⟨t',e⟩:=k2;injection e with e;rw[e]
   | tup b=>obtain⟨_,_,e,_⟩:=k2;cases e
   | _=>exact k2.elim
  | tup xs =>
   obtain⟨a,its,rfl,t1,p1⟩:=k1;cases y with
   | str b=>obtain⟨t',e⟩:=k2;cases e
   | int b=>obtain⟨t',e⟩:=k2;cases e
   | tup ys =>
    obtain⟨_,its',e,t2,p2⟩:=k2;cases e
    obtain rfl:=sN t1 t2;congr 1;generalize its.toList=l at p1 p2;induction p1 generalizing ys with
    | nil=>cases p2;rfl
    | cons r _ i2=>cases p2 with
     | cons r' t'=>rw[ih _ _ _ r r',i2 _ t']
   | _=>exact k2.elim
  | _=>exact k1.elim
def vV(k:∀a its,h.IsTuple a its->h'.IsTuple a its):∀(n:Nat) (d:D) (v:Value),eP h n d v->eP h' n d v:=by
 intro n;induction n with
 | zero=>intro d v q;cases d<;>first | exact q | exact q.elim
 | succ n ih =>
  intro d v q;cases d with
  | str x=>exact q
  | int x=>exact q
  | tup ds =>
   obtain⟨a,its,e,t,p⟩:=q;exact⟨a,its,e,k _ _ t,Paired.mapP p λx y r=>ih x y r⟩
  | _=>exact q.elim
def sL{es ep}(q:eP h n k v)(ho:h.get? d=some o)(hd:o.data=.dict es ep)(hs:ABx d h h'):eP h' n k v:=by
 refine vV (λa its ⟨o',e,c,m,t⟩=>?_) n k v q
 have hne:a≠d:=by
  rintro rfl;obtain rfl:o'=o:=AAR (e.symm.trans ho);rw[hd]at t;cases t
 exact⟨o',(hs.2 a hne).trans e,c,m,t⟩
section
variable{prog:Program}{w:World}
def mO:∀(n:Nat) (A:Around) (s:Shared) (d:D) (u:Value) (E:Value->Shared->Prop) (Q:Int->Shared->Prop),A.units+n<cLine->eP s.heap n d u ->
  Q (hkD w n d) { s with toks:=s.toks+drD n d }->wpAny (model prog w) A (pyHash u) Q E s:=by
 intro n;induction n with
 | zero =>
  intro A s d u E Q hu k h;cases d with
  | str x=>obtain⟨t,rfl⟩:=k;exact ADa h
  | int x=>obtain⟨t,rfl⟩:=k;exact ADZ h
  | _=>exact k.elim
 | succ n ih =>
  intro A s d u E Q hu k h;cases d with
  | str x=>obtain⟨t,rfl⟩:=k;exact ADa h
  | int x=>obtain⟨t,rfl⟩:=k;exact ADZ h
  | tup ds =>
   obtain⟨a,its,rfl,⟨o,ho,hc,nn,hd⟩,p⟩:=k;have hT:s.TypeIs (.ref a) "tuple":=⟨o,ho,hc⟩;unfold pyHash;first | unfold pyHashByItsType | skip
   first | refine AA0 (wpAny_cRoomFor_or (.inr (by lia)) ?_) | skip
   refine AA0 (ABt hT F.slot_tuple_hash.lookup ?_);refine(show wpAny (model prog w) _ (if (some (Value.builtin "tuple.__hash__")==some ABj)=true then _ else _) Q E s from ?_);rw[if_neg (by rw[AEK];exact ABB)]
   refine AA0 (ABt hT F.slot_tuple_hash.lookup ?_);refine(show wpAny (model prog w) _ (callSpecialIfBoundUnlessNone? (.ref a) "__hash__" _ >>= _) Q E s from AA0 (ADC hT F.slot_tuple_hash (AAp F.slot_tuple_hash hT F.entry_tuple_hash ?_ (F.args_tuple_hash_1 _))));refine(show wpAny (model prog w) _ (ACU (.ref a) >>= _) _ _ s from AA0 (wpAny_tupleItemsOf ho hd (AA0 ?_)));rw[<-ABw];refine ABP _ (λaJ (b:Array Int) s'=>∃done left,ds=done++left/\Paired (eP s.heap n) left aJ/\b.toList=done.map (hkD w n)/\s'={ s with toks:=s.toks+(done.map (drD n)).sum }) _ ?_ ?_ _ _ ⟨[],ds,rfl,p,rfl,rfl⟩
   ·rintro x aJ b s' ⟨done,left,e,h1,hb,rfl⟩
    cases h1 with
    | @cons d0 _ left' _ r0 t0 =>
     refine AA0 (ih _ _ d0 x _ _ (by show A.units+1+n<cLine;lia) r0 ?_)
     first
      | exact AA2 ⟨done++[d0],left',by rw[e];simp,t0,by simp[hb],by simp[Nat.add_assoc]⟩
      | exact AA0 (AA2 (AA2 ⟨done++[d0],left',by rw[e];simp,t0,by simp[hb],by simp[Nat.add_assoc]⟩))
   ·rintro b s' ⟨done,left,e,h1,hb,rfl⟩
    cases h1
    rw[AB7]at e;subst e;refine(show wpAny (model prog w) _ (retInt (ABQ b.toList)) _ _ _ from ?_);rw[hb];refine wpAny_ret_mkInt ?_
    have key:hkD w (n+1) (.tup ds)=reduceHash (ABQ (ds.map (hkD w n))):=rfl;have h':Q (hkD w (n+1) (.tup ds)) { s with toks:=s.toks+(ds.map (drD n)).sum+1 }:=h
    generalize ABQ (ds.map (hkD w n))=z at key;refine(show wpAny (model prog w) _ (if (decide (-(2:Int) ^ 63<=z)&&decide (z<2 ^ 63))=true then _ else _) Q E _ from ?_);unfold reduceHash at key;by_cases hr:(decide (-(2:Int) ^ 63<=z)&&decide (z<2 ^ 63))=true
    ·rw[if_pos hr]at key ⊢
     exact AA2 (by rw[<-key];exact h')
    ·rw[if_neg hr]at key ⊢
     exact AA0 (ABU (AA2 (by rw[<-key];exact h')))
  | _=>exact k.elim
def kW:∀(n k:Nat) (A:Around) (s:Shared) (d:D) (u:Value) (E:Value->Shared->Prop) (Q:Bool->Shared->Prop),n<=k->eP s.heap n d u->Q true s->wpAny (model prog w) A (eqIsQuiet k u) Q E s:=by
 intro n;induction n with
 | zero =>
  intro k A s d u E Q hk q h;cases d with
  | str x=>obtain⟨t,rfl⟩:=q;rw[AC9 k (v:=.str x t) rfl];exact AA2 h
  | int x=>obtain⟨t,rfl⟩:=q;rw[AC9 k (v:=.int x t) rfl];exact AA2 h
  | _=>exact q.elim
 | succ n ih =>
  intro k A s d u E Q hk q h;cases d with
  | str x=>obtain⟨t,rfl⟩:=q;rw[AC9 k (v:=.str x t) rfl];exact AA2 h
  | int x=>obtain⟨t,rfl⟩:=q;rw[AC9 k (v:=.int x t) rfl];exact AA2 h
  | tup ds =>
   obtain⟨a,its,rfl,⟨o,ho,hc,nn,hd⟩,p⟩:=q;obtain⟨k,rfl⟩:∃k',k=k'+1:=⟨k-1,by lia⟩
   have hT:s.TypeIs (.ref a) "tuple":=⟨o,ho,hc⟩;unfold eqIsQuiet;refine AA0 (ABt hT F.slot_tuple_eq.lookup ?_);refine(show wpAny (model prog w) A (isInstance (.ref a) (.type "tuple") >>= _) _ _ s from AA0 (ACZ hT isSubtype_tuple_tuple ?_));simp only[ABv,AAE,if_false];refine AA0 (ACh ho hd ?_);simp only[Option.getD_some];refine AA0 ?_
   refine(show wpAny (model prog w) A (forIn its _ _) _ _ s from ?_);rw[<-ABw];refine ABP _ (λaJ r s'=>r.1=none/\s'=s/\∃left,Paired (eP s.heap n) left aJ) _ ?_ ?_ _ _ ⟨rfl,rfl,ds,p⟩
   ·rintro x aJ r s' ⟨hr,rfl,left,h1⟩
    cases h1 with
    | cons r0 t0 =>
     refine AA0 (ih k _ _ _ x _ _ (by lia) r0 ?_)
     simp only[ABv,AAE,if_false];exact AA2 ⟨rfl,rfl,_,t0⟩
   ·rintro⟨r1,r2⟩ s' ⟨hr,rfl,_⟩
    simp only at hr;subst hr;exact AA2 h
  | _=>exact q.elim
def jn{h:Heap}{n:Nat}{ds:List D}{its:Array Value}(p:Paired (eP h n) ds its.toList):ds.length=its.size:=by
 rw[<-AAL];generalize its.toList=l at p;induction p with
 | nil=>rfl
 | cons _ _ ih=>rw[AAN,AAN,ih]
theorem AF:∀(n:Nat) (A:Around) (s:Shared) (x y:D) (u v:Value),A.units+n<cLine->eP s.heap n x u->eP s.heap n y v->ACP A s u v (eqD [] n x y):=by
 intro n;induction n with
 | zero =>
  intro A s x y u v hu k1 k2;cases x with
  | str a =>
   obtain⟨t,rfl⟩:=k1;cases y with
   | str b=>obtain⟨t',rfl⟩:=k2;exact ADq _ _ _ _
   | int b=>obtain⟨t',rfl⟩:=k2;exact AD9 _ _ _ _
   | _=>exact k2.elim
  | int a =>
   obtain⟨t,rfl⟩:=k1;cases y with
   | str b=>obtain⟨t',rfl⟩:=k2;exact AD8 _ _ _ _
   | int b=>obtain⟨t',rfl⟩:=k2;exact ADp _ _ _ _
   | _=>exact k2.elim
  | _=>exact k1.elim
 | succ n ih =>
  intro A s x y u v hu k1 k2;have hu0:A.units<cLine:=by lia
  have hu1:A.in1.units+n<cLine:=by show A.units+1+n<cLine;lia
  cases x with
  | str a =>
   obtain⟨t,rfl⟩:=k1;cases y with
   | str b=>obtain⟨t',rfl⟩:=k2;exact ADq _ _ _ _
   | int b=>obtain⟨t',rfl⟩:=k2;exact AD9 _ _ _ _
   | tup b=>obtain⟨_,_,rfl,pl,_⟩:=k2;exact SeqAt.EqAt.str_tuple _ _ pl hu0
   | _=>exact k2.elim
  | int a =>
   obtain⟨t,rfl⟩:=k1;cases y with
   | str b=>obtain⟨t',rfl⟩:=k2;exact AD8 _ _ _ _
   | int b=>obtain⟨t',rfl⟩:=k2;exact ADp _ _ _ _
   | tup b=>obtain⟨_,_,rfl,pl,_⟩:=k2;exact SeqAt.EqAt.int_tuple _ _ pl hu0
   | _=>exact k2.elim
  | tup xs =>
   obtain⟨a,its,rfl,pl,p1⟩:=id k1;cases y with
   | str b=>obtain⟨t',rfl⟩:=k2;exact SeqAt.EqAt.tuple_str _ _ pl hu0
   | int b=>obtain⟨t',rfl⟩:=k2;exact SeqAt.EqAt.tuple_int _ _ pl hu0
   | tup ys =>
    obtain⟨b,jts,rfl,pl',p2⟩:=id k2;by_cases hab:a=b
    ·subst hab
     have e:=kX (n+1) _ _ _ k1 k2;rw[e,(gU (M:=[]) (n+1) _ _ (iF _ _ _ k2) (iF _ _ _ k2)).mpr rfl];exact AET _
    ·have ll:=jn p1
     have ll':=jn p2;have items:∀(j:Nat) (h1:j<its.size) (h2:j<jts.size),ACP A.in1 s its[j] jts[j] (eqD [] n (xs.getD j .non) (ys.getD j .non)):=λj h1 h2=>by
      obtain⟨x0,e1,r1⟩:=cU p1 (i:=j) (y:=its[j]) (by rw[AAS];exact AAM h1)
      obtain⟨y0,e2,r2⟩:=cU p2 (i:=j) (y:=jts[j]) (by rw[AAS];exact AAM h2)
      have z1:xs.getD j .non=x0:=by rw[AAU,e1];rfl
      have z2:ys.getD j .non=y0:=by rw[AAU,e2];rfl
      rw[z1,z2];exact ih A.in1 s x0 y0 _ _ hu1 r1 r2
     have key:((AAu (min its.size jts.size)).all (λj=>eqD [] n (xs.getD j .non) (ys.getD j .non))&&its.size==jts.size)=eqL (eqD [] n) xs ys:=by
      by_cases hl:xs.length=ys.length
      ·have rng:(AAu xs.length).all (λj=>eqD [] n (xs.getD j .non) (ys.getD j .non))=eqL (eqD [] n) xs ys:=kZ hl λj x y h1 h2=>by simp[AEh,h1,h2]
       rw[<-ll,<-ll',<-hl,Nat.min_self,rng];simp
      ·rw[yS hl,<-ll,<-ll']
       simp[hl]
     have h1:=SeqAt.RcAt.tuples pl pl' hu0 items;rw[key]at h1;exact SeqAt.EqAt.of_refs hab h1
   | _=>exact k2.elim
  | _=>exact k1.elim
end
noncomputable instance decD:DecidableEq D:=λa b=>AAH (a=b)
noncomputable def bH(prog:Program)(w:World):HeapKind prog w D where
 is:=λh d a=>eP h 8 d (.ref a)
 hash:=hkD w 8
 draws:=drD 8
 room:=λA=>A.units+8<cLine
 inj:=λx y=>kX 8 _ _ _ x y
 keeps:=λx ho hd hs=>sL x ho hd hs
 pyHash:=λhu k h=>mO 8 _ _ _ _ _ _ hu k h
 eqBool:=λ{A E s x y a b Q} hu k1 k2 h=>by
  refine AF 8 A s x y _ _ hu k1 k2 _ _ _ _ ?_
  have e:eqD [] 8 x y=decide (x=y):=by
   rw[Bool.eq_iff_iff,gU 8 x y (iF _ _ _ k1) (iF _ _ _ k2),decide_eq_true_eq]
  rw[e];exact h
 quiet:=λk h=>kW 8 8 _ _ _ _ _ _ (AA8 _) k h
noncomputable def aM(kvs:List (D×D))(k:D):Option D:=(kvs.find? λp=>decide (p.1=k)).map (·.2)
noncomputable def eK(kvs:List (D×D))(k d:D):List (D×D):=if (aM kvs k).isSome then kvs.map (λp=>if p.1=k then(p.1,d)else p)else kvs++[(k,d)]
section
variable{K:AA6}{ρ:List Addr}{H:Hp}{M:Mem}{kvs:List (D×D)}{xs:List (D×Addr×Value)}
def qF(r:Paired (tp K ρ H) kvs xs)(k:D):(aM kvs k=none/\atKey xs k=none)\/∃d p v,aM kvs k=some d/\atKey xs k=some p/\Rep K ρ H d v/\aI v p.2:=by
 unfold aM atKey;induction r with
 | nil=>exact .inl ⟨rfl,rfl⟩
 | @cons p q ps qs h t ih =>
  obtain⟨h1,_,_,v,h4,h5⟩:=h;rw[ABJ,ABJ];by_cases e:p.1=k
  ·rw[dT_ e,dT_ (h1.symm.trans e)]
   exact .inr ⟨_,_,v,rfl,rfl,h4,h5⟩
  ·rw[dF_ e,dF_ (λz=>e (h1.trans z))]
   exact ih
def BE(r:Paired (tp K ρ H) kvs xs)(kd:cw 8 k=true)(rk:Rep K ρ H k (.ref b))(rd:Rep K ρ H d v)(rv:aI v u):Paired (tp K ρ H) (eK kvs k d) (storedH xs k b u):=by
 unfold eK storedH;have is:(aM kvs k).isSome=(atKey xs k).isSome:=by
  rcases qF r k with⟨e1,e2⟩|⟨_,_,_,e1,e2,_⟩<;>rw[e1,e2]<;>rfl
 rw[is];by_cases q:(atKey xs k).isSome=true
 ·rw[if_pos q,if_pos q]
  clear is q;induction r with
  | nil=>exact .nil
  | @cons p q ps qs h t ih =>
   rw[AAQ,AAQ];refine .cons ?_ ih;obtain⟨h1,h2,h3,w,h4,h5⟩:=h;by_cases e:p.1=k
   ·rw[if_pos e,putAt,if_pos (h1.symm.trans e)]
    exact⟨h1,h2,h3,v,rd,rv⟩
   ·rw[if_neg e,putAt,if_neg (λz=>e (h1.trans z))]
    exact⟨h1,h2,h3,w,h4,h5⟩
 ·rw[if_neg q,if_neg q]
  clear is q;induction r with
  | nil=>exact .cons ⟨rfl,kd,rk,v,rd,rv⟩ .nil
  | cons h t ih=>exact .cons h ih
def gR(r:Paired (tp K ρ H) kvs xs):xs.map (·.1)=kvs.map (·.1):=by
 induction r with
 | nil=>rfl
 | cons h t ih=>rw[AAQ,AAQ,ih,h.1]
def jG:(eK kvs k d).length<=kvs.length+1:=by
 unfold eK;split
 ·rw[AA4];lia
 ·rw[AAA];exact AA8 _
def SqT.writtenX{a p:Addr}{xs:List V}{φ:Program->World->Heap->Prop}{o:HO}(hp:H p=some (.ext φ))(h:SqT K H a xs):SqT K (upd H p o) a xs:=by
 rcases h with h | h
 ·rcases h with h | ⟨ob,h⟩
  ·exact .inl (.inl (by rw[af (Am h hp (by intro z;cases z))];exact h))
  ·exact .inl (.inr ⟨ob,by rw[af (Am h hp (by intro z;cases z))];exact h⟩)
 ·exact .inr h
def Sim.writeT(S:Sim K ρ M H)(e1:ρ[n]?=some a)(hM:M[n]?=some (.dkt kvs))(hH:H a=some (.ext (dX a xs)))(hl:kvs'.length<=sizeLine)(hs:(a==sysModules)=false)(nd:(kvs'.map (·.1)).Nodup)(r:Paired (tp K ρ H) kvs' xs') :
  Sim K ρ (M.set n (.dkt kvs')) (upd H a (.ext (dX a xs')))/\Grow K ρ H ρ (upd H a (.ext (dX a xs'))):=by
 have g:Grow K ρ H ρ (upd H a (.ext (dX a xs'))):=⟨ACn,λ_ _ h=>SqT.writtenX hH h⟩
 have hk:∀m,m≠n->(M.set n (.dkt kvs'))[m]?=M[m]?:=λm hm=>AAv (ABO hm)
 have notK:¬isK M[n]?:=λ⟨_,z⟩=>by rw[hM]at z;cases z
 refine⟨⟨λm m' b hne f1 f2=>?_,by rw[AB1];exact S.len,λm b mo f1 f2=>?_⟩,g⟩
 ·have q:=S.nd m m' b hne f1 f2
  by_cases h1:m=n
  ·subst h1
   rw[hk m' (ABO hne)];exact .inr (q.resolve_left notK)
  ·rw[hk m h1]
   by_cases h2:m'=n
   ·subst h2
    exact .inl (q.resolve_right notK)
   ·rw[hk m' h2]
    exact q
 by_cases hm:m=n
 ·subst hm
  have hb:b=a:=AAR (f1.symm.trans e1);subst hb;rw[AAx (by rw[<-S.len];exact(AA7.mp e1).1)]at f2
  cases f2
  exact⟨hl,hs,nd,xs',aA,Paired.mapP r λ_ _ ⟨q1,q2,q3,v,q4,q5⟩=>⟨q1,q2,q3.grow g,v,q4.grow g,q5⟩⟩
 ·rw[hk m hm]at f2
  by_cases hb:b=a
  ·subst hb
   have q':=(S.nd m n b hm f1 e1).resolve_right notK;rw[f2]at q';exact(S.obj m b mo f1 f2).grow g (.inr q')
  ·exact(S.obj m b mo f1 f2).grow g (.inl (af hb))
end
section
variable{X:Cx}{pins:List (Addr×Obj)}{σ:St}{H:Hp}{s:Shared}{ρ:List Addr}{M:Mem}
def dE(I:Inv X pins σ H s):∀(n:Nat) (d:D) (v:V) (u:Value),Rep X.K ρ H d v->aI v u->cw n d=true->eP s.heap n d u:=by
 intro n;induction n with
 | zero =>
  intro d v u r rv k;cases r with
  | str x=>exact rv
  | int x=>exact rv
  | _=>cases k
 | succ n ih =>
  intro d v u r rv k;cases r with
  | str x=>exact rv
  | int x=>exact rv
  | @tup a vs ds hq rr =>
   cases rv
   obtain⟨its,r2,p,hz⟩:=I.tuple hq;have hk:∀x∈ds,cw n x=true:=AAh.mp (show ds.all (cw n)=true from k);refine⟨a,its.toArray,rfl,p,?_⟩;rw[List.toList_toArray];clear p hq k hz;induction r2 generalizing ds with
   | nil=>cases rr;exact .nil
   | cons q1 q2 i2 =>
    cases rr with
    | cons h1 t1=>exact .cons (ih _ _ _ h1 q1 (hk _ AAI)) (i2 t1 λx hx=>hk x (AA9 _ hx))
  | _=>cases k
def eO(I:Inv X pins σ H s)(sm:Sim X.K ρ M H){n:Nat}{a:Addr}{kvs:List (D×D)}(e:ρ[n]?=some a)(hM:M[n]?=some (.dkt kvs)) :
  ∃xs,H a=some (.ext (dX a xs))/\Paired (tp X.K ρ H) kvs xs/\s.heap.DictOfH (bH X.prog X.w) a xs/\(a==sysModules)=false/\kvs.length<=sizeLine/\xs.length=kvs.length/\(kvs.map (·.1)).Nodup:=by
 obtain⟨h1,h2,h3,xs,hH,r⟩:=sm.obj _ _ _ e hM;obtain⟨⟨o,es,e1,e2,e3,e4⟩,_⟩:=(show bQ X.prog X.w H s.heap a (.ext (dX a xs))from I.hok a _ hH);have ek:=gR r;refine⟨xs,hH,r,⟨o,es,_,e1,e2,e3,e4,λx hx=>?_,by rw[ek];exact h3⟩,h2,h1,?_,h3⟩
 ·obtain⟨i,hi⟩:=AB9 hx
  obtain⟨p,_,q1,q2,q3,_⟩:=cU r hi;rw[<-q1];exact dE I 8 _ _ _ q3 rfl q2
 ·have:=congrArg ABr ek
  rwa [AA4,AA4]at this
def sR(d:dX a xs P w h'):bQ P w H' h' a (.ext (dX a xs)):=by
 obtain⟨o,es,e1,e2,e3,e4⟩:=d;exact⟨⟨o,es,e1,e2,e3,e4⟩,⟨o,e1⟩,λh1 h2 ⟨o,es,e1,e2,e3,e4⟩ k=>⟨o,es,k _ e1,e2,e3,e4⟩⟩
def yY(I:Inv X pins σ H s)(hH:H a=some (.ext (dX a xs))):dX a xs X.prog X.w s.heap :=
 (show bQ X.prog X.w H s.heap a (.ext (dX a xs))from I.hok a _ hH).1
end
def setE(hu:(bH prog w).room A.in1)(kat:(bH prog w).is s.heap k b)
  (hm:s.heap.DictOfH (bH prog w) d xs) (hx:dX d xs prog w s.heap) (hz:xs.length<=sizeLine)
  (hQ:∀h',dX d (storedH xs k b v) prog w h'->ABx d s.heap h'->Q () { s with heap:=h',toks:=s.toks+(bH prog w).draws k }):wpAny (model prog w) A (setItem (.ref d) (.ref b) v) Q E s:=by
 have hT:=hm.typeIs;obtain⟨_,_,_,_,_,_,_,his,hn⟩:=hm;obtain⟨o,es,ho,hc,hd,he'⟩:=hx;have he:es.toList=xs.map (entryOfKey (bH prog w)):=he';unfold setItem
 try with_reducible refine AAZ ?_
 refine AA0 (ADI hT (by decide) (AA0 (AAq (name:=AA1 "__setitem__") hT AE7 (AAp AE7 hT entry_dict_setitem ?_ (args_dict_setitem _ _ _)))))
 refine(show wpAny (model prog w) _ (Builtin.Dict.notOrdered "__setitem__" ⟨[.ref d,.ref b,v],[]⟩ >>= _) _ _ s from AA0 (ABm hT ?_));refine(show wpAny (model prog w) _ (dictSet d (.ref b) v >>= _) _ _ s from AA0 ?_);unfold dictSet
 try with_reducible refine AAZ ?_
 refine AA0 ((bH prog w).pyHash hu kat ?_);unfold dictSetHashed
 try with_reducible refine AAZ ?_
 have hl:es.size=xs.length:=size_of_entries he;refine AA0 (wpAny_dictFind_heap (s:={ s with toks:=s.toks+(bH prog w).draws k }) hu kat ho hd he his hn (λhno=>?_) λj p hj=>?_)
 ·refine AA0 (ABU (ADT (hz:=by lia) (s:={ s with toks:=s.toks+(bH prog w).draws k }) ho hd (AA2 ⟨.none,rfl,AA2 (hQ _ ⟨_,es.push ⟨(bH prog w).hash k,.ref b,v⟩,AAf _ ho (ACA (ABc hd _)),hc.mapDictKeys _,?_,?_⟩ (AAo ..))⟩)))
  ·rw[ABc hd,storedH_new (AE8 hno),AAA];rfl
  ·rw[storedH_new (AE8 hno)]
   rw[ADP,he,AAW];rfl
 ·refine AA0 (ABU (AA0 (wpAny_updateDict (s:={ s with toks:=s.toks+(bH prog w).draws k }) ho hd (wpAny_point (AA2 ⟨.none,rfl,AA2 (hQ _ ⟨_,es.modify j λe=>{ e with val:=v },AAf _ ho (ACA (AD1 hd _)),hc.mapDict _,?_,?_⟩ (AAo ..))⟩)))))
  ·rw[AD1 hd,storedH_old (atKey_of_get hn hj),AA4]
  ·rw[storedH_old (atKey_of_get hn hj)]
   have q:=modify_map_putAt (entryOfKey (bH prog w)) (λe:DictEntry=>{ e with val:=v }) k v (λ_ _=>rfl) hn hj
   rw[<-he]at q;obtain⟨l⟩:=es;have q2:(Array.modify ⟨l⟩ j λe:DictEntry=>{ e with val:=v }).toList=(xs.map (putAt k v)).map (entryOfKey (bH prog w)):=by simpa using q
   exact q2
section
variable{X:Cx}{o i value:Expr}{td ty tv:DTE}{pos pos':Pos}{k:Nat}
def rh:DTE:=λ_ M Q=>Q (.ref M.length) (M++[.dkt []])
def HH:DE X (.Dict [] [] pos) rh:=by
 intro pins s σ H R I ⟨S,M,ρ,Q,sm,sr,q,kk⟩;have hf:H s.heap.objs.size=none:=I.hok.fresh (AA8 _);have hb:(s.heap.objs.size==sysModules)=false:=beq_eq_false_iff_ne.mpr (ABO (AAO I.big));refine wpAny_Dict_empty ⟨.ref s.heap.objs.size,_,I.laid (a:=s.heap.objs.size) (o:=.ext (dX s.heap.objs.size [])) (t':=s.toks) (λ_ _ q=>AA3 _ q) (AA8 _) (sR ⟨_,#[],AAC _ rfl,⟨rfl,rfl,rfl⟩,rfl,rfl⟩),rfl,?_⟩
 exact kk _ _ ⟨.ref M.length,M++[.dkt []],ρ++[s.heap.objs.size],sm.laidM (mo:=.dkt []) hf ⟨AAX _,hb,AD5,[],aA,.nil⟩,Grow.laidR hf,.ref sm.last,(show Q (.ref M.length) (M++[.dkt []])from q)⟩
def lW(td ty:DTE):DTE:=λS M Q=>td S M λx M1=>ty S M1 λy M2=>match x,y with
 | .ref n,.tup ks=>∃kvs d,M2[n]?=some (.dkt kvs)/\cw 8 (.tup ks)=true/\aM kvs (.tup ks)=some d/\Q d M2
 | _,_=>False
theorem HJ(hr:Room k X.A)(ho:DE X o td)(hi:DE X i ty)(hs:Cs i):DE X (.Subscript o i pos) (lW td ty):=by
 intro pins s σ H R I ⟨S,M,ρ,Q,sm,sr,q,kk⟩;have un:=hr.un;refine rZ ADV.lookup hs (thn (ho pins s σ H _ I ⟨S,M,ρ,_,sm,sr,q,λv H' z=>z⟩) λu s1 ⟨v,H1,I1,rv,x,M1,ρ1,sm1,g1,r1,q1⟩=>thn (hi pins s1 σ H1 _ I1 ⟨S,M1,ρ1,_,sm1,sr.grow g1,q1,λv H' z=>z⟩) λiv s2 ⟨w,H2,I2,rw',y,M2,ρ2,sm2,g2,r2,q2⟩=>?_)
 cases x with
 | ref n =>
  cases y with
  | tup ks =>
   obtain⟨kvs,d,hM,kd,hg,q3⟩:=q2;obtain⟨a,rfl,hn⟩:=Rep.inv_ref r1;obtain rfl:u=AB6 a:=rv;obtain⟨xs,hH,r,dd,hsm,hl,hx,_⟩:=eO I2 sm2 (am g2.pre hn) hM;have kat:=dE I2 8 _ _ _ r2 rw' kd;rcases qF r (.tup ks)with⟨z,_⟩|⟨d',p,v',e1,e2,e3,e4⟩
   ·rw[hg]at z;cases z
   ·rw[hg]at e1
    cases e1
    obtain⟨b,_,rfl,_⟩:=id kat;refine⟨dd.typeIs,wpAny_getItem_heap (knd:=bH X.prog X.w) (k:=.tup ks) (by show X.A.units+1+8<cLine;lia) kat dd e2 ⟨v',H2,I2.tok _,e4,kk _ _ ⟨d,M2,ρ2,sm2,g1.trans g2,e3,q3⟩⟩⟩
  | _=>exact q2.elim
 | _=>exact q2.elim
def re(td ty tv:DTE):DTS:=λE S M=>tv S M λv M1=>td S M1 λx M2=>ty S M2 λy M3=>match x,y with
 | .ref n,.tup ks=>∃kvs,M3[n]?=some (.dkt kvs)/\cw 8 (.tup ks)=true/\kvs.length<sizeLine/\E.nx S (M3.set n (.dkt (eK kvs (.tup ks) v)))
 | _,_=>False
def kA(h:(kvs.map (·.1)).Nodup):((eK kvs y v).map (·.1)).Nodup:=by
 unfold eK;split
 ·rw[AAt]
  have:((λx:D×D=>x.1) ∘ λp:D×D=>if p.1=y then(p.1,v)else p)=λx=>x.1:=by
   funext p;show (if p.1=y then(p.1,v)else p).1=p.1;split<;>rfl
  rw[this];exact h
 ·rename_i q
  rw[AAW,List.map_singleton,ABL];refine⟨h,by simp,λa ha b hb=>?_⟩
  rw[ABe.mp hb];rintro rfl;obtain⟨p,hp,e⟩:=AAK.mp ha;refine q ?_
  unfold aM;rw[Option.isSome_map,List.find?_isSome];exact⟨p,hp,by simpa using e⟩
theorem Ek(hr:Room k X.A)(ho:DE X o td)(hi:DE X i ty)(hv:DE X value tv)(hs:swapsWith value (some (.Subscript o i pos')) pos.line X.env=pure false):DS X (.Assign [.Subscript o i pos'] value pos) (re td ty tv):=by
 intro pins s σ H E I ⟨S,M,ρ,F,sm,sr,q,kk⟩;have un:=hr.un;refine wpAny_Assign_Subscript (thn (hv pins s σ H _ I ⟨S,M,ρ,_,sm,sr,q,λv H' z=>z⟩) λr s1 ⟨v,H1,I1,rv,dv,M1,ρ1,sm1,g1,r1,q1⟩=>thn (ho pins s1 σ H1 _ I1 ⟨S,M1,ρ1,_,sm1,sr.grow g1,q1,λv H' z=>z⟩) λu s2 ⟨vx,H2,I2,rx,x,M2,ρ2,sm2,g2,r2,q2⟩=>thn (hi pins s2 σ H2 _ I2 ⟨S,M2,ρ2,_,sm2,(sr.grow g1).grow g2,q2,λv H' z=>z⟩) λiv s3 ⟨vy,H3,I3,ry,y,M3,ρ3,sm3,g3,r3,q3⟩=>?_) hs
 cases x with
 | ref n =>
  cases y with
  | tup ks =>
   obtain⟨kvs,hM,kd,hl,q4⟩:=q3;obtain⟨a,rfl,hn⟩:=Rep.inv_ref r2;obtain rfl:u=AB6 a:=rx;have hn3:=am g3.pre hn;obtain⟨xs,hH,r,dd,hsm,_,hx,nd⟩:=eO I3 sm3 hn3 hM;have kat:=dE I3 8 _ _ _ r3 ry kd;obtain⟨b,_,rfl,_⟩:=id kat;obtain⟨_,_,rfl,hq,rr⟩:=Rep.inv_tup r3;cases ry
   have r':=BE r kd (.tup hq rr) ((r1.grow g2).grow g3) rv;have pl:=jG (kvs:=kvs) (k:=.tup ks) (d:=dv);obtain⟨w1,w2⟩:=sm3.writeT hn3 hM hH (by have:=pl;lia) hsm (kA nd) r'
   refine setE (k:=.tup ks) (by show X.A.units+1+8<cLine;lia) kat dd (yY I3 hH) (by lia) λh' dd' hsb=>?_
   have he:∃q,h'.get? a=some q:=let ⟨q,_,hq,_⟩:=dd';⟨q,hq⟩
   exact⟨σ,_,sU I3 (by rw[hH];exact True.intro) hsb he (sR dd'),kk.nx σ _ (SQ.trans ((g1.trans g2).trans g3) ⟨S,_,ρ3,w1,w2,(((sr.grow g1).grow g2).grow g3).grow w2,q4⟩)⟩
  | _=>exact q3.elim
 | _=>exact q3.elim
def dMt(r:Nat->DRA)(to:DTE)(t:DTA):DTE:=λS M Q=>to S M λx M1=>match x with
 | .ref n=>(∃kvs,M1[n]?=some (.dkt kvs))/\t S M1 λds M2=>r n ds M2 Q
 | _=>False
variable{name:Str}{id:String}{e:Expr}{es:List Expr}{to:DTE}{t:DTA}{apos cpos:Pos}
theorem d_mt{r:Nat->DRA}(slot:Slot "dict" name id)(hty:typeOf (.builtin id)=pure (.type "method_descriptor"))(hm:MtR X id (lK X.K r))(ho:DE X o to)(ha:DA X (e::es) t)
  (hbase:attributeBase o name X.env (eval o X.env)=eval o X.env:=by rfl)
  (hfew:((backTo cpos (starEach (e::es) X.env)).all (λx=>!x.1)&&(backToKw cpos (keywordEach [] X.env)).all (λx=>x.1.isSome)
   && decide ((e::es).length+([]:List Keyword).length+(if ([]:List Keyword).isEmpty then 0 else 1)<30))=true:=by rfl)
  (hline:(apos.endLine==cpos.line)=true:=by rfl) (hs:starEach (e::es) X.env=(false,eval e X.env)::starEach es X.env:=by rfl) (hplain:(backTo cpos (starEach es X.env)).any (·.1)=false:=by rfl) :
  DE X (.Call (.Attribute o name apos) (e::es) [] cpos) (dMt r to t):=by
 intro pins s σ H R I ⟨S,M,ρ,Q,sm,sr,q,kk⟩;refine AE1 hbase hfew hline rfl (thn (ho pins s σ H _ I ⟨S,M,ρ,_,sm,sr,q,λv H' z=>z⟩) λu s1 ⟨v,H1,I1,rv,x,M1,ρ1,sm1,g1,r1,q1⟩=>?_)
 cases r1 with
 | @ref n a hn =>
  cases rv
  obtain⟨⟨kvs,hM⟩,q1⟩:=(show (∃kvs,M1[n]?=some (.dkt kvs))/\t S M1 _ from q1);obtain⟨xs,hH,r,dd,hsm,hl,hx,nd⟩:=eO I1 sm1 hn hM;refine⟨"dict",id,ACw,slot,hty,dd.typeIs,λb z=>?_,?_⟩
  ·cases z
   obtain⟨ob,_,_,h1,h2,_⟩:=dd;exact⟨ob,h1,h2.2.1⟩
  ·have hA:=ha cpos pins s1 σ H1 _ I1 ⟨S,M1,ρ1,_,sm1,sr.grow g1,q1,λvs H' z=>z⟩
   rw[hs]at hA ⊢;refine AC3 (by show (false||(backTo cpos (starEach es X.env)).any (·.1))=false;rw[hplain]<;>rfl) (AEL ?_)
   exact thn hA λus s2 ⟨vs,H2,I2,rvs,ds,M2,ρ2,sm2,g2,rr,q2⟩=>hm pins s2 σ H2 (.ref a) vs (.ref a) us R I2 rfl rvs ⟨n,a,ds,M2,ρ2,Q,rfl,am g2.pre hn,sm2,rr,q2,λv H' w=>kk v H' (VQ.trans (g1.trans g2) w)⟩
 | _=>exact q1.elim
def ix(n:Nat):DRA:=λds M Q=>match ds with
 | [.tup ks,d]=>∃kvs,M[n]?=some (.dkt kvs)/\cw 8 (.tup ks)=true/\Q ((aM kvs (.tup ks)).getD d) M
 | _=>False
theorem An(hr:Room k X.A):MtR X "dict.get" (lK X.K ix):=by
 intro pins s σ H x xs v us R I rx rs ⟨n,a,ds,M,ρ,Q,ez,hn,sm,rr,q,kk⟩;have un:=hr.un;unfold ix at q;split at q
 ·rename_i ks d
  obtain⟨kvs,hM,kd,q⟩:=q;first | have hzz:=Reps.inv_cons rr | have hzz:=au.inv_cons rr
  clear rr;obtain⟨_,_,rfl,r1,rr⟩:=hzz;first | have hzz:=Reps.inv_cons rr | have hzz:=au.inv_cons rr
  clear rr;obtain⟨_,_,rfl,r2,rr⟩:=hzz;cases rr
  obtain⟨u1,u2,rfl,e1,e2⟩:=au.two rs;subst ez;cases rx
  obtain⟨ys,hH,r,dd,hsm,hl,hx,nd⟩:=eO I sm hn hM;have kat:=dE I 8 _ _ _ r1 e1 kd;obtain⟨b,_,rfl,_⟩:=id kat;refine AEc ADF dd.typeIs PySem.F.entry_dict_get (PySem.F.args_dict_get_3 _ _ _) (meetsH_dict_get_default (bH X.prog X.w) a b hsm u2) ⟨by show X.A.units+1+8<cLine;lia,.tup ks,ys,kat,dd,?_⟩
  rcases qF r (.tup ks)with⟨z1,z2⟩|⟨d',p,v',z1,z2,z3,z4⟩
  ·rw[z2]
   rw[z1]at q;exact⟨_,H,I.tok _,e2,kk _ _ ⟨d,M,ρ,sm,.refl,r2,q⟩⟩
  ·rw[z2]
   rw[z1]at q;exact⟨_,H,I.tok _,z4,kk _ _ ⟨d',M,ρ,sm,.refl,z3,q⟩⟩
 ·exact q.elim
end
def cK(h:Heap)(d:Addr)(es:Array DictEntry)(ep:Nat):Prop:=∃o,h.get? d=some o/\o.ExactDict/\o.data=.dict es ep
def cK.ty{s:Shared}{d:Addr}{es:Array DictEntry}{ep:Nat}(x:cK s.heap d es ep):s.TypeIs (.ref d) "dict":=by
 obtain⟨o,h1,h2,_⟩:=x;exact⟨o,h1,h2.1⟩
def cK.lt(x:cK h d es ep):d<h.objs.size:=by
 obtain⟨o,h1,_⟩:=x;exact AAG h1
def cK.to(x:cK h d es ep)(k:∀o,h.get? d=some o->h'.get? d=some o):cK h' d es ep:=by
 obtain⟨o,h1,h2⟩:=x;exact⟨o,k o h1,h2⟩
section
variable{prog:Program}{w:World}{A:Around}{E:Value->Shared->Prop}{s:Shared}{d:Addr}{es:Array DictEntry}{ep:Nat}
def uQ{Q:Value->Shared->Prop}(hd:(d==sysModules)=false)(hm:cK s.heap d es ep)
  (hQ:Q (.ref s.heap.objs.size) { s with heap:=s.heap.push { cls:=.type "dict_keyiterator",data:=.fields #[.ref d,.int 0 0,.int es.size 0,.int ep 0] } }) :
  wpAny (model prog w) A (pyIter (.ref d)) Q E s:=by
 have hT:=hm.ty;obtain⟨o,h1,h2,h3⟩:=hm;refine AE6 hT F.slot_dict_iter (AAp F.slot_dict_iter hT F.entry_dict_iter ?_ (F.args_dict_iter_1 _));unfold Builtin.«dict.__iter__»;refine AA0 ?_
 unfold Builtin.Dict.dictSlotNone;refine AA0 (ABm hT (AA2 ?_));refine(show wpAny (model prog w) _ (ADG d >>= _) _ _ s from ?_);unfold ADG;rw[hd];refine AA0 (AA2 (AA0 (ABR h1 h3 (AA0 (ABY h1 h3 ?_)))));exact AA0 (AAr (AA2 ⟨_,rfl,"dict_keyiterator",_,⟨_,AAC _ rfl,rfl⟩,F.slot_dict_keyiterator_next.lookup,by simpa [rawInt]using hQ⟩))
theorem uP(hit:s.heap.IsKeyIter it d i es.size ep)(hm:cK s.heap d es ep)(hi:i<es.size)
  (hQ:∀h',h'.IsKeyIter it d (i+1) es.size ep->ABx it s.heap h'->Q (some es[i].key) { s with heap:=h' }):wpAny (model prog w) A (pyNext (.ref it)) Q E s:=by
 obtain⟨o,ho,hc,hd⟩:=id hit;obtain⟨od,k1,k2,k3⟩:=id hm;unfold pyNext;refine AA0 (ACc (AAq (name:=AA1 "__next__") hit.typeIs F.slot_dict_keyiterator_next (AAp F.slot_dict_keyiterator_next hit.typeIs F.entry_dict_keyiterator_next ?_ (F.args_dict_keyiterator_next_1 _))));refine AA0 (AA2 (AA0 (AA0 ?_)));first | refine AA0 (ACJ hit.typeIs (AA2 (AA0 (ABg ho hd ?_)))) | refine AA0 (ACp hit.typeIs (AA2 (AA0 (ABg ho hd ?_))))
 simp only[show ABo "dict_keyiterator" = false by decide,AAE,if_false]
 refine(show wpAny (model prog w) _ (if (AB6 d==ABj)=true then _ else _) _ _ s from ?_);rw[if_neg (by exact ABB)]
 refine AA0 (AA2 (AA0 (ABR k1 k3 ?_)));rw[if_neg (by simp)]
 refine AA0 (AA2 (AA0 (ABY k1 k3 ?_)));rw[if_neg (by simp)]
 refine AA2 ?_
 simp only[show ¬((i:Int)<0)from by lia,if_false,ABa,AAM hi]
 refine AA0 ?_
 first | refine AA0 (ACJ hit.typeIs (AA2 ?_)) | refine AA0 (ACp hit.typeIs (AA2 ?_))
 refine AA0 (wpAny_isOneOf_keyiter hit.typeIs ?_);refine(show wpAny (model prog w) _ (setField (.ref it) 1 (rawInt ((i:Int)+1)) >>= _) _ _ s from AA0 (ACC ho hd (by simp) ?_))
 have hit':(s.heap.update it (ADQ (·.setIfInBounds 1 (rawInt ((i:Int)+1))))).IsKeyIter it d (i+1) es.size ep:=by
  refine⟨_,AAf _ ho (Obj.isFreed_of_fields (ADy hd _)),(Obj.cls_mapFields ..).trans hc,?_⟩;rw[ADy hd];simp[rawInt]
 refine AA0 (AAZ (AA0 (wpAny_isOneOf_keyiter (s:={ s with heap:=s.heap.update it (ADQ (·.setIfInBounds 1 (rawInt ((i:Int)+1)))) }) hit'.typeIs ?_)))
 refine(show wpAny (model prog w) _ (pure es[i].key) _ _ _ from ?_);exact AA2 (AA2 ⟨_,rfl,AA2 (hQ _ hit' (AAo ..))⟩)
theorem yW(hh:A.handled=none)(hit:s.heap.IsKeyIter it d es.size es.size ep)(hm:cK s.heap d es ep)
  (hQ:∀h',Heap.ExtBut it s.heap h'->Q none { s with heap:=h' }):wpAny (model prog w) A (pyNext (.ref it)) Q E s:=by
 obtain⟨o,ho,hc,hd⟩:=id hit;obtain⟨od,k1,k2,k3⟩:=id hm;unfold pyNext;refine AA0 (ACc (AAq (name:=AA1 "__next__") hit.typeIs F.slot_dict_keyiterator_next (AAp F.slot_dict_keyiterator_next hit.typeIs F.entry_dict_keyiterator_next ?_ (F.args_dict_keyiterator_next_1 _))));refine AA0 (AA2 (AA0 (AA0 ?_)));first | refine AA0 (ACJ hit.typeIs (AA2 (AA0 (ABg ho hd ?_)))) | refine AA0 (ACp hit.typeIs (AA2 (AA0 (ABg ho hd ?_))))
 simp only[show ABo "dict_keyiterator" = false by decide,AAE,if_false]
 refine(show wpAny (model prog w) _ (if (AB6 d==ABj)=true then _ else _) _ _ s from ?_);rw[if_neg (by exact ABB)]
 refine AA0 (AA2 (AA0 (ABR k1 k3 ?_)));rw[if_neg (by simp)]
 refine AA0 (AA2 (AA0 (ABY k1 k3 ?_)));rw[if_neg (by simp)]
 refine AA2 ?_
 simp only[show ¬((es.size:Int)<0)from by lia,if_false,ABa,ABf (AA8 es.size)]
 refine AA0 ?_
 first | refine AA0 (ACJ hit.typeIs (AA2 ?_)) | refine AA0 (ACp hit.typeIs (AA2 ?_))
 refine(show wpAny (model prog w) _ (setField (.ref it) 0 .none >>= _) _ _ s from AA0 (ACC ho hd (by simp) ?_))
 refine(show wpAny (model prog w) _ (newExc (.type "StopIteration") [] >>= _) _ _ _ from AA0 ?_);simp only[newExc,newTuple];refine AA0 (AAr ?_ (by size_fits))
 refine AA0 (m:=firstArgMember _ _) (wpAny_of_eq (a:=ABj) (by first | rfl | (simp only[firstArgMember];rfl)) ?_)
 refine AAr ?_ (by size_fits)
 simp only[raiseNew];refine AA0 (wpAny_handled ?_);rw[show A.in1.handled=none from hh];refine AA0 (AA2 (wpAny_throw ?_));refine AA0 (ACZ (b:=true) (T:="StopIteration") ⟨_,AAC _ rfl,rfl⟩ isSubtype_stop ?_);exact AA2 (hQ _ (((AAo ..).extBut.push _).push _))
def yU(hh:A.handled=none)(I:Addr)(hne:d≠I):Walks prog w A I [I,d] [I] es.size (λi v=>∃e,es[i]?=some e/\v=e.key) (λi h=>h.IsKeyIter I d i es.size ep/\cK h d es ep) where
 sub:=λb hb=>by simp at hb;simp[hb]
 frame:=λ_ _ _ st hk=>⟨st.1.at λo e=>hk I (by simp) o e,st.2.to λo e=>hk d (by simp) o e⟩
 item:=λi s Q E hi st hQ=>uP st.1 st.2 hi λh' hit' hs'=>hQ _ h' s.toks ⟨es[i],by simp[hi],rfl⟩ ⟨hit',st.2.to λo e=>hs'.extBut d o hne e⟩ λb o hb e=>hs'.extBut b o (λh=>hb (by simp[h])) e
 done:=λs Q E st hQ=>yW hh st.1 st.2 λh' he'=>hQ h' s.toks λb o hb e=>he' b o (λh=>hb (by simp[h])) e
 self:=λ_ _ _ _ st hQ=>wpAny_pyIter_keyiter st.1 hQ
def yV(lo:(d==sysModules)=false):KdlSrc prog w "dict" d d es.size (λi v=>∃e,es[i]?=some e/\v=e.key) (λh=>cK h d es ep) where
 type:=λ_ hm=>hm.ty
 there:=λ_ hm=>⟨hm.lt,hm.lt⟩
 keep:=λ_ _ hm hk=>hm.to λo e=>hk d (.inl rfl) o e
 notList:=by decide
 notTuple:=by decide
 hint:=λ_ _ _ _ hm hq=>kdl_hint_dict hm.ty hq
 iter:=λ_ _ hh hm=>⟨_,_,(λ_ _ hq=>uQ lo hm hq),yU hh _ (AAO hm.lt),⟨⟨_,AAC _ rfl,rfl,rfl⟩,hm.to λo e=>AA3 _ e⟩⟩
end
def Ite(a:Addr)(n:Nat):It :=
 ⟨λi H=>∃xs,H a=some (.ext (dX a xs))/\xs.length=n/\i<n,λi H v H'=>H'=H/\∀xs,H a=some (.ext (dX a xs))->∃x,xs[i]?=some x/\v=.ref x.2.1,λi H=>(∃xs,H a=some (.ext (dX a xs))/\xs.length=n)/\i=n⟩
section
variable{X:Cx}{pins:List (Addr×Obj)}{σ:St}{H:Hp}{s:Shared}
def fA(I:Inv X pins σ H s)(hH:H a=some (.ext (dX a xs))):∃es,cK s.heap a es xs.length/\es.size=xs.length/\∀(i:Nat) x,xs[i]?=some x->∃e,es[i]?=some e/\e.key=.ref x.2.1/\e.val=x.2.2:=by
 obtain⟨o,es,h1,h2,h3,h4⟩:=yY I hH;refine⟨es,⟨o,h1,h2,h3⟩,?_,λi x hx=>?_⟩
 ·have:=congrArg ABr h4
  rwa [AAL,AA4]at this
 ·refine⟨⟨hkD X.w 8 x.1,.ref x.2.1,x.2.2⟩,?_,rfl,rfl⟩
  rw[<-AAS,h4,AAV,hx];rfl
def uO(x:cK h a es ep)(y:cK h a es' ep'):es=es'/\ep=ep':=by
 obtain⟨o,h1,_,h3⟩:=x;obtain⟨o',h1',_,h3'⟩:=y;obtain rfl:o=o':=AAR (h1.symm.trans h1');rw[h3]at h3';injection h3' with e1 e2
 exact⟨e1,e2⟩
end
theorem zH{P:Program}{w:World}{K:AA6}{tg:Expr}(a it:Addr)(n:Nat):Turn P w K tg (Ite a n) [it] it (λi h=>h.IsKeyIter it a i n n) where
 mem:=by simp
 obj:=λi h st b hb=>by
  obtain rfl:b=it:=by simpa using hb
  obtain⟨o,e,c,d⟩:=st;exact⟨o,e,λv z=>by rw[d]at z;cases z⟩
 keep:=λi h h' st k=>st.at λo e=>k it (by simp) o e
 item:=by
  intro X hP hw hK hc i pins s σ H E I hf st hg;subst hP hw hK;obtain⟨xs,hH,rfl,hi⟩:=hg;obtain⟨es,em,el,eg⟩:=fA I hH;obtain⟨e,e1,e2,e3⟩:=eg i xs[i] (AA5 hi);obtain⟨f0,f1,f2,f3,f4,f5⟩:=hf it (by simp)
  have hi':i<es.size:=by lia
  have ee:es[i]=e:=by
   rw[AAM hi']at e1;exact AAR e1
  rw[<-el]at em st;refine uP st em hi' λh' st' sb=>?_
  rw[ee,e2];have I1:Inv X pins σ H { s with heap:=h' }:=I.turned (t':=s.toks) (λb o hb e=>(sb.2 b hb).trans e) f0 f1 f3 f4 f5
  obtain⟨o,q1,q2,q3⟩:=id st';refine⟨_,rfl,sO (s:={ s with heap:=h' }) q1 q2 q3 (by decide) ⟨.ref xs[i].2.1,H,I1,rfl,⟨rfl,λys hy=>?_⟩,by rw[el]at st';exact st',λb hb=>(hf b hb).1⟩⟩
  obtain⟨es',em',el',eg'⟩:=fA I hy;obtain⟨rfl,ep⟩:=uO em em';have hj:i<ys.length:=by lia
  obtain⟨e',z1,z2,_⟩:=eg' i ys[i] (AA5 hj);rw[AAM hi',ee]at z1;obtain rfl:=AAR z1;rw[e2]at z2;injection z2 with z2
  exact⟨ys[i],AA5 hj,by rw[z2]⟩
 done:=by
  intro X hP hw hK hc i pins s σ H E I hf st hg;subst hP hw hK;obtain⟨⟨xs,hH,rfl⟩,rfl⟩:=hg;obtain⟨es,em,el,eg⟩:=fA I hH;obtain⟨f0,f1,f2,f3,f4,f5⟩:=hf it (by simp)
  rw[<-el]at em st;exact yW (I.ok.hd hc) st em λh' he=>⟨rfl,I.turned (t':=s.toks) (λb o hb e=>he b o hb e) f0 f1 f3 f4 f5⟩
 self:=λA i s Q E st hQ=>wpAny_pyIter_keyiter st hQ
section
variable{X:Cx}{tg:Expr}
def rB(tl:DTE):DTI:=λS M R=>tl S M λd M1=>match d with
 | .ref n=>∃kvs,M1[n]?=some (.dkt kvs)/\(kvs.length<=sizeLine->R ⟨kvs.map (·.1),λM=>M[n]?=some (.dkt kvs)⟩ M1)
 | _=>False
def AX{l:Expr}{tl:DTE}(hl:DE X l tl):DI X tg l (rB tl):=by
 intro pins s σ H R I h;obtain⟨S,M,ρ,Q,sm,sr,q,k⟩:=h;refine thn (hl pins s σ H _ I ⟨S,M,ρ,_,sm,sr,q,λv H' w=>w⟩) λu s1 ⟨v,H1,I1,rv,d,M1,ρ1,sm1,g1,r1,q1⟩=>?_
 cases r1 with
 | @ref n a hn =>
  cases rv
  obtain⟨kvs,hM,q2⟩:=(show ∃kvs,M1[n]?=some (.dkt kvs)/\(kvs.length<=sizeLine->Q ⟨kvs.map (·.1),λM=>M[n]?=some (.dkt kvs)⟩ M1)from q1)
  obtain⟨xs,hH,r,dd,hsm,hz,hx,nd⟩:=eO I1 sm1 hn hM;obtain⟨es,em,el,_⟩:=fA I1 hH;refine uQ hsm em ?_
  rw[el];refine⟨s1.heap.objs.size,[s1.heap.objs.size],_,_,H1,rfl,I1.kept (t':=s1.toks) λb o e=>AA3 _ e,zH a _ xs.length,⟨_,AAC _ rfl,rfl,rfl⟩,λb hb=>?_,k _ H1 ⟨⟨kvs.map (·.1),λM=>M[n]?=some (.dkt kvs)⟩,M1,ρ1,sm1,g1,?_,q2 hz⟩⟩
  ·obtain rfl:b=s1.heap.objs.size:=by simpa using hb
   exact I1.fpOk (AA8 _) (I1.hok.fresh (AA8 _))
  ·refine⟨λi ρ' M' H' s' g ok hi=>?_,λi ρ' M' H' x H2 s' g ok hi y=>?_,λρ' M' H' s' g ok=>?_⟩
   ·obtain⟨_,_,_,ys,hy,ry⟩:=s'.obj _ _ _ (am g.pre hn) ok
    have ly:ys.length=kvs.length:=by have:=congrArg ABr (gR ry);rwa [AA4,AA4]at this
    exact⟨ys,hy,by lia,by rw[AA4]at hi;lia⟩
   ·obtain⟨rfl,hall⟩:=y
    obtain⟨_,_,_,ys,hy,ry⟩:=s'.obj _ _ _ (am g.pre hn) ok;obtain⟨z,hz1,rfl⟩:=hall ys hy;obtain⟨p,hp,_,_,rp,_⟩:=cU ry hz1;exact⟨p.1,ρ',by rw[AAV,hp];rfl,s',.refl,rp⟩
   ·obtain⟨_,_,_,ys,hy,ry⟩:=s'.obj _ _ _ (am g.pre hn) ok
    have ly:ys.length=kvs.length:=by have:=congrArg ABr (gR ry);rwa [AA4,AA4]at this
    exact⟨⟨ys,hy,by lia⟩,by rw[AA4];lia⟩
 | _=>exact q1.elim
def vD{K:AA6}{ρ:List Addr}{H:Hp}{kvs:List (D×D)}{xs:List (D×Addr×Value)}(r:Paired (tp K ρ H) kvs xs):Reps K ρ H (kvs.map (·.1)) (xs.map λx=>V.ref x.2.1):=by
 induction r with
 | nil=>exact .nil
 | cons h t ih=>exact .cons h.2.2.1 ih
def pe:∀(xs:List (D×Addr×Value)) (vs:List Value),vs.length=xs.length->(∀(j:Nat) (v:Value) x,vs[j]?=some v->xs[j]?=some x->v=.ref x.2.1)->au (xs.map λx=>V.ref x.2.1) vs
 | [],[],_,_=>.nil
 | [],_::_,e,_=>by simp at e
 | _::_,[],e,_=>by simp at e
 | x::xs,v::vs,e,h=>.cons (h 0 v x rfl rfl) (pe xs vs (by simpa using e) λj u y h1 h2=>h (j+1) u y (by simpa using h1) (by simpa using h2))
def fN:DRA:=λds M Q=>match ds with
 | [.ref n]=>∃kvs,M[n]?=some (.dkt kvs)/\SrtOk M (kvs.map (·.1))/\∀ys,ys.Perm (kvs.map (·.1))->Cq M ys->Q (.ref M.length) (M++[.lst ys])
 | _=>False
theorem wj{k:Nat}(hr:Room k X.A)(hc:X.calm=true):jC X (.builtin "sorted") fN:=by
 intro pins s σ H vs us R I rv ⟨ds,M,ρ,Q,sm,rs,q,kk⟩;unfold fN at q;split at q
 ·obtain⟨kvs,hM,so,q⟩:=q
  first | have hzz:=Reps.inv_cons rs | have hzz:=au.inv_cons rs
  clear rs;obtain⟨_,_,rfl,r1,rs⟩:=hzz;cases rs
  obtain⟨u,rfl,e1⟩:=au.one rv;obtain⟨a,rfl,e⟩:=Rep.inv_ref r1;cases e1
  obtain⟨xs,hH,r,dd,z2,hz,hx,nd⟩:=eO I sm e hM;obtain⟨es,em,el,eg⟩:=fA I hH;obtain⟨m,hn,hm⟩:=I.loc;have hne:a≠X.env.locals:=ad hH I.free;obtain⟨oa,hoa,_⟩:=id em;have mem:∀b o,(b,o)∈[]++(a,oa)::Att.ledger s.heap X.env.locals a↔b≠X.env.locals/\s.heap.get? b=some o:=λb o=>by
   rw[AAs,AAJ,Att.mem_ledger];constructor
   ·rintro(h | ⟨h1,_,h3⟩)
    ·cases h;exact⟨hne,hoa⟩
    ·exact⟨h1,h3⟩
   ·rintro⟨h1,h2⟩
    by_cases hal:b=a
    ·subst hal
     rw[hoa]at h2;cases h2;exact .inl rfl
    ·exact .inr ⟨h1,hal,h2⟩
  have sl:=so.len;rw[AA4]at sl;refine kdu_sorted (yV (es:=es) (ep:=xs.length) z2) (I.ok.hd hc) (Att.fr_all hn) (Att.news_ledger hne hoa) em (by rw[ABq];lia) λD h' tk vs F' N' lt hl hP=>?_
  have kp:∀b u,b≠X.env.locals->s.heap.get? b=some u->h'.get? b=some u:=λb u hb e=>(N' (b,u) (AA9 _ ((mem b u).mpr ⟨hb,e⟩))).1
  have hDL:D≠X.env.locals:=(N' _ AAI).2.1;have hD:s.heap.get? D=none:=by
   cases q:s.heap.get? D with
   | none=>rfl
   | some o=>exact absurd (lt (D,o) ((mem D o).mpr ⟨hDL,q⟩)) (AAn _)
  have rvs:au (xs.map λx=>V.ref x.2.1) vs:=by
   refine pe xs vs (by lia) λj v x hj hx'=>?_
   obtain⟨e0,g1,rfl⟩:=hP j v hj;obtain⟨e2,g2,g3,_⟩:=eg j x hx';rw[g1]at g2;obtain rfl:=AAR g2;exact g3
  have rps:=vD r;exact xp (n:=0) hr (by show X.A.units+1<=X.A.units+4;lia) I sm so.g rps rvs hn F'.ns kp hD hDL (N' _ AAI).1 λv H' x=>kk v H' (x Q q)
 ·exact q.elim
end
section
variable{prog:Program}{w:World}{A:Around}{E:Value->Shared->Prop}{s:Shared}{d:Addr}{es:Array DictEntry}{ep:Nat}
def mW(hd:(d==sysModules)=false)(hm:cK s.heap d es ep)(hQ:Q (.ref s.heap.objs.size) { s with heap:=s.heap.push { cls:=.type "dict_values",data:=.fields #[.ref d] } }) :
  wpAny (model prog w) A (call (.builtin "dict.values") [.ref d]) Q E s:=by
 refine AEc ADj hm.ty PySem.F.entry_dict_values (PySem.F.args_dict_values_1 _) (S:=λ_ R s'=>s'=s/\R (.ok (.ret (.ref s.heap.objs.size))) { s with heap:=s.heap.push { cls:=.type "dict_values",data:=.fields #[.ref d] } }) (.of_wp ?_) ⟨rfl,hQ⟩
 rintro A R s' ⟨rfl,h⟩;refine AA0 ?_
 unfold Builtin.Dict.noArgs;refine AA0 (ABm hm.ty (AA2 ?_));refine(show wpAny (model prog w) _ (ADG d >>= _) _ _ s' from ?_);unfold ADG;rw[hd];exact AA0 (AA2 (AA0 (AAr (AA2 ⟨_,rfl,h⟩))))
theorem qV(hv:s.heap.IsValuesView v d)(hm:cK s.heap d es ep)
  (hQ:Q (.ref s.heap.objs.size) { s with heap:=s.heap.push { cls:=.type "dict_valueiterator",data:=.fields #[.ref d,.int 0 0,.int es.size 0,.int ep 0] } }):wpAny (model prog w) A (pyIter (.ref v)) Q E s:=by
 obtain⟨ov,v1,v2,v3⟩:=id hv;obtain⟨o,h1,h2,h3⟩:=hm;refine AE6 hv.typeIs F.slot_dict_values_iter (AAp F.slot_dict_values_iter hv.typeIs F.entry_dict_values_iter ?_ (F.args_dict_values_iter_1 _));unfold Builtin.«dict_values.__iter__»;refine AA0 (AA2 (AA0 ?_));unfold Builtin.Dict_items.dictOf;refine AA0 (wpAny_field v1 v3 (x:=.ref d) rfl (AA2 (AA0 ?_)));unfold Builtin.Dict_items.newIterator;refine AA0 (ABR h1 h3 (AA0 (ABY h1 h3 ?_)));simp only[show ABo "dict_valueiterator" = false by decide,AAE,if_false]
 exact AAr (AA2 ⟨_,rfl,"dict_valueiterator",_,⟨_,AAC _ rfl,rfl⟩,F.slot_dict_valueiterator_next.lookup,by simpa [rawInt]using hQ⟩)
theorem qU(hit:s.heap.IsValIter it d i es.size ep)(hm:cK s.heap d es ep)(hi:i<es.size)
  (hQ:∀h',h'.IsValIter it d (i+1) es.size ep->ABx it s.heap h'->Q (some es[i].val) { s with heap:=h' }):wpAny (model prog w) A (pyNext (.ref it)) Q E s:=by
 obtain⟨o,ho,hc,hd⟩:=id hit;obtain⟨od,k1,k2,k3⟩:=id hm;unfold pyNext;refine AA0 (ACc (AAq (name:=AA1 "__next__") hit.typeIs F.slot_dict_valueiterator_next (AAp F.slot_dict_valueiterator_next hit.typeIs F.entry_dict_valueiterator_next ?_ (F.args_dict_valueiterator_next_1 _))));refine AA0 (AA2 (AA0 (AA0 ?_)));first | refine AA0 (ACK hit.typeIs (AA2 (AA0 (ABg ho hd ?_)))) | refine AA0 (ACq hit.typeIs (AA2 (AA0 (ABg ho hd ?_))))
 simp only[show ABo "dict_valueiterator" = false by decide,AAE,if_false]
 refine(show wpAny (model prog w) _ (if (AB6 d==ABj)=true then _ else _) _ _ s from ?_);rw[if_neg (by exact ABB)]
 refine AA0 (AA2 (AA0 (ABR k1 k3 ?_)));rw[if_neg (by simp)]
 refine AA0 (AA2 (AA0 (ABY k1 k3 ?_)));rw[if_neg (by simp)]
 refine AA2 ?_
 simp only[show ¬((i:Int)<0)from by lia,if_false,ABa,AAM hi]
 refine AA0 ?_
 first | refine AA0 (ACK hit.typeIs (AA2 ?_)) | refine AA0 (ACq hit.typeIs (AA2 ?_))
 refine AA0 (AEH hit.typeIs ?_);refine(show wpAny (model prog w) _ (setField (.ref it) 1 (rawInt ((i:Int)+1)) >>= _) _ _ s from AA0 (ACC ho hd (by simp) ?_))
 have hit':(s.heap.update it (ADQ (·.setIfInBounds 1 (rawInt ((i:Int)+1))))).IsValIter it d (i+1) es.size ep:=by
  refine⟨_,AAf _ ho (Obj.isFreed_of_fields (ADy hd _)),(Obj.cls_mapFields ..).trans hc,?_⟩;rw[ADy hd];simp[rawInt]
 refine AA0 (AAZ (AA0 (AEH (s:={ s with heap:=s.heap.update it (ADQ (·.setIfInBounds 1 (rawInt ((i:Int)+1)))) }) hit'.typeIs (AA0 (AEH (s:={ s with heap:=s.heap.update it (ADQ (·.setIfInBounds 1 (rawInt ((i:Int)+1)))) }) hit'.typeIs ?_)))))
 refine(show wpAny (model prog w) _ (pure es[i].val) _ _ _ from ?_);exact AA2 (AA2 ⟨_,rfl,AA2 (hQ _ hit' (AAo ..))⟩)
theorem uN(hh:A.handled=none)(hit:s.heap.IsValIter it d es.size es.size ep)(hm:cK s.heap d es ep)
  (hQ:∀h',Heap.ExtBut it s.heap h'->Q none { s with heap:=h' }):wpAny (model prog w) A (pyNext (.ref it)) Q E s:=by
 obtain⟨o,ho,hc,hd⟩:=id hit;obtain⟨od,k1,k2,k3⟩:=id hm;unfold pyNext;refine AA0 (ACc (AAq (name:=AA1 "__next__") hit.typeIs F.slot_dict_valueiterator_next (AAp F.slot_dict_valueiterator_next hit.typeIs F.entry_dict_valueiterator_next ?_ (F.args_dict_valueiterator_next_1 _))));refine AA0 (AA2 (AA0 (AA0 ?_)));first | refine AA0 (ACK hit.typeIs (AA2 (AA0 (ABg ho hd ?_)))) | refine AA0 (ACq hit.typeIs (AA2 (AA0 (ABg ho hd ?_))))
 simp only[show ABo "dict_valueiterator" = false by decide,AAE,if_false]
 refine(show wpAny (model prog w) _ (if (AB6 d==ABj)=true then _ else _) _ _ s from ?_);rw[if_neg (by exact ABB)]
 refine AA0 (AA2 (AA0 (ABR k1 k3 ?_)));rw[if_neg (by simp)]
 refine AA0 (AA2 (AA0 (ABY k1 k3 ?_)));rw[if_neg (by simp)]
 refine AA2 ?_
 simp only[show ¬((es.size:Int)<0)from by lia,if_false,ABa,ABf (AA8 es.size)]
 refine AA0 ?_
 first | refine AA0 (ACK hit.typeIs (AA2 ?_)) | refine AA0 (ACq hit.typeIs (AA2 ?_))
 refine(show wpAny (model prog w) _ (setField (.ref it) 0 .none >>= _) _ _ s from AA0 (ACC ho hd (by simp) ?_))
 refine(show wpAny (model prog w) _ (newExc (.type "StopIteration") [] >>= _) _ _ _ from AA0 ?_);simp only[newExc,newTuple];refine AA0 (AAr ?_ (by size_fits))
 refine AA0 (m:=firstArgMember _ _) (wpAny_of_eq (a:=ABj) (by first | rfl | (simp only[firstArgMember];rfl)) ?_)
 refine AAr ?_ (by size_fits)
 simp only[raiseNew];refine AA0 (wpAny_handled ?_);rw[show A.in1.handled=none from hh];refine AA0 (AA2 (wpAny_throw ?_));refine AA0 (ACZ (b:=true) (T:="StopIteration") ⟨_,AAC _ rfl,rfl⟩ isSubtype_stop ?_);exact AA2 (hQ _ (((AAo ..).extBut.push _).push _))
def wa(hh:A.handled=none)(I:Addr)(hne:d≠I):Walks prog w A I [I,d] [I] es.size (λi v=>∃e,es[i]?=some e/\v=e.val) (λi h=>h.IsValIter I d i es.size ep/\cK h d es ep) where
 sub:=λb hb=>by simp at hb;simp[hb]
 frame:=λ_ _ _ st hk=>⟨st.1.at λo e=>hk I (by simp) o e,st.2.to λo e=>hk d (by simp) o e⟩
 item:=λi s Q E hi st hQ=>qU st.1 st.2 hi λh' hit' hs'=>hQ _ h' s.toks ⟨es[i],by simp[hi],rfl⟩ ⟨hit',st.2.to λo e=>hs'.extBut d o hne e⟩ λb o hb e=>hs'.extBut b o (λh=>hb (by simp[h])) e
 done:=λs Q E st hQ=>uN hh st.1 st.2 λh' he'=>hQ h' s.toks λb o hb e=>he' b o (λh=>hb (by simp[h])) e
 self:=λ_ _ _ _ st hQ=>wpAny_pyIter_valiter st.1 hQ
end
def Itv(a:Addr)(n:Nat):It :=
 ⟨λi H=>∃xs x v,H a=some (.ext (dX a xs))/\xs.length=n/\xs[i]?=some x/\aI v x.2.2,λi H v H'=>H'=H/\∀xs,H a=some (.ext (dX a xs))->∃x,xs[i]?=some x/\aI v x.2.2,λi H=>(∃xs,H a=some (.ext (dX a xs))/\xs.length=n)/\i=n⟩
theorem wF{P:Program}{w:World}{K:AA6}{tg:Expr}(a it:Addr)(n:Nat):Turn P w K tg (Itv a n) [it] it (λi h=>h.IsValIter it a i n n) where
 mem:=by simp
 obj:=λi h st b hb=>by
  obtain rfl:b=it:=by simpa using hb
  obtain⟨o,e,c,d⟩:=st;exact⟨o,e,λv z=>by rw[d]at z;cases z⟩
 keep:=λi h h' st k=>st.at λo e=>k it (by simp) o e
 item:=by
  intro X hP hw hK hc i pins s σ H E I hf st hg;subst hP hw hK;obtain⟨xs,x,v,hH,rfl,hx,hv⟩:=hg;obtain⟨es,em,el,eg⟩:=fA I hH;obtain⟨e,e1,e2,e3⟩:=eg i x hx;obtain⟨f0,f1,f2,f3,f4,f5⟩:=hf it (by simp)
  have hi':i<es.size:=(AAw.mp e1).1;have ee:es[i]=e:=by
   rw[AAM hi']at e1;exact AAR e1
  rw[<-el]at em st;refine qU st em hi' λh' st' sb=>?_
  rw[ee,e3];have I1:Inv X pins σ H { s with heap:=h' }:=I.turned (t':=s.toks) (λb o hb e=>(sb.2 b hb).trans e) f0 f1 f3 f4 f5
  obtain⟨o,q1,q2,q3⟩:=id st';refine⟨_,rfl,sO (s:={ s with heap:=h' }) q1 q2 q3 (by decide) ⟨v,H,I1,hv,⟨rfl,λys hy=>?_⟩,by rw[el]at st';exact st',λb hb=>(hf b hb).1⟩⟩
  obtain⟨es',em',el',eg'⟩:=fA I hy;obtain⟨rfl,ep⟩:=uO em em';have hj:i<ys.length:=by lia
  obtain⟨e',z1,_,z2⟩:=eg' i ys[i] (AA5 hj);rw[AAM hi',ee]at z1;obtain rfl:=AAR z1;rw[e3]at z2;exact⟨ys[i],AA5 hj,by rw[<-z2];exact hv⟩
 done:=by
  intro X hP hw hK hc i pins s σ H E I hf st hg;subst hP hw hK;obtain⟨⟨xs,hH,rfl⟩,rfl⟩:=hg;obtain⟨es,em,el,eg⟩:=fA I hH;obtain⟨f0,f1,f2,f3,f4,f5⟩:=hf it (by simp)
  rw[<-el]at em st;exact uN (I.ok.hd hc) st em λh' he=>⟨rfl,I.turned (t':=s.toks) (λb o hb e=>he b o hb e) f0 f1 f3 f4 f5⟩
 self:=λA i s Q E st hQ=>wpAny_pyIter_valiter st hQ
section
variable{X:Cx}{tg o:Expr}{to:DTE}{apos cpos:Pos}
def qZ(to:DTE):DTI:=λS M R=>to S M λd M1=>match d with
 | .ref n=>∃kvs,M1[n]?=some (.dkt kvs)/\(kvs.length<=sizeLine->R ⟨kvs.map (·.2),λM=>M[n]?=some (.dkt kvs)⟩ M1)
 | _=>False
def AW(ho:DE X o to)(hbase:attributeBase o "values" X.env (eval o X.env)=eval o X.env:=by rfl)(hline:(apos.endLine==cpos.line)=true:=by rfl):DI X tg (.Call (.Attribute o "values" apos) [] [] cpos) (qZ to):=by
 intro pins s σ H R I h;obtain⟨S,M,ρ,Q,sm,sr,q,k⟩:=h;refine ADo hbase hline (thn (ho pins s σ H _ I ⟨S,M,ρ,_,sm,sr,q,λv H' w=>w⟩) λu s1 ⟨v,H1,I1,rv,d,M1,ρ1,sm1,g1,r1,q1⟩=>?_)
 cases r1 with
 | @ref n a hn =>
  cases rv
  obtain⟨kvs,hM,q2⟩:=(show ∃kvs,M1[n]?=some (.dkt kvs)/\(kvs.length<=sizeLine->Q ⟨kvs.map (·.2),λM=>M[n]?=some (.dkt kvs)⟩ M1)from q1)
  obtain⟨xs,hH,r,dd,hsm,hz,hx,nd⟩:=eO I1 sm1 hn hM;obtain⟨es,em,el,_⟩:=fA I1 hH;refine⟨"dict","dict.values",ACw,ADj,PySem.F.type_dict_values,dd.typeIs,λb z=>?_,AC3 rfl (AEP (mW hsm em ?_))⟩
  ·cases z
   obtain⟨ob,_,_,h1,h2,_⟩:=dd;exact⟨ob,h1,h2.2.1⟩
  have I2:Inv X pins σ H1 { s1 with heap:=s1.heap.push { cls:=.type "dict_values",data:=.fields #[.ref a] } }:=I1.kept (t':=s1.toks) λb o e=>AA3 _ e
  have em2:cK ({ s1 with heap:=s1.heap.push { cls:=.type "dict_values",data:=.fields #[.ref a] } }:Shared).heap a es xs.length:=em.to λo e=>AA3 _ e
  refine qV (d:=a) ⟨_,AAC _ rfl,rfl,rfl⟩ em2 ?_
  rw[el];have fin:∀s2:Shared,Inv X pins σ H1 s2->PIE X pins σ tg R (.ref s2.heap.objs.size) { s2 with heap:=s2.heap.push { cls:=.type "dict_valueiterator",data:=.fields #[.ref a,.int 0 0,.int xs.length 0,.int xs.length 0] } }:=λs2 I2=>by
   refine⟨s2.heap.objs.size,[s2.heap.objs.size],_,_,H1,rfl,I2.kept (t':=s2.toks) λb o e=>AA3 _ e,wF a _ xs.length,⟨_,AAC _ rfl,rfl,rfl⟩,λb hb=>?_,k _ H1 ⟨⟨kvs.map (·.2),λM=>M[n]?=some (.dkt kvs)⟩,M1,ρ1,sm1,g1,?_,q2 hz⟩⟩
   ·obtain rfl:b=s2.heap.objs.size:=by simpa using hb
    exact I2.fpOk (AA8 _) (I2.hok.fresh (AA8 _))
   ·refine⟨λi ρ' M' H' s' g ok hi=>?_,λi ρ' M' H' x H2 s' g ok hi y=>?_,λρ' M' H' s' g ok=>?_⟩
    ·obtain⟨_,_,_,ys,hy,ry⟩:=s'.obj _ _ _ (am g.pre hn) ok
     have ly:ys.length=kvs.length:=by have:=congrArg ABr (gR ry);rwa [AA4,AA4]at this
     rw[AA4]at hi;have hj:i<ys.length:=by lia
     obtain⟨p,_,_,_,_,v,_,rv⟩:=cU ry (AA5 hj);exact⟨ys,ys[i],v,hy,by lia,AA5 hj,rv⟩
    ·obtain⟨rfl,hall⟩:=y
     obtain⟨_,_,_,ys,hy,ry⟩:=s'.obj _ _ _ (am g.pre hn) ok;obtain⟨z,hz1,rz⟩:=hall ys hy;obtain⟨p,hp,_,_,_,v,rp,rv⟩:=cU ry hz1;obtain rfl:x=v:=rz.inj rv;exact⟨p.2,ρ',by rw[AAV,hp];rfl,s',.refl,rp⟩
    ·obtain⟨_,_,_,ys,hy,ry⟩:=s'.obj _ _ _ (am g.pre hn) ok
     have ly:ys.length=kvs.length:=by have:=congrArg ABr (gR ry);rwa [AA4,AA4]at this
     exact⟨⟨ys,hy,by lia⟩,by rw[AA4];lia⟩
  exact fin _ I2
 | _=>exact q1.elim
end
section
variable{prog:Program}{w:World}{d r:Addr}{es:Array DictEntry}{ep:Nat}
def AS:KdlSrc prog w "dict_values" r d es.size (λi v=>∃e,es[i]?=some e/\v=e.val) (λh=>h.IsValuesView r d/\cK h d es ep) where
 type:=λ_ hm=>hm.1.typeIs
 there:=λ_ hm=>⟨let ⟨_,ho,_⟩:=hm.1;AAG ho,hm.2.lt⟩
 keep:=λ_ _ hm hk=>⟨let ⟨o,ho,x⟩:=hm.1;⟨o,hk r (.inl rfl) o ho,x⟩,hm.2.to λo e=>hk d (.inr rfl) o e⟩
 notList:=by decide
 notTuple:=by decide
 hint:=λ_ _ _ _ hm hq=>kdl_hint_values hm.1.typeIs hq
 iter:=λ_ _ hh hm=>⟨_,_,(λ_ _ hq=>qV hm.1 hm.2 hq),wa hh _ (AAO hm.2.lt),⟨⟨_,AAC _ rfl,rfl,rfl⟩,hm.2.to λo e=>AA3 _ e⟩⟩
end
def wD{K:AA6}{ρ:List Addr}{H:Hp}{kvs:List (D×D)}{xs:List (D×Addr×Value)}(r:Paired (tp K ρ H) kvs xs):∃ws,Reps K ρ H (kvs.map (·.2)) ws/\au ws (xs.map λx=>x.2.2):=by
 induction r with
 | nil=>exact⟨[],.nil,.nil⟩
 | cons h t ih =>
  obtain⟨_,_,_,v,q1,q2⟩:=h;obtain⟨ws,h1,h2⟩:=ih;exact⟨v::ws,.cons q1 h1,.cons q2 h2⟩
section
variable{X:Cx}{o:Expr}{to:DTE}{apos cpos p pos:Pos}{k:Nat}
def iJ(to:DTE):DTE:=λS M Q=>to S M λd M1=>match d with
 | .ref n=>∃kvs,M1[n]?=some (.dkt kvs)/\Q (.ref M1.length) (M1++[.lst (kvs.map (·.2))])
 | _=>False
def wd(hc:X.calm=true)(ho:DE X o to)(hm:X.mg "list" = none)(hg:X.env.kindOf "list" = some .globalImplicit)
  (hs:starEach [AEX (.Attribute o "values" apos) [] [] cpos] X.env=[(false,eval (AEX (.Attribute o "values" apos) [] [] cpos) X.env)])
  (hbase:attributeBase o "values" X.env (eval o X.env)=eval o X.env) (hline:(apos.endLine==cpos.line)=true) :
  DE X (.Call (.Name "list" p) [.Call (.Attribute o "values" apos) [] [] cpos] [] pos) (iJ to):=by
 intro pins s σ H R I ⟨S,M,ρ,Q,sm,sr,q,kk⟩;refine ACF (gF I hg hm (by rfl) ?_)
 refine callWith_type1 ?_ (by rw[hs];rfl) rfl
 rw[hs];refine ADl (ADo hbase hline (thn (ho pins s σ H _ I ⟨S,M,ρ,_,sm,sr,q,λv H' w=>w⟩) λu s1 ⟨v,H1,I1,rv,x,M1,ρ1,sm1,g1,r1,q1⟩=>?_))
 cases r1 with
 | @ref n a hn =>
  cases rv
  obtain⟨kvs,hM,q2⟩:=(show ∃kvs,M1[n]?=some (.dkt kvs)/\Q (.ref M1.length) (M1++[.lst (kvs.map (·.2))])from q1);obtain⟨xs,hH,r,dd,hsm,hz,hx,nd⟩:=eO I1 sm1 hn hM;obtain⟨es,em,el,eg⟩:=fA I1 hH;refine⟨"dict","dict.values",ACw,ADj,PySem.F.type_dict_values,dd.typeIs,λb z=>?_,AC3 rfl (AEP (mW hsm em ?_))⟩
  ·cases z
   obtain⟨ob,_,_,h1,h2,_⟩:=dd;exact⟨ob,h1,h2.2.1⟩
  refine AE2 ?_
  have I2:Inv X pins σ H1 { s1 with heap:=s1.heap.push { cls:=.type "dict_values",data:=.fields #[.ref a] } }:=I1.kept (t':=s1.toks) λb o e=>AA3 _ e
  have em2:cK ({ s1 with heap:=s1.heap.push { cls:=.type "dict_values",data:=.fields #[.ref a] } }:Shared).heap a es xs.length:=em.to λo e=>AA3 _ e
  have vw:({ s1 with heap:=s1.heap.push { cls:=.type "dict_values",data:=.fields #[.ref a] } }:Shared).heap.IsValuesView s1.heap.objs.size a:=⟨_,AAC _ rfl,rfl,rfl⟩
  generalize ({ s1 with heap:=s1.heap.push { cls:=.type "dict_values",data:=.fields #[.ref a] } }:Shared)=s2 at I2 em2 vw ⊢
  refine kdl_call (AS (es:=es) (ep:=xs.length)) (I2.ok.hd hc) ⟨vw,em2⟩ (by lia) λh' tk acc' c' hk hD hacc=>?_
  obtain⟨ws,w1,w2⟩:=wD r;have ea:acc'.toList=xs.map λx=>x.2.2:=by
   refine ADL λj=>?_
   rw[AAS,AAV];cases hj:xs[j]? with
   | none =>
    have:xs.length<=j:=by rw[List.getElem?_eq_none_iff]at hj;exact hj
    rw[ABf (by have:=hacc.1;lia)];rfl
   | some x =>
    have hlt:=(AA7.mp hj).1;have hlt':j<acc'.size:=by have:=hacc.1;lia
    obtain⟨e,g1,g2⟩:=hacc.2 j acc'[j] (AAM hlt');obtain⟨e',z1,_,z2⟩:=eg j x hj;rw[g1]at z1;obtain rfl:=AAR z1;rw[AAM hlt',g2,z2];rfl
  have hf:H1 s2.heap.objs.size=none:=I2.hok.fresh (AA8 _);refine⟨.ref s2.heap.objs.size,_,I2.laid (a:=s2.heap.objs.size) (o:=.lst ws) (t':=tk) hk (AA8 _) ⟨by rw[<-w1.length,AA4];exact hz,acc'.toList,c',by rw[ea];exact w2,by simpa using hD⟩,rfl,kk _ _ (VQ.laidL sm1 g1 w1 hf q2)⟩
 | _=>exact q1.elim
def ES:DR2:=λx y M Q=>match x,y with
 | .tup ks,.ref n=>∃kvs,M[n]?=some (.dkt kvs)/\cw 8 (.tup ks)=true/\Q (.bl (aM kvs (.tup ks)).isSome) M
 | _,_=>False
def nK:DR2:=λx y M Q=>match x,y with
 | .tup ks,.ref n=>∃kvs,M[n]?=some (.dkt kvs)/\cw 8 (.tup ks)=true/\Q (.bl (!(aM kvs (.tup ks)).isSome)) M
 | _,_=>False
theorem Gk(hr:Room k X.A):OpD X (compareOp .In) ES:=by
 intro pins s σ H vx vy v u R I rx ry ⟨x,y,M,ρ,Q,sm,r1,r2,q,kk⟩;have un:=hr.un;cases x with
 | tup ks =>
  cases y with
  | ref n =>
   obtain⟨kvs,hM,kd,q⟩:=q;obtain⟨a,rfl,hn⟩:=Rep.inv_ref r2;cases ry
   obtain⟨xs,hH,r,dd,hsm,hl,hx,_⟩:=eO I sm hn hM;have kat:=dE I 8 _ _ _ r1 rx kd;obtain⟨b,_,rfl,_⟩:=id kat;refine wpAny_in_heap (knd:=bH X.prog X.w) (k:=.tup ks) (by show X.A.units+1+8<cLine;lia) kat hsm dd ?_
   have e:(atKey xs (.tup ks)).isSome=(aM kvs (.tup ks)).isSome:=by
    rcases qF r (.tup ks)with⟨z1,z2⟩|⟨_,_,_,z1,z2,_⟩<;>rw[z1,z2]<;>rfl
   rw[e];exact fB (I.tok _) sm kk q
  | _=>exact q.elim
 | _=>exact q.elim
theorem xQ(hr:Room k X.A):OpD X (compareOp .NotIn) nK:=by
 intro pins s σ H vx vy v u R I rx ry ⟨x,y,M,ρ,Q,sm,r1,r2,q,kk⟩;have un:=hr.un;cases x with
 | tup ks =>
  cases y with
  | ref n =>
   obtain⟨kvs,hM,kd,q⟩:=q;obtain⟨a,rfl,hn⟩:=Rep.inv_ref r2;cases ry
   obtain⟨xs,hH,r,dd,hsm,hl,hx,_⟩:=eO I sm hn hM;have kat:=dE I 8 _ _ _ r1 rx kd;obtain⟨b,_,rfl,_⟩:=id kat;refine wpAny_notIn_heap (knd:=bH X.prog X.w) (k:=.tup ks) (by show X.A.units+1+8<cLine;lia) kat hsm dd ?_
   have e:(atKey xs (.tup ks)).isSome=(aM kvs (.tup ks)).isSome:=by
    rcases qF r (.tup ks)with⟨z1,z2⟩|⟨_,_,_,z1,z2,_⟩<;>rw[z1,z2]<;>rfl
   rw[e];exact fB (I.tok _) sm kk q
  | _=>exact q.elim
 | _=>exact q.elim
def rj:DTS:=λ_ _ _=>False
def AT{st:Stmt}:DS X st rj:=λpins s σ H E I ⟨S,M,ρ,F,sm,sr,q,kk⟩=>q.elim
end
section
variable{X:Cx}{o i e:Expr}{to ti te:DTE}{pos pos' p apos cpos:Pos}{k:Nat}{tg:Expr}{es:List Expr}{t:DTA}{st:Stmt}
def BV:HE X (.Dict [] [] pos) rh:=⟨HH⟩
def BW(hr:Room k X.A)(ho:HE X o to)(hi:HE X i ti)(hs:Cs i:=by intro _ _;kernel_rfl):HE X (.Subscript o i pos) (lW to ti):=⟨HJ hr ho.ok hi.ok hs⟩
def oz(hr:Room k X.A)(ho:HE X o to)(hi:HE X i ti)(hv:HE X e te)(hs:swapsWith e (some (.Subscript o i pos')) pos.line X.env=pure false:=by kernel_rfl):HS X (.Assign [.Subscript o i pos'] e pos) (re to ti te):=⟨Ek hr ho.ok hi.ok hv.ok hs⟩
def yA(hr:Room k X.A)(ho:HE X o to)(ha:HA X (e::es) t)(hbase:attributeBase o "get" X.env (eval o X.env)=eval o X.env:=by kernel_rfl)
  (hfew:((backTo cpos (starEach (e::es) X.env)).all (λx=>!x.1)&&(backToKw cpos (keywordEach [] X.env)).all (λx=>x.1.isSome)
   && decide ((e::es).length+([]:List Keyword).length+(if ([]:List Keyword).isEmpty then 0 else 1)<30))=true:=by kernel_rfl)
  (hline:(apos.endLine==cpos.line)=true:=by kernel_rfl) (hs:starEach (e::es) X.env=(false,eval e X.env)::starEach es X.env:=by kernel_rfl) (hplain:(backTo cpos (starEach es X.env)).any (·.1)=false:=by kernel_rfl) :
  HE X (.Call (.Attribute o "get" apos) (e::es) [] cpos) (dMt ix to t):=⟨d_mt ADF PySem.F.type_dict_get (An hr) ho.ok ha.ok hbase hfew hline hs hplain⟩
def uA(h:HE X e te):HI X tg e (rB te):=⟨AX h.ok⟩
def uz(ho:HE X o to)(hbase:attributeBase o "values" X.env (eval o X.env)=eval o X.env:=by kernel_rfl)(hline:(apos.endLine==cpos.line)=true:=by kernel_rfl):HI X tg (.Call (.Attribute o "values" apos) [] [] cpos) (qZ to):=⟨AW ho.ok hbase hline⟩
def mQ(ho:HE X o to)(hm:X.mg "list" = none)(hc:X.calm=true:=by kernel_rfl)(hg:X.env.kindOf "list" = some .globalImplicit:=by kernel_rfl)
  (hs:starEach [AEX (.Attribute o "values" apos) [] [] cpos] X.env=[(false,eval (AEX (.Attribute o "values" apos) [] [] cpos) X.env)]:=by kernel_rfl)
  (hbase:attributeBase o "values" X.env (eval o X.env)=eval o X.env:=by kernel_rfl) (hline:(apos.endLine==cpos.line)=true:=by kernel_rfl) :
  HE X (.Call (.Name "list" p) [.Call (.Attribute o "values" apos) [] [] cpos] [] pos) (iJ to):=⟨wd hc ho.ok hm hg hs hbase hline⟩
def mR(hr:Room k X.A)(hc:X.calm=true:=by kernel_rfl):HC X (.builtin "sorted") fN:=⟨wj hr hc⟩
def Ch(hr:Room k X.A):HOp X (compareOp .In) ES:=⟨Gk hr⟩
def qL(hr:Room k X.A):HOp X (compareOp .NotIn) nK:=⟨xQ hr⟩
def jK:HS X st rj:=⟨AT⟩
end
def uE{K:AA6}{ρ:List Addr}{H:Hp}:∀{ns:List Int}{ws:List V}{its:List Value},Reps K ρ H (ns.map D.int) ws->au ws its->IntsAre its ns
 | [],_,_,r,v=>by cases r;cases v;exact .nil
 | n::ns,_,_,r,v=>by
  rw[AAQ]at r;first | have hzz:=Reps.inv_cons r | have hzz:=au.inv_cons r
  clear r;obtain⟨_,_,rfl,h,t⟩:=hzz;cases h
  cases v with
  | cons q q' =>
   obtain⟨tk,rfl⟩:=q;exact .cons _ _ (uE t q')
section
variable{X:Cx}{k:Nat}
def xx:DRA:=λds M Q=>match ds with
 | [.ref n]=>∃ns:List Int,ak M n (ns.map D.int)/\ns≠[]/\∀m,m∈ns->(∀a∈ns,a<=m)->Q (.int m) M
 | _=>False
theorem EC(hc:X.calm=true):jC X (.builtin "max") xx:=by
 intro pins s σ H vs us R I rv ⟨ds,M,ρ,Q,sm,rs,q,kk⟩;unfold xx at q;split at q
 ·obtain⟨ns,hL,hne0,q⟩:=q
  first | have hzz:=Reps.inv_cons rs | have hzz:=au.inv_cons rs
  clear rs;obtain⟨_,_,rfl,r1,rs⟩:=hzz;cases rs
  obtain⟨u,rfl,e1⟩:=au.one rv;obtain⟨a,rfl,e⟩:=Rep.inv_ref r1;cases e1
  obtain⟨ws,hq,r⟩:=ak.seq sm hL e;obtain⟨its,rr,pl,hz⟩:=I.list hq;obtain⟨m,hn,hm⟩:=I.loc;obtain⟨oa,nn,hoa,hca,hdict,hdata⟩:=id pl;have hne:a≠X.env.locals:=λz=>by
   subst z;obtain⟨o,es,ep,e,hd,_⟩:=hn;rw[hoa]at e;cases e
   rw[hd]at hdata;cases hdata
  have mem:∀b o,b≠X.env.locals->s.heap.get? b=some o->(b,o)∈[]++(a,oa)::Att.ledger s.heap X.env.locals a:=λb o h1 h2=>by
   rw[AAs,AAJ,Att.mem_ledger];by_cases hal:b=a
   ·subst hal
    rw[hoa]at h2;cases h2;exact .inl rfl
   ·exact .inr ⟨h1,hal,h2⟩
  refine max_list_N (I.ok.hd hc) (Att.fr_all hn) (Att.news_ledger hne hoa) pl.isList (uE r rr) (List.length_pos_iff.mpr hne0) λh' mm t tk F' N' h1 h2=>?_
  have kp:∀b u,b≠X.env.locals->s.heap.get? b=some u->h'.get? b=some u:=λb u hb e=>(N' (b,u) (mem b u hb e)).1
  exact⟨.int mm,H,I.keptF (t':=tk) kp hn F'.ns,⟨t,rfl⟩,kk _ _ ⟨.int mm,M,ρ,sm,.refl,.int mm,q mm h1 h2⟩⟩
 ·exact q.elim
def HR:bootBuiltins "max" = some (.builtin "max"):=by decide +kernel
def yK(hc:X.calm=true:=by kernel_rfl):HC X (.builtin "max") xx:=⟨EC hc⟩
end
end L2
namespace L2
open PySem PySem.Spec PyProof.Rows DL PySem.W PySem.Calls PyProof.V
structure PairsAt(es:Array DictEntry)(lo:Addr)(h:Heap)(as:List Addr):Prop where
 nd:as.Nodup
 above:∀a∈as,lo<a
 tup:∀(j:Nat) (a:Addr),as[j]?=some a->∃e,es[j]?=some e/\h.get? a=some { cls:=.type "tuple",data:=.seq #[e.key,e.val] }
end L2
namespace L2
open PySem PySem.Spec PyProof.Rows DL PySem.W
section
variable{X:Cx}
def EQ:DR2:=λx y M Q=>match x,y with
 | .int i,.int j=>CPow i j/\Q (.int (i*2 ^ j.toNat)) M
 | _,_=>False
def Gf:OpD X (binaryOp .LShift) EQ:=by
 refine OpR.imp FU λvx vy H R ⟨x,y,M,ρ,Q,sm,r1,r2,q,k⟩=>?_
 unfold EQ at q;split at q
 ·cases r1
  cases r2
  exact⟨_,_,rfl,rfl,q.1,k _ H (VQ.now sm (.int _) q.2)⟩
 ·exact q.elim
def Cc:HOp X (binaryOp .LShift) EQ:=⟨Gf⟩
def mT(hr:Room k X.A):HC X (.builtin "sorted") kw:=⟨zj hr⟩
end
noncomputable def dictOf(ps:List (D×D)):List (D×D):=ps.foldl (λkvs p=>eK kvs p.1 p.2) []
def dS:dictOf (ps++[p])=eK (dictOf ps) p.1 p.2:=by
 unfold dictOf;rw[AE9];rfl
def qR:∀(ps kvs:List (D×D)),(ps.foldl (λkvs p=>eK kvs p.1 p.2) kvs).length<=kvs.length+ps.length
 | [],_=>AA8 _
 | p::ps,kvs=>by
  have h1:=qR ps (eK kvs p.1 p.2);have h2:=jG (kvs:=kvs) (k:=p.1) (d:=p.2);rw[List.foldl_cons,AAN];lia
def mY:(dictOf ps).length<=ps.length:=by
 have:=qR ps [];rw[AAm,Nat.zero_add]at this;exact this
def iG:entryFor table "dict.update.loop" = some Builtin.«dict.update.loop»:=entryFor_of_tree (by kernel_rfl)
def ca:plainId "dict.update.loop" = true:=by decide +kernel
def iV:typeLookup (.type "list") "__getattr__" = pure none:=by rw[ADt,ACb];kernel_rfl
def lL:typeLookup (.type "list") "keys" = pure none:=by rw[ADt,ACb];kernel_rfl
section
variable{prog:Program}{w:World}{A:Around}{E:Value->Shared->Prop}{h:Heap}{g:Array GenState}{d:Drawn}{t:Nat}{os:OsState}{a:Addr}{o:Obj}
def xY(hx:h.get? a=some o)(hc:o.cls=.type "list")(hdict:o.dict=none)(hdat:o.data=.seq its nn)(hA:A.handled=none)(hq:∀h' tk e,Heap.NewAttrErr h h' e (.ref a) "keys"->R (.error (.ref e)) ⟨h',g,d,tk,os⟩) :
  codeAny (model prog w) A (.call (.builtin "list.__getattribute__") ⟨[.ref a,.str "keys" u],[]⟩) R ⟨h,g,d,t,os⟩:=by
 obtain⟨oc,od,odt,osl⟩:=o;obtain rfl:oc=.type "list":=hc;obtain rfl:od=none:=hdict;obtain rfl:odt=.seq its nn:=hdat;have hT:(⟨h,g,d,t,os⟩:Shared).TypeIs (.ref a) "list":=⟨_,hx,rfl⟩;have f4:=lL;refine codeAny_call_builtin ACE.plain PySem.F.entry_list_ga (ACE.check _ _ _ _ _ _ _ _ hT (PySem.F.args_list_getattribute_2 _ _) ?_);unfold Builtin.«object.__getattribute__»;repeat (any_goals (first | assumption | wp_step))
 refine wpAny_raiseAttrError (o:=.ref a) (name:="keys") (by first | exact hA | simpa using hA) hq ?_
 exact attrMsg_fits (by decide +kernel) (by size_fits)
def sE(hx:h.get? a=some o)(hc:o.cls=.type "list")(hdict:o.dict=none)(hdat:o.data=.seq its nn)(hA:A.handled=none)(hq:∀h' tk,(∀b ob,h.get? b=some ob->h'.get? b=some ob)->Q none ⟨h',g,d,tk,os⟩) :
  wpAny (model prog w) A (getAttr? (.ref a) "keys") Q E ⟨h,g,d,t,os⟩:=by
 obtain⟨oc,od,odt,osl⟩:=o;obtain rfl:oc=.type "list":=hc;obtain rfl:od=none:=hdict;obtain rfl:odt=.seq its nn:=hdat;have hT:∀tk,(⟨h,g,d,tk,os⟩:Shared).TypeIs (.ref a) "list":=λ_=>⟨_,hx,rfl⟩
 have f1:=sub_AttributeError;have f2:=ACE.lookup;have f3:=ACE.bind (.ref a);have f5:=iV;unfold getAttr? getAttrBy? getAttrBy;repeat (any_goals (first | assumption | exact hT _ | wp_step))
 refine xY hx rfl rfl rfl (by first | exact hA | simpa using hA) λh' tk e hx'=>?_
 obtain⟨t',u',he⟩:=hx'.there;unfold getattributeRaised;repeat (any_goals (first | assumption | wp_step))
 exact hq _ _ hx'.keeps
end
def dsetE(hu:(bH prog w).room A)(kat:(bH prog w).is s.heap k b)
  (hm:s.heap.DictOfH (bH prog w) d xs) (hx:dX d xs prog w s.heap) (hz:xs.length<=sizeLine)
  (hQ:∀h',dX d (storedH xs k b v) prog w h'->ABx d s.heap h'->Q () { s with heap:=h',toks:=s.toks+(bH prog w).draws k }):wpAny (model prog w) A (dictSet d (.ref b) v) Q E s:=by
 obtain⟨_,_,_,_,_,_,_,his,hn⟩:=hm;obtain⟨o,es,ho,hc,hd,he'⟩:=hx;have he:es.toList=xs.map (entryOfKey (bH prog w)):=he';unfold dictSet
 try with_reducible refine AAZ ?_
 refine AA0 ((bH prog w).pyHash hu kat ?_);unfold dictSetHashed
 try with_reducible refine AAZ ?_
 have hl:es.size=xs.length:=size_of_entries he;refine AA0 (wpAny_dictFind_heap (s:={ s with toks:=s.toks+(bH prog w).draws k }) hu kat ho hd he his hn (λhno=>?_) λj p hj=>?_)
 ·refine AA0 (ABU (ADT (hz:=by lia) (s:={ s with toks:=s.toks+(bH prog w).draws k }) ho hd (hQ _ ⟨_,es.push ⟨(bH prog w).hash k,.ref b,v⟩,AAf _ ho (ACA (ABc hd _)),hc.mapDictKeys _,?_,?_⟩ (AAo ..))))
  ·rw[ABc hd,storedH_new (AE8 hno),AAA];rfl
  ·rw[storedH_new (AE8 hno)]
   rw[ADP,he,AAW];rfl
 ·refine AA0 (ABU (AA0 (wpAny_updateDict (s:={ s with toks:=s.toks+(bH prog w).draws k }) ho hd (wpAny_point (hQ _ ⟨_,es.modify j λe=>{ e with val:=v },AAf _ ho (ACA (AD1 hd _)),hc.mapDict _,?_,?_⟩ (AAo ..))))))
  ·rw[AD1 hd,storedH_old (atKey_of_get hn hj),AA4]
  ·rw[storedH_old (atKey_of_get hn hj)]
   have q:=modify_map_putAt (entryOfKey (bH prog w)) (λe:DictEntry=>{ e with val:=v }) k v (λ_ _=>rfl) hn hj
   rw[<-he]at q;obtain⟨l⟩:=es;have q2:(Array.modify ⟨l⟩ j λe:DictEntry=>{ e with val:=v }).toList=(xs.map (putAt k v)).map (entryOfKey (bH prog w)):=by simpa using q
   exact q2
section
variable{X:Cx}{pins:List (Addr×Obj)}{σ:St}{H:Hp}{ρ:List Addr}{M:Mem}{A:Around}{E:Value->Shared->Prop}{s:Shared}
structure DD(X:Cx)(ρ:List Addr)(H:Hp)(h:Heap)(a:Addr)(kvs:List (D×D))(xs:List (D×Addr×Value)):Prop where
 dx:dX a xs X.prog X.w h
 kv:Paired (tp X.K ρ H) kvs xs
 nd:(kvs.map (·.1)).Nodup
def DD.at(x:DD X ρ H h a kvs xs)(k:∀o,h.get? a=some o->h'.get? a=some o):DD X ρ H h' a kvs xs:=by
 obtain⟨⟨o,es,e1,e2,e3,e4⟩,kv,nd⟩:=x;exact⟨⟨o,es,k _ e1,e2,e3,e4⟩,kv,nd⟩
def DD.len(x:DD X ρ H h a kvs xs):xs.length=kvs.length:=by
 have:=congrArg ABr (gR x.kv)
 rwa [AA4,AA4]at this
def DD.of(I:Inv X pins σ H s)(x:DD X ρ H s.heap a kvs xs):s.heap.DictOfH (bH X.prog X.w) a xs:=by
 obtain⟨o,es,e1,e2,e3,e4⟩:=x.dx;have ek:=gR x.kv;refine⟨o,es,_,e1,e2,e3,e4,λy hy=>?_,by rw[ek];exact x.nd⟩
 obtain⟨i,hi⟩:=AB9 hy;obtain⟨p,_,q1,q2,q3,_⟩:=cU x.kv hi;rw[<-q1];exact dE I 8 _ _ _ q3 rfl q2
theorem Ew(I:Inv X pins σ H s)(hu:A.units+20<cLine)(W:Walks X.prog X.w A.in1 J fp wr m P Sx)(S:Addr)(hSf:S∉fp)
  (hS0:s.heap.get? S=none) (hw0:∀b∈wr,s.heap.get? b=none) (ps:List (D×D)) (hm:ps.length=m) (hval:∀i v,P i v->∃p,ps[i]?=some p/\(∃vv,Rep X.K ρ H (.tup [p.1,p.2]) vv/\aI vv v)/\cw 8 p.1=true/\gG p.1=true) (hb:m<=1000) :
  ∀(k i:Nat) (h:Heap) (tk:Nat) (xs:List (D×Addr×Value)) (j:Int) (t:Tok),m-i=k->i<=m->Sx i h->DD X ρ H h S (dictOf (ps.take i)) xs->(∀b u,s.heap.get? b=some u->h.get? b=some u) ->
   (∀h' tk xs',(∀b u,s.heap.get? b=some u->h'.get? b=some u)->DD X ρ H h' S (dictOf ps) xs'->R (.ok (.ret .none)) { s with heap:=h',toks:=tk }) ->
   codeAny (model X.prog X.w) A (.builtin "dict.update.loop" ⟨[.ref S,.ref J,.int j t,.none],[]⟩) R { s with heap:=h,toks:=tk }:=by
 have hSw:S∉wr:=λh=>hSf (W.sub _ h)
 intro k;induction k with
 | zero =>
  intro i h tk xs j t hk hi hst hS hold hR;obtain rfl:i=m:=by lia
  refine ABX iG ?_
  rw[ABS ca _];refine(show wpAny (model X.prog X.w) A.in1 (pyNext (.ref J) >>= _) _ _ _ from AA0 (W.done _ _ _ hst λh' tk hk'=>?_))
  rw[<-hm,ABi]at hS;refine(show wpAny (model X.prog X.w) A.in1 (Builtin.Dict.addKeywords S [] >>= _) _ _ _ from AA0 (AA2 (AA2 ?_)));exact hR h' tk xs (λb u e=>hk' b u (λz=>by rw[hw0 b z]at e;cases e) (hold b u e)) (hS.at λo e=>hk' S o hSw e)
 | succ k ih =>
  intro i h tk xs j t hk hi hst hS hold hR;refine ABX iG ?_
  rw[ABS ca _];refine(show wpAny (model X.prog X.w) A.in1 (pyNext (.ref J) >>= _) _ _ _ from AA0 (W.item i _ _ _ (by lia) hst λv h' tk hP hst' hk'=>?_))
  obtain⟨p,hp,⟨vv,r,rv⟩,kd,it⟩:=hval i v hP;have old':∀b u,s.heap.get? b=some u->h'.get? b=some u:=λb u e=>hk' b u (λz=>by rw[hw0 b z]at e;cases e) (hold b u e)
  have I':Inv X pins σ H { s with heap:=h',toks:=tk }:=I.kept old'
  have hS':=hS.at λo e=>hk' S o hSw e
  have hl:=hS'.len;have dl:=mY (ps:=ps.take i);have dd:=hS'.of (s:={ s with heap:=h',toks:=tk }) I'
  obtain⟨a,vs,rfl,hq,rr⟩:=Rep.inv_tup r;cases rv
  first | have hzz:=Reps.inv_cons rr | have hzz:=au.inv_cons rr
  clear rr;obtain⟨_,_,rfl,r1,rr⟩:=hzz;first | have hzz:=Reps.inv_cons rr | have hzz:=au.inv_cons rr
  clear rr;obtain⟨_,_,rfl,r2,rr⟩:=hzz;cases rr
  obtain⟨its,r2',pl,hz⟩:=I'.tuple hq;obtain⟨u1,u2,rfl,e1,e2⟩:=au.two r2';obtain⟨k0,d0⟩:=p;cases k0 with
  | tup ks =>
   have kat:=dE I' 8 _ _ _ r1 e1 kd;obtain⟨b,_,rfl,_⟩:=id kat;obtain⟨_,_,rfl,hq1,rr1⟩:=Rep.inv_tup r1;cases e1
   obtain⟨o,ho,hc,nn,hd⟩:=pl;have hT:({ s with heap:=h',toks:=tk }:Shared).TypeIs (.ref a) "tuple":=⟨o,ho,hc⟩
   refine AA0 (AAZ (AA0 (wpAny_tryCatch ?_)));unfold Builtin.Dict.pairItems;refine AA0 (ACO hT ?_);rw[if_pos (by decide)]
   refine AA0 (ACh ho hd (AA2 ?_));refine(show wpAny (model X.prog X.w) _ (holding [.ref b,u2] (dictSet S (.ref b) u2)) _ _ _ from AAZ ?_);refine dsetE (k:=.tup ks) (s:={ s with heap:=h',toks:=tk }) (by show A.units+1+8<cLine;lia) kat dd hS'.dx (aw (by rw[hl];rw[AAy]at dl;lia)) λh2 dx2 sb=>?_
   have k2:∀b u,b≠S->h'.get? b=some u->h2.get? b=some u:=λb u hb e=>(sb.2 b hb).trans e
   have kv2:=BE hS'.kv kd (.tup hq1 rr1) r2 e2;have et:ps.take (i+1)=ps.take i++[(.tup ks,d0)]:=by rw[ABn,hp];rfl
   refine AA2 ⟨ACa ca _,ih (i+1) h2 _ _ _ _ (by lia) (by lia) (W.frame _ h' h2 hst' λb' hb' o e=>k2 b' o (λz=>hSf (z ▸ hb')) e) ⟨dx2,?_,?_⟩ (λb u e=>k2 b u (λz=>by rw[z,hS0]at e;cases e) (old' b u e)) hR⟩
   ·rw[et,dS];exact kv2
   ·rw[et,dS];exact kA hS'.nd
  | _=>cases it
theorem EG(I:Inv X pins σ H s)(hu:A.units+30<cLine)(hh:A.handled=none)(hl:s.heap.IsList l its)(hol:s.heap.get? l=some ol)(hdict:ol.dict=none)(ps:List (D×D))(hm:ps.length=its.size)
  (hval:∀(i:Nat) v,its[i]?=some v->∃p:D×D,ps[i]?=some p/\(∃vv,Rep X.K ρ H (.tup [p.1,p.2]) vv/\aI vv v)/\cw 8 p.1=true/\gG p.1=true) (hb:its.size<=1000)
  (h:∀h' tk xs,(∀b u,s.heap.get? b=some u->h'.get? b=some u)->DD X ρ H h' s.heap.objs.size (dictOf ps) xs->Q (.ref s.heap.objs.size) { s with heap:=h',toks:=tk }) :
  wpAny (model X.prog X.w) A (call (.type "dict") [.ref l]) Q E s:=by
 refine callType_codes (Q₁:=λobj s₁=>obj=.ref s.heap.objs.size/\s₁={ s with heap:=s.heap.push { cls:=.type "dict",data:=.dict #[] } }) PySem.F.kt_called_dict (PySem.F.kt_typeCall_dict_1 _) PySem.F.entry_dict_init (kt_code_dict_new _ ⟨rfl,rfl⟩) ?_
 rintro obj s₁ ⟨rfl,rfl⟩;have hS:(s.heap.push { cls:=.type "dict",data:=.dict #[] }).get? s.heap.objs.size=some { cls:=.type "dict",data:=.dict #[] }:=AAC _ rfl;have hT:ADR { s with heap:=s.heap.push { cls:=.type "dict",data:=.dict #[] } } (.ref s.heap.objs.size) "dict":=⟨_,hS,rfl⟩
 obtain⟨ol',e1,hcl,nn,hdd⟩:=id hl;obtain rfl:ol'=ol:=AAR (e1.symm.trans hol);have hol':(s.heap.push { cls:=.type "dict",data:=.dict #[] }).get? l=some ol':=AA3 _ hol;have hTl:ADR { s with heap:=s.heap.push { cls:=.type "dict",data:=.dict #[] } } (.ref l) "list":=⟨ol',hol',hcl⟩
 have ll:l<s.heap.objs.size:=AAG hol;refine⟨hT,PySem.F.args_dict_init_2 _ _,?_⟩;unfold Builtin.«dict.__init__»;refine AA0 ?_
 unfold Builtin.Dict.selfAndRest;refine AA0 (ABm hT ?_);refine(show wpAny _ _ (pure (s.heap.objs.size,[AB6 l])) _ _ _ from AA2 ?_);refine(show wpAny _ _ (ACx "dict.__init__" s.heap.objs.size (.ref l) [] .none) _ _ _ from ?_);unfold ACx;refine AA0 (ACO hTl ?_);rw[if_pos (by decide)]
 refine AA0 (sE hol' hcl hdict hdd (by simpa using hh) λh1 tk1 k1=>?_)
 have kp1:∀b u,s.heap.get? b=some u->h1.get? b=some u:=λb u e=>k1 b u (AA3 _ e)
 rw[if_pos (show (none:Option Value).isNone=true from rfl)];refine AA0 (ABU ?_);obtain⟨oI,St,hit,W,st⟩:=(TxSrc.list (prog:=X.prog) (w:=X.w) hl).iter A.in1.in1 { s with heap:=h1,toks:=tk1 } (by simpa using hh) λo e=>kp1 _ _ e
 refine AA0 (hit _ _ ?_);have hS1:=k1 _ _ hS;have lS:s.heap.objs.size<h1.objs.size:=AAG hS1;have hS0:s.heap.get? s.heap.objs.size=none:=by
  cases q:s.heap.get? s.heap.objs.size with
  | none=>rfl
  | some o=>exact absurd (AAG q) (AAn _)
 refine AA2 ⟨ACa ca _,Ew (A:=A.in1) (s:=s) I (by show A.units+1+20<cLine;lia) W s.heap.objs.size ?_ hS0 ?_ ps hm hval hb its.size 0 _ _ [] _ _ rfl (AAX _) st ⟨⟨_,#[],AA3 _ hS1,⟨rfl,rfl,rfl⟩,rfl,rfl⟩,.nil,AD5⟩ (λb u e=>AA3 _ (kp1 b u e)) λh2 tk2 xs k2 dd=>⟨rfl,h h2 tk2 xs k2 dd⟩⟩
 ·simp only[AAJ,ABz,or_false,not_or]
  exact⟨AAO lS,AEZ ll⟩
 ·intro b hb'
  rw[ABe.mp hb'];cases q:s.heap.get? h1.objs.size with
  | none=>rfl
  | some o=>exact absurd (Nat.lt_trans (AAG q) lS) (AAn _)
end
section
variable{X:Cx}{k:Nat}
def iQ:DRA:=λds M Q=>match ds with
 | [.ref n]=>∃ps:List (D×D),ak M n (ps.map λp=>.tup [p.1,p.2])/\(∀p∈ps,cw 8 p.1=true/\gG p.1=true)/\ps.length<=1000/\Q (.ref M.length) (M++[.dkt (dictOf ps)])
 | _=>False
theorem zk(hr:Room k X.A)(hc:X.calm=true):jC X (.type "dict") iQ:=by
 intro pins s σ H vs us R I rv ⟨ds,M,ρ,Q,sm,rs,q,kk⟩;have un:=hr.un;unfold iQ at q;split at q
 ·obtain⟨ps,hL,hk,hl,q⟩:=q
  first | have hzz:=Reps.inv_cons rs | have hzz:=au.inv_cons rs
  clear rs;obtain⟨_,_,rfl,r1,rs⟩:=hzz;cases rs
  obtain⟨u,rfl,e1⟩:=au.one rv;obtain⟨a,rfl,e⟩:=Rep.inv_ref r1;cases e1
  obtain⟨ws,hq,r⟩:=ak.seq sm hL e;obtain⟨its,rr,pl,hz⟩:=I.list hq;obtain⟨oa,nn,hoa,hca,hdict,hdata⟩:=id pl;have lw:=r.length;have li:=rr.length;rw[AA4]at lw;have hf:H s.heap.objs.size=none:=I.hok.fresh (AA8 _);have hb:(s.heap.objs.size==sysModules)=false:=beq_eq_false_iff_ne.mpr (ABO (AAO I.big));refine EG (A:=X.A) (ρ:=ρ) I (by lia) (I.ok.hd hc) pl.isList hoa hdict ps (by rw[AAD];lia) (λi v hv=>?_) (by rw[AAD];lia) λh' tk xs kp dd=>?_
  ·obtain⟨d,vv,e1,r1,rv1⟩:=nw r rr (i:=i) (u:=v) (by simpa using hv)
   rw[AAV]at e1;obtain⟨p,hp,rfl⟩:=ABF.mp e1;exact⟨p,hp,⟨vv,r1,rv1⟩,hk p (AAc hp)⟩
  ·have dl:=mY (ps:=ps)
   refine⟨.ref s.heap.objs.size,_,I.laid (a:=s.heap.objs.size) (o:=.ext (dX s.heap.objs.size xs)) (t':=tk) kp (AA8 _) (sR dd.dx),rfl,?_⟩;exact kk _ _ ⟨.ref M.length,M++[.dkt (dictOf ps)],ρ++[s.heap.objs.size],sm.laidM (mo:=.dkt (dictOf ps)) hf ⟨aw (by lia),hb,dd.nd,xs,aA,Paired.mapP dd.kv λ_ _ ⟨q1,q2,q3,v,q4,q5⟩=>⟨q1,q2,q3.grow (Grow.laidR hf),v,q4.grow (Grow.laidR hf),q5⟩⟩,Grow.laidR hf,.ref sm.last,q⟩
 ·exact q.elim
def qP(hr:Room k X.A)(hc:X.calm=true:=by kernel_rfl):HC X (.type "dict") iQ:=⟨zk hr hc⟩
end
abbrev EE(M:Mem)(R:DK):DEnds:=⟨λ_ M'=>bI M R .non M',bI M R,λ_ _=>False,λ_ _=>False⟩
def dst(n:Nat)(ds:List D):SD:=ds.map some++AEC (n-ds.length) none
abbrev WpT(Pr:DSp)(n:Nat)(t:DTS):Prop:=∀ds M R,Pr ds M R->t (EE M R) (dst n ds) M
abbrev du(Pr:DSp)(p:List Str):Prop:=∀ds M R,Pr ds M R->ds.length=p.length
abbrev DerT(P:Program)(w:World)(K:AA6)(mg:Str->Option Value)(base:Heap)(k:Nat)(x:Str)(N:List Str)(st:Stmt)(t:DTS):Prop :=
 ∀(f:Addr) (cdv:Value) (A:Around) (outer:List Env) (s:Shared) (H:Hp) (E:XK),Room k (A.deeper (PyProof.Rows.envOfC x (ap st) s.heap.objs.size f cdv))->HB (rC CX0 P w K mg base N x (ap st) f cdv A outer s H E).nox (bE st) t
def uS(c:DTT)(tb:DTS):DTS:=λE S M=>∃W:Nat->SD->Mem->Prop,(∃m,W m S M)/\∀m S M,W m S M ->
 c S M λb M1=>if b=true then tb ⟨λS' M'=>∃m',m' < m/\W m' S' M',E.rt,E.nx,λS' M'=>∃m',m' < m/\W m' S' M'⟩ S M1 else E.nx S M1
def vO{K:AA6}{c:DTT}{tb:DTS}(E:Ends)(σ:St)(H:Hp)(h:lowS K (uS c tb) E σ H):Bv (lowT K c) (lowS K tb) E σ H:=by
 obtain⟨S,M,ρ,F,s,sr,⟨W,⟨m0,w0⟩,turn⟩,k⟩:=h;refine⟨λm τ H2=>∃S2 M2 ρ2,Sim K ρ2 M2 H2/\Grow K ρ H ρ2 H2/\SRep K ρ2 H2 S2 τ/\W m S2 M2,⟨m0,S,M,ρ,s,.refl,sr,w0⟩,?_⟩
 rintro m τ H2 ⟨S2,M2,ρ2,s2,g2,sr2,w2⟩;refine⟨S2,M2,ρ2,_,s2,sr2,turn m S2 M2 w2,λb H3 ⟨M3,ρ3,s3,g3,q3⟩=>?_⟩
 have g13:=g2.trans g3;cases b with
 | true =>
  have again:∀τ5 H5,SQ K ρ3 H3 (λS' M'=>∃m',m' < m/\W m' S' M') τ5 H5->∃m',m' < m/\∃S2 M2 ρ2,Sim K ρ2 M2 H5/\Grow K ρ H ρ2 H5/\SRep K ρ2 H5 S2 τ5/\W m' S2 M2:=λτ5 H5 ⟨S5,M5,ρ5,s5,g5,sr5,m',lt,w5⟩=>⟨m',lt,S5,M5,ρ5,s5,g13.trans g5,sr5,w5⟩
  refine db ⟨_,λτ' H' z=>z,S2,M3,ρ3,_,s3,sr2.grow g3,(show tb _ S2 M3 from q3),?_⟩
  exact⟨again,λv H5 z=>k.rt v H5 (VQ.trans g13 z),λτ5 H5 z=>k.nx τ5 H5 (SQ.trans g13 z),again⟩
 | false=>exact bZ (k.nx τ H3 ⟨S2,M3,ρ3,s3,g13,sr2.grow g3,(show F.nx S2 M3 from q3)⟩)
section
variable{X:Cx}{c:Expr}{body:List Stmt}{tc:DTT}{tb:DTS}{pos:Pos}
def jJ(hc:HT X c tc)(hb:HB X body tb)(hp:PassesOwn (model X.prog X.w) X.A X.env X.xe:=by exact PassesOwn.never):HS X (.While c body [] pos) (uS tc tb):=⟨PS.imp (zW hp hc.ok hb.ok) vO⟩
end
def nC:typeLookup (.type "tuple") "keys" = pure none:=by rw[ADt,ACb];kernel_rfl
section
variable{prog:Program}{w:World}{A:Around}{E:Value->Shared->Prop}{h:Heap}{g:Array GenState}{d:Drawn}{t:Nat}{os:OsState}{a:Addr}{o:Obj}
def zI(hx:h.get? a=some o)(hc:o.cls=.type "tuple")(hdict:o.dict=none)(hdat:o.data=.seq its nn)(hA:A.handled=none)(hq:∀h' tk e,Heap.NewAttrErr h h' e (.ref a) "keys"->R (.error (.ref e)) ⟨h',g,d,tk,os⟩) :
  codeAny (model prog w) A (.call (.builtin "tuple.__getattribute__") ⟨[.ref a,.str "keys" u],[]⟩) R ⟨h,g,d,t,os⟩:=by
 obtain⟨oc,od,odt,osl⟩:=o;obtain rfl:oc=.type "tuple":=hc;obtain rfl:od=none:=hdict;obtain rfl:odt=.seq its nn:=hdat;have hT:(⟨h,g,d,t,os⟩:Shared).TypeIs (.ref a) "tuple":=⟨_,hx,rfl⟩;have f4:=nC;refine codeAny_call_builtin ACB.plain PySem.F.entry_tuple_ga (ACB.check _ _ _ _ _ _ _ _ hT (PySem.F.args_tuple_getattribute_2 _ _) ?_);unfold Builtin.«object.__getattribute__»;repeat (any_goals (first | assumption | wp_step))
 refine wpAny_raiseAttrError (o:=.ref a) (name:="keys") (by first | exact hA | simpa using hA) hq ?_
 exact attrMsg_fits (by decide +kernel) (by size_fits)
def vq(hx:h.get? a=some o)(hc:o.cls=.type "tuple")(hdict:o.dict=none)(hdat:o.data=.seq its nn)(hA:A.handled=none)(hq:∀h' tk,(∀b ob,h.get? b=some ob->h'.get? b=some ob)->Q none ⟨h',g,d,tk,os⟩) :
  wpAny (model prog w) A (getAttr? (.ref a) "keys") Q E ⟨h,g,d,t,os⟩:=by
 obtain⟨oc,od,odt,osl⟩:=o;obtain rfl:oc=.type "tuple":=hc;obtain rfl:od=none:=hdict;obtain rfl:odt=.seq its nn:=hdat;have hT:∀tk,(⟨h,g,d,tk,os⟩:Shared).TypeIs (.ref a) "tuple":=λ_=>⟨_,hx,rfl⟩
 have f1:=sub_AttributeError;have f2:=ACB.lookup;have f3:=ACB.bind (.ref a);have f5:=PySem.am_tuple_getattr_none;unfold getAttr? getAttrBy? getAttrBy;repeat (any_goals (first | assumption | exact hT _ | wp_step))
 refine zI hx rfl rfl rfl (by first | exact hA | simpa using hA) λh' tk e hx'=>?_
 obtain⟨t',u',he⟩:=hx'.there;unfold getattributeRaised;repeat (any_goals (first | assumption | wp_step))
 exact hq _ _ hx'.keeps
end
section
variable{X:Cx}{pins:List (Addr×Obj)}{σ:St}{H:Hp}{ρ:List Addr}{M:Mem}{A:Around}{E:Value->Shared->Prop}{s:Shared}
def Inv.tupN(I:Inv X pins σ H s)(h:SqT X.K H a xs):∃its:List Value,au xs its/\Bo s.heap a its.toArray/\xs.length<=sizeLine:=by
 rcases h with h | ⟨o,its,n,hk,hc,hd,hs,hz,r⟩
 ·obtain⟨z,its,r,p⟩:=h.ok I.hok
  exact⟨its,r,p,z⟩
 ·refine⟨its.toList,r,⟨o,I.kIn a o hk,hc,⟨n,by simpa using hs⟩,hd⟩,?_⟩
  have e:=r.length;simp only[AAL]at e;lia
end
inductive TopB(mg:Str->Option Value):List Str->List (Str×Int)->Prop
 | nil:TopB mg [] []
 | b {x:Str}{B:List Str}{C:List (Str×Int)} (h:mg x=none) (t:TopB mg B C):TopB mg (x::B) C
 | c {x:Str}{i:Int}{C:List (Str×Int)} (h:∃t,mg x=some (.int i t)) (t:TopB mg [] C):TopB mg [] ((x,i)::C)
def TopB.no(h:TopB mg B C)(c:B.contains x=true):mg x=none:=by
 induction h with
 | nil=>simp at c
 | b h _ ih =>
  simp only[List.contains_cons,AES,beq_iff_eq]at c;rcases c with rfl | c
  ·exact h
  ·exact ih c
 | c _ _ _=>simp at c
def nodB:List Str->Bool
 | []=>true
 | x::xs=>!xs.contains x&&nodB xs
def Dx:∀{l:List Str},nodB l=true->l.Nodup
 | [],_=>AD5
 | x::xs,h=>by
  simp only[nodB,AAY,Bool.not_eq_true',List.contains_eq_mem,decide_eq_false_iff_not]at h;exact ABH.mpr ⟨h.1,Dx h.2⟩
def tgN:Expr->List Str
 | .Name x _=>[x]
 | .Tuple es _ _=>es.filterMap fun | .Name x _=>some x | _=>none
 | _=>[]
abbrev lcN(N:List Str)(js:List Nat)(tg:Expr):List Str:=tgN tg++js.map λj=>N.getD j ""
section
variable{X:Cx}{tg iter elt:Expr}{ifs:List Expr}{scope:Scope}{nt i:Nat}{js:List Nat}{di:DTI}{g:DTG}{tt:DTT}{te:DTE}{pos pos' pos2:Pos}{x:Str}
def GE(hi:HI X tg iter di)(hg:∀cl s0 H0 ex,HG (blk X (lcN X.N js tg) scope cl s0 H0 ex) tg g)(ht:∀cl s0 H0 ex,HTs (blk X (lcN X.N js tg) scope cl s0 H0 ex) ifs tt)(he:∀cl s0 H0 ex,HE (blk X (lcN X.N js tg) scope cl s0 H0 ex) elt te)
  (B:ng X.env.scope.names X.N (lcN X.N js tg) nt js scope=true:=by kernel_rfl) (hc:X.calm=true:=by kernel_rfl) (hs:∀x,foldedSetIterable iter X.env x=pure x:=by intro _;kernel_rfl):HE X (.ListComp elt [⟨tg,iter,ifs,0⟩] scope pos) (dLC nt js di g tt te):=k_lc hi hg ht he B hc hs
def iE(hN:X.N.Nodup)(hi:HI X tg iter di)(hg:∀cl s0 H0 ex,HG (blk X (lcN X.N js tg) scope cl s0 H0 ex) tg g)(ht:∀cl s0 H0 ex,HTs (blk X (lcN X.N js tg) scope cl s0 H0 ex) ifs tt)(he:∀cl s0 H0 ex,HE (blk X (lcN X.N js tg) scope cl s0 H0 ex) elt te)
  (B:ng X.env.scope.names X.N (lcN X.N js tg) nt js scope=true:=by kernel_rfl) (hc:X.calm=true:=by kernel_rfl) (hs:∀x,foldedSetIterable iter X.env x=pure x:=by intro _;kernel_rfl) (hsw:swapsWith (.ListComp elt [⟨tg,iter,ifs,0⟩] scope pos) (some (.Name x pos')) pos2.line X.env=pure true:=by kernel_rfl)
  (hix:X.N[i]?=some x:=by kernel_rfl) (hx:EU X.env.scope x=true:=by kernel_rfl) (hf:X.fn x=true:=by kernel_rfl):HS X (.Assign [.Name x pos'] (.ListComp elt [⟨tg,iter,ifs,0⟩] scope pos) pos2) (jq nt js di g tt te i):=AA hN hi hg ht he B hc hs hsw hix hx hf
def gA(h:HA X es t):HA X es t:=h
def gE(h:HE X e te):HE X e te:=h
def GW(h:HE X (.Call a b c pos) te):HE X (.Call a b c pos) te:=h
def gIx(h:HE X (.Subscript a b pos) te):HE X (.Subscript a b pos) te:=h
def Cl(h:HE X (.Constant a b pos) te):HE X (.Constant a b pos) te:=h
def gT(h:HT X e tt):HT X e tt:=h
def gS{st:Stmt}{t:DTS}(h:HS X st t):HS X st t:=h
def gOp(h:HOp X f r):HOp X f r:=h
def gC(h:HC X f r):HC X f r:=h
def yM{b:List Stmt}{st:Stmt}{sts:List Stmt}{t:DTS}(h:b=st::sts)(q:HB X (st::sts) t):HB X b t:=h ▸ q
end
section
variable{P:Program}{w:World}{K:AA6}{mg:Str->Option Value}{base:Heap}{x:Str}{st:Stmt}{N ps:List Str}{k:Nat}{Pr:DSp}{B:List Str}{C:List (Str×Int)}{t:DTS}
def Cal.byD(T:TopB mg B C)(F:cS K mg x st ps)(Sc:FnScope N ps (ap st))(len:du Pr ps)(der:TopB mg B C->N.Nodup->DerT P w K mg base k x N st t)(wp:∀ds M R,Pr ds M R->t (EE M R) (cb N ds) M):Cal P w K mg base (k+1) x ps Pr :=
 Cal.byH F Sc len (der T Sc.nd) wp
def AN(T:TopB mg B C)(F:Fun K x x st f fd)(Sc:FnScope N ps (ap st))(len:du Pr ps)(der:TopB mg B C->N.Nodup->DerT P w K mg base k x N st t)(wp:∀ds M R,Pr ds M R->t (EE M R) (cb N ds) M):FnOk P w K mg base CX0 (k+1) f fd ps (spL K Pr) :=
 AM F Sc len (der T Sc.nd) wp
end
section
variable{prog:Program}{w:World}{A:Around}{E:Value->Shared->Prop}{s:Shared}
def sV(ho:s.heap.get? l=some o)(hc:o.cls=.type "list"\/o.cls=.type "tuple")(hd:o.data=.seq vs.toArray n)
  (h:Q vs { s with heap:=(s.heap.push (seqObj "list" #[] 0)).update s.heap.objs.size (ABE (· ++ vs.toArray)) }) (hsz:vs.length<=sizeLine):wpAny (model prog w) A (collect (.ref l)) Q E s:=by
 rcases hc with hc | hc
 ·exact collect_list ⟨o,ho,hc,n,hd⟩ h hsz
 unfold collect;refine AA0 (wpAny_runValue (ABX entry_proto_collect' ?_));show wpAny _ _ (do again (.builtin "list.__iadd__" ⟨[<-newList [],.ref l],[]⟩)) _ _ s
 refine AA0 (ADN (AA2 ⟨Code.quiet_builtin _ (by decide +kernel),ABX entry_list_iadd' ?_⟩) (AAX _))
 show wpAny _ _ (ACT (.ref s.heap.objs.size) (.ref l) (.ref s.heap.objs.size)) _ _ { s with heap:=s.heap.push (seqObj "list" #[] 0) }
 unfold ACT;have ho':(s.heap.push (seqObj "list" #[] 0)).get? l=some o:=AA3 _ ho;refine AA0 (ACO (T:="tuple") ⟨o,ho',hc⟩ ?_);have ht:(ADe "tuple" == ADe "tuple")=true:=by rfl
 rw[if_pos (by rw[ht];simp)]
 refine AA0 (AEF ho' hd ?_);refine AA0 (AEF (xs:=#[]) (n:=0) (AAC _ rfl) rfl ?_);rw[if_neg (by simp)]
 refine AA0 (ADO (xs:=#[]) (n:=0) (AAC _ rfl) rfl ?_ (AAX _) (by show (#[]++vs.toArray).size<=sizeLine+1;simp only[Array.size_append,AAD,AAm];lia))
 refine AA2 ?_
 show wpAny (model prog w) A (do
   let o <-load s.heap.objs.size
   match o.data with
   | .seq xs _=>pure xs.toList
   | _=>unsupported "internal:collect") Q E { s with heap:=(s.heap.push (seqObj "list" #[] 0)).update s.heap.objs.size (ABE (· ++ vs.toArray)) }
 refine AA0 (wpAny_load (ACo (AAC _ rfl) _) ?_);show wpAny _ _ (pure ((#[]:Array Value)++vs.toArray).toList) Q E _;rw[show ((#[]:Array Value)++vs.toArray).toList=vs by simp]
 exact AA2 h
variable{h₀:Heap}{L kS a:Addr}{m:Str->Option Value}{vs:List Value}
def CL(hl:ks.length=vs.length)(h2:vs.length<2)(h:KatFin h₀ L m kS a ks e e1 vs (λs3=>P (.done (.ret .none)) s3) s) :
  wpAny (model prog w) A (ksk_end a false vs.toArray e1 (.ref kS) (ABy ks)) P E s:=by
 have hn2:vs.toArray.size<2:=by rw[AAD];exact h2
 unfold ksk_end;dsimp only;simp only[AAE,if_false];rw[if_pos hn2,if_pos hn2];refine AA0 (AA2 ?_);rw[StateT.run_pure];refine AA0 (AA2 ?_);dsimp only;refine kat_tail (out:=vs) ?_ (by lia) (by lia) rfl h
 show ((ABy ks).zip vs.toArray).map (·.2)=vs.toArray;match ks,vs,hl,h2 with
 | [],[],_,_=>simp
 | [k],[v],_,_=>simp
 | [],_::_,hl,_=>simp at hl
 | _::_,[],hl,_=>simp at hl
 | _::_::_,[_],hl,_=>simp at hl
 | _,_::_::_,_,h2=>simp at h2;lia
def CI{f:Value}{e1:Nat}{P:PySem.Fin->Shared->Prop}{Fin:List Value->Nat->Shared->Prop}(hk:s.heap.get? kS=some (seqObj "list" #[] 0))(h64:vs.length<64)
  (hend:∀ks e s',ks.length=vs.length->Fin ks e s'->wpAny (model prog w) A (ksk_end a false vs.toArray e1 (.ref kS) (ABy ks)) P E s') (h:KatKeys prog w A h₀ L m kS f Fin vs [] 0 s) :
  wpAny (model prog w) A (ksk_rest a f false vs.toArray e1 (.ref kS)) P E s:=by
 unfold ksk_rest;refine AA0 (ABU ?_);first
  | rw[List.forIn_toArray]
  | (rw[<-ABw];simp only[List.toList_toArray])
  | rw[<-ABw]
 refine AA0 (ABA (kat_fold h64 (λx ks e s' C hz hx=>?_) vs [] 0 s (by simp) hk h) (λ_ s' hd=>?_) λ_ _ x=>x)
 ·refine AA0 (ACc (ABA hx (λk s'' hk=>?_) λ_ _ hF=>hF.elim))
  obtain⟨news',g,F',N',U,c⟩:=hk;obtain⟨pre,post,e0,hg,x1,x2⟩:=U.split;rw[e0]at N';have nk:=N' (kS,seqObj "list" (ABy ks) e) (AAB _ (.head _));have s1:=AAo s''.heap kS (ABE (·.push k));have ea:(ABy ks).push k=ABy (ks++[k]):=by simp
  obtain⟨c2,hc2⟩:∃c2,(s''.heap.update kS (ABE (·.push k))).get? kS=some (seqObj "list" (ABy (ks++[k])) c2):=⟨_,by rw[<-ea];exact ACo nk.1 (·.push k)⟩
  try dsimp only
  refine AA0 (ADO nk.1 rfl ?_ (by rw[AAD,ABq];lia) (AB3 (Nat.le_of_eq (Array.size_push ..)) (by rw[AAD,ABq];lia)))
  exact AA2 ⟨rfl,k,c2,hc2,c _ c2 (kas_fr F' s1 nk.2.1 nk.2.2) (by rw[hg];exact news_set N' x1 x2 s1 hc2)⟩
 ·obtain⟨ks,e,hk',hl,fin⟩:=hd
  try dsimp only
  exact AA0 (AEF hk' rfl (hend ks e s' hl fin))
end
section
variable{X:Cx}{pins:List (Addr×Obj)}{σ:St}{H:Hp}{s:Shared}{a:Addr}
structure Own(X:Cx)(pins:List (Addr×Obj))(H:Hp)(a:Addr):Prop where
 un:H a=none
 ne:a≠X.env.locals
 fs:a∉X.fs
 s0:X.s₀.heap.objs.size<=a
 cl:∀x c,X.env.cells.lookup x=some c->c≠a
 pn:∀p∈X.pn++pins,p.1≠a
def Inv.own(I:Inv X pins σ H s)(h:s.heap.objs.size<=a):Own X pins H a :=
 ⟨I.hok.fresh h,λe=>by rw[e]at h;exact absurd (AAd I.lt h) (AAn _),I.nofs h,AB3 I.sz h,λx c e z=>by
  obtain⟨v,o,ho,_⟩:=I.cell x c e;rw[z]at ho;exact absurd (AAd (AAG ho) h) (AAn _),λp hp e=>by
  have:=AAG (I.pin p hp).1;rw[e]at this;exact absurd (AAd this h) (AAn _)⟩
def Inv.turnF(I:Inv X pins σ H s)(w:Own X pins H a)(k:∀b u,b≠X.env.locals->b≠a->s.heap.get? b=some u->h'.get? b=some u)(hn:s.heap.Ns X.env.locals m)(hn':h'.Ns X.env.locals m):Inv X pins σ H { s with heap:=h' }:=by
 have na:∀b u,H b=some u->b≠a:=λb u e=>ad e w.un
 refine I.step (g':=s.gens) (d':=s.drawn) (t':=s.toks) (ch:=[a]) (λb hb=>?_) (λb u hL _ hc e _=>k b u hL (by simpa using hc) e) (λb u hL _ hc e _=>⟨u.slots,k b u hL (by simpa using hc) e⟩) (λb u _ e n=>n) (λb u hc e=>?_)
  (λb xs q=>q) (λb u xs q=>q) (λb ps q=>⟨#[],by rw[q];simp⟩) (λm' hm=>?_) (λb u q=>?_) I.bare
 ·obtain rfl:b=a:=by simpa using hb
  exact⟨.inr w.s0,w.ne,w.cl,w.pn⟩
 ·by_cases hb:b=X.env.locals
  ·subst hb
   obtain⟨o',_,_,ho,_⟩:=hn';exact⟨o',ho⟩
  ·exact⟨u,k b u hb (by simpa using hc) e⟩
 ·have:m=m':=funext λx=>hn.agree hm x
  subst this;exact hn'
 ·refine(I.hok b u q).stay (λc v hc r=>k c v ?_ ?_ r) (λc z=>z) λc xs z=>z
  ·rcases hc with rfl | hc
   ·exact ad q I.free
   ·exact ad hc I.free
  ·rcases hc with rfl | hc
   ·exact na _ _ q
   ·exact na _ _ hc
def Inv.adoptF(I:Inv X pins σ H s)(w:Own X pins H a)(k:∀b u,b≠X.env.locals->b≠a->s.heap.get? b=some u->h'.get? b=some u)(hn:s.heap.Ns X.env.locals m)(hn':h'.Ns X.env.locals m)
  (new:bQ X.prog X.w (upd H a o) h' a o):Inv X pins σ (upd H a o) { s with heap:=h' }:=by
 have fa:=w.un;refine I.step (g':=s.gens) (d':=s.drawn) (t':=s.toks) (ch:=[a]) (λb hb=>?_) (λb u hL _ hc e _=>k b u hL (by simpa using hc) e) (λb u hL _ hc e _=>⟨u.slots,k b u hL (by simpa using hc) e⟩) (λb u hc e n=>by rw[af (by simpa using hc)];exact n) (λb u hc e=>?_)
  (λb xs q=>by rw[af (ad q fa)];exact q) (λb u xs q=>by rw[af (ad q fa)];exact q) (λb ps q=>⟨#[],by rw[af (ad q fa),q];simp⟩) (λm' hm=>?_) (λb u q=>?_) I.bare
 ·obtain rfl:b=a:=by simpa using hb
  exact⟨.inr w.s0,w.ne,w.cl,w.pn⟩
 ·by_cases hb:b=X.env.locals
  ·subst hb
   obtain⟨o',_,_,ho,_⟩:=hn';exact⟨o',ho⟩
  ·exact⟨u,k b u hb (by simpa using hc) e⟩
 ·have:m=m':=funext λx=>hn.agree hm x
  subst this;exact hn'
 ·by_cases hb:b=a
  ·subst hb
   rw[aA]at q;cases q
   exact new
  ·rw[af hb]at q
   refine(I.hok b u q).stay (λc v hc r=>k c v ?_ ?_ r) (λc z=>by rw[af (ad z fa)];exact z) λc xs z=>by rw[af (ad z fa)];exact z
   ·rcases hc with rfl | hc
    ·exact ad q I.free
    ·exact ad hc I.free
   ·rcases hc with rfl | hc
    ·exact ad q fa
    ·exact ad hc fa
end
section
variable{X:Cx}{pins:List (Addr×Obj)}{σ:St}{ρ:List Addr}{M:Mem}
structure KySt(X:Cx)(pins:List (Addr×Obj))(σ:St)(ρ:List Addr)(M:Mem)(m:Str->Option Value)(kS aD:Addr)(e1:Nat)(H0 H:Hp)(s:Shared)(ks:List Value)(e:Nat):Prop where
 inv:Inv X pins σ H s
 ns:s.heap.Ns X.env.locals m
 sm:Sim X.K ρ M H
 gr:Grow X.K ρ H0 ρ H
 hk:s.heap.get? kS=some (seqObj "list" (ABy ks) e)
 hd:s.heap.get? aD=some (seqObj "list" #[] e1)
 ok:Own X pins H kS
 od:Own X pins H aD
 ne:aD≠kS
def Ed(n:h.Ns L m):Fr (Att.noObjs h0) L h m :=
 ⟨n,λb o e=>(by rw[Att.noObjs_get]at e;cases e),AAX _⟩
def su(hne:d≠L)(ho:h.get? d=some od):News (Att.noObjs h0) L h ((d,od)::Att.ledger h L d):=by
 rintro⟨a,o⟩ hp;rcases AAJ.mp hp with e | hp
 ·cases e
  exact⟨ho,hne,Att.noObjs_get _ _⟩
 ·obtain⟨n1,n2,e⟩:=Att.mem_ledger.mp hp
  exact⟨e,n1,Att.noObjs_get _ _⟩
def kP(N:News (Att.noObjs h0) L h' ((d,o)::Att.ledger h L d)):∀b u,b≠L->b≠d->h.get? b=some u->h'.get? b=some u :=
 λb u h1 h2 e=>(N (b,u) (AA9 _ (Att.mem_ledger.mpr ⟨h1,h2,e⟩))).1
abbrev KeyG(X:Cx)(pins:List (Addr×Obj))(σ:St)(ρ:List Addr)(M:Mem)(f:Addr)(key:D->D)(xs:List D):Prop:=∀(s:Shared) (H:Hp) (d:D) (v:V) (u:Value),d∈xs->Inv X pins σ H s->Sim X.K ρ M H->Rep X.K ρ H d v->aI v u ->
 codeAny (model X.prog X.w) X.A.in1.in1 (.call (.ref f) ⟨[u],[]⟩) (CR CX0 X.stack X.prog X.w H s (λv' H'=>VQ X.K ρ H (λx M'=>x=key d/\M'=M) v' H') E0) s
def CJ{f:Addr}{key:D->D}{xs:List D}(G:KeyG X pins σ ρ M f key xs){h0:Heap}{m:Str->Option Value}{aD kS:Addr}{e1:Nat}{H0:Hp}
  {Fin:List Value->Nat->Shared->Prop}{keys:List D} (fin:∀H s kvs ks e,KySt X pins σ ρ M m kS aD e1 H0 H s ks e->Reps X.K ρ H keys kvs->au kvs ks->Fin ks e s) :
  ∀(r:List D) (ws:List V) (its:List Value) (done:List D) (kvs:List V) (ks:List Value) (e:Nat) (H:Hp) (s:Shared),KySt X pins σ ρ M m kS aD e1 H0 H s ks e->Reps X.K ρ H r ws->au ws its->Reps X.K ρ H done kvs->au kvs ks ->
   done++r.map key=keys->(∀d∈r,d∈xs)->KatKeys X.prog X.w X.A.in1.in1 (Att.noObjs h0) X.env.locals m kS (.ref f) Fin its ks e s:=by
 intro r;induction r with
 | nil =>
  intro ws its done kvs ks e H s g r v rd vd hk _;obtain rfl:=Reps.inv_nil r;obtain rfl:=au.inv_nil v;refine KatKeys.nil (fin H s kvs ks e g ?_ vd);rw[<-hk,AEa,AB7];exact rd
 | cons d r ih =>
  intro ws its done kvs ks e H s g rr v rd vd hk hP;obtain⟨vd1,ws,rfl,r1,rr⟩:=Reps.inv_cons rr;obtain⟨u,its,rfl,ru,v⟩:=au.inv_cons v;have I:=g.inv;refine KatKeys.cons (wpAny_call (ADf (G s H d vd1 u (hP d AAI) I g.sm r1 ru) λres s' hq=>?_))
  cases res with
  | error e=>exact hq.elim
  | ok fl =>
   cases fl with
   | next=>exact hq.elim
   | brk=>exact hq.elim
   | cont=>exact hq.elim
   | ret u' =>
    obtain⟨v',H',os,bare,un,hok,rv,q⟩:=hq;obtain⟨hh,gg,dr,tk,os'⟩:=s';obtain rfl:os'=s.os:=os;obtain⟨_,_,ρ',s1,g1,r1',rfl,rfl⟩:=q;have eρ:ρ'=ρ:=by
     obtain⟨t,rfl⟩:=g1.pre;have h1:=s1.len;have h2:=g.sm.len;rw[AAA]at h1;rw[List.eq_nil_of_length_eq_zero (show t.length=0 by lia),AB7]
    subst eρ;have J:Inv X ((kS,seqObj "list" (ABy ks) e)::(aD,seqObj "list" #[] e1)::pins) σ H s:=I.pins_of λp hp=>by
     rcases AAJ.mp hp with rfl | hp
     ·exact⟨g.hk,g.ok.un,g.ok.ne,g.ok.fs,λ_ z=>nomatch z⟩
     ·rcases AAJ.mp hp with rfl | hp
      ·exact⟨g.hd,g.od.un,g.od.ne,g.od.fs,λ_ z=>nomatch z⟩
      ·exact I.pin p (AAB _ hp)
    have J':=J.call (h':=hh) (g':=gg) (d':=dr) (t':=tk) (ch:=[]) un hok bare (λb z=>absurd z (by simp))
    have pk:=J'.pin (kS,_) (AAB _ AAI);have pd:=J'.pin (aD,_) (AAB _ (AA9 _ AAI));have I':Inv X pins σ H' ⟨hh,gg,dr,tk,s.os⟩:=J'.pins_of λp hp=>J'.pin p (AAB _ (AA9 _ (AA9 _ hp)))
    have ns':hh.Ns X.env.locals m:=by
     obtain⟨o,es,ep,ho,aJ⟩:=g.ns;obtain⟨sl,hL⟩:=un.any ho I.free (by simp)
     exact⟨_,es,ep,hL,aJ⟩
    have ok':Own X pins H' kS:=⟨pk.2.1,g.ok.ne,g.ok.fs,g.ok.s0,g.ok.cl,g.ok.pn⟩;have od':Own X pins H' aD:=⟨pd.2.1,g.od.ne,g.od.fs,g.od.s0,g.od.cl,g.od.pn⟩;refine KatBack.intro (s:=⟨hh,gg,dr,tk,s.os⟩) (Ed ns') (su ok'.ne pk.1) (UpdF.head λp hp=>(Att.mem_ledger.mp hp).2.1) λh2 c F2 N2=>?_
    have kp:=kP N2;refine ih ws its (done++[key d]) (kvs++[v']) (ks++[u']) c H' _ ⟨I'.turnF ok' kp ns' F2.ns,F2.ns,s1,⟨g.gr.pre,λx xs h=>g1.tup x xs (g.gr.tup x xs h)⟩,(N2 _ AAI).1,kp aD _ od'.ne g.ne pd.1,ok',od',g.ne⟩ (rr.grow g1) v
     ((rd.grow g1).append (.cons r1' .nil)) (vd.append (.cons rv .nil)) (by rw[<-hk,AAQ,AAk];rfl) λx hx=>hP x (AA9 _ hx)
def ug{k n:Nat}{f l:Addr}{o:Obj}{s:Shared}{H:Hp}{xs:List D}{ws:List V}{its:List Value}{key:D->D}{R:VK}(G:KeyG X pins σ ρ M f key xs)(hr:Room (k+2) X.A)
  (I:Inv X pins σ H s) (sm:Sim X.K ρ M H) (r:Reps X.K ρ H xs ws) (rr:au ws its) (ho:s.heap.get? l=some o) (hc:o.cls=.type "list"\/o.cls=.type "tuple") (hd:o.data=.seq its.toArray n) (h64:its.length<64) (so:SrtG M (xs.map key)) (kk:∀v H',(∀Q:DK,(∀ys,ys.Perm xs->ys.Pairwise (λa b=>ltD M eqN (key b) (key a)=false)->Q (.ref M.length) (M++[.lst ys]))->VQ X.K ρ H Q v H')->R v H') :
  wpAny (model X.prog X.w) X.A (call (.builtin "sorted") [.ref l] [(AA1 "key",.ref f)]) (EP X pins σ R) X.xe s:=by
 have lw:=r.length;have li:=rr.length;have few:its.length<=sizeLine:=by rw[ABq];lia
 refine call_function_entry_kw kind_sorted plain_sorted entry_sorted (ksk_s1 _ _) ?_
 unfold Builtin.«sorted»;refine AA0 (m:=checkCount "sorted" 1 1 _) (AA2 (AA0 (sV ho hc hd (AA0 (ADN ?_ few)) few)));generalize hg:((s.heap.push (seqObj "list" #[] 0)).update s.heap.objs.size (ABE (· ++ its.toArray)))=g1;have hsz:g1.objs.size=s.heap.objs.size+1:=by rw[<-hg,Heap.size_update,size_push']
 have k1:∀b o,s.heap.get? b=some o->g1.get? b=some o:=λb o q=>by
  have hlt:=AAG q;rw[<-hg,AC6 _ _ _ _ (AAO hlt),Heap.get?_push_ne _ _ _ (AAO hlt)];exact q
 show wpAny _ _ _ _ _ { s with heap:=g1.push (seqObj "list" its.toArray 0) }
 have hoL:(g1.push (seqObj "list" its.toArray 0)).get? g1.objs.size=some (seqObj "list" its.toArray 0):=AAC _ rfl;refine AA0 (AAZ (wpAny_call_entry_kw slot_list_sort (⟨_,hoL,rfl⟩) entry_list_sort ?body (ksk_l1 _ _)))
 case body =>
  show wpAny (model X.prog X.w) X.A.in1.in1 (Builtin.«list.sort» ⟨[.ref g1.objs.size],[(AA1 "key",.ref f)]⟩) _ _ _;rw[ksk_t1];unfold ksk_tree;refine AA0 (AEF hoL rfl (AA0 (ADO hoL rfl ?_ (by rw[AAD];exact few) (AAX _))))
  obtain⟨e1,ho1⟩:∃e1,((g1.push (seqObj "list" its.toArray 0)).update g1.objs.size (ABE λ_=>(#[]:Array Value))).get? g1.objs.size=some (seqObj "list" #[] e1):=⟨_,ACo hoL λ_=>#[]⟩
  refine AA0 (seqEpoch_at ho1 rfl (AA0 (wpAny_newTuple (AA0 (ADN (AAZ ?_) (AAX _))) few)));have k2:∀b o,s.heap.get? b=some o->((g1.push (seqObj "list" its.toArray 0)).update g1.objs.size (ABE λ_=>(#[]:Array Value))).get? b=some o:=λb o q=>by
   rw[AC6 _ _ _ _ (AAO (by rw[hsz];exact AC5 (AAG q)))]
   exact AA3 _ (k1 b o q)
  have hsz2:((g1.push (seqObj "list" its.toArray 0)).update g1.objs.size (ABE λ_=>(#[]:Array Value))).objs.size=g1.objs.size+1:=by rw[Heap.size_update,size_push']
  generalize ((g1.push (seqObj "list" its.toArray 0)).update g1.objs.size (ABE λ_=>(#[]:Array Value)))=g2 at ho1 k2 hsz2 ⊢
  dsimp only;have k3:∀b o,g2.get? b=some o->((g2.push (seqObj "tuple" its.toArray 0)).push (seqObj "list" #[] 0)).get? b=some o:=λb o q=>AA3 _ (AA3 _ q)
  have hk3:((g2.push (seqObj "tuple" its.toArray 0)).push (seqObj "list" #[] 0)).get? (g2.push (seqObj "tuple" its.toArray 0)).objs.size=some (seqObj "list" #[] 0):=AAC _ rfl;have hsz3:(g2.push (seqObj "tuple" its.toArray 0)).objs.size=g2.objs.size+1:=size_push' _ _;generalize (g2.push (seqObj "tuple" its.toArray 0)).objs.size=kS at hk3 hsz3 ⊢;generalize ((g2.push (seqObj "tuple" its.toArray 0)).push (seqObj "list" #[] 0))=g3 at hk3 k3 ⊢;generalize g1.objs.size=aD at ho1 hsz hsz2 ⊢;obtain⟨m,hn,_⟩:=I.loc;have st:KySt X pins σ ρ M m kS aD e1 H H { s with heap:=g3 } [] 0 :=
   ⟨I.kept (t':=s.toks) λb o q=>k3 b o (k2 b o q),(by obtain⟨o',es,ep,ho',aJ⟩:=hn;exact⟨o',es,ep,k3 _ _ (k2 _ _ ho'),aJ⟩),sm,.refl,hk3,k3 _ _ ho1,I.own (by rw[hsz3,hsz2,hsz];exact ADb _ 3),I.own (by rw[hsz];exact ADb _ 1),by rw[hsz3,hsz2];exact AAO (Nat.lt_add_of_pos_right (by decide:0<2))⟩
  have hr2:Room k X.A.in1.in1:=(Room.in1 (k:=k+1) hr).in1;refine CI (h₀:=Att.noObjs s.heap) (L:=X.env.locals) (m:=m) (Fin:=λks e s'=>∃H' kvs,KySt X pins σ ρ M m kS aD e1 H H' s' ks e/\Reps X.K ρ H' (xs.map key) kvs/\au kvs ks) hk3 h64 (λks e s' hl ⟨H',kvs,g,rk,vk⟩=>?_)
   (CJ G (λH' s' kvs ks e g r v=>⟨H',kvs,g,r,v⟩) xs ws its [] [] [] 0 H _ st r rr .nil .nil rfl λ_ q=>q)
  have fin:∀ys zs out,Reps X.K ρ H' ys zs->au zs out->ys.Perm xs->ys.Pairwise (λa b=>ltD M eqN (key b) (key a)=false)->KatFin (Att.noObjs s.heap) X.env.locals m kS aD ks e e1 out (λs4=>EP X pins σ R (.ref aD) s4) s':=λys zs out ry vy hp hw=>by
   refine KatFin.intro (Ed g.ns) (su g.ok.ne g.hk) (UpdF.head λp hp=>(Att.mem_ledger.mp hp).2.1) λh2 c F2 N2=>?_
   have kp:=kP N2;refine KasFin.intro (s:={ s' with heap:=h2 }) (Ed F2.ns) (su g.od.ne (kp aD _ g.od.ne g.ne g.hd)) (UpdF.head λp hp=>(Att.mem_ledger.mp hp).2.1) λh3 c3 F3 N3=>?_
   refine⟨.ref aD,_,(g.inv.turnF g.ok kp g.ns F2.ns).adoptF (o:=.lst zs) g.od (kP N3) F2.ns F3.ns ⟨?_,out,c3,vy,(N3 _ AAI).1⟩,rfl,kk _ _ λQ hQ=>VQ.laidL g.sm g.gr ry g.od.un (hQ ys hp hw)⟩
   rw[<-ry.length,hp.length_eq,lw,li];exact few
  by_cases h2:its.length<2
  ·refine CL (hl) h2 ((fin xs ws its (r.grow g.gr) rr (AD3 _) ?_).mono λs4 hq=>⟨_,rfl,AA2 ⟨_,rfl,hq⟩⟩)
   match xs,(show xs.length<2 by lia) with
   | [],_=>exact ADJ
   | [x],_=>exact ADs _ _
   | _::_::_,hx=>simp at hx;lia
  ·have h2':2<=its.length:=by lia
   refine kat_end (b:=false) (h₀:=Att.noObjs s.heap) (L:=X.env.locals) (m:=m) (e:=e) hl h2' h64 ?_
   have hu:X.A.in1.in1.units+eqN<cLine:=by
    have:=hr.un;have:eqN=30:=rfl;show X.A.units+1+1+eqN<cLine;lia
   have kl:ks.length=xs.length:=by lia
   refine ABA (kn g.inv g.sm so rk vk (by lia) hu) (λκ s'' hk=>?_) λ_ _ x=>x
   obtain⟨rfl,hask⟩:=hk;show (AED its.length).kasWp (kas_ask X.prog X.w X.A.in1.in1 κ ks) (λp s3=>KatFin (Att.noObjs s.heap) X.env.locals m kS aD ks e e1 (p.toList.map λi=>its.getD i ABj) _ s3) _
   have kget:∀i,i<xs.length->(xs.map key).getD i default=key (xs.getD i default):=λi hi=>by
    rw[AAU,AAU,AAV,AA5 hi];rfl
   refine Srt.wp_run (n:=its.length) (c:=λi j=>if i<xs.length then(if j<xs.length then ltD M eqN (key (xs.getD i default)) (key (xs.getD j default))else true)else false) (λi j C hi hj hc=>?_) _ (Srt.sort_bd (by lia)).1 ?_
   ·refine hask i j C (by lia) (by lia) ?_
    rw[if_pos (by lia),if_pos (by lia)]at hc
    unfold ltc;rw[kget i (by lia),kget j (by lia)]
    exact hc
   ·have hent:=Srt.All.run (c:=λi j=>if i<xs.length then(if j<xs.length then ltD M eqN (key (xs.getD i default)) (key (xs.getD j default))else true)else false) _ (Srt.sort_bd (n:=its.length) (by lia)).2
    obtain⟨o1,o2,o3⟩:=Do so;have hm:∀x∈xs,key x∈xs.map key:=λx hx=>AAg hx
    have hsl:=Srt.sort_list (lt:=λa b=>ltD M eqN (key a) (key b)) xs (by lia) (λa ha=>o1 _ (hm a ha)) (λa ha b hb d hd=>o2 _ (hm a ha) _ (hm b hb) _ (hm d hd)) (λa ha b hb d hd=>o3 _ (hm a ha) _ (hm b hb) _ (hm d hd))
    try dsimp only at hsl
    rw[show xs.length=its.length by lia]at hsl hent ⊢
    generalize Srt.run _ (AED its.length)=p at hent hsl ⊢;have hi:∀i∈p.toList,i<xs.length:=λi h=>by
     have:=hent.mem_iff.mp h;rw[AB2]at this;lia
    exact(fin _ _ _ ((r.grow g.gr).perm p.toList hi) (rr.perm p.toList λi h=>by have:=hi i h;lia) hsl.1 hsl.2).mono λs4 hq=>⟨_,rfl,AA2 ⟨_,rfl,hq⟩⟩
end
structure BlkScC(X:Cx)(N':List Str)(nt:Nat)(js:List Nat)(scope:Scope):Prop where
 kind:scope.kind=.function
 kinds:∀y∈scope.names,scope.names.lookup y.1=some y.2
 free:∀y∈scope.names,y.2=.free->(X.env.kindOf y.1=some .cell\/X.env.kindOf y.1=some .free)
 len:N'.length=nt+js.length
 fr:∀(k j:Nat),js[k]?=some j->∃x,N'[nt+k]?=some x/\X.N[j]?=some x/\scope.names.lookup x=some .free/\(X.env.kindOf x=some .cell\/X.env.kindOf x=some .free)
structure CfOk(h:Heap)(k:Nat)(names:List (Str×NameKind))(acc cs:List (Str×Addr)):Prop where
 look:∀z c,cs.lookup z=some c->(acc.lookup z=some c/\(z,ACt)∉names)\/((z,ACt)∈names/\k<=c/\h.IsCell c none)
 inj:∀y z c,cs.lookup y=some c->cs.lookup z=some c->y=z
 old:∀z c,acc.lookup z=some c->∃c',cs.lookup z=some c'
 new:∀z,(z,ACt)∈names->∃c,cs.lookup z=some c
def Eu(i:Nat):DTG:=ar i
def gY(ps:List (Str×D)):List (Str×D):=ps.foldl (λkvs p=>xz kvs p.1 p.2) []
def mX:gY (ps++[p])=xz (gY ps) p.1 p.2:=by
 unfold gY;rw[AE9];rfl
def qY(ps:List (Str×D)):(gY ps).length<=ps.length:=by
 have:∀(ps acc:List (Str×D)),(ps.foldl (λkvs p=>xz kvs p.1 p.2) acc).length<=acc.length+ps.length:=by
  intro ps;induction ps with
  | nil=>intro acc;exact AA8 _
  | cons p ps ih =>
   intro acc;have h1:=ih (xz acc p.1 p.2);have h2:=zU (kvs:=acc) (k:=p.1) (d:=p.2);rw[List.foldl_cons,AAN];lia
 have h:=this ps [];rw[AAm]at h;unfold gY;lia
section
variable{X:Cx}{pins:List (Addr×Obj)}{σ:St}{H:Hp}{ρ:List Addr}{M:Mem}{A:Around}{E:Value->Shared->Prop}{s:Shared}
def DSt(X:Cx)(ρ:List Addr)(H:Hp)(h:Heap)(a:Addr)(kvs:List (Str×D)):Prop:=∃ws us,Reps X.K ρ H (kvs.map (·.2)) ws/\KV (lD (kvs.map (·.1)) ws) us/\h.DictOf (cj X.prog X.w) a us
def DSt.at(x:DSt X ρ H h a kvs)(k:∀o,h.get? a=some o->h'.get? a=some o):DSt X ρ H h' a kvs:=by
 obtain⟨ws,us,r,rel,o,es,ep,e1,aJ⟩:=x;exact⟨ws,us,r,rel,o,es,ep,k _ e1,aJ⟩
def BF{kvs:List (Str×D)}{ws:List V}{us:List (Key×Value)}(r:Reps X.K ρ H (kvs.map (·.2)) ws)(rel:KV (lD (kvs.map (·.1)) ws) us):us.length=kvs.length/\(lD (kvs.map (·.1)) ws).length=kvs.length:=by
 have e1:=r.length;have e2:=rel.length;rw[AA4]at e1;have e3:(lD (kvs.map (·.1)) ws).length=kvs.length:=by
  rw[lD,AA4,List.length_zip,AA4];lia
 lia
def Em(I:Inv X pins σ H s)(hu:A.units+20<cLine)(W:Walks X.prog X.w A.in1 J fp wr m P Sx)(S:Addr)(hSf:S∉fp)
  (hS0:s.heap.get? S=none) (hw0:∀b∈wr,s.heap.get? b=none) (ps:List (Str×D)) (hm:ps.length=m) (hval:∀i v,P i v->∃p:Str×D,ps[i]?=some p/\∃vv,Rep X.K ρ H (.tup [.str p.1,p.2]) vv/\aI vv v) (hb:m<=1000) :
  ∀(k i:Nat) (h:Heap) (tk:Nat) (j:Int) (t:Tok),m-i=k->i<=m->Sx i h->DSt X ρ H h S (gY (ps.take i))->(∀b u,s.heap.get? b=some u->h.get? b=some u) ->
   (∀h' tk,(∀b u,s.heap.get? b=some u->h'.get? b=some u)->DSt X ρ H h' S (gY ps)->R (.ok (.ret .none)) { s with heap:=h',toks:=tk }) ->
   codeAny (model X.prog X.w) A (.builtin "dict.update.loop" ⟨[.ref S,.ref J,.int j t,.none],[]⟩) R { s with heap:=h,toks:=tk }:=by
 have hSw:S∉wr:=λh=>hSf (W.sub _ h)
 intro k;induction k with
 | zero =>
  intro i h tk j t hk hi hst hS hold hR;obtain rfl:i=m:=by lia
  refine ABX iG ?_
  rw[ABS ca _];refine(show wpAny (model X.prog X.w) A.in1 (pyNext (.ref J) >>= _) _ _ _ from AA0 (W.done _ _ _ hst λh' tk hk'=>?_))
  rw[<-hm,ABi]at hS;refine(show wpAny (model X.prog X.w) A.in1 (Builtin.Dict.addKeywords S [] >>= _) _ _ _ from AA0 (AA2 (AA2 ?_)));exact hR h' tk (λb u e=>hk' b u (λz=>by rw[hw0 b z]at e;cases e) (hold b u e)) (hS.at λo e=>hk' S o hSw e)
 | succ k ih =>
  intro i h tk j t hk hi hst hS hold hR;refine ABX iG ?_
  rw[ABS ca _];refine(show wpAny (model X.prog X.w) A.in1 (pyNext (.ref J) >>= _) _ _ _ from AA0 (W.item i _ _ _ (by lia) hst λv h' tk hP hst' hk'=>?_))
  obtain⟨p,hp,vv,r,rv⟩:=hval i v hP;have old':∀b u,s.heap.get? b=some u->h'.get? b=some u:=λb u e=>hk' b u (λz=>by rw[hw0 b z]at e;cases e) (hold b u e)
  have I':Inv X pins σ H { s with heap:=h',toks:=tk }:=I.kept old'
  obtain⟨ws,us,r0,rel,dd⟩:=hS.at λo e=>hk' S o hSw e
  have hl:=(BF r0 rel).1;have dl:=qY (ps.take i);rw[AAy]at dl;obtain⟨a,vs,rfl,hq,rr⟩:=Rep.inv_tup r;obtain rfl:v=AB6 a:=rv;obtain⟨_,_,rfl,r1,rr⟩:=Reps.inv_cons rr;obtain⟨_,vd,rfl,r2,rr⟩:=Reps.inv_cons rr;obtain rfl:=Reps.inv_nil rr;obtain rfl:=Rep.inv_str r1;obtain⟨its,r2',pl,hz⟩:=I'.tuple hq;obtain⟨u1,u2,rfl,e1,e2⟩:=au.two r2';obtain⟨x,d0⟩:=p;obtain⟨o,ho,hc,nn,hd⟩:=pl;have hT:({ s with heap:=h',toks:=tk }:Shared).TypeIs (.ref a) "tuple":=⟨o,ho,hc⟩
  refine AA0 (AAZ (AA0 (wpAny_tryCatch ?_)));unfold Builtin.Dict.pairItems;refine AA0 (ACO hT ?_);rw[if_pos (by decide)]
  refine AA0 (ACh ho hd (AA2 ?_));refine(show wpAny (model X.prog X.w) _ (holding [u1,u2] (dictSet S u1 u2)) _ _ _ from AAZ ?_);refine wpAny_dictSet_pairs (s:={ s with heap:=h',toks:=tk }) (DU (k:=ACS x) e1) dd (λh2 dd2 sb=>?_) (aw (by lia))
  have k2:∀b u,b≠S->h'.get? b=some u->h2.get? b=some u:=λb u hb e=>(sb.2 b hb).trans e
  obtain⟨vs',f1,rr'⟩:=CT (k:=x) r2 r0;have et:ps.take (i+1)=ps.take i++[(x,d0)]:=by rw[ABn,hp];rfl
  refine AA2 ⟨ACa ca _,ih (i+1) h2 _ _ _ (by lia) (by lia) (W.frame _ h' h2 hst' λb' hb' o e=>k2 b' o (λz=>hSf (z ▸ hb')) e) ?_ (λb u e=>k2 b u (λz=>by rw[z,hS0]at e;cases e) (old' b u e)) hR⟩
  rw[et,mX];exact⟨vs',_,rr',by rw[<-f1];exact rel.put (ACS x) e2,dd2⟩
theorem Bl(I:Inv X pins σ H s)(hu:A.units+30<cLine)(hh:A.handled=none)(hl:s.heap.IsTuple l its)(hol:s.heap.get? l=some ol)(hdict:ol.dict=none)(ps:List (Str×D))(hm:ps.length=its.size)
  (hval:∀(i:Nat) v,its[i]?=some v->∃p:Str×D,ps[i]?=some p/\∃vv,Rep X.K ρ H (.tup [.str p.1,p.2]) vv/\aI vv v) (hb:its.size<=1000)
  (h:∀h' tk,(∀b u,s.heap.get? b=some u->h'.get? b=some u)->DSt X ρ H h' s.heap.objs.size (gY ps)->Q (.ref s.heap.objs.size) { s with heap:=h',toks:=tk }) :
  wpAny (model X.prog X.w) A (call (.type "dict") [.ref l]) Q E s:=by
 refine callType_codes (Q₁:=λobj s₁=>obj=.ref s.heap.objs.size/\s₁={ s with heap:=s.heap.push { cls:=.type "dict",data:=.dict #[] } }) PySem.F.kt_called_dict (PySem.F.kt_typeCall_dict_1 _) PySem.F.entry_dict_init (kt_code_dict_new _ ⟨rfl,rfl⟩) ?_
 rintro obj s₁ ⟨rfl,rfl⟩;have hS:(s.heap.push { cls:=.type "dict",data:=.dict #[] }).get? s.heap.objs.size=some { cls:=.type "dict",data:=.dict #[] }:=AAC _ rfl;have hT:ADR { s with heap:=s.heap.push { cls:=.type "dict",data:=.dict #[] } } (.ref s.heap.objs.size) "dict":=⟨_,hS,rfl⟩
 obtain⟨ol',e1,hcl,nn,hdd⟩:=id hl;obtain rfl:ol'=ol:=AAR (e1.symm.trans hol);have hol':(s.heap.push { cls:=.type "dict",data:=.dict #[] }).get? l=some ol':=AA3 _ hol;have hTl:ADR { s with heap:=s.heap.push { cls:=.type "dict",data:=.dict #[] } } (.ref l) "tuple":=⟨ol',hol',hcl⟩
 have ll:l<s.heap.objs.size:=AAG hol;refine⟨hT,PySem.F.args_dict_init_2 _ _,?_⟩;unfold Builtin.«dict.__init__»;refine AA0 ?_
 unfold Builtin.Dict.selfAndRest;refine AA0 (ABm hT ?_);refine(show wpAny _ _ (pure (s.heap.objs.size,[AB6 l])) _ _ _ from AA2 ?_);refine(show wpAny _ _ (ACx "dict.__init__" s.heap.objs.size (.ref l) [] .none) _ _ _ from ?_);unfold ACx;refine AA0 (ACO hTl ?_);rw[if_pos (by decide)]
 refine AA0 (vq hol' hcl hdict hdd (by simpa using hh) λh1 tk1 k1=>?_)
 have kp1:∀b u,s.heap.get? b=some u->h1.get? b=some u:=λb u e=>k1 b u (AA3 _ e)
 rw[if_pos (show (none:Option Value).isNone=true from rfl)];refine AA0 (ABU ?_);obtain⟨oI,St,hit,W,st⟩:=(TxSrc.tuple (prog:=X.prog) (w:=X.w) hl).iter A.in1.in1 { s with heap:=h1,toks:=tk1 } (by simpa using hh) λo e=>kp1 _ _ e
 refine AA0 (hit _ _ ?_);have hS1:=k1 _ _ hS;have lS:s.heap.objs.size<h1.objs.size:=AAG hS1;have hS0:s.heap.get? s.heap.objs.size=none:=by
  cases q:s.heap.get? s.heap.objs.size with
  | none=>rfl
  | some o=>exact absurd (AAG q) (AAn _)
 refine AA2 ⟨ACa ca _,Em (A:=A.in1) (s:=s) I (by show A.units+1+20<cLine;lia) W s.heap.objs.size ?_ hS0 ?_ ps hm hval hb its.size 0 _ _ _ _ rfl (AAX _) st ⟨[],[],.nil,.nil,_,#[],_,AA3 _ hS1,⟨rfl,rfl,rfl⟩,rfl,(λ_ he=>by simp at he),Pairs.nil,AD5⟩ (λb u e=>AA3 _ (kp1 b u e)) λh2 tk2 k2 dd=>⟨rfl,h h2 tk2 k2 dd⟩⟩
 ·simp only[AAJ,ABz,or_false,not_or]
  exact⟨AAO lS,AEZ ll⟩
 ·intro b hb'
  rw[ABe.mp hb'];cases q:s.heap.get? h1.objs.size with
  | none=>rfl
  | some o=>exact absurd (Nat.lt_trans (AAG q) lS) (AAn _)
end
section
variable{X:Cx}{k:Nat}
def ui:DRA:=λds M Q=>match ds with
 | [.tup xs]=>∃ps:List (Str×D),xs=ps.map (λp=>.tup [.str p.1,p.2])/\ps.length<=1000/\Q (.ref M.length) (M++[.dct (gY ps)])
 | _=>False
theorem Bk(hr:Room k X.A)(hc:X.calm=true):jC X (.type "dict") ui:=by
 intro pins s σ H vs us R I rv ⟨ds,M,ρ,Q,sm,rs,q,kk⟩;have un:=hr.un;unfold ui at q;split at q
 ·obtain⟨ps,hL,hl,q⟩:=q
  have hzz:=Reps.inv_cons rs;clear rs;obtain⟨_,_,rfl,r1,rs⟩:=hzz;obtain rfl:=Reps.inv_nil rs;obtain⟨u,rfl,e1⟩:=au.one rv;subst hL;obtain⟨a,ws,rfl,hq,r⟩:=Rep.inv_tup r1;cases e1
  obtain⟨its,rr,pl,hz⟩:=I.tupN hq;obtain⟨oa,hoa,hca,⟨nn,hdata⟩,hdict⟩:=id pl;have lw:=r.length;have li:=rr.length;rw[AA4]at lw;have hf:H s.heap.objs.size=none:=I.hok.fresh (AA8 _);have hb:(s.heap.objs.size==sysModules)=false:=beq_eq_false_iff_ne.mpr (ABO (AAO I.big));refine Bl (A:=X.A) (ρ:=ρ) I (by lia) (I.ok.hd hc) pl.tup hoa hdict ps (by rw[AAD];lia) (λi v hv=>?_) (by rw[AAD];lia) λh' tk kp dd=>?_
  ·obtain⟨d,vv,e1,r1,rv1⟩:=nw r rr (i:=i) (u:=v) (by simpa using hv)
   rw[AAV]at e1;obtain⟨p,hp,rfl⟩:=ABF.mp e1;exact⟨p,hp,vv,r1,rv1⟩
  ·obtain⟨ws',us',r0,rel,dd⟩:=dd
   have dl:=qY ps;have ln:=(BF r0 rel).2;refine⟨.ref s.heap.objs.size,_,I.laid (a:=s.heap.objs.size) (o:=.dK (lD ((gY ps).map (·.1)) ws')) (t':=tk) kp (AA8 _) (Hs (aw (by lia)) hb rel dd),rfl,?_⟩
   exact kk _ _ ⟨.ref M.length,M++[.dct (gY ps)],ρ++[s.heap.objs.size],sm.laidM (mo:=.dct (gY ps)) hf ⟨ws',aA,r0.grow (Grow.laidR hf)⟩,Grow.laidR hf,.ref sm.last,q⟩
 ·exact q.elim
def uJ(hr:Room k X.A)(hc:X.calm=true:=by kernel_rfl):HC X (.type "dict") ui:=⟨Bk hr hc⟩
end
def BMain(mg:Str->Option Value)(base:Heap):Prop:=∃bm o,mg "__builtins__" = some (.ref bm)/\bm≠builtinsNs/\bm≠mainGlobals/\base.get? bm=some o/\o.cls=.type "module"/\o.dict=some builtinsNs/\o.data=.plain
def Self(X:Cx)(x:Str):Prop:=∃(f:Addr) (oc:Value) (od:Option Addr) (fd:FuncData) (sl:Array (Option Value)),X.mg x=some (.ref f)/\X.K.lookup f=some ⟨oc,od,.func fd,sl⟩/\X.env.code=fd.code
def Self.code(S:Self X x)(I:Inv X pins σ H s)(h:tabIn X.K x=some (c,P)):X.env.code=.ref c:=by
 obtain⟨f,oc,od,fd,sl,h1,h2,h3⟩:=S;unfold tabIn at h;split at h
 ·rename_i f' hf
  have e1:=mg_of I.mod.kin I.mod.glob hf;rw[h1]at e1;cases e1
  split at h
  ·rename_i e2
   rw[h2]at e2;cases e2
   split at h
   ·rename_i c' hc
    split at h
    ·split at h
     ·cases h
      rw[h3,hc]
     ·cases h
    ·cases h
   ·cases h
  ·cases h
 ·cases h
section
variable{K:AA6}{ρ:List Addr}{M:Mem}{H:Hp}
def SqT.writtenB(hp:H p=some (.tbl ps))(h:SqT K H a xs):SqT K (upd H p o) a xs:=by
 have ne:∀u,H a=some u->(∀q,u≠.tbl q)->a≠p:=λu e q z=>by
  rw[z,hp]at e;exact q ps (AAR e).symm
 rcases h with h | h
 ·rcases h with h | ⟨ob,h⟩
  ·exact .inl (.inl (by rw[af (ne _ h λ_ z=>by cases z)];exact h))
  ·exact .inl (.inr ⟨ob,by rw[af (ne _ h λ_ z=>by cases z)];exact h⟩)
 ·exact .inr h
def Sim.writeB(S:Sim K ρ M H)(e1:ρ[n]?=some a)(hM:M[n]?=some (.tb x b))(hH:H a=some (.tbl ps)) :
  Sim K ρ (M.set n (.tb x true)) (upd H a (.tbl ps'))/\Grow K ρ H ρ (upd H a (.tbl ps')):=by
 have g:Grow K ρ H ρ (upd H a (.tbl ps')):=⟨ACn,λ_ _ h=>SqT.writtenB hH h⟩
 have hk:∀m,m≠n->(M.set n (.tb x true))[m]?=M[m]?:=λm hm=>AAv (ABO hm)
 have notK:¬isK M[n]?:=λ⟨_,z⟩=>by rw[hM]at z;cases z
 refine⟨⟨λm m' b hne f1 f2=>?_,by rw[AB1];exact S.len,λm b' mo f1 f2=>?_⟩,g⟩
 ·have q:=S.nd m m' b hne f1 f2
  by_cases h1:m=n
  ·subst h1
   rw[hk m' (ABO hne)];exact .inr (q.resolve_left notK)
  ·rw[hk m h1]
   by_cases h2:m'=n
   ·subst h2
    exact .inl (q.resolve_right notK)
   ·rw[hk m' h2]
    exact q
 by_cases hm:m=n
 ·subst hm
  have hb:b'=a:=AAR (f1.symm.trans e1);subst hb;rw[AAx (by rw[<-S.len];exact(AA7.mp e1).1)]at f2
  cases f2
  exact⟨(S.obj m b' _ e1 hM).1,ps',aA,λz=>by cases z⟩
 ·rw[hk m hm]at f2
  by_cases hb:b'=a
  ·subst hb
   have q':=(S.nd m n b' hm f1 e1).resolve_right notK;rw[f2]at q';exact(S.obj m b' mo f1 f2).grow g (.inr q')
  ·exact(S.obj m b' mo f1 f2).grow g (.inl (af hb))
end
def DN{P:Program}{w:World}{K:AA6}{mg:Str->Option Value}{base:Heap}{A:Around}{outer:List Env}{s:Shared}{H:Hp}{k:Nat}{f c':Addr}{nm qual:Str}{params:Arguments}{body:Expr}{scope:Scope}{pm ctv:Value}{N ps:List Str}{te:DTE}
  {ρ:List Addr}{M:Mem}{d:D}{v:V}{u:Value}{R:DK} (e0:Env0 P w K mg base A outer s H) (ho:s.heap.get? f=some (kla_obj nm qual params body scope [] pm c' ctv)) (hcd:s.heap.CodeRec (.ref c') qual) (S:FnScope N ps scope) (hr:Room (k+1) A)
  (hb:BindsTo s (kla_fn nm qual params body scope [] pm (.ref c') ctv) ⟨[u],[]⟩ (ps.zip [u])) (hl:1=ps.length) (der:∀E,Room k (A.deeper (envOfC qual scope s.heap.objs.size f (.ref c')))->DE (rC CX0 P w K mg base N qual scope f (.ref c') A outer s H E).nox body te)
  (sm:Sim K ρ M H) (r:Rep K ρ H d v) (ru:aI v u) (hq:te (cb N [d]) M (bI M R)) :
  codeAny (model P w) A (.call (.ref f) ⟨[u],[]⟩) (CR CX0 outer P w H s (λv' H'=>VQ K ρ H R v' H') E0) s:=by
 have lim:s.heap.NoLimit:=e0.mod.nolimit.keeps λb o e=>(e0.bs b o e).1
 have hkind:∀y∈ps.zip [u],scope.names.lookup y.1=some .local\/(scope.names.lookup y.1=some .cell/\((cellsFrom (s.heap.objs.size+1) scope.names []).lookup y.1).isSome=true):=λ⟨n,v⟩ hy=>by
  rcases S.par n (AEO hy).1 with q | q
  ·exact .inl q
  ·exact .inr ⟨q,ADz _ _ _ (.inl q)⟩
 refine kla_callFunE hr.depth ho rfl S.co S.gen rfl hcd (hb _ _ _ _ ?_);refine wpAny_newFunctionEnv_cells S.kind hkind λenv he s1 x=>?_
 subst he;refine⟨lim.keeps x.toInCall.keep,kla_codeExpr ?_⟩;have I:Inv (rC CX0 P w K mg base N qual scope f (.ref c') A outer s H E0) [] (start N [v]) H s1:=qK S hr.hd e0 hl (.cons ru .nil) x;have dd:=PE.nox (der E0 (hr.deeper _));refine ABA (dd [] s1 (start N [v]) H (λv' H'=>VQ K ρ H (bI M R) v' H') I ⟨cb N [d],M,ρ,_,sm,SRep.start (.cons r .nil) N,hq,λ_ _ z=>z⟩) (λu' s' hs=>?_) λe s' hs=>hs
 obtain⟨v',H',J,rv,q⟩:=hs;exact⟨v',H',J.os,J.bare,J.base,J.hok,rv,VQ.endq sm q⟩
section
variable{X:Cx}{pins:List (Addr×Obj)}{σ:St}{H:Hp}{s:Shared}
def Inv.writeB(I:Inv X pins σ H s)(hH:H P=some (.tbl ps))(k:∀b u,b≠P->s.heap.get? b=some u->h'.get? b=some u)(hP:h'.get? P=some (tabObj (ps++more))):Inv X pins σ (upd H P (.tbl (ps++more))) { s with heap:=h',toks:=t' }:=by
 have nn:∀b,H b=none->b≠P:=λb n z=>by rw[z,hH]at n;cases n
 have ne:∀b u,H b=some u->(∀q,u≠.tbl q)->b≠P:=λb u e q z=>by
  rw[z,hH]at e;exact q ps (AAR e).symm
 refine I.un ⟨λb u q n _ _=>k b u (nn b n) q,λb u q n _ _=>⟨u.slots,k b u (nn b n) q⟩,λb u q n _=>by rw[af (nn b n)];exact n,λb u q _=>?_,λb xs q=>by rw[af (ne b _ q λ_ z=>by cases z)];exact q,λb u xs q=>by rw[af (ne b _ q λ_ z=>by cases z)];exact q,λb qs q=>?_⟩ λb u q=>?_
 ·by_cases hb:b=P
  ·subst hb;exact⟨_,hP⟩
  ·exact⟨u,k b u hb q⟩
 ·by_cases hb:b=P
  ·subst hb
   rw[hH]at q;cases q
   exact⟨more,aA⟩
  ·exact⟨#[],by rw[af hb,q];simp⟩
 ·by_cases hb:b=P
  ·subst hb
   rw[aA]at q;cases q
   exact hP
  ·rw[af hb]at q
   refine(I.hok b u q).stay (λc v hc r=>k c v ?_ r) (λc r=>by rw[af (ne c _ r λ_ z=>by cases z)];exact r) λc xs r=>by rw[af (ne c _ r λ_ z=>by cases z)];exact r
   rcases hc with rfl | hc
   ·exact hb
   ·exact ne c _ hc λ_ z=>by cases z
def Ay(I:Inv X pins σ H s)(hH:H P=some (.tbl #[]))(C:∀h:Heap,X.K.In h->CodeHd h c P)(hcode:X.env.code=.ref c)(B:BMain X.mg X.base)
  (hcl:closureFor scope X.env=pure []) (hdef:defaultsOf params X.env=([],[]))
  (h:∀f c' oc vs t ctv ps' s',Inv X ((f,kla_obj "<lambda>" (X.env.qual ++ "<lambda>") params body scope [] ((X.mg "__name__").getD .none) c' ctv)::(c',oc)::pins) σ (upd H P (.tbl ps')) s'->oc.data=.fields vs->vs[1]?=some (.str (X.env.qual ++ "<lambda>") t)->Q (.ref f) s') :
  wpAny (model X.prog X.w) A (eval (.Lambda params body scope pos) X.env) Q E s:=by
 have hP:s.heap.get? P=some (tabObj #[]):=I.hok P _ hH;have hg:s.heap.Ns mainGlobals X.mg:=I.mod.glob.keeps I.bk;have nP:∀b o,X.base.get? b=some o->b≠P:=λb o e z=>by
  have:=(I.bs b o e).2;rw[z,hH]at this;cases this
 obtain⟨bm,ob,b1,b2,b3,b4,b5⟩:=B;have hgP:mainGlobals≠P:=by
  obtain⟨o,es,ep,e,_⟩:=I.mod.glob;exact nP _ _ e
 refine kla_eval hdef (kla_makeFunction hcl I.ok.glob hg hcode (C _ I.kIn) hP trivial rfl hgP ⟨bm,ob,b1,b2,b3,nP _ _ b4,I.bk _ _ b4,b5⟩ λc' ctv h' tk hx hge hlt hrec htb=>?_)
 obtain⟨c2,oc,vs,t,e2,hoc,hd,hv⟩:=hrec;cases e2
 have Pn:P≠h'.objs.size:=λz=>by rw[z]at htb;exact absurd (AAG htb) (AAn _)
 have hs:s.heap.objs.size<=h'.objs.size:=AB3 hge (ACN hlt);have J:Inv X pins σ (upd H P (.tbl (#[] ++ #[rawInt pos.line,rawInt pos.col,.ref c']))) { s with heap:=h'.push (kla_obj "<lambda>" (X.env.qual ++ "<lambda>") params body scope [] ((X.mg "__name__").getD .none) c' ctv),toks:=tk }:=by
  exact I.writeB hH (λb u hb e=>AA3 _ (hx b u hb e)) (AA3 _ htb)
 have fresh:∀b,s.heap.objs.size<=b->b≠P->upd H P (.tbl (#[] ++ #[rawInt pos.line,rawInt pos.col,.ref c'])) b=none/\b≠X.env.locals/\b∉X.fs:=λb hb hn=>by
  refine⟨by rw[af hn];exact I.hok.fresh hb,λz=>?_,I.nofs hb⟩
  rw[z]at hb;exact absurd (AAd I.lt hb) (AAn _)
 have cP:c'≠P:=λz=>by
  rw[z]at hge;exact absurd (AAd (AAG hP) hge) (AAn _)
 refine h h'.objs.size c' oc vs t ctv _ _ (J.pins_of λp hp=>?_) hd hv
 rcases AAJ.mp hp with rfl | hp
 ·obtain⟨a1,a2,a3⟩:=fresh h'.objs.size hs (ABO Pn)
  exact⟨AAC _ rfl,a1,a2,a3,λv z=>by cases z⟩
 rcases AAJ.mp hp with rfl | hp
 ·obtain⟨a1,a2,a3⟩:=fresh c' hge cP
  exact⟨AA3 _ hoc,a1,a2,a3,λv z=>by rw[hd]at z;cases z⟩
 ·exact J.pin p (AAB _ hp)
end
def lamB(sc:Scope)(y:Str):Bool:=decide (sc.kind=.function) && !sc.isCoroutine && !sc.isGenerator&&decide (sc.names.lookup y=some .local)&&sc.names.all λp=>decide (p.2≠.free)
def qE(h:lamB sc y=true):FnScope [y] [y] sc:=by
 simp only[lamB,AAY,decide_eq_true_eq,Bool.not_eq_true',AAh]at h;obtain⟨⟨⟨⟨h1,h2⟩,h3⟩,h4⟩,h5⟩:=h;refine⟨h1,h2,h3,ABH.mpr ⟨ABz,AD5⟩,rfl,λx hx=>?_,λp hp=>h5 p hp⟩
 obtain rfl:x=y:=by simpa using hx
 exact .inl h4
def jO(x:Str)(N:List Str)(te:DTE)(t:DTA):DTE:=λS M Q=>t S M λds M1=>match ds with
 | [y]=>∃q xs key,M1[q]?=some (.tb x false)/\(y=.tup xs\/∃n,y=.ref n/\ak (M1.set q (.tb x true)) n xs)/\(∀d∈xs,te (cb N [d]) (M1.set q (.tb x true)) (bI (M1.set q (.tb x true)) λz M'=>z=key d/\M'=M1.set q (.tb x true)))/\SrtG (M1.set q (.tb x true)) (xs.map key) /\
   ∀ys,ys.Perm xs->ys.Pairwise (λa b=>ltD (M1.set q (.tb x true)) eqN (key b) (key a)=false)->Q (.ref M1.length) (M1.set q (.tb x true)++[.lst ys])
 | _=>False
def qI(Sf:Self X x)(B:BMain X.mg X.base)(hr:Room (k+3) X.A)(he:HA X [e] t)(hm:X.mg "sorted" = none)
  (der:∀(s:Shared) (H:Hp) (f:Addr) (cdv:Value) (A:Around) (outer:List Env) (E:XK),Room k (A.deeper (envOfC (X.env.qual ++ "<lambda>") scope s.heap.objs.size f cdv))->HE (rC CX0 X.prog X.w X.K X.mg X.base [y] (X.env.qual ++ "<lambda>") scope f cdv A outer s H E).nox body te)
  (Sc:FnScope [y] [y] scope) (hcl:closureFor scope X.env=pure []) (hdef:defaultsOf params X.env=([],[]))
  (hb:∀(pm ctv:Value) (c':Addr) (u:Value),bindArgs (kla_fn "<lambda>" (X.env.qual ++ "<lambda>") params body scope [] pm (.ref c') ctv) ⟨[u],[]⟩=pure [(y,u)])
  (hg1:X.env.kindOf "sorted" = some .globalImplicit:=by kernel_rfl) (hs:starEach [e] X.env=[(false,eval e X.env)]:=by kernel_rfl) :
  HE X (.Call (.Name "sorted" p) [e] [⟨some "key",.Lambda params body scope lpos,kpos⟩] pos) (jO x [y] te t):=by
 refine⟨λpins s σ H R I h=>?_⟩
 obtain⟨S,M,ρ,Q,sm,sr,q,kk⟩:=h;refine ACF (gF I hg1 hm rN ?_ (by decide) (by decide))
 unfold jO at q;refine callWith_kw (thn (he.ok pos pins s σ H (λvs H1=>AQ X.K ρ H _ vs H1) I ⟨S,M,ρ,_,sm,sr,q,λ_ _ z=>z⟩) λus s1 ⟨vs,H1,I1,r1,q1⟩=>?_) (by rw[hs];rfl) (by rw[hs];rfl)
 obtain⟨ds,M1,ρ1,sm1,g1,rs,q1⟩:=q1;split at q1
 ·rename_i y0
  obtain⟨qn,xs,key,hq,hx,hP,so,fin⟩:=q1;obtain⟨v1,_,rfl,rx,rs⟩:=Reps.inv_cons rs;obtain rfl:=Reps.inv_nil rs;obtain⟨u,rfl,ru⟩:=au.one r1;obtain⟨Pa,ep,mo⟩:=sm1.get hq;obtain⟨⟨c,tc,C⟩,ps,hH,h0⟩:=mo;obtain rfl:=h0 rfl;refine kws_cons (Ay I1 hH C (Sf.code I1 tc) B hcl hdef λf c' oc vs t' ctv ps' s2 I2 hd hv=>kws_nil ?_)
  obtain⟨sm2,g2⟩:=sm1.writeB (ps':=ps') ep hq hH;show wpAny _ _ (call (.builtin "sorted") [u] [(AA1 "key",.ref f)]) _ _ _;have l64:=so.len;rw[AA4]at l64;have hr2:Room (k+1+2) X.A:=hr;generalize upd H1 Pa (.tbl ps')=H2 at sm2 g2 I2;have ml:(M1.set qn (.tb x true)).length=M1.length:=AB1 ..;generalize M1.set qn (.tb x true)=M2 at sm2 hP so fin hx ml;have G:KeyG X ((f,kla_obj "<lambda>" (X.env.qual ++ "<lambda>") params body scope [] ((X.mg "__name__").getD .none) c' ctv)::(c',oc)::pins) σ ρ1 M2 f key xs:=λs H d v u hm I sm r ru=>by
   have p1:=(I.pin _ (AAB _ AAI)).1;have p2:=(I.pin (c',oc) (AAB _ (AA9 _ AAI))).1;exact DN (k:=k) I.env0.in1.in1 p1 ⟨c',oc,vs,t',rfl,p2,hd,hv⟩ Sc (Room.in1 (k:=k+2) hr2).in1 (.of_eq (hb _ _ _ _)) rfl (λE hr=>(der s H f _ _ _ E hr).ok) sm r ru (hP d hm)
  have back:∀{v:Value}{s':Shared},EP X ((f,kla_obj "<lambda>" (X.env.qual ++ "<lambda>") params body scope [] ((X.mg "__name__").getD .none) c' ctv)::(c',oc)::pins) σ R v s'->EP X pins σ R v s':=λ{v s'} ⟨v',H',J,rv,q⟩=>⟨v',H',J.pins_of λp hp=>J.pin p (AAB _ (AA9 _ (AA9 _ hp))),rv,q⟩
  have fin':∀ys,ys.Perm xs->ys.Pairwise (λa b=>ltD M2 eqN (key b) (key a)=false)->Q (.ref M2.length) (M2++[.lst ys]):=λys h1 h2=>by rw[ml];exact fin ys h1 h2
  rcases hx with rfl | ⟨n,rfl,hL⟩
  ·obtain⟨a,vs,rfl,hq',r⟩:=Rep.inv_tup (rx.grow g2)
   cases ru
   obtain⟨its,rr,⟨o,ho,hc,n,hd'⟩,_⟩:=I2.tuple hq';have h1:=r.length;have h2:=rr.length;exact ABA (ug G hr2 I2 sm2 r rr ho (.inr hc) hd' (by lia) so λv H' z=>kk v H' (VQ.trans g1 (VQ.trans g2 (z Q fin')))) (λ_ _ z=>back z) λ_ _ z=>z
  ·obtain⟨a,rfl,en⟩:=Rep.inv_ref rx
   cases ru
   obtain⟨vs,hq',r⟩:=ak.seq sm2 hL en;obtain⟨its,rr,⟨o,n,ho,hc,_,hd'⟩,_⟩:=I2.list hq';have h1:=r.length;have h2:=rr.length;exact ABA (ug G hr2 I2 sm2 r rr ho (.inl hc) hd' (by lia) so λv H' z=>kk v H' (VQ.trans g1 (VQ.trans g2 (z Q fin')))) (λ_ _ z=>back z) λ_ _ z=>z
 ·exact q1.elim
section
variable{P:Program}{w:World}{K:AA6}{mg:Str->Option Value}{base:Heap}{x:Str}{st:Stmt}{N ps:List Str}{k:Nat}{Pr:DSp}{B:List Str}{C:List (Str×Int)}{t:DTS}
abbrev DerL(P:Program)(w:World)(K:AA6)(mg:Str->Option Value)(base:Heap)(k:Nat)(x:Str)(N:List Str)(st:Stmt)(t:DTS):Prop :=
 ∀(f:Addr) (cdv:Value) (A:Around) (outer:List Env) (s:Shared) (H:Hp) (E:XK),Room k (A.deeper (PyProof.Rows.envOfC x (ap st) s.heap.objs.size f cdv))->Self (rC CX0 P w K mg base N x (ap st) f cdv A outer s H E).nox x->HB (rC CX0 P w K mg base N x (ap st) f cdv A outer s H E).nox (bE st) t
def Cal.byL(T:TopB mg B C)(F:cS K mg x st ps)(Sc:FnScope N ps (ap st))(len:du Pr ps)(der:TopB mg B C->N.Nodup->DerL P w K mg base k x N st t)(wp:∀ds M R,Pr ds M R->t (EE M R) (cb N ds) M):Cal P w K mg base (k+1) x ps Pr:=by
 obtain⟨f,fd,F1,hm,hb⟩:=F;refine⟨f,fd,?_,hm,F1.kp,hb⟩;obtain⟨oc,od,kV,doc,pm,an,cdv,ct,osl,rfl,lk,hcd⟩:=F1.ex;refine GZ lk hcd Sc (λvs H Q E ⟨ds,M,ρ,R,s,r,q,_⟩=>by rw[<-r.length];exact len ds M R q) λA outer s H vs Q E hr h=>?_
 obtain⟨ds,M,ρ,R,sm,r,q,kk⟩:=h;have ht:=der T Sc.nd f cdv A outer s H E hr ⟨f,oc,od,_,osl,hm,lk,rfl⟩;refine⟨lowS K t,PSs.nox ht.ok,cb N ds,M,ρ,_,sm,SRep.start r N,wp ds M R q,⟨λσ' H' ⟨S',M',ρ',s',g',sr',q'⟩=>?_,λv H' z=>kk v H' (VQ.endq sm z),λσ' H' ⟨S',M',ρ',s',g',sr',q'⟩=>q'.elim,λσ' H' ⟨S',M',ρ',s',g',sr',q'⟩=>q'.elim⟩⟩
 exact kk .non H' (VQ.endq sm ⟨.non,M',ρ',s',g',.non,q'⟩)
end
def vS(z:Str):DSp:=λds M R=>∃(ns:List Int) (mo:MO),ns.length<=63/\(mo.items=ns.map D.int/\mo.isL=true)/\ds=[.ref 0]/\M=[mo,.tb z false]/\∀M',R (.bl true) M'
def sK{K:AA6}{H:Hp}{a Pt c:Addr}{z:Str}{ns:List Int}(hl:ns.length<=63)(hS:SqL K H a (ns.map V.int))(hP:H Pt=some (.tbl #[]))(tc:tabIn K z=some (c,Pt))(C:∀h:Heap,K.In h->CodeHd h c Pt)(ne:a≠Pt):spL K (vS z) [.ref a] H (λv _=>v=.bl true) λ_ _ _=>False:=by
 have one:∀{mo:MO},mo.items=ns.map D.int/\mo.isL=true->wz K [a,Pt] H a mo->spL K (vS z) [.ref a] H (λv _=>v=.bl true) λ_ _ _=>False:=λ{mo} e ok=>by
  refine⟨[.ref 0],[mo,.tb z false],[a,Pt],λd _=>d=.bl true,⟨λn m b hne e1 e2=>?_,rfl,λn b mo' e1 e2=>?_⟩,.cons (.ref rfl) .nil,⟨ns,mo,hl,e,rfl,rfl,λ_=>rfl⟩,λv H' ⟨d,M',ρ',_,_,r,q⟩=>?_⟩
  ·match n,m,e1,e2 with
   | 0,0,_,_=>exact absurd rfl hne
   | 1,1,_,_=>exact absurd rfl hne
   | 0,1,e1,e2=>simp at e1 e2;exact absurd (e1.trans e2.symm) ne
   | 1,0,e1,e2=>simp at e1 e2;exact absurd (e2.trans e1.symm) ne
   | n+2,_,e1,_=>simp at e1
   | _,m+2,_,e2=>simp at e2
  ·match n,e1,e2 with
   | 0,e1,e2 =>
    simp at e1 e2;subst e1 e2;exact ok
   | 1,e1,e2 =>
    simp at e1 e2;subst e1 e2;exact⟨⟨c,tc,C⟩,#[],hP,λ_=>rfl⟩
   | n+2,e1,_=>simp at e1
  ·have q':d=.bl true:=q
   subst q';obtain rfl:=Rep.inv_bl r;rfl
 rcases hS with(h | ⟨o,h⟩) | h
 ·exact one (mo:=.lst _) ⟨rfl,rfl⟩ ⟨_,h,ir ns⟩
 ·exact one (mo:=.fz _) ⟨rfl,rfl⟩ ⟨o,_,h,ir ns⟩
 ·exact one (mo:=.kl _) ⟨rfl,rfl⟩ ⟨_,h,ir ns⟩
def yd{P:Program}{w:World}{K:AA6}{mg mb:Str->Option Value}{k:Nat}{fa a Pt:Addr}{fd:FuncData}{x:Str}{sp:Sp}{s₁:Shared}{vs:List Value}{ns:List Int}
  (KX:K.In s₁.heap) (hns:s₁.heap.Ns mainGlobals mg) (hb:s₁.heap.Ns builtinsNs mb) (hbb:∀x:Str,x≠"__name__"->mb x=bootBuiltins x) (hlim:s₁.heap.NoLimit) (hg:s₁.gens = #[])
  (ha:s₁.heap.get? a=some { cls:=.type "list",data:=.seq vs.toArray }) (hi:IntsAre vs ns) (hl:ns.length<=sizeLine) (hr:Room k callerA) (nt:noTabs K=true) (hP:s₁.heap.get? Pt=some (tabObj #[])) (isT:isCodeTable s₁.heap Pt) (BM:BMain mg s₁.heap)
  (F:∀base:Heap,K.In base->base.Ns mainGlobals mg->BMain mg base->FnOk P w K mg base CX0 k fa fd [x] sp) (hbind:∀(s:Shared) (u:Value),BindsTo s fd ⟨[u],[]⟩ [(x,u)])
  (hsp:∀H:Hp,SqL K H a (ns.map V.int)->H Pt=some (.tbl #[])->sp [.ref a] H (λv _=>v=.bl true) λ_ _ _=>False) :
  codeAny (model P w) callerA (.call (.ref fa) ⟨[.ref a],[]⟩) (λr s'=>r=.ok (.ret (.bool true))/\OldK s₁.heap s'.heap/\s'.os=s₁.os/\AllBare s'.gens) s₁:=by
 have rv:=pf hi;have lenV:=hi.length;have aP:a≠Pt:=λe=>by rw[e,hP]at ha;cases ha
 have core:∀H:Hp,(∀b,b≠Pt->H b=none\/∃o xs,H b=some (.frz o (.lst xs)))->SqL K H a (ns.map V.int)->H Pt=some (.tbl #[])->HOk P w H s₁.heap->(∀b,H b≠none->b=a\/b=Pt)->(H a≠none->K.lookup a=none) ->
   codeAny (model P w) callerA (.call (.ref fa) ⟨[.ref a],[]⟩) (λr s'=>r=.ok (.ret (.bool true))/\OldK s₁.heap s'.heap/\s'.os=s₁.os/\AllBare s'.gens) s₁:=by
  intro H hO hS hT hok hA hK;have base_of:∀{b:Addr}{o:Obj},s₁.heap.get? b=some o->H b=none->(zA s₁.heap H).get? b=some o:=λe n=>AK e n
  have noA:∀{b:Addr}{o:Obj},s₁.heap.get? b=some o->o.cls≠.type "list"\/(∀v n,o.data≠.seq v n)->o≠tabObj #[]->H b=none:=λ{b o} e d1 d2=>by
   cases q:H b with
   | none=>rfl
   | some u =>
    rcases hA b (by rw[q];simp)with e' | e'
    ·subst e'
     rw[ha]at e;cases e;rcases d1 with d1 | d1
     ·exact absurd rfl d1
     ·exact absurd rfl (d1 _ _)
    ·subst e'
     rw[hP]at e;cases e;exact absurd rfl d2
  have nsK:∀{b:Addr}{m:Str->Option Value},s₁.heap.Ns b m->(zA s₁.heap H).Ns b m:=λ{b m} ⟨o,es,ep,e,d,r⟩=>⟨o,es,ep,base_of e (noA e (.inr λv n z=>by rw[d]at z;cases z) λz=>by rw[z]at d;cases d),d,r⟩
  have hKb:K.In (zA s₁.heap H):=λb o e=>base_of (KX b o e) (by
   cases q:H b with
   | none=>rfl
   | some u =>
    rcases hA b (by rw[q];simp)with e' | e'
    ·subst e'
     rw[hK (by rw[q];simp)]at e;cases e
    ·subst e'
     have h2:=AAh.mp nt (b,o) (mem_of_lookupK e);have h3:=KX b o e;rw[hP]at h3;cases h3
     exact absurd (show false=true from h2) ABB)
  have hM:Mod K mg (zA s₁.heap H):=⟨hKb,nsK hns,⟨mb,nsK hb,hbb⟩,let ⟨mc,h1,h2⟩:=hlim;⟨mc,nsK h1,h2⟩⟩
  have e0:Env0 P w K mg (zA s₁.heap H) callerA [] s₁ H:=⟨rfl,hM,λb o e=>Ds e,Nat.le_of_eq (yJ _ _),trivial,λb hb=>absurd (show b∈([]:List Addr)from hb) (by simp),hok,.of_eq hg⟩
  have bm:BMain mg (zA s₁.heap H):=by
   obtain⟨bm,ob,b1,b2,b3,b4,b5,b6⟩:=BM;exact⟨bm,ob,b1,b2,b3,base_of b4 (noA b4 (.inl λz=>by rw[z]at b5;injection b5 with h;exact absurd h (by decide)) λz=>by rw[z]at b5;cases b5),b5,b6⟩
  refine ADf ((F _ hKb (nsK hns) bm).run callerA [] s₁ H ⟨[.ref a],[]⟩ [.ref a] [.ref a] _ _ hr e0 (hbind s₁ (.ref a)) (.cons rfl .nil) (hsp H hS hT)) λr s' h=>?_
  cases r with
  | error e=>exact h.elim
  | ok fl =>
   cases fl with
   | next=>exact AD2 h
   | brk=>exact AD2 h
   | cont=>exact AD2 h
   | ret u =>
    obtain⟨v,H',os,bare,un,hok',r',q⟩:=h;have q':v=.bl true:=q;subst q';obtain rfl:u=Value.bool true:=r';obtain⟨more,hT'⟩:=un.tbls Pt _ hT;have hP':s'.heap.get? Pt=some (tabObj (#[]++more)):=hok' Pt _ hT';have old:∀b o,b≠Pt->s₁.heap.get? b=some o->s'.heap.get? b=some o:=λb o hb e=>by
     cases q:H b with
     | none=>exact un.keep b o e q (by intro z;exact absurd (show b∈([]:List Addr)from z) (by simp)) (by simp)
     | some u =>
      rcases hO b hb with z | ⟨ob,xs,z⟩
      ·rw[q]at z;cases z
      ·have z2:=un.frzs b ob _ z
       obtain⟨e1,_⟩:=hok b _ z;obtain⟨e2,_⟩:=hok' b _ z2;rw[e]at e1;cases e1;exact e2
    refine⟨rfl,⟨λb o e=>?_,λb o e=>?_⟩,os,bare⟩
    ·by_cases hb:b=Pt
     ·subst hb
      rw[hP]at e;cases e;exact .inr (.inl ⟨isT,rfl,#[],more,rfl,hP'⟩)
     ·exact .inl (old b o hb e)
    ·by_cases hb:b=Pt
     ·subst hb;exact⟨_,hP'⟩
     ·exact⟨o,old b o hb e⟩
 cases hk:K.lookup a with
 | some o =>
  have e:=KX a o hk;rw[ha]at e;cases e
  refine core (upd (λ_=>none) Pt (.tbl #[])) (λb hb=>.inl (af hb)) (.inr ⟨_,vs.toArray,_,hk,rfl,rfl,rfl,by rw[AAD,lenV];exact hl,by simpa using rv⟩) aA (λb u z=>?_) (λb z=>?_) λz=>absurd (af aP) z
  ·by_cases hb:b=Pt
   ·subst hb
    rw[aA]at z;cases z
    exact hP
   ·rw[af hb]at z
    cases z
  ·by_cases hb:b=Pt
   ·exact .inr hb
   ·exact absurd (af hb) z
 | none =>
  refine core (upd (λb=>if b=a then some (.frz { cls:=.type "list",data:=.seq vs.toArray } (.lst (ns.map V.int)))else none) Pt (.tbl #[])) (λb hp=>?_) (.inl (.inr ⟨{ cls:=.type "list",data:=.seq vs.toArray },(af aP).trans (if_pos rfl)⟩)) aA (λb u z=>?_) (λb z=>?_) λ_=>hk
  ·rw[af hp]
   by_cases hb:b=a
   ·exact .inr ⟨_,_,if_pos hb⟩
   ·exact .inl (if_neg hb)
  ·by_cases hp:b=Pt
   ·subst hp
    rw[aA]at z;cases z
    exact hP
   rw[af hp]at z;by_cases hb:b=a
   ·have z':=(if_pos hb).symm.trans z
    cases z'
    subst hb;exact⟨ha,by rw[AA4];exact hl,vs,_,rv,ha⟩
   ·have z':=(if_neg hb).symm.trans z
    cases z'
  ·by_cases hp:b=Pt
   ·exact .inr hp
   rw[af hp]at z;by_cases hb:b=a
   ·exact .inl hb
   ·exact absurd (if_neg hb) z
def zK{K:AA6}{x:Str}{c P:Addr}(h:tabIn K x=some (c,P)):∃o,K.lookup c=some o:=by
 unfold tabIn at h;split at h
 ·split at h
  ·split at h
   ·rename_i c' _
    split at h
    ·rename_i e
     split at h
     ·cases h;exact⟨_,e⟩
     ·cases h
    ·cases h
   ·cases h
  ·cases h
 ·cases h
theorem law_walkL{l:PySem.W.OpenLaw}{q:Program}{loose:List Str}{XP:(Str->Option Value)->Heap->Prop}{YP:World->Heap->Prop}{d dz:DefRec}{K:Params->AA6}{k:Nat}{st:Stmt}{x z:Str}{cz Pz:Params->Addr}(hn:l.most=some 63)(hdf:d.params.defaults=[])(hd:d.name = "law")(hr:Room k callerA)
  (hY:∀(w:World) (h:Heap),YP w h->(K w.params).In h) (nt:∀p,noTabs (K p)=true) (hz:(recsOf q).find? (λe=>e.name==z)=some dz) (tz:∀p,tabIn (K p) z=some (cz p,Pz p))
  (F:∀(w:World) (mg:Str->Option Value) (h:Heap),(K w.params).In h->h.Ns mainGlobals mg->cS (K w.params) mg "law" st [x] /\
   ∀(base:Heap) (f:Addr) (fd:FuncData),BMain mg base->Fun (K w.params) "law" "law" st f fd->FnOk l.prog w (K w.params) mg base CX0 k f fd [x] (spL (K w.params) (vS z)))
  (hb:∀(kV doc pm:Value) (an:Option Addr) (cdv ct:Value) (u:Value),bindArgs (ACr "law" "law" (gZ st) (bE st) (ap st) .none kV doc pm an cdv ct) ⟨[u],[]⟩=pure [(x,u)]) :
  PySem.W.WalkO q loose XP YP l.row.toRowW d [] (λf vs=>PySem.call f vs):=by
 refine Att.attach_call hn hdf λw s₀ s₁ mg mb fa o pm cd doc a vs ns G Y ho hdd hcd hmg hobj hints hlen hg=>?_
 have KX:=hY w _ Y;rw[hd]at hmg;obtain⟨⟨f,fd,F1,hm,_⟩,C⟩:=F w mg _ KX G.T.g;have e:=hmg.symm.trans hm;cases e
 obtain⟨CH,hP⟩:=tab_of G.T KX hz (tz w.params);obtain⟨oc',hlc⟩:=zK (tz w.params);have CK:∀h:Heap,(K w.params).In h->CodeHd h (cz w.params) (Pz w.params):=λh X=>by
  obtain⟨o2,vs2,file,tf,flags,tg,inF,text,tt,e1,r⟩:=CH;have e2:=KX _ _ hlc;rw[e1]at e2;cases e2
  exact⟨_,vs2,file,tf,flags,tg,inF,text,tt,X _ _ hlc,r⟩
 have bmn:BMain mg s₁.heap:=by
  obtain⟨bm,ob,b1,b2,b3,b4,b5,b6⟩:=G.T.bmain;refine⟨bm,ob,b1,b2,λz=>?_,b3,b4,b5,b6⟩
  obtain⟨og,es,ep,eg,dg,_⟩:=G.T.g;rw[z,eg]at b3;cases b3
  rw[dg]at b6;cases b6
 have aP:a≠Pz w.params:=λe=>by rw[e,hP]at hobj;cases hobj
 obtain⟨oc,od,kV,doc',pm',an,cdv,ct,osl,rfl,lk,hcd'⟩:=id F1.ex;exact yd KX G.T.g G.T.b G.T.builtins G.T.nolimit hg hobj hints (AB3 hlen (by decide)) hr (nt _) hP (CH.tab hP).isCodeTable bmn (λbase _ _ B=>C base _ _ B F1) (λs v=>.of_eq (hb kV doc' pm' an cdv ct v)) λH hS hT=>sK hlen hS hT (tz w.params) CK aP
end L2
namespace L2
open PySem PySem.Spec PyProof.Rows DL
def GtAt(A:Around)(s:Shared)(x y:Value)(k:Bool):Prop:=∀(prog:Program) (w:World) (E:Value->Shared->Prop) (Q:Value->Shared->Prop),Q (.bool k) s->wpAny (model prog w) A (richCompare .Gt x y) Q E s
inductive GexAt(A:Around)(s:Shared):List Value->List Value->Bool->Prop
 | nn:GexAt A s [] [] false
 | nc {y:Value}{ys:List Value}:GexAt A s [] (y::ys) false
 | cn {x:Value}{xs:List Value}:GexAt A s (x::xs) [] true
 | eq {x y:Value}{xs ys:List Value}{k:Bool} (h:ACP A s x y true) (t:GexAt A s xs ys k):GexAt A s (x::xs) (y::ys) k
 | ne {x y:Value}{xs ys:List Value}{k:Bool} (h:ACP A s x y false) (t:GtAt A s x y k):GexAt A s (x::xs) (y::ys) k
section
variable{prog:Program}{w:World}{A:Around}{E:Value->Shared->Prop}{s:Shared}{d:Addr}{o:Obj}{es:Array DictEntry}{ep:Nat}{xs:List (D×Value×Value)}{k:D}{key:Value}{hs:D->Int}{Q:Option Nat->Shared->Prop}
def lg(he:es.toList=xs.map (oO hs))(j:Nat):es[j]?=(xs[j]?).map (oO hs):=by
 rw[<-AAS,he,AAV]
def zv(xs:List (D×Value×Value))(k:D)(i:Nat)(hit:Option Nat):Prop:=(hit=none/\∀j p,j<i->xs[j]?≠some (k,p))\/∃j p,hit=some j/\j<i/\xs[j]?=some (k,p)
def pM(es:Array DictEntry)(h:Int)(i:Nat):Bool:=(es[i]?.map (·.hash))==some h
def ia(he:es.toList=xs.map (oO hs))(hskip:∀j,i<=j->j<x->pM es (hs k) j=false)(h:zv xs k i hit)(hix:i<=x):zv xs k x hit:=by
 rcases h with⟨h0,hno⟩|⟨j,p,h1,hji,hj⟩
 ·refine .inl ⟨h0,λj p hjx hj=>?_⟩
  rcases ABd j i with h | h
  ·exact hno j p h hj
  ·have:=hskip j h hjx
   unfold pM at this;rw[lg he j,hj]at this;simp[oO]at this
 ·exact .inr ⟨j,p,h1,by lia,hj⟩
def bF(h:zv xs k x hit)(hx:xs[x]?=some (k',p'))(hne:¬k'=k):zv xs k (x+1) hit:=by
 rcases h with⟨h0,hno⟩|⟨j,p,h1,hjx,hj⟩
 ·refine .inl ⟨h0,λj p hjx hj=>?_⟩
  rcases ABd j x with h | h
  ·exact hno j p h hj
  ·obtain rfl:j=x:=by lia
   rw[hx]at hj;exact hne (by injection hj with hj;injection hj)
 ·exact .inr ⟨j,p,h1,by lia,hj⟩
def dm(hn:(xs.map (·.1)).Nodup){i j:Nat}{p q:Value×Value}(hi:xs[i]?=some (k,p))(hj:xs[j]?=some (k,q)):i=j:=by
 have hi':(xs.map (·.1))[i]?=some k:=by rw[AAV,hi];rfl
 have hj':(xs.map (·.1))[j]?=some k:=by rw[AAV,hj];rfl
 exact(List.getElem?_inj (AA7.mp hi').1 hn).mp (hi'.trans hj'.symm)
def nA(he:es.toList=xs.map (oO hs))(hr:(AEA i (es.size-i)).filter (pM es (hs k))=[])(h:zv xs k i hit):zv xs k xs.length hit:=by
 have hsz:es.size=xs.length:=by rw[<-AAL,he,AA4]
 rcases ABd i xs.length with hi | hi
 ·refine ia he (λj h1 h2=>?_) h (ACN hi)
  have:=List.filter_eq_nil_iff.mp hr j (List.mem_range'_1.mpr ⟨h1,by lia⟩)
  simpa using this
 ·rcases h with⟨h0,hno⟩|⟨j,p,h1,hji,hj⟩
  ·exact .inl ⟨h0,λj p hj=>hno j p (by lia)⟩
  ·exact .inr ⟨j,p,h1,(AA7.mp hj).1,hj⟩
def ma{stored:List Value}{Q:Bool->Shared->Prop}(qk:∀(Q:Bool->Shared->Prop) (E:Value->Shared->Prop),Q true s->wpAny (model prog w) A (eqIsQuiet 8 key) Q E s)
  (qs:∀v∈stored,∀(Q:Bool->Shared->Prop) (E:Value->Shared->Prop),Q true s->wpAny (model prog w) A (eqIsQuiet 8 v) Q E s) (h:Q false s):wpAny (model prog w) A (tableMayTell key stored) Q E s:=by
 unfold tableMayTell;split
 ·exact AA2 h
 ·refine AA0 (qk _ _ ?_)
  simp only[ABv,AAE,if_false];refine AA0 ?_
  refine ABP _ (λaJ r s'=>s'=s/\r=(none,())/\∀v∈aJ,v∈stored) _ ?_ ?_ _ _ ⟨rfl,rfl,λ_ hv=>hv⟩
  ·rintro x aJ r s' ⟨rfl,rfl,hr⟩
   refine AA0 (qs x (hr x AAI) _ _ ?_);simp only[ABv,AAE,if_false];exact AA2 ⟨rfl,rfl,λv hv=>hr v (AA9 _ hv)⟩
  ·rintro r s' ⟨rfl,rfl,_⟩
   exact AA2 h
def AO(ho:s.heap.get? d=some o)(hd:o.data=.dict es ep)(he:es.toList=xs.map (oO hs))(hn:(xs.map (·.1)).Nodup)(kk:key=.none\/∃a,key=.ref a)
  (qk:∀(Q:Bool->Shared->Prop) (E:Value->Shared->Prop),Q true s->wpAny (model prog w) A (eqIsQuiet 8 key) Q E s)
  (qx:∀x∈xs,∀(Q:Bool->Shared->Prop) (E:Value->Shared->Prop),Q true s->wpAny (model prog w) A (eqIsQuiet 8 x.2.1) Q E s)
  (inj:∀x∈xs,x.2.1=key->x.1=k)
  (eq:∀x∈xs,∀(Q:Bool->Shared->Prop) (E:Value->Shared->Prop),Q (decide (x.1=k)) s->wpAny (model prog w) A (eqBool x.2.1 key) Q E s)
  (hnone:(∀(j:Nat) (p:Value×Value),xs[j]?≠some (k,p))->Q none s) (hsome:∀(j:Nat) (p:Value×Value),xs[j]?=some (k,p)->Q (some j) s) :
  wpAny (model prog w) A (dictFind d key (hs k)) Q E s:=by
 have hsz:es.size=xs.length:=by rw[<-AAL,he,AA4]
 have hmem:∀e∈es,∃x∈xs,e=oO hs x:=by
  intro e hin;have:e∈xs.map (oO hs):=he ▸ Array.mem_toList_iff.mpr hin;obtain⟨x,hx,rfl⟩:=AAK.mp this;exact⟨x,hx,rfl⟩
 have hany:¬(es.any λe=>e.key==key&&e.hash != hs k)=true:=by
  rw[<-Array.any_toList,List.any_eq_true];rintro⟨e,hin,hc⟩;obtain⟨x,hx,rfl⟩:=hmem e (Array.mem_toList_iff.mp hin);simp only[oO,AAY,beq_iff_eq,bne_iff_ne,ne_eq]at hc;exact hc.2 (by rw[inj x hx hc.1])
 have hst:∀v∈(placesWithHash es.size (λi=>es[i]?.map (·.hash)) (hs k)).filterMap (λi=>es[i]?.map (·.key)),∃x∈xs,v=x.2.1:=by
  intro v hv;obtain⟨i,_,hi⟩:=ADk.mp hv;cases hei:es[i]? with
  | none=>rw[hei]at hi;cases hi
  | some e =>
   rw[hei]at hi;obtain rfl:e.key=v:=by simpa using hi
   obtain⟨x,hx,rfl⟩:=hmem e (Array.mem_of_getElem? hei);exact⟨x,hx,rfl⟩
 have fin:∀hit,zv xs k xs.length hit->Q hit s:=by
  rintro hit (⟨rfl,hno⟩|⟨j,p,rfl,_,hj⟩)
  ·exact hnone λj p hj=>hno j p (AA7.mp hj).1 hj
  ·exact hsome j p hj
 have start:placesWithHash es.size (λi=>es[i]?.map (·.hash)) (hs k)=(AEA 0 (es.size-0)).filter (pM es (hs k)):=by
  rw[placesWithHash,List.range_eq_range',Nat.sub_zero];rfl
 have up0:zv xs k 0 none:=.inl ⟨rfl,λ_ _ h=>absurd h (ABs _)⟩
 have turn:∀{x i:Nat}{aJ:List Nat},x::aJ=(AEA i (es.size-i)).filter (pM es (hs k))->i<=es.size->∃k' u v,xs[x]?=some (k',u,v)/\es[x]?=some ⟨hs k',u,v⟩/\i<=x/\x+1<=es.size/\aJ=(AEA (x+1) (es.size-(x+1))).filter (pM es (hs k))/\∀j,i<=j->j<x->pM es (hs k) j=false:=by
  intro x i aJ hr hi;obtain⟨hix,hxn,hpx,hskip,hrest⟩:=filter_range'_cons _ _ _ _ _ hr.symm;have hlt:x<es.size:=by lia
  obtain⟨⟨k',u,v⟩,hkv⟩:∃y,xs[x]?=some y:=⟨xs[x]'(by rw[<-hsz];exact hlt),AA5 _⟩
  exact⟨k',u,v,hkv,by rw[lg he x,hkv];rfl,hix,hlt,by rw[hrest];congr 2;lia,hskip⟩
 unfold dictFind
 try with_reducible refine AAZ ?_
 refine AA0 (ABR ho hd ?_);have qst:∀v∈(placesWithHash es.size (λi=>es[i]?.map (·.hash)) (hs k)).filterMap (λi=>es[i]?.map (·.key)),∀(Q:Bool->Shared->Prop) (E:Value->Shared->Prop),Q true s->wpAny (model prog w) A (eqIsQuiet 8 v) Q E s:=λv hv=>by
  obtain⟨x,hx,rfl⟩:=hst v hv;exact qx x hx
 rcases kk with rfl | ⟨a,rfl⟩
 ·dsimp only
  by_cases hall:((ABj::(placesWithHash es.size (λi=>es[i]?.map (·.hash)) (hs k)).filterMap (λi=>es[i]?.map (·.key))).all carriedByValue)=true
  ·rw[if_pos hall]
   unfold dictWalkPlain;refine AA0 ?_
   rw[start];refine ABP _ (λaJ b s'=>s'=s/\b=(none,())/\∃i,aJ=(AEA i (es.size-i)).filter (pM es (hs k))/\i<=es.size/\zv xs k i none) _ ?_ ?_ _ _ ⟨rfl,rfl,0,rfl,AAX _,up0⟩
   ·rintro x aJ b s' ⟨rfl,rfl,i,hr,hi,hH⟩
    obtain⟨k',u,v,hkv,hex,hix,hlt,hrest,hskip⟩:=turn hr hi;have hH:=ia he hskip hH hix;rw[hex];dsimp only;by_cases hh:(hs k'==hs k)=true
    ·rw[if_pos hh]
     refine AA0 (ABY ho hd (AA0 (eq _ (AAc hkv) _ _ (AA0 (ABY ho hd ?_)))));show wpAny _ _ (if (ep != ep)=true then _ else _) _ E _;rw[if_neg (by simp)]
     by_cases hkk:k'=k
     ·rw[dT_ hkk]
      subst hkk;rw[if_pos rfl];exact AA0 (ABU (AA2 (AA2 (hsome x _ hkv))))
     ·rw[dF_ hkk,if_neg (by decide)]
      exact AA0 (ABU (AA2 ⟨rfl,rfl,x+1,hrest,hlt,bF hH hkv hkk⟩))
    ·rw[if_neg hh]
     exact AA2 ⟨rfl,rfl,x+1,hrest,hlt,bF hH hkv λe=>hh (by rw[e];simp)⟩
   ·rintro b s' ⟨rfl,rfl,i,hr,hi,hH⟩
    exact AA2 (fin none (nA he hr.symm hH))
  ·rw[if_neg hall]
   by_cases hone:(((placesWithHash es.size (λi=>es[i]?.map (·.hash)) (hs k)).filterMap (λi=>es[i]?.map (·.key)))==[ABj])=true <;>
   (first | rw[if_pos hone] | rw[if_neg hone])<;>(first | refine AA0 (AA2 ?_) | refine AA0 (ma qk qst ?_))<;>(
    rw[if_neg (by simp)]
    refine AA0 ?_
    rw[start];refine ABP _ (λaJ b s'=>s'=s/\∃i hit,b=(none,hit)/\aJ=(AEA i (es.size-i)).filter (pM es (hs k))/\i<=es.size/\zv xs k i hit) _ ?_ ?_ _ _ ⟨rfl,0,none,rfl,rfl,AAX _,up0⟩
    ·rintro x aJ b s' ⟨rfl,i,hit,rfl,hr,hi,hH⟩
     obtain⟨k',u,v,hkv,hex,hix,hlt,hrest,hskip⟩:=turn hr hi;have hH:=ia he hskip hH hix;rw[hex];dsimp only;by_cases hh:(hs k'==hs k)=true
     ·rw[if_pos hh]
      refine AA0 (ABY ho hd (AA0 (eq _ (AAc hkv) _ _ (AA0 (ABY ho hd ?_)))));show wpAny _ _ (if (ep != ep)=true then _ else _) _ E _;rw[if_neg (by simp)]
      by_cases hkk:k'=k
      ·rw[dT_ hkk]
       subst hkk;rcases hH with⟨rfl,_⟩|⟨j,p,_,hjx,hj⟩
       ·first | rw[if_pos rfl] | skip
        simp only[Option.isSome_none,AAE,if_false];first | refine AA0 (AA2 ?_) | skip
        refine AA0 (ABU ?_);split
        ·exact AA2 (AA2 (hsome x _ hkv))
        ·exact AA2 ⟨rfl,x+1,some x,rfl,hrest,hlt,.inr ⟨x,_,rfl,AB0 x,hkv⟩⟩
       ·exact absurd (dm hn hj hkv) (by lia)
      ·rw[dF_ hkk]
       simp only[AAE,if_false];refine AA0 (ABU ?_);first | rw[if_neg (by simp)] | skip
       first
        | exact AA2 ⟨rfl,x+1,hit,rfl,hrest,hlt,bF hH hkv hkk⟩
        | exact AA0 (AA2 (AA2 ⟨rfl,x+1,hit,rfl,hrest,hlt,bF hH hkv hkk⟩))
     ·rw[if_neg hh]
      exact AA2 ⟨rfl,x+1,hit,rfl,hrest,hlt,bF hH hkv λe=>hh (by rw[e];simp)⟩
    ·rintro b s' ⟨rfl,i,hit,rfl,hr,hi,hH⟩
     have z:=fin hit (nA he hr.symm hH);exact AA2 z)
 ·dsimp only
  rw[if_neg (show ¬((AB6 a::(placesWithHash es.size (λi=>es[i]?.map (·.hash)) (hs k)).filterMap (λi=>es[i]?.map (·.key))).all carriedByValue)=true by simp[carriedByValue]),if_neg hany]
  by_cases hone:(((placesWithHash es.size (λi=>es[i]?.map (·.hash)) (hs k)).filterMap (λi=>es[i]?.map (·.key)))==[AB6 a])=true <;>
  (first | rw[if_pos hone] | rw[if_neg hone])<;>(first | refine AA0 (AA2 ?_) | refine AA0 (ma qk qst ?_))<;>(
   rw[if_neg (by simp)]
   refine AA0 ?_
   rw[start];refine ABP _ (λaJ b s'=>s'=s/\∃i hit,b=(none,hit)/\aJ=(AEA i (es.size-i)).filter (pM es (hs k))/\i<=es.size/\zv xs k i hit) _ ?_ ?_ _ _ ⟨rfl,0,none,rfl,rfl,AAX _,up0⟩
   ·rintro x aJ b s' ⟨rfl,i,hit,rfl,hr,hi,hH⟩
    obtain⟨k',u,v,hkv,hex,hix,hlt,hrest,hskip⟩:=turn hr hi;have hH:=ia he hskip hH hix;rw[hex];dsimp only;by_cases hh:(hs k'==hs k)=true
    ·rw[if_pos hh]
     refine AA0 (ABY ho hd (AA0 (eq _ (AAc hkv) _ _ (AA0 (ABY ho hd ?_)))));show wpAny _ _ (if (ep != ep)=true then _ else _) _ E _;rw[if_neg (by simp)]
     by_cases hkk:k'=k
     ·rw[dT_ hkk]
      subst hkk;rcases hH with⟨rfl,_⟩|⟨j,p,_,hjx,hj⟩
      ·first | rw[if_pos rfl] | skip
       simp only[Option.isSome_none,AAE,if_false];first | refine AA0 (AA2 ?_) | skip
       refine AA0 (ABU ?_);split
       ·exact AA2 (AA2 (hsome x _ hkv))
       ·exact AA2 ⟨rfl,x+1,some x,rfl,hrest,hlt,.inr ⟨x,_,rfl,AB0 x,hkv⟩⟩
      ·exact absurd (dm hn hj hkv) (by lia)
     ·rw[dF_ hkk]
      simp only[AAE,if_false];refine AA0 (ABU ?_);first | rw[if_neg (by simp)] | skip
      first
       | exact AA2 ⟨rfl,x+1,hit,rfl,hrest,hlt,bF hH hkv hkk⟩
       | exact AA0 (AA2 (AA2 ⟨rfl,x+1,hit,rfl,hrest,hlt,bF hH hkv hkk⟩))
    ·rw[if_neg hh]
     exact AA2 ⟨rfl,x+1,hit,rfl,hrest,hlt,bF hH hkv λe=>hh (by rw[e];simp)⟩
   ·rintro b s' ⟨rfl,i,hit,rfl,hr,hi,hH⟩
    have z:=fin hit (nA he hr.symm hH);exact AA2 z)
end
section
variable{X:Cx}{pins:List (Addr×Obj)}{σ:St}{H:Hp}{s:Shared}{ρ:List Addr}{M:Mem}{kvs:List (D×D)}{xs:List (D×Value×Value)}
def yu(h:oW d=true):okD M 8 d=true:=by
 cases d with
 | non=>rfl
 | tup ks=>exact oE 8 _ h
 | _=>cases h
theorem kU(I:Inv X pins σ H s)(r:Rep X.K ρ H k u)(e:aI u key)(hk:oW k=true):(k=.non/\key=.none)\/∃ks a,k=.tup ks/\key=.ref a/\eP s.heap 8 (.tup ks) (.ref a):=by
 cases k with
 | non=>obtain rfl:=Rep.inv_non r;exact .inl ⟨rfl,e⟩
 | tup ks =>
  have kat:=dE I 8 _ _ _ r e hk;obtain⟨a,its,rfl,h⟩:=id kat;exact .inr ⟨ks,a,rfl,rfl,kat⟩
 | _=>cases hk
def jM(I:Inv X pins σ H s)(hu:A.units+8<cLine)(r:Rep X.K ρ H k u)(e:aI u key)(hk:oW k=true)(h:∀tk,Q (hkM X.w k) { s with toks:=tk }):wpAny (model X.prog X.w) A (pyHash key) Q E s:=by
 rcases kU I r e hk with⟨rfl,rfl⟩|⟨ks,a,rfl,rfl,kat⟩
 ·exact PySem.W.pyHash_slot (T:="NoneType") rfl PySem.F.slot_NoneType_hash PySem.F.entry_NoneType_hash (PySem.F.args_NoneType_hash_1 _) (AEK _) (.inr (by lia)) (AA0 (AA2 (AA0 (wpAny_mkInt (AA2 ⟨_,_,rfl,h _⟩)))))
 ·exact mO 8 _ _ _ _ _ _ hu kat (h _)
def Ha(I:Inv X pins σ H s)(sm:Sim X.K ρ M H)(hu:A.units+8<cLine)(r:Rep X.K ρ H k u)(e:aI u key)(hk:oW k=true)(r':Rep X.K ρ H k' u')(e':aI u' key')(hk':oW k'=true) :
  ACP A s key key' (decide (k=k')):=by
 have h:=(jo I sm 8 A k k' _ _ _ _ hu r e r' e' (yu hk) (yu hk')).1;have q:eqD M 8 k k'=decide (k=k'):=by
  cases k with
  | non=>cases k' with
   | non=>rw[dT_ rfl];rfl
   | tup _=>rw[dF_ λz=>by cases z];rfl
   | _=>cases hk'
  | tup ks=>cases k' with
   | non=>rw[dF_ λz=>by cases z];rfl
   | tup ks'=>rw[Bool.eq_iff_iff,gU 8 _ _ hk hk',decide_eq_true_eq]
   | _=>cases hk'
  | _=>cases hk
 rw[q]at h;exact h
def pX(I:Inv X pins σ H s)(r:Rep X.K ρ H k u)(e:aI u key)(hk:oW k=true)(h:Q true s):wpAny (model X.prog X.w) A (eqIsQuiet 8 key) Q E s:=by
 rcases kU I r e hk with⟨rfl,rfl⟩|⟨ks,a,rfl,rfl,kat⟩
 ·exact AA2 h
 ·exact kW 8 8 _ _ _ _ _ _ (AA8 _) kat h
def Ad:∀{kvs:List (D×D)}{xs:List (D×Value×Value)}{x:D×Value×Value},Paired (KvM X.K ρ H) kvs xs->x∈xs->∃p∈kvs,KvM X.K ρ H p x
 | _,_,x,.cons q t,h=>by
  rcases AAJ.mp h with rfl | h
  ·exact⟨_,AAI,q⟩
  ·obtain⟨p,hp,z⟩:=Ad t h
   exact⟨p,AA9 _ hp,z⟩
def fP(r:Paired (KvM X.K ρ H) kvs xs):xs.map (·.1)=kvs.map (·.1):=by
 induction r with
 | nil=>rfl
 | cons h t ih=>rw[AAQ,AAQ,ih,h.1]
def fv(r:Paired (KvM X.K ρ H) kvs xs)(k:D):(aM kvs k=none/\∀(j:Nat) (p:Value×Value),xs[j]?≠some (k,p))\/∃(d:D) (v:V) (j:Nat) (u u':Value),aM kvs k=some d/\xs[j]?=some (k,u,u')/\Rep X.K ρ H d v/\aI v u':=by
 unfold aM;induction r with
 | nil=>exact .inl ⟨rfl,λj p z=>by simp at z⟩
 | @cons p q ps qs h t ih =>
  obtain⟨h1,_,_,v,h4,h5⟩:=h;rw[ABJ];by_cases e:p.1=k
  ·rw[dT_ e]
   exact .inr ⟨_,v,0,q.2.1,q.2.2,rfl,by rw[ACy,<-e,h1],h4,h5⟩
  ·rw[dF_ e]
   rcases ih with⟨g,no⟩|⟨d,v,j,u,u',g,ej,rd,rv⟩
   ·refine .inl ⟨g,λj p' z=>?_⟩
    cases j with
    | zero=>rw[ACy]at z;injection z with z;exact e (by rw[h1,z])
    | succ j=>rw[ABb]at z;exact no j p' z
   ·exact .inr ⟨d,v,j+1,u,u',g,by rw[ABb];exact ej,rd,rv⟩
def lh(I:Inv X pins σ H s)(sm:Sim X.K ρ M H){n:Nat}{a:Addr}(e:ρ[n]?=some a)(hM:M[n]?=some (.dkm kvs)) :
  ∃xs,H a=some (.ext (dM a xs))/\Paired (KvM X.K ρ H) kvs xs/\dM a xs X.prog X.w s.heap/\(a==sysModules)=false/\kvs.length<=sizeLine/\xs.length=kvs.length/\(kvs.map (·.1)).Nodup:=by
 obtain⟨h1,h2,h3,xs,hH,r⟩:=sm.obj _ _ _ e hM;refine⟨xs,hH,r,(show bQ X.prog X.w H s.heap a (.ext (dM a xs))from I.hok a _ hH).1,h2,h1,?_,h3⟩;have:=congrArg ABr (fP r)
 rwa [AA4,AA4]at this
def oJ(I:Inv X pins σ H s)(sm:Sim X.K ρ M H)(hu:A.units+8<cLine)(r:Paired (KvM X.K ρ H) kvs xs)(nd:(kvs.map (·.1)).Nodup)
  (ho:s.heap.get? a=some o) (hd:o.data=.dict es ep) (he:es.toList=xs.map (oO (hkM X.w))) (rk:Rep X.K ρ H k u) (ek:aI u key) (hk:oW k=true)
  (hnone:(∀(j:Nat) (p:Value×Value),xs[j]?≠some (k,p))->Q none s) (hsome:∀(j:Nat) (p:Value×Value),xs[j]?=some (k,p)->Q (some j) s):wpAny (model X.prog X.w) A (dictFind a key (hkM X.w k)) Q E s:=by
 refine AO ho hd he (by rw[fP r];exact nd) ?_ (λQ E h=>pX I rk ek hk h) (λx hx Q E h=>?_) (λx hx e=>?_) (λx hx Q E h=>?_) hnone hsome
 ·rcases kU I rk ek hk with⟨rfl,rfl⟩|⟨ks,b,rfl,rfl,_⟩
  ·exact .inl rfl
  ·exact .inr ⟨b,rfl⟩
 ·obtain⟨p,_,q1,q2,⟨u',q3,q4⟩,_⟩:=Ad r hx
  exact pX I q3 q4 q2 h
 ·obtain⟨p,_,q1,q2,⟨u',q3,q4⟩,_⟩:=Ad r hx
  rw[e]at q4;rw[<-q1];rcases kU I q3 q4 q2 with⟨e1,e2⟩|⟨ks,b,e1,e2,kat⟩<;>rcases kU I rk ek hk with⟨f1,f2⟩|⟨ks',b',f1,f2,kat'⟩
  ·rw[e1,f1]
  ·rw[e2]at f2;cases f2
  ·rw[e2]at f2;cases f2
  ·rw[e2]at f2;cases f2
   rw[e1,f1];exact kX 8 _ _ _ kat kat'
 ·obtain⟨p,_,q1,q2,⟨u',q3,q4⟩,_⟩:=Ad r hx
  rw[<-q1]at h;exact Ha I sm hu q3 q4 q2 rk ek hk _ _ _ _ h
def Sim.writeM(S:Sim X.K ρ M H)(e1:ρ[n]?=some a)(hM:M[n]?=some (.dkm kvs))(hH:H a=some (.ext (dM a xs)))(hl:kvs'.length<=sizeLine)(hs:(a==sysModules)=false)(nd:(kvs'.map (·.1)).Nodup)(r:Paired (KvM X.K ρ H) kvs' xs') :
  Sim X.K ρ (M.set n (.dkm kvs')) (upd H a (.ext (dM a xs')))/\Grow X.K ρ H ρ (upd H a (.ext (dM a xs'))):=by
 have g:Grow X.K ρ H ρ (upd H a (.ext (dM a xs'))):=⟨ACn,λ_ _ h=>SqT.writtenX hH h⟩
 have hk:∀m,m≠n->(M.set n (.dkm kvs'))[m]?=M[m]?:=λm hm=>AAv (ABO hm)
 have notK:¬isK M[n]?:=λ⟨_,z⟩=>by rw[hM]at z;cases z
 refine⟨⟨λm m' b hne f1 f2=>?_,by rw[AB1];exact S.len,λm b mo f1 f2=>?_⟩,g⟩
 ·have q:=S.nd m m' b hne f1 f2
  by_cases h1:m=n
  ·subst h1
   rw[hk m' (ABO hne)];exact .inr (q.resolve_left notK)
  ·rw[hk m h1]
   by_cases h2:m'=n
   ·subst h2
    exact .inl (q.resolve_right notK)
   ·rw[hk m' h2]
    exact q
 by_cases hm:m=n
 ·subst hm
  obtain rfl:b=a:=AAR (f1.symm.trans e1);rw[AAx (by rw[<-S.len];exact(AA7.mp e1).1)]at f2
  cases f2
  exact⟨hl,hs,nd,xs',aA,Paired.mapP r λ_ _ ⟨q1,q2,⟨u,q3,q3'⟩,v,q4,q5⟩=>⟨q1,q2,⟨u,q3.grow g,q3'⟩,v,q4.grow g,q5⟩⟩
 ·rw[hk m hm]at f2
  by_cases hb:b=a
  ·subst hb
   have q':=(S.nd m n b hm f1 e1).resolve_right notK;rw[f2]at q';exact(S.obj m b mo f1 f2).grow g (.inr q')
  ·exact(S.obj m b mo f1 f2).grow g (.inl (af hb))
def oK(d:dM a xs P w h'):bQ P w H' h' a (.ext (dM a xs)):=by
 obtain⟨o,es,e1,e2,e3,e4⟩:=d;exact⟨⟨o,es,e1,e2,e3,e4⟩,⟨o,e1⟩,λh1 h2 ⟨o,es,e1,e2,e3,e4⟩ k=>⟨o,es,k _ e1,e2,e3,e4⟩⟩
def kz(h:aM kvs k=none):eK kvs k d=kvs++[(k,d)]:=by
 unfold eK;rw[h];rfl
def qd(r:Paired (KvM X.K ρ H) kvs xs)(h:KvM X.K ρ H p q):Paired (KvM X.K ρ H) (kvs++[p]) (xs++[q]):=by
 induction r with
 | nil=>exact .cons h .nil
 | cons z _ ih=>exact .cons z ih
end
section
variable{X:Cx}{o i value:Expr}{td ty tv:DTE}{pos pos':Pos}{k:Nat}
def zd:DTE:=λ_ M Q=>Q (.ref M.length) (M++[.dkm []])
def HK:DE X (.Dict [] [] pos) zd:=by
 intro pins s σ H R I ⟨S,M,ρ,Q,sm,sr,q,kk⟩;have hf:H s.heap.objs.size=none:=I.hok.fresh (AA8 _);have hb:(s.heap.objs.size==sysModules)=false:=beq_eq_false_iff_ne.mpr (ABO (AAO I.big));refine wpAny_Dict_empty ⟨.ref s.heap.objs.size,_,I.laid (a:=s.heap.objs.size) (o:=.ext (dM s.heap.objs.size [])) (t':=s.toks) (λ_ _ q=>AA3 _ q) (AA8 _) (oK ⟨_,#[],AAC _ rfl,⟨rfl,rfl,rfl⟩,rfl,rfl⟩),rfl,?_⟩
 exact kk _ _ ⟨.ref M.length,M++[.dkm []],ρ++[s.heap.objs.size],sm.laidM (mo:=.dkm []) hf ⟨AAX _,hb,AD5,[],aA,.nil⟩,Grow.laidR hf,.ref sm.last,(show Q (.ref M.length) (M++[.dkm []])from q)⟩
def dMm(r:Nat->DRA)(to:DTE)(t:DTA):DTE:=λS M Q=>to S M λx M1=>match x with
 | .ref n=>(∃kvs,M1[n]?=some (.dkm kvs))/\t S M1 λds M2=>r n ds M2 Q
 | _=>False
variable{name:Str}{id:String}{e:Expr}{es:List Expr}{to:DTE}{t:DTA}{apos cpos:Pos}
theorem d_mm{r:Nat->DRA}(slot:Slot "dict" name id)(hty:typeOf (.builtin id)=pure (.type "method_descriptor"))(hm:MtR X id (lK X.K r))(ho:DE X o to)(ha:DA X (e::es) t)
  (hbase:attributeBase o name X.env (eval o X.env)=eval o X.env:=by rfl)
  (hfew:((backTo cpos (starEach (e::es) X.env)).all (λx=>!x.1)&&(backToKw cpos (keywordEach [] X.env)).all (λx=>x.1.isSome)
   && decide ((e::es).length+([]:List Keyword).length+(if ([]:List Keyword).isEmpty then 0 else 1)<30))=true:=by rfl)
  (hline:(apos.endLine==cpos.line)=true:=by rfl) (hs:starEach (e::es) X.env=(false,eval e X.env)::starEach es X.env:=by rfl) (hplain:(backTo cpos (starEach es X.env)).any (·.1)=false:=by rfl) :
  DE X (.Call (.Attribute o name apos) (e::es) [] cpos) (dMm r to t):=by
 intro pins s σ H R I ⟨S,M,ρ,Q,sm,sr,q,kk⟩;refine AE1 hbase hfew hline rfl (thn (ho pins s σ H _ I ⟨S,M,ρ,_,sm,sr,q,λv H' z=>z⟩) λu s1 ⟨v,H1,I1,rv,x,M1,ρ1,sm1,g1,r1,q1⟩=>?_)
 cases r1 with
 | @ref n a hn =>
  obtain rfl:u=AB6 a:=rv;obtain⟨⟨kvs,hM⟩,q1⟩:=(show (∃kvs,M1[n]?=some (.dkm kvs))/\t S M1 _ from q1);obtain⟨xs,hH,r,⟨ob,eb,h1,h2,h3,h4⟩,hsm,hl,hx,nd⟩:=lh I1 sm1 hn hM;refine⟨"dict",id,ACw,slot,hty,⟨ob,h1,h2.1⟩,λb z=>?_,?_⟩
  ·cases z
   exact⟨ob,h1,h2.2.1⟩
  ·have hA:=ha cpos pins s1 σ H1 _ I1 ⟨S,M1,ρ1,_,sm1,sr.grow g1,q1,λvs H' z=>z⟩
   rw[hs]at hA ⊢;refine AC3 (by show (false||(backTo cpos (starEach es X.env)).any (·.1))=false;rw[hplain]<;>rfl) (AEL ?_)
   exact thn hA λus s2 ⟨vs,H2,I2,rvs,ds,M2,ρ2,sm2,g2,rr,q2⟩=>hm pins s2 σ H2 (.ref a) vs (.ref a) us R I2 rfl rvs ⟨n,a,ds,M2,ρ2,Q,rfl,am g2.pre hn,sm2,rr,q2,λv H' w=>kk v H' (VQ.trans (g1.trans g2) w)⟩
 | _=>exact q1.elim
def mJ(n:Nat):DRA:=λds M Q=>match ds with
 | [k,d]=>∃kvs,M[n]?=some (.dkm kvs)/\oW k=true/\Q ((aM kvs k).getD d) M
 | _=>False
def Ap(hr:Room k X.A):MtR X "dict.get" (lK X.K mJ):=by
 intro pins s σ H x xs v us R I rx rs ⟨n,a,ds,M,ρ,Q,ez,hn,sm,rr,q,kk⟩;have un:=hr.un;unfold mJ at q;split at q
 ·rename_i k d
  obtain⟨kvs,hM,kd,q⟩:=q;have hzz:=Reps.inv_cons rr;clear rr;obtain⟨_,_,rfl,r1,rr⟩:=hzz;have hzz:=Reps.inv_cons rr;clear rr;obtain⟨_,_,rfl,r2,rr⟩:=hzz;obtain rfl:=Reps.inv_nil rr;obtain⟨u1,u2,rfl,e1,e2⟩:=au.two rs;subst ez;obtain rfl:v=AB6 a:=rx;obtain⟨ys,hH,r,⟨ob,eb,h1,h2,h3,h4⟩,hsm,hl,hx,nd⟩:=lh I sm hn hM;refine AEc ADF ⟨ob,h1,h2.1⟩ PySem.F.entry_dict_get (PySem.F.args_dict_get_3 _ _ _) (.of_wp λA R s (h:wpAny (model X.prog X.w) A.in1 (Builtin.«dict.get» ⟨[.ref a,u1,u2],[]⟩) (λfin s'=>∃v,fin=.done (.ret v)/\R (.ok (.ret v)) s') (λe s'=>R (.error e) s') s)=>h) ?_
  show wpAny _ _ (dictGet a u1 >>= _) _ _ s;unfold dictGet;refine AA0 ?_
  try with_reducible refine AAZ ?_
  refine AA0 (jM I (by show X.A.units+1+8<cLine;lia) r1 e1 kd λtk=>?_)
  refine AA0 (oJ (I.tok tk) sm (by show X.A.units+1+8<cLine;lia) r nd h1 h3 h4 r1 e1 kd (λno=>?_) λj p hj=>?_)
  ·rcases fv r k with⟨z1,_⟩|⟨d',v',j,u,u',z1,z2,z3,z4⟩
   ·rw[z1]at q
    refine AA2 ?_
    show wpAny _ _ (Builtin.Dict.missed a u1 >>= _) _ _ _;exact AA0 (wpAny_missed_other hsm (AA2 ⟨u2,rfl,_,H,I.tok _,e2,kk _ _ ⟨d,M,ρ,sm,.refl,r2,q⟩⟩))
   ·exact absurd z2 (no j _)
  ·refine AA0 (ABR (s:={ s with toks:=tk }) h1 h3 ?_)
   rcases fv r k with⟨_,no⟩|⟨d',v',j',u,u',z1,z2,z3,z4⟩
   ·exact absurd hj (no j p)
   ·have:j=j':=dm (by rw[fP r];exact nd) hj z2
    subst this;rw[hj]at z2;rw[lg h4 j,hj];rw[z1]at q;obtain rfl:p=(u,u'):=by injection z2 with z2;injection z2
    exact AA2 (AA2 ⟨u',rfl,v',H,I.tok _,z4,kk _ _ ⟨d',M,ρ,sm,.refl,z3,q⟩⟩)
 ·exact q.elim
def pY(n:Nat):DRA:=λds M Q=>match ds with
 | [k,d]=>∃kvs,M[n]?=some (.dkm kvs)/\oW k=true/\kvs.length<sizeLine/\(∀y,aM kvs k=some y->Q y M)/\(aM kvs k=none->Q d (M.set n (.dkm (kvs++[(k,d)]))))
 | _=>False
def Ao(hr:Room k X.A):MtR X "dict.setdefault" (lK X.K pY):=by
 intro pins s σ H x xs v us R I rx rs ⟨n,a,ds,M,ρ,Q,ez,hn,sm,rr,q,kk⟩;have un:=hr.un;unfold pY at q;split at q
 ·rename_i k d
  obtain⟨kvs,hM,kd,kl,q1,q2⟩:=q;have hzz:=Reps.inv_cons rr;clear rr;obtain⟨_,_,rfl,r1,rr⟩:=hzz;have hzz:=Reps.inv_cons rr;clear rr;obtain⟨_,_,rfl,r2,rr⟩:=hzz;obtain rfl:=Reps.inv_nil rr;obtain⟨u1,u2,rfl,e1,e2⟩:=au.two rs;subst ez;obtain rfl:v=AB6 a:=rx;obtain⟨ys,hH,r,⟨ob,eb,h1,h2,h3,h4⟩,hsm,hl,hx,nd⟩:=lh I sm hn hM;have esz:eb.size=ys.length:=by rw[<-AAL,h4,AA4]
  refine AEc PySem.F.slot_dict_setdefault ⟨ob,h1,h2.1⟩ PySem.F.entry_dict_setdefault (PySem.F.args_dict_setdefault_3 _ _ _) (.of_wp λA R s (h:wpAny (model X.prog X.w) A.in1 (Builtin.«dict.setdefault» ⟨[.ref a,u1,u2],[]⟩) (λfin s'=>∃v,fin=.done (.ret v)/\R (.ok (.ret v)) s') (λe s'=>R (.error e) s') s)=>h) ?_
  unfold Builtin.«dict.setdefault»;refine AA0 ?_
  unfold Builtin.Dict.keyAndDefault;refine AA0 (ABm (show s.TypeIs (.ref a) "dict" from⟨ob,h1,h2.1⟩) ?_);show wpAny _ _ (pure (a,u1,some u2)) _ _ s;refine AA2 ?_
  show wpAny _ _ (if (a==sysModules)=true then _ else(dictSetDefault a u1 u2 >>= _)) _ _ s;rw[if_neg (by rw[hsm];exact ABB)]
  unfold dictSetDefault;refine AA0 ?_
  try with_reducible refine AAZ ?_
  refine AA0 (jM I (by show X.A.units+1+8<cLine;lia) r1 e1 kd λtk=>?_)
  refine AA0 (oJ (I.tok tk) sm (by show X.A.units+1+8<cLine;lia) r nd h1 h3 h4 r1 e1 kd (λno=>?_) λj p hj=>?_)
  ·have gn:aM kvs k=none:=by
    rcases fv r k with⟨z1,_⟩|⟨_,_,j,_,_,_,z2,_⟩
    ·exact z1
    ·exact absurd z2 (no j _)
   have nd':((kvs++[(k,d)]).map (·.1)).Nodup:=by
    rw[<-kz gn];exact kA nd
   obtain⟨w1,w2⟩:=sm.writeM (xs':=ys++[(k,u1,u2)]) hn hM hH (by rw[AAA,AAb];lia) hsm nd' (qd r ⟨rfl,kd,⟨_,r1,e1⟩,_,r2,e2⟩)
   have sb:ABx a s.heap (s.heap.update a (Obj.mapDictKeys λe=>e.push ⟨hkM X.w k,u1,u2⟩)):=AAo ..
   have dd':dM a (ys++[(k,u1,u2)]) X.prog X.w (s.heap.update a (Obj.mapDictKeys λe=>e.push ⟨hkM X.w k,u1,u2⟩)):=by
    refine⟨_,eb.push ⟨hkM X.w k,u1,u2⟩,AAf _ h1 (ACA (ABc h3 _)),h2.mapDictKeys _,?_,?_⟩
    ·rw[ABc h3,AAA];rfl
    ·rw[ADP,h4,AAW];rfl
   have he:∃q,(s.heap.update a (Obj.mapDictKeys λe=>e.push ⟨hkM X.w k,u1,u2⟩)).get? a=some q:=let ⟨q,_,hq,_⟩:=dd';⟨q,hq⟩
   refine AA0 (ABU (AA0 (ADT (hz:=by lia) (s:={ s with toks:=tk }) h1 h3 (AA2 (AA2 ⟨u2,rfl,?_⟩)))))
   exact⟨_,_,sU (I.tok tk) (by rw[hH];exact True.intro) sb he (oK dd'),e2,kk _ _ ⟨d,_,ρ,w1,w2,r2.grow w2,q2 gn⟩⟩
  ·refine AA0 (ABR (s:={ s with toks:=tk }) h1 h3 ?_)
   rcases fv r k with⟨_,no⟩|⟨d',v',j',u,u',z1,z2,z3,z4⟩
   ·exact absurd hj (no j p)
   ·have:j=j':=dm (by rw[fP r];exact nd) hj z2
    subst this;rw[hj]at z2;rw[lg h4 j,hj];obtain rfl:p=(u,u'):=by injection z2 with z2;injection z2
    exact AA0 (ABU (AA2 (AA2 ⟨u',rfl,v',H,I.tok _,z4,kk _ _ ⟨d',M,ρ,sm,.refl,z3,q1 _ z1⟩⟩)))
 ·exact q.elim
end
section
variable{X:Cx}{tg o:Expr}{to:DTE}{e:Expr}{es:List Expr}{t:DTA}{pos apos cpos:Pos}{k:Nat}
def BY:HE X (.Dict [] [] pos) zd:=⟨HK⟩
def BZ(hr:Room k X.A)(ho:HE X o to)(ha:HA X (e::es) t)(hbase:attributeBase o "get" X.env (eval o X.env)=eval o X.env:=by kernel_rfl)
  (hfew:((backTo cpos (starEach (e::es) X.env)).all (λx=>!x.1)&&(backToKw cpos (keywordEach [] X.env)).all (λx=>x.1.isSome)
   && decide ((e::es).length+([]:List Keyword).length+(if ([]:List Keyword).isEmpty then 0 else 1)<30))=true:=by kernel_rfl)
  (hline:(apos.endLine==cpos.line)=true:=by kernel_rfl) (hs:starEach (e::es) X.env=(false,eval e X.env)::starEach es X.env:=by kernel_rfl) (hplain:(backTo cpos (starEach es X.env)).any (·.1)=false:=by kernel_rfl) :
  HE X (.Call (.Attribute o "get" apos) (e::es) [] cpos) (dMm mJ to t):=⟨d_mm ADF PySem.F.type_dict_get (Ap hr) ho.ok ha.ok hbase hfew hline hs hplain⟩
def BX(hr:Room k X.A)(ho:HE X o to)(ha:HA X (e::es) t)(hbase:attributeBase o "setdefault" X.env (eval o X.env)=eval o X.env:=by kernel_rfl)
  (hfew:((backTo cpos (starEach (e::es) X.env)).all (λx=>!x.1)&&(backToKw cpos (keywordEach [] X.env)).all (λx=>x.1.isSome)
   && decide ((e::es).length+([]:List Keyword).length+(if ([]:List Keyword).isEmpty then 0 else 1)<30))=true:=by kernel_rfl)
  (hline:(apos.endLine==cpos.line)=true:=by kernel_rfl) (hs:starEach (e::es) X.env=(false,eval e X.env)::starEach es X.env:=by kernel_rfl) (hplain:(backTo cpos (starEach es X.env)).any (·.1)=false:=by kernel_rfl) :
  HE X (.Call (.Attribute o "setdefault" apos) (e::es) [] cpos) (dMm pY to t):=⟨d_mm PySem.F.slot_dict_setdefault PySem.F.type_dict_setdefault (Ao hr) ho.ok ha.ok hbase hfew hline hs hplain⟩
def Fy(n:Nat):DRA:=λds M Q=>match ds with
 | []=>∃xs d,M[n]?=some (.lst (xs++[d]))/\Q d (M.set n (.lst xs))
 | _=>False
def Dy:MtR X "list.pop" (lK X.K Fy):=by
 intro pins s σ H x xs v us R I rx rs ⟨n,a,ds,M,ρ,Q,ez,hn,sm,rr,q,k⟩;unfold Fy at q;split at q
 ·obtain⟨ys,d,e,q⟩:=q
  obtain rfl:=Reps.inv_nil rr;obtain⟨vs,hH,r⟩:=sm.obj n a _ hn e;have lr:=r.length;rw[AAA,AAb]at lr;obtain⟨y,hy,ry⟩:=r.get (i:=ys.length) (d:=d) (by simp)
  have rd:Reps X.K ρ H ys vs.dropLast:=by
   have:=r.take ys.length;rw[List.take_left]at this;rw[List.dropLast_eq_take,<-lr,ADx];exact this
  obtain⟨w1,w2⟩:=sm.write hn e hH rd;exact Go pins s σ H x _ v us R I rx rs ⟨a,vs,y,ez,rfl,hH,by rw[<-lr,ADx];exact hy,k _ _ ⟨d,_,ρ,w1,w2,ry.grow w2,q⟩⟩
 ·exact q.elim
def Cj:HMl X "pop" Fy:=⟨_,PySem.F.slot_list_pop,PySem.F.type_list_pop,Dy⟩
def Itb(K:AA6)(a:Addr)(n:Nat):It :=
 ⟨λi H=>i<n/\∃xs x,SqL K H a xs/\xs[n-1-i]?=some x,λi H x H'=>H'=H/\∀xs,SqL K H a xs->xs[n-1-i]?=some x,λi H=>i=n⟩
theorem zG{P:Program}{w:World}{K:AA6}{tg:Expr}(a it:Addr)(n:Nat):Turn P w K tg (Itb K a n) [it] it (λi h=>i<=n/\h.IsRevIter it a ((n:Int)-1-(i:Int))) where
 mem:=by simp
 obj:=λi h st b hb=>by
  obtain rfl:b=it:=by simpa using hb
  obtain⟨_,o,e,c,d⟩:=st;exact⟨o,e,λv z=>by rw[d]at z;cases z⟩
 keep:=λi h h' st k=>⟨st.1,st.2.at λo e=>k it (by simp) o e⟩
 item:=by
  intro X hP hw hK hc i pins s σ H E I hf st hg;subst hP hw hK;obtain⟨hi,xs,x,hq,hx⟩:=hg;obtain⟨its,rv,p,hz⟩:=I.list hq;obtain⟨u,hu,ru⟩:=rv.get hx;obtain⟨f0,f1,f2,f3,f4,f5⟩:=hf it (by simp)
  have st2:=st.2;rw[show (n:Int)-1-(i:Int)=((n-1-i:Nat):Int) by lia]at st2
  refine wpAny_pyNext_rev_item st2 p.isList (x:=u) (by simpa using hu) λh' st' sb=>?_
  rw[show ((n-1-i:Nat):Int)-1=(n:Int)-1-((i+1:Nat):Int) by lia]at st'
  have I1:Inv X pins σ H { s with heap:=h' }:=I.turned (t':=s.toks) (λb o hb e=>(sb.2 b hb).trans e) f0 f1 f3 f4 f5
  obtain⟨o,e,c,d⟩:=id st';exact⟨u,rfl,sO (s:={ s with heap:=h' }) e c d (by decide) ⟨x,H,I1,ru,⟨rfl,λys hy=>by rw[I.list_inj hy hq];exact hx⟩,⟨hi,st'⟩,λb hb=>(hf b hb).1⟩⟩
 done:=by
  intro X hP hw hK hc i pins s σ H E I hf st hg;subst hP hw hK;obtain rfl:i=n:=hg;obtain⟨f0,f1,f2,f3,f4,f5⟩:=hf it (by simp)
  have st2:=st.2;rw[show (i:Int)-1-(i:Int) = -1 by lia]at st2
  exact wpAny_pyNext_rev_end (I.ok.hd hc) st2 λh' eb=>⟨rfl,I.turned (t':=s.toks) (λb o hb e=>eb b o hb e) f0 f1 f3 f4 f5⟩
 self:=λ_ _ _ _ _ st h=>wpAny_pyIter_revIter st.2 h
def oT:bootBuiltins "reversed" = some (.type "reversed"):=by decide +kernel
def Bc(ta:DTA):DTI:=λS M R=>ta S M λds M1=>match ds with
 | [.ref n]=>∃xs,ak M1 n xs/\(xs.length<=sizeLine->R ⟨xs.reverse,λM=>ak M n xs⟩ M1)
 | _=>False
def Hv{a:Expr}{ta:DTA}{p pos:Pos}(hm:X.mg "reversed" = none)(ha:DA X [a] ta)(hg:Gl X "reversed":=by rfl)(hs:starEach [a] X.env=[(false,eval a X.env)]:=by rfl):DI X tg (.Call (.Name "reversed" p) [a] [] pos) (Bc ta):=by
 intro pins s σ H R I h;obtain⟨S,M,ρ,Q,sm,sr,hq,k⟩:=h;refine Call_ (gF I hg hm oT (ABp (thn (ha pos pins s σ H _ I ⟨S,M,ρ,_,sm,sr,hq,λv H' w=>w⟩) λus s1 ⟨vs,H1,I1,r1,ds,M1,ρ1,sm1,g1,rr,q1⟩=>?_) hs rfl))
 try dsimp only at q1
 split at q1
 ·rename_i n
  obtain⟨xs,hL,q2⟩:=q1;have hzz:=Reps.inv_cons rr;clear rr;obtain⟨_,_,rfl,d1,rr⟩:=hzz;obtain rfl:=Reps.inv_nil rr;obtain⟨u,rfl,e1⟩:=au.one r1;obtain⟨a,rfl,hn⟩:=Rep.inv_ref d1;obtain rfl:u=AB6 a:=e1;obtain⟨ws,hw,r⟩:=ak.seq sm1 hL hn;obtain⟨its,rv,p,hz⟩:=I1.list hw;have lr:=r.length;have lv:=rv.length;refine call_reversed_list p.isList ?_
  refine wpAny_pyIter_revIter (l:=a) (i:=((its.toArray.size:Int)-1)) ⟨_,AAC _ rfl,rfl,rfl⟩ ?_
  refine⟨s1.heap.objs.size,[s1.heap.objs.size],_,_,H1,rfl,I1.kept (t':=s1.toks) λb o e=>AA3 _ e,zG a _ xs.length,⟨AAX _,_,AAC _ rfl,rfl,?_⟩,λb hb=>?_,k _ H1 ⟨⟨xs.reverse,λM=>ak M n xs⟩,M1,ρ1,sm1,g1,?_,q2 (by lia)⟩⟩
  ·show Data.fields #[.ref a,rawInt ((its.toArray.size:Int)-1)]=Data.fields #[.ref a,rawInt ((xs.length:Int)-1-((0:Nat):Int))]
   rw[AAD,<-lv,<-lr,show ((xs.length:Int)-1-((0:Nat):Int))=(xs.length:Int)-1 by lia]
  ·obtain rfl:b=s1.heap.objs.size:=by simpa using hb
   exact I1.fpOk (AA8 _) (I1.hok.fresh (AA8 _))
  ·refine⟨λi ρ' M' H' s' g ok hi=>?_,λi ρ' M' H' x H2 s' g ok hi y=>?_,λρ' M' H' s' g ok=>?_⟩
   ·rw[ACz]at hi
    obtain⟨vs,h,r⟩:=ak.seq s' ok (am g.pre hn);have hl:xs.length-1-i<vs.length:=by rw[<-r.length];lia
    exact⟨hi,vs,vs[xs.length-1-i],h,AA5 hl⟩
   ·rw[ACz]at hi
    obtain⟨rfl,y⟩:=y;obtain⟨vs,h,r⟩:=ak.seq s' ok (am g.pre hn);obtain⟨d,hd,rd⟩:=r.getV (y vs h);exact⟨d,ρ',by rw[List.getElem?_reverse hi];exact hd,s',.refl,rd⟩
   ·exact(ACz:xs.reverse.length=xs.length)
 ·exact q1.elim
def BN(hm:X.mg "reversed" = none)(ha:HA X [a] ta)(hg:X.env.kindOf "reversed" = some .globalImplicit:=by kernel_rfl)(hs:starEach [a] X.env=[(false,eval a X.env)]:=by kernel_rfl):HI X tg (.Call (.Name "reversed" p) [a] [] pos) (Bc ta):=⟨Hv hm ha.ok hg hs⟩
end
section
variable{X:Cx}{pins:List (Addr×Obj)}{σ:St}{H:Hp}{s:Shared}{ρ:List Addr}{M:Mem}{kvs:List (D×D)}{xs:List (D×Value×Value)}
def lp(I:Inv X pins σ H s)(sm:Sim X.K ρ M H){A:Around}{E:Value->Shared->Prop}{Q:Option Value->Shared->Prop}{n:Nat}{a:Addr}{k:D}{u:V}{key:Value}(hu:A.units+8<cLine)(hn:ρ[n]?=some a)(hM:M[n]?=some (.dkm kvs))(rk:Rep X.K ρ H k u)(ek:aI u key)(hk:oW k=true)
  (hno:aM kvs k=none->∀tk,Q none { s with toks:=tk }) (hs:∀d v w,aM kvs k=some d->Rep X.K ρ H d v->aI v w->∀tk,Q (some w) { s with toks:=tk }):wpAny (model X.prog X.w) A (dictGet a key) Q E s:=by
 obtain⟨ys,hH,r,⟨ob,eb,h1,h2,h3,h4⟩,hsm,hl,hx,nd⟩:=lh I sm hn hM;unfold dictGet
 try with_reducible refine AAZ ?_
 refine AA0 (jM I hu rk ek hk λtk=>?_)
 refine AA0 (oJ (I.tok tk) sm hu r nd h1 h3 h4 rk ek hk (λno=>?_) λj p hj=>?_)
 ·rcases fv r k with⟨z1,_⟩|⟨d',v',j,u',w',z1,z2,z3,z4⟩
  ·exact AA2 (hno z1 tk)
  ·exact absurd z2 (no j _)
 ·refine AA0 (ABR (s:={ s with toks:=tk }) h1 h3 ?_)
  rcases fv r k with⟨_,no⟩|⟨d',v',j',u',w',z1,z2,z3,z4⟩
  ·exact absurd hj (no j p)
  ·have:j=j':=dm (by rw[fP r];exact nd) hj z2
   subst this;rw[hj]at z2;rw[lg h4 j,hj];obtain rfl:p=(u',w'):=by injection z2 with z2;injection z2
   exact AA2 (hs d' v' w' z1 z3 z4 tk)
end
section
variable{X:Cx}{o i value:Expr}{td ty tv:DTE}{pos pos':Pos}{k:Nat}
def qInM:DR2:=λx y M Q=>match y with
 | .ref n=>∃kvs,M[n]?=some (.dkm kvs)/\oW x=true/\Q (.bl (aM kvs x).isSome) M
 | _=>False
def Gm(hr:Room k X.A):OpD X (compareOp .In) qInM:=by
 intro pins s σ H vx vy v u R I rx ry ⟨x,y,M,ρ,Q,sm,r1,r2,q,kk⟩;have un:=hr.un;cases y with
 | ref n =>
  obtain⟨kvs,hM,kd,q⟩:=q;obtain⟨a,rfl,hn⟩:=Rep.inv_ref r2;obtain rfl:u=AB6 a:=ry;obtain⟨ys,hH,r,⟨ob,eb,h1,h2,h3,h4⟩,hsm,hl,hx,nd⟩:=lh I sm hn hM;have hT:s.TypeIs (.ref a) "dict":=⟨ob,h1,h2.1⟩;show wpAny _ _ (do return Value.bool (<-contains (.ref a) v)) _ _ s
  refine AA0 ?_
  unfold contains
  try with_reducible refine AAZ ?_
  refine AA0 (ABt hT slot_dict_contains.lookup ?_);show wpAny _ _ (if (some (Value.builtin "dict.__contains__")==some ABj)=true then _ else _) _ _ s;rw[if_neg (by rw[AEK];exact ABB)]
  refine AA0 (wpAny_callSpecialUnlessNone?_slot (name:=AA1 "__contains__") hT slot_dict_contains (AAp slot_dict_contains hT entry_dict_contains ?_ (args_dict_contains _ _)));show wpAny _ _ (dictGet a v >>= _) _ _ s;refine AA0 (lp I sm (by show X.A.units+1+8<cLine;lia) hn hM r1 rx kd (λe tk=>?_) λd v' w e _ _ tk=>?_)
  ·rw[e]at q
   show wpAny _ _ (Builtin.Dict.pendingKey? a v >>= _) _ _ _;exact AA0 (wpAny_pendingKey_other hsm (AA2 ⟨_,rfl,ACk (AA2 (fB (I.tok _) sm kk q))⟩))
  ·rw[e]at q
   show wpAny _ _ (ret (Value.bool true)) _ _ _;exact AA2 ⟨_,rfl,ACk (AA2 (fB (I.tok _) sm kk q))⟩
 | _=>exact q.elim
def Bf(td ty:DTE):DTE:=λS M Q=>td S M λx M1=>ty S M1 λy M2=>match x with
 | .ref n=>∃kvs d,M2[n]?=some (.dkm kvs)/\oW y=true/\aM kvs y=some d/\Q d M2
 | _=>False
def Ez(hr:Room k X.A)(ho:DE X o td)(hi:DE X i ty)(hs:Cs i):DE X (.Subscript o i pos) (Bf td ty):=by
 intro pins s σ H R I ⟨S,M,ρ,Q,sm,sr,q,kk⟩;have un:=hr.un;refine rZ ADV.lookup hs (thn (ho pins s σ H _ I ⟨S,M,ρ,_,sm,sr,q,λv H' z=>z⟩) λu s1 ⟨v,H1,I1,rv,x,M1,ρ1,sm1,g1,r1,q1⟩=>thn (hi pins s1 σ H1 _ I1 ⟨S,M1,ρ1,_,sm1,sr.grow g1,q1,λv H' z=>z⟩) λiv s2 ⟨w,H2,I2,rw',y,M2,ρ2,sm2,g2,r2,q2⟩=>?_)
 cases x with
 | ref n =>
  obtain⟨kvs,d,hM,kd,hg,q3⟩:=q2;obtain⟨a,rfl,hn⟩:=Rep.inv_ref r1;obtain rfl:u=AB6 a:=rv;have hn2:=am g2.pre hn;obtain⟨ys,hH,r,⟨ob,eb,h1,h2,h3,h4⟩,hsm,hl,hx,nd⟩:=lh I2 sm2 hn2 hM;have hT:s2.TypeIs (.ref a) "dict":=⟨ob,h1,h2.1⟩;refine⟨hT,?_⟩;unfold getItem
  try with_reducible refine AAZ ?_
  refine AA0 (ADI hT (by decide) ?_)
  refine AA0 (AAq (name:=AA1 "__getitem__") hT slot_dict_getitem (AAp slot_dict_getitem hT entry_dict_getitem ?_ (args_dict_getitem _ _)));show wpAny _ _ (dictGet a iv >>= _) _ _ s2;refine AA0 (lp I2 sm2 (by show X.A.units+1+8<cLine;lia) hn2 hM r2 rw' kd (λe tk=>?_) λd' v' w e rd rv tk=>?_)
  ·rw[hg]at e;cases e
  ·rw[hg]at e
   cases e
   exact AA2 ⟨w,rfl,AA2 ⟨v',H2,I2.tok _,rv,kk _ _ ⟨d,M2,ρ2,sm2,g1.trans g2,rd,q3⟩⟩⟩
 | _=>exact q2.elim
noncomputable def zy(k:D)(v:Value)(x:D×Value×Value):D×Value×Value:=if x.1=k then(x.1,x.2.1,v)else x
def kB{hs:D->Int}{k:D}{v:Value}:∀{xs:List (D×Value×Value)}{j:Nat}{p:Value×Value},(xs.map (·.1)).Nodup->xs[j]?=some (k,p)->(xs.map (oO hs)).modify j (λe=>{ e with val:=v })=(xs.map (zy k v)).map (oO hs)
 | x::xs,0,p,nd,e=>by
  rw[ACy]at e;obtain rfl:=AAR e;rw[AAQ,ABH]at nd;have:xs.map (zy k v)=xs:=by
   refine(AC7 λy hy=>?_).trans (ACu _)
   unfold zy;rw[if_neg λz=>nd.1 (by rw[show k=y.1 from z.symm];exact AAg (f:=(·.1)) hy)]
   rfl
  rw[AAQ,AAQ,AAQ,this];show oO hs (k,p.1,v)::xs.map (oO hs)=oO hs (zy k v (k,p))::xs.map (oO hs);unfold zy;rw[if_pos rfl]
 | x::xs,j+1,p,nd,e=>by
  rw[ABb]at e;rw[AAQ,ABH]at nd;have hx:zy k v x=x:=by
   unfold zy;rw[if_neg λz=>nd.1 (by rw[z];exact AAg (f:=(·.1)) (AAc e))]
  rw[AAQ,AAQ,AAQ,hx];show oO hs x::(xs.map (oO hs)).modify j _=_;rw[kB nd.2 e]
def DO{K:AA6}{ρ:List Addr}{H:Hp}{kvs:List (D×D)}{xs:List (D×Value×Value)}{k d:D}{v:V}{u:Value}(r:Paired (KvM K ρ H) kvs xs)(rd:Rep K ρ H d v)(rv:aI v u):Paired (KvM K ρ H) (kvs.map λp=>if p.1=k then(p.1,d)else p) (xs.map (zy k u)):=by
 induction r with
 | nil=>exact .nil
 | @cons p q ps qs h t ih =>
  rw[AAQ,AAQ];refine .cons ?_ ih;obtain⟨h1,h2,h3,w,h4,h5⟩:=h;unfold zy;by_cases e:p.1=k
  ·rw[if_pos e,if_pos (h1.symm.trans e)]
   exact⟨h1,h2,h3,v,rd,rv⟩
  ·rw[if_neg e,if_neg λz=>e (h1.trans z)]
   exact⟨h1,h2,h3,w,h4,h5⟩
def Be(td ty tv:DTE):DTS:=λE S M=>tv S M λv M1=>td S M1 λx M2=>ty S M2 λy M3=>match x with
 | .ref n=>∃kvs,M3[n]?=some (.dkm kvs)/\oW y=true/\kvs.length<sizeLine/\E.nx S (M3.set n (.dkm (eK kvs y v)))
 | _=>False
def El(hr:Room k X.A)(ho:DE X o td)(hi:DE X i ty)(hv:DE X value tv)(hs:swapsWith value (some (.Subscript o i pos')) pos.line X.env=pure false):DS X (.Assign [.Subscript o i pos'] value pos) (Be td ty tv):=by
 intro pins s σ H E I ⟨S,M,ρ,F,sm,sr,q,kk⟩;have un:=hr.un;refine wpAny_Assign_Subscript (thn (hv pins s σ H _ I ⟨S,M,ρ,_,sm,sr,q,λv H' z=>z⟩) λr s1 ⟨v,H1,I1,rv,dv,M1,ρ1,sm1,g1,r1,q1⟩=>thn (ho pins s1 σ H1 _ I1 ⟨S,M1,ρ1,_,sm1,sr.grow g1,q1,λv H' z=>z⟩) λu s2 ⟨vx,H2,I2,rx,x,M2,ρ2,sm2,g2,r2,q2⟩=>thn (hi pins s2 σ H2 _ I2 ⟨S,M2,ρ2,_,sm2,(sr.grow g1).grow g2,q2,λv H' z=>z⟩) λiv s3 ⟨vy,H3,I3,ry,y,M3,ρ3,sm3,g3,r3,q3⟩=>?_) hs
 cases x with
 | ref n =>
  obtain⟨kvs,hM,kd,hl,q4⟩:=q3;obtain⟨a,rfl,hn⟩:=Rep.inv_ref r2;obtain rfl:u=AB6 a:=rx;have hn3:=am g3.pre hn;obtain⟨xs,hH,rr,⟨ob,eb,h1,h2,h3,h4⟩,hsm,hz,hx,nd⟩:=lh I3 sm3 hn3 hM;have hT:s3.TypeIs (.ref a) "dict":=⟨ob,h1,h2.1⟩;have rd:=(r1.grow g2).grow g3;have esz:eb.size=xs.length:=by rw[<-AAL,h4,AA4]
  have fin:∀(xs':List (D×Value×Value)) (h':Heap) (tk:Nat),Paired (KvM X.K ρ3 H3) (eK kvs y dv) xs'->dM a xs' X.prog X.w h'->ABx a s3.heap h'->∃σ' H',Inv X pins σ' H' { s3 with heap:=h',toks:=tk }/\E.nx σ' H':=λxs' h' tk r' dd' hsb=>by
   have pl:=jG (kvs:=kvs) (k:=y) (d:=dv);obtain⟨w1,w2⟩:=sm3.writeM hn3 hM hH (by lia) hsm (kA nd) r'
   have he:∃q,h'.get? a=some q:=let ⟨q,_,hq,_⟩:=dd';⟨q,hq⟩
   exact⟨σ,_,sU I3 (by rw[hH];exact True.intro) hsb he (oK dd'),kk.nx σ _ (SQ.trans ((g1.trans g2).trans g3) ⟨S,_,ρ3,w1,w2,(((sr.grow g1).grow g2).grow g3).grow w2,q4⟩)⟩
  unfold setItem
  try with_reducible refine AAZ ?_
  refine AA0 (ADI hT (by decide) (AA0 (AAq (name:=AA1 "__setitem__") hT AE7 (AAp AE7 hT entry_dict_setitem ?_ (args_dict_setitem _ _ _)))))
  refine(show wpAny (model X.prog X.w) _ (Builtin.Dict.notOrdered "__setitem__" ⟨[.ref a,iv,r],[]⟩ >>= _) _ _ s3 from AA0 (ABm hT ?_));refine(show wpAny (model X.prog X.w) _ (dictSet a iv r >>= _) _ _ s3 from AA0 ?_);unfold dictSet
  try with_reducible refine AAZ ?_
  refine AA0 (jM I3 (by show X.A.units+1+8<cLine;lia) r3 ry kd λtk=>?_)
  unfold dictSetHashed
  try with_reducible refine AAZ ?_
  refine AA0 (oJ (I3.tok tk) sm3 (by show X.A.units+1+8<cLine;lia) rr nd h1 h3 h4 r3 ry kd (λno=>?_) λj p hj=>?_)
  ·have gn:aM kvs y=none:=by
    rcases fv rr y with⟨z1,_⟩|⟨_,_,j,_,_,_,z2,_⟩
    ·exact z1
    ·exact absurd z2 (no j _)
   refine AA0 (ABU (ADT (hz:=by lia) (s:={ s3 with toks:=tk }) h1 h3 (AA2 ⟨.none,rfl,AA2 (fin (xs++[(y,iv,r)]) _ tk ?_ ⟨_,eb.push ⟨hkM X.w y,iv,r⟩,AAf _ h1 (ACA (ABc h3 _)),h2.mapDictKeys _,?_,?_⟩ (AAo ..))⟩)))
   ·rw[kz gn]
    exact qd rr ⟨rfl,kd,⟨_,r3,ry⟩,_,rd,rv⟩
   ·rw[ABc h3,AAA];rfl
   ·rw[ADP,h4,AAW];rfl
  ·rcases fv rr y with⟨_,no⟩|⟨d',v',j',u',w',z1,z2,z3,z4⟩
   ·exact absurd hj (no j p)
   ·refine AA0 (ABU (AA0 (wpAny_updateDict (s:={ s3 with toks:=tk }) h1 h3 (wpAny_point (AA2 ⟨.none,rfl,AA2 (fin (xs.map (zy y r)) _ tk ?_ ⟨_,eb.modify j λe=>{ e with val:=r },AAf _ h1 (ACA (AD1 h3 _)),h2.mapDict _,?_,?_⟩ (AAo ..))⟩)))))
    ·unfold eK
     rw[z1,if_pos (show (some d').isSome=true from rfl)];exact DO rr rd rv
    ·rw[AD1 h3,AA4]
    ·have q:=kB (hs:=hkM X.w) (v:=r) (by rw[fP rr];exact nd) hj
     rw[<-q,<-h4];obtain⟨l⟩:=eb;simp
 | _=>exact q3.elim
def Ci(hr:Room k X.A):HOp X (compareOp .In) qInM:=⟨Gm hr⟩
def yC(hr:Room k X.A)(ho:HE X o td)(hi:HE X i ty)(hs:Cs i:=by intro _ _;kernel_rfl):HE X (.Subscript o i pos) (Bf td ty):=⟨Ez hr ho.ok hi.ok hs⟩
def oA(hr:Room k X.A)(ho:HE X o td)(hi:HE X i ty)(hv:HE X value tv)(hs:swapsWith value (some (.Subscript o i pos')) pos.line X.env=pure false:=by kernel_rfl):HS X (.Assign [.Subscript o i pos'] value pos) (Be td ty tv):=⟨El hr ho.ok hi.ok hv.ok hs⟩
end
def Itn(K:AA6)(a:Addr):It :=
 ⟨λi H=>∃xs x,SqL K H a xs/\xs[i]?=some x,λi H v H'=>∃T x,v=.ref T/\H T=none/\H'=upd H T (.tup [.int i,x])/\∀xs,SqL K H a xs->xs[i]?=some x,λi H=>∃xs,SqL K H a xs/\xs.length<=i⟩
def wH{P:Program}{w:World}{K:AA6}{elts:List Expr}{x1:Nat}{pos:Pos}{e it l:Addr}(hei:e≠it) :
  Turn P w K (.Tuple elts x1 pos) (Itn K l) [e,it] e (λi h=>(∃old,IsEnum h e it i old)/\h.IsListIter it l i) where
 mem:=AAI
 obj:=λi h ⟨⟨old,he⟩,hi⟩ c hc=>by
  simp only[AAJ,ABz,or_false]at hc;rcases hc with rfl | rfl
  ·exact⟨_,he,λv q=>nomatch q⟩
  ·obtain⟨o,e,_,d⟩:=hi
   exact⟨o,e,λv z=>by rw[d]at z;cases z⟩
 keep:=λi h h' ⟨⟨old,he⟩,hi⟩ k=>⟨⟨old,k e (by simp) _ he⟩,hi.at λo q=>k it (by simp) o q⟩
 item:=by
  intro X hP hw hK hc i pins s σ H E I hf ⟨⟨old,he⟩,hi⟩ ⟨xs,x,hq,hx⟩;subst hP hw hK;obtain⟨its,rv,p,hz⟩:=I.list hq;obtain⟨u,hu,ru⟩:=rv.get hx;have hst:it<s.heap.objs.size:=by obtain⟨_,q,_⟩:=hi;exact AAG q
  refine wpAny_pyNext_enum_item he hi p.isList (x:=u) (by simpa using hu) hei λh' ho hi' hT hsz hk=>⟨_,rfl,?_⟩
  refine wpAny_letOwnedTupleGo_enum ho λh2 he2 hs2=>?_
  have zne:s.heap.objs.size≠e:=ABO (AAO (AAG he));have hT2:h2.get? s.heap.objs.size=some { cls:=.type "tuple",data:=.seq #[.int i s.toks,u] }:=hs2.extBut _ _ zne hT;refine⟨.ref s.heap.objs.size,upd H s.heap.objs.size (.tup [.int i,x]),?_,rfl,⟨_,x,rfl,I.hok.fresh (AA8 _),rfl,λys hy=>by rw[I.list_inj hy hq];exact hx⟩,⟨⟨_,he2⟩,hi'.at λo q=>hs2.extBut _ _ (ABO hei) q⟩,λc hc'=>?_⟩
  ·refine I.turnedT (t':=s.toks+1) hf (λc o hc' q=>?_) (AA8 _) ⟨by simp[ABq],[.int i s.toks,u],.cons ⟨_,rfl⟩ (.cons ru .nil),⟨_,hT2,rfl,⟨0,rfl⟩,rfl⟩⟩
   simp only[AAJ,ABz,or_false,not_or]at hc';exact hs2.extBut _ _ hc'.1 (hk c o hc'.1 hc'.2 q)
  ·have:c<s.heap.objs.size:=by
    simp only[AAJ,ABz,or_false]at hc';rcases hc' with rfl | rfl
    ·exact AAG he
    ·exact hst
   rw[af (AAO this)];exact(hf c hc').1
 done:=by
  intro X hP hw hK hc i pins s σ H E I hf ⟨⟨old,he⟩,hi⟩ ⟨xs,hq,hx⟩;subst hP hw hK;obtain⟨its,rv,p,hz⟩:=I.list hq;have hl:=rv.length;refine wpAny_pyNext_enum_end (I.ok.hd hc) he hi p.isList (by simp;lia) λh' eb=>⟨rfl,I.turnedL (t':=s.toks) hf λc o hc' q=>eb c o ?_ q⟩
  simp only[AAJ,ABz,or_false,not_or]at hc';exact hc'.2
 self:=λ_ _ _ _ _ st h=>let ⟨_,q⟩:=st.1;wpAny_pyIter_enum q h
def qT(xs:List D):List D:=(AAu xs.length).zip xs |>.map λp=>.tup [.int p.1,p.2]
def fy:(qT xs).length=xs.length:=by unfold qT;rw[AA4,List.length_zip,ACR,Nat.min_self]
def lc{xs:List D}{i:Nat}{d:D}(h:xs[i]?=some d):(qT xs)[i]?=some (.tup [.int i,d]):=by
 have hi:=(AA7.mp h).1;unfold qT;have:((AAu xs.length).zip xs)[i]?=some (i,d):=List.getElem?_zip_eq_some.mpr ⟨List.getElem?_range hi,h⟩;rw[AAV,this];rfl
def ItD.enum{ρ:List Addr}{H:Hp}{xs:List D}{n:Nat}{l:Addr}{K:AA6}(e:ρ[n]?=some l):ItD K ⟨qT xs,λM=>ak M n xs⟩ ρ H (Itn K l) where
 go:=λi ρ' M' H' sm g ok hi=>by
  obtain⟨vs,q,r⟩:=ak.seq sm ok (am g.pre e);have hl:i<vs.length:=by rw[<-r.length,<-fy];exact hi
  exact⟨vs,vs[i],q,AA5 hl⟩
 yld:=λi ρ' M' H' x H2 sm g ok hi y=>by
  obtain⟨vs,q,r⟩:=ak.seq sm ok (am g.pre e);obtain⟨T,a,rfl,hT,rfl,ha⟩:=y;obtain⟨d,hd,rd⟩:=r.getV (ha vs q);exact⟨.tup [.int i,d],ρ',lc hd,sm.laid hT,Grow.laid hT,.tup (SqT.of aA) (.cons (.int _) (.cons (rd.grow (Grow.laid hT)) .nil))⟩
 stop:=λρ' M' H' sm g ok=>by
  obtain⟨vs,q,r⟩:=ak.seq sm ok (am g.pre e);exact⟨vs,q,by rw[<-r.length];show xs.length<=(qT xs).length;rw[fy];exact AA8 _⟩
section
variable{X:Cx}
def zp:bootBuiltins "enumerate" = some (.type "enumerate"):=by decide +kernel
def ze(ta:DTA):DTI:=λS M R=>ta S M λds M1=>match ds with
 | [.ref n]=>∃xs,ak M1 n xs/\(xs.length<=sizeLine->R ⟨qT xs,λM=>ak M n xs⟩ M1)
 | _=>False
def Es{elts:List Expr}{x1:Nat}{q':Pos}{a:Expr}{ta:DTA}{p pos:Pos}(hm:X.mg "enumerate" = none)(ha:DA X [a] ta)(hg:Gl X "enumerate":=by rfl)(hs:starEach [a] X.env=[(false,eval a X.env)]:=by rfl):DI X (.Tuple elts x1 q') (.Call (.Name "enumerate" p) [a] [] pos) (ze ta):=by
 intro pins s σ H R I h;obtain⟨S,M,ρ,Q,sm,sr,hq,k⟩:=h;refine Call_ (gF I hg hm zp (ABp (thn (ha pos pins s σ H _ I ⟨S,M,ρ,_,sm,sr,hq,λv H' w=>w⟩) λus s1 ⟨vs,H1,I1,r1,ds,M1,ρ1,sm1,g1,rr,q1⟩=>?_) hs rfl))
 try dsimp only at q1
 split at q1
 ·rename_i n
  obtain⟨xs,hL,q2⟩:=q1;have hzz:=Reps.inv_cons rr;clear rr;obtain⟨_,_,rfl,d1,rr⟩:=hzz;obtain rfl:=Reps.inv_nil rr;obtain⟨u,rfl,e1⟩:=au.one r1;obtain⟨a,rfl,hn⟩:=Rep.inv_ref d1;obtain rfl:u=AB6 a:=e1;obtain⟨ws,hw,r⟩:=ak.seq sm1 hL hn;obtain⟨its,rv,p,hz⟩:=I1.list hw;have lr:=r.length;refine call_enumerate_list p.isList λh' he hi hsz hk=>?_
  refine wpAny_pyIter_enum (i:=0) (old:=.none) he ?_
  refine⟨s1.heap.objs.size+1,[s1.heap.objs.size+1,s1.heap.objs.size],_,_,H1,rfl,I1.kept (t':=s1.toks) hk,wH (l:=a) (Nat.succ_ne_self _),⟨⟨_,he⟩,hi⟩,λb hb=>?_,k _ H1 ⟨⟨qT xs,λM=>ak M n xs⟩,M1,ρ1,sm1,g1,ItD.enum hn,q2 (by lia)⟩⟩
  simp only[AAJ,ABz,or_false]at hb;rcases hb with rfl | rfl
  ·exact I1.fpOk (ADc _) (I1.hok.fresh (ADc _))
  ·exact I1.fpOk (AA8 _) (I1.hok.fresh (AA8 _))
 ·exact q1.elim
def yp(hm:X.mg "enumerate" = none)(ha:HA X [a] ta)(hg:X.env.kindOf "enumerate" = some .globalImplicit:=by kernel_rfl)(hs:starEach [a] X.env=[(false,eval a X.env)]:=by kernel_rfl):HI X (.Tuple elts x1 q') (.Call (.Name "enumerate" p) [a] [] pos) (ze ta):=⟨Es hm ha.ok hg hs⟩
end
section
variable{X:Cx}
def vE:DRA:=λds M Q=>match ds with
 | [.ref n]=>∃kvs,M[n]?=some (.dkt kvs)/\Q (.int kvs.length) M
 | _=>False
def ED:jC X (.builtin "len") vE:=by
 intro pins s σ H vs us R I rv ⟨ds,M,ρ,Q,sm,rs,q,kk⟩;unfold vE at q;split at q
 ·obtain⟨kvs,hM,q⟩:=q
  have hzz:=Reps.inv_cons rs;clear rs;obtain⟨_,_,rfl,r1,rs⟩:=hzz;obtain rfl:=Reps.inv_nil rs;obtain⟨u,rfl,e1⟩:=au.one rv;obtain⟨a,rfl,e⟩:=Rep.inv_ref r1;obtain rfl:u=AB6 a:=e1;obtain⟨xs,hH,r,dd,hsm,hz,hx,nd⟩:=eO I sm e hM;obtain⟨ob,es,h1,h2,h3,h4⟩:=yY I hH;have hT:s.TypeIs (.ref a) "dict":=⟨ob,h1,h2.1⟩;have esz:es.size=kvs.length:=by rw[<-AAL,h4,AA4,hx]
  have big:sizeLine<2 ^ 63:=by decide +kernel
  have hfit:(kvs.length:Int)<2 ^ 63:=by lia
  refine Calls.call_function_entry kind_len plain_len entry_len (args_len1 _) ?_
  unfold Builtin.«len»;refine AA0 (m:=oneArg "len" _) (AA2 ?_);refine AA0 (m:=callSpecial? (.ref a) (AA1 "__len__")) (AAq (name:=AA1 "__len__") hT PySem.F.slot_dict_len (AEc PySem.F.slot_dict_len hT PySem.F.entry_dict_len (PySem.F.args_dict_len_1 _) (.of_wp λA R s (h:wpAny (model X.prog X.w) A.in1 (Builtin.«dict.__len__» ⟨[.ref a],[]⟩) (λfin s'=>∃v,fin=.done (.ret v)/\R (.ok (.ret v)) s') (λe s'=>R (.error e) s') s)=>h) ?_))
  show wpAny _ _ (dictSize a >>= _) _ _ s;unfold dictSize;refine AA0 (AA0 (ABR h1 h3 (AA2 ?_)));show wpAny _ _ (Builtin.Dict.pendingCount a >>= _) _ _ s;refine AA0 (wpAny_pendingCount_other hsm ?_);refine wpAny_ret_mkInt ?_
  rw[Nat.add_zero,esz];show wpAny _ _ _ _ _ { s with toks:=s.toks+1 }
  refine AA0 (AAZ (AA2 ?_));refine AA0 (wpAny_letGo ?_);show wpAny _ _ (if ((kvs.length:Nat):Int)<0 then _ else _) _ _ _;rw[if_neg (by lia)]
  show wpAny _ _ (if ((kvs.length:Nat):Int) ≥ 2 ^ 63 then _ else _) _ _ _;rw[if_neg (by lia)]
  exact AA0 (wpAny_mkInt (AA2 ⟨_,rfl,.int kvs.length,H,I.tok _,⟨_,rfl⟩,kk _ _ ⟨.int kvs.length,M,ρ,sm,.refl,.int _,q⟩⟩))
 ·exact q.elim
def yL:HC X (.builtin "len") vE:=⟨ED⟩
def pZ:DRA:=λds M Q=>match ds with
 | [.ref n]=>∃kvs,M[n]?=some (.dkt kvs)/\Q (.ref M.length) (M++[.lst (kvs.map (·.1))])
 | _=>False
def yt{K:AA6}{ρ:List Addr}{H:Hp}{kvs:List (D×D)}{xs:List (D×Addr×Value)}(r:Paired (tp K ρ H) kvs xs):∃ws,Reps K ρ H (kvs.map (·.1)) ws/\au ws (xs.map λx=>.ref x.2.1):=by
 induction r with
 | nil=>exact⟨[],.nil,.nil⟩
 | cons h t ih =>
  obtain⟨_,_,q,_⟩:=h;obtain⟨ws,h1,h2⟩:=ih;exact⟨.ref _::ws,.cons q h1,.cons rfl h2⟩
def Bj(hc:X.calm=true):jC X (.type "list") pZ:=by
 intro pins s σ H vs us R I rv ⟨ds,M,ρ,Q,sm,rs,q,kk⟩;unfold pZ at q;split at q
 ·obtain⟨kvs,hM,q⟩:=q
  have hzz:=Reps.inv_cons rs;clear rs;obtain⟨_,_,rfl,r1,rs⟩:=hzz;obtain rfl:=Reps.inv_nil rs;obtain⟨u,rfl,e1⟩:=au.one rv;obtain⟨a,rfl,e⟩:=Rep.inv_ref r1;obtain rfl:u=AB6 a:=e1;obtain⟨xs,hH,r,dd,hsm,hz,hx,nd⟩:=eO I sm e hM;obtain⟨es,em,el,eg⟩:=fA I hH;refine PySem.W.kdl_call (yV (es:=es) (ep:=xs.length) hsm) (I.ok.hd hc) em (by lia) λh' tk acc' c' hk hD hacc=>?_
  obtain⟨ws,w1,w2⟩:=yt r;have ea:acc'.toList=xs.map λx=>.ref x.2.1:=by
   refine ADL λj=>?_
   rw[AAS,AAV];cases hj:xs[j]? with
   | none =>
    have:xs.length<=j:=by rw[List.getElem?_eq_none_iff]at hj;exact hj
    rw[ABf (by have:=hacc.1;lia)];rfl
   | some x =>
    have hlt:=(AA7.mp hj).1;have hlt':j<acc'.size:=by have:=hacc.1;lia
    obtain⟨e,g1,g2⟩:=hacc.2 j acc'[j] (AAM hlt');obtain⟨e',z1,z2,_⟩:=eg j x hj;rw[g1]at z1;obtain rfl:=AAR z1;rw[AAM hlt',g2,z2];rfl
  have hf:H s.heap.objs.size=none:=I.hok.fresh (AA8 _);exact⟨.ref s.heap.objs.size,_,I.laid (a:=s.heap.objs.size) (o:=.lst ws) (t':=tk) hk (AA8 _) ⟨by rw[<-w1.length,AA4];exact hz,acc'.toList,c',by rw[ea];exact w2,by simpa using hD⟩,rfl,kk _ _ (VQ.laidL sm .refl w1 hf q)⟩
 ·exact q.elim
def uI(hc:X.calm=true:=by kernel_rfl):HC X (.type "list") pZ:=⟨Bj hc⟩
end
end L2
namespace LW
open PySem L2
local macro_rules | `(tactic| walk_at "sc")=>`(tactic| exact⟨rfl,rfl,rfl,by decide +kernel,rfl,by decide +kernel,by decide +kernel⟩)
local macro_rules | `(tactic| walk_at "dl")=>`(tactic| simp only[EE,az,dIf,EB,EW,dOr,aG,dCB,aa,ag,bi,we,dOrV,dLC,uR,dc,ar,bA,bd,jB,mZ,dOp,dC,ab,iH,lu,dSl,jA,fE,dMl,dW,oQ,By,qAdd,bh,Fx,nL,sf,xw,qLt,ER,qGt,qGe,qIs,qEq,qNe,mK,qIx,qSl,cH,HN,AZ,lU,cc,lV,dMl0,iP,iw,Bg,iI,rh,lW,re,dMt,ix,rB,qZ,iJ,ES,nK,fN,rj,xx,zd,dMm,mJ,pY,Fy,Bc,Bf,Be,qInM,ze,vE,pZ,EQ,kw,jO,uS,Eu,iQ,SqAt,CQ,jq,at0,at1,at2,tyD,dst,cb,HD,AAQ,AEa,ACX,AAs,ACy,ABb,AAN,AAm,List.replicate_zero,List.replicate_succ,List.set_cons_zero,List.set_cons_succ,ADE,Nat.reduceAdd,Nat.reduceSub,Option.join_some,if_true,if_false,AAE])
def top(i:Nat):Stmt:=PySem.Challenge.pw_talkmarks_k27_whole_rows_and_messages.main.body.getD i (.Pass ⟨0,0,0,0⟩)
abbrev B_:List Str:=["dict","sorted","set","reversed","len","range","tuple","list","max","enumerate"]
abbrev C_:List (Str×Int):=[]
abbrev gL:List Str:=["pairs"]
abbrev kH:List Str:=["house","thing"]
abbrev fh:List Str:=["house","room"]
abbrev iS:List Str:=["deed"]
abbrev gK:List Str:=["deed"]
abbrev cI:List Str:=["log","kind"]
abbrev kG:List Str:=["say"]
abbrev iR:List Str:=["say"]
abbrev gM:List Str:=["house","say","elders"]
abbrev bU:List Str:=["house","log"]
abbrev cY:List Str:=["deed","says"]
abbrev dF:List Str:=["log","kind","says"]
abbrev cX:List Str:=["log","says"]
abbrev bD:List Str:=["log","says"]
abbrev fg:List Str:=["say","changes"]
abbrev fe:List Str:=["house","log"]
abbrev dG:List Str:=["house","log"]
abbrev eZ:List Str:=["house","log"]
abbrev cg:List Str:=["says","room"]
abbrev fi:List Str:=["depth","stamps"]
abbrev cW:List Str:=["beneath"]
abbrev kF:List Str:=["house","log","room"]
abbrev kI:List Str:=["_law_script","_law_k"]
abbrev nS:List Str:=["_law_cell"]
abbrev xI:List Str:=["_law_held","_law_many"]
abbrev xK:List Str:=["_law_held"]
abbrev si:List Str:=["_law_held","_law_many"]
abbrev sj:List Str:=["_law_cell"]
abbrev nR:List Str:=["_law_held","_law_names_here"]
abbrev xJ:List Str:=["_law_held","_law_hands_here","_law_says"]
abbrev nQ:List Str:=["_law_held","_law_hands_here","_law_done"]
abbrev xH:List Str:=["_law_held","_law_house_here","_law_hands_here","_law_says"]
abbrev Dm:List Str:=["_law_held","_law_house_here","_law_hands_here","_law_says","_law_done"]
abbrev sk:List Str:=["_law_house_here"]
abbrev Dk:List Str:=["_law_cells","_law_house_here"]
abbrev gJ:List Str:=["_law_places","_law_rows","_law_at","_law_message","_law_gone"]
abbrev ff:List Str:=["_law_house_here","_law_log_here","_law_room","_law_messages","_law_gone"]
abbrev Dl:List Str:=["_law_script"]
structure Tops(P:Program)(w:World)(K:AA6)(mg:Str->Option Value)(base:Heap):Prop where
 f_firsts_of:cS K mg "firsts_of" (top 4) gL
 f_is_room:cS K mg "is_room" (top 5) kH
 f_members_of:cS K mg "members_of" (top 6) fh
 f_stamp_of:cS K mg "stamp_of" (top 8) iS
 f_person_of:cS K mg "person_of" (top 9) gK
 f_deeds_of_kind:cS K mg "deeds_of_kind" (top 11) cI
 f_room_of:cS K mg "room_of" (top 13) kG
 f_under_of:cS K mg "under_of" (top 14) iR
 f_can_stand:cS K mg "can_stand" (top 15) gM
 f_says_that_count:cS K mg "says_that_count" (top 16) bU
 f_is_by_writer:cS K mg "is_by_writer" (top 17) cY
 f_writers_own:cS K mg "writers_own" (top 18) dF
 f_last_changes:cS K mg "last_changes" (top 19) cX
 f_stamps_taken_back:cS K mg "stamps_taken_back" (top 20) bD
 f_message_of:cS K mg "message_of" (top 21) fg
 f_says_shown:cS K mg "says_shown" (top 22) fe
 f_messages_of:cS K mg "messages_of" (top 23) dG
 f_taken_back:cS K mg "taken_back" (top 24) eZ
 f_stamps_beneath:cS K mg "stamps_beneath" (top 26) cg
 f_last_first:cS K mg "last_first" (top 27) fi
 f_rows_of_tree:cS K mg "rows_of_tree" (top 28) cW
 f_rows_of:cS K mg "rows_of" (top 29) kF
 f_cell_at:cS K mg "_law_cell_at" (top 31) kI
 f_digits:cS K mg "_law_digits" (top 32) nS
 f_take:cS K mg "_law_take" (top 33) xI
 f_name:cS K mg "_law_name" (top 34) xK
 f_names:cS K mg "_law_names" (top 35) si
 f_house:cS K mg "_law_house" (top 36) sj
 f_saying:cS K mg "_law_saying" (top 37) nR
 f_pick:cS K mg "_law_pick" (top 38) xJ
 f_vector:cS K mg "_law_vector" (top 39) nQ
 f_what:cS K mg "_law_what" (top 40) xH
 f_act:cS K mg "_law_act" (top 41) Dm
 f_hands:cS K mg "_law_hands" (top 42) sk
 f_log:cS K mg "_law_log" (top 43) Dk
 f_right_row:cS K mg "_law_right_row" (top 44) gJ
 f_right_room:cS K mg "_law_right_room" (top 45) ff
 f_law:cS K mg "law" (top 46) Dl
 b:TopB mg B_ C_
 bm:BMain mg base
local macro_rules | `(tactic| walk_at "bb")=>`(tactic| first | exact EK | exact HU | exact EJ | exact HR | exact rN | exact Bm)
local macro_rules | `(tactic| walk_at "tb")=>`(tactic| exact TopB.no (by k_dflt assumption) (by kernel_rfl))
local macro_rules | `(tactic| walk_at "dv")=>`(tactic| (intro _ _ _ _ _ _ _ _ _ _;refine yM rfl ?_;repeat' (first | (with_reducible first | (refine gA ?_;first | exact BU | refine yz ?_ ?_) | exact Gx | (refine Cl ?_;first | exact GF | exact k_bl | exact GB | exact Gz) | (refine GW ?_;first | refine mP (by k_dflt assumption) ?_ (by walk_at "tb") (by walk_at "tb") | refine mQ ?_ (by walk_at "tb") | refine qI (by k_dflt assumption) (by k_dflt assumption) (by k_dflt assumption) ?_ (by walk_at "tb") (λ_ _ _ _ _ _ _ _=>?_) (by k_dflt (exact qE (by kernel_rfl))) (by k_dflt kernel_rfl) (by k_dflt kernel_rfl) (by k_dflt (intro _ _ _ _;kernel_rfl)) | refine yD ?_ (by walk_at "tb") (by walk_at "bb") ?_ | refine uD ?_ (by walk_at "tb") (by walk_at "bb") ?_ | refine GH (by k_dflt assumption) (by k_dflt assumption) ?_ | refine yA (by k_dflt assumption) ?_ ?_ | refine BZ (by k_dflt assumption) ?_ ?_ | refine BX (by k_dflt assumption) ?_ ?_ | refine k_ml ?_ ?_ ?_ | refine GC ?_ ?_) | (refine gIx ?_;first | refine yB ?_ ?_ ?_ | refine BW (by k_dflt assumption) ?_ ?_ (hs:=by k_dflt (intro _ _;kernel_rfl)) | refine Ca (by k_dflt assumption) ?_ ?_ (hs:=by k_dflt (intro _ _;kernel_rfl)) | refine k_ix ?_ ?_ (hs:=by k_dflt (intro _ _;kernel_rfl)) | refine yC (by k_dflt assumption) ?_ ?_ (hs:=by k_dflt (intro _ _;kernel_rfl))) | (refine gT ?_;first | refine BI ?_ ?_ ?_ | refine BH ?_ | refine kw_t (uu ?_ ?_) | refine kw_t (Az ?_ ?_) | refine BG ?_) | (refine gE ?_;first | exact BV | exact BY | refine k_op ?_ ?_ ?_ | refine GG ?_ ?_ ?_ | refine GA ?_ | refine GI ?_ ?_ | refine k_or ?_ ?_ | refine Gy ?_ | refine GD ?_ | refine GE ?_ (λ_ _ _ _=>?_) (λ_ _ _ _=>?_) (λ_ _ _ _=>?_)) | (refine gS ?_;first | exact jK | refine oA (by k_dflt assumption) ?_ ?_ ?_ | refine oB ?_ | refine uw ?_ | refine AB ?_ ?_ ?_ | refine iE (by k_dflt assumption) ?_ (λ_ _ _ _=>?_) (λ_ _ _ _=>?_) (λ_ _ _ _=>?_) | refine uv (by k_dflt assumption) ?_ | refine uy ?_ ?_ | refine oz (by k_dflt assumption) ?_ ?_ ?_ | refine ux ?_ ?_ ?_ | refine jJ ?_ ?_) | (refine gOp ?_;first | exact yI | exact GS (by k_dflt assumption) | exact yH | exact GR | exact GQ | exact GP (by k_dflt assumption) | exact Ci (by k_dflt assumption) | exact Ch (by k_dflt assumption) | exact GO | exact GN | exact Cg (by k_dflt assumption) | exact Cf | exact Ce | exact GM (by k_dflt assumption) | exact qL (by k_dflt assumption) | exact uG (by k_dflt assumption) | exact Cd | exact Cc | exact Cb) | (refine gC ?_;first | exact qP (by k_dflt assumption) | exact uJ (by k_dflt assumption) | exact Ck | exact yL | exact uI | exact yK | exact mT (by k_dflt assumption) | exact mR (by k_dflt assumption) | exact uH) | exact BK | exact yi | exact ym | exact yq | refine BJ ?_ | refine uu ?_ ?_ | refine Az ?_ ?_ | refine ye ?_ | refine BD ?_ | refine yh ?_ | refine yk ?_ | refine qH (by walk_at "tb") ?_ | refine qG (by walk_at "tb") ?_ | refine BN (by walk_at "tb") ?_ | refine yp (by walk_at "tb") ?_ | refine uz ?_ | refine uA ?_ | refine BL ?_ | exact yr (by k_dflt assumption) | exact BR (Dx (by kernel_rfl)) | refine uB ?_ ?_ | refine BO ?_ | refine BP ?_ ?_ | exact qO | exact qN | exact Cj) | refine yj ?_ ?_ | refine oA (by k_dflt assumption) ?_ ?_ ?_ | refine oB ?_ | refine uw ?_ | refine AB ?_ ?_ ?_ | refine iE (by k_dflt assumption) ?_ (λ_ _ _ _=>?_) (λ_ _ _ _=>?_) (λ_ _ _ _=>?_) | refine uv (by k_dflt assumption) ?_ | refine uy ?_ ?_ | refine oz (by k_dflt assumption) ?_ ?_ ?_ | refine ux ?_ ?_ ?_ | refine jJ ?_ ?_ | exact jK)))
local macro_rules | `(tactic| walk_at "dvl")=>`(tactic| (intro _ _ _ _ _ _ _ _ _ _ _;refine yM rfl ?_;repeat' (first | (with_reducible first | (refine gA ?_;first | exact BU | refine yz ?_ ?_) | exact Gx | (refine Cl ?_;first | exact GF | exact k_bl | exact GB | exact Gz) | (refine GW ?_;first | refine mP (by k_dflt assumption) ?_ (by walk_at "tb") (by walk_at "tb") | refine mQ ?_ (by walk_at "tb") | refine qI (by k_dflt assumption) (by k_dflt assumption) (by k_dflt assumption) ?_ (by walk_at "tb") (λ_ _ _ _ _ _ _ _=>?_) (by k_dflt (exact qE (by kernel_rfl))) (by k_dflt kernel_rfl) (by k_dflt kernel_rfl) (by k_dflt (intro _ _ _ _;kernel_rfl)) | refine yD ?_ (by walk_at "tb") (by walk_at "bb") ?_ | refine uD ?_ (by walk_at "tb") (by walk_at "bb") ?_ | refine GH (by k_dflt assumption) (by k_dflt assumption) ?_ | refine yA (by k_dflt assumption) ?_ ?_ | refine BZ (by k_dflt assumption) ?_ ?_ | refine BX (by k_dflt assumption) ?_ ?_ | refine k_ml ?_ ?_ ?_ | refine GC ?_ ?_) | (refine gIx ?_;first | refine yB ?_ ?_ ?_ | refine BW (by k_dflt assumption) ?_ ?_ (hs:=by k_dflt (intro _ _;kernel_rfl)) | refine Ca (by k_dflt assumption) ?_ ?_ (hs:=by k_dflt (intro _ _;kernel_rfl)) | refine k_ix ?_ ?_ (hs:=by k_dflt (intro _ _;kernel_rfl)) | refine yC (by k_dflt assumption) ?_ ?_ (hs:=by k_dflt (intro _ _;kernel_rfl))) | (refine gT ?_;first | refine BI ?_ ?_ ?_ | refine BH ?_ | refine kw_t (uu ?_ ?_) | refine kw_t (Az ?_ ?_) | refine BG ?_) | (refine gE ?_;first | exact BV | exact BY | refine k_op ?_ ?_ ?_ | refine GG ?_ ?_ ?_ | refine GA ?_ | refine GI ?_ ?_ | refine k_or ?_ ?_ | refine Gy ?_ | refine GD ?_ | refine GE ?_ (λ_ _ _ _=>?_) (λ_ _ _ _=>?_) (λ_ _ _ _=>?_)) | (refine gS ?_;first | exact jK | refine oA (by k_dflt assumption) ?_ ?_ ?_ | refine oB ?_ | refine uw ?_ | refine AB ?_ ?_ ?_ | refine iE (by k_dflt assumption) ?_ (λ_ _ _ _=>?_) (λ_ _ _ _=>?_) (λ_ _ _ _=>?_) | refine uv (by k_dflt assumption) ?_ | refine uy ?_ ?_ | refine oz (by k_dflt assumption) ?_ ?_ ?_ | refine ux ?_ ?_ ?_ | refine jJ ?_ ?_) | (refine gOp ?_;first | exact yI | exact GS (by k_dflt assumption) | exact yH | exact GR | exact GQ | exact GP (by k_dflt assumption) | exact Ci (by k_dflt assumption) | exact Ch (by k_dflt assumption) | exact GO | exact GN | exact Cg (by k_dflt assumption) | exact Cf | exact Ce | exact GM (by k_dflt assumption) | exact qL (by k_dflt assumption) | exact uG (by k_dflt assumption) | exact Cd | exact Cc | exact Cb) | (refine gC ?_;first | exact qP (by k_dflt assumption) | exact uJ (by k_dflt assumption) | exact Ck | exact yL | exact uI | exact yK | exact mT (by k_dflt assumption) | exact mR (by k_dflt assumption) | exact uH) | exact BK | exact yi | exact ym | exact yq | refine BJ ?_ | refine uu ?_ ?_ | refine Az ?_ ?_ | refine ye ?_ | refine BD ?_ | refine yh ?_ | refine yk ?_ | refine qH (by walk_at "tb") ?_ | refine qG (by walk_at "tb") ?_ | refine BN (by walk_at "tb") ?_ | refine yp (by walk_at "tb") ?_ | refine uz ?_ | refine uA ?_ | refine BL ?_ | exact yr (by k_dflt assumption) | exact BR (Dx (by kernel_rfl)) | refine uB ?_ ?_ | refine BO ?_ | refine BP ?_ ?_ | exact qO | exact qN | exact Cj) | refine yj ?_ ?_ | refine oA (by k_dflt assumption) ?_ ?_ ?_ | refine oB ?_ | refine uw ?_ | refine AB ?_ ?_ ?_ | refine iE (by k_dflt assumption) ?_ (λ_ _ _ _=>?_) (λ_ _ _ _=>?_) (λ_ _ _ _=>?_) | refine uv (by k_dflt assumption) ?_ | refine uy ?_ ?_ | refine oz (by k_dflt assumption) ?_ ?_ ?_ | refine ux ?_ ?_ ?_ | refine jJ ?_ ?_ | exact jK)))
section
variable{P:Program}{w:World}{K:AA6}{mg:Str->Option Value}{base:Heap}
def iB(p:Str×Int):D:=.tup [.str p.1,.int p.2]
def Hd(d:D):Prop:=∃(x:Str) (k:Int),d=.tup [.str x,.int k]
def hd_eq(ha:Hd a)(hb:Hd b):eqD M (n+1) a b=true↔a=b:=by
 obtain⟨x,k,rfl⟩:=ha;obtain⟨y,l,rfl⟩:=hb;show (eqD M n (.str x) (.str y)&&(eqD M n (.int k) (.int l)&&true))=true↔_;rw[ck,gX];simp
def hd_ok(ha:Hd a):okD M eqN a=true:=by
 obtain⟨x,k,rfl⟩:=ha;rfl
def hd_key(ha:Hd a):cw 8 a=true:=by
 obtain⟨x,k,rfl⟩:=ha;rfl
def vecD(hs:List (D×Int)):List D:=hs.map λp=>.tup [p.1,.int p.2]
noncomputable def Fb(hs:List (D×Int))(hd:D)(num:Int):Bool:=match hs.find? λp=>decide (p.1=hd) with
 | some p=>decide (num<p.2)
 | none=>false
def plD:Nat->D->Bool
 | n+1,.tup xs=>xs.all (plD n)
 | 0,.tup _=>false
 | _,.ref _=>false
 | _,.ty _=>false
 | _,_=>true
def Pln(n:Nat)(d:D):Prop:=plD n d=true
def lY(n:Nat)(ds:List D):Prop:=ds.all (plD n)=true
def Pln.non:Pln n .non:=by cases n<;>rfl
def Pln.bl(b:Bool):Pln n (.bl b):=by cases n<;>rfl
def Pln.int(i:Int):Pln n (.int i):=by cases n<;>rfl
def Pln.str(x:Str):Pln n (.str x):=by cases n<;>rfl
def lY.nil:lY n []:=rfl
def lY.cons(h:Pln n d)(t:lY n ds):lY n (d::ds):=by
 unfold lY Pln at *;rw[ABT,h,t];rfl
def Pln.tup(h:lY n ds):Pln (n+1) (.tup ds):=h
def lY.of(h:∀d∈ds,Pln n d):lY n ds:=AAh.mpr h
def bT:∀(n:Nat) (d:D),Pln n d->Bel k d:=by
 intro n;induction n with
 | zero =>
  intro d h;cases d with
  | tup xs=>cases h
  | ref i=>cases h
  | ty t=>cases h
  | non=>exact .non
  | bl b=>exact .bl b
  | int i=>exact .int i
  | str x=>exact .str x
 | succ n ih =>
  intro d h;cases d with
  | tup xs=>exact .tup (Bels.of λx hx=>ih x (AAh.mp h x hx))
  | ref i=>cases h
  | ty t=>cases h
  | non=>exact .non
  | bl b=>exact .bl b
  | int i=>exact .int i
  | str x=>exact .str x
def oM:∀{xs:List D},(∀x∈xs,f x x=true)->eqL f xs xs=true
 | [],_=>rfl
 | x::xs,h=>by
  show (f x x&&eqL f xs xs)=true;rw[h x (by simp),oM λy hy=>h y (AA9 _ hy)];rfl
def xC:∀(n m:Nat) (d:D),n<=m->Pln n d->okD M m d=true/\eqD M m d d=true:=by
 intro n;induction n with
 | zero =>
  intro m d _ h;cases d with
  | tup xs=>cases h
  | ref i=>cases h
  | ty t=>cases h
  | non=>exact⟨xP,by cases m<;>rfl⟩
  | bl b=>exact⟨Bz,by cases m<;>cases b<;>rfl⟩
  | int i=>exact⟨oh,by rw[gX];exact beq_self_eq_true i⟩
  | str x=>exact⟨aU,by rw[ck];exact beq_self_eq_true x⟩
 | succ n ih =>
  intro m d hm h;cases m with
  | zero=>lia
  | succ m =>
   cases d with
   | tup xs=>exact⟨Dr λx hx=>(ih m x (by lia) (AAh.mp h x hx)).1,oM λx hx=>(ih m x (by lia) (AAh.mp h x hx)).2⟩
   | ref i=>cases h
   | ty t=>cases h
   | non=>exact⟨xP,rfl⟩
   | bl b=>exact⟨Bz,by cases b<;>rfl⟩
   | int i=>exact⟨oh,by rw[gX];exact beq_self_eq_true i⟩
   | str x=>exact⟨aU,by rw[ck];exact beq_self_eq_true x⟩
def AL(h:Hd d):Pln (n+1) d:=by
 obtain⟨x,i,rfl⟩:=h;exact .tup (.cons (.str _) (.cons (.int _) .nil))
def GT(h:Hd d):Bel k d:=bT 1 d (AL h)
def Deed(d:D):Prop:=∃(t:Int) (hd:D) (num:Int) (act:D),d=.tup [.int t,hd,.int num,act]/\Hd hd/\Pln 5 act
def Ev(h:Deed d):Pln 6 d:=by
 obtain⟨t,hd,num,act,rfl,hh,ha⟩:=h;exact .tup (.cons (.int _) (.cons (AL hh) (.cons (.int _) (.cons ha .nil))))
def Ba(h:Deed d):Bel k d:=bT 6 d (Ev h)
def Hz(h:∀d∈ds,Deed d):Bels k ds:=Bels.of λd hd=>Ba (h d hd)
def handD:D->D
 | .tup (_::h::_)=>h
 | _=>.non
def numD:D->Int
 | .tup (_::_::.int n::_)=>n
 | _=>0
noncomputable def many(log:List D)(hd:D):Nat:=(log.filter λd=>decide (handD d=hd)).length
def dP:aM (eK kvs k d) k=some d:=by
 unfold eK;split
 ·rename_i hs
  unfold aM at hs ⊢;rw[Option.isSome_map]at hs;obtain⟨q,hq⟩:=ADg.mp hs;rw[List.find?_map];have e:((λp:D×D=>decide (p.1=k)) ∘ λp:D×D=>if p.1=k then(p.1,d)else p)=λp=>decide (p.1=k):=by
   funext p;show decide ((if p.1=k then(p.1,d)else p).1=k)=decide (p.1=k);split<;>rfl
  rw[e,hq];have hk:q.1=k:=by
   have:=AEW hq;exact oT_ this
  show some (if q.1=k then(q.1,d)else q).2=_;rw[if_pos hk]
 ·rename_i hs
  unfold aM at hs ⊢;rw[Option.isSome_map,Option.not_isSome_iff_eq_none]at hs;rw[List.find?_append,hs];simp
def fx(h:j≠k):aM (eK kvs k d) j=aM kvs j:=by
 unfold eK;split
 ·unfold aM
  rw[List.find?_map];have e:((λp:D×D=>decide (p.1=j)) ∘ λp:D×D=>if p.1=k then(p.1,d)else p)=λp=>decide (p.1=j):=by
   funext p;show decide ((if p.1=k then(p.1,d)else p).1=j)=decide (p.1=j);split<;>rfl
  rw[e];cases hf:kvs.find? λp=>decide (p.1=j) with
  | none=>rfl
  | some q =>
   have hq:q.1=j:=by
    have:=AEW hf;exact oT_ this
   show some (if q.1=k then(q.1,d)else q).2=some q.2;rw[if_neg (by rw[hq];exact h)]
 ·unfold aM
  rw[List.find?_append];cases hf:kvs.find? λp=>decide (p.1=j) with
  | none=>simp[ABO h]
  | some q=>rfl
def cZ:∀{kvs:List (D×D)}{p:D×D},(kvs.map (·.1)).Nodup->p∈kvs->aM kvs p.1=some p.2
 | q::kvs,p,nd,h=>by
  rw[AAQ,ABH]at nd;unfold aM;rw[ABJ];rcases AAJ.mp h with rfl | h
  ·rw[dT_ rfl];rfl
  ·have:q.1≠p.1:=λz=>nd.1 (by rw[z];exact AAg h)
   rw[dF_ this];exact cZ nd.2 h
def bz(h:aM kvs k=some d):(k,d)∈kvs:=by
 unfold aM at h;obtain⟨q,hq,rfl⟩:=ABF.mp h;have e:q.1=k:=by
  have:=AEW hq;exact oT_ this
 rw[<-e];exact List.mem_of_find?_eq_some hq
def cu{α:Type}{P:List α->Prop}(h0:P [])(h1:∀l x,P l->P (l++[x]))(l:List α):P l:=by
 rw[<-AEM l];induction l.reverse with
 | nil=>exact h0
 | cons x xs ih=>rw[List.reverse_cons];exact h1 _ _ ih
def jI(hL:ak M n xs)(ok:∀x∈xs,okD (M++[MO.lst []]) 29 x=true):(okD (M++[MO.lst []]) eqN (.ref n)=true/\okD (M++[MO.lst []]) eqN (.ref M.length)=true)/\eqD (M++[MO.lst []]) eqN (.ref n) (.ref M.length)=xs.isEmpty:=by
 have h1:ak (M++[MO.lst []]) n xs:=hL.more _;have h2:ak (M++[MO.lst []]) M.length []:=aE;refine⟨⟨nZ (n:=29) h1 ok,nZ (n:=29) h2 λ_ z=>nomatch z⟩,?_⟩
 exact(uM (n:=29) h1 h2).trans Eg
def lst_ne(h:m≠n)(l:ak M m xs):ak (M.set n x) m xs:=by
 rcases l with l | l | l
 ·exact .inl (by rw[AAv (ABO h)];exact l)
 ·exact .inr (.inl (by rw[AAv (ABO h)];exact l))
 ·exact .inr (.inr (by rw[AAv (ABO h)];exact l))
def av{M:Mem}{m n:Nat}{x y:MO}(h:m≠n)(l:M[m]?=some y):(M.set n x)[m]?=some y:=by rw[AAv (ABO h)];exact l
def aO{M:Mem}{m:Nat}{y:MO}(l:M[m]?=some y):m<M.length:=(AA7.mp l).1
def Gr(l:ak M m xs):m<M.length:=by
 rcases l with l | l | l<;>exact aO l
def ac{B:Mem}{q:Nat}{x a:MO}(h:B[q]?=some x):(B++[a])[q]?=some x:=by
 rw[AAT (AA7.mp h).1];exact h
def bx{B:Mem}{q:Nat}{x a:MO}(h:B[q]?=some x):(B.set q a)[q]?=some a:=AAx (AA7.mp h).1
def sC(p:M <+: B)(l:ak M q xs):ak B q xs:=by
 obtain⟨L,rfl⟩:=p;exact l.more L
def aH{M B:Mem}{q:Nat}{x:MO}(p:M <+: B)(l:M[q]?=some x):B[q]?=some x:=by
 obtain⟨L,rfl⟩:=p;rw[AAT (aO l)];exact l
def ints_bel(xs:List Int):Bels k (xs.map D.int):=Bels.of λd hd=>by
 obtain⟨x,_,rfl⟩:=AAK.mp hd;exact .int x
def ud(xs:List Str):Bels k (xs.map D.str):=Bels.of λd hd=>by
 obtain⟨x,_,rfl⟩:=AAK.mp hd;exact .str x
def ul{a b:Int}(h:0<b):0<=a % b:=Int.emod_nonneg _ (by lia)
def um{a b:Int}(h:0<b):a % b<b:=Int.emod_lt_of_pos _ h
def at_mod{α:Type}{xs:List α}{i:Int}(h:1<=xs.length):∃x∈xs,atI xs (i % (xs.length:Int))=some x:=by
 obtain⟨j,hj,ej,_⟩:=gI (xs:=xs) (ul (a:=i) (b:=xs.length) (by lia)) (um (by lia))
 exact⟨xs[j],AB5 hj,ej⟩
def bv(p:M <+: B)(h:M.length<=q):M <+: B.set q x:=by
 obtain⟨L,rfl⟩:=p;rw[AEG _ _ h];exact AAl _ _
def dO(p:Str×Int):List D:=(rQ 0 p.2.toNat).map λk=>.tup [.str p.1,k]
def aK(ps:List (Str×Int)):List D:=ps.flatMap dO
def Few(ps:List (Str×Int)):Prop:=ps.length<=4/\∀p∈ps,0<=p.2/\p.2<=3
def gW:(dO p).length=p.2.toNat:=by simp[dO,rQ]
def mU(h:∀p∈ps,0<=p.2/\p.2<=3):(aK ps).length<=3*ps.length:=by
 induction ps with
 | nil=>simp[aK]
 | cons p ps ih =>
  have:=ih λq hq=>h q (AA9 _ hq)
  have h1:=h p AAI;have e:(aK (p::ps)).length=p.2.toNat+(aK ps).length:=by
   rw[aK,List.flatMap_cons,AAA,gW];rfl
  rw[e,AAN];lia
def uK:∀d∈aK ps,Hd d:=λd hd=>by
 unfold aK at hd;obtain⟨p,_,hp⟩:=List.mem_flatMap.mp hd;unfold dO rQ at hp;simp only[AAt,AAK]at hp;obtain⟨i,_,rfl⟩:=hp;exact⟨_,_,rfl⟩
def vW:Bels k (aK ps):=Bels.of λd hd=>GT (uK d hd)
def jv(p:Str×List Str):D:=.tup [.str p.1,.tup (p.2.map .str)]
def aF(ps:List (Str×Int))(rs:List (Str×List Str)):D:=.tup [.tup (ps.map iB),.tup (rs.map jv)]
structure HouseF(ps:List (Str×Int))(rs:List (Str×List Str)):Prop where
 len:1<=ps.length/\ps.length<=4
 many:∀p∈ps,1<=p.2/\p.2<=3
 nm:∀p∈ps,p.1.length<=8
 rl:1<=rs.length/\rs.length<=4
 pnd:(ps.map (·.1)).Nodup
 rnd:(rs.map (·.1)).Nodup
 rm:∀r∈rs,r.2.length<=4
def St(d:D):Prop:=∃(t:Int) (z:Str) (k:Int),d=.tup [.int t,.tup [.str z,.int k]]
def St.key(h:St d):cw 8 d=true:=by obtain⟨t,z,k,rfl⟩:=h;rfl
def St.ok(h:St d):okD M eqN d=true:=by obtain⟨t,z,k,rfl⟩:=h;rfl
def St.pl(h:St d):Pln (n+2) d:=by
 obtain⟨t,z,k,rfl⟩:=h;exact .tup (.cons (.int _) (.cons (.tup (.cons (.str _) (.cons (.int _) .nil))) .nil))
def St.eq(ha:St a)(hb:St b):eqD M (n+2) a b=decide (a=b):=by
 obtain⟨t,z,k,rfl⟩:=ha;obtain⟨t',z',k',rfl⟩:=hb;have e:eqD M (n+2) (.tup [.int t,.tup [.str z,.int k]]) (.tup [.int t',.tup [.str z',.int k']])=((t==t')&&(((z==z')&&((k==k')&&true))&&true)):=by
  show (eqD M (n+1) (.int t) (.int t')&&((eqD M n (.str z) (.str z')&&(eqD M n (.int k) (.int k')&&true))&&true))=_;rw[gX,ck,gX]
 rw[e];by_cases h:D.tup [.int t,.tup [.str z,.int k]]=.tup [.int t',.tup [.str z',.int k']]
 ·rw[dT_ h]
  simp only[D.tup.injEq,ADr,D.int.injEq,D.str.injEq,and_true]at h;obtain⟨rfl,rfl,rfl⟩:=h;simp
 ·rw[dF_ h]
  simp only[D.tup.injEq,ADr,D.int.injEq,D.str.injEq,and_true]at h;refine ABl.mpr λq=>h ?_
  simpa using q
def St.tup(h:St d):∃ks,d=.tup ks:=by obtain⟨t,z,k,rfl⟩:=h;exact⟨_,rfl⟩
structure ActK(rs:List (Str×List Str))(x:Str)(ds:List D):Prop where
 say:x=AA1 "say"->∃(r:Str) (u:D) (s:Str),ds=[.str r,u,.str s]/\r∈rs.map (·.1)/\(u=.non\/St u)
 change:x=AA1 "change"->∃(m:D) (s:Str),ds=[m,.str s]/\St m
 back:x=AA1 "back"->∃m:D,ds=[m]/\St m
 like:x=AA1 "like"->∃(m:D) (s:Str) (b:Bool),ds=[m,.str s,.bl b]/\St m
section
variable{rs:List (Str×List Str)}
def ww:AA1 "say"≠AA1 "change"/\AA1 "say"≠AA1 "back"/\AA1 "say"≠AA1 "like"/\AA1 "change"≠AA1 "back"/\AA1 "change"≠AA1 "like"/\AA1 "back"≠AA1 "like":=by decide +kernel
def ActK.mkSay(hr:r∈rs.map (·.1))(hu:u=.non\/St u):ActK rs (AA1 "say") [.str r,u,.str s] :=
 ⟨λ_=>⟨r,u,s,rfl,hr,hu⟩,λe=>absurd e ww.1,λe=>absurd e ww.2.1,λe=>absurd e ww.2.2.1⟩
def ActK.mkChange(h:St m):ActK rs (AA1 "change") [m,.str s] :=
 ⟨λe=>absurd e.symm ww.1,λ_=>⟨m,s,rfl,h⟩,λe=>absurd e ww.2.2.2.1,λe=>absurd e ww.2.2.2.2.1⟩
def ActK.mkBack(h:St m):ActK rs (AA1 "back") [m] :=
 ⟨λe=>absurd e.symm ww.2.1,λe=>absurd e.symm ww.2.2.2.1,λ_=>⟨m,rfl,h⟩,λe=>absurd e ww.2.2.2.2.2⟩
def ActK.mkLike(h:St m):ActK rs (AA1 "like") [m,.str s,.bl b] :=
 ⟨λe=>absurd e.symm ww.2.2.1,λe=>absurd e.symm ww.2.2.2.2.1,λe=>absurd e.symm ww.2.2.2.2.2,λ_=>⟨m,s,b,rfl,h⟩⟩
def ActK.mkNone(h:x≠AA1 "say"/\x≠AA1 "change"/\x≠AA1 "back"/\x≠AA1 "like"):ActK rs x ds :=
 ⟨λe=>absurd e h.1,λe=>absurd e h.2.1,λe=>absurd e h.2.2.1,λe=>absurd e h.2.2.2⟩
end
def aX(ps:List (Str×Int))(rs:List (Str×List Str))(d:D):Prop:=∃(t:Int) (z:Str) (k num:Int) (x:Str) (ds:List D),d=.tup [.int t,.tup [.str z,.int k],.int num,.tup (.str x::ds)]/\1<=t/\D.tup [.str z,.int k]∈aK ps/\lY 4 ds/\ActK rs x ds
section
variable{ps:List (Str×Int)}{rs:List (Str×List Str)}
def aX.pl(h:aX ps rs d):Pln 6 d:=by
 obtain⟨t,z,k,num,x,ds,rfl,_,_,hp,_⟩:=h;exact .tup (.cons (.int _) (.cons (AL ⟨_,_,rfl⟩) (.cons (.int _) (.cons (.tup (.cons (.str _) hp)) .nil))))
def aX.bels(h:∀d∈ds,aX ps rs d):Bels k ds:=Bels.of λd hd=>bT 6 d (h d hd).pl
end
def da:D->Str
 | .tup [_,_,_,.tup (.str x::_)]=>x
 | _=>AA1 ""
def iC:D->Str
 | .tup (_::.tup (.str z::_)::_)=>z
 | _=>AA1 ""
def stD:D->D
 | .tup (t::h::_)=>.tup [t,h]
 | _=>.non
def bR:D->Str
 | .tup [_,_,_,.tup (_::.str r::_)]=>r
 | _=>AA1 ""
def bf:D->D
 | .tup [_,_,_,.tup (_::_::u::_)]=>u
 | _=>.non
def wy:D->D
 | .tup [_,_,_,.tup (_::m::_)]=>m
 | _=>.non
def sayO:D->D
 | .tup [_,_,_,.tup (_::_::_::s::_)]=>s
 | _=>.non
def numO:D->D
 | .tup [_,_,n,_]=>n
 | _=>.non
def sortO:D->Str
 | .tup [_,_,_,.tup (_::_::.str s::_)]=>s
 | _=>AA1 ""
def onO:D->Bool
 | .tup [_,_,_,.tup (_::_::_::.bl b::_)]=>b
 | _=>false
def uo(rs:List (Str×List Str))(r:Str):List Str:=((rs.find? λp=>decide (p.1=r)).map (·.2)).getD []
noncomputable def kinds(log:List D)(k:Str):List D:=log.filter λd=>decide (da d=k)
section
variable{ps:List (Str×Int)}{rs:List (Str×List Str)}
def gB(h:aX ps rs d)(e:da d=AA1 "say"):∃(t:Int) (z:Str) (k num:Int) (r:Str) (u:D) (s:Str),d=.tup [.int t,.tup [.str z,.int k],.int num,.tup [.str (AA1 "say"),.str r,u,.str s]]/\1<=t/\D.tup [.str z,.int k]∈aK ps/\r∈rs.map (·.1)/\(u=.non\/St u):=by
 obtain⟨t,z,k,num,x,ds,rfl,h1,h2,_,ha⟩:=h;obtain rfl:x=AA1 "say":=e;obtain⟨r,u,s,rfl,hr,hu⟩:=ha.say rfl;exact⟨t,z,k,num,r,u,s,rfl,h1,h2,hr,hu⟩
def lB(h:aX ps rs d)(e:da d=AA1 "change"):∃(t:Int) (z:Str) (k num:Int) (m:D) (s:Str),d=.tup [.int t,.tup [.str z,.int k],.int num,.tup [.str (AA1 "change"),m,.str s]]/\St m:=by
 obtain⟨t,z,k,num,x,ds,rfl,h1,h2,_,ha⟩:=h;obtain rfl:x=AA1 "change":=e;obtain⟨m,s,rfl,hm⟩:=ha.change rfl;exact⟨t,z,k,num,m,s,rfl,hm⟩
def zr(h:aX ps rs d)(e:da d=AA1 "back"):∃(t:Int) (z:Str) (k num:Int) (m:D),d=.tup [.int t,.tup [.str z,.int k],.int num,.tup [.str (AA1 "back"),m]]/\St m:=by
 obtain⟨t,z,k,num,x,ds,rfl,h1,h2,_,ha⟩:=h;obtain rfl:x=AA1 "back":=e;obtain⟨m,rfl,hm⟩:=ha.back rfl;exact⟨t,z,k,num,m,rfl,hm⟩
def like_of(h:aX ps rs d)(e:da d=AA1 "like"):∃(t:Int) (z:Str) (k num:Int) (m:D) (s:Str) (b:Bool),d=.tup [.int t,.tup [.str z,.int k],.int num,.tup [.str (AA1 "like"),m,.str s,.bl b]]/\St m:=by
 obtain⟨t,z,k,num,x,ds,rfl,h1,h2,_,ha⟩:=h;obtain rfl:x=AA1 "like":=e;obtain⟨m,s,b,rfl,hm⟩:=ha.like rfl;exact⟨t,z,k,num,m,s,b,rfl,hm⟩
end
local macro_rules | `(tactic| walk_at "ifs")=>`(tactic| simp only[By,AAE,↓reduceIte,ABv,Bool.not_false])
noncomputable def jg(rs:List (Str×List Str))(kvs:List (D×D))(d:D):Bool:=decide (iC d∈uo rs (bR d))&&(decide (bf d=.non)||match aM kvs (bf d) with
 | some e=>decide (bR e=bR d)
 | none=>false)
noncomputable def vt(rs:List (Str×List Str))(kvs:List (D×D))(d:D):List (D×D):=if jg rs kvs d=true then eK kvs (stD d) d else kvs
noncomputable def aQ(rs:List (Str×List Str))(l:List D):List (D×D):=l.foldl (vt rs) []
def dY:aQ rs (l++[d])=vt rs (aQ rs l) d:=by
 unfold aQ;rw[AE9];rfl
noncomputable def ah(rs:List (Str×List Str))(log:List D):List (D×D):=aQ rs (kinds log (AA1 "say"))
def vT:kinds (log++[d]) k=kinds log k++if da d=k then[d]else[]:=by
 unfold kinds;rw[ADB];congr 1;by_cases h:da d=k
 ·rw[AC0,dT_ h,if_pos rfl,if_pos h];rfl
 ·rw[AC0,dF_ h,if_neg (by decide),if_neg h];rfl
def bc(h:d∈kinds log k):d∈log/\da d=k:=⟨(AAj.mp h).1,oT_ (AAj.mp h).2⟩
def bL:(kinds log k).length<=log.length:=ABM _ _
structure TabK(l:List D)(kvs:List (D×D)):Prop where
 nd:(kvs.map (·.1)).Nodup
 en:∀p∈kvs,p.1=stD p.2/\p.2∈l
 len:kvs.length<=l.length
def iy(h:p∈eK kvs k d):p=(k,d)\/p∈kvs:=by
 unfold eK at h;split at h
 ·obtain⟨q,hq,rfl⟩:=AAK.mp h
  split
  ·rename_i e;rw[e];exact .inl rfl
  ·exact .inr hq
 ·rcases AAa.mp h with h | h
  ·exact .inr h
  ·exact .inl (by simpa using h)
def nM:(eK kvs k d).length<=kvs.length+1:=by
 unfold eK;split
 ·rw[AA4];lia
 ·simp
def fQ(l:List D):TabK l (aQ rs l):=by
 refine cu (P:=λl=>TabK l (aQ rs l)) ⟨.nil,(λ_ z=>nomatch z),AA8 _⟩ (λl d ih=>?_) l
 rw[dY];unfold vt;have hs:∀p∈aQ rs l,p.1=stD p.2/\p.2∈l++[d]:=λp hp=>⟨(ih.en p hp).1,AAP _ (ih.en p hp).2⟩
 have hl:=ih.len;split
 ·refine⟨kA ih.nd,λp hp=>?_,?_⟩
  ·rcases iy hp with rfl | hp
   ·exact⟨rfl,by simp⟩
   ·exact hs p hp
  ·have:=nM (kvs:=aQ rs l) (k:=stD d) (d:=d)
   rw[AAA,AAb];lia
 ·exact⟨ih.nd,hs,by rw[AAA,AAb];lia⟩
def aN:TabK (kinds log (AA1 "say")) (ah rs log):=fQ _
def yO(t:TabK l kvs)(h:aM kvs k=some e):k=stD e/\e∈l:=t.en _ (bz h)
noncomputable def byW(kvs:List (D×D))(d:D):Bool:=match aM kvs (wy d) with
 | some e=>decide (iC d=iC e)
 | none=>false
def NmK(d:D):Prop:=∃(a:D) (z:Str) (r1 r2:List D),d=.tup (a::.tup (.str z::r1)::r2)
section
variable{ps:List (Str×Int)}{rs:List (Str×List Str)}
def aX.nm(h:aX ps rs d):NmK d:=by
 obtain⟨t,z,k,num,x,ds,rfl,_⟩:=h;exact⟨_,_,_,_,rfl⟩
def aX.st(h:aX ps rs d):St (stD d):=by
 obtain⟨t,z,k,num,x,ds,rfl,_⟩:=h;exact⟨_,_,_,rfl⟩
def St.cm(ha:St a)(hb:St b):iM M eqN a b=true:=by
 obtain⟨t,z,k,rfl⟩:=ha;obtain⟨t',z',k',rfl⟩:=hb;show (if eqD M 29 (.int t) (.int t')=true then(if eqD M 29 (.tup [.str z,.int k]) (.tup [.str z',.int k'])=true then true else(if eqD M 28 (.str z) (.str z')=true then(if eqD M 28 (.int k) (.int k')=true then true else true)else true))else true)=true;repeat' split
 all_goals rfl
def nG(h:∀x∈xs,St x)(l:xs.length<64):SrtOk M xs:=by
 refine⟨l,λx hx=>?_,λx hx y hy=>(h x hx).cm (h y hy),.inr (.inr (.inr (.inl λx hx=>?_)))⟩
 ·obtain⟨t,z,k,rfl⟩:=h x hx;rfl
 ·obtain⟨t,z,k,rfl⟩:=h x hx;exact⟨_,_,rfl⟩
end
def aT(kvs:List (D×D))(log:List D)(k:D):Prop:=∃d∈kinds log (AA1 "back"),byW kvs d=true/\wy d=k
def jF(h:k∉kvs.map (·.1)):eK kvs k d=kvs++[(k,d)]:=by
 unfold eK;rw[if_neg];intro z;obtain⟨e,he⟩:=ADg.mp z;exact h (AAg (f:=(·.1)) (bz he))
def yZ(ps:List (D×D))(h:(ps.map (·.1)).Nodup):dictOf ps=ps:=by
 revert h;refine cu (P:=λps=>(ps.map (·.1)).Nodup->dictOf ps=ps) (λ_=>rfl) (λps p ih h=>?_) ps
 rw[AAW]at h;have h':=ABL.mp h;rw[dS,ih h'.1,jF];intro z;exact h'.2.2 _ z _ (by simp) rfl
def oF{M:Mem}{x:Str}{l:List Str}:inD M (.str x) (l.map .str)=decide (x∈l):=by
 unfold inD;rw[List.any_map];by_cases h:x∈l
 ·rw[dT_ h]
  exact AD0.mpr ⟨x,h,by show eqD M eqN (.str x) (.str x)=true;rw[ck];exact beq_self_eq_true x⟩
 ·rw[dF_ h]
  refine ABl.mpr λz=>?_
  obtain⟨y,hy,e⟩:=AD0.mp z;have e':eqD M eqN (.str y) (.str x)=true:=e;rw[ck]at e';exact h (eq_of_beq e' ▸ hy)
def nH{M:Mem}{l:List Str}:(l.map D.str).all (okD M eqN)=true:=AAh.mpr λx hx=>by
 obtain⟨y,_,rfl⟩:=AAK.mp hx;exact aU
noncomputable def ba(rs:List (Str×List Str))(log:List D):List (D×D):=(ah rs log).filter λp=>@decide (¬aT (ah rs log) log p.1) (AAH _)
def dh:p∈ba rs log↔p∈ah rs log/\¬aT (ah rs log) log p.1:=by
 unfold ba;rw[List.mem_filter];exact and_congr Iff.rfl (@decide_eq_true_iff _ (AAH _))
def jE:((ba rs log).map (·.1)).Nodup:=(ADd.map _).nodup aN.nd
def Fq(h:aM (ah rs log) k=some e)(hb:¬aT (ah rs log) log k):aM (ba rs log) k=some e:=cZ (p:=(k,e)) jE (dh.mpr ⟨bz h,hb⟩)
noncomputable def cN(kvs:List (D×D))(log:List D):List (D×D):=dictOf (((kinds log (AA1 "change")).filter (byW kvs)).map λd=>(wy d,bf d))
noncomputable def ET(ch:List (D×D))(d:D):D:=.tup [stD d,.str (bR d),bf d,.str (iC d),(aM ch (stD d)).getD (sayO d),.bl (aM ch (stD d)).isSome]
noncomputable def ao(rs:List (Str×List Str))(log:List D):List D:=(ba rs log).map λp=>ET (cN (ba rs log) log) p.2
structure BackL(rs:List (Str×List Str))(log:List D)(ys:List D):Prop where
 st:∀x∈ys,St x
 mem:∀x,x∈ys↔aT (ah rs log) log x
 nd:ys.Nodup
 up:ys.Pairwise λa b=>¬enc eqN b<enc eqN a
def Cp:D->D
 | .tup [_,_,_,a]=>a
 | _=>.non
noncomputable def kq(l:List D):List (D×D):=l.foldl (λkvs d=>eK kvs (stD d) (Cp d)) []
noncomputable def zS(log:List D):List (D×D):=kq (kinds log (AA1 "say"))
def fK:kq (l++[d])=eK (kq l) (stD d) (Cp d):=by
 unfold kq;rw[AE9];rfl
def EO:zS (log++[d])=if da d=AA1 "say" then eK (zS log) (stD d) (Cp d)else zS log:=by
 unfold zS;rw[vT];split
 ·rw[fK]
 ·rw[AB7]
def said_en(l:List D):∀p∈kq l,∃d∈l,p=(stD d,Cp d):=by
 refine cu (P:=λl=>∀p∈kq l,∃d∈l,p=(stD d,Cp d)) (λ_ z=>nomatch z) (λl d ih p hp=>?_) l
 rw[fK]at hp;rcases iy hp with rfl | hp
 ·exact⟨d,by simp,rfl⟩
 ·obtain⟨e,he,r⟩:=ih p hp
  exact⟨e,AAP _ he,r⟩
def said_len(l:List D):(kq l).length<=l.length:=by
 refine cu (P:=λl=>(kq l).length<=l.length) (AA8 _) (λl d ih=>?_) l
 rw[fK,AAA,AAb];have:=nM (kvs:=kq l) (k:=stD d) (d:=Cp d);lia
def Ris(l:List D):Prop:=l.Pairwise λa b=>enc eqN (stD a)<enc eqN (stD b)
def Ris.one(h:Ris l):∀a∈l,∀b∈l,stD a=stD b->a=b:=by
 induction l with
 | nil=>intro a ha;cases ha
 | cons x l ih =>
  obtain⟨h1,h2⟩:=ADu.mp h;intro a ha b hb e;rcases AAJ.mp ha with ea | ha'<;>rcases AAJ.mp hb with eb | hb'
  ·rw[ea,eb]
  ·have:=h1 b hb';rw[<-ea,e]at this;exact absurd this (ABD _)
  ·have:=h1 a ha';rw[<-eb,e]at this;exact absurd this (ABD _)
  ·exact ih h2 a ha' b hb' e
def said_has(h:Ris l):∀d∈l,aM (kq l) (stD d)=some (Cp d):=by
 revert h;refine cu (P:=λl=>Ris l->∀d∈l,aM (kq l) (stD d)=some (Cp d)) (λ_ _ z=>nomatch z) (λl x ih h d hd=>?_) l
 obtain⟨h1,_,h3⟩:=ACM.mp h;rw[fK];rcases AAa.mp hd with hd | hd
 ·have:=h3 d hd x (by simp)
  rw[fx (λe=>by rw[e]at this;exact ABD _ this)]
  exact ih h1 d hd
 ·rw[show d=x by simpa using hd,dP]
inductive Stn(rs:List (Str×List Str))(l:List D):D->Prop
 | top {d:D} (h:d∈l) (m:iC d∈uo rs (bR d)) (u:bf d=.non):Stn rs l d
 | sub {d e:D} (h:d∈l) (m:iC d∈uo rs (bR d)) (s:Stn rs l e) (u:bf d=stD e) (o:enc eqN (stD e)<enc eqN (stD d)) (r:bR e=bR d):Stn rs l d
def Stn.mem(h:Stn rs l d):d∈l:=by cases h<;>assumption
def Stn.nm(h:Stn rs l d):iC d∈uo rs (bR d):=by cases h<;>assumption
def Stn.more(h:Stn rs l d):Stn rs (l++l') d:=by
 induction h with
 | top h m u=>exact .top (AAP _ h) m u
 | sub h m _ u o r ih=>exact .sub (AAP _ h) m ih u o r
def Stn.less(hl:∀y∈l,enc eqN (stD y)<enc eqN (stD x))(h:Stn rs (l++[x]) d):d∈l->Stn rs l d:=by
 induction h with
 | top h m u=>exact λhd=>.top hd m u
 | sub h m s u o r ih =>
  intro hd;rename_i d e;rcases AAa.mp s.mem with he | he
  ·exact .sub hd m (ih he) u o r
  ·rw[show e=x by simpa using he]at o
   exact absurd (List.lt_trans o (hl d hd)) (ABD _)
def zg(hu:∀d∈l,bf d=.non\/St (bf d))(hS:∀d∈l,St (stD d))(h:Ris l):∀d∈l,aM (aQ rs l) (stD d)=some d↔Stn rs l d:=by
 revert h hu hS;refine cu (P:=λl=>(∀d∈l,bf d=.non\/St (bf d))->(∀d∈l,St (stD d))->Ris l->∀d∈l,aM (aQ rs l) (stD d)=some d↔Stn rs l d) (λ_ _ _ _ z=>nomatch z) (λl x ih hu hS h d hd=>?_) l
 obtain⟨h1,_,h3⟩:=ACM.mp h;have lx:∀y∈l,enc eqN (stD y)<enc eqN (stD x):=λy hy=>h3 y hy x (by simp)
 have ih':=ih (λd hd=>hu d (AAP _ hd)) (λd hd=>hS d (AAP _ hd)) h1
 have tb:=fQ (rs:=rs) l;have nx:aM (aQ rs l) (stD x)=none:=by
  cases e:aM (aQ rs l) (stD x) with
  | none=>rfl
  | some e' =>
   obtain⟨e1,e2⟩:=yO tb e;have:=lx e' e2;rw[<-e1]at this;exact absurd this (ABD _)
 rw[dY];unfold vt;rcases AAa.mp hd with hd | hd
 ·have ne:stD d≠stD x:=λe=>by have:=lx d hd;rw[e]at this;exact ABD _ this
  have:aM (if jg rs (aQ rs l) x=true then eK (aQ rs l) (stD x) x else aQ rs l) (stD d)=aM (aQ rs l) (stD d):=by
   split
   ·exact fx ne
   ·rfl
  rw[this,ih' d hd];exact⟨Stn.more,λz=>z.less lx hd⟩
 ·obtain rfl:d=x:=by simpa using hd
  have sb:aM (if jg rs (aQ rs l) d=true then eK (aQ rs l) (stD d) d else aQ rs l) (stD d)=some d↔jg rs (aQ rs l) d=true:=by
   split
   ·rename_i e;rw[dP];exact⟨λ_=>e,λ_=>rfl⟩
   ·rename_i e;rw[nx];exact⟨λz=>(by cases z),λz=>absurd z e⟩
  rw[sb];unfold jg;rw[AAY,AES,decide_eq_true_eq,decide_eq_true_eq];constructor
  ·rintro⟨m,u | u⟩
   ·exact .top (by simp) m u
   ·cases e:aM (aQ rs l) (bf d) with
    | none=>rw[e]at u;cases u
    | some e' =>
     rw[e]at u;obtain⟨e1,e2⟩:=yO tb e;rw[e1]at e;exact .sub (by simp) m ((ih' e' e2).mp e).more e1 (lx e' e2) (oT_ u)
  ·intro s
   cases s with
   | top _ m u=>exact⟨m,.inl u⟩
   | @sub _ e _ m s u o r =>
    have he:e∈l:=by
     rcases AAa.mp s.mem with he | he
     ·exact he
     ·rw[show e=d by simpa using he]at o
      exact absurd o (ABD _)
    refine⟨m,.inr ?_⟩;rw[u,(ih' e he).mpr (s.less lx he)];exact dT_ r
def Ef{α:Type}{p q:α->Bool}{x:α}(hpq:∀y,p y=true->q y=true)(hq:q x=true)(hp:p x=false):∀{l:List α},x∈l->(l.filter p).length<(l.filter q).length
 | y::l,h=>by
  have mono:∀l:List α,(l.filter p).length<=(l.filter q).length:=λl=>by
   induction l with
   | nil=>exact AA8 _
   | cons z l ih =>
    rw[AC0,AC0];cases e:p z with
    | true=>rw[hpq z e,if_pos rfl,if_pos rfl,AAN,AAN];lia
    | false =>
     rw[if_neg (by decide)]
     split
     ·rw[AAN];lia
     ·exact ih
  rw[AC0,AC0];rcases AAJ.mp h with rfl | h
  ·rw[hp,hq,if_neg (by decide),if_pos rfl,AAN]
   have:=mono l;lia
  ·have ih:=Ef hpq hq hp h
   cases e:p y with
   | true=>rw[hpq y e,if_pos rfl,if_pos rfl,AAN,AAN];lia
   | false =>
    rw[if_neg (by decide)]
    split
    ·rw[AAN];lia
    ·exact ih
def HdP(M:Mem)(q:Nat):Prop:=∃n:Int,M[q]?=some (.lst [.int n])
def Hl(M B:Mem)(q:Nat):Prop:=∃(n:Int) (L:Mem),B=M.set q (.lst [.int n])++L
section
variable{M B:Mem}{q m i:Nat}{n:Int}{x:MO}
def zP(h:M[q]?=some x):M.set q x=M:=by
 refine ADL λj=>?_
 by_cases e:q=j
 ·subst e;rw[AAx (aO h),h]
 ·rw[AAv e]
def HdP.lt(h:HdP M q):q<M.length:=by obtain⟨n,h⟩:=h;exact aO h
def HdP.start(h:HdP M q):Hl M M q:=by
 obtain⟨n,h⟩:=h;exact⟨n,[],by rw[AB7,zP h]⟩
def Hl.len(h:Hl M B q):M.length<=B.length:=by
 obtain⟨n,L,rfl⟩:=h;rw[AAA,AB1];lia
def Hl.hd(hq:q<M.length)(h:Hl M B q):HdP B q:=by
 obtain⟨n,L,rfl⟩:=h;exact⟨n,by rw[AAT (by rw[AB1];exact hq),AAx hq]⟩
def Hl.set(hq:q<M.length)(h:Hl M B q):Hl M (B.set q (.lst [.int n])) q:=by
 obtain⟨n',L,rfl⟩:=h;exact⟨n,L,by rw[List.set_append_left _ _ (by rw[AB1];exact hq),List.set_set]⟩
def Hl.more(h:Hl M B q):Hl M (B++L) q:=by
 obtain⟨n',L',rfl⟩:=h;exact⟨n',L'++L,by rw[AAk]⟩
def Hl.setO(h:Hl M B q)(hm:M.length<=m):Hl M (B.set m x) q:=by
 obtain⟨n',L,rfl⟩:=h;exact⟨n',L.set (m-M.length) x,by rw[AEG _ _ (by rw[AB1];exact hm),AB1]⟩
def Hl.old(h:Hl M B q)(hi:i≠q)(e:M[i]?=some x):B[i]?=some x:=by
 obtain⟨n',L,rfl⟩:=h;rw[AAT (by rw[AB1];exact aO e),AAv (ABO hi)]
 exact e
def Hl.oldL(h:Hl M B q)(hi:i≠q)(e:ak M i xs):ak B i xs:=by
 rcases e with e | e | e
 ·exact .inl (h.old hi e)
 ·exact .inr (.inl (h.old hi e))
 ·exact .inr (.inr (h.old hi e))
def Hl.fin(h:Hl M B q)(b:Bel M.length d)(k:∀n:Int,R d (M.set q (.lst [.int n]))):bI M R d B:=by
 obtain⟨n',L,rfl⟩:=h;exact bI.chg (Chg.set .refl (.cons (.int _) .nil)) (k n') b (AAl _ _)
def Hl.finL(h:Hl M B q)(hm:M.length<=m)(e:B[m]?=some (.lst xs))(b:Bels M.length xs)(k:∀n:Int,R (.ref M.length) (M.set q (.lst [.int n])++[.lst xs])):bI M R (.ref m) B:=by
 obtain⟨n',L,rfl⟩:=h;exact bI.chgL (Chg.set .refl (.cons (.int _) .nil)) (k n') hm e (AAl _ _) b
end
def AI(u:Option Int)(n:Nat):ADH none u 1 n=ADH (some ((0:Nat):Int)) u 1 n:=by
 unfold ADH;simp only[show (1:Int) > 0 by decide,if_true]
 congr 1
def zO(x:Str)(b:Nat):(AER x none (some (b:Int))).cps.toList=x.cps.toList.take b:=by
 have e:=xq x (a:=0) (b:=b) (AAX _);rw[ip]at e ⊢;rw[AI];rw[e];simp
def zN(x:Str)(b:Nat):(AER x none (some (b:Int))).length<=b:=by
 rw[kT,zO,AAy];lia
def zL{M:Mem}{l:List Str}(h:l.length<64):SrtOk M (l.map .str) :=
 ⟨by rw[AA4];exact h,λx hx=>by obtain⟨y,_,rfl⟩:=AAK.mp hx;rfl,λx hx y hy=>by
  obtain⟨a,_,rfl⟩:=AAK.mp hx;obtain⟨b,_,rfl⟩:=AAK.mp hy;rfl,.inl λx hx=>by obtain⟨y,_,rfl⟩:=AAK.mp hx;exact⟨y,rfl⟩⟩
def qc{ys:List D}{xs:List Str}(h:ys.Perm (xs.map .str)):∃zs:List Str,ys=zs.map .str/\zs.Perm xs:=Aa D.str unS (λ_=>rfl) h
noncomputable def ax(r:Str)(es:List D)(k:D):List D:=(es.filter λe=>decide (bR e=r)&&decide (bf e=k)).map stD
def yn:ax r (es++[e]) k=if bR e=r/\bf e=k then ax r es k++[stD e]else ax r es k:=by
 unfold ax;rw[ADB,AAW,AC0,List.filter_nil];by_cases h:bR e=r/\bf e=k
 ·rw[if_pos h,dT_ h.1,dT_ h.2];rfl
 ·rw[if_neg h,if_neg]
  ·simp
  ·intro z
   have:=(AAY _ _).mp z;exact h ⟨oT_ this.1,oT_ this.2⟩
structure TreeAt(B:Mem)(n:Nat)(tab:List (D×D))(f:D->List D):Prop where
 at_:B[n]?=some (.dkm tab)
 got:∀k d,aM tab k=some d->∃m,d=.ref m/\n<m/\B[m]?=some (.lst (f k))
 no:∀k,aM tab k=none->f k=[]
 one:∀k k' m,aM tab k=some (.ref m)->aM tab k'=some (.ref m)->k=k'
def bn(n:Int)(xs:List D):List D:=xs.reverse.map λx=>.tup [.int n,x]
inductive RunW(f:D->List D):List D->List D->List D->Prop
 | done {rows:List D}:RunW f rows [] rows
 | step {rows todo out:List D}{n:Int}{x:D} (h:RunW f (rows++[.tup [.int n,x]]) (todo++bn (n+1) (f x)) out):RunW f rows (todo++[.tup [.int n,x]]) out
def RunW.uni(h:RunW f rows todo out)(h':RunW f rows todo out'):out=out':=by
 induction h generalizing out' with
 | done =>
  generalize e:([]:List D)=t at h';cases h' with
  | done=>rfl
  | step h=>simp at e
 | @step rows todo out n x h ih =>
  generalize e:todo++[.tup [.int n,x]]=t at h';cases h' with
  | done=>simp at e
  | @step _ todo2 _ n2 x2 h2 =>
   obtain⟨rfl,e2⟩:=List.append_inj' e rfl;injection e2 with e2
   injection e2 with e2
   injection e2 with e3 e4
   injection e3 with e3
   injection e4 with e4
   subst e3 e4;exact ih h2
def aY:D->D
 | .tup [_,s]=>s
 | _=>.non
structure TreeW(r:Str)(es rows todo:List D):Prop where
 nd:((rows++todo).map aY).Nodup
 ok:∀x∈rows++todo,∃(k:Int) (e:D),x=.tup [.int k,stD e]/\e∈es/\bR e=r/\(bf e=.non\/bf e∈rows.map aY)
def dL:x∈ax r es k↔∃e∈es,stD e=x/\bR e=r/\bf e=k:=by
 unfold ax;rw[AAK];constructor
 ·rintro⟨e,he,rfl⟩
  have h1:=AAj.mp he;have h2:=(AAY _ _).mp h1.2;exact⟨e,h1.1,rfl,oT_ h2.1,oT_ h2.2⟩
 ·rintro⟨e,he,rfl,h1,h2⟩
  exact⟨e,AAj.mpr ⟨he,by rw[dT_ h1,dT_ h2];rfl⟩,rfl⟩
def kt:x∈bn n xs↔∃s∈xs,x=.tup [.int n,s]:=by
 unfold bn;rw[AAK];exact⟨λ⟨s,h,e⟩=>⟨s,ACL.mp h,e.symm⟩,λ⟨s,h,e⟩=>⟨s,ACL.mpr h,e.symm⟩⟩
def eX:(bn n xs).map aY=xs.reverse:=by
 unfold bn;rw[AAt];exact ACu _
section
variable{r:Str}{es rows todo:List D}
def yo(h:(es.map stD).Nodup)(k:D):(ax r es k).Nodup:=(ADd.map _).nodup h
def CC(h:(es.map stD).Nodup)(ha:a∈es)(hb:b∈es)(e:stD a=stD b):a=b:=by
 induction es with
 | nil=>cases ha
 | cons x es ih =>
  rw[AAQ,ABH]at h;rcases AAJ.mp ha with ha | ha<;>rcases AAJ.mp hb with hb | hb
  ·rw[ha,hb]
  ·rw[ha]at e;exact absurd (e ▸ AAg hb) h.1
  ·rw[hb]at e;exact absurd (e ▸ AAg ha) h.1
  ·exact ih h.2 ha hb
def TreeW.start(h:(es.map stD).Nodup):TreeW r es [] (bn 0 (ax r es .non)):=by
 refine⟨?_,λx hx=>?_⟩
 ·rw[AAs,eX]
  exact(List.reverse_perm _).nodup_iff.mpr (yo h _)
 ·obtain⟨s,hs,rfl⟩:=kt.mp hx
  obtain⟨e,he,rfl,h1,h2⟩:=dL.mp hs;exact⟨0,e,rfl,he,h1,.inl h2⟩
def TreeW.step(h:(es.map stD).Nodup)(hS:∀e∈es,stD e≠.non)(w:TreeW r es rows (todo++[.tup [.int k,s]])):TreeW r es (rows++[.tup [.int k,s]]) (todo++bn (k+1) (ax r es s)):=by
 obtain⟨k0,e0,q0,he0,_⟩:=w.ok (.tup [.int k,s]) (by simp)
 have es0:s=stD e0:=by injection q0 with q;injection q with _ q;injection q
 have sn:s≠.non:=by rw[es0];exact hS e0 he0
 have w1:=w.nd;have sr:s∉rows.map aY:=λz=>by
  rw[AAW]at w1;have:=(ABL.mp w1).2.2 s z s (by rw[AAW];exact AAB _ (by simp[aY]))
  exact this rfl
 refine⟨?_,λx hx=>?_⟩
 ·have p:(rows++[D.tup [.int k,s]]++(todo++bn (k+1) (ax r es s))).Perm (rows++(todo++[D.tup [.int k,s]])++bn (k+1) (ax r es s)):=by
   rw[AAk,AAk];refine List.Perm.append_left _ ?_
   rw[<-AAk];exact List.Perm.append_right _ List.perm_append_comm
  rw[(p.map aY).nodup_iff,AAW,ABL];refine⟨w1,by rw[eX];exact(List.reverse_perm _).nodup_iff.mpr (yo h _),λa ha b hb e=>?_⟩
  subst e;rw[eX,ACL]at hb;obtain⟨e,he,f1,_,f2⟩:=dL.mp hb;obtain⟨x,hx,f3⟩:=AAK.mp ha;obtain⟨k',e',rfl,he',_,f4⟩:=w.ok x hx;have:e'=e:=CC h he' he (f3.trans f1.symm);subst this;rcases f4 with f4 | f4
  ·exact sn (f2.symm.trans f4)
  ·exact sr (f2 ▸ f4)
 ·have up:∀y,y∈rows.map aY->y∈(rows++[D.tup [.int k,s]]).map aY:=λy hy=>by rw[AAW];exact AAP _ hy
  have old:∀x,x∈rows++(todo++[D.tup [.int k,s]])->∃(k':Int) (e:D),x=.tup [.int k',stD e]/\e∈es/\bR e=r/\(bf e=.non\/bf e∈(rows++[D.tup [.int k,s]]).map aY):=λx hx=>by
   obtain⟨k',e,q1,q2,q3,q4⟩:=w.ok x hx;exact⟨k',e,q1,q2,q3,q4.imp_right (up _)⟩
  rcases AAa.mp hx with hx | hx
  ·rcases AAa.mp hx with hx | hx
   ·exact old x (AAP _ hx)
   ·exact old x (AAB _ (AAB _ hx))
  ·rcases AAa.mp hx with hx | hx
   ·exact old x (AAB _ (AAP _ hx))
   ·obtain⟨y,hy,rfl⟩:=kt.mp hx
    obtain⟨e,he,rfl,h1,h2⟩:=dL.mp hy;exact⟨k+1,e,rfl,he,h1,.inr (by rw[h2,AAW];exact AAB _ (by simp[aY]))⟩
def qq{l l':List D}(nd:l.Nodup)(h:∀x∈l,x∈l'):l.length<=l'.length:=by
 induction l generalizing l' with
 | nil=>exact AAX _
 | cons x l ih =>
  obtain⟨n1,n2⟩:=ABH.mp nd;obtain⟨s,t,rfl⟩:=List.append_of_mem (h x (by simp))
  have:=ih (l':=s++t) n2 λy hy=>by
   have:=h y (AA9 _ hy);rcases AAa.mp this with q | q
   ·exact AAP _ q
   ·rcases AAJ.mp q with rfl | q
    ·exact absurd hy n1
    ·exact AAB _ q
  rw[AAA]at this;rw[AAA,AAN,AAN];lia
def TreeW.len(w:TreeW r es rows todo):rows.length+todo.length<=es.length:=by
 have:=qq w.nd (l':=es.map stD) λx hx=>by
  obtain⟨y,hy,rfl⟩:=AAK.mp hx;obtain⟨k,e,rfl,he,_⟩:=w.ok y hy;exact AAg he
 rw[AA4,AA4,AAA]at this;exact this
def AD:(ax r es k).length<=es.length:=by
 unfold ax;rw[AA4];exact ABM _ _
end
def TreeAt.pre(h:TreeAt B n tab f)(p:B <+: B'):TreeAt B' n tab f :=
 ⟨aH p h.at_,λk d hd=>let ⟨m,e,l,g⟩:=h.got k d hd;⟨m,e,l,aH p g⟩,h.no,h.one⟩
def TreeAt.kids(h:TreeAt B n tab f)(g0:B[q0]?=some (.lst [])):∃q,(aM tab k).getD (.ref q0)=.ref q/\B[q]?=some (.lst (f k)):=by
 cases e:aM tab k with
 | none=>exact⟨q0,rfl,by rw[h.no k e];exact g0⟩
 | some d =>
  obtain⟨m,rfl,_,g⟩:=h.got k d e;exact⟨m,rfl,g⟩
def dpt:D->Int
 | .tup [.int k,_]=>k
 | _=>0
theorem RunW.tree(nd:(es.map stD).Nodup)(hS:∀e∈es,stD e≠.non)(h:RunW (ax r es) rows todo out):TreeW r es rows todo->TreeW r es out []:=by
 induction h with
 | done=>exact id
 | step h ih=>exact λw=>ih (w.step nd hS)
structure DepI(u:D->D)(rows todo:List D):Prop where
 to:∀T1 t T2,todo=T1++t::T2->∀A p B,rows=A++p::B->u (aY t)=aY p->dpt t=dpt p+1/\∀b∈B++T2,dpt t<=dpt b
 old:∀A p B x C,rows=A++p::(B++x::C)->u (aY x)=aY p->dpt x=dpt p+1/\∀b∈B,dpt x<=dpt b
def df(h:rows++[x]=A++p::B):(A=rows/\p=x/\B=[])\/∃B',B=B'++[x]/\rows=A++p::B':=by
 rcases List.eq_nil_or_concat B with rfl | ⟨B',y,rfl⟩
 ·obtain⟨h1,h2⟩:=List.append_inj' h rfl
  exact .inl ⟨h1.symm,by injection h2 with h2;exact h2.symm,rfl⟩
 ·rw[AEI,<-ACX,<-AAk]at h
  obtain⟨h1,h2⟩:=List.append_inj' h rfl;injection h2 with h2
  subst h2;exact .inr ⟨B',AEI,h1⟩
def DepI.step{u:D->D}{rows todo K:List D}{n:Int}{s:D}(d:DepI u rows (todo++[.tup [.int n,s]]))(hs:s∉rows.map aY)(ht:∀t∈todo,u (aY t)≠s)(hk:∀t∈K,dpt t=n+1/\u (aY t)=s):DepI u (rows++[.tup [.int n,s]]) (todo++K):=by
 refine⟨λT1 t T2 e A p B e' hu=>?_,λA p B x C e hu=>?_⟩
 ·rcases List.append_eq_append_iff.mp e with⟨L,h1,h2⟩|⟨L,h1,h2⟩
  ·have tk:t∈K:=by rw[h2];simp
   obtain⟨q1,q2⟩:=hk t tk;rcases df e' with⟨_,rfl,rfl⟩|⟨B',rfl,er⟩
   ·refine⟨q1,λb hb=>?_⟩
    have:b∈K:=by rw[h2];simp only[AAs]at hb;exact AAB _ (AA9 _ hb)
    rw[q1,(hk b this).1];exact Int.le_refl _
   ·exfalso
    refine hs ?_
    rw[<-q2,hu,er];simp
  ·cases L with
   | nil =>
    rw[AAs]at h2;have tk:t∈K:=by rw[<-h2];simp
    obtain⟨q1,q2⟩:=hk t tk;rcases df e' with⟨_,rfl,rfl⟩|⟨B',rfl,er⟩
    ·refine⟨q1,λb hb=>?_⟩
     have:b∈K:=by rw[<-h2];simp only[AAs]at hb;exact AA9 _ hb
     rw[q1,(hk b this).1];exact Int.le_refl _
    ·exfalso
     refine hs ?_
     rw[<-q2,hu,er];simp
   | cons y L =>
    rw[ACX]at h2;injection h2 with h2 h3
    subst h2;have tm:t∈todo:=by rw[h1];simp
    rcases df e' with⟨_,rfl,rfl⟩|⟨B',rfl,er⟩
    ·exact absurd hu (ht t tm)
    ·obtain⟨q1,q2⟩:=d.to T1 t (L++[.tup [.int n,s]]) (by rw[h1];simp) A p B' er hu
     have qx:dpt t<=n:=q2 (.tup [.int n,s]) (by simp)
     refine⟨q1,λb hb=>?_⟩
     rw[h3]at hb;rcases AAa.mp hb with hb | hb
     ·rcases AAa.mp hb with hb | hb
      ·exact q2 b (AAP _ hb)
      ·rw[ABe.mp hb];exact qx
     ·rcases AAa.mp hb with hb | hb
      ·exact q2 b (AAB _ (AAP _ hb))
      ·rw[(hk b hb).1];lia
 ·rcases df (A:=A++p::B) (p:=x) (B:=C) (by rw[e];simp)with⟨h1,rfl,rfl⟩|⟨C',rfl,er⟩
  ·obtain⟨q1,q2⟩:=d.to todo (.tup [.int n,s]) [] rfl A p B h1.symm hu
   exact⟨q1,λb hb=>q2 b (AAP _ hb)⟩
  ·exact d.old A p B x C' (by rw[er];simp) hu
section
variable{r:Str}{es rows todo out:List D}{u:D->D}
def TreeW.new(w:TreeW r es rows (todo++[.tup [.int k,s]])):s∉rows.map aY:=λz=>by
 have w1:=w.nd;rw[AAW]at w1;exact(ABL.mp w1).2.2 s z s (by rw[AAW];exact AAB _ (by simp[aY])) rfl
def TreeW.und(hS:∀e∈es,stD e≠.non)(hu:∀e∈es,u (stD e)=bf e)(w:TreeW r es rows (todo++[.tup [.int k,s]])):∀t∈todo,u (aY t)≠s:=λt ht e=>by
 obtain⟨k0,e0,q0,he0,_⟩:=w.ok (.tup [.int k,s]) (by simp)
 have es0:s=stD e0:=by injection q0 with q;injection q with _ q;injection q
 obtain⟨k1,e1,rfl,he1,_,hh⟩:=w.ok t (AAB _ (AAP _ ht));rw[show u (aY (.tup [.int k1,stD e1]))=bf e1 from hu e1 he1]at e;rcases hh with hh | hh
 ·exact hS e0 he0 (by rw[<-es0,<-e,hh])
 ·exact w.new (e ▸ hh)
def jL(hu:∀e∈es,u (stD e)=bf e):∀t∈bn n (ax r es s),dpt t=n/\u (aY t)=s:=λt ht=>by
 obtain⟨y,hy,rfl⟩:=kt.mp ht;obtain⟨e,he,rfl,_,h2⟩:=dL.mp hy;exact⟨rfl,(hu e he).trans h2⟩
def RunW.dep(nd:(es.map stD).Nodup)(hS:∀e∈es,stD e≠.non)(hu:∀e∈es,u (stD e)=bf e)(h:RunW (ax r es) rows todo out):TreeW r es rows todo->DepI u rows todo->DepI u out []:=by
 induction h with
 | done=>exact λ_ d=>d
 | step h ih=>exact λw d=>ih (w.step nd hS) (d.step w.new (w.und hS hu) (jL hu))
def DepI.start:DepI u [] todo:=⟨λ_ _ _ _ A p B e=>by simp at e,λA p B x C e=>by simp at e⟩
def HV(u:D->D)(l:List D):Prop:=∀x∈l,0<=dpt x/\(u (aY x)=.non->dpt x=0)/\(u (aY x)≠.non->0<dpt x)
def RunW.sgn(nd:(es.map stD).Nodup)(hS:∀e∈es,stD e≠.non)(hu:∀e∈es,u (stD e)=bf e)(h:RunW (ax r es) rows todo out):TreeW r es rows todo->HV u (rows++todo)->HV u out:=by
 induction h with
 | done=>exact λ_ d=>by rw[AB7]at d;exact d
 | @step rows todo out n x h ih =>
  refine λw d=>ih (w.step nd hS) λt ht=>?_
  obtain⟨k0,e0,q0,he0,_⟩:=w.ok (.tup [.int n,x]) (by simp)
  have ex:x=stD e0:=by injection q0 with q;injection q with _ q;injection q
  have hx:0<=n:=(d (.tup [.int n,x]) (by simp)).1
  rcases AAa.mp ht with ht | ht
  ·rcases AAa.mp ht with ht | ht
   ·exact d t (AAP _ ht)
   ·exact d t (AAB _ (AAB _ ht))
  ·rcases AAa.mp ht with ht | ht
   ·exact d t (AAB _ (AAP _ ht))
   ·obtain⟨q1,q2⟩:=jL (r:=r) (es:=es) hu t ht
    rw[q1,q2];exact⟨by lia,λz=>absurd (ex.symm.trans z) (hS e0 he0),λ_=>by lia⟩
def HV.start(hu:∀e∈es,u (stD e)=bf e):HV u ([]++bn 0 (ax r es .non)):=λt ht=>by
 obtain⟨q1,q2⟩:=jL (r:=r) (es:=es) hu t ht;rw[q1,q2];exact⟨Int.le_refl _,λ_=>rfl,λz=>absurd rfl z⟩
def RunW.all(h:RunW f rows todo out):(∀x∈rows,∀y∈f (aY x),y∈(rows++todo).map aY)->∀z:D,z∈(rows++todo).map aY->z∈out.map aY/\∀x∈out,∀y∈f (aY x),y∈out.map aY:=by
 induction h with
 | done=>exact λc z hz=>by rw[AB7]at hz c;exact⟨hz,c⟩
 | @step rows todo out n x h ih =>
  intro c z hz;have up:∀y,y∈(rows++(todo++[D.tup [.int n,x]])).map aY->y∈((rows++[D.tup [.int n,x]])++(todo++bn (n+1) (f x))).map aY:=λy hy=>by
   simp only[AAW,List.mem_append,AAQ,AEa,List.mem_singleton]at hy ⊢;rcases hy with h1 | h1 | h1
   ·exact .inl (.inl h1)
   ·exact .inr (.inl h1)
   ·exact .inl (.inr h1)
  refine ih (λa ha y hy=>?_) z (up z hz)
  rcases AAa.mp ha with ha | ha
  ·exact up y (c a ha y hy)
  ·rw[ABe.mp ha]at hy
   rw[AAW,AAW (l₁:=todo),eX];exact AAB _ (AAB _ (ACL.mpr hy))
def Cu(u:D->D)(l:List D):Prop:=l.Pairwise λa b=>u (aY a)=u (aY b)->enc eqN (aY a)<enc eqN (aY b)
def RunW.bro(nd:(es.map stD).Nodup)(hS:∀e∈es,stD e≠.non)(hu:∀e∈es,u (stD e)=bf e)(hr:Ris es)(h:RunW (ax r es) rows todo out):TreeW r es rows todo->Cu u (rows++todo.reverse)->Cu u out:=by
 induction h with
 | done=>exact λ_ d=>by rw[List.reverse_nil,AB7]at d;exact d
 | @step rows todo out n x h ih =>
  refine λw d=>ih (w.step nd hS) ?_
  have w':=w.step nd hS;rw[List.reverse_append,List.reverse_singleton,List.singleton_append]at d;unfold Cu at d ⊢;rw[List.reverse_append,AAk,List.singleton_append];have kr:(bn (n+1) (ax r es x)).reverse.Pairwise λa b=>enc eqN (aY a)<enc eqN (aY b):=by
   have:(bn (n+1) (ax r es x)).reverse=(ax r es x).map λs=>.tup [.int (n+1),s]:=by
    unfold bn;rw[<-List.map_reverse,AEM]
   rw[this,AC8];unfold ax;rw[AC8];exact ABG _ hr
  have km:∀t∈(bn (n+1) (ax r es x)).reverse,u (aY t)=x:=λt ht=>(jL (r:=r) (es:=es) hu t (ACL.mp ht)).2
  have ot:∀t∈rows++.tup [.int n,x]::todo.reverse,u (aY t)≠x:=λt ht e=>by
   have tm:t∈rows++(todo++[.tup [.int n,x]]):=by
    rcases AAa.mp ht with ht | ht
    ·exact AAP _ ht
    ·refine AAB _ ?_
     rcases AAJ.mp ht with ht | ht
     ·rw[ht];simp
     ·exact AAP _ (ACL.mp ht)
   obtain⟨k0,e0,q0,he0,_⟩:=w.ok (.tup [.int n,x]) (by simp)
   have ex:x=stD e0:=by injection q0 with q;injection q with _ q;injection q
   obtain⟨k1,e1,rfl,he1,_,hh⟩:=w.ok t tm;rw[show u (aY (.tup [.int k1,stD e1]))=bf e1 from hu e1 he1]at e;rcases hh with hh | hh
   ·exact hS e0 he0 (by rw[<-ex,<-e,hh])
   ·exact w.new (e ▸ hh)
  have kr':(bn (n+1) (ax r es x)).reverse.Pairwise λa b=>u (aY a)=u (aY b)->enc eqN (aY a)<enc eqN (aY b):=by
   refine kr.imp ?_
   intro a b q _;exact q
  obtain⟨d1,d2,d3⟩:=ACM.mp d;obtain⟨d4,d5⟩:=ADu.mp d2;refine ACM.mpr ⟨d1,ADu.mpr ⟨λb hb e=>?_,ACM.mpr ⟨kr',d5,λa ha b hb e=>?_⟩⟩,λa ha b hb e=>?_⟩
  ·rcases AAa.mp hb with hb | hb
   ·exact absurd (e.trans (km b hb)) (ot _ (by simp))
   ·exact d4 b hb e
  ·exact absurd (e.symm.trans (km a ha)) (ot b (AAB _ (AA9 _ hb)))
  ·rcases AAJ.mp hb with hb | hb
   ·exact d3 a ha b (by rw[hb];simp) e
   ·rcases AAa.mp hb with hb | hb
    ·exact absurd (e.trans (km b hb)) (ot a (AAP _ ha))
    ·exact d3 a ha b (AA9 _ hb) e
end
def hd0:D->D
 | .tup (x::_)=>x
 | d=>d
def yR:D->D
 | .tup (a::_)=>a
 | _=>.non
def cQ:DSp:=λds M R=>∃xs:List D,ds=[.tup xs]/\(∀x∈xs,∃a r,x=.tup (a::r))/\R (.ref M.length) (M++[.lst (xs.map yR)])
def oq:du cQ gL:=by rintro ds M R ⟨xs,rfl,_⟩;rfl
def kg:DTS:=bA (dLC 1 [] (dc (ab 0)) (ar 0) uR (dOp qIx (ab 0) (dC (.int 0))))
def oZ:WpT cQ 1 kg:=by
 rintro ds M R ⟨xs,rfl,hx,h⟩;simp only[kg];walk_at "dl";intro hl;refine cf yR (λS=>∃a,S=[a]) trivial _ _ _ ?_ ⟨_,rfl⟩ ?_ ?_
 ·rintro y hy S ⟨a,rfl⟩
  obtain⟨b,r,rfl⟩:=hx y hy;refine⟨[some (.tup (b::r))],⟨_,rfl⟩,λY hY=>?_⟩
  walk_at "dl";exact hY
 ·simpa using hl
 ·exact .inl h
def qh(T:Tops P w K mg base):Cal P w K mg base 1 "firsts_of" gL cQ :=
 Cal.byD (N:=["pairs"]) T.b T.f_firsts_of (by walk_at "sc") oq (by walk_at "dv") oZ
def fS:DSp:=λds M R=>∃(ps:List (Str×Int)) (rs:List (Str×List Str)) (r:Str),ds=[aF ps rs,.str r]/\r∈rs.map (·.1)/\R (.bl true) M
def sI:du fS kH:=by rintro ds M R ⟨ps,rs,r,rfl,_⟩;rfl
def pF:DTS:=bA (dOp qIn (ab 1) (dCB cQ (aa (dOp qIx (ab 0) (dC (.int 1))) ag)))
def va:WpT fS 2 pF:=by
 rintro ds M R ⟨ps,rs,r,rfl,hr,h⟩;simp only[pF,aF];walk_at "dl";refine⟨_,rfl,λx hx=>?_,?_⟩
 ·obtain⟨p,_,rfl⟩:=AAK.mp hx
  exact⟨_,_,rfl⟩
 have e:(rs.map jv).map yR=(rs.map (·.1)).map .str:=by rw[AAt,AAt];rfl
 rw[e];refine⟨_,aE,⟨aU,nH⟩,?_⟩;rw[oF,dT_ hr];exact bI.bl h eM
def vI(T:Tops P w K mg base):Cal P w K mg base 2 "is_room" kH fS :=
 Cal.byD (N:=["house","thing"]) T.b T.f_is_room (by walk_at "sc") sI (by have:=qh T;walk_at "dv") va
def cC:DSp:=λds M R=>∃(ps:List (Str×Int)) (rs:List (Str×List Str)) (r:Str),ds=[aF ps rs,.str r]/\r∈rs.map (·.1)/\R (.tup ((uo rs r).map .str)) M
def lR:du cC fh:=by rintro ds M R ⟨ps,rs,r,rfl,_⟩;rfl
def qu:uo (p::rs) r=if p.1=r then p.2 else uo rs r:=by
 unfold uo;rw[ABJ];by_cases h:p.1=r
 ·rw[dT_ h,if_pos h];rfl
 ·rw[dF_ h,if_neg h]
def lG:DTS:=rj
def je:DTS:=az (mZ (dc (dOp qIx (ab 0) (dC (.int 1)))) (lU 2 (cc (ar 2) (cc (ar 3) lV))) (dIf (aG (dOp qEq (ab 2) (ab 1))) (bA (ab 3)) bi)) (lG)
def nq:WpT cC 4 je:=by
 rintro ds M R ⟨ps,rs,r,rfl,hr,h⟩;simp only[je,aF];walk_at "dl";intro _;refine jP (λys S M'=>∃qs a b,ys=qs.map jv/\M'=M/\S=[some (aF ps rs),some (.str r),a,b]/\uo rs r=uo qs r/\r∈qs.map (·.1)) ?_ ?_ _ _ _ ⟨rs,_,_,rfl,rfl,rfl,rfl,hr⟩
 ·rintro S M' ⟨qs,a,b,hq,rfl,rfl,e,hm⟩
  have:qs=[]:=by cases qs<;>simp_all
  subst this;cases hm
 ·rintro x xs S M' ⟨qs,a,b,hq,rfl,rfl,e,hm⟩ L hL
  cases qs with
  | nil=>cases hq
  | cons p qs =>
   rw[AAQ]at hq;injection hq with h1 h2
   subst h1;refine⟨trivial,?_⟩;unfold jv;walk_at "dl";refine⟨trivial,⟨aU,aU⟩,?_⟩;rw[ck];rw[qu]at e;by_cases hq:p.1=r
   ·rw[beq_iff_eq.mpr hq]
    rw[if_pos hq]at e;refine db (bI.now ?_);rw[<-e];exact h
   ·rw[beq_eq_false_iff_ne.mpr hq]
    rw[if_neg hq]at e;rw[AAQ,AAJ]at hm;exact bZ (Fgt.now (hL _ _ ⟨qs,_,_,h2,rfl,rfl,e,hm.resolve_left (ABO hq)⟩))
def nX(T:Tops P w K mg base):Cal P w K mg base 1 "members_of" fh cC :=
 Cal.byD (N:=["house","room","told","members"]) T.b T.f_members_of (by walk_at "sc") lR (by walk_at "dv") nq
def bX:DSp:=λds M R=>∃(a b:D) (r:List D),ds=[.tup (a::b::r)]/\R (.tup [a,b]) M
def qD:du bX iS:=by rintro ds M R ⟨a,b,r,rfl,_⟩;rfl
def mi:DTS:=bA (iH (aa (dOp qIx (ab 0) (dC (.int 0))) (aa (dOp qIx (ab 0) (dC (.int 1))) ag)))
def rS:WpT bX 1 mi:=by
 rintro ds M R ⟨a,b,r,rfl,h⟩;simp only[mi];walk_at "dl";exact⟨aw (by lia),bI.now h⟩
def gP(T:Tops P w K mg base):Cal P w K mg base 1 "stamp_of" iS bX :=
 Cal.byD (N:=["deed"]) T.b T.f_stamp_of (by walk_at "sc") qD (by walk_at "dv") rS
def bo:DSp:=λds M R=>∃(t x:D) (r1 r2:List D),ds=[.tup (t::.tup (x::r1)::r2)]/\R x M
def oo:du bo gK:=by rintro ds M R ⟨t,x,r1,r2,rfl,_⟩;rfl
def jZ:DTS:=bA (dOp qIx (dOp qIx (ab 0) (dC (.int 1))) (dC (.int 0)))
def oY:WpT bo 1 jZ:=by
 rintro ds M R ⟨t,x,r1,r2,rfl,h⟩;simp only[jZ];walk_at "dl";exact bI.now h
def fj(T:Tops P w K mg base):Cal P w K mg base 1 "person_of" gK bo :=
 Cal.byD (N:=["deed"]) T.b T.f_person_of (by walk_at "sc") oo (by walk_at "dv") oY
def be:DSp:=λds M R=>∃(ps:List (Str×Int)) (rs:List (Str×List Str)) (log:List D) (k:Str),ds=[.tup log,.str k]/\(∀d∈log,aX ps rs d)/\log.length<=1000/\R (.ref M.length) (M++[.lst (kinds log k)])
def iW:du be cI:=by rintro ds M R ⟨ps,rs,log,k,rfl,_⟩;rfl
def eV:DTS:=bA (dLC 1 [1] (dc (ab 0)) (ar 0) (aG (dOp qEq (dOp qIx (dOp qIx (ab 0) (dC (.int 3))) (dC (.int 0))) (ab 1))) (ab 0))
theorem jt:WpT be 2 eV:=by
 rintro ds M R ⟨ps,rs,log,k,rfl,hd,hl,h⟩;simp only[eV];walk_at "dl";intro _;refine bp (λd=>decide (da d=k)) id (λS=>∃a,S=[a,some (.str k)]) trivial _ _ _ ?_ ⟨_,rfl⟩ (by rw[AAm];exact aw (by lia)) (by rw[AAs,ACu];exact .inl h)
 rintro d hm S ⟨a,rfl⟩;obtain⟨t,z,k',num,x,ds,rfl,_⟩:=hd d hm;refine⟨[some (.tup [.int t,.tup [.str z,.int k'],.int num,.tup (.str x::ds)]),some (.str k)],⟨_,rfl⟩,λY Z hYZ=>?_⟩
 walk_at "dl";have e3:atI [D.int t,.tup [.str z,.int k'],.int num,.tup (.str x::ds)] 3=some (.tup (.str x::ds)):=ay (j:=3) rfl;rw[e3];dsimp only;rw[at0];refine⟨⟨aU,aU⟩,?_⟩;rw[ck];have e1:da (.tup [.int t,.tup [.str z,.int k'],.int num,.tup (.str x::ds)])=x:=rfl;rw[e1]at hYZ;by_cases e:x=k
 ·rw[beq_iff_eq.mpr e]
  rw[dT_ e]at hYZ;exact db hYZ
 ·rw[beq_eq_false_iff_ne.mpr e]
  rw[dF_ e]at hYZ;exact bZ hYZ
def eN(T:Tops P w K mg base):Cal P w K mg base 1 "deeds_of_kind" cI be :=
 Cal.byD (N:=["log","kind"]) T.b T.f_deeds_of_kind (by walk_at "sc") iW (by walk_at "dv") jt
def bG:DSp:=λds M R=>∃(a b c x r:D) (l:List D),ds=[.tup [a,b,c,.tup (x::r::l)]]/\R r M
def sH:du bG kG:=by rintro ds M R ⟨a,b,c,x,r,l,rfl,_⟩;rfl
def pz:DTS:=bA (dOp qIx (dOp qIx (ab 0) (dC (.int 3))) (dC (.int 1)))
def uZ:WpT bG 1 pz:=by
 rintro ds M R ⟨a,b,c,x,r,l,rfl,h⟩;simp only[pz];walk_at "dl";have e3:atI [a,b,c,.tup (x::r::l)] 3=some (.tup (x::r::l)):=ay (j:=3) rfl;rw[e3];dsimp only;rw[at1];exact bI.now h
def iU(T:Tops P w K mg base):Cal P w K mg base 1 "room_of" kG bG :=
 Cal.byD (N:=["say"]) T.b T.f_room_of (by walk_at "sc") sH (by walk_at "dv") uZ
def bW:DSp:=λds M R=>∃(a b c x r u:D) (l:List D),ds=[.tup [a,b,c,.tup (x::r::u::l)]]/\R u M
def qC:du bW iR:=by rintro ds M R ⟨a,b,c,x,r,u,l,rfl,_⟩;rfl
def mh:DTS:=bA (dOp qIx (dOp qIx (ab 0) (dC (.int 3))) (dC (.int 2)))
def rR:WpT bW 1 mh:=by
 rintro ds M R ⟨a,b,c,x,r,u,l,rfl,h⟩;simp only[mh];walk_at "dl";have e3:atI [a,b,c,.tup (x::r::u::l)] 3=some (.tup (x::r::u::l)):=ay (j:=3) rfl;have e2:atI (x::r::u::l) 2=some u:=ay (j:=2) rfl;rw[e3];dsimp only;rw[e2];exact bI.now h
def gO(T:Tops P w K mg base):Cal P w K mg base 1 "under_of" iR bW :=
 Cal.byD (N:=["say"]) T.b T.f_under_of (by walk_at "sc") qC (by walk_at "dv") rR
def cR:DSp:=λds M R=>∃(ps:List (Str×Int)) (rs:List (Str×List Str)) (d:D) (q:Nat) (kvs:List (D×D)),ds=[aF ps rs,d,.ref q]/\aX ps rs d/\da d=AA1 "say"/\M[q]?=some (.dkt kvs)/\(∀p∈kvs,aX ps rs p.2/\da p.2=AA1 "say")/\R (.bl (jg rs kvs d)) M
def ou:du cR gM:=by rintro ds M R ⟨ps,rs,d,q,kvs,rfl,_⟩;rfl
def il:DTS:=bA (dOrV (dOp qIs (ab 3) (dC .non)) (we (dOp ES (ab 3) (ab 2)) (dOp qEq (dCB bG (aa (lW (ab 2) (ab 3)) ag)) (dCB bG (aa (ab 1) ag)))))
def io:DTS:=az (bd (dCB bW (aa (ab 1) ag)) 3) (il)
def ki:DTS:=az (dIf (aG (dOp kx (dCB bo (aa (ab 1) ag)) (dCB cC (aa (ab 0) (aa (dCB bG (aa (ab 1) ag)) ag))))) (bA (dC (.bl false))) bi) (io)
def pc:WpT cR 4 ki:=by
 rintro ds M R ⟨ps,rs,d,q,kvs,rfl,hd,hk,hq,hv,h⟩;obtain⟨t,z,k,num,r,u,s,rfl,_,_,hr,hu⟩:=gB hd hk;simp only[ki];walk_at "dl";refine⟨_,_,_,_,rfl,_,_,_,_,_,_,rfl,ps,rs,r,rfl,hr,⟨aU,nH⟩,?_⟩;rw[oF];have e0:jg rs kvs (.tup [.int t,.tup [.str z,.int k],.int num,.tup [.str (AA1 "say"),.str r,u,.str s]])=(decide (z∈uo rs r)&&(decide (u=.non)||match aM kvs u with
  | some e=>decide (bR e=r)
  | none=>false)):=rfl
 rw[e0]at h;by_cases hm:z∈uo rs r
 ·rw[dT_ hm]at h ⊢
  refine bZ ?_
  simp only[io,il];walk_at "dl";refine⟨_,_,_,_,_,u,_,rfl,?_⟩;rcases hu with rfl | hu
  ·walk_at "dl"
   refine bI.now ?_
   simpa using h
  ·obtain⟨t',z',k',rfl⟩:=hu
   rw[dF_ (by intro e;cases e)]at h
   walk_at "dl";refine⟨kvs,hq,rfl,?_⟩;cases hg:aM kvs (.tup [.int t',.tup [.str z',.int k']]) with
   | none =>
    rw[hg]at h;exact bZ (bI.now h)
   | some e =>
    rw[hg]at h;obtain⟨he,hke⟩:=hv _ (bz hg);obtain⟨t2,z2,k2,n2,r2,u2,s2,e2,_⟩:=gB he hke;dsimp only at e2;subst e2;refine db ⟨kvs,_,hq,rfl,hg,_,_,_,_,_,_,rfl,_,_,_,_,_,_,rfl,⟨aU,aU⟩,?_⟩;rw[ck];refine bI.now ?_
    have e5:(r2==r)=decide (r2=r):=by
     by_cases e:r2=r
     ·rw[dT_ e];exact beq_iff_eq.mpr e
     ·rw[dF_ e];exact beq_eq_false_iff_ne.mpr e
    rw[e5];exact h
 ·rw[dF_ hm]at h ⊢
  exact db (bI.now h)
def qj(T:Tops P w K mg base):Cal P w K mg base 2 "can_stand" gM cR :=
 Cal.byD (N:=["house","say","elders","under"]) T.b T.f_can_stand (by walk_at "sc") ou (by have:=nX T;have:=fj T;have:=iU T;have:=gO T;walk_at "dv") pc
def aL:DSp:=λds M R=>∃(ps:List (Str×Int)) (rs:List (Str×List Str)) (log:List D),ds=[aF ps rs,.tup log]/\(∀d∈log,aX ps rs d)/\log.length<=1000/\∀n B,M <+: B->B[n]?=some (.dkt (ah rs log))->R (.ref n) B
def gQ:du aL bU:=by rintro ds M R ⟨ps,rs,log,rfl,_⟩;rfl
def fH(hd:∀d∈log,aX ps rs d)(hl:∀d∈l,d∈kinds log (AA1 "say"))(t:TabK l kvs):∀p∈kvs,aX ps rs p.2/\da p.2=AA1 "say":=λp hp=>by
 obtain⟨h1,h2⟩:=bc (hl _ (t.en p hp).2);exact⟨hd _ h1,h2⟩
def cE:DTS:=bA (ab 2)
def cF:DTS:=az (mZ (dc (dCB be (aa (ab 1) (aa (dC (.str "say")) ag)))) (ar 3) (dIf (aG (dCB cR (aa (ab 0) (aa (ab 3) (aa (ab 2) ag))))) (re (ab 2) (dCB bX (aa (ab 3) ag)) (ab 3)) bi)) (cE)
def de:DTS:=az (bd (rh) 2) (cF)
def hX:WpT aL 4 de:=by
 rintro ds M R ⟨ps,rs,log,rfl,hd,hl,h⟩;simp only[de,cF];walk_at "dl";refine⟨ps,rs,log,_,rfl,hd,hl,?_⟩;have kl:=bL (log:=log) (k:=AA1 "say");have km:∀d∈kinds log (AA1 "say"),aX ps rs d/\da d=AA1 "say":=λd q=>⟨hd d (bc q).1,(bc q).2⟩
 have hk:aQ rs (kinds log (AA1 "say"))=ah rs log:=rfl;generalize hK:kinds log (AA1 "say")=K at kl km hk;refine⟨K,aE,λ_=>?_⟩
 refine bj (λi S M'=>∃a,M'=M++[.dkt (aQ rs (K.take i)),.lst K]/\S=[some (aF ps rs),some (.tup log),some (.ref M.length),a]) ?_ ?_ ⟨_,by simp[aQ],rfl⟩
 ·rintro S M' ⟨a,rfl,rfl⟩
  rw[ABi,hk];refine⟨.inl ?_,?_⟩
  ·have:(M++[MO.dkt []]).length=M.length+1:=by simp
   rw[this];exact uL
  ·simp only[cE]
   walk_at "dl";exact .inl (h _ _ (AAl _ _) iX)
 ·rintro i y S M' hy ⟨a,rfl,rfl⟩ G hG
  have hm:=AAc hy;have et:K.take (i+1)=K.take i++[y]:=by rw[ABn,hy];rfl
  rw[et,dY]at hG;have tb:=fQ (rs:=rs) (K.take i);have hv:=fH hd (λd q=>hK ▸ List.mem_of_mem_take q) tb
  have tl:=tb.len;rw[AAy]at tl;generalize aQ rs (K.take i)=kvs at hG hv tl;obtain⟨dy,ky⟩:=km y hm;refine⟨.inl ?_,?_⟩
  ·have:(M++[MO.dkt []]).length=M.length+1:=by simp
   rw[this];exact uL
  walk_at "dl";refine⟨ps,rs,y,_,kvs,rfl,dy,ky,iX,hv,?_⟩;unfold vt at hG;cases hs:jg rs kvs y with
  | true =>
   rw[hs,if_pos rfl]at hG;refine db ?_
   obtain⟨t,z,k,num,x,ds,rfl,_⟩:=dy;refine⟨_,_,_,rfl,kvs,iX,rfl,aB (by lia),?_⟩
   rw[nJ];exact Fgt.now (hG _ _ ⟨_,rfl,rfl⟩)
  | false =>
   rw[hs,if_neg (by decide)]at hG
   exact bZ (Fgt.now (hG _ _ ⟨_,rfl,rfl⟩))
def bK(T:Tops P w K mg base):Cal P w K mg base 3 "says_that_count" bU aL :=
 Cal.byD (N:=["house","log","says","deed"]) T.b T.f_says_that_count (by walk_at "sc") gQ (by have:=gP T;have:=eN T;have:=qj T;walk_at "dv") hX
def bP:DSp:=λds M R=>∃(t:Int) (z:Str) (k num:Int) (x m:D) (l:List D) (q:Nat) (kvs:List (D×D)),ds=[.tup [.int t,.tup [.str z,.int k],.int num,.tup (x::m::l)],.ref q]/\St m/\M[q]?=some (.dkt kvs)/\(∀p∈kvs,NmK p.2)/\R (.bl (byW kvs (.tup [.int t,.tup [.str z,.int k],.int num,.tup (x::m::l)]))) M
def jy:du bP cY:=by rintro ds M R ⟨t,z,k,num,x,m,l,q,kvs,rfl,_⟩;rfl
def eI:DTS:=bA (we (dOp ES (ab 2) (ab 1)) (dOp qEq (dCB bo (aa (ab 0) ag)) (dCB bo (aa (lW (ab 1) (ab 2)) ag))))
def gz:DTS:=az (bd (dOp qIx (dOp qIx (ab 0) (dC (.int 3))) (dC (.int 1))) 2) (eI)
def jU:WpT bP 3 gz:=by
 rintro ds M R ⟨t,z,k,num,x,m,l,q,kvs,rfl,hm,hq,hv,h⟩;simp only[gz,eI];obtain⟨t',z',k',rfl⟩:=hm;walk_at "dl";have e3:atI [D.int t,.tup [.str z,.int k],.int num,.tup (x::.tup [.int t',.tup [.str z',.int k']]::l)] 3=some (.tup (x::.tup [.int t',.tup [.str z',.int k']]::l)):=ay (j:=3) rfl;rw[e3];dsimp only;rw[at1];refine⟨kvs,hq,rfl,?_⟩;have e0:byW kvs (.tup [.int t,.tup [.str z,.int k],.int num,.tup (x::.tup [.int t',.tup [.str z',.int k']]::l)])=match aM kvs (.tup [.int t',.tup [.str z',.int k']]) with
  | some e=>decide (z=iC e)
  | none=>false:=rfl
 rw[e0]at h;cases hg:aM kvs (.tup [.int t',.tup [.str z',.int k']]) with
 | none =>
  rw[hg]at h;exact bZ (bI.now h)
 | some e =>
  rw[hg]at h;obtain⟨a,y,r1,r2,rfl⟩:=hv _ (bz hg);refine db ⟨_,_,_,_,rfl,kvs,_,hq,rfl,hg,_,_,_,_,rfl,⟨aU,aU⟩,?_⟩;rw[ck];refine bI.now ?_
  have e5:(z==y)=decide (z=y):=by
   by_cases e:z=y
   ·rw[dT_ e];exact beq_iff_eq.mpr e
   ·rw[dF_ e];exact beq_eq_false_iff_ne.mpr e
  rw[e5];exact h
def kN(T:Tops P w K mg base):Cal P w K mg base 2 "is_by_writer" cY bP :=
 Cal.byD (N:=["deed","says","message"]) T.b T.f_is_by_writer (by walk_at "sc") jy (by have:=fj T;walk_at "dv") jU
def bB:DSp:=λds M R=>∃(ps:List (Str×Int)) (rs:List (Str×List Str)) (log:List D) (k:Str) (q:Nat) (kvs:List (D×D)),ds=[.tup log,.str k,.ref q]/\(∀d∈log,aX ps rs d)/\log.length<=1000/\(k=AA1 "change"\/k=AA1 "back")/\M[q]?=some (.dkt kvs)/\(∀p∈kvs,NmK p.2)/\R (.ref M.length) (M++[.lst ((kinds log k).filter (byW kvs))])
def kQ:du bB dF:=by rintro ds M R ⟨ps,rs,log,k,q,kvs,rfl,_⟩;rfl
def Gp(h:aX ps rs d)(e:da d=k)(hk:k=AA1 "change"\/k=AA1 "back"):∃(t:Int) (z:Str) (k num:Int) (x m:D) (l:List D),d=.tup [.int t,.tup [.str z,.int k],.int num,.tup (x::m::l)]/\St m:=by
 rcases hk with rfl | rfl
 ·obtain⟨t,z,k,num,m,s,rfl,hm⟩:=lB h e
  exact⟨t,z,k,num,_,m,_,rfl,hm⟩
 ·obtain⟨t,z,k,num,m,rfl,hm⟩:=zr h e
  exact⟨t,z,k,num,_,m,_,rfl,hm⟩
def ib:DTS:=bA (dLC 1 [2] (dc (dCB be (aa (ab 0) (aa (ab 1) ag)))) (ar 0) (aG (dCB bP (aa (ab 0) (aa (ab 1) ag)))) (ab 0))
theorem lE:WpT bB 3 ib:=by
 rintro ds M R ⟨ps,rs,log,k,q,kvs,rfl,hd,hl,hk,hq,hv,h⟩;simp only[ib];walk_at "dl";refine⟨ps,rs,log,k,rfl,hd,hl,_,aE,λ_=>?_⟩
 have kl:=bL (log:=log) (k:=k);refine bp (byW kvs) id (λS=>∃a,S=[a,some (.ref q)]) aE _ _ _ ?_ ⟨_,rfl⟩ (by rw[AAm];exact aw (by lia)) ?_
 ·rintro d hm S ⟨a,rfl⟩
  obtain⟨h1,h2⟩:=bc hm;obtain⟨t,z,k',num,x,m,l,rfl,hs⟩:=Gp (hd d h1) h2 hk;refine⟨[some (.tup [.int t,.tup [.str z,.int k'],.int num,.tup (x::m::l)]),some (.ref q)],⟨_,rfl⟩,λY Z hYZ=>?_⟩
  walk_at "dl";refine⟨t,z,k',num,x,m,l,q,kvs,rfl,hs,ac hq,hv,?_⟩;cases hb:byW kvs (.tup [.int t,.tup [.str z,.int k'],.int num,.tup (x::m::l)]) with
  | true=>rw[hb]at hYZ;exact db hYZ
  | false=>rw[hb]at hYZ;exact bZ hYZ
 ·rw[AAs,ACu,AAk]
  exact bI.lst h (by simp) (by simp) (aX.bels (ps:=ps) (rs:=rs) λd m=>hd d (bc (AAj.mp m).1).1)
def gD(T:Tops P w K mg base):Cal P w K mg base 3 "writers_own" dF bB :=
 Cal.byD (N:=["log","kind","says"]) T.b T.f_writers_own (by walk_at "sc") kQ (by have:=eN T;have:=kN T;walk_at "dv") lE
def bO:DSp:=λds M R=>∃(ps:List (Str×Int)) (rs:List (Str×List Str)) (log:List D) (q:Nat) (kvs:List (D×D)),ds=[.tup log,.ref q]/\(∀d∈log,aX ps rs d)/\log.length<=1000/\M[q]?=some (.dkt kvs)/\(∀p∈kvs,NmK p.2)/\∀n B,M <+: B->B[n]?=some (.dkt (cN kvs log))->R (.ref n) B
def jx:du bO cX:=by rintro ds M R ⟨ps,rs,log,q,kvs,rfl,_⟩;rfl
def wb(ps:List (D×D))(h:p∈dictOf ps):p∈ps:=by
 revert h;refine cu (P:=λps=>p∈dictOf ps->p∈ps) (λh=>h) (λps q ih h=>?_) ps
 rw[dS]at h;rcases iy h with rfl | h
 ·simp
 ·exact AAP _ (ih h)
def lA(hd:∀d∈log,aX ps rs d):∀p∈cN kvs log,∃s,p.2=.str s:=λp hp=>by
 obtain⟨d,hm,rfl⟩:=AAK.mp (wb _ hp);obtain⟨h1,h2⟩:=bc (AAj.mp hm).1;obtain⟨t,z,k,num,m,s,rfl,hs⟩:=lB (hd d h1) h2;exact⟨s,rfl⟩
def gy:DTS:=bA (dCB iQ (aa (dLC 1 [] (dc (dCB bB (aa (ab 0) (aa (dC (.str "change")) (aa (ab 1) ag))))) (ar 0) uR (iH (aa (dOp qIx (dOp qIx (ab 0) (dC (.int 3))) (dC (.int 1))) (aa (dOp qIx (dOp qIx (ab 0) (dC (.int 3))) (dC (.int 2))) ag)))) ag))
def jT:WpT bO 2 gy:=by
 rintro ds M R ⟨ps,rs,log,q,kvs,rfl,hd,hl,hq,hv,h⟩;simp only[gy];walk_at "dl";refine⟨ps,rs,log,_,q,kvs,rfl,hd,hl,.inl rfl,hq,hv,_,aE,λ_=>?_⟩
 have kl:=bL (log:=log) (k:=AA1 "change");have fl:=ABM (byW kvs) (kinds log (AA1 "change"));have km:∀d∈(kinds log (AA1 "change")).filter (byW kvs),∃(t:Int) (z:Str) (k num:Int) (m:D) (s:Str),d=.tup [.int t,.tup [.str z,.int k],.int num,.tup [.str (AA1 "change"),m,.str s]]/\St m:=λd m=>by
  obtain⟨h1,h2⟩:=bc (AAj.mp m).1;exact lB (hd d h1) h2
 have hc:dictOf (((kinds log (AA1 "change")).filter (byW kvs)).map λd=>(wy d,bf d))=cN kvs log:=rfl
 generalize (kinds log (AA1 "change")).filter (byW kvs)=F at fl km hc;refine cf (λd=>.tup [wy d,bf d]) (λS=>∃a,S=[a]) aE _ _ _ (λd hm S hS=>?_) ⟨_,rfl⟩ (by rw[AAm];exact aw (by lia)) ?_
 ·obtain⟨a,rfl⟩:=hS
  obtain⟨t,z,k,num,m,s,rfl,_⟩:=km d hm;refine⟨[some (.tup [.int t,.tup [.str z,.int k],.int num,.tup [.str (AA1 "change"),m,.str s]])],⟨_,rfl⟩,λY hY=>?_⟩
  walk_at "dl";have e3:atI [D.int t,.tup [.str z,.int k],.int num,.tup [.str (AA1 "change"),m,.str s]] 3=some (.tup [.str (AA1 "change"),m,.str s]):=ay (j:=3) rfl;rw[e3];dsimp only;rw[at1];dsimp only;rw[at2];exact⟨aw (by lia),hY⟩
 ·rw[AAs]
  have el:F.map (λd=>D.tup [wy d,bf d])=(F.map λd=>(wy d,bf d)).map λp=>.tup [p.1,p.2]:=by
   rw[AAt];rfl
  rw[el];refine⟨F.map λd=>(wy d,bf d),aE,λp hm=>?_,by rw[AA4];lia,?_⟩
  ·obtain⟨d,hx,rfl⟩:=AAK.mp hm
   obtain⟨t,z,k,num,m,s,rfl,hs⟩:=km d hx;obtain⟨ks,e⟩:=hs.tup;exact⟨hs.key,by show gG m=true;rw[e];rfl⟩
  ·rw[hc]
   exact .inl (h _ _ ((eM.trans eM).trans eM) ae)
def kM(T:Tops P w K mg base):Cal P w K mg base 4 "last_changes" cX bO :=
 Cal.byD (N:=["log","says"]) T.b T.f_last_changes (by walk_at "sc") jx (by have:=gD T;walk_at "dv") jT
def aC:DSp:=λds M R=>∃(ps:List (Str×Int)) (rs:List (Str×List Str)) (log:List D) (q:Nat) (kvs:List (D×D)),ds=[.tup log,.ref q]/\(∀d∈log,aX ps rs d)/\log.length<64/\M[q]?=some (.dkt kvs)/\(∀p∈kvs,NmK p.2)/\∀ys,(∀x∈ys,St x)->(∀x,x∈ys↔aT kvs log x)->ys.Nodup->(ys.Pairwise λa b=>¬enc eqN b<enc eqN a)->R (.ref M.length) (M++[.lst ys])
def fu:du aC bD:=by rintro ds M R ⟨ps,rs,log,q,kvs,rfl,_⟩;rfl
def cD:DTS:=bA (iI (dLC 1 [] (dc (dCB bB (aa (ab 0) (aa (dC (.str "back")) (aa (ab 1) ag))))) (ar 0) uR (dOp qIx (dOp qIx (ab 0) (dC (.int 3))) (dC (.int 1)))))
def fU:WpT aC 2 cD:=by
 rintro ds M R ⟨ps,rs,log,q,kvs,rfl,hd,hl,hq,hv,h⟩;simp only[cD];walk_at "dl";refine⟨ps,rs,log,_,q,kvs,rfl,hd,by lia,.inr rfl,hq,hv,_,aE,λ_=>?_⟩
 have kl:=bL (log:=log) (k:=AA1 "back");have fl:=ABM (byW kvs) (kinds log (AA1 "back"));have km:∀d∈(kinds log (AA1 "back")).filter (byW kvs),∃(t:Int) (z:Str) (k num:Int) (m:D),d=.tup [.int t,.tup [.str z,.int k],.int num,.tup [.str (AA1 "back"),m]]/\St m:=λd m=>by
  obtain⟨h1,h2⟩:=bc (AAj.mp m).1;exact zr (hd d h1) h2
 have hb:∀x,x∈((kinds log (AA1 "back")).filter (byW kvs)).map wy↔aT kvs log x:=λx=>by
  constructor
  ·intro hx
   obtain⟨d,m,rfl⟩:=AAK.mp hx;exact⟨d,(AAj.mp m).1,(AAj.mp m).2,rfl⟩
  ·rintro⟨d,h1,h2,rfl⟩
   exact AAg (AAj.mpr ⟨h1,h2⟩)
 generalize (kinds log (AA1 "back")).filter (byW kvs)=F at fl km hb;refine cf wy (λS=>∃a,S=[a]) aE _ _ _ (λd hm S hS=>?_) ⟨_,rfl⟩ (by rw[AAm];exact aw (by lia)) ?_
 ·obtain⟨a,rfl⟩:=hS
  obtain⟨t,z,k,num,m,rfl,_⟩:=km d hm;refine⟨[some (.tup [.int t,.tup [.str z,.int k],.int num,.tup [.str (AA1 "back"),m]])],⟨_,rfl⟩,λY hY=>?_⟩
  walk_at "dl";have e3:atI [D.int t,.tup [.str z,.int k],.int num,.tup [.str (AA1 "back"),m]] 3=some (.tup [.str (AA1 "back"),m]):=ay (j:=3) rfl;rw[e3];dsimp only;rw[at1];exact hY
 ·rw[AAs]
  have hs:∀x∈F.map wy,St x:=λx hx=>by
   obtain⟨d,hm,rfl⟩:=AAK.mp hx;obtain⟨t,z,k,num,m,rfl,hs⟩:=km d hm;exact hs
  refine⟨8,_,AA8 _,.inl ⟨_,rfl,aE⟩,by rw[AA4];lia,λx hx=>?_,nG hs (by rw[AA4];lia),λys nd hy hr=>?_⟩
  ·obtain⟨ks,e⟩:=(hs x hx).tup
   exact⟨(hs x hx).key,by rw[e];rfl⟩
  ·have hys:∀x∈ys,St x:=λx hx=>hs x ((hy x).mp hx)
   rw[AAk,AAk];have up:ys.Pairwise λa b=>¬enc eqN b<enc eqN a:=(AEJ.mp hr).imp λ{a b} ⟨ha,hb,q⟩=>by
    have sa:=hys a ha;have sb:=hys b hb;have oa:okP eqN a=true:=by obtain⟨t,z,k,e⟩:=sa;rw[e];rfl
    have ob:okP eqN b=true:=by obtain⟨t,z,k,e⟩:=sb;rw[e];rfl
    rw[oi ob oa (sb.cm sa)]at q;exact of_decide_eq_false q
   exact bI.lst (h ys hys (λx=>(hy x).trans (hb x)) nd up) (by simp) (by simp) (Bels.of λd m=>bT 2 d (hys d m).pl)
def bw(T:Tops P w K mg base):Cal P w K mg base 4 "stamps_taken_back" bD aC :=
 Cal.byD (N:=["log","says"]) T.b T.f_stamps_taken_back (by walk_at "sc") fu (by have:=gD T;walk_at "dv") fU
def cB:DSp:=λds M R=>∃(ps:List (Str×Int)) (rs:List (Str×List Str)) (d:D) (q:Nat) (tab:List (D×D)),ds=[d,.ref q]/\aX ps rs d/\da d=AA1 "say"/\M[q]?=some (.dkt tab)/\R (ET tab d) M
def lQ:du cB fg:=by rintro ds M R ⟨ps,rs,d,q,tab,rfl,_⟩;rfl
def gu:DTS:=bA (iH (aa (ab 2) (aa (dCB bG (aa (ab 0) ag)) (aa (dCB bW (aa (ab 0) ag)) (aa (dCB bo (aa (ab 0) ag)) (aa (ab 3) (aa (dOp ES (ab 2) (ab 1)) ag)))))))
def gx:DTS:=az (bd (dMt ix (ab 1) (aa (ab 2) (aa (dOp qIx (dOp qIx (ab 0) (dC (.int 3))) (dC (.int 3))) ag))) 3) (gu)
def jd:DTS:=az (bd (dCB bX (aa (ab 0) ag)) 2) (gx)
def np:WpT cB 4 jd:=by
 rintro ds M R ⟨ps,rs,d,q,tab,rfl,hd,hk,hq,h⟩;obtain⟨t,z,k,num,r,u,s,rfl,_⟩:=gB hd hk;simp only[jd,gx];walk_at "dl";refine⟨_,_,_,rfl,⟨_,hq⟩,?_⟩;have e3:atI [D.int t,.tup [.str z,.int k],.int num,.tup [.str (AA1 "say"),.str r,u,.str s]] 3=some (.tup [.str (AA1 "say"),.str r,u,.str s]):=ay (j:=3) rfl;have e4:atI [.str (AA1 "say"),.str r,u,.str s] 3=some (.str s):=ay (j:=3) rfl;rw[e3];dsimp only;rw[e4];refine⟨tab,hq,rfl,?_⟩;simp only[gu];walk_at "dl";refine⟨_,_,_,_,_,_,rfl,_,_,_,_,_,_,_,rfl,_,_,_,_,rfl,tab,hq,rfl,aw (by lia),bI.now h⟩
def nW(T:Tops P w K mg base):Cal P w K mg base 2 "message_of" fg cB :=
 Cal.byD (N:=["say","changes","stamp","saying"]) T.b T.f_message_of (by walk_at "sc") lQ (by have:=gP T;have:=fj T;have:=iU T;have:=gO T;walk_at "dv") np
def cy:DSp:=λds M R=>∃(ps:List (Str×Int)) (rs:List (Str×List Str)) (log:List D),ds=[aF ps rs,.tup log]/\(∀d∈log,aX ps rs d)/\log.length<64/\∀n B,M <+: B->B[n]?=some (.dkt (ba rs log))->R (.ref n) B
def lO:du cy fe:=by rintro ds M R ⟨ps,rs,log,rfl,_⟩;rfl
def uc{M:Mem}{l:List D}(h:∀x∈l,St x):l.all (okD M eqN)=true:=AAh.mpr λx hx=>(h x hx).ok
def uF(hx:St x)(h:∀x∈l,St x):inD M x l=decide (x∈l):=by
 unfold inD;by_cases hm:x∈l
 ·rw[dT_ hm]
  exact AD0.mpr ⟨x,hm,by rw[show eqN=28+2 from rfl,hx.eq hx];exact dT_ rfl⟩
 ·rw[dF_ hm]
  refine ABl.mpr λz=>?_
  obtain⟨y,hy,e⟩:=AD0.mp z;rw[show eqN=28+2 from rfl,(h y hy).eq hx]at e;exact hm (oT_ e ▸ hy)
def fV:DTS:=bA (dCB iQ (aa (dLC 1 [2,3] (rB (ab 2)) (ar 0) (aG (dOp kx (ab 0) (ab 2))) (iH (aa (ab 0) (aa (lW (ab 1) (ab 0)) ag)))) ag))
def fW:DTS:=az (bd (dCB aC (aa (ab 1) (aa (ab 2) ag))) 3) (fV)
def jb:DTS:=az (bd (dCB aL (aa (ab 0) (aa (ab 1) ag))) 2) (fW)
def nj:WpT cy 4 jb:=by
 rintro ds M R ⟨ps,rs,log,rfl,hd,hl,h⟩;simp only[jb];walk_at "dl";refine⟨ps,rs,log,rfl,hd,by lia,λn B pB hB=>?_⟩
 have tb:=aN (rs:=rs) (log:=log);have kl:=bL (log:=log) (k:=AA1 "say");have hv:=fH hd (λ_ q=>q) tb
 have tl:=tb.len;have nd:=tb.nd;have en:=tb.en;have hsh:ba rs log=(ah rs log).filter λp=>@decide (¬aT (ah rs log) log p.1) (AAH _):=rfl
 rw[hsh]at h;clear hsh;generalize ah rs log=kvs at h tb tl hv nd en hB;simp only[fW];walk_at "dl";refine⟨ps,rs,log,n,kvs,rfl,hd,hl,hB,λp hp=>(hv p hp).1.nm,λys hs hy _ _=>?_⟩
 simp only[fV];walk_at "dl";have hB2:(B++[MO.lst ys])[n]?=some (.dkt kvs):=ac hB;refine⟨kvs,hB2,λ_=>?_⟩
 have sp:∀p∈kvs,St p.1:=λp hp=>by rw[(en p hp).1];exact(hv p hp).1.st
 refine bp (λk=>decide (k∉ys)) (λk=>.tup [k,(aM kvs k).getD .non]) (λS=>∃a,S=[a,some (.ref n),some (.ref B.length)]) hB2 _ _ _ ?_ ⟨_,rfl⟩ (by rw[AAm,AA4];exact aw (by lia)) ?_
 ·rintro x hm S ⟨a,rfl⟩
  obtain⟨p,hp,rfl⟩:=AAK.mp hm;have sx:=sp p hp;have hg:=cZ nd hp;refine⟨[some p.1,some (.ref n),some (.ref B.length)],⟨_,rfl⟩,λY Z hYZ=>?_⟩
  rw[hg]at hYZ;obtain⟨ks,e⟩:=sx.tup;have hk:=sx.key;rw[e]at hYZ hg hk sx ⊢;walk_at "dl";refine⟨ys,aE,⟨sx.ok,uc hs⟩,?_⟩;rw[uF sx hs];by_cases hx:D.tup ks∈ys
  ·rw[dT_ hx]
   rw[dF_ (λz=>z hx)]at hYZ
   exact bZ hYZ
  ·rw[dF_ hx]
   rw[dT_ hx,if_pos rfl]at hYZ;exact db ⟨kvs,_,hB2,hk,hg,aw (by lia),hYZ⟩
 ·rw[AAs]
  have el:((kvs.map (·.1)).filter λk=>decide (k∉ys)).map (λk=>D.tup [k,(aM kvs k).getD .non])=(kvs.filter λp=>decide (p.1∉ys)).map λp=>.tup [p.1,p.2]:=by
   rw[List.filter_map,AAt];refine AC7 λp hp=>?_
   show D.tup [p.1,(aM kvs p.1).getD .non]=_;rw[cZ nd (AAj.mp hp).1];rfl
  rw[el];have nd2:((kvs.filter λp=>decide (p.1∉ys)).map (·.1)).Nodup:=(ADd.map _).nodup nd
  refine⟨_,aE,λp hp=>?_,?_,?_⟩
  ·have sx:=sp p (AAj.mp hp).1
   obtain⟨ks,e⟩:=sx.tup;exact⟨sx.key,by rw[e];rfl⟩
  ·have:=ABM (λp:D×D=>decide (p.1∉ys)) kvs
   lia
  ·rw[yZ _ nd2]
   refine .inl (h _ _ (((pB.trans eM).trans eM).trans eM) ?_);have ef:(kvs.filter λp=>decide (p.1∉ys))=kvs.filter λp=>@decide (¬aT kvs log p.1) (AAH _):=List.filter_congr λp _=>by
    by_cases hb:aT kvs log p.1
    ·rw[dF_ (show ¬¬p.1∈ys from λz=>z ((hy _).mpr hb)),@decide_eq_false _ (AAH _) (λz=>z hb)]
    ·rw[dT_ (show ¬p.1∈ys from λz=>hb ((hy _).mp z)),@decide_eq_true _ (AAH _) hb]
   rw[<-ef];exact ae
def nU(T:Tops P w K mg base):Cal P w K mg base 5 "says_shown" fe cy :=
 Cal.byD (N:=["house","log","says","backs"]) T.b T.f_says_shown (by walk_at "sc") lO (by have:=bK T;have:=bw T;walk_at "dv") nj
def bC:DSp:=λds M R=>∃(ps:List (Str×Int)) (rs:List (Str×List Str)) (log:List D),ds=[aF ps rs,.tup log]/\(∀d∈log,aX ps rs d)/\log.length<64/\R (.ref M.length) (M++[.lst (ao rs log)])
def kR:du bC dG:=by rintro ds M R ⟨ps,rs,log,rfl,_⟩;rfl
def fI(hd:∀d∈log,aX ps rs d):∀p∈ba rs log,p.1=stD p.2/\aX ps rs p.2/\da p.2=AA1 "say":=λp hp=>by
 have h1:=(dh.mp hp).1;have tb:=aN (rs:=rs) (log:=log);exact⟨(tb.en p h1).1,fH hd (λ_ q=>q) tb p h1⟩
def Aq(hc:∀p∈ch,∃s,p.2=.str s)(hd:aX ps rs d)(hk:da d=AA1 "say"):Bel n (ET ch d):=by
 obtain⟨t,z,k,num,r,u,s,rfl,_,_,_,hu⟩:=gB hd hk;have hub:Bel n u:=by
  rcases hu with rfl | hu
  ·exact .non
  ·exact bT 2 u hu.pl
 refine .tup (.cons (bT 2 _ (St.pl (n:=0) ⟨t,z,k,rfl⟩)) (.cons (.str _) (.cons hub (.cons (.str _) (.cons ?_ (.cons (.bl _) .nil))))));cases e:aM ch (stD (.tup [.int t,.tup [.str z,.int k],.int num,.tup [.str (AA1 "say"),.str r,u,.str s]])) with
 | none=>exact .str _
 | some v =>
  obtain⟨s',e'⟩:=hc _ (bz e);dsimp only at e';rw[e'];exact .str _
def eT:DTS:=bA (dLC 1 [3] (qZ (ab 2)) (ar 0) uR (dCB cB (aa (ab 0) (aa (ab 1) ag))))
def eU:DTS:=az (bd (dCB bO (aa (ab 1) (aa (ab 2) ag))) 3) (eT)
def ik:DTS:=az (bd (dCB cy (aa (ab 0) (aa (ab 1) ag))) 2) (eU)
def lF:WpT bC 4 ik:=by
 rintro ds M R ⟨ps,rs,log,rfl,hd,hl,h⟩;simp only[ik];walk_at "dl";refine⟨ps,rs,log,rfl,hd,hl,λn B pB hB=>?_⟩
 have sv:=fI (rs:=rs) hd;have sl:(ba rs log).length<=1000:=by
  have h1:=(aN (rs:=rs) (log:=log)).len;have h2:=bL (log:=log) (k:=AA1 "say");have h3:(ba rs log).length<=(ah rs log).length:=ABM _ _;lia
 have hm:ao rs log=(ba rs log).map λp=>ET (cN (ba rs log) log) p.2:=rfl
 have hc:=lA (kvs:=ba rs log) hd;simp only[eU];walk_at "dl";refine⟨ps,rs,log,n,ba rs log,rfl,hd,by lia,hB,λp hp=>(sv p hp).2.1.nm,λn2 B2 pB2 hB2=>?_⟩
 rw[hm]at h;generalize ba rs log=T at sv sl hB hB2 h hc;generalize cN T log=ch at hB2 h hc;have hBT:=aH pB2 hB;have pM:=pB.trans pB2;simp only[eT];walk_at "dl";refine⟨T,hBT,λ_=>?_⟩
 refine cf (ET ch) (λS=>∃a,S=[a,some (.ref n2)]) hBT _ _ _ (λd hm S hS=>?_) ⟨_,rfl⟩ (by rw[AAm,AA4];exact aw (by lia)) ?_
 ·obtain⟨a,rfl⟩:=hS
  obtain⟨p,hp,rfl⟩:=AAK.mp hm;refine⟨[some p.2,some (.ref n2)],⟨_,rfl⟩,λY hY=>?_⟩
  walk_at "dl";exact⟨ps,rs,p.2,n2,ch,rfl,(sv p hp).2.1,(sv p hp).2.2,hB2,hY⟩
 ·rw[AAs,AAt]
  obtain⟨L,rfl⟩:=pM;rw[AAk];refine bI.lst h (by simp) (by simp) (Bels.of λd hd'=>?_)
  obtain⟨p,hp,rfl⟩:=AAK.mp hd';exact Aq hc (sv p hp).2.1 (sv p hp).2.2
def lI(T:Tops P w K mg base):Cal P w K mg base 6 "messages_of" dG bC :=
 Cal.byD (N:=["house","log","says","changes"]) T.b T.f_messages_of (by walk_at "sc") kR (by have:=kM T;have:=nW T;have:=nU T;walk_at "dv") lF
def cx:DSp:=λds M R=>∃(ps:List (Str×Int)) (rs:List (Str×List Str)) (log:List D),ds=[aF ps rs,.tup log]/\(∀d∈log,aX ps rs d)/\log.length<64/\∀ys,BackL rs log ys->R (.ref M.length) (M++[.lst ys])
def lN:du cx eZ:=by rintro ds M R ⟨ps,rs,log,rfl,_⟩;rfl
def ja:DTS:=bA (dCB aC (aa (ab 1) (aa (dCB aL (aa (ab 0) (aa (ab 1) ag))) ag)))
def nh:WpT cx 2 ja:=by
 rintro ds M R ⟨ps,rs,log,rfl,hd,hl,h⟩;simp only[ja];walk_at "dl";refine⟨ps,rs,log,rfl,hd,by lia,λn B pB hB=>?_⟩
 have tb:=aN (rs:=rs) (log:=log);have hv:=fH hd (λ_ q=>q) tb
 refine⟨ps,rs,log,n,ah rs log,rfl,hd,hl,hB,λp hp=>(hv p hp).1.nm,λys hs hy nd r=>?_⟩
 obtain⟨L,rfl⟩:=pB;rw[AAk];exact bI.lst (h ys ⟨hs,hy,nd,r⟩) (by simp) (by simp) (Bels.of λd m=>bT 2 d (hs d m).pl)
def nT(T:Tops P w K mg base):Cal P w K mg base 5 "taken_back" eZ cx :=
 Cal.byD (N:=["house","log"]) T.b T.f_taken_back (by walk_at "sc") lN (by have:=bK T;have:=bw T;walk_at "dv") nh
def bq:DSp:=λds M R=>∃(ps:List (Str×Int)) (rs:List (Str×List Str)) (q:Nat) (r:Str) (kvs:List (D×D)),ds=[.ref q,.str r]/\M[q]?=some (.dkt kvs)/\(∀p∈kvs,aX ps rs p.2/\da p.2=AA1 "say")/\kvs.length<=1000/\∀n B tab,M <+: B->TreeAt B n tab (ax r (kvs.map (·.2)))->R (.ref n) B
def iD:du bq cg:=by rintro ds M R ⟨ps,rs,q,r,kvs,rfl,_⟩;rfl
def cL:DTS:=bA (ab 2)
def cM:DTS:=az (mZ (qZ (ab 0)) (ar 3) (dIf (aG (dOp qEq (dCB bG (aa (ab 3) ag)) (ab 1))) (jB (dMl cH (dMm pY (ab 2) (aa (dCB bW (aa (ab 3) ag)) (aa (lu ag) ag))) (aa (dCB bX (aa (ab 3) ag)) ag))) bi)) (cL)
def eA:DTS:=az (bd (zd) 2) (cM)
def iN:WpT bq 4 eA:=by
 rintro ds M R ⟨ps,rs,q,r,kvs,rfl,hq,hk,kl,h⟩;simp only[eA,cM];walk_at "dl";refine⟨kvs,ac hq,λ_=>?_⟩
 have hqM:=aO hq;refine bj (λi S M'=>∃(tab:List (D×D)) (a:Option D),M <+: M'/\TreeAt M' M.length tab (ax r ((kvs.map (·.2)).take i))/\tab.length<=i/\S=[some (.ref q),some (.str r),some (.ref M.length),a]) ?_ ?_ ⟨[],_,eM,⟨ae,λk d z=>(by cases z),λk _=>rfl,λ_ _ _ z=>(by cases z)⟩,AA8 _,rfl⟩
 ·rintro S M' ⟨tab,a,pM,tr,_,rfl⟩
  rw[ABi]at tr;refine⟨aH pM hq,?_⟩;simp only[cL];walk_at "dl";exact .inl (h _ _ _ pM tr)
 ·rintro i e S M' he ⟨tab,a,pM,tr,tl,rfl⟩ G hG
  have et:(kvs.map (·.2)).take (i+1)=(kvs.map (·.2)).take i++[e]:=by rw[ABn,he];rfl
  rw[et]at hG;have hi:=(AA7.mp he).1;rw[AA4]at hi;have hm:=AAc he;obtain⟨p,hp,rfl⟩:=AAK.mp hm;obtain⟨dk,ks⟩:=hk p hp;generalize p.2=e at he et hG dk ks;refine⟨aH pM hq,?_⟩;walk_at "dl";have kl':∀k,(ax r ((kvs.map (·.2)).take i) k).length<=i:=λk=>by
   unfold ax;rw[AA4];refine AB3 (ABM _ _) ?_
   rw[AAy];lia
  generalize (kvs.map (·.2)).take i=es at tr hG kl';obtain⟨t,z,k,num,r',u,s,rfl,_,_,_,hu⟩:=gB dk ks;have sn:∀k',ax r (es++[.tup [.int t,.tup [.str z,.int k],.int num,.tup [.str (AA1 "say"),.str r',u,.str s]]]) k'=if r'=r/\u=k' then ax r es k'++[.tup [.int t,.tup [.str z,.int k]]]else ax r es k':=λk'=>yn
  generalize es++[.tup [.int t,.tup [.str z,.int k],.int num,.tup [.str (AA1 "say"),.str r',u,.str s]]]=es' at sn hG;have ku:oW u=true:=by
   rcases hu with rfl | ⟨t',z',k',rfl⟩
   ·rfl
   ·rfl
  refine⟨_,_,_,_,_,_,rfl,⟨aU,aU⟩,?_⟩;rw[ck];by_cases hr:r'=r
  ·rw[beq_iff_eq.mpr hr]
   have s1:ax r es' u=ax r es u++[.tup [.int t,.tup [.str z,.int k]]]:=by rw[sn,if_pos ⟨hr,rfl⟩]
   have s2:∀k',k'≠u->ax r es' k'=ax r es k':=λk' ne=>by rw[sn,if_neg λw=>ne w.2.symm]
   refine db ⟨⟨_,tr.at_⟩,_,_,_,_,_,_,_,rfl,AAX _,tab,ac tr.at_,ku,aB (by lia),λy hy=>?_,λhn=>?_⟩
   ·obtain⟨m,rfl,nm,gm⟩:=tr.got u y hy
    refine⟨⟨_,.inl (ac gm)⟩,_,_,_,rfl,_,ac gm,aB (by have:=kl' u;lia),Fgt.now (hG _ _ ⟨tab,_,bv (pM.trans eM) (ACN nm),⟨av (by lia) (ac tr.at_),λk' d hd=>?_,λk' hd=>?_,tr.one⟩,by lia,rfl⟩)⟩
    ·obtain⟨m',rfl,nm',gm'⟩:=tr.got k' d hd
     refine⟨m',rfl,nm',?_⟩;by_cases e:k'=u
     ·subst e
      rw[hy]at hd;obtain rfl:m=m':=by injection hd with hd;injection hd
      rw[bx (ac gm),s1]
     ·rw[s2 k' e]
      exact av (λz=>e (tr.one _ _ _ (z ▸ hd) hy)) (ac gm')
    ·have e:k'≠u:=λz=>by rw[z,hy]at hd;cases hd
     rw[s2 k' e];exact tr.no k' hd
   ·have lM:M.length<M'.length:=aO tr.at_
    have g0:((M'++[MO.lst []]).set M.length (.dkm (tab++[(u,.ref M'.length)])))[M'.length]?=some (.lst []):=av (by lia) ae
    have gt:∀k',aM (tab++[(u,.ref M'.length)]) k'=if k'=u then some (.ref M'.length)else aM tab k':=λk'=>by
     rw[<-kz hn];by_cases e:k'=u
     ·rw[if_pos e,e,dP]
     ·rw[if_neg e,fx e]
    refine⟨⟨_,.inl g0⟩,_,_,_,rfl,_,g0,aB (by rw[AAm];lia),Fgt.now (hG _ _ ⟨tab++[(u,.ref M'.length)],_,bv (bv (pM.trans eM) (AA8 _)) (by lia),⟨av (by lia) (bx (ac tr.at_)),λk' d hd=>?_,λk' hd=>?_,λk1 k2 m h1 h2=>?_⟩,by rw[AAA,AAb];lia,rfl⟩)⟩
    ·rw[gt]at hd
     by_cases e:k'=u
     ·rw[if_pos e]at hd
      subst e;exact⟨M'.length,by injection hd with hd;exact hd.symm,lM,by rw[bx g0,s1,tr.no _ hn]⟩
     ·rw[if_neg e]at hd
      obtain⟨m',rfl,nm',gm'⟩:=tr.got k' d hd;have:=aO gm';exact⟨m',rfl,nm',by rw[s2 k' e];exact av (by lia) (av (by lia) (ac gm'))⟩
    ·rw[gt]at hd
     by_cases e:k'=u
     ·rw[if_pos e]at hd;cases hd
     ·rw[if_neg e]at hd
      rw[s2 k' e];exact tr.no k' hd
    ·rw[gt]at h1 h2
     have old:∀k' m,aM tab k'=some (.ref m)->m<M'.length:=λk' m h'=>by
      obtain⟨m',e,_,gm'⟩:=tr.got k' _ h';injection e with e
      rw[e];exact aO gm'
     by_cases e1:k1=u<;>by_cases e2:k2=u
     ·rw[e1,e2]
     ·rw[if_pos e1]at h1;rw[if_neg e2]at h2
      have:=old _ _ h2;injection h1 with h1;injection h1 with h1;lia
     ·rw[if_neg e1]at h1;rw[if_pos e2]at h2
      have:=old _ _ h1;injection h2 with h2;injection h2 with h2;lia
     ·rw[if_neg e1]at h1;rw[if_neg e2]at h2
      exact tr.one _ _ _ h1 h2
  ·rw[beq_eq_false_iff_ne.mpr hr]
   have s0:∀k',ax r es' k'=ax r es k':=λk'=>by rw[sn,if_neg λw=>hr w.1]
   exact bZ (Fgt.now (hG _ _ ⟨tab,_,pM,⟨tr.at_,λk' d hd=>by rw[s0];exact tr.got k' d hd,λk' hd=>by rw[s0];exact tr.no k' hd,tr.one⟩,by lia,rfl⟩))
def iT(T:Tops P w K mg base):Cal P w K mg base 2 "stamps_beneath" cg bq :=
 Cal.byD (N:=["says","room","beneath","say"]) T.b T.f_stamps_beneath (by walk_at "sc") iD (by have:=gP T;have:=iU T;have:=gO T;walk_at "dv") iN
def bN:DSp:=λds M R=>∃(n:Int) (q:Nat) (xs:List D),ds=[.int n,.ref q]/\ak M q xs/\(∀x∈xs,St x)/\R (.ref M.length) (M++[.lst (bn n xs)])
def lT:du bN fi:=by rintro ds M R ⟨n,q,xs,rfl,_⟩;rfl
def Fv(h:∀x∈xs,St x):Bels k (bn n xs):=Bels.of λd hd=>by
 obtain⟨x,hx,rfl⟩:=AAK.mp hd;exact .tup (.cons (.int _) (.cons (bT 2 _ (h x (ACL.mp hx)).pl) .nil))
def jf:DTS:=bA (dLC 1 [0] (Bc (aa (ab 1) ag)) (ar 0) uR (iH (aa (ab 1) (aa (ab 0) ag))))
def nr:WpT bN 2 jf:=by
 rintro ds M R ⟨n,q,xs,rfl,hL,hs,h⟩;simp only[jf];walk_at "dl";refine⟨xs,hL,λhl=>?_⟩
 refine cf (λx=>.tup [.int n,x]) (λS=>∃a,S=[a,some (.int n)]) hL _ _ _ (λx hx S hS=>?_) ⟨_,rfl⟩ (by rw[AAm,ACz];lia) (.inl h)
 obtain⟨a,rfl⟩:=hS;refine⟨[some x,some (.int n)],⟨_,rfl⟩,λY hY=>?_⟩
 walk_at "dl";exact⟨aw (by lia),hY⟩
def nY(T:Tops P w K mg base):Cal P w K mg base 1 "last_first" fi bN :=
 Cal.byD (N:=["depth","stamps"]) T.b T.f_last_first (by walk_at "sc") lT (by walk_at "dv") nr
def bM:DSp:=λds M R=>∃(n:Nat) (tab:List (D×D)) (es:List D) (r:Str),ds=[.ref n]/\TreeAt M n tab (ax r es)/\(∀e∈es,St (stD e)/\(bf e=.non\/St (bf e)))/\(es.map stD).Nodup/\es.length<=100/\∀out,RunW (ax r es) [] (bn 0 (ax r es .non)) out->(∀x∈out,∃k s,x=.tup [.int k,s]/\St s)->out.length<=es.length->R (.ref M.length) (M++[.lst out])
def jw:du bM cW:=by rintro ds M R ⟨n,tab,es,r,rfl,_⟩;rfl
def vA(h:a<=1000):a<=sizeLine:=aw (by lia)
def iteT'{b:Bool}{A B:Prop}(e:b=true)(h:A):if b=true then A else B:=by rw[if_pos e];exact h
def eD:DTS:=bA (ab 1)
def eE:DTS:=jB (dMl iP (ab 2) (aa (dCB bN (aa (dOp bh (dOp qIx (ab 3) (dC (.int 0))) (dC (.int 1))) (aa (dMm mJ (ab 0) (aa (dOp qIx (ab 3) (dC (.int 1))) (aa (lu ag) ag))) ag))) ag))
def eF:DTS:=az (jB (dMl cH (ab 1) (aa (ab 3) ag))) (eE)
def eG:DTS:=az (uS (aG (dOp qGt (dCB mK (aa (ab 2) ag)) (dC (.int 0)))) (az (bd (dMl0 Fy (ab 2)) 3) (eF))) (eD)
def eH:DTS:=az (bd (dCB bN (aa (dC (.int 0)) (aa (dMm mJ (ab 0) (aa (dC .non) (aa (lu ag) ag))) ag))) 2) (eG)
def fX:DTS:=az (bd (lu ag) 1) (eH)
def jS:WpT bM 4 fX:=by
 rintro ds M R ⟨n,tab,es,r,rfl,tr,hs,nd,el,h⟩;have p1:M <+: M++[MO.lst []]++[MO.lst []]:=eM.trans eM;have g0:(M++[MO.lst []]++[MO.lst []])[(M++[MO.lst []]).length]?=some (.lst []):=ae;have gr:(M++[MO.lst []]++[MO.lst []])[M.length]?=some (.lst []):=ac ae;have kS:∀k,∀x∈ax r es k,St x:=λk x hx=>by
  obtain⟨e,he,rfl,_⟩:=dL.mp hx;exact(hs e he).1
 simp only[fX,eH];walk_at "dl";refine⟨AAX _,⟨_,ac tr.at_⟩,AAX _,_,ac (ac tr.at_),rfl,?_⟩;obtain⟨q,eq,gq⟩:=(tr.pre p1).kids (k:=.non) g0;rw[eq];refine⟨0,q,_,rfl,.inl gq,kS _,?_⟩;have lM:M.length<(M++[MO.lst []]++[MO.lst []]).length:=by simp
 have gt:(M++[MO.lst []]++[MO.lst []]++[MO.lst (bn 0 (ax r es .non))])[(M++[MO.lst []]++[MO.lst []]).length]?=some (.lst (bn 0 (ax r es .non))):=ae;replace gr:=ac (a:=MO.lst (bn 0 (ax r es .non))) gr;replace p1:=p1.trans (eM (mo:=MO.lst (bn 0 (ax r es .non))));generalize M++[MO.lst []]++[MO.lst []]++[MO.lst (bn 0 (ax r es .non))]=B at gt gr p1;generalize (M++[MO.lst []]++[MO.lst []]).length=qt at gt lM;have eS:∀e∈es,stD e≠.non:=λe he z=>by obtain⟨t,z',k,e'⟩:=(hs e he).1;rw[z]at e';cases e'
 simp only[eG];walk_at "dl";refine⟨λm S M'=>∃(rows todo:List D) (a:Option D),M <+: M'/\M'[M.length]?=some (.lst rows)/\M'[qt]?=some (.lst todo)/\TreeW r es rows todo/\(∀out,RunW (ax r es) rows todo out->RunW (ax r es) [] (bn 0 (ax r es .non)) out)/\m+rows.length=es.length/\S=[some (.ref n),some (.ref M.length),some (.ref qt),a],⟨es.length,[],_,_,p1,gr,gt,.start nd,λ_ z=>z,rfl,rfl⟩,?_⟩
 rintro m S M' ⟨rows,todo,a,pM,hr,ht,w,go,hm,rfl⟩;have wl:=w.len;walk_at "dl";refine⟨_,.inl ht,?_⟩;have fin:∀x∈rows,∃k s,x=D.tup [.int k,s]/\St s:=λx hx=>by
  obtain⟨k,e,q1,q2,_⟩:=w.ok x (AAP _ hx);exact⟨k,_,q1,(hs e q2).1⟩
 rcases List.eq_nil_or_concat todo with rfl | ⟨todo',x,rfl⟩
 ·refine bZ ?_
  simp only[eD];walk_at "dl";refine bI.chgL .refl (h rows (go _ .done) fin (by lia)) (AA8 _) hr pM (Bels.of λd hd=>?_)
  obtain⟨k,s,rfl,q⟩:=fin d hd;exact .tup (.cons (.int _) (.cons (bT 2 _ q.pl) .nil))
 ·rw[AEI]at *
  have wo:=w.ok x (by simp)
  obtain⟨k,e,rfl,he,_⟩:=wo;have w':=w.step nd eS;have wl':=w'.len;have go':∀out,RunW (ax r es) (rows++[.tup [.int k,stD e]]) (todo'++bn (k+1) (ax r es (stD e))) out->RunW (ax r es) [] (bn 0 (ax r es .non)) out:=λout z=>go out (by have:=RunW.step z;simpa using this)
  have ks:=AD (r:=r) (es:=es) (k:=stD e);have ke:oW (stD e)=true:=by obtain⟨t,z,k,q⟩:=(hs e he).1;rw[q];rfl
  have kse:=kS (stD e);rw[AAA,AAA,AAb]at wl';generalize stD e=s at *;rw[AAA,AAb]at wl;refine iteT' (dT_ (by rw[AAA,AAb];lia)) ⟨⟨_,.inl ht⟩,todo',_,ht,?_⟩
  have pM1:=bv (x:=MO.lst todo') pM (ACN lM);have hr1:=av (x:=MO.lst todo') (AAO lM) hr;have ht1:=bx (a:=MO.lst todo') ht;generalize M'.set qt (MO.lst todo')=M1 at pM1 hr1 ht1;simp only[eF];walk_at "dl";refine⟨⟨_,.inl hr1⟩,_,hr1,aB (by lia),?_⟩
  have pM2:=bv (x:=MO.lst (rows++[.tup [.int k,s]])) pM1 (AA8 _);have hr2:=bx (a:=MO.lst (rows++[.tup [.int k,s]])) hr1;have ht2:=av (x:=MO.lst (rows++[.tup [.int k,s]])) (ABO (AAO lM)) ht1;generalize M1.set M.length (MO.lst (rows++[.tup [.int k,s]]))=M2 at pM2 hr2 ht2;simp only[eE];walk_at "dl";have tr2:=tr.pre pM2;refine⟨⟨_,.inl ht2⟩,⟨_,tr2.at_⟩,AAX _,tab,ac tr2.at_,ke,?_⟩;obtain⟨q',eq',gq'⟩:=(tr2.pre (eM (mo:=MO.lst []))).kids (k:=s) (q0:=M2.length) ae;rw[eq'];refine⟨k+1,q',_,rfl,.inl gq',kse,?_⟩;have lq:=aO ht2;refine⟨_,_,ac (ac ht2),ae,by rw[AAA];lia,vA (by unfold bn;rw[AA4,ACz];lia),m-1,?_,rows++[.tup [.int k,s]],_,_,bv ((pM2.trans eM).trans eM) (ACN lM),av (AAO lM) (ac (ac hr2)),bx (ac (ac ht2)),w',go',?_,rfl⟩
  ·lia
  ·rw[AAA,AAb];lia
def kL(T:Tops P w K mg base):Cal P w K mg base 2 "rows_of_tree" cW bM :=
 Cal.byD (N:=["beneath","rows","to_do","row"]) T.b T.f_rows_of_tree (by walk_at "sc") jw (by have:=nY T;walk_at "dv") jS
def dn:DSp:=λds M R=>∃(ps:List (Str×Int)) (rs:List (Str×List Str)) (log:List D) (r:Str),ds=[aF ps rs,.tup log,.str r]/\r∈rs.map (·.1)/\(∀d∈log,aX ps rs d)/\log.length<64/\∀out,RunW (ax r ((ah rs log).map (·.2))) [] (bn 0 (ax r ((ah rs log).map (·.2)) .non)) out->(∀x∈out,∃k s,x=.tup [.int k,s]/\St s)->R (.ref M.length) (M++[.lst (out.filter λx=>@decide (¬aT (ah rs log) log (aY x)) (AAH _))])
def sG:du dn kF:=by rintro ds M R ⟨ps,rs,log,r,rfl,_⟩;rfl
def jV:DTS:=bA (dLC 1 [4] (dc (dCB bM (aa (dCB bq (aa (ab 3) (aa (ab 2) ag))) ag))) (ar 0) (aG (dOp kx (dOp qIx (ab 0) (dC (.int 1))) (ab 1))) (ab 0))
def jW:DTS:=az (bd (dCB aC (aa (ab 1) (aa (ab 3) ag))) 4) (jV)
def jX:DTS:=az (bd (dCB aL (aa (ab 0) (aa (ab 1) ag))) 3) (jW)
def py:DTS:=az (dIf (EB (aG (dCB fS (aa (ab 0) (aa (ab 2) ag))))) (rj) bi) (jX)
theorem uY:WpT dn 5 py:=by
 rintro ds M R ⟨ps,rs,log,r,rfl,hr,hd,hl,h⟩;simp only[py];walk_at "dl";refine⟨ps,rs,r,rfl,hr,bZ ?_⟩;simp only[jX];walk_at "dl";refine⟨ps,rs,log,rfl,hd,by lia,λn B pB hB=>?_⟩
 have tb:=aN (rs:=rs) (log:=log);have hv:=fH hd (λ_ q=>q) tb
 have kl:=bL (log:=log) (k:=AA1 "say");have tl:=tb.len;simp only[jW];walk_at "dl";refine⟨ps,rs,log,n,ah rs log,rfl,hd,hl,hB,λp hp=>(hv p hp).1.nm,λys hys hy ynd _=>?_⟩
 have gb:(B++[MO.lst ys])[B.length]?=some (.lst ys):=ae;replace hB:=ac (a:=MO.lst ys) hB;replace pB:=pB.trans (eM (mo:=MO.lst ys));generalize B++[MO.lst ys]=B1 at gb hB pB;generalize B.length=qb at gb;simp only[jV];walk_at "dl";refine⟨ps,rs,n,r,ah rs log,rfl,hB,hv,by lia,λn2 B2 tab p2 tr=>?_⟩
 have eS:∀e∈(ah rs log).map (·.2),St (stD e)/\(bf e=.non\/St (bf e)):=λe he=>by
  obtain⟨p,hp,rfl⟩:=AAK.mp he;obtain⟨h1,h2⟩:=hv p hp;generalize p.2=e at h1 h2;obtain⟨t,z,k,num,r',u,s,rfl,_,_,_,hu⟩:=gB h1 h2;exact⟨⟨t,z,k,rfl⟩,hu⟩
 have nd:(((ah rs log).map (·.2)).map stD).Nodup:=by
  have:((ah rs log).map (·.2)).map stD=(ah rs log).map (·.1):=by
   rw[AAt];exact AC7 λp hp=>(tb.en p hp).1.symm
  rw[this];exact tb.nd
 refine⟨n2,tab,_,r,rfl,tr,eS,nd,by rw[AA4];lia,λout hw ho ol=>?_⟩
 rw[AA4]at ol;have gb2:=ac (a:=MO.lst out) (aH p2 gb);have pB2:=(pB.trans p2).trans (eM (mo:=MO.lst out));have go:(B2++[MO.lst out])[B2.length]?=some (.lst out):=ae;generalize B2++[MO.lst out]=B3 at gb2 pB2 go;refine⟨_,.inl go,λ_=>?_⟩
 refine bp (λx=>@decide (¬aT (ah rs log) log (aY x)) (AAH _)) id (λS=>∃a,S=[a,some (.ref qb)]) (.inl go) _ _ _ ?_ ⟨_,rfl⟩ (by rw[AAm];exact aw (by lia)) ?_
 ·rintro x hx S ⟨a,rfl⟩
  refine⟨[some x,some (.ref qb)],⟨_,rfl⟩,λY Z hYZ=>?_⟩
  obtain⟨k,s,rfl,hs⟩:=ho x hx;walk_at "dl";refine⟨_,.inl gb2,⟨hs.ok,uc hys⟩,?_⟩;rw[uF hs hys];by_cases hm:s∈ys
  ·rw[dT_ hm]
   rw[show @decide (¬aT (ah rs log) log (aY (.tup [.int k,s]))) (AAH _)=false from @decide_eq_false _ (AAH _) λz=>z ((hy s).mp hm)]at hYZ
   exact hYZ
  ·rw[dF_ hm]
   rw[show @decide (¬aT (ah rs log) log (aY (.tup [.int k,s]))) (AAH _)=true from @decide_eq_true _ (AAH _) λz=>hm ((hy s).mpr z)]at hYZ
   exact hYZ
 ·rw[AAs,ACu]
  refine bI.chgL .refl (h out hw ho) (by obtain⟨L,rfl⟩:=pB2;simp) ae (pB2.trans eM) (Bels.of λd hd'=>?_)
  obtain⟨k,s,rfl,q⟩:=ho d (AAj.mp hd').1;exact .tup (.cons (.int _) (.cons (bT 2 _ q.pl) .nil))
def vH(T:Tops P w K mg base):Cal P w K mg base 5 "rows_of" kF dn :=
 Cal.byD (N:=["house","log","room","says","backs"]) T.b T.f_rows_of (by walk_at "sc") sG (by have:=vI T;have:=bK T;have:=bw T;have:=iT T;have:=kL T;walk_at "dv") uY
def Co(ns:List Int)(k:Nat):Int:=ns.getD k 0
def fT:DSp:=λds M R=>∃(n:Nat) (ns:List Int) (k:Nat),ds=[.ref n,.int k]/\ak M n (ns.map D.int)/\R (.int (Co ns k)) M
def sJ:du fT kI:=by rintro ds M R ⟨n,ns,k,rfl,_⟩;rfl
def kh:DTS:=bA (dC (.int 0))
def pP:DTS:=az (dIf (aG (dOp qLt (ab 1) (dCB mK (aa (ab 0) ag)))) (bA (dOp qIx (ab 0) (ab 1))) bi) (kh)
def vb:WpT fT 2 pP:=by
 rintro ds M R ⟨n,ns,k,rfl,hL,h⟩;simp only[pP,kh];walk_at "dl";refine⟨_,hL,?_⟩;unfold Co at h;by_cases hk:k<ns.length
 ·rw[dT_ (by simpa using hk)]
  refine db ⟨_,hL,?_⟩;rw[ay (v:=.int ns[k]) (by rw[AAV,AA5 hk];rfl)]
  rw[AAU,AA5 hk]at h;exact bI.now h
 ·rw[dF_ (by simpa using hk)]
  rw[AAU,ABW (by lia)]at h
  exact bZ (bI.now h)
def vJ(T:Tops P w K mg base):Cal P w K mg base 1 "_law_cell_at" kI fT :=
 Cal.byD (N:=["_law_script","_law_k"]) T.b T.f_cell_at (by walk_at "sc") sJ (by walk_at "dv") vb
def dq:DSp:=λds M R=>∃(c:Int),ds=[.int c]/\∀n:Int,R (.ref M.length) (M++[.lst [.int n]])
def vR:du dq nS:=by rintro ds M R ⟨c,rfl,_⟩;rfl
def mz:DTS:=bA (lu (aa (ab 3) ag))
def mB:DTS:=bd (dOp bh (dOp nL (ab 3) (dC (.int 2147483587))) (dOp xw (dOp nL (ab 5) (dC (.int 69621))) (dC (.int 2147483587)))) 3
def mC:DTS:=az (bd (dOp xw (dOp nL (ab 2) (ab 2)) (dC (.int 2147483629))) 5) (mB)
def mD:DTS:=az (mZ (dW (aa (dC (.int 16)) ag)) (ar 4) (az (bd (dOp xw (dOp bh (dOp bh (dOp nL (ab 2) (dC (.int 48271))) (dOp nL (dC (.int 7919)) (ab 4))) (dC (.int 11))) (dC (.int 2147483647))) 2) (mC))) (mz)
def mE:DTS:=az (bd (dC (.int 0)) 3) (mD)
def mF:DTS:=az (bd (dOp xw (ab 1) (dC (.int 2147483647))) 2) (mE)
def mG:DTS:=az (dIf (aG (dOp qEq (dOp xw (ab 0) (dC (.int 2))) (dC (.int 0)))) (bA (lu (aa (ab 1) ag))) bi) (mF)
def tW:DTS:=az (bd (dOp sf (ab 0) (dC (.int 2))) 1) (mG)
def wC:WpT dq 6 tW:=by
 rintro ds M R ⟨c,rfl,h⟩;simp only[tW,mG];walk_at "dl";refine⟨⟨by decide,by decide⟩,by decide,⟨rfl,rfl⟩,?_⟩
 generalize hb:eqD M eqN (.int (c % 2)) (.int 0)=b;cases b with
 | true=>exact db ⟨aw (by lia),.inl (h _)⟩
 | false =>
  refine bZ ?_
  simp only[mF,mE,mD];walk_at "dl";have r0:=ul (a:=c / 2) (b:=2147483647) (by decide)
  have r1:=um (a:=c / 2) (b:=2147483647) (by decide)
  refine⟨by decide,⟨by decide,by decide⟩,?_⟩
  refine bj (λi S M'=>M'=M/\∃(nu to:Int) (a b:Option D),0<=nu/\nu<2147483647/\S=[some (.int c),some (.int (c / 2)),some (.int nu),some (.int to),a,b]) ?_ ?_ ⟨rfl,_,_,_,_,r0,r1,rfl⟩
  ·rintro S M' ⟨rfl,nu,to,a,b,_,_,rfl⟩
   refine⟨trivial,?_⟩;simp only[mz];walk_at "dl";exact⟨aw (by lia),.inl (h _)⟩
  ·rintro i y S M' hy ⟨rfl,nu,to,a,b,n0,n1,rfl⟩ G hG
   obtain⟨hi,rfl⟩:=fM.mp hy;refine⟨trivial,?_⟩;walk_at "dl";refine⟨.inr ⟨by decide,by decide⟩,.inl ⟨by decide,by decide⟩,by decide,?_⟩
   have a0:=ul (a:=nu*48271+7919*(0+(i:Int))+11) (b:=2147483647) (by decide)
   have a1:=um (a:=nu*48271+7919*(0+(i:Int))+11) (b:=2147483647) (by decide)
   generalize (nu*48271+7919*(0+(i:Int))+11) % 2147483647=nv at a0 a1;simp only[mC,mB];walk_at "dl";refine⟨.inl ⟨by lia,by lia⟩,by decide,.inr ⟨by decide,by decide⟩,.inr ⟨by decide,by decide⟩,by decide,?_⟩
   exact Fgt.now (hG _ _ ⟨rfl,_,_,_,_,a0,a1,rfl⟩)
def qi(T:Tops P w K mg base):Cal P w K mg base 1 "_law_digits" nS dq :=
 Cal.byD (N:=["_law_cell","_law_rest","_law_number","_law_total","_law_k","_law_other"]) T.b T.f_digits (by walk_at "sc") vR (by walk_at "dv") wC
def aq:DSp:=λds M R=>∃(q:Nat) (m:Int),ds=[.ref q,.int m]/\HdP M q/\0<m/\m<100000000000/\∀i n:Int,0<=i->i<m->R (.int i) (M.set q (.lst [.int n]))
def Av:du aq xI:=by rintro ds M R ⟨q,m,rfl,_⟩;rfl
def tI:DTS:=bA (ab 2)
def tJ:DTS:=az (HN (dOp sf (dOp qIx (ab 0) (dC (.int 0))) (ab 1)) (AZ (ab 0) (dC (.int 0)))) (tI)
def Bs:DTS:=az (bd (dOp xw (dOp qIx (ab 0) (dC (.int 0))) (ab 1)) 2) (tJ)
def Cw:WpT aq 3 Bs:=by
 rintro ds M R ⟨q,m,rfl,⟨n,hq⟩,m0,m1,h⟩;simp only[Bs,tJ,tI];walk_at "dl";refine⟨_,.inl hq,?_⟩;rw[at0];refine⟨m0,_,.inl hq,?_⟩;rw[at0];exact⟨⟨m0,by lia⟩,_,0,hq,rfl,.inl (h _ _ (ul m0) (um m0))⟩
def dH(T:Tops P w K mg base):Cal P w K mg base 1 "_law_take" xI aq :=
 Cal.byD (N:=["_law_held","_law_many","_law_digit"]) T.b T.f_take (by walk_at "sc") Av (by walk_at "dv") Cw
def iZ:DSp:=λds M R=>∃(q:Nat),ds=[.ref q]/\HdP M q/\∀(z:Str) (n:Int),z.length<=8->R (.str z) (M.set q (.lst [.int n]))
def Ax:du iZ xK:=by rintro ds M R ⟨q,rfl,_⟩;rfl
def tO:DTS:=bA (ab 2)
def tP:DTS:=az (mZ (dW (aa (dOp bh (dC (.int 1)) (dCB aq (aa (ab 0) (aa (dC (.int 8)) ag)))) ag)) (ar 3) (bd (dOp bh (ab 2) (dOp qIx (ab 1) (dCB aq (aa (ab 0) (aa (dC (.int 26)) ag))))) 2)) (tO)
def tQ:DTS:=az (bd (dC (.str "")) 2) (tP)
def Bu:DTS:=az (bd (dC (.str "abcdefghijklmnopqrstuvwxyz")) 1) (tQ)
def Cz:WpT iZ 4 Bu:=by
 rintro ds M R ⟨q,rfl,hq,h⟩;have ql:=hq.lt;simp only[Bu,tQ,tP];walk_at "dl";refine⟨q,8,rfl,hq,by decide,by decide,λi n i0 i1=>?_⟩
 have g0:=hq.start.set (n:=n) ql;generalize M.set q (.lst [.int n])=B0 at g0;walk_at "dl";refine⟨⟨by lia,by lia⟩,?_⟩
 refine bj (λj S M'=>Hl M M' q/\∃(z:Str) (a:Option D),z.length=j/\S=[some (.ref q),some (.str (AA1 "abcdefghijklmnopqrstuvwxyz")),some (.str z),a]) ?_ ?_ ⟨g0,AA1 "",_,by decide +kernel,rfl⟩
 ·rintro S M' ⟨g,z,a,zl,rfl⟩
  refine⟨trivial,?_⟩;simp only[tO];walk_at "dl";rw[iq]at zl;exact g.fin (.str _) λn=>h z n (by lia)
 ·rintro j y S M' hy ⟨g,z,a,zl,rfl⟩ G hG
  have hj:=(fM.mp hy).1;refine⟨trivial,?_⟩;walk_at "dl";refine⟨q,26,rfl,g.hd ql,by decide,by decide,λk n k0 k1=>?_⟩
  have g1:=g.set (n:=n) ql;generalize M'.set q (.lst [.int n])=B1 at g1;walk_at "dl";have hl:(AA1 "abcdefghijklmnopqrstuvwxyz").cps.toList.length=26:=by decide +kernel
  have hz:(AA1 "abcdefghijklmnopqrstuvwxyz").length=26:=by decide +kernel
  obtain⟨j',hj',ej,_⟩:=gI (xs:=(AA1 "abcdefghijklmnopqrstuvwxyz").cps.toList) k0 (by rw[hl];exact k1)
  refine⟨by rw[hz];exact aw (by lia),?_⟩
  rw[ej];have o1:∀c:Nat,(⟨#[c]⟩:Str).length=1:=λ_=>rfl
  refine⟨by rw[o1];exact aw (by lia),Fgt.now (hG _ _ ⟨g1,_,_,?_,rfl⟩)⟩
  rw[bV,o1,zl]
def xO(T:Tops P w K mg base):Cal P w K mg base 2 "_law_name" xK iZ :=
 Cal.byD (N:=["_law_held","_law_letters","_law_name_here","_law_k"]) T.b T.f_name (by walk_at "sc") Ax (by have:=dH T;walk_at "dv") Cz
def iL:DSp:=λds M R=>∃(q:Nat) (m:Int),ds=[.ref q,.int m]/\HdP M q/\1<=m/\m<=4/\∀(xs:List Str) (n:Int),xs.Nodup->1<=xs.length->xs.length<=4->(∀x∈xs,x.length<=8)->R (.ref M.length) (M.set q (.lst [.int n])++[.lst (xs.map .str)])
def xZ:du iL si:=by rintro ds M R ⟨q,m,rfl,_⟩;rfl
def ka:DTS:=bA (dCB kw (aa (ab 4) ag))
def kb:DTS:=dIf (aG (dOp kx (ab 6) (ab 4))) (jB (dMl cH (ab 4) (aa (ab 6) ag))) bi
def pA:DTS:=az (dIf (aG (ab 2)) (bd (dSl (dSl (dOp bh (dSl (ab 3) fE (jA (dC (.int 7)))) (ab 6)) fE (jA (dOp bh (dCB mK (aa (ab 3) ag)) (ab 5)))) fE (jA (dC (.int 8)))) 6) bi) (kb)
def pC:DTS:=az (mZ (oQ (aa (dC (.int 1)) (aa (ab 1) ag))) (ar 5) (az (bd (dCB iZ (aa (ab 0) ag)) 6) (pA))) (ka)
def pD:DTS:=az (bd (lu (aa (ab 3) ag)) 4) (pC)
def pE:DTS:=az (bd (dCB iZ (aa (ab 0) ag)) 3) (pD)
def wI:DTS:=az (bd (dOp qEq (dCB aq (aa (ab 0) (aa (dC (.int 2)) ag))) (dC (.int 1))) 2) (pE)
def zC:WpT iL 7 wI:=by
 rintro ds M R ⟨q,m,rfl,hq,m1,m4,h⟩;have ql:=hq.lt;simp only[wI];walk_at "dl";refine⟨q,2,rfl,hq,by decide,by decide,λi n _ _=>?_⟩
 have g0:=hq.start.set (n:=n) ql;generalize M.set q (.lst [.int n])=B0 at g0;refine⟨⟨rfl,rfl⟩,?_⟩;generalize eqD B0 eqN (.int i) (.int 1)=al;simp only[pE];walk_at "dl";refine⟨q,rfl,g0.hd ql,λz n zl=>?_⟩
 have g1:=g0.set (n:=n) ql;generalize B0.set q (.lst [.int n])=B1 at g1;simp only[pD];walk_at "dl";refine⟨aw (by lia),?_⟩
 have g2:Hl M (B1++[MO.lst [D.str z]]) q:=g1.more;have gp:(B1++[MO.lst [D.str z]])[B1.length]?=some (.lst ([z].map D.str)):=ae;have pM:=g1.len;generalize B1++[MO.lst [D.str z]]=B2 at g2 gp;generalize B1.length=p at gp pM;simp only[pC];walk_at "dl";refine⟨⟨by decide,by decide,by lia,by lia⟩,?_⟩
 refine bj (λj S M'=>Hl M M' q/\∃(xs:List Str) (a b:Option D),xs.Nodup/\1<=xs.length/\xs.length<=1+j/\(∀x∈xs,x.length<=8)/\M'[p]?=some (.lst (xs.map .str))/\S=[some (.ref q),some (.int m),some (.bl al),some (.str z),some (.ref p),a,b]) ?_ ?_ ⟨g2,[z],_,_,by simp,by simp,by simp,by simpa using zl,gp,rfl⟩
 ·rintro S M' ⟨g,xs,a,b,nd,x1,xl,x8,gp,rfl⟩
  rw[iq]at xl;refine⟨trivial,?_⟩;simp only[ka];walk_at "dl";refine⟨_,.inl gp,(zL (by lia)).g,λys hy _=>?_⟩
  obtain⟨zs,rfl,hp⟩:=qc hy;have hl:=hp.length_eq;exact(g.more (L:=[.lst (zs.map .str)])).finL g.len ae (ud _) λn=>h zs n (hp.nodup_iff.mpr nd) (by lia) (by lia) λx hx=>x8 x (hp.mem_iff.mp hx)
 ·rintro j y S M' hy ⟨g,xs,a,b,nd,x1,xl,x8,gp,rfl⟩ G hG
  obtain⟨hj,rfl⟩:=fM.mp hy;refine⟨trivial,?_⟩;walk_at "dl";refine⟨q,rfl,g.hd ql,λy n yl=>?_⟩
  have g3:=g.set (n:=n) ql;have gp3:(M'.set q (.lst [.int n]))[p]?=some (.lst (xs.map .str)):=av (by lia) gp
  generalize M'.set q (.lst [.int n])=B3 at g3 gp3;have fin:∀y:Str,y.length<=8->kb ⟨Fgt B2 G,bI M R,λS' M'=>ka (EE M R) S' M',Fgt B2 G⟩ [some (.ref q),some (.int m),some (.bl al),some (.str z),some (.ref p),some (.int (1+(j:Int))),some (.str y)] B3:=λy yl=>by
   simp only[kb];walk_at "dl";refine⟨_,.inl gp3,⟨aU,nH⟩,?_⟩;rw[oF];by_cases hm:y∈xs
   ·rw[dT_ hm]
    exact bZ (Fgt.now (hG _ _ ⟨g3,xs,_,_,nd,x1,by lia,x8,gp3,rfl⟩))
   ·rw[dF_ hm]
    refine db ⟨⟨_,.inl gp3⟩,_,gp3,aB (by rw[AA4];lia),?_⟩
    refine Fgt.now (hG _ _ ⟨g3.setO pM,xs++[y],_,_,?_,?_,?_,λx hx=>?_,?_,rfl⟩)
    ·exact ABL.mpr ⟨nd,by simp,λa ha b hb e=>hm (by rw[show b=y by simpa using hb]at e;exact e ▸ ha)⟩
    ·rw[AAA];lia
    ·rw[AAA,AAb];lia
    ·rcases AAa.mp hx with hx | hx
     ·exact x8 x hx
     ·rw[show x=y by simpa using hx];exact yl
    ·rw[AAW];exact bx gp3
  simp only[pA];walk_at "dl";cases al with
  | false=>exact bZ (fin y yl)
  | true =>
   have s1:=Txt.slice_le z none (some 7);have s2:=Txt.slice_le (AER z none (some 7)++y) none (some ((z.length:Int)+(1+(j:Int))));rw[bV]at s2;refine db ⟨aw (by lia),aw (by lia),aw (by lia),by rw[bV];exact aw (by lia),aw (by lia),?_⟩
   exact fin _ (zN _ 8)
def Ag(T:Tops P w K mg base):Cal P w K mg base 3 "_law_names" si iL :=
 Cal.byD (N:=["_law_held","_law_many","_law_alike","_law_base","_law_names_here","_law_k","_law_name_here"]) T.b T.f_names (by walk_at "sc") xZ (by have:=dH T;have:=xO T;walk_at "dv") zC
def jQ:DSp:=λds M R=>∃(c:Int),ds=[.int c]/\∀ps rs,HouseF ps rs->R (aF ps rs) M
def ya:du jQ sj:=by rintro ds M R ⟨c,rfl,_⟩;rfl
structure HsD(M B:Mem)(q p:Nat)(ns:List Str):Prop where
 pre:M <+: B
 qM:M.length<=q
 hd:HdP B q
 ne:p≠q
 nm:B[p]?=some (.lst (ns.map .str))
section
variable{M B:Mem}{q p m:Nat}{ns:List Str}{n:Int}{x:MO}
def HsD.set(g:HsD M B q p ns):HsD M (B.set q (.lst [.int n])) q p ns:=⟨bv g.pre g.qM,g.qM,⟨n,AAx g.hd.lt⟩,g.ne,av g.ne g.nm⟩
def HsD.more(g:HsD M B q p ns):HsD M (B++L) q p ns:=⟨g.pre.trans (AAl _ _),g.qM,by obtain⟨n,h⟩:=g.hd;exact⟨n,aH (AAl _ _) h⟩,g.ne,aH (AAl _ _) g.nm⟩
def HsD.setO(g:HsD M B q p ns)(h1:M.length<=m)(h2:q≠m)(h3:p≠m):HsD M (B.set m x) q p ns:=⟨bv g.pre h1,g.qM,by obtain⟨n,h⟩:=g.hd;exact⟨n,av h2 h⟩,g.ne,av h3 g.nm⟩
end
def pG:DTS:=bA (iH (aa (ab 3) (aa (dCB iw (aa (ab 4) ag)) ag)))
def pH:DTS:=jB (dMl cH (ab 4) (aa (iH (aa (ab 5) (aa (dCB iw (aa (ab 7) ag)) ag))) ag))
def pI:DTS:=az (jq 1 [2,6] (dW (aa (dCB mK (aa (ab 2) ag)) ag)) (ar 0) (aG (dOp qEq (dOp xw (dOp sf (ab 2) (dOp EQ (dC (.int 1)) (ab 0))) (dC (.int 2))) (dC (.int 1)))) (dOp qIx (ab 1) (ab 0)) 7) (pH)
def kc:DTS:=az (mZ (dc (dCB iL (aa (ab 1) (aa (dOp bh (dC (.int 1)) (dCB aq (aa (ab 1) (aa (dC (.int 4)) ag)))) ag)))) (ar 5) (az (bd (dOp bh (dC (.int 1)) (dCB aq (aa (ab 1) (aa (dOp Fx (dOp EQ (dC (.int 1)) (dCB mK (aa (ab 2) ag))) (dC (.int 1))) ag)))) 6) (pI))) (pG)
def pJ:DTS:=az (bd (lu ag) 4) (kc)
def pK:DTS:=az (bd (dCB iw (aa (dLC 1 [1] (dc (ab 2)) (ar 0) uR (iH (aa (ab 0) (aa (dOp bh (dC (.int 1)) (dCB aq (aa (ab 1) (aa (dC (.int 3)) ag)))) ag)))) ag)) 3) (pJ)
def pL:DTS:=az (bd (dCB iL (aa (ab 1) (aa (dOp bh (dC (.int 1)) (dCB aq (aa (ab 1) (aa (dC (.int 4)) ag)))) ag))) 2) (pK)
def wZ:DTS:=az (bd (dCB dq (aa (ab 0) ag)) 1) (pL)
def Eb(g:HsD M B q p ns)(n1:1<=ns.length)(n4:ns.length<=4)(rM:M.length<=r)(rq:r≠q)(rp:r≠p)(gr:B[r]?=some (.lst []))
  (h:∀rs:List (Str×List Str),1<=rs.length/\rs.length<=4->(rs.map (·.1)).Nodup->(∀r∈rs,r.2.length<=4)->R (aF ps rs) M) :
  kc (EE M R) [y0,some (.ref q),some (.ref p),some (.tup (ps.map iB)),some (.ref r),y5,y6,y7] B:=by
 simp only[kc];walk_at "dl";refine⟨q,4,rfl,g.hd,by decide,by decide,λi n i0 i1=>?_⟩
 have g0:=g.set (n:=n);have gr0:(B.set q (.lst [.int n]))[r]?=some (.lst []):=av rq gr;generalize B.set q (.lst [.int n])=B0 at g0 gr0;refine⟨q,1+i,rfl,g0.hd,by lia,by lia,λws n wn w1 w4 w8=>?_⟩
 have g1:=g0.set (n:=n);have gr1:(B0.set q (.lst [.int n]))[r]?=some (.lst []):=av rq gr0;have bl:(B0.set q (.lst [.int n])).length=B0.length:=AB1 ..;have g2:=g1.more (L:=[.lst (ws.map .str)]);have gr2:=ac (a:=.lst (ws.map .str)) gr1;have gw:(B0.set q (.lst [.int n])++[.lst (ws.map .str)])[B0.length]?=some (.lst (ws.map .str)):=by rw[<-bl];exact ae
 have wM:M.length<=B0.length:=g0.pre.length_le;have wq:B0.length≠q:=by have:=g0.hd.lt;lia
 have wp:B0.length≠p:=by have:=aO g0.nm;lia
 have wr:B0.length≠r:=by have:=aO gr0;lia
 generalize B0.set q (.lst [.int n])++[.lst (ws.map .str)]=B2 at g2 gr2 gw;generalize B0.length=w at gw wM wq wp wr;refine⟨_,.inl gw,λ_=>?_⟩
 refine bj (λj S M'=>∃(rs:List (Str×List Str)) (a b c:Option D),HsD M M' q p ns/\M'[r]?=some (.lst (rs.map jv))/\M'[w]?=some (.lst (ws.map .str))/\rs.map (·.1)=ws.take j/\rs.length=j/\(∀x∈rs,x.2.length<=4)/\S=[y0,some (.ref q),some (.ref p),some (.tup (ps.map iB)),some (.ref r),a,b,c]) ?_ ?_ ⟨[],_,_,_,g2,gr2,gw,rfl,rfl,(λ_ z=>nomatch z),rfl⟩
 ·rintro S M' ⟨rs,a,b,c,g,gr,gw,hn,hl,hm,rfl⟩
  rw[AA4]at hn hl;rw[ABi]at hn;refine⟨.inl gw,?_⟩;simp only[pG];walk_at "dl";refine⟨_,.inl gr,aw (by lia),?_⟩
  refine bI.keep (h rs ⟨by lia,by lia⟩ (by rw[hn];exact wn) hm) ?_ g.pre
  refine .tup (.cons (.tup (Bels.of λd hd=>?_)) (.cons (.tup (Bels.of λd hd=>?_)) .nil))
  ·obtain⟨x,_,rfl⟩:=AAK.mp hd
   exact .tup (.cons (.str _) (.cons (.int _) .nil))
  ·obtain⟨x,_,rfl⟩:=AAK.mp hd
   exact .tup (.cons (.str _) (.cons (.tup (ud _)) .nil))
 ·rintro j y S M' hy ⟨rs,a,b,c,g,gr,gw,hn,hl,hm,rfl⟩ G hG
  rw[AAV]at hy;obtain⟨s,hs,rfl⟩:=ABF.mp hy;have hj:=(AA7.mp hs).1;have et:ws.take (j+1)=ws.take j++[s]:=by rw[ABn,hs];rfl
  refine⟨.inl gw,?_⟩;walk_at "dl";have pw:0<(1:Int)*2 ^ ns.length-1/\(1:Int)*2 ^ ns.length-1<100:=by
   have:ns.length=1\/ns.length=2\/ns.length=3\/ns.length=4:=by lia
   rcases this with e | e | e | e<;>rw[e]<;>decide
  refine⟨_,.inl g.nm,⟨by lia,by rw[AA4];lia,by decide⟩,?_⟩
  rw[AA4,ABa];refine⟨q,_,rfl,g.hd,pw.1,by lia,λi n i0 i1=>?_⟩
  have g3:=g.set (n:=n);have gr3:(M'.set q (.lst [.int n]))[r]?=some (.lst (rs.map jv)):=av rq gr;have gw3:(M'.set q (.lst [.int n]))[w]?=some (.lst (ws.map .str)):=av wq gw;generalize M'.set q (.lst [.int n])=B3 at g3 gr3 gw3;simp only[pI];walk_at "dl";refine⟨_,.inl g3.nm,⟨by lia,by rw[AA4];lia⟩,?_⟩
  rw[AA4,ABa];refine oR (λys acc S M2=>∃(xs:List Str) (a2:Option D),acc=xs.map D.str/\xs.length+ys.length<=4/\(∀y∈ys,∃j:Nat,y=.int (0+(j:Int))/\j<ns.length)/\M2=B3/\S=[a2,some (.ref p),some (.int (1+i))]) ?_ ?_ _ _ _ _ ⟨[],_,rfl,by rw[AAm,iq];lia,λy' hy'=>?_,rfl,rfl⟩
  ·rintro acc S M2 ⟨xs,a2,rfl,xl4,_,rfl,rfl⟩
   rw[AAm,Nat.add_zero]at xl4;refine⟨trivial,?_⟩;simp only[pH];walk_at "dl";have g4:=g3.more (L:=[.lst (xs.map .str)]);have gr4:=ac (a:=.lst (xs.map .str)) gr3;have gw4:=ac (a:=.lst (xs.map .str)) gw3;refine⟨⟨_,.inl gr4⟩,_,aE,aw (by lia),_,gr4,aB (by rw[AA4];lia),?_⟩
   refine Fgt.now (hG _ _ ⟨rs++[(s,xs)],_,_,_,g4.setO rM (ABO rq) (ABO rp),?_,av wr gw4,?_,?_,λx hx=>?_,rfl⟩)
   ·rw[AAW];exact bx gr4
   ·rw[AAW,hn,et];rfl
   ·rw[AAA,hl];rfl
   ·rcases AAa.mp hx with hx | hx
    ·exact hm x hx
    ·rw[show x=(s,xs) by simpa using hx];exact xl4
  ·rintro y' ys acc S M2 ⟨xs,a2,rfl,xl,hy',rfl,rfl⟩ K hK
   obtain⟨j,rfl,hj⟩:=hy' y' (by simp)
   rw[AAN]at xl;refine⟨trivial,?_⟩;walk_at "dl";have e3:atI (ns.map D.str) (0+(j:Int))=some (.str (ns[j]'(by lia))):=by
    rw[Int.zero_add];exact ay (by rw[AAV,AA5 (by lia)];rfl)
   have pw:EN (1+i) (1*2 ^ (0+(j:Int)).toNat):=by
    rw[Int.zero_add,ABa];have:j=0\/j=1\/j=2\/j=3:=by lia
    rcases this with rfl | rfl | rfl | rfl<;>exact⟨by decide,by decide⟩
   refine⟨⟨by lia,by lia,by decide⟩,pw,by decide,⟨oh,oh⟩,?_⟩
   split
   ·refine⟨_,.inl g3.nm,?_⟩
    rw[e3];exact⟨by rw[AA4];exact aB (by lia),hK _ _ _ ⟨xs++[_],_,by simp;rfl,by rw[AAA,AAb];lia,λz hz'=>hy' z (AA9 _ hz'),rfl,rfl⟩⟩
   ·exact hK _ _ _ ⟨xs,_,rfl,by lia,λz hz'=>hy' z (AA9 _ hz'),rfl,rfl⟩
  ·obtain⟨j,hj⟩:=AB9 hy'
   obtain⟨hlt,rfl⟩:=fM.mp hj;exact⟨j,rfl,hlt⟩
def zD:WpT jQ 8 wZ:=by
 rintro ds M R ⟨c,rfl,h⟩;simp only[wZ];walk_at "dl";refine⟨c,rfl,λn=>?_⟩
 simp only[pL];walk_at "dl";refine⟨M.length,4,rfl,⟨n,ae⟩,by decide,by decide,λi n' i0 i1=>?_⟩
 rw[nJ];refine⟨M.length,1+i,rfl,⟨n',ae⟩,by lia,by lia,λns n' nd n1 n4 n8=>?_⟩
 rw[nJ];have e1:(M++[MO.lst [D.int n']]).length=M.length+1:=by simp
 have g:HsD M (M++[MO.lst [D.int n']]++[MO.lst (ns.map .str)]) M.length (M.length+1) ns:=⟨eM.trans eM,AA8 _,⟨n',ac ae⟩,by lia,by rw[<-e1];exact ae⟩
 have e2:∀n:Int,(M++[MO.lst [D.int n]]).length=M.length+1:=λn=>by simp
 rw[e2];generalize M++[MO.lst [D.int n']]++[MO.lst (ns.map .str)]=B at g;generalize hq:M.length=q at g;generalize q+1=p at g;simp only[pK];walk_at "dl";refine⟨_,.inl g.nm,λ_=>?_⟩
 refine oR (λys acc S M1=>∃(ps:List (Str×Int)) (a:Option D) (i:Nat),HsD M M1 q p ns/\acc=ps.map iB/\ps.length=i/\ps.map (·.1)=ns.take i/\(∀x∈ps,(1<=x.2/\x.2<=3)/\x.1.length<=8)/\ys=(ns.map D.str).drop i/\i<=ns.length/\S=[a,some (.ref q)]) ?_ ?_ _ _ _ _ ⟨[],_,0,g,rfl,rfl,rfl,(λ_ z=>nomatch z),by simp,AAX _,rfl⟩
 ·rintro acc S M1 ⟨ps,a,i,g,rfl,pi,pn,hp,hd,im,rfl⟩
  have hi:i=ns.length:=by
   have:=congrArg ABr hd;rw[AAm,ABh,AA4]at this;lia
  refine⟨.inl g.nm,_,aE,?_⟩;simp only[pJ];walk_at "dl";refine⟨AAX _,?_⟩;have g2:=(g.more (L:=[.lst (ps.map iB)])).more (L:=[.lst []]);have pl:=g.pre.length_le;have ql:=g.hd.lt;have pl2:=aO g.nm;have el:(M1++[MO.lst (ps.map iB)]).length=M1.length+1:=by simp
  refine Eb g2 n1 n4 (by rw[el];lia) (by rw[el];lia) (by rw[el];lia) ae λrs r1 rn r4=>h ps rs ⟨⟨by lia,by lia⟩,λx hx=>(hp x hx).1,λx hx=>(hp x hx).2,r1,by rw[pn];exact nd.sublist (AE3 _ _),rn,r4⟩
 ·rintro y ys acc S M1 ⟨ps,a,i,g,rfl,pi,pn,hp,hd,im,rfl⟩ K hK
  have hi:i<ns.length:=by
   have:=congrArg ABr hd;rw[AAN,ABh,AA4]at this;lia
  have hlt:i<(ns.map D.str).length:=by rw[AA4];exact hi
  rw[ADW hlt]at hd;injection hd with h1 h2
  rw[ACW]at h1;subst h1;refine⟨.inl g.nm,?_⟩;walk_at "dl";refine⟨q,3,rfl,g.hd,by decide,by decide,λk n' k0 k1=>?_⟩
  refine⟨aw (by lia),by rw[AA4];exact aB (by lia),hK _ _ _ ⟨ps++[(ns[i],1+k)],_,i+1,g.set,by rw[AAW];rfl,by rw[AAA,pi];rfl,?_,λx hx=>?_,h2,by lia,rfl⟩⟩
  ·rw[AAW,pn,ABn,AA5 hi];rfl
  ·rcases AAa.mp hx with hx | hx
   ·exact hp x hx
   ·rw[show x=(ns[i],1+k) by simpa using hx]
    exact⟨⟨by show 1<=1+k;lia,by show 1+k<=3;lia⟩,n8 _ (AB5 hi)⟩
def Ah(T:Tops P w K mg base):Cal P w K mg base 4 "_law_house" sj jQ :=
 Cal.byD (N:=["_law_cell","_law_held","_law_names_here","_law_people","_law_rooms","_law_room","_law_bits","_law_members"]) T.b T.f_house (by walk_at "sc") ya (by have:=qi T;have:=dH T;have:=Ag T;walk_at "dv") zD
def fG:DSp:=λds M R=>∃(q p:Nat) (xs:List Str),ds=[.ref q,.ref p]/\HdP M q/\p≠q/\ak M p (xs.map .str)/\1<=xs.length/\xs.length<=1000/\(∀x∈xs,x.length<=8)/\∀(x:Str) (n:Int),R (.str x) (M.set q (.lst [.int n]))
def vQ:du fG nR:=by rintro ds M R ⟨q,p,xs,rfl,_⟩;rfl
def mj:DTS:=bA (dSl (ab 3) fE (jA (dC (.int 60))))
def mn:DTS:=bd (dOp bh (ab 3) (dOp qIx (ab 6) (dCB aq (aa (ab 0) (aa (dC (.int 7)) ag))))) 3
def mq:DTS:=az (bd (lu (aa (dOp bh (dC (.str "@")) (ab 5)) (aa (dOp bh (dOp bh (dC (.str "@")) (ab 5)) (dC (.str " "))) (aa (dOp bh (dOp bh (dC (.str "@")) (ab 5)) (dC (.str "x"))) (aa (ab 5) (aa (dC (.str "hi ")) (aa (dC (.str "@")) (aa (dOp bh (dC (.str "@")) (ab 5)) ag)))))))) 6) (mn)
def mr:DTS:=az (mZ (dW (aa (dOp bh (dC (.int 1)) (dCB aq (aa (ab 0) (aa (dC (.int 4)) ag)))) ag)) (ar 4) (az (bd (dOp qIx (ab 1) (dCB aq (aa (ab 0) (aa (dCB mK (aa (ab 1) ag)) ag)))) 5) (mq))) (mj)
def mv:DTS:=bA (ab 3)
def mw:DTS:=az (dIf (aG (dOp qEq (dCB aq (aa (ab 0) (aa (dC (.int 3)) ag))) (dC (.int 0)))) (az (mZ (dW (aa (dOp bh (dC (.int 1)) (dCB aq (aa (ab 0) (aa (dC (.int 60)) ag)))) ag)) (ar 4) (bd (dOp bh (ab 3) (dOp qIx (ab 2) (dCB aq (aa (ab 0) (aa (dC (.int 94)) ag))))) 3)) (mv)) bi) (mr)
def my:DTS:=az (bd (dC (.str "")) 3) (mw)
def tK:DTS:=az (bd (dC (.str " !\"#$&'()*+,-./0123456789:;<=>?@ABCDEFGHIJKLMNOPQRSTUVWXYZ[\\]^_`abcdefghijklmnopqrstuvwxyz{|}~")) 2) (my)
def wB:WpT fG 7 tK:=by
 rintro ds M R ⟨q,p,xs,rfl,hq,pq,hL,x1,xl,x8,h⟩;have ql:=hq.lt;have hl:(AA1 " !\"#$&'()*+,-./0123456789:;<=>?@ABCDEFGHIJKLMNOPQRSTUVWXYZ[\\]^_`abcdefghijklmnopqrstuvwxyz{|}~").cps.toList.length=94:=by decide +kernel
 have hz:(AA1 " !\"#$&'()*+,-./0123456789:;<=>?@ABCDEFGHIJKLMNOPQRSTUVWXYZ[\\]^_`abcdefghijklmnopqrstuvwxyz{|}~").length=94:=by decide +kernel
 simp only[tK,my,mw];generalize AA1 " !\"#$&'()*+,-./0123456789:;<=>?@ABCDEFGHIJKLMNOPQRSTUVWXYZ[\\]^_`abcdefghijklmnopqrstuvwxyz{|}~" = sg at hl hz
 walk_at "dl";refine⟨q,3,rfl,hq,by decide,by decide,λi n _ _=>?_⟩
 have g0:=hq.start.set (n:=n) ql;generalize M.set q (.lst [.int n])=B0 at g0;refine⟨⟨rfl,rfl⟩,?_⟩;generalize eqD B0 eqN (.int i) (.int 0)=b;have o1:∀c:Nat,(⟨#[c]⟩:Str).length=1:=λ_=>rfl
 cases b with
 | true =>
  refine db ⟨q,60,rfl,g0.hd ql,by decide,by decide,λi n i0 i1=>?_⟩
  have g1:=g0.set (n:=n) ql;generalize B0.set q (.lst [.int n])=B1 at g1;walk_at "dl";refine⟨⟨by lia,by lia⟩,?_⟩
  refine bj (λj S M'=>Hl M M' q/\∃(z:Str) (a:Option D),z.length=j/\S=[some (.ref q),some (.ref p),some (.str sg),some (.str z),a,none,none]) ?_ ?_ ⟨g1,AA1 "",_,by decide +kernel,rfl⟩
  ·rintro S M' ⟨g,z,a,zl,rfl⟩
   refine⟨trivial,?_⟩;simp only[mv];walk_at "dl";exact g.fin (.str _) λn=>h z n
  ·rintro j y S M' hy ⟨g,z,a,zl,rfl⟩ G hG
   have hj:=(fM.mp hy).1;refine⟨trivial,?_⟩;walk_at "dl";refine⟨q,94,rfl,g.hd ql,by decide,by decide,λk n k0 k1=>?_⟩
   have g2:=g.set (n:=n) ql;generalize M'.set q (.lst [.int n])=B2 at g2;obtain⟨j',hj',ej,_⟩:=gI (xs:=sg.cps.toList) k0 (by rw[hl];exact k1)
   refine⟨by rw[hz];exact aw (by lia),?_⟩
   rw[ej];refine⟨by rw[o1];exact aw (by lia),Fgt.now (hG _ _ ⟨g2,_,_,?_,rfl⟩)⟩
   rw[bV,o1,zl]
 | false =>
  refine bZ ?_
  simp only[mr];walk_at "dl";refine⟨q,4,rfl,g0.hd ql,by decide,by decide,λi n i0 i1=>?_⟩
  have g1:=g0.set (n:=n) ql;generalize B0.set q (.lst [.int n])=B1 at g1;walk_at "dl";refine⟨⟨by lia,by lia⟩,?_⟩
  refine bj (λj S M'=>Hl M M' q/\∃(z:Str) (a b c:Option D),z.length<=20*j/\S=[some (.ref q),some (.ref p),some (.str sg),some (.str z),a,b,c]) ?_ ?_ ⟨g1,AA1 "",_,_,_,by decide +kernel,rfl⟩
  ·rintro S M' ⟨g,z,a,b,c,zl,rfl⟩
   rw[iq]at zl;refine⟨trivial,?_⟩;simp only[mj];walk_at "dl";exact⟨aw (by lia),g.fin (.str _) λn=>h _ n⟩
  ·rintro j y S M' hy ⟨g,z,a,b,c,zl,rfl⟩ G hG
   have hj:=(fM.mp hy).1;have hL':=g.oldL pq hL;refine⟨trivial,?_⟩;walk_at "dl";refine⟨_,hL',q,_,rfl,g.hd ql,by rw[AA4];lia,by rw[AA4];lia,λk n k0 k1=>?_⟩
   have g2:=g.set (n:=n) ql;have hL2:=g2.oldL pq hL;generalize M'.set q (.lst [.int n])=B2 at g2 hL2;obtain⟨j',hj',ej,_⟩:=gI (xs:=xs.map D.str) k0 k1;rw[ACW]at ej;have w8:=x8 _ (AB5 (by rw[AA4]at hj';exact hj'))
   refine⟨_,hL2,?_⟩;rw[ej];generalize xs[j']'(by rw[AA4]at hj';exact hj')=w at w8
   have sa:(AA1 "@").length=1:=by decide +kernel
   have sb:(AA1 " ").length=1:=by decide +kernel
   have sx:(AA1 "x").length=1:=by decide +kernel
   have sh:(AA1 "hi ").length=3:=by decide +kernel
   simp only[mq];walk_at "dl";refine⟨by rw[sa];exact aw (by lia),by rw[sa];exact aw (by lia),by rw[bV,sa,sb];exact aw (by lia),by rw[sa];exact aw (by lia),by rw[bV,sa,sx];exact aw (by lia),by rw[sa];exact aw (by lia),aw (by lia),?_⟩
   simp only[mn];walk_at "dl";refine⟨q,7,rfl,(g2.more).hd ql,by decide,by decide,λk n k0 k1=>?_⟩
   have g3:=(g2.more (L:=[.lst [.str (AA1 "@" ++ w),.str (AA1 "@" ++ w++AA1 " "),.str (AA1 "@" ++ w++AA1 "x"),.str w,.str (AA1 "hi "),.str (AA1 "@"),.str (AA1 "@" ++ w)]])).set (n:=n) ql;have gl:((B2++[MO.lst [.str (AA1 "@" ++ w),.str (AA1 "@" ++ w++AA1 " "),.str (AA1 "@" ++ w++AA1 "x"),.str w,.str (AA1 "hi "),.str (AA1 "@"),.str (AA1 "@" ++ w)]]).set q (.lst [.int n]))[B2.length]?=some (.lst [.str (AA1 "@" ++ w),.str (AA1 "@" ++ w++AA1 " "),.str (AA1 "@" ++ w++AA1 "x"),.str w,.str (AA1 "hi "),.str (AA1 "@"),.str (AA1 "@" ++ w)]):=av (by have:=g2.len;lia) ae
   have ex:∃s:Str,atI [D.str (AA1 "@" ++ w),.str (AA1 "@" ++ w++AA1 " "),.str (AA1 "@" ++ w++AA1 "x"),.str w,.str (AA1 "hi "),.str (AA1 "@"),.str (AA1 "@" ++ w)] k=some (.str s)/\s.length<=20:=by
    have:k=0\/k=1\/k=2\/k=3\/k=4\/k=5\/k=6:=by lia
    rcases this with rfl | rfl | rfl | rfl | rfl | rfl | rfl
    ·exact⟨_,ay (j:=0) rfl,by rw[bV,sa];lia⟩
    ·exact⟨_,ay (j:=1) rfl,by rw[bV,bV,sa,sb];lia⟩
    ·exact⟨_,ay (j:=2) rfl,by rw[bV,bV,sa,sx];lia⟩
    ·exact⟨_,ay (j:=3) rfl,by lia⟩
    ·exact⟨_,ay (j:=4) rfl,by rw[sh];lia⟩
    ·exact⟨_,ay (j:=5) rfl,by rw[sa];lia⟩
    ·exact⟨_,ay (j:=6) rfl,by rw[bV,sa];lia⟩
   obtain⟨s,es,sl⟩:=ex;refine⟨_,.inl gl,?_⟩;rw[es];refine⟨aw (by lia),Fgt.now (hG _ _ ⟨g3,_,_,_,_,?_,rfl⟩)⟩
   rw[bV];lia
def xM(T:Tops P w K mg base):Cal P w K mg base 2 "_law_saying" nR fG :=
 Cal.byD (N:=["_law_held","_law_names_here","_law_signs","_law_saying_here","_law_k","_law_name_here","_law_pieces"]) T.b T.f_saying (by walk_at "sc") vQ (by have:=dH T;walk_at "dv") wB
def cJ:DSp:=λds M R=>∃(q p s:Nat) (hs sts:List D),ds=[.ref q,.ref p,.ref s]/\HdP M q/\p≠q/\s≠q/\ak M p hs/\(∀x∈hs,Hd x)/\1<=hs.length/\hs.length<=12/\ak M s sts/\(∀x∈sts,St x)/\sts.length<=1000/\∀(d:D) (n:Int),St d->R d (M.set q (.lst [.int n]))
def Aw:du cJ xJ:=by rintro ds M R ⟨q,p,s,hs,sts,rfl,_⟩;rfl
def St.bel(h:St d):Bel k d:=bT 2 d h.pl
def tL:DTS:=bA (dOp qIx (ab 2) (dCB aq (aa (ab 0) (aa (dCB mK (aa (ab 2) ag)) ag))))
def tM:DTS:=az (dIf (aG (dOp qEq (ab 3) (dC (.int 1)))) (bA (iH (aa (dOp bh (dC (.int 1)) (dCB aq (aa (ab 0) (aa (dOp CQ (dC (.int 10)) (dC (.int 9))) ag)))) (aa (dOp qIx (ab 1) (dCB aq (aa (ab 0) (aa (dCB mK (aa (ab 1) ag)) ag)))) ag)))) bi) (tL)
def tN:DTS:=az (dIf (dOr (aG (dOp qEq (ab 3) (dC (.int 0)))) (aG (dOp qEq (ab 2) (lu ag)))) (bA (iH (aa (dOp bh (dC (.int 1)) (dCB aq (aa (ab 0) (aa (dC (.int 70)) ag)))) (aa (dOp qIx (ab 1) (dCB aq (aa (ab 0) (aa (dCB mK (aa (ab 1) ag)) ag)))) ag)))) bi) (tM)
def Bt:DTS:=az (bd (dCB aq (aa (ab 0) (aa (dC (.int 8)) ag))) 3) (tN)
def nO(ql:q<M.length)(pq:p≠q)(hp:ak M p hs)(hh:∀x∈hs,Hd x)(h1:1<=hs.length)(h12:hs.length<=12)(h:∀(d:D) (n:Int),St d->R d (M.set q (.lst [.int n])))(g:Hl M B q)(ht:∀S B Q,Q (.int m) B->tm S B Q)(m0:0<m)(m1:m<100000000000) :
  (bA (iH (aa (dOp bh (dC (.int 1)) (dCB aq (aa (ab 0) (aa tm ag)))) (aa (dOp qIx (ab 1) (dCB aq (aa (ab 0) (aa (dCB mK (aa (ab 1) ag)) ag)))) ag)))) (EE M R) [some (.ref q),some (.ref p),y2,y3] B:=by
 walk_at "dl";refine ht _ _ _ ?_
 refine⟨q,m,rfl,g.hd ql,m0,m1,λi n i0 i1=>?_⟩
 have g1:=g.set (n:=n) ql;generalize B.set q (.lst [.int n])=B1 at g1;refine⟨hs,g1.oldL pq hp,q,_,rfl,g1.hd ql,by lia,by lia,λk n k0 k1=>?_⟩
 have g2:=g1.set (n:=n) ql;generalize B1.set q (.lst [.int n])=B2 at g2;obtain⟨j,hj,ej,_⟩:=gI (xs:=hs) k0 k1;obtain⟨z,k2,ez⟩:=hh _ (AB5 hj);refine⟨hs,g2.oldL pq hp,?_⟩;rw[ej];have:St (.tup [.int (1+i),hs[j]]):=⟨1+i,z,k2,by rw[ez]⟩
 exact⟨aw (by lia),g2.fin this.bel λn=>h _ n this⟩
def Cy:WpT cJ 4 Bt:=by
 rintro ds M R ⟨q,p,s,hs,sts,rfl,hq,pq,sq,hp,hh,h1,h12,hs',hst,sl,h⟩;have ql:=hq.lt;have ok29:∀{B:Mem},∀x∈sts,okD B 29 x=true:=λ{B} x hx=>by obtain⟨t,z,k,rfl⟩:=hst x hx;rfl
 simp only[Bt];walk_at "dl";refine⟨q,8,rfl,hq,by decide,by decide,λi n _ _=>?_⟩
 have g0:=hq.start.set (n:=n) ql;generalize M.set q (.lst [.int n])=B0 at g0;simp only[tN];walk_at "dl";refine⟨⟨rfl,rfl⟩,?_⟩;generalize eqD B0 eqN (.int i) (.int 0)=b0;cases b0 with
 | true=>exact db (nO (m:=70) (tm:=dC (.int 70)) (y2:=some (.ref s)) (y3:=some (.int i)) ql pq hp hh h1 h12 h g0 (λ_ _ _ q=>q) (by decide) (by decide))
 | false =>
  refine bZ ?_
  obtain⟨okk,ee⟩:=jI (g0.oldL sq hs') ok29;refine⟨AAX _,okk,?_⟩;rw[ee];have g1:=g0.more (L:=[.lst []]);generalize B0++[MO.lst []]=B1 at g1;cases he:sts.isEmpty with
  | true=>exact db (nO (m:=70) (tm:=dC (.int 70)) (y2:=some (.ref s)) (y3:=some (.int i)) ql pq hp hh h1 h12 h g1 (λ_ _ _ q=>q) (by decide) (by decide))
  | false =>
   refine bZ ?_
   simp only[tM];walk_at "dl";refine⟨⟨rfl,rfl⟩,?_⟩;generalize eqD B1 eqN (.int i) (.int 1)=b1;cases b1 with
   | true=>exact db (nO (m:=10 ^ Int.toNat 9) (tm:=dOp CQ (dC (.int 10)) (dC (.int 9))) (y2:=some (.ref s)) (y3:=some (.int i)) ql pq hp hh h1 h12 h g1 (λ_ _ _ q=>⟨⟨by decide,by decide,by decide⟩,q⟩) (by decide) (by decide))
   | false =>
    refine bZ ?_
    simp only[tL];walk_at "dl";have s1:1<=sts.length:=by
     cases sts with
     | nil=>cases he
     | cons x xs=>simp
    refine⟨sts,g1.oldL sq hs',q,_,rfl,g1.hd ql,by lia,by lia,λk n k0 k1=>?_⟩
    have g2:=g1.set (n:=n) ql;generalize B1.set q (.lst [.int n])=B2 at g2;obtain⟨j,hj,ej,_⟩:=gI (xs:=sts) k0 k1;refine⟨sts,g2.oldL sq hs',?_⟩;rw[ej];have hx:=hst _ (AB5 hj);exact g2.fin hx.bel λn=>h _ n hx
def xN(T:Tops P w K mg base):Cal P w K mg base 2 "_law_pick" xJ cJ :=
 Cal.byD (N:=["_law_held","_law_hands_here","_law_says","_law_way"]) T.b T.f_pick (by walk_at "sc") Aw (by have:=dH T;walk_at "dv") Cy
def iK:DSp:=λds M R=>∃(q p t:Nat) (hs:List D) (kvs:List (D×D)),ds=[.ref q,.ref p,.ref t]/\HdP M q/\p≠q/\t≠q/\ak M p hs/\(∀x∈hs,Hd x)/\hs.length<=12/\M[t]?=some (.dkt kvs)/\(∀x∈kvs,∃v:Int,x.2=.int v/\0<=v/\v<=1000)/\∀(vs:List D) (n:Int),lY 3 vs->R (.tup vs) (M.set q (.lst [.int n]))
def vP:du iK nQ:=by rintro ds M R ⟨q,p,t,hs,kvs,rfl,_⟩;rfl
def lY.snoc(h:lY n ds)(t:Pln n d):lY n (ds++[d]):=by
 unfold lY at h ⊢;rw[List.all_append,h];simpa [Pln]using t
def md:DTS:=bA (dCB iw (aa (ab 3) ag))
def me:DTS:=dIf (aG (dOp qGt (ab 5) (dC (.int 0)))) (jB (dMl cH (ab 3) (aa (iH (aa (ab 4) (aa (ab 5) ag))) ag))) bi
def mf:DTS:=az (mZ (dc (ab 1)) (ar 4) (az (bd (dCB aq (aa (ab 0) (aa (dOp bh (dMt ix (ab 2) (aa (ab 4) (aa (dC (.int 0)) ag))) (dC (.int 3))) ag))) 5) (me))) (md)
def tH:DTS:=az (bd (lu ag) 3) (mf)
def wA:WpT iK 6 tH:=by
 rintro ds M R ⟨q,p,t,hs,kvs,rfl,hq,pq,tq,hp,hh,h12,ht,hv,h⟩;have ql:=hq.lt;simp only[tH,mf];walk_at "dl";refine⟨AAX _,_,hp.more _,λ_=>?_⟩
 have g0:Hl M (M++[MO.lst []]) q:=hq.start.more;refine bj (λi S M'=>∃(vs:List D) (a b:Option D),Hl M M' q/\M'[M.length]?=some (.lst vs)/\lY 3 vs/\vs.length<=i/\S=[some (.ref q),some (.ref p),some (.ref t),some (.ref M.length),a,b]) ?_ ?_ ⟨[],_,_,g0,ae,.nil,AA8 _,rfl⟩
 ·rintro S M' ⟨vs,a,b,g,gv,pv,vl,rfl⟩
  refine⟨g.oldL pq hp,?_⟩;simp only[md];walk_at "dl";exact⟨_,.inl gv,g.fin (bT 4 _ (.tup pv)) λn=>h vs n pv⟩
 ·rintro i y S M' hy ⟨vs,a,b,g,gv,pv,vl,rfl⟩ G hG
  have hi:=(AA7.mp hy).1;obtain⟨z,k,rfl⟩:=hh y (AAc hy);refine⟨g.oldL pq hp,?_⟩;walk_at "dl";have gt:=g.old tq ht;refine⟨⟨_,gt⟩,_,gt,rfl,?_⟩;have hg:∃v:Int,(aM kvs (.tup [.str z,.int k])).getD (.int 0)=.int v/\0<=v/\v<=1000:=by
   cases e:aM kvs (.tup [.str z,.int k]) with
   | none=>exact⟨0,rfl,by decide,by decide⟩
   | some d=>exact hv _ (bz e)
  obtain⟨v,ev,v0,v1⟩:=hg;rw[ev];refine⟨q,v+3,rfl,g.hd ql,by lia,by lia,λc n c0 c1=>?_⟩
  have g1:=g.set (n:=n) ql;have gv1:(M'.set q (.lst [.int n]))[M.length]?=some (.lst vs):=av (by lia) gv
  generalize M'.set q (.lst [.int n])=B1 at g1 gv1;simp only[me];walk_at "dl";by_cases hc:c > 0
  ·rw[dT_ hc]
   refine db ⟨⟨_,.inl gv1⟩,aw (by lia),_,gv1,aB (by lia),?_⟩
   exact Fgt.now (hG _ _ ⟨_,_,_,g1.setO (AA8 _),bx gv1,pv.snoc (.tup (.cons (AL ⟨_,_,rfl⟩) (.cons (.int _) .nil))),by rw[AAA,AAb];lia,rfl⟩)
  ·rw[dF_ hc]
   exact bZ (Fgt.now (hG _ _ ⟨vs,_,_,g1,gv1,pv,by lia,rfl⟩))
def xL(T:Tops P w K mg base):Cal P w K mg base 2 "_law_vector" nQ iK :=
 Cal.byD (N:=["_law_held","_law_hands_here","_law_done","_law_found","_law_hand","_law_count"]) T.b T.f_vector (by walk_at "sc") vP (by have:=dH T;walk_at "dv") wA
def oU:DSp:=λds M R=>∃(q p s:Nat) (ps:List (Str×Int)) (rs:List (Str×List Str)) (hs sts:List D),ds=[.ref q,aF ps rs,.ref p,.ref s]/\HdP M q/\HouseF ps rs/\p≠q/\s≠q/\ak M p hs/\(∀x∈hs,Hd x)/\1<=hs.length/\hs.length<=12/\ak M s sts/\(∀x∈sts,St x)/\sts.length<=1000/\∀(d:D) (n:Int),Pln 4 d->R d (M.set q (.lst [.int n]))
def Au:du oU xH:=by rintro ds M R ⟨q,p,s,ps,rs,hs,sts,rfl,_⟩;rfl
def tE:DTS:=bA (iH (aa (dC (.str "under")) (aa (dCB cJ (aa (ab 0) (aa (ab 2) (aa (ab 3) ag)))) ag)))
def tF:DTS:=az (dIf (aG (dOp qEq (ab 4) (dC (.int 1)))) (bA (iH (aa (dC (.str "person")) (aa (dOp qIx (dOp qIx (dOp qIx (ab 1) (dC (.int 0))) (dCB aq (aa (ab 0) (aa (dCB mK (aa (dOp qIx (ab 1) (dC (.int 0))) ag)) ag)))) (dC (.int 0))) ag)))) bi) (tE)
def tG:DTS:=az (dIf (aG (dOp qEq (ab 4) (dC (.int 0)))) (bA (iH (aa (dC (.str "room")) (aa (dOp qIx (dOp qIx (dOp qIx (ab 1) (dC (.int 1))) (dCB aq (aa (ab 0) (aa (dCB mK (aa (dOp qIx (ab 1) (dC (.int 1))) ag)) ag)))) (dC (.int 0))) ag)))) bi) (tF)
def Br:DTS:=az (bd (dCB aq (aa (ab 0) (aa (dC (.int 3)) ag))) 4) (tG)
def Cv:WpT oU 5 Br:=by
 rintro ds M R ⟨q,p,s,ps,rs,hs,sts,rfl,hq,hf,pq,sq,hp,hh,h1,h12,hs',hst,sl,h⟩;have ql:=hq.lt;have l1:=hf.len;have l2:=hf.rl;simp only[Br,aF];walk_at "dl";refine⟨q,3,rfl,hq,by decide,by decide,λi n _ _=>?_⟩
 have g0:=hq.start.set (n:=n) ql;generalize M.set q (.lst [.int n])=B0 at g0;simp only[tG];walk_at "dl";refine⟨⟨rfl,rfl⟩,?_⟩;generalize eqD B0 eqN (.int i) (.int 0)=b0;cases b0 with
 | true =>
  refine db ⟨q,_,rfl,g0.hd ql,by rw[AA4];lia,by rw[AA4];lia,λk n k0 k1=>?_⟩
  have g1:=g0.set (n:=n) ql;generalize B0.set q (.lst [.int n])=B1 at g1;obtain⟨j,hj,ej,_⟩:=gI (xs:=rs.map jv) k0 k1;rw[ACW]at ej;walk_at "dl";rw[ej];unfold jv;walk_at "dl";refine⟨aw (by lia),g1.fin (.tup (.cons (.str _) (.cons (.str _) .nil))) λn=>h _ n (.tup (.cons (.str _) (.cons (.str _) .nil)))⟩
 | false =>
  refine bZ ?_
  simp only[tF];walk_at "dl";refine⟨⟨rfl,rfl⟩,?_⟩;generalize eqD B0 eqN (.int i) (.int 1)=b1;cases b1 with
  | true =>
   refine db ⟨q,_,rfl,g0.hd ql,by rw[AA4];lia,by rw[AA4];lia,λk n k0 k1=>?_⟩
   have g1:=g0.set (n:=n) ql;generalize B0.set q (.lst [.int n])=B1 at g1;obtain⟨j,hj,ej,_⟩:=gI (xs:=ps.map iB) k0 k1;rw[ACW]at ej;walk_at "dl";rw[ej];unfold iB;walk_at "dl";refine⟨aw (by lia),g1.fin (.tup (.cons (.str _) (.cons (.str _) .nil))) λn=>h _ n (.tup (.cons (.str _) (.cons (.str _) .nil)))⟩
  | false =>
   refine bZ ?_
   simp only[tE];walk_at "dl";refine⟨q,p,s,hs,sts,rfl,g0.hd ql,pq,sq,g0.oldL pq hp,hh,h1,h12,g0.oldL sq hs',hst,sl,λd n hd=>?_⟩
   have g1:=g0.set (n:=n) ql;generalize B0.set q (.lst [.int n])=B1 at g1;exact⟨aw (by lia),g1.fin (.tup (.cons (.str _) (.cons hd.bel .nil))) λn=>h _ n (.tup (.cons (.str _) (.cons hd.pl .nil)))⟩
def Dq(T:Tops P w K mg base):Cal P w K mg base 3 "_law_what" xH oU :=
 Cal.byD (N:=["_law_held","_law_house_here","_law_hands_here","_law_says","_law_way"]) T.b T.f_what (by walk_at "sc") Au (by have:=dH T;have:=xN T;walk_at "dv") Cv
def uX:DSp:=λds M R=>∃(q p s t:Nat) (ps:List (Str×Int)) (rs:List (Str×List Str)) (hs sts:List D) (kvs:List (D×D)),ds=[.ref q,aF ps rs,.ref p,.ref s,.ref t]/\HdP M q/\HouseF ps rs/\(p≠q/\s≠q/\t≠q)/\ak M p hs/\(∀x∈hs,Hd x)/\1<=hs.length/\hs.length<=12/\ak M s sts/\(∀x∈sts,St x)/\sts.length<=1000/\M[t]?=some (.dkt kvs)/\(∀x∈kvs,∃v:Int,x.2=.int v/\0<=v/\v<=1000)/\∀(x:Str) (dl:List D) (n:Int),lY 4 dl->ActK rs x dl->R (.tup (.str x::dl)) (M.set q (.lst [.int n]))
def DH:du uX Dm:=by rintro ds M R ⟨q,p,s,t,ps,rs,hs,sts,kvs,rfl,_⟩;rfl
def fF(g:Hl M B q)(h:∀(x:Str) (dl:List D) (n:Int),lY 4 dl->ActK rs x dl->R (.tup (.str x::dl)) (M.set q (.lst [.int n])))(hp:lY 4 dl)(ha:ActK rs x dl):bI M R (.tup (.str x::dl)) B :=
 g.fin (bT 5 _ (.tup (.cons (.str _) hp))) λn=>h x dl n hp ha
def k_ne:AA1 "read"≠AA1 "say"/\AA1 "read"≠AA1 "change"/\AA1 "read"≠AA1 "back"/\AA1 "read"≠AA1 "like":=by decide +kernel
def k_ne2:AA1 "seen"≠AA1 "say"/\AA1 "seen"≠AA1 "change"/\AA1 "seen"≠AA1 "back"/\AA1 "seen"≠AA1 "like":=by decide +kernel
def k_ne3:AA1 "hush"≠AA1 "say"/\AA1 "hush"≠AA1 "change"/\AA1 "hush"≠AA1 "back"/\AA1 "hush"≠AA1 "like":=by decide +kernel
def k_ne4:AA1 "rung"≠AA1 "say"/\AA1 "rung"≠AA1 "change"/\AA1 "rung"≠AA1 "back"/\AA1 "rung"≠AA1 "like":=by decide +kernel
def tX:DTS:=bA (iH (aa (dC (.str "rung")) (aa (dCB cJ (aa (ab 0) (aa (ab 2) (aa (ab 3) ag)))) ag)))
def tY:DTS:=az (dIf (aG (dOp qEq (ab 5) (dC (.int 9)))) (bA (iH (aa (dC (.str "hush")) (aa (dCB oU (aa (ab 0) (aa (ab 1) (aa (ab 2) (aa (ab 3) ag))))) (aa (dOp qGt (dCB aq (aa (ab 0) (aa (dC (.int 3)) ag))) (dC (.int 0))) ag))))) bi) (tX)
def tZ:DTS:=az (dIf (aG (dOp qEq (ab 5) (dC (.int 8)))) (bA (iH (aa (dC (.str "seen")) (aa (dCB cJ (aa (ab 0) (aa (ab 2) (aa (ab 3) ag)))) ag)))) bi) (tY)
def ua:DTS:=az (dIf (aG (dOp qEq (ab 5) (dC (.int 7)))) (bA (iH (aa (dC (.str "read")) (aa (ab 7) (aa (dCB iK (aa (ab 0) (aa (ab 2) (aa (ab 4) ag)))) ag))))) bi) (tZ)
def xb:DTS:=bA (iH (aa (dC (.str "like")) (aa (dCB cJ (aa (ab 0) (aa (ab 2) (aa (ab 3) ag)))) (aa (ab 9) (aa (dOp qGt (dCB aq (aa (ab 0) (aa (dC (.int 3)) ag))) (dC (.int 0))) ag)))))
def xc:DTS:=az (dIf (aG (dOp qEq (ab 5) (dC (.int 6)))) (az (bd (dOp qIx (lu (aa (dC (.str "good")) (aa (dC (.str "no")) (aa (dCB iZ (aa (ab 0) ag)) ag)))) (dCB aq (aa (ab 0) (aa (dC (.int 3)) ag)))) 9) (xb)) bi) (ua)
def xf:DTS:=az (dIf (aG (dOp qEq (ab 5) (dC (.int 5)))) (bA (iH (aa (dC (.str "back")) (aa (dCB cJ (aa (ab 0) (aa (ab 2) (aa (ab 3) ag)))) ag)))) bi) (xc)
def nF:DTS:=az (dIf (aG (dOp qEq (ab 5) (dC (.int 4)))) (bA (iH (aa (dC (.str "change")) (aa (dCB cJ (aa (ab 0) (aa (ab 2) (aa (ab 3) ag)))) (aa (dCB fG (aa (ab 0) (aa (ab 6) ag))) ag))))) bi) (xf)
def rW:DTS:=bA (iH (aa (dC (.str "say")) (aa (ab 7) (aa (ab 8) (aa (dCB fG (aa (ab 0) (aa (ab 6) ag))) ag)))))
def rX:DTS:=az (dIf (EW (aG (dOp qGt (dCB aq (aa (ab 0) (aa (dC (.int 3)) ag))) (dC (.int 0)))) (aG (dOp qNe (ab 3) (lu ag)))) (bd (dCB cJ (aa (ab 0) (aa (ab 2) (aa (ab 3) ag)))) 8) bi) (rW)
def xg:DTS:=az (dIf (dOr (aG (dOp qLt (ab 5) (dC (.int 4)))) (EW (aG (dOp qEq (ab 3) (lu ag))) (aG (dOp qLt (ab 5) (dC (.int 7)))))) (az (bd (dC .non) 8) (rX)) bi) (nF)
def xh:DTS:=az (bd (dOp qIx (dOp qIx (dOp qIx (ab 1) (dC (.int 1))) (dCB aq (aa (ab 0) (aa (dCB mK (aa (dOp qIx (ab 1) (dC (.int 1))) ag)) ag)))) (dC (.int 0))) 7) (xg)
def xi:DTS:=az (jq 2 [] (dc (dOp qIx (ab 1) (dC (.int 0)))) (lU 2 (cc (ar 0) (cc (ar 1) lV))) uR (ab 0) 6) (xh)
def Fh:DTS:=az (bd (dCB aq (aa (ab 0) (aa (dC (.int 11)) ag))) 5) (xi)
section
variable{M B:Mem}{R:DK}{q p s t w:Nat}{ps:List (Str×Int)}{rs:List (Str×List Str)}{hs sts:List D}{kvs:List (D×D)}{kind:Int}{xs:List Str}{room:Str}{y8 y9:Option D}
def act_6(ql:q<M.length)(hf:HouseF ps rs)(ne:p≠q/\s≠q/\t≠q)(hp:ak M p hs)(hh:∀x∈hs,Hd x)(h1:1<=hs.length)(h12:hs.length<=12)(hs':ak M s sts)(hst:∀x∈sts,St x)(sl:sts.length<=1000)(ht:M[t]?=some (.dkt kvs))(hv:∀x∈kvs,∃v:Int,x.2=.int v/\0<=v/\v<=1000)
  (g:Hl M B q) (wM:M.length<=w) (gw:B[w]?=some (.lst (xs.map .str))) (x1:1<=xs.length) (x4:xs.length<=4) (x8:∀x∈xs,x.length<=8)
  (h:∀(x:Str) (dl:List D) (n:Int),lY 4 dl->ActK rs x dl->R (.tup (.str x::dl)) (M.set q (.lst [.int n]))) :
  nF (EE M R) [some (.ref q),some (aF ps rs),some (.ref p),some (.ref s),some (.ref t),some (.int kind),some (.ref w),some (.str room),y8,y9] B:=by
 have pk:∀{B:Mem}{Q:DK},Hl M B q->(∀(d:D) (B':Mem),St d->Hl M B' q->(∀j x,M.length<=j->B[j]?=some x->B'[j]?=some x)->Q d B')->cJ [.ref q,.ref p,.ref s] B Q:=λ{B Q} g k =>
  ⟨q,p,s,hs,sts,rfl,g.hd ql,ne.1,ne.2.1,g.oldL ne.1 hp,hh,h1,h12,g.oldL ne.2.1 hs',hst,sl,λd n hd=>k d _ hd (g.set ql) λj x hj e=>av (by lia) e⟩
 simp only[nF];walk_at "dl";refine⟨⟨rfl,rfl⟩,?_⟩;generalize eqD B eqN (.int kind) (.int 4)=b4;cases b4 with
 | true =>
  refine db (pk g λd B1 hd g1 kp=>?_)
  refine⟨q,w,xs,rfl,g1.hd ql,by lia,.inl (kp _ _ wM gw),x1,by lia,x8,λz n=>?_⟩
  exact⟨aw (by lia),fF (g1.set ql) h (.cons hd.pl (.cons (.str _) .nil)) (.mkChange hd)⟩
 | false =>
 refine bZ ?_
 simp only[xf];walk_at "dl";refine⟨⟨rfl,rfl⟩,?_⟩;generalize eqD B eqN (.int kind) (.int 5)=b5;cases b5 with
 | true=>exact db (pk g λd B1 hd g1 kp=>⟨aw (by lia),fF g1 h (.cons hd.pl .nil) (.mkBack hd)⟩)
 | false =>
 refine bZ ?_
 simp only[xc];walk_at "dl";refine⟨⟨rfl,rfl⟩,?_⟩;generalize eqD B eqN (.int kind) (.int 6)=b6;cases b6 with
 | true =>
  refine db ⟨q,rfl,g.hd ql,λz n zl=>?_⟩
  have g1:=g.set (n:=n) ql;generalize B.set q (.lst [.int n])=B1 at g1;refine⟨aw (by lia),q,3,rfl,(g1.more).hd ql,by decide,by decide,λk n k0 k1=>?_⟩
  have g2:=(g1.more (L:=[.lst [.str (AA1 "good"),.str (AA1 "no"),.str z]])).set (n:=n) ql;have gl:((B1++[MO.lst [.str (AA1 "good"),.str (AA1 "no"),.str z]]).set q (.lst [.int n]))[B1.length]?=some (.lst [.str (AA1 "good"),.str (AA1 "no"),.str z]):=av (by have:=g1.len;lia) ae
  generalize (B1++[MO.lst [.str (AA1 "good"),.str (AA1 "no"),.str z]]).set q (.lst [.int n])=B2 at g2 gl;have ex:∃s:Str,atI [D.str (AA1 "good"),.str (AA1 "no"),.str z] k=some (.str s):=by
   have:k=0\/k=1\/k=2:=by lia
   rcases this with rfl | rfl | rfl
   ·exact⟨_,ay (j:=0) rfl⟩
   ·exact⟨_,ay (j:=1) rfl⟩
   ·exact⟨_,ay (j:=2) rfl⟩
  obtain⟨so,es⟩:=ex;refine⟨_,.inl gl,?_⟩;rw[es];simp only[xb];walk_at "dl";refine pk g2 λd B3 hd g3 kp=>?_
  refine⟨q,3,rfl,g3.hd ql,by decide,by decide,λk n k0 k1=>?_⟩
  exact⟨aw (by lia),fF (g3.set ql) h (.cons hd.pl (.cons (.str _) (.cons (.bl _) .nil))) (.mkLike hd)⟩
 | false =>
 refine bZ ?_
 simp only[ua];walk_at "dl";refine⟨⟨rfl,rfl⟩,?_⟩;generalize eqD B eqN (.int kind) (.int 7)=b7;cases b7 with
 | true =>
  refine db ⟨q,p,t,hs,kvs,rfl,g.hd ql,ne.1,ne.2.2,g.oldL ne.1 hp,hh,h12,g.old ne.2.2 ht,hv,λvs n hvs=>?_⟩
  exact⟨aw (by lia),fF (g.set ql) h (.cons (.str _) (.cons (.tup hvs) .nil)) (.mkNone k_ne)⟩
 | false =>
 refine bZ ?_
 simp only[tZ];walk_at "dl";refine⟨⟨rfl,rfl⟩,?_⟩;generalize eqD B eqN (.int kind) (.int 8)=b8;cases b8 with
 | true=>exact db (pk g λd B1 hd g1 kp=>⟨aw (by lia),fF g1 h (.cons hd.pl .nil) (.mkNone k_ne2)⟩)
 | false =>
 refine bZ ?_
 simp only[tY];walk_at "dl";refine⟨⟨rfl,rfl⟩,?_⟩;generalize eqD B eqN (.int kind) (.int 9)=b9;cases b9 with
 | true =>
  refine db ⟨q,p,s,ps,rs,hs,sts,rfl,g.hd ql,hf,ne.1,ne.2.1,g.oldL ne.1 hp,hh,h1,h12,g.oldL ne.2.1 hs',hst,sl,λd n hd=>?_⟩
  have g1:=g.set (n:=n) ql;generalize B.set q (.lst [.int n])=B1 at g1;refine⟨q,3,rfl,g1.hd ql,by decide,by decide,λk n k0 k1=>?_⟩
  exact⟨aw (by lia),fF (g1.set ql) h (.cons hd (.cons (.bl _) .nil)) (.mkNone k_ne3)⟩
 | false =>
 refine bZ ?_
 simp only[tX];walk_at "dl";exact pk g λd B1 hd g1 kp=>⟨aw (by lia),fF g1 h (.cons hd.pl .nil) (.mkNone k_ne4)⟩
end
def Fa:WpT uX 10 Fh:=by
 rintro ds M R ⟨q,p,s,t,ps,rs,hs,sts,kvs,rfl,hq,hf,ne,hp,hh,h1,h12,hs',hst,sl,ht,hv,h⟩;have ql:=hq.lt;have l1:=hf.len;have l2:=hf.rl;simp only[Fh];walk_at "dl";refine⟨q,11,rfl,hq,by decide,by decide,λkind n _ _=>?_⟩
 have g0:=hq.start.set (n:=n) ql;generalize M.set q (.lst [.int n])=B0 at g0;simp only[xi,aF];walk_at "dl";intro _;refine cf (λd=>(match d with | .tup (x::_)=>x | _=>.non)) (λS=>∃a b,S=[a,b]) trivial _ _ _ (λx hx S hS=>?_) ⟨_,_,rfl⟩ (by rw[AAm,AA4];exact aw (by lia)) ?_
 ·obtain⟨a,b,rfl⟩:=hS
  obtain⟨y,_,rfl⟩:=AAK.mp hx;refine⟨[some (.str y.1),some (.int y.2)],⟨_,_,rfl⟩,λY hY=>?_⟩
  unfold iB;walk_at "dl";exact⟨trivial,hY⟩
 ·rw[AAs]
  have en:(ps.map iB).map (λd=>(match d with | .tup (x::_)=>x | _=>.non))=(ps.map (·.1)).map D.str:=by
   rw[AAt,AAt];rfl
  rw[en];have g1:=g0.more (L:=[.lst ((ps.map (·.1)).map D.str)]);have gw:(B0++[MO.lst ((ps.map (·.1)).map D.str)])[B0.length]?=some (.lst ((ps.map (·.1)).map D.str)):=ae;have wM:=g0.len;have x8:∀x∈ps.map (·.1),x.length<=8:=λx hx=>by
   obtain⟨y,hy,rfl⟩:=AAK.mp hx;exact hf.nm y hy
  have xl:(ps.map (·.1)).length=ps.length:=AA4 _;generalize B0++[MO.lst ((ps.map (·.1)).map D.str)]=B1 at g1 gw;generalize B0.length=w at gw wM;generalize ps.map (·.1)=xs at gw x8 xl;simp only[xh];walk_at "dl";refine⟨q,_,rfl,g1.hd ql,by rw[AA4];lia,by rw[AA4];lia,λk n k0 k1=>?_⟩
  have g2:=g1.set (n:=n) ql;have gw2:(B1.set q (.lst [.int n]))[w]?=some (.lst (xs.map .str)):=av (by lia) gw
  generalize B1.set q (.lst [.int n])=B2 at g2 gw2;obtain⟨j,hj,ej,_⟩:=gI (xs:=rs.map jv) k0 k1;rw[ACW]at ej;have hj':j<rs.length:=by rw[AA4]at hj;exact hj
  have hr:(rs[j]'hj').1∈rs.map (·.1):=AAg (AB5 hj');walk_at "dl";rw[ej];unfold jv;walk_at "dl";generalize (rs[j]'hj').1=room at hr;have ok29:∀{B:Mem},∀x∈sts,okD B 29 x=true:=λ{B} x hx=>by obtain⟨t,z,k,rfl⟩:=hst x hx;rfl
  have six:∀{B:Mem}{y8 y9:Option D},Hl M B q->B[w]?=some (.lst (xs.map .str))->nF (EE M R) [some (.ref q),some (aF ps rs),some (.ref p),some (.ref s),some (.ref t),some (.int kind),some (.ref w),some (.str room),y8,y9] B:=λg gw=>act_6 ql hf ne hp hh h1 h12 hs' hst sl ht hv g wM gw (by lia) (by lia) x8 h
  have four:∀{E:DEnds}{B:Mem}{y9:Option D},E.rt=bI M R->Hl M B q->B[w]?=some (.lst (xs.map .str))->rX E [some (.ref q),some (aF ps rs),some (.ref p),some (.ref s),some (.ref t),some (.int kind),some (.ref w),some (.str room),some .non,y9] B:=λ{E B y9} eR g gw=>by
   have five:∀{B:Mem}{u:D},Hl M B q->B[w]?=some (.lst (xs.map .str))->(u=.non\/St u)->rW E [some (.ref q),some (aF ps rs),some (.ref p),some (.ref s),some (.ref t),some (.int kind),some (.ref w),some (.str room),some u,y9] B:=λ{B u} g gw hu=>by
    simp only[rW];walk_at "dl";refine⟨q,w,xs,rfl,g.hd ql,by lia,.inl gw,by lia,by lia,x8,λz n=>?_⟩
    have up:Pln 4 u:=by
     rcases hu with rfl | hu
     ·exact .non
     ·exact hu.pl
    refine⟨aw (by lia),?_⟩
    rw[eR];exact fF (g.set ql) h (.cons (.str _) (.cons up (.cons (.str _) .nil))) (.mkSay hr hu)
   simp only[rX];walk_at "dl";refine⟨q,3,rfl,g.hd ql,by decide,by decide,λk n k0 k1=>?_⟩
   have g3:=g.set (n:=n) ql;have gw3:(B.set q (.lst [.int n]))[w]?=some (.lst (xs.map .str)):=av (by lia) gw
   generalize B.set q (.lst [.int n])=B3 at g3 gw3;walk_at "dl";by_cases hk:k > 0
   ·rw[dT_ hk]
    obtain⟨okk,ee⟩:=jI (g3.oldL ne.2.1 hs') ok29;refine db ⟨AAX _,okk,?_⟩;rw[ee];have g4:=g3.more (L:=[.lst []]);have gw4:=ac (a:=.lst []) gw3;generalize B3++[MO.lst []]=B4 at g4 gw4;cases he:sts.isEmpty with
    | true=>exact bZ (five g4 gw4 (.inl rfl))
    | false =>
     refine db ⟨q,p,s,hs,sts,rfl,g4.hd ql,ne.1,ne.2.1,g4.oldL ne.1 hp,hh,h1,h12,g4.oldL ne.2.1 hs',hst,sl,λd n hd=>?_⟩
     exact five (g4.set ql) (av (by lia) gw4) (.inr hd)
   ·rw[dF_ hk]
    exact bZ (five g3 gw3 (.inl rfl))
  simp only[xg];walk_at "dl";by_cases h4:kind<4
  ·rw[dT_ h4]
   exact db (four rfl g2 gw2)
  ·rw[dF_ h4]
   obtain⟨okk,ee⟩:=jI (g2.oldL ne.2.1 hs') ok29;refine bZ ⟨AAX _,okk,?_⟩;rw[ee];have g4:=g2.more (L:=[.lst []]);have gw4:=ac (a:=.lst []) gw2;generalize B2++[MO.lst []]=B4 at g4 gw4;cases he:sts.isEmpty with
   | true =>
    refine db ?_
    by_cases h7:kind<7
    ·rw[dT_ h7]
     exact db (four rfl g4 gw4)
    ·rw[dF_ h7]
     exact bZ (six g4 gw4)
   | false=>exact bZ (six g4 gw4)
def Gb(T:Tops P w K mg base):Cal P w K mg base 4 "_law_act" Dm uX :=
 Cal.byD (N:=["_law_held","_law_house_here","_law_hands_here","_law_says","_law_done","_law_kind","_law_names_here","_law_room","_law_under","_law_sort"]) T.b T.f_act (by walk_at "sc") DH (by have:=dH T;have:=xO T;have:=xM T;have:=xN T;have:=xL T;have:=Dq T;walk_at "dv") Fa
def jR:DSp:=λds M R=>∃(ps:List (Str×Int)) (r:List D),ds=[.tup (.tup (ps.map iB)::r)]/\Few ps/\R (.ref M.length) (M++[.lst (aK ps)])
def yb:du jR sk:=by rintro ds M R ⟨ps,r,rfl,_⟩;rfl
def pN:DTS:=bA (ab 1)
def pO:DTS:=az (mZ (dc (dOp qIx (ab 0) (dC (.int 0)))) (lU 2 (cc (ar 2) (cc (ar 3) lV))) (jB (dMl iP (ab 1) (aa (dLC 1 [2] (dW (aa (ab 3) ag)) (ar 0) uR (iH (aa (ab 1) (aa (ab 0) ag)))) ag)))) (pN)
def xa:DTS:=az (bd (lu ag) 1) (pO)
def zE:WpT jR 4 xa:=by
 rintro ds M R ⟨ps,r,rfl,⟨h4,h3⟩,h⟩;simp only[xa,pO];walk_at "dl";refine⟨AAX _,λ_=>?_⟩
 have hb:∀qs:List (Str×Int),(∀p∈qs,p∈ps)->qs.length<=4->(aK qs).length<=12:=λqs h1 h2=>by
  have:=mU (ps:=qs) λp hp=>h3 p (h1 p hp)
  lia
 refine jP (λys S M'=>∃qs rs a b L,ps=qs++rs/\ys=rs.map iB/\M'=M++.lst (aK qs)::L/\S=[some (.tup (.tup (ps.map iB)::r)),some (.ref M.length),a,b]) ?_ ?_ _ _ _ ⟨[],ps,_,_,[],rfl,rfl,rfl,rfl⟩
 ·rintro S M' ⟨qs,rs,a,b,L,e,hq,rfl,rfl⟩
  have:rs=[]:=by cases rs<;>simp_all
  subst this;rw[AB7]at e;subst e;refine⟨trivial,?_⟩;simp only[pN];walk_at "dl";exact bI.lst h (AA8 _) iX vW
 ·rintro x xs S M' ⟨qs,rs,a,b,L,e,hq,rfl,rfl⟩ G hG
  cases rs with
  | nil=>cases hq
  | cons p rs =>
   rw[AAQ]at hq;injection hq with e1 e2
   subst e1;have hp:=h3 p (by rw[e];simp)
   refine⟨trivial,?_⟩;unfold iB;walk_at "dl";refine⟨trivial,⟨_,.inl iX⟩,⟨by lia,by lia⟩,?_⟩
   refine cf (λk=>.tup [.str p.1,k]) (λS=>∃a,S=[a,some (.str p.1)]) trivial _ _ _ (λk hk S hS=>?_) ⟨_,rfl⟩ ?_ ?_
   ·obtain⟨a,rfl⟩:=hS
    refine⟨[some k,some (.str p.1)],⟨_,rfl⟩,λY hY=>?_⟩
    walk_at "dl";exact⟨aw (by lia),hY⟩
   ·simp only[AAm,iq]
    exact aw (by lia)
   ·rw[AAs]
    have eh:(rQ 0 p.2.toNat).map (λk=>D.tup [.str p.1,k])=dO p:=rfl
    rw[eh];have l1:=hb qs (λz hz=>by rw[e];exact AAP _ hz) (by have:=congrArg ABr e;rw[AAA]at this;lia)
    have l2:(dO p).length<=3:=by rw[gW];lia
    rw[AAk,ACX];refine⟨_,dO p,iX,?_,?_,aw (by lia),?_⟩
    ·rw[<-ACX,<-AAk];exact ae
    ·rw[AAA,AAN];lia
    ·rw[nJ]
     refine Fgt.now (hG _ _ ⟨qs++[p],rs,_,_,L++[.lst (dO p)],by rw[AAk];exact e,e2,?_,rfl⟩)
     rw[show aK (qs++[p])=aK qs++dO p by simp[aK]]
def Ai(T:Tops P w K mg base):Cal P w K mg base 1 "_law_hands" sk jR :=
 Cal.byD (N:=["_law_house_here","_law_found","_law_name_here","_law_many"]) T.b T.f_hands (by walk_at "sc") yb (by walk_at "dv") zE
structure LogS(ps:List (Str×Int))(rs:List (Str×List Str))(log:List D):Prop where
 dk:∀d∈log,aX ps rs d
 up:log.Pairwise λa b=>enc eqN (stD a)<enc eqN (stD b)
 len:log.length<=60
def uW:DSp:=λds M R=>∃(ps:List (Str×Int)) (rs:List (Str×List Str)) (p tq:Nat) (cs:List Int),ds=[.ref p,aF ps rs]/\HouseF ps rs/\ak M p (cs.map .int)/\p≠tq/\cs.length<=60/\M[tq]?=some (.tb (AA1 "_law_log") false)/\∀log,LogS ps rs log->R (.tup log) (M.set tq (.tb (AA1 "_law_log") true))
def DC:du uW Dk:=by rintro ds M R ⟨ps,rs,p,tq,cs,rfl,_⟩;rfl
def Fe:D->Int
 | .tup (.int t::_)=>t
 | _=>0
def hdO:D->D
 | .tup (_::h::_)=>h
 | _=>.non
def qQ(hf:HouseF ps rs):Few ps/\1<=(aK ps).length/\(aK ps).length<=12:=by
 have few:Few ps:=⟨hf.len.2,λq hq=>⟨by have:=hf.many q hq;lia,(hf.many q hq).2⟩⟩
 have hln:=mU few.2;refine⟨few,?_,by have:=few.1;lia⟩
 match ps,hf with
 | [],hf=>have:=hf.len.1;simp at this
 | p::ps,hf =>
  have:=(hf.many p (by simp)).1
  rw[aK,List.flatMap_cons,AAA,gW];lia
structure GenD(ps:List (Str×Int))(rs:List (Str×List Str))(deeds sts:List D)(las cnt:List (D×D))(n:Nat):Prop where
 dk:∀d∈deeds,aX ps rs d
 nd:(deeds.map stD).Nodup
 la:∀d∈deeds,∃v:Int,aM las (hdO d)=some (.int v)/\Fe d<=v
 lv:∀x∈las,∃v:Int,x.2=.int v/\0<=v
 cv:∀x∈cnt,∃v:Int,x.2=.int v/\0<=v/\v<=n
 so:∀x∈sts,St x
 dl:deeds.length<=n
 sl:sts.length<=n
 ll:las.length<=n
 cl:cnt.length<=n
def GenD.next{ps:List (Str×Int)}{rs:List (Str×List Str)}{deeds sts sts':List D}{las cnt:List (D×D)}{n:Nat}{t num:Int}{z x:Str}{k c:Int}{dl:List D}(g:GenD ps rs deeds sts las cnt n)(hx:D.tup [.str z,.int k]∈aK ps)(t1:1<=t)(tv:∀v:Int,aM las (.tup [.str z,.int k])=some (.int v)->v<t)(c0:0<=c)(c1:c<=n)(hp:lY 4 dl)(ha:ActK rs x dl)
  (s1:∀x∈sts',St x) (s2:sts'.length<=n+1) :
  GenD ps rs (deeds++[.tup [.int t,.tup [.str z,.int k],.int num,.tup (.str x::dl)]]) sts' (eK las (.tup [.str z,.int k]) (.int t)) (eK cnt (.tup [.str z,.int k]) (.int (c+1))) (n+1):=by
 have h1:=g.dl;have h2:=g.ll;have h3:=g.cl;refine⟨λd hd=>?_,?_,λd hd=>?_,λy hy=>?_,λy hy=>?_,s1,by rw[AAA,AAb];lia,s2,?_,?_⟩
 ·rcases AAa.mp hd with hd | hd
  ·exact g.dk d hd
  ·rw[show d=_ from by simpa using hd]
   exact⟨_,_,_,_,_,_,rfl,t1,hx,hp,ha⟩
 ·rw[AAW]
  refine ABL.mpr ⟨g.nd,by simp,λa ha b hb e=>?_⟩
  obtain⟨d,hd,rfl⟩:=AAK.mp ha;rw[show b=_ from by simpa using hb]at e
  obtain⟨t',z',k',num',x',ds',rfl,_⟩:=g.dk d hd;obtain⟨v,e1,e2⟩:=g.la _ hd;simp only[stD,D.tup.injEq,ADr,D.int.injEq,D.str.injEq,and_true]at e;obtain⟨rfl,rfl,rfl⟩:=e;have:=tv v e1;simp only[Fe]at e2;lia
 ·rcases AAa.mp hd with hd | hd
  ·obtain⟨v,e1,e2⟩:=g.la d hd
   by_cases e:hdO d=.tup [.str z,.int k]
   ·rw[e]at e1 ⊢
    exact⟨t,dP,by have:=tv v e1;lia⟩
   ·exact⟨v,by rw[fx e];exact e1,e2⟩
  ·rw[show d=_ from by simpa using hd]
   exact⟨t,dP,Int.le_refl _⟩
 ·rcases iy hy with rfl | hy
  ·exact⟨t,rfl,by lia⟩
  ·exact g.lv y hy
 ·rcases iy hy with rfl | hy
  ·exact⟨c+1,rfl,by lia,by lia⟩
  ·obtain⟨v,e1,e2,e3⟩:=g.cv y hy
   exact⟨v,e1,e2,by lia⟩
 ·have:=nM (kvs:=las) (k:=.tup [.str z,.int k]) (d:=.int t)
  lia
 ·have:=nM (kvs:=cnt) (k:=.tup [.str z,.int k]) (d:=.int (c+1))
  lia
structure LgD(M B:Mem)(hs deeds sts:List D)(las cnt:List (D×D)):Prop where
 pre:M <+: B
 hs:B[M.length]?=some (.lst hs)
 las:B[M.length+1]?=some (.dkt las)
 cnt:B[M.length+2]?=some (.dkt cnt)
 sts:B[M.length+3]?=some (.lst sts)
 deeds:B[M.length+4]?=some (.lst deeds)
section
variable{M B:Mem}{hs deeds sts:List D}{las cnt:List (D×D)}{q:Nat}{x:MO}
def LgD.more(g:LgD M B hs deeds sts las cnt):LgD M (B++L) hs deeds sts las cnt :=
 ⟨g.pre.trans (AAl _ _),aH (AAl _ _) g.hs,aH (AAl _ _) g.las,aH (AAl _ _) g.cnt,aH (AAl _ _) g.sts,aH (AAl _ _) g.deeds⟩
def LgD.lt(g:LgD M B hs deeds sts las cnt):M.length+5<=B.length:=aO g.deeds
def LgD.set(g:LgD M B hs deeds sts las cnt)(h:M.length+5<=q):LgD M (B.set q x) hs deeds sts las cnt :=
 ⟨bv g.pre (by lia),av (by lia) g.hs,av (by lia) g.las,av (by lia) g.cnt,av (by lia) g.sts,av (by lia) g.deeds⟩
def LgD.setD(g:LgD M B hs deeds sts las cnt):LgD M (B.set (M.length+4) (.lst ds')) hs ds' sts las cnt :=
 ⟨bv g.pre (by lia),av (by lia) g.hs,av (by lia) g.las,av (by lia) g.cnt,av (by lia) g.sts,bx g.deeds⟩
def LgD.setS(g:LgD M B hs deeds sts las cnt):LgD M (B.set (M.length+3) (.lst ds')) hs deeds ds' las cnt :=
 ⟨bv g.pre (by lia),av (by lia) g.hs,av (by lia) g.las,av (by lia) g.cnt,bx g.sts,av (by lia) g.deeds⟩
def LgD.setC(g:LgD M B hs deeds sts las cnt):LgD M (B.set (M.length+2) (.dkt kvs)) hs deeds sts las kvs :=
 ⟨bv g.pre (by lia),av (by lia) g.hs,av (by lia) g.las,bx g.cnt,av (by lia) g.sts,av (by lia) g.deeds⟩
def LgD.setL(g:LgD M B hs deeds sts las cnt):LgD M (B.set (M.length+1) (.dkt kvs)) hs deeds sts kvs cnt :=
 ⟨bv g.pre (by lia),av (by lia) g.hs,bx g.las,av (by lia) g.cnt,av (by lia) g.sts,av (by lia) g.deeds⟩
end
def DY{kvs:List (D×D)}(h:∀x∈kvs,∃v:Int,x.2=.int v/\0<=v):∃vs:List Int,kvs.map (·.2)=vs.map D.int:=by
 induction kvs with
 | nil=>exact⟨[],rfl⟩
 | cons p kvs ih =>
  obtain⟨v,e,_⟩:=h p (by simp)
  obtain⟨vs,e2⟩:=ih λx hx=>h x (AA9 _ hx)
  exact⟨v::vs,by rw[AAQ,AAQ,e,e2]⟩
def tR:DTS:=bA (dCB iw (aa (jO "_law_log" ["_law_deed"] (dSl (ab 0) fE (jA (dC (.int 2)))) (aa (ab 6) ag)) ag))
def tS:DTS:=dIf (aG (dOp qEq (dOp qIx (ab 12) (dC (.int 0))) (dC (.str "say")))) (jB (dMl cH (ab 5) (aa (iH (aa (ab 11) (aa (ab 9) ag))) ag))) bi
def tT:DTS:=az (re (ab 4) (ab 9) (dOp bh (dMt ix (ab 4) (aa (ab 9) (aa (dC (.int 0)) ag))) (dC (.int 1)))) (tS)
def tU:DTS:=az (re (ab 3) (ab 9) (ab 11)) (tT)
def tV:DTS:=az (jB (dMl cH (ab 6) (aa (iH (aa (ab 11) (aa (ab 9) (aa (dMt ix (ab 4) (aa (ab 9) (aa (dC (.int 0)) ag))) (aa (ab 12) ag))))) ag))) (tU)
def nE:DTS:=az (bd (dCB uX (aa (ab 8) (aa (ab 1) (aa (ab 2) (aa (ab 5) (aa (ab 4) ag)))))) 12) (tV)
def wJ:DTS:=az (dIf (aG (dOp qEq (ab 10) (dC (.int 3)))) (bd (dOp bh (dC (.int 1)) (dCB xx (aa (dOp bh (lu (aa (dC (.int 0)) ag)) (iJ (ab 3))) ag))) 11) bi) (nE)
def wK:DTS:=az (bd (dOp bh (dOp bh (dMt ix (ab 3) (aa (ab 9) (aa (dC (.int 0)) ag))) (dC (.int 1))) (dCB aq (aa (ab 8) (aa (dOp qIx (lu (aa (dC (.int 3)) (aa (dC (.int 6)) (aa (dOp CQ (dC (.int 10)) (dC (.int 7))) (aa (dC (.int 1)) ag))))) (ab 10)) ag)))) 11) (wJ)
def wL:DTS:=az (bd (dCB aq (aa (ab 8) (aa (dC (.int 4)) ag))) 10) (wK)
def rU:DTS:=az (bd (dOp qIx (ab 2) (dCB aq (aa (ab 8) (aa (dCB mK (aa (ab 2) ag)) ag)))) 9) (wL)
def wN:DTS:=az (mZ (dc (ab 0)) (ar 7) (az (bd (dCB dq (aa (ab 7) ag)) 8) (rU))) (tR)
def wO:DTS:=az (bd (lu ag) 6) (wN)
def wP:DTS:=az (bd (lu ag) 5) (wO)
def wQ:DTS:=az (bd (rh) 4) (wP)
def wR:DTS:=az (bd (rh) 3) (wQ)
def Ff:DTS:=az (bd (dCB jR (aa (ab 1) ag)) 2) (wR)
def BC{M B:Mem}{E:DEnds}{deeds sts hs:List D}{las cnt:List (D×D)}{n q:Nat}{t way:Int}{z:Str}{k:Int}{ps:List (Str×Int)}{rs:List (Str×List Str)}{y0 y7 y12:Option D}(g:LgD M B hs deeds sts las cnt)(G:GenD ps rs deeds sts las cnt n)(hf:HouseF ps rs)(hh:∀x∈hs,Hd x)(h1:1<=hs.length)(h12:hs.length<=12)(n60:n<60)(hd:HdP B q)(qM:M.length+5<=q)(hx:D.tup [.str z,.int k]∈aK ps)(t1:1<=t)(tv:∀v:Int,aM las (.tup [.str z,.int k])=some (.int v)->v<t)
  (hE:∀deeds' sts' las' cnt' B' y,LgD M B' hs deeds' sts' las' cnt'->GenD ps rs deeds' sts' las' cnt' (n+1)->E.nx [y0,some (aF ps rs),some (.ref M.length),some (.ref (M.length+1)),some (.ref (M.length+2)),some (.ref (M.length+3)),some (.ref (M.length+4)),y7,some (.ref q),some (.tup [.str z,.int k]),some (.int way),some (.int t),y] B') :
  nE E [y0,some (aF ps rs),some (.ref M.length),some (.ref (M.length+1)),some (.ref (M.length+2)),some (.ref (M.length+3)),some (.ref (M.length+4)),y7,some (.ref q),some (.tup [.str z,.int k]),some (.int way),some (.int t),y12] B:=by
 have dl:=G.dl;have sl:=G.sl;have ll:=G.ll;have cl:=G.cl;simp only[nE];walk_at "dl";refine⟨q,_,_,_,ps,rs,hs,sts,cnt,rfl,hd,hf,⟨by lia,by lia,by lia⟩,.inl g.hs,hh,h1,h12,.inl g.sts,G.so,by lia,g.cnt,λx hx=>by obtain⟨v,e1,e2,e3⟩:=G.cv x hx;exact⟨v,e1,e2,by lia⟩,λx dl' n' hp ha=>?_⟩
 have g1:=g.set (x:=.lst [.int n']) qM;generalize B.set q (.lst [.int n'])=B1 at g1;have hg:∃c:Int,(aM cnt (.tup [.str z,.int k])).getD (.int 0)=.int c/\0<=c/\c<=n:=by
  cases e:aM cnt (.tup [.str z,.int k]) with
  | none=>exact⟨0,rfl,by decide,by lia⟩
  | some d=>exact G.cv _ (bz e)
 obtain⟨c,ec,c0,c1⟩:=hg;simp only[tV];walk_at "dl";refine⟨⟨_,.inl g1.deeds⟩,⟨_,g1.cnt⟩,_,g1.cnt,rfl,?_⟩;rw[ec];refine⟨aw (by lia),_,g1.deeds,aB (by lia),?_⟩
 have g2:=g1.setD (ds':=deeds++[.tup [.int t,.tup [.str z,.int k],.int c,.tup (.str x::dl')]]);generalize B1.set (M.length+4) _=B2 at g2;simp only[tU];walk_at "dl";refine⟨_,g2.las,rfl,aB (by lia),?_⟩
 have g3:=g2.setL (kvs:=eK las (.tup [.str z,.int k]) (.int t));generalize B2.set (M.length+1) _=B3 at g3;simp only[tT];walk_at "dl";refine⟨⟨_,g3.cnt⟩,_,g3.cnt,rfl,?_⟩;rw[ec];refine⟨_,g3.cnt,rfl,aB (by lia),?_⟩
 have g4:=g3.setC (kvs:=eK cnt (.tup [.str z,.int k]) (.int (c+1)));generalize B3.set (M.length+2) _=B4 at g4;simp only[tS];walk_at "dl";refine⟨⟨aU,aU⟩,?_⟩;generalize eqD B4 eqN (.str x) (.str (AA1 "say"))=bs;cases bs with
 | true =>
  refine db ⟨⟨_,.inl g4.sts⟩,aw (by lia),_,g4.sts,aB (by lia),?_⟩
  refine hE _ _ _ _ _ _ g4.setS (G.next hx t1 tv c0 c1 hp ha (λy hy=>?_) (by rw[AAA,AAb];lia))
  rcases AAa.mp hy with hy | hy
  ·exact G.so y hy
  ·rw[show y=_ from by simpa using hy];exact⟨_,_,_,rfl⟩
 | false=>exact bZ (hE _ _ _ _ _ _ g4 (G.next hx t1 tv c0 c1 hp ha G.so (by lia)))
def At{M B:Mem}{E:DEnds}{deeds sts:List D}{las cnt:List (D×D)}{n:Nat}{cell:Int}{ps:List (Str×Int)}{rs:List (Str×List Str)}{y0 y8 y9 y10 y11 y12:Option D}(g:LgD M B (aK ps) deeds sts las cnt)(G:GenD ps rs deeds sts las cnt n)(hf:HouseF ps rs)(n60:n<60)
  (hE:∀deeds' sts' las' cnt' B' a b c d y,LgD M B' (aK ps) deeds' sts' las' cnt'->GenD ps rs deeds' sts' las' cnt' (n+1)->E.nx [y0,some (aF ps rs),some (.ref M.length),some (.ref (M.length+1)),some (.ref (M.length+2)),some (.ref (M.length+3)),some (.ref (M.length+4)),some (.int cell),a,b,c,d,y] B') :
  (az (bd (dCB dq (aa (ab 7) ag)) 8) (rU)) E [y0,some (aF ps rs),some (.ref M.length),some (.ref (M.length+1)),some (.ref (M.length+2)),some (.ref (M.length+3)),some (.ref (M.length+4)),some (.int cell),y8,y9,y10,y11,y12] B:=by
 obtain⟨few,n1,n12⟩:=qQ hf;have hh:∀x∈aK ps,Hd x:=uK;have ll:=G.ll;walk_at "dl";refine⟨cell,rfl,λn'=>?_⟩
 have hd0:HdP (B++[MO.lst [.int n']]) B.length:=⟨n',ae⟩;have g0:=g.more (L:=[.lst [.int n']]);have qM:=g.lt;generalize B++[MO.lst [D.int n']]=B0 at g0 hd0;generalize B.length=q at hd0 qM;have ql:=hd0.lt;have hl0:=hd0.start;have keep:∀{C:Mem},Hl B0 C q->LgD M C (aK ps) deeds sts las cnt:=λ{C} h=>by
  obtain⟨n2,L,rfl⟩:=h;exact(g0.set (x:=.lst [.int n2]) qM).more
 simp only[rU];walk_at "dl";refine⟨_,.inl g0.hs,q,_,rfl,hd0,by lia,by lia,λi m i0 i1=>?_⟩
 have h1:=hl0.set (n:=m) ql;generalize B0.set q (.lst [.int m])=B1 at h1;obtain⟨j,hj,ej,_⟩:=gI (xs:=aK ps) i0 i1;have hx:=AB5 hj;refine⟨_,.inl (keep h1).hs,?_⟩;rw[ej];obtain⟨z,k,ez⟩:=hh _ hx;rw[ez]at hx ⊢;simp only[wL];walk_at "dl";refine⟨q,4,rfl,h1.hd ql,by decide,by decide,λway m w0 w1=>?_⟩
 have h2:=h1.set (n:=m) ql;generalize B1.set q (.lst [.int m])=B2 at h2;have hl:∃v:Int,(aM las (.tup [.str z,.int k])).getD (.int 0)=.int v/\0<=v/\∀u:Int,aM las (.tup [.str z,.int k])=some (.int u)->u=v:=by
  cases e:aM las (.tup [.str z,.int k]) with
  | none=>exact⟨0,rfl,by decide,λu w=>by cases w⟩
  | some d =>
   obtain⟨v,ev,v0⟩:=G.lv _ (bz e);exact⟨v,ev,v0,λu w=>by rw[show d=.int v from ev]at w;cases w;rfl⟩
 obtain⟨v,ev,v0,vu⟩:=hl;simp only[wK];walk_at "dl";refine⟨⟨_,(keep h2).las⟩,_,(keep h2).las,rfl,?_⟩;rw[ev];have ex:∃m:Int,atI [D.int 3,.int 6,.int (10 ^ Int.toNat 7),.int 1] way=some (.int m)/\0<m/\m<100000000000:=by
  have:way=0\/way=1\/way=2\/way=3:=by lia
  rcases this with rfl | rfl | rfl | rfl
  ·exact⟨_,ay (j:=0) rfl,by decide,by decide⟩
  ·exact⟨_,ay (j:=1) rfl,by decide,by decide⟩
  ·exact⟨_,ay (j:=2) rfl,by decide,by decide⟩
  ·exact⟨_,ay (j:=3) rfl,by decide,by decide⟩
 obtain⟨m0,em,mp,ml⟩:=ex;refine⟨⟨by decide,by decide,by decide⟩,aw (by lia),_,aE,?_⟩
 rw[em];refine⟨q,m0,rfl,(h2.more).hd ql,mp,ml,λa m a0 a1=>?_⟩
 have h3:=(h2.more (L:=[.lst [D.int 3,.int 6,.int (10 ^ Int.toNat 7),.int 1]])).set (n:=m) ql;generalize (B2++[MO.lst [D.int 3,.int 6,.int (10 ^ Int.toNat 7),.int 1]]).set q (.lst [.int m])=B3 at h3;simp only[wJ];walk_at "dl";refine⟨⟨rfl,rfl⟩,?_⟩;generalize eqD B3 eqN (.int way) (.int 3)=b3;cases b3 with
 | false =>
  refine bZ ?_
  exact BC (keep h3) G hf hh n1 n12 n60 (h3.hd ql) qM hx (by lia) (λu w=>by rw[vu u w];lia) λd' s' l' c' B' y g' G'=>hE _ _ _ _ _ _ _ _ _ _ g' G'
 | true =>
  obtain⟨vs,evs⟩:=DY G.lv;have vl:vs.length=las.length:=by have:=congrArg ABr evs;rw[AA4,AA4]at this;exact this.symm
  have h4:=h3.more (L:=[.lst [.int 0]]);have g4:=keep h4;have e0:(B3++[MO.lst [D.int 0]])[B3.length]?=some (.lst [.int 0]):=ae;generalize B3++[MO.lst [D.int 0]]=B4 at h4 g4 e0;generalize B3.length=r4 at e0;refine db ⟨aw (by lia),_,g4.las,?_⟩
  rw[evs];have h5:=h4.more (L:=[.lst (vs.map .int)]);have e5:=ac (a:=.lst (vs.map .int)) e0;have e6:(B4++[MO.lst (vs.map .int)])[B4.length]?=some (.lst (vs.map .int)):=ae;generalize B4++[MO.lst (vs.map .int)]=B5 at h5 e5 e6;generalize B4.length=r5 at e6;refine⟨_,_,e5,e6,aw (by rw[AA4,AAb];lia),?_⟩
  have h6:=h5.more (L:=[.lst ([.int 0]++vs.map .int)]);have e7:(B5++[MO.lst ([D.int 0]++vs.map .int)])[B5.length]?=some (.lst ((0::vs).map .int)):=ae;generalize B5++[MO.lst ([D.int 0]++vs.map .int)]=B6 at h6 e7;refine⟨0::vs,.inl e7,by simp,λmx mm mall=>?_⟩
  have mx0:=mall 0 (by simp)
  refine BC (keep h6) G hf hh n1 n12 n60 (h6.hd ql) qM hx (by lia) (λu w=>?_) λd' s' l' c' B' y g' G'=>hE _ _ _ _ _ _ _ _ _ _ g' G'
  have hu:D.int u∈las.map (·.2):=AAg (f:=(·.2)) (bz w);rw[evs]at hu;obtain⟨u',hu',eu⟩:=AAK.mp hu;cases eu
  have:=mall u (AA9 _ hu');lia
def EY:WpT uW 13 Ff:=by
 rintro ds M R ⟨ps,rs,p,tq,cs,rfl,hf,hp,pt,cl,ht,h⟩;obtain⟨few,n1,n12⟩:=qQ hf;simp only[Ff,aF];walk_at "dl";refine⟨ps,_,rfl,few,?_⟩;simp only[wR,wQ,wP,wO];walk_at "dl";refine⟨AAX _,AAX _,?_⟩;have e1:(M++[MO.lst (aK ps)]).length=M.length+1:=by simp
 have e2:(M++[MO.lst (aK ps)]++[MO.dkt []]).length=M.length+2:=by simp
 have e3:(M++[MO.lst (aK ps)]++[MO.dkt []]++[MO.dkt []]).length=M.length+3:=by simp
 have e4:(M++[MO.lst (aK ps)]++[MO.dkt []]++[MO.dkt []]++[MO.lst []]).length=M.length+4:=by simp
 rw[e1,e2,e3,e4];have g0:LgD M (M++[MO.lst (aK ps)]++[MO.dkt []]++[MO.dkt []]++[MO.lst []]++[MO.lst []]) (aK ps) [] [] [] []:=by
  refine⟨(((eM.trans eM).trans eM).trans eM).trans eM,ac (ac (ac (ac ae))),?_,?_,?_,?_⟩
  ·rw[<-e1];exact ac (ac (ac ae))
  ·rw[<-e2];exact ac (ac ae)
  ·rw[<-e3];exact ac ae
  ·rw[<-e4];exact ae
 generalize M++[MO.lst (aK ps)]++[MO.dkt []]++[MO.dkt []]++[MO.lst []]++[MO.lst []]=B0 at g0;simp only[wN];walk_at "dl";refine⟨_,sC g0.pre hp,λ_=>?_⟩
 refine bj (λi S M'=>∃(deeds sts:List D) (las cnt:List (D×D)) (a b c d e f:Option D),LgD M M' (aK ps) deeds sts las cnt/\GenD ps rs deeds sts las cnt i/\S=[some (.ref p),some (aF ps rs),some (.ref M.length),some (.ref (M.length+1)),some (.ref (M.length+2)),some (.ref (M.length+3)),some (.ref (M.length+4)),a,b,c,d,e,f]) ?_ ?_ ⟨[],[],[],[],_,_,_,_,_,_,g0,⟨(λ_ z=>nomatch z),.nil,(λ_ z=>nomatch z),(λ_ z=>nomatch z),(λ_ z=>nomatch z),(λ_ z=>nomatch z),AA8 _,AA8 _,AA8 _,AA8 _⟩,rfl⟩
 ·rintro S M' ⟨deeds,sts,las,cnt,a,b,c,d,e,f,g,G,rfl⟩
  rw[AA4]at G;have dl:=G.dl;refine⟨sC g.pre hp,?_⟩;simp only[tR];walk_at "dl";have tl:=aO ht;have gd:(M'.set tq (.tb (AA1 "_law_log") true))[M.length+4]?=some (.lst deeds):=av (by lia) g.deeds
  have hS:∀x∈deeds.map stD,St x:=λx hx=>by
   obtain⟨d,hd,rfl⟩:=AAK.mp hx;exact(G.dk d hd).st
  refine⟨tq,deeds,stD,aH g.pre ht,.inr ⟨_,rfl,.inl gd⟩,λd hd=>?_,(nG hS (by rw[AA4];lia)).g,λys hy hr=>?_⟩
  ·obtain⟨t,z,k,num,x,ds,rfl,_⟩:=G.dk d hd
   walk_at "dl";exact .inl ⟨rfl,rfl⟩
  ·have ml:M'.length=(M'.set tq (.tb (AA1 "_law_log") true)).length:=(AB1 ..).symm
   refine⟨ys,by rw[ml];exact aE,?_⟩
   have hk:∀d∈ys,aX ps rs d:=λd hd=>G.dk d (hy.mem_iff.mp hd)
   have nd:(ys.map stD).Nodup:=(hy.map _).nodup_iff.mpr G.nd;have ls:LogS ps rs ys:=by
    refine⟨hk,?_,by rw[hy.length_eq];lia⟩
    have n2:ys.Pairwise λa b=>stD a≠stD b:=List.pairwise_map.mp (AC1.mp nd)
    refine(AEJ.mp (hr.and n2)).imp λ{a b} ⟨ha,hb,q1,q2⟩=>?_
    have sa:=(hk a ha).st;have sb:=(hk b hb).st;have oa:okP eqN (stD a)=true:=by obtain⟨t,z,k,e⟩:=sa;rw[e];rfl
    have ob:okP eqN (stD b)=true:=by obtain⟨t,z,k,e⟩:=sb;rw[e];rfl
    rw[oi ob oa (sb.cm sa)]at q1;have q3:=of_decide_eq_false q1;refine AB4 λq4=>q2 ?_
    exact yX (M:=[]) oa ob (sa.cm sb) (List.le_antisymm (List.not_lt.mp q3) (List.not_lt.mp q4))
   obtain⟨L,hL⟩:=g.pre;have eB:M'.set tq (.tb (AA1 "_law_log") true)=M.set tq (.tb (AA1 "_law_log") true)++L:=by rw[<-hL,List.set_append_left _ _ tl]
   rw[eB];refine bI.chg (Chg.set .refl .nil) (h ys ls) (.tup (aX.bels hk)) ?_
   rw[AAk];exact AAl _ _
 ·rintro i y S M' hy ⟨deeds,sts,las,cnt,a,b,c,d,e,f,g,G,rfl⟩ K hK
  rw[AAV]at hy;obtain⟨cell,hc,rfl⟩:=ABF.mp hy;have hi:=(AA7.mp hc).1;refine⟨sC g.pre hp,?_⟩;simp only[ar,List.set_cons_zero,List.set_cons_succ];exact At g G hf (by lia) λd' s' l' c' B' a b c d y g' G'=>Fgt.now (hK _ _ ⟨d',s',l',c',_,_,_,_,_,_,g',G',rfl⟩)
def Ga(T:Tops P w K mg base):Cal P w K mg base 8 "_law_log" Dk uW :=
 Cal.byL (N:=["_law_cells","_law_house_here","_law_hands_here","_law_last","_law_done","_law_says","_law_deeds","_law_cell","_law_held","_law_hand","_law_way","_law_time","_law_act_here"]) T.b T.f_log (by walk_at "sc") DC (by have:=T.bm;have:=qi T;have:=dH T;have:=Gb T;have:=Ai T;walk_at "dvl") EY
def cO:DSp:=λds M R=>∃(qp qr qg:Nat) (P:List (D×D)) (L gone ms:List D) (i:Nat) (k:Int) (s m0 m1 u:D),ds=[.ref qp,.ref qr,.int i,.tup (m0::m1::u::ms),.ref qg]/\M[qp]?=some (.dkt P)/\M[qr]?=some (.lst L)/\M[qg]?=some (.lst gone)/\L.length<=100/\(∀x∈L,∃k s,x=.tup [.int k,s])/\(∀x∈gone,St x)/\L[i]?=some (.tup [.int k,s])/\((u=.non/\k=0)\/(St u/\u∈gone/\0<k)\/(St u/\u∉gone/\∃(j:Nat) (k':Int),aM P u=some (.int j)/\j<i/\L[j]?=some (.tup [.int k',u])/\k=k'+1/\∀n x,j<n->n<i->L[n]?=some x->k<=dpt x))/\R (.bl true) M
def om:du cO gJ:=by rintro ds M R ⟨qp,qr,qg,P,L,gone,ms,i,k,s,m0,m1,u,rfl,_⟩;rfl
def ic:DTS:=bA (we (dOp qEq (ab 5) (dOp bh (dOp qIx (dOp qIx (ab 1) (ab 8)) (dC (.int 0))) (dC (.int 1)))) (dOp qEq (dLC 1 [5] (dc (ab 9)) (ar 0) (aG (dOp qLt (ab 0) (ab 1))) (ab 0)) (lu ag)))
def ie:DTS:=az (jq 1 [] (dc (dSl (ab 1) (jA (dOp bh (ab 8) (dC (.int 1)))) (jA (ab 2)))) (ar 0) uR (dOp qIx (ab 0) (dC (.int 0))) 9) (ic)
def ig:DTS:=az (bd (lW (ab 0) (ab 7)) 8) (ie)
def ii:DTS:=az (dIf (dOr (aG (dOp nK (ab 7) (ab 0))) (aG (dOp qGe (lW (ab 0) (ab 7)) (ab 2)))) (bA (dC (.bl false))) bi) (ig)
def dA:DTS:=az (dIf (aG (dOp qIn (ab 7) (ab 4))) (bA (dOp qGt (ab 5) (dC (.int 0)))) bi) (ii)
def cr:DTS:=az (dIf (aG (dOp qIs (ab 7) (dC .non))) (bA (dOp qEq (ab 5) (dC (.int 0)))) bi) (dA)
def ij:DTS:=az (bd (dOp qIx (ab 3) (dC (.int 2))) 7) (cr)
def jY:DTS:=az (HN (dOp qIx (ab 1) (ab 2)) (lU 2 (cc (ar 5) (cc (ar 6) lV)))) (ij)
theorem oX:WpT cO 10 jY:=by
 rintro ds M R ⟨qp,qr,qg,P,L,gone,ms,i,k,s,m0,m1,u,rfl,gp,gr,gg,ll,hL,hg,hi,hc,h⟩;have hi':=(AA7.mp hi).1;have ei:atI L (i:Int)=some (.tup [.int k,s]):=ay hi;simp only[jY];walk_at "dl";refine⟨_,.inl gr,?_⟩;rw[ei];refine⟨rfl,?_⟩;simp only[ij];walk_at "dl";rcases hc with⟨rfl,rfl⟩|⟨hu,hin,hk⟩|⟨hu,hin,j,k',ej,hj,hLj,rfl,hb⟩
 ·simp only[cr]
  walk_at "dl";refine⟨⟨rfl,rfl⟩,?_⟩;rw[gX,show ((0:Int)==0)=true from rfl];exact .inl h
 ·obtain⟨t,z,n,rfl⟩:=id hu
  simp only[cr];walk_at "dl";simp only[dA];walk_at "dl";refine⟨_,.inl gg,⟨hu.ok,uc hg⟩,?_⟩;rw[uF hu hg,dT_ hin];refine db ?_
  rw[dT_ hk];exact .inl h
 ·obtain⟨t,z,n,rfl⟩:=id hu
  simp only[cr];walk_at "dl";simp only[dA];walk_at "dl";refine⟨_,.inl gg,⟨hu.ok,uc hg⟩,?_⟩;rw[uF hu hg,dF_ hin];refine bZ ?_
  simp only[ii];walk_at "dl";refine⟨_,gp,rfl,?_⟩;rw[ej];refine bZ ⟨_,_,gp,rfl,ej,?_⟩;walk_at "dl";rw[dF_ (show ¬(i:Int)<=(j:Int) by lia)]
  refine bZ ?_
  simp only[ig];walk_at "dl";refine⟨_,_,gp,rfl,ej,?_⟩;have ec:cutD L (some ((j:Int)+1)) (some (i:Int))=(L.drop (j+1)).take (i-(j+1)):=by
   unfold cutD;rw[show ((j:Int)+1)=((j+1:Nat):Int) by lia,HT.sIx_nat,HT.sIx_nat,AEV (by lia:j+1<=L.length),AEV (by lia:i<=L.length)]
  have hm:∀x∈(L.drop (j+1)).take (i-(j+1)),(∃k s,x=.tup [.int k,s])/\k'+1<=dpt x:=λx hx=>by
   obtain⟨n,hn⟩:=AB9 hx;rw[ADv]at hn;split at hn
   ·rename_i lt
    rw[ADA]at hn;exact⟨hL x (AAc hn),hb _ x (by lia) (by lia) hn⟩
   ·cases hn
  have hl:((L.drop (j+1)).take (i-(j+1))).length<=100:=by rw[AAy,ABh];lia
  simp only[ie];walk_at "dl";refine⟨_,.inl gr,_,aE,λ_=>?_⟩
  rw[ec];generalize (L.drop (j+1)).take (i-(j+1))=W at hm hl;have gw:(M++[MO.lst W])[M.length]?=some (.lst W):=ae;replace gr:=ac (a:=MO.lst W) gr;have pM:M <+: M++[MO.lst W]:=eM;generalize M++[MO.lst W]=B1 at gw gr pM;refine cf (λx=>.int (dpt x)) (λS=>∃a,S=[a]) (.inl gw) _ _ _ (λx hx S hS=>?_) ⟨_,rfl⟩ (by rw[AAm];exact aw (by lia)) ?_
  ·obtain⟨a,rfl⟩:=hS
   obtain⟨⟨k,s,rfl⟩,_⟩:=hm x hx;refine⟨[some (.tup [.int k,s])],⟨_,rfl⟩,λY hY=>?_⟩
   walk_at "dl";exact hY
  rw[AAs];have g9:(B1++[MO.lst (W.map λx=>.int (dpt x))])[B1.length]?=some (.lst (W.map λx=>.int (dpt x))):=ae
  replace gr:=ac (a:=MO.lst (W.map λx=>.int (dpt x))) gr
  replace pM:=pM.trans (eM (mo:=MO.lst (W.map λx=>.int (dpt x))))
  generalize B1++[MO.lst (W.map λx=>.int (dpt x))]=B2 at g9 gr pM
  generalize B1.length=q9 at g9;have ej':atI L (j:Int)=some (.tup [.int k',.tup [.int t,.tup [.str z,.int n]]]):=ay hLj;simp only[ic];walk_at "dl";refine⟨_,.inl gr,?_⟩;rw[ej'];walk_at "dl";refine⟨⟨rfl,rfl⟩,?_⟩;rw[gX,beq_self_eq_true];refine db ⟨_,.inl g9,λ_=>?_⟩
  refine bp (λ_=>false) id (λS=>∃a,S=[a,some (.int (k'+1))]) (.inl g9) _ _ _ ?_ ⟨_,rfl⟩ (by rw[AAm,AA4];exact aw (by lia)) ?_
  ·rintro y hy S ⟨a,rfl⟩
   obtain⟨x,hx,rfl⟩:=AAK.mp hy;refine⟨[some (.int (dpt x)),some (.int (k'+1))],⟨_,rfl⟩,λY Z hYZ=>?_⟩
   have:=(hm x hx).2;walk_at "dl";rw[dF_ (show ¬dpt x<k'+1 by lia)]
   exact hYZ
  rw[AAs,ACu,List.filter_eq_nil_iff.mpr λ_ _=>by decide]
  have ge:(B2++[MO.lst []])[B2.length]?=some (.lst []):=ae;replace pM:=pM.trans (eM (mo:=MO.lst []));generalize B2++[MO.lst []]=B3 at ge pM;obtain⟨okn,en⟩:=jI (M:=B3) (.inl ge) λ_ z=>nomatch z
  refine⟨AAX _,okn,?_⟩;rw[en];exact bI.bl h (pM.trans eM)
def qf(T:Tops P w K mg base):Cal P w K mg base 1 "_law_right_row" gJ cO :=
 Cal.byD (N:=["_law_places","_law_rows","_law_at","_law_message","_law_gone","_law_depth","_law_stamp","_law_under","_law_there","_law_between"]) T.b T.f_right_row (by walk_at "sc") om (by walk_at "dv") oX
def cA:DSp:=λds M R=>∃(ps:List (Str×Int)) (rs:List (Str×List Str)) (log gone:List D) (r:Str) (qm qg:Nat),ds=[aF ps rs,.tup log,.str r,.ref qm,.ref qg]/\HouseF ps rs/\LogS ps rs log/\r∈rs.map (·.1)/\M[qm]?=some (.dkt ((ao rs log).map λm=>(hd0 m,m)))/\M[qg]?=some (.lst gone)/\BackL rs log gone/\R (.bl true) M
def lP:du cA ff:=by rintro ds M R ⟨ps,rs,log,gone,r,qm,qg,rfl,_⟩;rfl
def vX{α:Type}{p:α->Bool}{x:α}:[x].filter p=if p x=true then[x]else[]:=by rw[AC0];rfl
def wf(hu:∀d∈l,bf d=.non\/St (bf d))(hS:∀d∈l,St (stD d))(h:Ris l):aQ rs l=(l.filter λd=>@decide (Stn rs l d) (AAH _)).map λd=>(stD d,d):=by
 revert h hu hS;refine cu (P:=λl=>(∀d∈l,bf d=.non\/St (bf d))->(∀d∈l,St (stD d))->Ris l->aQ rs l=(l.filter λd=>@decide (Stn rs l d) (AAH _)).map λd=>(stD d,d)) (λ_ _ _=>rfl) (λl x ih hu hS h=>?_) l
 obtain⟨h1,_,h3⟩:=ACM.mp h;have lx:∀y∈l,enc eqN (stD y)<enc eqN (stD x):=λy hy=>h3 y hy x (by simp)
 have ih':=ih (λd hd=>hu d (AAP _ hd)) (λd hd=>hS d (AAP _ hd)) h1
 have ci:=zg (rs:=rs) hu hS h x (by simp)
 have nx:stD x∉(aQ rs l).map (·.1):=λz=>by
  obtain⟨p,hp,e⟩:=AAK.mp z;obtain⟨e1,e2⟩:=(fQ (rs:=rs) l).en p hp;have:=lx p.2 e2;rw[<-e1,e]at this;exact ABD _ this
 have ef:(l.filter λd=>@decide (Stn rs (l++[x]) d) (AAH _))=l.filter λd=>@decide (Stn rs l d) (AAH _):=List.filter_congr λd hd=>(@decide_eq_decide _ _ (AAH _) (AAH _)).mpr ⟨λz=>z.less lx hd,Stn.more⟩
 rw[ADB,AAW,ef,<-ih',vX];rw[dY]at ci ⊢;unfold vt at ci ⊢;split at ci
 ·rename_i e
  rw[dP]at ci;rw[if_pos e,jF nx,@decide_eq_true _ (AAH _) (ci.mp rfl)];rfl
 ·rename_i e
  have gn:aM (aQ rs l) (stD x)=none:=by
   cases e':aM (aQ rs l) (stD x) with
   | none=>rfl
   | some v=>exact absurd (AAg (f:=(·.1)) (bz e')) nx
  rw[gn]at ci;rw[if_neg e,@decide_eq_false _ (AAH _) λz=>by cases ci.mpr z]
  exact(AB7 _).symm
def BackL.len{rs:List (Str×List Str)}{log ys:List D}(b:BackL rs log ys):ys.length<=log.length:=by
 have h:∀x∈ys,x∈(kinds log (AA1 "back")).map wy:=λx hx=>by
  obtain⟨d,hd,_,rfl⟩:=(b.mem x).mp hx;exact AAg hd
 have:=qq b.nd h;rw[AA4]at this;exact AB3 this bL
def ub{M:Mem}{xs:List D}(h:∀x∈xs,St x):∀x∈xs,okD M 29 x=true/\eqD M 29 x x=true:=λx hx=>xC 2 29 x (by decide) (h x hx).pl
def iu(hi:ak M i xs)(hj:ak M j xs)(h:∀x∈xs,okD M 29 x=true/\eqD M 29 x x=true):(okD M eqN (.ref i)=true/\okD M eqN (.ref j)=true)/\eqD M eqN (.ref i) (.ref j)=true :=
 ⟨⟨nZ (n:=29) hi λx hx=>(h x hx).1,nZ (n:=29) hj λx hx=>(h x hx).1⟩,(uM (n:=29) hi hj).trans (oM λx hx=>(h x hx).2)⟩
def Dz(hd:∀d∈log,aX ps rs d):∀x∈ao rs log,Pln 3 x:=λx hx=>by
 obtain⟨p,hp,rfl⟩:=AAK.mp hx;obtain⟨_,h2,h3⟩:=fI hd p hp;generalize p.2=d at h2 h3;obtain⟨t,z,k,num,r,u,s,rfl,_,_,_,hu⟩:=gB h2 h3;have hub:Pln 2 u:=by
  rcases hu with rfl | hu
  ·exact .non
  ·exact hu.pl
 refine .tup (.cons (St.pl (n:=0) ⟨t,z,k,rfl⟩) (.cons (.str _) (.cons hub (.cons (.str _) (.cons ?_ (.cons (.bl _) .nil))))));cases e:aM (cN (ba rs log) log) (stD (.tup [.int t,.tup [.str z,.int k],.int num,.tup [.str (AA1 "say"),.str r,u,.str s]])) with
 | none=>exact .str _
 | some v =>
  obtain⟨s',e'⟩:=lA hd _ (bz e);dsimp only at e';rw[e'];exact .str _
def mV(hd:∀d∈log,aX ps rs d):(ao rs log).map hd0=(ba rs log).map (·.1):=by
 unfold ao;rw[AAt];refine AC7 λp hp=>?_
 exact(fI hd p hp).1.symm
def fq:(ao rs log).length<=log.length:=by
 unfold ao;rw[AA4];exact AB3 (ABM _ _) (AB3 aN.len bL)
section
variable{ps:List (Str×Int)}{rs:List (Str×List Str)}{log:List D}
def LogS.es(hl:LogS ps rs log):ah rs log=((kinds log (AA1 "say")).filter λd=>@decide (Stn rs (kinds log (AA1 "say")) d) (AAH _)).map λd=>(stD d,d):=by
 have hk:∀d∈kinds log (AA1 "say"),aX ps rs d/\da d=AA1 "say":=λd q=>⟨hl.dk d (bc q).1,(bc q).2⟩
 refine wf (λd q=>?_) (λd q=>(hk d q).1.st) (ABG _ hl.up)
 obtain⟨t,z,k,num,r,u,s,rfl,_,_,_,hu⟩:=gB (hk d q).1 (hk d q).2;exact hu
def LogS.mem(hl:LogS ps rs log):e∈(ah rs log).map (·.2)↔Stn rs (kinds log (AA1 "say")) e:=by
 rw[hl.es,AAt];constructor
 ·intro h
  obtain⟨d,hd,rfl⟩:=AAK.mp h;exact @of_decide_eq_true _ (AAH _) (AAj.mp hd).2
 ·intro h
  exact AAK.mpr ⟨e,AAj.mpr ⟨h.mem,@decide_eq_true _ (AAH _) h⟩,rfl⟩
def LogS.get(hl:LogS ps rs log):aM (ah rs log) k=some e↔k=stD e/\Stn rs (kinds log (AA1 "say")) e:=by
 constructor
 ·intro h
  exact⟨(yO aN h).1,hl.mem.mp (AAg (f:=(·.2)) (bz h))⟩
 ·rintro⟨rfl,h⟩
  obtain⟨q,hq,e1⟩:=AAK.mp (hl.mem.mpr h);obtain⟨h1,_⟩:=aN.en q hq;have:=cZ aN.nd hq;rw[h1,e1]at this;exact this
end
def BB(hl:LogS ps rs log)(hm:m∈ao rs log):∃(e:D) (t:Int) (z:Str) (k:Int) (v:D) (b:Bool),aM (ah rs log) (stD e)=some e/\¬aT (ah rs log) log (stD e)/\stD e=.tup [.int t,.tup [.str z,.int k]]/\m=.tup [.tup [.int t,.tup [.str z,.int k]],.str (bR e),bf e,.str (iC e),v,.bl b]/\(bf e=.non\/St (bf e)):=by
 obtain⟨q,hq,rfl⟩:=AAK.mp hm;obtain⟨h1,h2,h3⟩:=fI hl.dk q hq;have hq':=dh.mp hq;have hg:=cZ aN.nd hq'.1;rw[h1]at hg hq';generalize q.2=e at hg hq' h2 h3;obtain⟨t,z,k,num,r,u,s,rfl,_,_,_,hu⟩:=gB h2 h3;exact⟨_,t,z,k,_,_,hg,hq'.2,rfl,rfl,hu⟩
def Gd(hl:LogS ps rs log)(hg:aM (ah rs log) (stD e)=some e)(hb:¬aT (ah rs log) log (stD e)):∃(v:D) (b:Bool),D.tup [stD e,.str (bR e),bf e,.str (iC e),v,.bl b]∈ao rs log:=by
 have:(stD e,e)∈ba rs log:=dh.mpr ⟨bz hg,hb⟩;exact⟨_,_,AAg (f:=λp:D×D=>ET (cN (ba rs log) log) p.2) this⟩
def lH(r:Str×List Str):Str×D:=(r.1,.tup (r.2.map .str))
def AV(ps:List (Str×D))(h:(ps.map (·.1)).Nodup):gY ps=ps:=by
 revert h;refine cu (P:=λps=>(ps.map (·.1)).Nodup->gY ps=ps) (λ_=>rfl) (λps p ih h=>?_) ps
 rw[AAW]at h;have h':=ABL.mp h;rw[mX,ih h'.1];unfold xz;rw[if_neg];intro z;obtain⟨q,hq,e⟩:=AD0.mp z;exact h'.2.2 _ (AAg hq) p.1 (by simp) (oT_ e)
def vC{rs:List (Str×List Str)}(h:(rs.map (·.1)).Nodup):gY (rs.map lH)=rs.map lH:=AV _ (by rw[AAt];exact h)
def pW:∀{rs:List (Str×List Str)},r∈rs.map (·.1)->Bp (rs.map lH) r=some (.tup ((uo rs r).map .str))
 | p::rs,h=>by
  rw[qu];unfold Bp;rw[AAQ,ABJ];by_cases e:p.1=r
  ·rw[if_pos e,show decide ((lH p).1=r)=true from dT_ e];rfl
  ·rw[if_neg e,show decide ((lH p).1=r)=false from dF_ e]
   rw[AAQ,AAJ]at h;exact pW (h.resolve_left (ABO e))
def xu{rs:List (Str×List Str)}:rs.map jv=(rs.map lH).map λp=>.tup [.str p.1,p.2]:=by
 rw[AAt];rfl
def Gq(ha:St a)(hb:St b):(okD M eqN a=true/\okD M eqN b=true/\iM M eqN a b=true)/\ltD M eqN a b=decide (enc eqN a<enc eqN b):=by
 have oa:okP eqN a=true:=by obtain⟨t,z,k,e⟩:=ha;rw[e];rfl
 have ob:okP eqN b=true:=by obtain⟨t,z,k,e⟩:=hb;rw[e];rfl
 exact⟨⟨ha.ok,hb.ok,ha.cm hb⟩,oi oa ob (ha.cm hb)⟩
def xj(h:Ris l)(hS:∀d∈l,St (stD d))(hp:ys.Perm (l.map stD))(hr:Cq M ys):ys=l.map stD:=by
 have sl:∀x∈l.map stD,St x:=λx hx=>by
  obtain⟨d,hd,rfl⟩:=AAK.mp hx;exact hS d hd
 have sy:∀x∈ys,St x:=λx hx=>sl x (hp.mem_iff.mp hx)
 refine List.Perm.eq_of_pairwise (le:=λa b=>¬enc eqN b<enc eqN a) (λx y hx hy h1 h2=>?_) ?_ ?_ hp
 ·have sx:=sy x hx
  have sy:=sl y hy;have ox:okP eqN x=true:=by obtain⟨t,z,k,e⟩:=sx;rw[e];rfl
  have oy:okP eqN y=true:=by obtain⟨t,z,k,e⟩:=sy;rw[e];rfl
  exact yX (M:=[]) ox oy (sx.cm sy) (List.le_antisymm (List.not_lt.mp h1) (List.not_lt.mp h2))
 ·refine(AEJ.mp hr).imp λ{a b} ⟨ha,hb,q⟩=>?_
  rw[(Gq (sy b hb) (sy a ha)).2]at q;exact of_decide_eq_false q
 ·exact List.pairwise_map.mpr (h.imp λq z=>ABD _ (List.lt_trans q z))
section
variable{r:Str}{es:List D}{u:D->D}
def RunW.par(nd:(es.map stD).Nodup)(hS:∀e∈es,stD e≠.non)(hu:∀e∈es,u (stD e)=bf e)(h:RunW (ax r es) rows todo out):TreeW r es rows todo->(∀A x C,rows=A++x::C->u (aY x)=.non\/u (aY x)∈A.map aY)->∀A x C,out=A++x::C->u (aY x)=.non\/u (aY x)∈A.map aY:=by
 induction h with
 | done=>exact λ_ d=>d
 | @step rows todo out n x h ih =>
  refine λw d=>ih (w.step nd hS) λA y C e=>?_
  rcases df e with⟨rfl,rfl,rfl⟩|⟨B',rfl,er⟩
  ·obtain⟨k0,e0,q0,he0,_,hh⟩:=w.ok (.tup [.int n,x]) (by simp)
   have ex:x=stD e0:=by injection q0 with q;injection q with _ q;injection q
   show u x=.non\/u x∈_;rw[ex,hu e0 he0];exact hh
  ·exact d A y B' er
def Cu.start(hu:∀e∈es,u (stD e)=bf e)(hr:Ris es):Cu u ([]++(bn 0 (ax r es .non)).reverse):=by
 have:(bn 0 (ax r es .non)).reverse=(ax r es .non).map λs=>.tup [.int 0,s]:=by
  unfold bn;rw[<-List.map_reverse,AEM]
 unfold Cu;rw[AAs,this,AC8];unfold ax;rw[AC8];refine(ABG _ hr).imp ?_
 intro a b q _;exact q
end
noncomputable def wE(rs:List (Str×List Str))(log:List D)(s:D):D:=bf ((aM (ah rs log) s).getD .non)
structure RoomF(rs:List (Str×List Str))(log:List D)(r:Str)(L:List D):Prop where
 nd:(L.map aY).Nodup
 ok:∀x∈L,∃(k:Int) (e:D),x=.tup [.int k,stD e]/\aM (ah rs log) (stD e)=some e/\bR e=r/\¬aT (ah rs log) log (stD e)
 all:∀e,Stn rs (kinds log (AA1 "say")) e->bR e=r->¬aT (ah rs log) log (stD e)->stD e∈L.map aY
 right:∀(i:Nat) (k:Int) (e:D),L[i]?=some (.tup [.int k,stD e])->aM (ah rs log) (stD e)=some e->(bf e=.non/\k=0)\/(bf e≠.non/\aT (ah rs log) log (bf e)/\0<k)\/(bf e≠.non/\¬aT (ah rs log) log (bf e)/\∃(j:Nat) (k':Int),j<i/\L[j]?=some (.tup [.int k',bf e])/\k=k'+1/\∀n x,j<n->n<i->L[n]?=some x->k<=dpt x)
 bro:Cu (wE rs log) L
theorem LogS.room(hl:LogS ps rs log)(h:RunW (ax r ((ah rs log).map (·.2))) [] (bn 0 (ax r ((ah rs log).map (·.2)) .non)) out):RoomF rs log r (out.filter λx=>@decide (¬aT (ah rs log) log (aY x)) (AAH _)):=by
 have tb:=aN (rs:=rs) (log:=log);have hv:=fH hl.dk (λ_ q=>q) tb
 have hS:∀e∈(ah rs log).map (·.2),stD e≠.non:=λe he z=>by
  obtain⟨p,hp,rfl⟩:=AAK.mp he;obtain⟨t,n,k,e⟩:=(hv p hp).1.st;rw[e]at z;cases z
 have nd:(((ah rs log).map (·.2)).map stD).Nodup:=by
  have:((ah rs log).map (·.2)).map stD=(ah rs log).map (·.1):=by
   rw[AAt];exact AC7 λp hp=>(tb.en p hp).1.symm
  rw[this];exact tb.nd
 have mg:∀e∈(ah rs log).map (·.2),aM (ah rs log) (stD e)=some e:=λe he=>hl.get.mpr ⟨rfl,hl.mem.mp he⟩
 have hu:∀e∈(ah rs log).map (·.2),wE rs log (stD e)=bf e:=λe he=>by
  unfold wE;rw[mg e he];rfl
 have hr:Ris ((ah rs log).map (·.2)):=by
  rw[hl.es,AAt];rw[show ((λx:D×D=>x.2) ∘ λd=>(stD d,d))=id from rfl,ACu]
  exact ABG _ (ABG _ hl.up)
 have mS:∀e,Stn rs (kinds log (AA1 "say")) e->e∈(ah rs log).map (·.2):=λe he=>hl.mem.mpr he
 have gS:∀e,aM (ah rs log) (stD e)=some e->e∈(ah rs log).map (·.2):=λe he=>AAg (f:=(·.2)) (bz he)
 generalize (ah rs log).map (·.2)=es at h hS nd hu hr mS gS mg;have t0:=TreeW.start (r:=r) nd;have tr:=h.tree nd hS t0;have dep:=h.dep nd hS hu t0 DepI.start;have sgn:=h.sgn nd hS hu t0 (HV.start hu);have bro:=h.bro nd hS hu hr t0 (Cu.start hu hr);have par:=h.par nd hS hu t0 (λA x C e=>by simp at e)
 have all:=h.all (λx hx=>nomatch hx)
 have tok:∀x∈out,∃(k:Int) (e:D),x=.tup [.int k,stD e]/\e∈es/\bR e=r:=λx hx=>by
  obtain⟨k,e,h1,h2,h3,_⟩:=tr.ok x (AAP _ hx);exact⟨k,e,h1,h2,h3⟩
 have tnd:(out.map aY).Nodup:=by have:=tr.nd;rw[AB7]at this;exact this
 have qs:∀x:D,@decide (¬aT (ah rs log) log (aY x)) (AAH _)=true↔¬aT (ah rs log) log (aY x):=λx=>@decide_eq_true_iff _ (AAH _)
 refine⟨(ADd.map _).nodup tnd,λx hx=>?_,λe he hr' hb=>?_,λi k e hi he=>?_,ABG _ bro⟩
 ·obtain⟨h1,h2⟩:=AAj.mp hx
  obtain⟨k,e,rfl,he,hr⟩:=tok x h1;exact⟨k,e,rfl,mg e he,hr,(qs _).mp h2⟩
 ·have:stD e∈out.map aY/\∀x∈out,∀y∈ax r es (aY x),y∈out.map aY:=by
   clear hb;induction he with
   | @top d h m u =>
    refine all _ ?_
    rw[AAs,eX,ACL];exact dL.mpr ⟨d,mS d (.top h m u),rfl,hr',u⟩
   | @sub d e h m s u o rr ih =>
    obtain⟨i1,i2⟩:=ih (rr.trans hr');obtain⟨x,hx,ex⟩:=AAK.mp i1;exact⟨i2 x hx _ (dL.mpr ⟨d,mS d (.sub h m s u o rr),rfl,hr',by rw[ex];exact u⟩),i2⟩
  obtain⟨x,hx,ex⟩:=AAK.mp this.1;rw[<-ex];refine AAg (AAj.mpr ⟨hx,(qs x).mpr ?_⟩);rw[ex];exact hb
 ·generalize hq:(λx=>@decide (¬aT (ah rs log) log (aY x)) (AAH _))=q at hi ⊢
  have qs':∀x,¬aT (ah rs log) log (aY x)->q x=true:=λx hx=>by rw[<-hq];exact(qs x).mpr hx
  have hlt:=(AA7.mp hi).1;have eL:out.filter q=(out.filter q).take i++(.tup [.int k,stD e])::(out.filter q).drop (i+1):=by
   conv=>lhs;rw[<-ACe i (out.filter q)]
   congr 1;rw[ADW hlt];congr 1;exact(AA7.mp hi).2
  obtain⟨O1,O',e1,f1,f2⟩:=List.filter_eq_append_iff.mp eL;obtain⟨O2,O3,rfl,n2,_,_⟩:=List.filter_eq_cons_iff.mp f2;have f12:(O1++O2).filter q=(out.filter q).take i:=by
   rw[ADB,f1,List.filter_eq_nil_iff.mpr n2,AB7]
  rw[<-AAk]at e1;have ue:wE rs log (stD e)=bf e:=hu e (gS e he);have xm:D.tup [.int k,stD e]∈out:=by rw[e1];simp
  obtain⟨_,s1,s2⟩:=sgn _ xm;have s1:wE rs log (stD e)=.non->k=0:=s1;have s2:wE rs log (stD e)≠.non->0<k:=s2;rw[ue]at s1 s2;by_cases hn:bf e=.non
  ·exact .inl ⟨hn,s1 hn⟩
  by_cases hb:aT (ah rs log) log (bf e)
  ·exact .inr (.inl ⟨hn,hb,s2 hn⟩)
  refine .inr (.inr ⟨hn,hb,?_⟩);have pp:=par _ _ _ e1;have pp:wE rs log (stD e)=.non\/wE rs log (stD e)∈(O1++O2).map aY:=pp;rw[ue]at pp;obtain⟨p,hp,ep⟩:=AAK.mp (pp.resolve_left hn);obtain⟨A,B,eAB⟩:=List.append_of_mem hp;rw[eAB]at e1 f12;rw[AAk,ACX]at e1;obtain⟨d1,d2⟩:=dep.old A p B _ O3 e1 (ue.trans ep.symm);obtain⟨k',e',rfl,_⟩:=tok p (by rw[e1];simp)
  have ep:stD e'=bf e:=ep;have d1:k=k'+1:=d1;have qp:q (.tup [.int k',stD e'])=true:=qs' _ (show ¬aT _ _ (stD e') by rw[ep];exact hb)
  rw[ADB,AC0,if_pos qp]at f12;have li:((out.filter q).take i).length=i:=by rw[AAy];lia
  have lj:(A.filter q).length<i:=by rw[<-li,<-f12,AAA,AAN];lia
  have gt:∀n,n<i->(out.filter q)[n]?=(A.filter q++D.tup [.int k',stD e']::B.filter q)[n]?:=λn hn=>by rw[f12,ADv,if_pos hn]
  refine⟨(A.filter q).length,k',lj,?_,d1,λn x h1 h2 h3=>?_⟩
  ·rw[gt _ lj,<-ep,AAe (AA8 _),ADE];rfl
  ·rw[gt n h2,AAe (by lia)]at h3
   obtain⟨m,hm⟩:∃m,n-(A.filter q).length=m+1:=⟨n-(A.filter q).length-1,by lia⟩
   rw[hm,ABb]at h3;exact d2 x (AAj.mp (AAc h3)).1
def wx(L:List D)(n:Nat):List (D×D):=(AAu n).map λi=>(aY (L.getD i .non),.int i)
def uj(h:L[n]?=some x):wx L (n+1)=wx L n++[(aY x,.int n)]:=by
 unfold wx;rw[List.range_succ,AAW,List.map_singleton,AAU,h];rfl
def jH:∀{n:Nat},n<=L.length->(wx L n).map (·.1)=(L.take n).map aY
 | 0,_=>rfl
 | n+1,h=>by
  have e:L[n]?=some L[n]:=AA5 h;rw[uj e,AAW,jH (Nat.le_of_succ_le h),ABn,e,AAW];rfl
def Dd(nd:(L.map aY).Nodup)(hn:n<=L.length)(h:L[i]?=some x)(hi:i<n):aM (wx L n) (aY x)=some (.int i):=by
 refine cZ (p:=(aY x,.int i)) ?_ ?_
 ·rw[jH hn]
  exact((AE3 _ _).map _).nodup nd
 ·unfold wx
  refine AAK.mpr ⟨i,AB2.mpr hi,?_⟩;rw[AAU,h];rfl
def xB:(wx L n).length=n:=by unfold wx;rw[AA4,ACR]
def LogS.shown(hl:LogS ps rs log):∃l,Ris l/\(∀d∈l,St (stD d))/\(ba rs log).map (·.1)=l.map stD:=by
 unfold ba;generalize (λp:D×D=>@decide (¬aT (ah rs log) log p.1) (AAH _))=nb
 rw[hl.es,List.filter_map,AAt];exact⟨_,ABG _ (ABG _ (ABG _ hl.up)),λd hd=>(hl.dk d (bc (AAj.mp (AAj.mp hd).1).1).1).st,rfl⟩
noncomputable def ju(rs:List (Str×List Str))(log:List D)(s:D):Str:=bR ((aM (ah rs log) s).getD .non)
def RoomF.own(hl:LogS ps rs log)(rf:RoomF rs log r L):(((ba rs log).map (·.1)).filter λs=>decide (ju rs log s=r)).Perm (L.map aY):=by
 refine(List.perm_ext_iff_of_nodup (List.filter_sublist.nodup jE) rf.nd).mpr λs=>?_
 constructor
 ·intro h
  obtain⟨h1,h2⟩:=AAj.mp h;obtain⟨p,hp,rfl⟩:=AAK.mp h1;obtain⟨q1,q2⟩:=dh.mp hp;have hg:=cZ aN.nd q1;have h2:=oT_ h2;unfold ju at h2;rw[hg]at h2;obtain⟨e1,e2⟩:=hl.get.mp hg;rw[e1]at q2 ⊢;exact rf.all _ e2 h2 q2
 ·intro h
  obtain⟨x,hx,rfl⟩:=AAK.mp h;obtain⟨k,e,rfl,h1,h2,h3⟩:=rf.ok x hx;refine AAj.mpr ⟨AAK.mpr ⟨(stD e,e),dh.mpr ⟨bz h1,h3⟩,rfl⟩,dT_ ?_⟩;show ju rs log (stD e)=r;unfold ju;rw[h1];exact h2
def RoomF.len(hl:LogS ps rs log)(rf:RoomF rs log r L):L.length<=60:=by
 have h1:=(rf.own hl).length_eq;rw[AA4]at h1;have h2:(((ba rs log).map (·.1)).filter λs=>decide (ju rs log s=r)).length<=((ba rs log).map (·.1)).length:=ABM _ _
 rw[<-mV hl.dk,AA4]at h2;have:=fq (rs:=rs) (log:=log);have:=hl.len;rw[mV hl.dk]at h2;lia
def RoomF.row(hl:LogS ps rs log)(rf:RoomF rs log r L):∀x∈L,∃(k t:Int) (z:Str) (n:Int) (e:D),x=.tup [.int k,.tup [.int t,.tup [.str z,.int n]]]/\stD e=.tup [.int t,.tup [.str z,.int n]]/\aM (ah rs log) (stD e)=some e/\bR e=r/\¬aT (ah rs log) log (stD e)/\(bf e=.non\/St (bf e))/\iC e∈uo rs r:=λx hx=>by
 obtain⟨k,e,rfl,h1,h2,h3⟩:=rf.ok x hx;obtain⟨_,hs⟩:=hl.get.mp h1;obtain⟨m1,m2⟩:=bc hs.mem;have nm:=hs.nm;rw[h2]at nm;obtain⟨t,z,n,es⟩:=(hl.dk e m1).st;obtain⟨t',z',k',num',r',u',s',rfl,_,_,_,hu⟩:=gB (hl.dk e m1) m2;exact⟨k,t,z,n,_,by rw[es],es,h1,h2,h3,hu,nm⟩
def eQ:DTS:=bA (dOp qEq (dCB dn (aa (ab 0) (aa (ab 1) (aa (ab 2) ag)))) (ab 5))
def cG:DTS:=Be (ab 10) (dOp qIx (ab 11) (dC (.int 2))) (dOp qIx (ab 8) (dC (.int 1)))
def fY:DTS:=az (dIf (EW (aG (dOp qInM (dOp qIx (ab 11) (dC (.int 2))) (ab 10))) (EB (aG (dOp ER (Bf (ab 10) (dOp qIx (ab 11) (dC (.int 2)))) (dOp qIx (ab 8) (dC (.int 1))))))) (bA (dC (.bl false))) bi) (cG)
def fZ:DTS:=az (dIf (aG (dOp kx (dOp qIx (ab 11) (dC (.int 3))) (Bg (dCB ui (aa (dOp qIx (ab 0) (dC (.int 1))) ag)) (ab 2)))) (bA (dC (.bl false))) bi) (fY)
def gc:DTS:=az (dIf (EB (aG (dCB cO (aa (ab 6) (aa (ab 5) (aa (ab 7) (aa (ab 11) (aa (ab 4) ag)))))))) (bA (dC (.bl false))) bi) (fZ)
def gf:DTS:=az (mZ (ze (aa (ab 5) ag)) (lU 2 (cc (ar 7) (cc (ar 8) lV))) (az (bd (lW (ab 3) (dOp qIx (ab 8) (dC (.int 1)))) 11) (gc))) (eQ)
def gh:DTS:=az (bd (zd) 10) (gf)
def gi:DTS:=az (dIf (dOr (aG (dOp ER (dCB vE (aa (ab 6) ag)) (dCB mK (aa (ab 5) ag)))) (aG (dOp qNe (dCB fN (aa (ab 6) ag)) (ab 9)))) (bA (dC (.bl false))) bi) (gh)
def gj:DTS:=az (jq 1 [3,2] (rB (ab 3)) (ar 0) (aG (dOp qEq (dOp qIx (lW (ab 1) (ab 0)) (dC (.int 1))) (ab 2))) (ab 0) 9) (gi)
def gk:DTS:=az (mZ (ze (aa (ab 5) ag)) (lU 2 (cc (ar 7) (cc (ar 8) lV))) (re (ab 6) (dOp qIx (ab 8) (dC (.int 1))) (ab 7))) (gj)
def gs:DTS:=az (bd (rh) 6) (gk)
def jc:DTS:=az (bd (dCB dn (aa (ab 0) (aa (ab 1) (aa (ab 2) ag)))) 5) (gs)
theorem nl:WpT cA 12 jc:=by
 rintro ds M R ⟨ps,rs,log,gone,r,qm,qg,rfl,hf,hl,hr,gm,gg,bg,h⟩;have l60:=hl.len;simp only[jc];walk_at "dl";refine⟨ps,rs,log,r,rfl,hr,hl.dk,by lia,λout hw ho=>?_⟩
 have rf:=hl.room hw;have again:∀out',RunW (ax r ((ah rs log).map (·.2))) [] (bn 0 (ax r ((ah rs log).map (·.2)) .non)) out'->out'=out:=λout' h'=>h'.uni hw
 clear hw ho;generalize hL:(out.filter λx=>@decide (¬aT (ah rs log) log (aY x)) (AAH _))=L at rf
 have ll:=rf.len hl;have rw':=rf.row hl;have gm1:=ac (a:=MO.lst L) gm;have gg1:=ac (a:=MO.lst L) gg;have g5:(M++[MO.lst L])[M.length]?=some (.lst L):=ae;have pB:M <+: M++[MO.lst L]:=eM;generalize M++[MO.lst L]=B1 at gm1 gg1 g5 pB;generalize M.length=q5 at g5;simp only[gs,gk];walk_at "dl";refine⟨_,.inl (ac g5),λ_=>?_⟩
 refine bj (λi S M'=>∃(a b:Option D),B1 <+: M'/\M'[B1.length]?=some (.dkt (wx L i))/\S=[some (aF ps rs),some (.tup log),some (.str r),some (.ref qm),some (.ref qg),some (.ref q5),some (.ref B1.length),a,b,none,none,none]) ?_ ?_ ⟨_,_,eM,ae,rfl⟩
 ·rintro S M' ⟨a,b,pM,gp,rfl⟩
  rw[fy]at gp;refine⟨.inl (aH pM g5),?_⟩;have gm2:=aH pM gm1;have gg2:=aH pM gg1;have g52:=aH pM g5;have pM2:=pB.trans pM;generalize B1.length=q6 at gp;obtain⟨l,lr,lS,lk⟩:=hl.shown;have ml:=fq (rs:=rs) (log:=log);have fnd:((ao rs log).map hd0).Nodup:=by rw[mV hl.dk];exact jE
  simp only[gj];walk_at "dl";refine⟨_,gm2,λ_=>?_⟩
  refine bp (λs=>decide (ju rs log s=r)) id (λS=>∃a,S=[a,some (.ref qm),some (.str r)]) gm2 _ _ _ ?_ ⟨_,rfl⟩ (by rw[AAm,AA4,AA4];exact aw (by lia)) ?_
  ·rintro x hx S ⟨a,rfl⟩
   rw[AAt]at hx;obtain⟨m,hm,rfl⟩:=AAK.mp hx;obtain⟨e,t,z,k,v,b,hg,hb,es,rfl,hu⟩:=BB hl hm;refine⟨[some (.tup [.int t,.tup [.str z,.int k]]),some (.ref qm),some (.str r)],⟨_,rfl⟩,λY Z hYZ=>?_⟩
   have ga:=cZ (kvs:=(ao rs log).map λm=>(hd0 m,m)) (by rw[AAt];exact fnd) (AAg (f:=λm=>(hd0 m,m)) hm)
   have hYZ:if decide (ju rs log (.tup [.int t,.tup [.str z,.int k]])=r)=true then Y (.tup [.int t,.tup [.str z,.int k]]) [some (.tup [.int t,.tup [.str z,.int k]]),some (.ref qm),some (.str r)] M' else Z [some (.tup [.int t,.tup [.str z,.int k]]),some (.ref qm),some (.str r)] M':=hYZ;have eR:ju rs log (.tup [.int t,.tup [.str z,.int k]])=bR e:=by unfold ju;rw[<-es,hg];rfl
   rw[eR]at hYZ;show ar 0 (.tup [.int t,.tup [.str z,.int k]]) _ _ _;walk_at "dl";refine⟨_,_,gm2,rfl,ga,?_⟩;walk_at "dl";refine⟨⟨aU,aU⟩,?_⟩;rw[ck];by_cases hr:bR e=r
   ·rw[beq_iff_eq.mpr hr]
    rw[dT_ hr]at hYZ;exact hYZ
   ·rw[beq_eq_false_iff_ne.mpr hr]
    rw[dF_ hr]at hYZ;exact hYZ
  rw[AAs,ACu,AAt,show ((λx:D×D=>x.1) ∘ λm:D=>(hd0 m,m))=hd0 from rfl,mV hl.dk]
  have ow:=rf.own hl;rw[lk,List.filter_map]at ow ⊢;have lr':Ris (l.filter ((λs=>decide (ju rs log s=r)) ∘ stD)):=ABG _ lr
  have lS':∀d∈l.filter ((λs=>decide (ju rs log s=r)) ∘ stD),St (stD d):=λd hd=>lS d (AAj.mp hd).1
  generalize l.filter ((λs=>decide (ju rs log s=r)) ∘ stD)=l' at ow lr' lS' ⊢
  have sl:∀x∈l'.map stD,St x:=λx hx=>by
   obtain⟨d,hd,rfl⟩:=AAK.mp hx;exact lS' d hd
  have g9:(M'++[MO.lst (l'.map stD)])[M'.length]?=some (.lst (l'.map stD)):=ae;replace gm2:=ac (a:=MO.lst (l'.map stD)) gm2;replace gg2:=ac (a:=MO.lst (l'.map stD)) gg2;replace g52:=ac (a:=MO.lst (l'.map stD)) g52;replace gp:=ac (a:=MO.lst (l'.map stD)) gp;replace pM2:=pM2.trans (eM (mo:=MO.lst (l'.map stD)));generalize M'++[MO.lst (l'.map stD)]=B2 at g9 gm2 gg2 g52 gp pM2;generalize M'.length=q9 at g9;have pk:=jH (L:=L) (AA8 _);rw[ABi]at pk;simp only[gi];walk_at "dl";refine⟨_,gp,_,.inl g52,?_⟩;rw[xB,dF_ (show ¬(L.length:Int)<(L.length:Int) by lia)]
  refine bZ ⟨_,gp,?_⟩;rw[pk];refine⟨nG (λx hx=>sl x (ow.mem_iff.mpr hx)) (by rw[AA4];lia),λys hy hr'=>?_⟩
  obtain rfl:ys=l'.map stD:=xj lr' lS' (hy.trans ow.symm) hr';replace gm2:=ac (a:=MO.lst (l'.map stD)) gm2;replace gg2:=ac (a:=MO.lst (l'.map stD)) gg2;replace g52:=ac (a:=MO.lst (l'.map stD)) g52;replace gp:=ac (a:=MO.lst (l'.map stD)) gp;replace pM2:=pM2.trans (eM (mo:=MO.lst (l'.map stD)));obtain⟨okk,ee⟩:=iu (M:=B2++[MO.lst (l'.map stD)]) (i:=B2.length) aE (.inl (ac g9)) (ub sl);refine⟨okk,?_⟩;rw[ee];refine bZ ?_
  generalize B2++[MO.lst (l'.map stD)]=B3 at gm2 gg2 g52 gp pM2;simp only[gh,gf];walk_at "dl";refine⟨_,.inl (ac g52),λ_=>?_⟩
  refine bj (λi S M'=>∃(a b c:Option D) (last:List (D×D)),B3 <+: M'/\M'[B3.length]?=some (.dkm last)/\last.length<=i/\(∀k s,aM last k=some s->∃(j:Nat) (x:D),j<i/\L[j]?=some x/\wE rs log (aY x)=k/\s=aY x)/\S=[some (aF ps rs),some (.tup log),some (.str r),some (.ref qm),some (.ref qg),some (.ref q5),some (.ref q6),a,b,some (.ref q9),some (.ref B3.length),c]) ?_ ?_ ⟨_,_,_,[],eM,ae,AAX _,λk s q=>(by cases q),rfl⟩
  ·rintro S M' ⟨a,b,c,last,pM,g10,_,_,rfl⟩
   refine⟨.inl (aH pM g52),?_⟩;simp only[eQ];walk_at "dl";refine⟨ps,rs,log,r,rfl,hr,hl.dk,by lia,λout' hw' _=>?_⟩
   rw[again out' hw',hL];obtain⟨okk,ee⟩:=iu (M:=M'++[MO.lst L]) (i:=M'.length) (j:=q5) aE (.inl (ac (aH pM g52))) λx hx=>by
    obtain⟨k,t,z,n,e,rfl,_⟩:=rw' x hx;exact xC 3 29 _ (by decide) (.tup (.cons (.int _) (.cons (St.pl ⟨t,z,n,rfl⟩) .nil)))
   refine⟨okk,?_⟩;rw[ee];exact bI.bl h ((pM2.trans pM).trans eM)
  ·rintro i y S M' hy ⟨a,b,c,last,pM,g10,lal,la,rfl⟩ G hG
   have hi':i<L.length:=by have:=(AA7.mp hy).1;rw[fy]at this;exact this
   have ex:L[i]?=some L[i]:=AA5 hi';obtain⟨k,t,z,n,e,ek,es,hg,er,hb,hu,hnm⟩:=rw' _ (AB5 hi');rw[ek]at ex;have ey:=lc ex;rw[hy]at ey;cases ey
   obtain⟨v,bb,hm⟩:=Gd hl hg hb;rw[es]at hm;have ga:aM ((ao rs log).map λm=>(hd0 m,m)) (.tup [.int t,.tup [.str z,.int n]])=some (.tup [.tup [.int t,.tup [.str z,.int n]],.str (bR e),bf e,.str (iC e),v,.bl bb]):=cZ (kvs:=(ao rs log).map λm=>(hd0 m,m)) (by rw[AAt];exact fnd) (AAg (f:=λm=>(hd0 m,m)) hm)
   have gmx:=aH pM gm2;have ggx:=aH pM gg2;have g5x:=aH pM g52;have gpx:=aH pM gp;refine⟨.inl g5x,?_⟩;walk_at "dl";refine⟨trivial,_,_,gmx,rfl,ga,?_⟩;simp only[gc];walk_at "dl";have rt:=rf.right i k e (by rw[es];exact ex) hg
   have cs:(bf e=.non/\k=0)\/(St (bf e)/\bf e∈gone/\0<k)\/(St (bf e)/\bf e∉gone/\∃(j:Nat) (k':Int),aM (wx L L.length) (bf e)=some (.int j)/\j<i/\L[j]?=some (.tup [.int k',bf e])/\k=k'+1/\∀n x,j<n->n<i->L[n]?=some x->k<=dpt x):=by
    rcases rt with q | ⟨q1,q2,q3⟩|⟨q1,q2,j,k',q3,q4,q5,q6⟩
    ·exact .inl q
    ·exact .inr (.inl ⟨hu.resolve_left q1,(bg.mem _).mpr q2,q3⟩)
    ·exact .inr (.inr ⟨hu.resolve_left q1,λz=>q2 ((bg.mem _).mp z),j,k',Dd rf.nd (AA8 _) q4 (by lia),q3,q4,q5,q6⟩)
   refine⟨q6,q5,qg,wx L L.length,L,gone,[.str (iC e),v,.bl bb],i,k,.tup [.int t,.tup [.str z,.int n]],_,_,bf e,rfl,gpx,g5x,ggx,by lia,λx hx=>?_,bg.st,ex,cs,?_⟩
   ·obtain⟨k,t,z,n,e,rfl,_⟩:=rw' x hx
    exact⟨_,_,rfl⟩
   refine bZ ?_
   simp only[fZ,aF];walk_at "dl";refine⟨rs.map lH,xu,by rw[AA4];have:=hf.rl.2;lia,?_⟩
   rw[vC hf.rnd];refine⟨_,_,ae,pW hr,⟨aU,nH⟩,?_⟩;rw[oF,dT_ hnm];refine bZ ?_
   have g10x:=ac (a:=MO.dct (rs.map lH)) g10;replace pM:=pM.trans (eM (mo:=MO.dct (rs.map lH)));generalize M'++[MO.dct (rs.map lH)]=B4 at g10x pM;have key:oW (bf e)=true:=by
    rcases hu with q | ⟨t',z',n',q⟩<;>rw[q]<;>rfl
   have eu:wE rs log (.tup [.int t,.tup [.str z,.int n]])=bf e:=by unfold wE;rw[<-es,hg];rfl
   have fin:=hG [some (aF ps rs),some (.tup log),some (.str r),some (.ref qm),some (.ref qg),some (.ref q5),some (.ref q6),some (.int i),some (.tup [.int k,.tup [.int t,.tup [.str z,.int n]]]),some (.ref q9),some (.ref B3.length),some (.tup [.tup [.int t,.tup [.str z,.int n]],.str (bR e),bf e,.str (iC e),v,.bl bb])] (B4.set B3.length (.dkm (eK last (bf e) (.tup [.int t,.tup [.str z,.int n]])))) ⟨_,_,_,_,bv pM (AA8 _),bx g10x,by have:=jG (kvs:=last) (k:=bf e) (d:=.tup [.int t,.tup [.str z,.int n]]);lia,λk' s q=>by
    by_cases ek:k'=bf e
    ·rw[ek,dP]at q
     injection q with q
     exact⟨i,_,AB0 i,ex,eu.trans ek.symm,q.symm⟩
    ·rw[fx ek]at q
     obtain⟨j,x,h1,h2⟩:=la k' s q;exact⟨j,x,by lia,h2⟩,rfl⟩
   simp only[fY];walk_at "dl";refine⟨_,g10x,key,?_⟩;cases hlast:aM last (bf e) with
   | none =>
    refine bZ ?_
    simp only[cG];walk_at "dl";exact⟨_,g10x,key,aB (by lia),Fgt.now fin⟩
   | some s =>
    obtain⟨j,x,h1,h2,h3,rfl⟩:=la _ _ hlast;have br:=rf.bro;have lt:enc eqN (aY x)<enc eqN (D.tup [.int t,.tup [.str z,.int n]]):=by
     have:=ACj.mp br j i (AA7.mp h2).1 hi' h1;rw[(AA7.mp h2).2,ek]at this;exact this (h3.trans eu.symm)
    obtain⟨k2,t2,z2,n2,e2,rfl,_⟩:=rw' x (AAc h2);refine db ⟨_,_,g10x,key,hlast,?_⟩;obtain⟨okk,el⟩:=Gq (M:=B4) (a:=.tup [.int t2,.tup [.str z2,.int n2]]) (b:=.tup [.int t,.tup [.str z,.int n]]) ⟨_,_,_,rfl⟩ ⟨_,_,_,rfl⟩;refine⟨okk,?_⟩;rw[el,dT_ (show enc eqN (D.tup [.int t2,.tup [.str z2,.int n2]])<_ from lt)];refine bZ ?_
    simp only[cG];walk_at "dl";exact⟨_,g10x,key,aB (by lia),Fgt.now fin⟩
 ·rintro i y S M' hy ⟨a,b,pM,gp,rfl⟩ G hG
  have hi':i<L.length:=by have:=(AA7.mp hy).1;rw[fy]at this;exact this
  have ex:L[i]?=some L[i]:=AA5 hi';obtain⟨k,t,z,n,e,ek,es,_⟩:=rw' _ (AB5 hi');rw[ek]at ex;have ey:=lc ex;rw[hy]at ey;cases ey
  refine⟨.inl (aH pM g5),?_⟩;walk_at "dl";refine⟨trivial,_,gp,rfl,aB (by rw[xB];lia),?_⟩
  have nk:D.tup [.int t,.tup [.str z,.int n]]∉(wx L i).map (·.1):=λq=>by
   rw[jH (ACN hi')]at q;have nd:=rf.nd;rw[<-ACe (i+1) L,ABn,ex,AAW,AAW]at nd;exact(ABL.mp (ABL.mp nd).1).2.2 _ q _ (by simp[aY]) rfl
  rw[jF nk];refine Fgt.now (hG _ _ ⟨_,_,bv pM (AA8 _),?_,rfl⟩);rw[uj ex];exact bx gp
def nV(T:Tops P w K mg base):Cal P w K mg base 6 "_law_right_room" ff cA :=
 Cal.byD (N:=["_law_house_here","_law_log_here","_law_room","_law_messages","_law_gone","_law_rows","_law_places","_law_at","_law_row","_law_own","_law_last","_law_message"]) T.b T.f_right_room (by walk_at "sc") lP (by have:=vH T;have:=qf T;walk_at "dv") nl
def DF:du (vS (AA1 "_law_log")) Dl:=by rintro ds M R ⟨ns,mo,_,_,rfl,_⟩;rfl
def wS:DTS:=bA (dOp qEq (dCB bC (aa (ab 1) (aa (ab 2) ag))) (ab 3))
def wT:DTS:=az (mZ (dc (dOp qIx (ab 1) (dC (.int 1)))) (lU 2 (cc (ar 7) (cc (ar 8) lV))) (dIf (EB (aG (dCB cA (aa (ab 1) (aa (ab 2) (aa (ab 7) (aa (ab 4) (aa (ab 6) ag)))))))) (bA (dC (.bl false))) bi)) (wS)
def wU:DTS:=az (bd (dCB cx (aa (ab 1) (aa (ab 2) ag))) 6) (wT)
def wV:DTS:=az (dIf (dOr (aG (dOp qLt (dCB vE (aa (ab 4) ag)) (dCB mK (aa (ab 3) ag)))) (aG (dOp qNe (dCB pZ (aa (ab 4) ag)) (dCB fN (aa (ab 4) ag))))) (bA (dC (.bl false))) bi) (wU)
def wW:DTS:=az (mZ (dc (ab 3)) (ar 5) (re (ab 4) (dOp qIx (ab 5) (dC (.int 0))) (ab 5))) (wV)
def wX:DTS:=az (bd (rh) 4) (wW)
def rV:DTS:=az (bd (dCB bC (aa (ab 1) (aa (ab 2) ag))) 3) (wX)
def wY:DTS:=az (bd (dCB uW (aa (dSl (ab 0) (jA (dC (.int 1))) (jA (dC (.int 61)))) (aa (ab 1) ag))) 2) (rV)
def Fg:DTS:=az (bd (dCB jQ (aa (dCB fT (aa (ab 0) (aa (dC (.int 0)) ag))) ag)) 1) (wY)
def EZ:WpT (vS (AA1 "_law_log")) 9 Fg:=by
 rintro ds M R ⟨ns,mo,h63,⟨hmo,hml⟩,rfl,rfl,h⟩;have hL0:ak [mo,.tb (AA1 "_law_log") false] 0 (ns.map D.int):=by
  have:=qv (M:=[mo,.tb (AA1 "_law_log") false]) (n:=0) (mo:=mo) rfl hml;rw[hmo]at this;exact this
 simp only[Fg];walk_at "dl";refine⟨0,ns,0,rfl,hL0,_,rfl,λps rs hf=>?_⟩
 simp only[wY];walk_at "dl";refine⟨_,hL0,?_⟩;have ec:∃cs:List Int,cutD (ns.map D.int) (some 1) (some 61)=cs.map D.int/\cs.length<=60:=by
  unfold cutD;refine⟨(ns.drop (HT.sIx (ns.map D.int).length 0 (some 1))).take (HT.sIx (ns.map D.int).length (ns.map D.int).length (some 61)-HT.sIx (ns.map D.int).length 0 (some 1)),by rw[List.map_take,List.map_drop],?_⟩
  rw[AAy];unfold HT.sIx;simp;lia
 obtain⟨cs,ec,cl⟩:=ec;rw[ec];refine⟨ps,rs,2,1,cs,rfl,hf,.inl rfl,by decide,cl,rfl,λlog hl=>?_⟩
 have l60:=hl.len;show rV _ _ ([mo,.tb (AA1 "_law_log") true,.lst (cs.map D.int)]:Mem);generalize ([mo,.tb (AA1 "_law_log") true,.lst (cs.map D.int)]:Mem)=B0;simp only[rV];walk_at "dl";refine⟨ps,rs,log,rfl,hl.dk,by lia,?_⟩
 have g3:(B0++[MO.lst (ao rs log)])[B0.length]?=some (.lst (ao rs log)):=ae;generalize B0++[MO.lst (ao rs log)]=B1 at g3;generalize B0.length=q3 at g3;have ml:=fq (rs:=rs) (log:=log);have fnd:((ao rs log).map hd0).Nodup:=by rw[mV hl.dk];exact jE
 simp only[wX,wW];walk_at "dl";refine⟨_,.inl (ac g3),λ_=>?_⟩
 have g4:(B1++[MO.dkt []])[B1.length]?=some (.dkt []):=ae;refine bj (λi S M'=>∃a:Option D,B1 <+: M'/\M'[B1.length]?=some (.dkt (((ao rs log).take i).map λm=>(hd0 m,m)))/\S=[some (.ref 0),some (aF ps rs),some (.tup log),some (.ref q3),some (.ref B1.length),a,none,none,none]) ?_ ?_ ⟨_,eM,g4,rfl⟩
 ·rintro S M' ⟨a,pM,ga,rfl⟩
  rw[ABi]at ga;have g3b:=aH pM g3;refine⟨.inl g3b,?_⟩;generalize B1.length=q4 at ga;obtain⟨l,lr,lS,lk⟩:=hl.shown;have lk':((ao rs log).map λm=>(hd0 m,m)).map (·.1)=l.map stD:=by
   rw[AAt,show ((λx:D×D=>x.1) ∘ λm:D=>(hd0 m,m))=hd0 from rfl,mV hl.dk,lk]
  have sl:∀x∈l.map stD,St x:=λx hx=>by
   obtain⟨d,hd,rfl⟩:=AAK.mp hx;exact lS d hd
  have lll:(l.map stD).length<=60:=by rw[<-lk',AA4,AA4];lia
  simp only[wV];walk_at "dl";refine⟨_,ga,_,.inl g3b,?_⟩;rw[AA4,dF_ (show ¬((ao rs log).length:Int)<((ao rs log).length:Int) by lia)]
  refine bZ ⟨_,ga,_,ac ga,?_⟩;rw[lk'];refine⟨nG sl (by lia),λys hy hr'=>?_⟩
  obtain rfl:ys=l.map stD:=xj lr lS hy hr';obtain⟨okk,ee⟩:=iu (M:=M'++[MO.lst (l.map stD)]++[MO.lst (l.map stD)]) (i:=M'.length) (.inl (ac ae)) aE (ub sl);refine⟨okk,?_⟩;rw[ee];refine bZ ?_
  replace ga:=ac (a:=MO.lst (l.map stD)) (ac (a:=MO.lst (l.map stD)) ga);replace g3b:=ac (a:=MO.lst (l.map stD)) (ac (a:=MO.lst (l.map stD)) g3b);generalize M'++[MO.lst (l.map stD)]++[MO.lst (l.map stD)]=B2 at ga g3b;simp only[wU];walk_at "dl";refine⟨ps,rs,log,rfl,hl.dk,by lia,λgone bg=>?_⟩
  replace ga:=ac (a:=MO.lst gone) ga;replace g3b:=ac (a:=MO.lst gone) g3b;have g6:(B2++[MO.lst gone])[B2.length]?=some (.lst gone):=ae;dsimp only;generalize B2++[MO.lst gone]=B3 at ga g3b g6;generalize B2.length=q6 at g6;simp only[wT,aF];walk_at "dl";intro _;refine bj (λi S M'=>∃(b c:Option D),M'=B3/\S=[some (.ref 0),some (aF ps rs),some (.tup log),some (.ref q3),some (.ref q4),a,some (.ref q6),b,c]) ?_ ?_ ⟨_,_,rfl,rfl⟩
  ·rintro S M' ⟨b,c,rfl,rfl⟩
   refine⟨trivial,?_⟩;simp only[wS];walk_at "dl";refine⟨ps,rs,log,rfl,hl.dk,by lia,?_⟩
   obtain⟨okk,ee⟩:=iu (M:=M'++[MO.lst (ao rs log)]) (i:=M'.length) (j:=q3) aE (.inl (ac g3b)) λx hx=>xC 3 29 x (by decide) (Dz hl.dk x hx)
   refine⟨okk,?_⟩;rw[ee];exact .inl (h _)
  ·rintro i y S M' hy ⟨b,c,rfl,rfl⟩ G hG
   obtain⟨pr,hpr,rfl⟩:=AAK.mp (AAc hy);refine⟨trivial,?_⟩;unfold jv;walk_at "dl";refine⟨trivial,ps,rs,log,gone,pr.1,q4,q6,rfl,hf,hl,AAg hpr,ga,g6,bg,?_⟩;exact bZ (Fgt.now (hG _ _ ⟨_,_,rfl,rfl⟩))
 ·rintro i y S M' hy ⟨a,pM,ga,rfl⟩ G hG
  have hm:=AAc hy;have hi:=(AA7.mp hy).1;have et:(ao rs log).take (i+1)=(ao rs log).take i++[y]:=by rw[ABn,hy];rfl
  rw[et,AAW,List.map_singleton]at hG;refine⟨.inl (aH pM g3),?_⟩;have ny:hd0 y∉(((ao rs log).take i).map λm=>(hd0 m,m)).map (·.1):=λz=>by
   rw[AAt]at z;have f:=fnd;rw[<-ACe (i+1) (ao rs log),et,AAW,AAW]at f;have f1:=(ABL.mp (ABL.mp f).1).2.2;exact f1 _ z _ (by simp) rfl
  obtain⟨e,t,z,k,v,b,_,_,_,ey,_⟩:=BB hl hm;have pn:eK (((ao rs log).take i).map λm=>(hd0 m,m)) (.tup [.int t,.tup [.str z,.int k]]) y=(((ao rs log).take i).map λm=>(hd0 m,m))++[(hd0 y,y)]:=by
   have:=jF (d:=y) ny;rw[show hd0 y=_ from congrArg hd0 ey]at this;rw[show hd0 y=_ from congrArg hd0 ey];exact this
  rw[ey]at hG pn ⊢;walk_at "dl";refine⟨_,ga,rfl,aB (by rw[AA4,AAy];lia),?_⟩
  rw[pn];exact Fgt.now (hG _ _ ⟨_,bv pM (AA8 _),bx ga,rfl⟩)
def ok_law(T:Tops P w K mg base)(F:Fun K "law" "law" (top 46) f fd):FnOk P w K mg base CX0 9 f fd Dl (spL K (vS "_law_log")) :=
 AN (N:=["_law_script","_law_house_here","_law_log_here","_law_told","_law_messages","_law_message","_law_gone","_law_room","_law_members"]) T.b F (by walk_at "sc") DF (by have:=lI T;have:=nT T;have:=vJ T;have:=Ah T;have:=Ga T;have:=nV T;walk_at "dv") EZ
end
end LW
namespace PySem.W.Fast
def tw10047541772133717407:=0
def tw10050390842616599764:=0
def tw10490316101709845764:=0
def tw10619626479526519750:=0
def tw10918134681528461280:=0
def tw1102678990597195002:=0
def tw11056634249063520281:=0
def tw11077981113513810732:=0
def tw11114164518167360129:=0
def tw11393540730747224574:=0
def tw11561434653013542551:=0
def tw11851296967071938525:=0
def tw11985069605272525104:=0
def tw12086947296367691394:=0
def tw12106552522073687241:=0
def tw12308906244699585341:=0
def tw12489887505083414580:=0
def tw12493714456523862489:=0
def tw12680463179324682771:=0
def tw12788078603847435350:=0
def tw12870047012513672096:=0
def tw1299056804403459053:=0
def tw13162957485115404388:=0
def tw1321072267362962378:=0
def tw13292649508635195630:=0
def tw13329983470029035227:=0
def tw13450944524860537109:=0
def tw13548949257578404423:=0
def tw13612738983656115295:=0
def tw13867172628981556505:=0
def tw13890005662443815009:=0
def tw14017277192247679802:=0
def tw14103458960380309335:=0
def tw14153415730602686662:=0
def tw14156492400856821278:=0
def tw14181484803798687407:=0
def tw14251249082140316879:=0
def tw14281645065137093731:=0
def tw14354797627707137698:=0
def tw14508881316946178707:=0
def tw14555867258043684862:=0
def tw14708642547948304410:=0
def tw14855020637446756006:=0
def tw14973307335296170720:=0
def tw1502516431174075711:=0
def tw1521715544619414707:=0
def tw15392428028932387074:=0
def tw15477891333616907343:=0
def tw1551035137397695539:=0
def tw15533288035274805696:=0
def tw15846003761771382207:=0
def tw15954695120525407094:=0
def tw16192163685648099054:=0
def tw1627803089905184062:=0
def tw16282338440054469232:=0
def tw16284509097008632309:=0
def tw16333999776635372476:=0
def tw16334825281825062701:=0
def tw16381302418102535026:=0
def tw16409533943258490283:=0
def tw16512949005047322377:=0
def tw16561474793718438826:=0
def tw16879143776072658372:=0
def tw16903625029300143873:=0
def tw17092811911856568186:=0
def tw17658175202743575391:=0
def tw17955033719898862385:=0
def tw18079054093311818593:=0
def tw1827361505886549459:=0
def tw18314550780143220445:=0
def tw1922978061222154789:=0
def tw2086790963591571441:=0
def tw2156492002928135833:=0
def tw2341873559007687647:=0
def tw2432904122536821344:=0
def tw2528953523397983130:=0
def tw2539866708257473401:=0
def tw2677594329318121069:=0
def tw2726443751309089298:=0
def tw2757834245623574527:=0
def tw2837367840281023166:=0
def tw288617606288096640:=0
def tw289873002085962511:=0
def tw2997188603629470018:=0
def tw3093861781397687604:=0
def tw3132700290896860458:=0
def tw3149910511058998400:=0
def tw3466760057165959292:=0
def tw3682076048329359614:=0
def tw3729928254075659611:=0
def tw3751265623417213532:=0
def tw387832399462831055:=0
def tw3897507456578946488:=0
def tw392046434229486611:=0
def tw4052364045701080835:=0
def tw4128413857909746502:=0
def tw4167270915055179263:=0
def tw4352062060507887375:=0
def tw4457284987663209916:=0
def tw4470478223831088110:=0
def tw4835635677524455623:=0
def tw4879835588046178132:=0
def tw5088773040580307509:=0
def tw5097442995570315755:=0
def tw5188818810914732162:=0
def tw5255324072512335711:=0
def tw5373132163180454925:=0
def tw558478284158908621:=0
def tw5675895254793226706:=0
def tw5738843797746614452:=0
def tw5765813034038272183:=0
def tw6017279952922563661:=0
def tw6032805909834401759:=0
def tw6052250221568851123:=0
def tw619760541952289144:=0
def tw6243589652491003772:=0
def tw6279201503204697318:=0
def tw6397108494412440734:=0
def tw6519787885137327531:=0
def tw6548890161691155358:=0
def tw6711852528975392107:=0
def tw7245859686279423345:=0
def tw7256628862843967636:=0
def tw731034795795366821:=0
def tw7717395395115936516:=0
def tw7746299360063980534:=0
def tw7804823781040937390:=0
def tw7920870232858694781:=0
def tw8079719525970923563:=0
def tw8265503669007193727:=0
def tw8284858994353289192:=0
def tw8485434570801111283:=0
def tw850353770765768844:=0
def tw8503671587475335864:=0
def tw8890982092861545981:=0
def tw8933235722330995715:=0
def tw9064762291607837670:=0
def tw907967734251272441:=0
def tw9258252276513161976:=0
def tw9286744845401382672:=0
def tw9342053583572451833:=0
def tw9348466767902229488:=0
def tw9350992105689619031:=0
def tw9351832544821798790:=0
def tw9529706523662465577:=0
def tw9539662561639882765:=0
def tw9577385831663630516:=0
def tw9725300731615697074:=0
def tw9799241707868839025:=0
def tw9906470877285990599:=0
end PySem.W.Fast
local macro_rules | `(tactic| walk_at "f1")=>`(tactic| (refine' L2.fnat_mk (by assumption) (by assumption) ?a ?l ?c ?k (λ_ _ _ _ _ _ us hl=>match us,hl with | [_],_=>rfl);(case a=>k_is);(case l=>k_is);(case c=>k_is);(case k=>k_is)))
local macro_rules | `(tactic| walk_at "f2")=>`(tactic| (refine' L2.fnat_mk (by assumption) (by assumption) ?a ?l ?c ?k (λ_ _ _ _ _ _ us hl=>match us,hl with | [_,_],_=>rfl);(case a=>k_is);(case l=>k_is);(case c=>k_is);(case k=>k_is)))
local macro_rules | `(tactic| walk_at "f3")=>`(tactic| (refine' L2.fnat_mk (by assumption) (by assumption) ?a ?l ?c ?k (λ_ _ _ _ _ _ us hl=>match us,hl with | [_,_,_],_=>rfl);(case a=>k_is);(case l=>k_is);(case c=>k_is);(case k=>k_is)))
local macro_rules | `(tactic| walk_at "f4")=>`(tactic| (refine' L2.fnat_mk (by assumption) (by assumption) ?a ?l ?c ?k (λ_ _ _ _ _ _ us hl=>match us,hl with | [_,_,_,_],_=>rfl);(case a=>k_is);(case l=>k_is);(case c=>k_is);(case k=>k_is)))
local macro_rules | `(tactic| walk_at "f5")=>`(tactic| (refine' L2.fnat_mk (by assumption) (by assumption) ?a ?l ?c ?k (λ_ _ _ _ _ _ us hl=>match us,hl with | [_,_,_,_,_],_=>rfl);(case a=>k_is);(case l=>k_is);(case c=>k_is);(case k=>k_is)))
open PySem PySem.W PyProof.Rows
set_option maxRecDepth 100000 in
set_option maxHeartbeats 0 in
theorem PySem.Challenge.cw_talkmarks_k27_whole_rows_and_messages_holds : PySem.Challenge.rw_talkmarks_k27_whole_rows_and_messages.Holds := by
 w_on; o_law; k_head; (case hw=>w_witness2)
 k_fill
 refine L2.law_walkL (z:="_law_log") (l:=PySem.Challenge.rw_talkmarks_k27_whole_rows_and_messages) (k:=9) (st:=LW.top 46) (x:="_law_script") rfl rfl rfl ⟨rfl,by decide,by decide⟩ (fun w h Y=>PySem.W.km_in_of Y) (fun _=>by kernel_rfl) rfl (fun _=>rfl) ?F (fun _ _ _ _ _ _ _=>rfl)
 case F =>
  intro w mg h KX G;have T:∀ P base,L2.BMain mg base→LW.Tops P w (L2.KOf KX) mg base:=by
   intro P base bm;dsimp only [L2.KOf];constructor
   ·walk_at "f1"
   ·walk_at "f2"
   ·walk_at "f2"
   ·walk_at "f1"
   ·walk_at "f1"
   ·walk_at "f2"
   ·walk_at "f1"
   ·walk_at "f1"
   ·walk_at "f3"
   ·walk_at "f2"
   ·walk_at "f2"
   ·walk_at "f3"
   ·walk_at "f2"
   ·walk_at "f2"
   ·walk_at "f2"
   ·walk_at "f2"
   ·walk_at "f2"
   ·walk_at "f2"
   ·walk_at "f2"
   ·walk_at "f2"
   ·walk_at "f1"
   ·walk_at "f3"
   ·walk_at "f2"
   ·walk_at "f1"
   ·walk_at "f2"
   ·walk_at "f1"
   ·walk_at "f2"
   ·walk_at "f1"
   ·walk_at "f2"
   ·walk_at "f3"
   ·walk_at "f3"
   ·walk_at "f4"
   ·walk_at "f5"
   ·walk_at "f1"
   ·walk_at "f2"
   ·walk_at "f5"
   ·walk_at "f5"
   ·walk_at "f1"
   ·unfold LW.B_ LW.C_
    iterate 10 (refine' L2.TopB.b ?tq ?_; (case tq=>refine' PySem.W.mg_none_of KX G ?tr; (case tr=>k_is)))
    exact .nil
   ·exact bm
  refine ⟨?_,fun base f fd bm F=>LW.ok_law (T _ base bm) F⟩
  try dsimp only [L2.KOf]
  walk_at "f1"
