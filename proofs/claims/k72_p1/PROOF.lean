import PyProof.Rows.All
import Wide.All
import OpenK.AllK
import Wide.FinOn
import Lean
import PyProof.EqAt
import PyProof.EqKinds
import PyProof.TupleCall
import PyProof.CompFree
import PyProof.NeKinds
import KE.KSortTup
import KE.KRevSl
import KE.KDictSum
import KE.KEqDict
import PyProof.Conv_int_bool
import PyProof.AttrMissHeap
import KE.KLam
import KE.KRevIter
import PySem.Challenge.RW_talkmarks_k72_deeds_heard
open PySem renaming wpAny_bind->AA0,wpAny_pure->AA7,Spec->AAA,wpAny_newObj_type->AAj,wpAny_callSpecial?_slot->AAl,wpAny_call_entry->AAo,wpAny_holding->AAr,mem_of_lookup->ABG,wpAny_field->ABS,sizeLine_eq->ABa,wpAny_mono->ABc,wpAny_seqItems->ABj,wpAny_Call_Name_kw->ABm,wpAny_typeNameOfWhole_keyiter->ABq,wpAny_typeNameOfWhole_valiter->ABr,wpAny_truthy_bool->ABv,wpAny_setField_rec->ACE,wpAny_fieldsOf->ACH,wpAny_dictEntries->ACR,wpAny_typeNameOf_keyiter->ACS,wpAny_typeNameOf_valiter->ACT,wpAny_rule->ACc,wpAny_loadPart'->ACi,wpAny_notOrdered_dict->ACj,wpAny_dictEpoch->ACl,wpAny_attempt->ACp,wpAny_setField->ACy,Value->AD2,wpAny_typeOf->AD4,wpAny_passesOwn->AD7,wpAny_Call_method0_late->AD9,wpAny_newList->ADC,wpAny_pyIter_list->ADO,eqIsQuiet_byValue->ADS,atKey_none_of_get->ADT,wpAny_isOneOf_valiter->ADa,wpAny_isInstance->ADd,evalArgs_none->ADn,wpAny_specialOf->ADo,codeAny_builtin->ADw,codeAny_mono->AE5
open PySem.Str renaming ofString->AA1,join->AE8
open PySem.W renaming Frag->AA2,findIn->AAw,nsIn->ABC,emptyDict->ABU,keepIn->ABY,fnOf->ABd,kas_desc->ABn,instObj->ABx,plainGet->AC6,hasDictIn->ACK,plainOver->ACn,kas_rev->ACr,codeIn->ACu,kas_place->ACw,kas_asc->ADP,kas_sort->ADV,kas_descPart->ADX,plainGet_of->ADl,isFn->AE3,callWith_K->AE6,lookIn->AE9,kitOne->AEA,methodObj->AED,mg_of->AEF
open List renaming getElem?_eq_some_iff->AA3,length_map->AA4,getElem?_eq_getElem->AA5,mem_cons_of_mem->AA8,length_append->AA9,size_toArray->AAB,length_cons->AAD,mem_cons->AAF,mem_cons_self->AAG,map_cons->AAH,mem_map->AAI,getElem?_append_left->AAJ,getD_eq_getElem?_getD->AAK,mem_append->AAL,all_eq_true->AAO,mem_singleton->AAP,mem_append_right->AAR,length_nil->AAS,getElem?_map->AAU,mem_filter->AAX,nil_append->AAY,length_set->AAa,length_singleton->AAb,map_map->AAd,length_take->AAe,getElem_mem->AAf,range->AAg,map_append->AAh,getElem?_append_right->AAi,cons_lt_cons_iff->AAn,getElem?_set_ne->AAq,append_assoc->AAs,find?_cons->AAu,prefix_append->AAx,mem_of_getElem?->AB1,not_mem_nil->AB2,all_cons->AB6,getElem?_cons_zero->AB7,append_nil->AB8,nodup_cons->AB9,take_add_one->ABA,pairwise_map->ABB,getElem?_set_self->ABD,getElem?_take_of_lt->ABE,mem_map_of_mem->ABI,mem_range->ABK,lookup_cons->ABL,getElem?_cons_succ->ABM,zip_cons_cons->ABN,take_length->ABQ,mem_append_left->ABb,length_drop->ABe,toArray->ABf,take_of_length_le->ABh,any_eq_true->ABo,cons_append->ABp,map_congr_left->AC1,replicate_zero->AC2,getElem_map->AC8,map_nil->ACA,getElem?_eq_none->ACB,mem_of_find?_eq_some->ACI,getElem?_of_mem->ACJ,lookup->ACU,length->ACV,getElem?_replicate->ACW,any_cons->ACX,pairwise_singleton->ACa,eq_nil_of_length_eq_zero->ACb,pairwise_cons->ACg,length_replicate->ACh,length_filter_le->ACm,lt_irrefl->ACx,filter_append->ADH,drop_eq_nil_of_le->ADK,filter_eq_nil_iff->ADL,take_sublist->ADM,ext_getElem?->ADQ,map_id->ADR,replicate->ADU,getElem?_toArray->ADW,filter_cons->ADf,mem_of_mem_take->ADg,filterMap_cons->ADk,of_mem_zip->ADm,forIn_cons->ADq,prefix_rfl->ADr,getElem_of_mem->ADu,length_zip->ADv,find?_some->ADy,all_map->AE7,nodup_nil->AEB,map->AEJ
open PySem.Heap renaming get?_push_of_some->AA6,get?_push_size->AAE,lt_size->AAM,get?_update_self->ABH,size_push->ABZ,get?_update_ne->ABi,SameBut->ABt
open Nat renaming le_refl->AAC,ne_of_lt->AAQ,lt_of_lt_of_le->AAT,zero_le->AAV,lt_irrefl->AAk,le_trans->AAp,sub_self->ABu,lt_succ_self->AC7,le_of_ble_eq_true->ACC,lt_succ_of_lt->ACO,min_eq_left->ADE,le_add_right->ADc,le_of_lt->AE2
open Bool renaming and_eq_true->AAN,false_eq_true->AAZ,false_ne_true->AAc,true_and->ABR,eq_false_iff->ABW,eq_iff_iff->AC0,false_and->ACt,and_true->ADi
open Option.some renaming inj->AAW
open Array renaming getElem?_eq_getElem->AAm,getD_eq_getD_getElem?->AAv,getElem?_toList->ABk,length_toList->ABy,getElem?_eq_none->AC4,forIn_toList->ADF
open Ne renaming symm->AAt
open List.Pairwise renaming and_mem->AAy,nil->ADN
open PySem.Builtin.SmallTypes renaming nextOf->AAz,ownedTupleIsFree->ABT,ownedTupleHandOut->ACz
open PySem.Heap.SameBut renaming update->AB0
open PySem.Value renaming ref->AB3,none->ABO,bool->ADj,type->AEC
open PyProof.Rows renaming slot_tuple_getitem->AB4,callWith_type1->ABz,get?_update_seq->ACQ,listUpdate_at->ACo,listItems_at->ADY
open PySem.NameKind renaming free->AB5,cell->ACY
open PySem.Obj renaming mapSeq->ABF,data_mapFields->ACD,data_mapDictKeys->ACs,isFreed_of_dict->AD1,isFreed_of_fields->ADZ,data_mapDict->ADe,mapFields->ADh
open PySem.Builtin.Str renaming strSliceIndices->ABJ,occurrences->ACZ
open PySem.Txt renaming slice->ABP,join->AEI
open PySem.Builtin.Tuple renaming tupleExact->ABV,tupleHashOf->ACG,tupleItemsOf->ACq
open PySem.Builtin.Dict_items renaming ownsTuple->ABX
open Option renaming map_eq_some_iff->ABg,join_some->AC9,isSome_iff_exists->ACM,isSome_map->ACN
open PySem.F renaming slot_list_getattribute->ABl,args_tuple_add_2->AD3,slot_dict_values->AD6,entry_tuple_add->AD8,plainAttrs_dict->ADG,slot_tuple_add->ADJ
open Sum renaming inr->ABs
open Int renaming toNat_natCast->ABw,emod_lt_of_pos->ADI,toNat_of_nonneg->ADs,emod_nonneg->ADz,toNat->AEE
open PySem.Calls renaming callWith_builtin->AC3,spliced_cons->AE4
open False renaming elim->AC5
open PySem.Builtin.Slice renaming slicePlaces->ACF,sliceAdjust->ACv,sliceApplied->AE0
open True renaming intro->ACL
open PySem.SeqAt renaming EqAt->ACP
open PySem.SeqAt.EqAt renaming int_str->ACd,str_int->ACe,int_int->ACf,str_str->ADA,same->ADt
open PySem.Builtin.Dict renaming showsAll->ACk
open PySem.SetTable renaming Probe->AD0,leap->ADD,bits->AEH
open PySem.Builtin.List renaming listTooLong->AD5,listExtendWith->ADx,listFitsIndex->AE1
open List.cons renaming injEq->ADB,inj->AEG
open PySem.StrLaws renaming glued_eq_join->ADb
open ForInStep renaming yield->ADp
set_option autoImplicit true
set_option relaxedAutoImplicit true
set_option compiler.extract_closed false
set_option Elab.async false
set_option linter.all false
set_option maxRecDepth 100000
-- CHANGE: your row's module here,as the last of these rows
theorem dF_{p:Prop}[Decidable p](h:¬p):decide p=false:=decide_eq_false h
theorem dT_{p:Prop}[Decidable p](h:p):decide p=true:=decide_eq_true h
theorem oT_{p:Prop}[Decidable p](h:decide p=true):p:=of_decide_eq_true h
namespace L2
open PySem PySem.Spec PyProof.Rows
noncomputable abbrev Key:=Sum Int Str
noncomputable def sO:Key->Value->Bool
 | .inl k,v=>Value.isInt k v
 | .inr x,v=>Value.isStrOf x v
noncomputable def keyH(w:World):Key->Int
 | .inl k=>hashInt k
 | .inr x=>hashStr w x
theorem aY:∀{k:Key}{v:Value},sO k v=true->(∃i t,k=Sum.inl i/\v=Value.int i t)\/(∃x t,k=ABs x/\v=Value.str x t)
 | .inl i,v,h=>by
  obtain⟨t,e⟩:=Value.isInt_shape (k:=i) (v:=v) h
  exact .inl ⟨i,t,rfl,e⟩
 | .inr x,v,h=>by
  obtain⟨t,e⟩:=Value.isStrOf_shape (x:=x) (v:=v) h
  exact .inr ⟨x,t,rfl,e⟩
theorem zm(i:Int)(t:Tok):sO (.inl i) (.int i t)=true:=by simp[sO,Value.isInt]
theorem zk(x:Str)(t:Tok):sO (.inr x) (.str x t)=true:=by simp[sO,Value.isStrOf]
theorem Ji(a b:Int):decide ((Sum.inl a:Key)=Sum.inl b)=(a==b):=by
 by_cases e:a=b
 ·subst e;simp
 ·have h:¬(Sum.inl a:Key)=Sum.inl b:=λq=>e (Sum.inl.inj q)
  rw[dF_ h]
  exact(beq_eq_false_iff_ne.mpr e).symm
theorem Dk(a b:Str):decide ((ABs a:Key)=ABs b)=decide (a=b):=by
 by_cases e:a=b
 ·subst e;simp
 ·have h:¬(ABs a:Key)=ABs b:=λq=>e (Sum.inr.inj q)
  rw[dF_ h,dF_ e]
theorem Jh(a:Int)(b:Str):decide ((Sum.inl a:Key)=ABs b)=false:=dF_ (λq=>nomatch q)
theorem Jg(a:Str)(b:Int):decide ((ABs a:Key)=Sum.inl b)=false:=dF_ (λq=>nomatch q)
noncomputable def bw(prog:Program)(w:World):PySem.KeyKind prog w Key where
 is:=sO
 hash:=keyH w
 inj:=λv a b ha hb=>by
  rcases aY ha with⟨i,t,rfl,rfl⟩|⟨x,t,rfl,rfl⟩
  ·rcases aY hb with⟨j,u,rfl,e⟩|⟨y,u,rfl,e⟩
   ·injection e with e1 _;rw[e1]
   ·exact nomatch e
  ·rcases aY hb with⟨j,u,rfl,e⟩|⟨y,u,rfl,e⟩
   ·exact nomatch e
   ·injection e with e1 _;rw[e1]
 byValue:=λk v h=>by
  rcases aY h with⟨i,t,rfl,rfl⟩|⟨x,t,rfl,rfl⟩<;>rfl
 pyHash:=λhv h=>by
  rcases aY hv with⟨i,t,rfl,rfl⟩|⟨x,t,rfl,rfl⟩
  ·exact wpAny_pyHash_int h
  ·exact wpAny_pyHash_str h
 eqBool:=λhu hv h=>by
  rcases aY hu with⟨i,t,rfl,rfl⟩|⟨x,t,rfl,rfl⟩
  ·rcases aY hv with⟨j,u,rfl,rfl⟩|⟨y,u,rfl,rfl⟩
   ·rw[Ji]at h;exact wpAny_eqBool_int h
   ·rw[Jh]at h;exact ACd i t y u _ _ _ _ h
  ·rcases aY hv with⟨j,u,rfl,rfl⟩|⟨y,u,rfl,rfl⟩
   ·rw[Jg]at h;exact ACe x t j u _ _ _ _ h
   ·rw[Dk]at h;exact wpAny_eqBool_str h
 «strs»:=λk x t v h=>by
  rcases aY h with⟨i,u,rfl,e⟩|⟨y,u,rfl,e⟩
  ·exact nomatch e
  ·injection e with e1 _
   subst e1
   cases v<;>rfl
theorem sv(prog:Program)(w:World)(i:Int)(t:Tok):(bw prog w).is (.inl i) (.int i t)=true:=zm i t
theorem su(prog:Program)(w:World)(x:Str)(t:Tok):(bw prog w).is (.inr x) (.str x t)=true:=zk x t
inductive V where
 | non | bl (b:Bool) | int (i:Int) | str (x:Str) | byt (b:Array UInt8) | flt (b:UInt64) | ref (a:Addr) | ty (n:String)
 deriving DecidableEq
def aU:V->Value->Prop
 | .non,u=>u=ABO
 | .bl b,u=>u=ADj b
 | .int i,u=>∃t,u=Value.int i t
 | .str x,u=>∃t,u=Value.str x t
 | .byt b,u=>∃t,u=Value.bytes b t
 | .flt b,u=>∃t,u=Value.float b t
 | .ref a,u=>u=AB3 a
 | .ty n,u=>u=AEC n
abbrev az:List V->List Value->Prop:=Paired aU
theorem az.length(r:az xs us):xs.length=us.length:=Paired.length r
theorem az.get:∀{xs:List V}{us:List Value}{i:Nat}{x:V},az xs us->xs[i]?=some x->∃u,us[i]?=some u/\aU x u
 | _,_,_,_,.nil,e=>by simp at e
 | _,_,0,_,.cons r _,e=>by simp at e;subst e;exact⟨_,rfl,r⟩
 | _,_,i+1,x,.cons _ t,e=>by
  obtain⟨u,h1,h2⟩:=az.get (i:=i) (x:=x) t (by simpa using e)
  exact⟨u,by simpa using h1,h2⟩
theorem az.set(r:aU x u):∀{xs:List V}{us:List Value} (i:Nat),az xs us->az (xs.set i x) (us.set i u)
 | _,_,_,.nil=>.nil
 | _,_,0,.cons _ t=>.cons r t
 | _,_,i+1,.cons q t=>.cons q (az.set r i t)
theorem az.append(h:az xs us)(s:az ys ws):az (xs++ys) (us++ws):=by
 induction h with
 | nil=>exact s
 | cons r t ih=>exact .cons r ih
theorem az.take:∀{xs:List V}{us:List Value} (n:Nat),az xs us->az (xs.take n) (us.take n)
 | _,_,0,_=>.nil
 | _,_,_+1,.nil=>.nil
 | _,_,n+1,.cons r t=>.cons r (az.take n t)
theorem az.drop:∀{xs:List V}{us:List Value} (n:Nat),az xs us->az (xs.drop n) (us.drop n)
 | _,_,0,r=>r
 | _,_,_+1,.nil=>.nil
 | _,_,n+1,.cons _ t=>az.drop n t
def wG:Option V->Option Value->Prop
 | some v,some u=>aU v u
 | none,none=>True
 | _,_=>False
def KV{κ:Type}:List (κ×V)->List (κ×Value)->Prop:=Paired λ(p:κ×V) (q:κ×Value)=>p.1=q.1/\aU p.2 q.2
noncomputable def kV:Key->V
 | .inl i=>.int i
 | .inr x=>.str x
inductive HO where
 | lst (xs:List V)
 | tup (xs:List V)
 | dK (kvs:List (Key×V)) | dT (kvs:List (List Key×V))
 | set (S:Int->Bool) (n:Nat)
 | ins (C dx:Addr) (fs:List (Str×V))
 | own (x:Addr)
 | xd (fs:List (Str×V))
 | met (f x:Addr)
 | rng (lo hi:Int)
 | frz (o:Obj) (u:HO)
 | tbl (ps:Array Value)
 | ext (φ:Program->World->Heap->Prop)
abbrev Hp:=Addr->Option HO
noncomputable def upd(H:Hp)(a:Addr)(o:HO):Hp:=λb=>if b=a then some o else H b
theorem aL:upd H a o a=some o:=by unfold upd;rw[if_pos rfl]
theorem av(h:b≠a):upd H a o b=H b:=by unfold upd;rw[if_neg h]
theorem ne_of{H:Hp}{a b:Addr}{o u:HO}(h:H a=some o)(h':H b=some u)(d:o≠u):a≠b:=by
 intro e;subst e;rw[h]at h';exact d (AAW h')
theorem ad{H:Hp}{a b:Addr}{o:HO}(h:H a=some o)(h':H b=none):a≠b:=by
 intro e;subst e;rw[h]at h';cases h'
section
variable(P:Program)(w:World)
def CH(h:Heap)(a:Addr)(items:Array Value):Prop:=∃o,h.get? a=some o/\o.cls=.type "tuple"/\(∃n,o.data=.seq items n)/\o.dict=none
theorem CH.tup:CH h a items->IsTup h a items:=λ⟨o,e,c,⟨n,d⟩,_⟩=>⟨o,e,c,n,d⟩
theorem CH.new(h:Heap)(items:Array Value):CH (h.push { cls:=.type "tuple",data:=.seq items }) h.objs.size items:=⟨_,AAE _ rfl,rfl,⟨_,rfl⟩,rfl⟩
def bP(H:Hp)(h:Heap)(a:Addr):HO->Prop
 | .lst xs=>xs.length<=sizeLine/\∃(its:List Value) (n:Nat),az xs its/\h.get? a=some { cls:=.type "list",data:=.seq its.toArray n }
 | .tup xs=>xs.length<=sizeLine/\∃its:List Value,az xs its/\CH h a its.toArray
 | .dK kvs=>kvs.length<=sizeLine/\(a==sysModules)=false/\∃vs,KV kvs vs/\h.DictOf (bw P w) a vs
 | .dT kvs=>kvs.length<=sizeLine/\(a==sysModules)=false/\∃xs:List (List Key×Addr×Value),
   Paired (λ(p:List Key×V) (q:List Key×Addr×Value)=>p.1=q.1/\H q.2.1=some (.tup (p.1.map kV))/\aU p.2 q.2.2) kvs xs /\
   ∃o es ep,h.get? a=some o/\o.ExactDict/\o.data=.dict es ep/\es.toList=xs.map (entryOfKey (tupleKind (bw P w)))/\(xs.map (·.1)).Nodup
 | .set S n=>h.SetOf (intKind P w) a S n
 | .ins C dx fs=>H dx=some (.own a)/\fs.length<=1000/\dx≠a/\h.get? a=some (ABx C dx) /\
   ∃mA,h.Ns1 dx mA/\(∀f,wG (fs.lookup f) (mA f))/\PySem.Within mA (fs.map (·.1))
 | .own _=>∃o,h.get? a=some o
 | .xd fs=>∃mA,h.Ns1 a mA/\∀f,wG (fs.lookup f) (mA f)
 | .rng lo hi=>∃t u v,h.get? a=some { cls:=.type "range",data:=.fields #[.int lo t,.int hi u,.int 1 v] }
 | .frz o u=>h.get? a=some o/\bP H h a u
 | .tbl ps=>h.get? a=some { cls:=.none,data:=.fields ps }
 | .met f x=>h.get? a=some (AED (.ref f) (.ref x))
 | .ext φ=>φ P w h/\(∃o,h.get? a=some o)/\∀h1 h2:Heap,φ P w h1->(∀o,h1.get? a=some o->h2.get? a=some o)->φ P w h2
def HOk(H:Hp)(h:Heap):Prop:=∀a o,H a=some o->bP P w H h a o
end
theorem bP.lt(x:bP P w H h a o):a<h.objs.size:=by
 cases o with
 | lst xs=>obtain⟨_,_,_,_,e⟩:=x;exact AAM e
 | tup xs=>obtain⟨_,_,_,p⟩:=x;exact p.tup.lt
 | dK kvs=>obtain⟨_,_,_,_,o,_,_,e,_⟩:=x;exact AAM e
 | dT kvs=>obtain⟨_,_,_,_,o,_,_,e,_⟩:=x;exact AAM e
 | set S n=>obtain⟨o,_,_,_,e,_⟩:=x;exact AAM e
 | ins C dx fs=>obtain⟨_,_,_,e,_⟩:=x;exact AAM e
 | own y=>obtain⟨_,e⟩:=x;exact AAM e
 | xd fs=>obtain⟨_,⟨_,_,_,e,_⟩,_⟩:=x;exact AAM e
 | rng lo hi=>obtain⟨_,_,_,e⟩:=x;exact AAM e
 | frz ob u=>obtain⟨e,_⟩:=x;exact AAM e
 | tbl ps=>exact AAM (show h.get? a=some _ from x)
 | met f y=>exact AAM (show h.get? a=some _ from x)
 | ext φ=>obtain⟨_,⟨_,e⟩,_⟩:=x;exact AAM e
theorem Paired.mapP{α β:Type}{F G:α->β->Prop}:∀{l₁:List α}{l₂:List β},Paired F l₁ l₂->(∀a b,F a b->G a b)->Paired G l₁ l₂
 | _,_,.nil,_=>.nil
 | _,_,.cons r t,f=>.cons (f _ _ r) (Paired.mapP t f)
theorem bP.stay(x:bP P w H h a o)(k:∀b u,(b=a\/H b=some (.own a))->h.get? b=some u->h'.get? b=some u)
  (ho:∀b,H b=some (.own a)->H' b=some (.own a)) (ht:∀b xs,H b=some (.tup xs)->H' b=some (.tup xs)):bP P w H' h' a o:=by
 induction o with
 | lst xs=>obtain⟨z,its,n,r,e⟩:=x;exact⟨z,its,n,r,k _ _ (.inl rfl) e⟩
 | tup xs=>obtain⟨z,its,r,ob,e,c⟩:=x;exact⟨z,its,r,ob,k _ _ (.inl rfl) e,c⟩
 | dK kvs=>obtain⟨z,y,vs,r,ob,es,ep,e,c⟩:=x;exact⟨z,y,vs,r,ob,es,ep,k _ _ (.inl rfl) e,c⟩
 | dT kvs =>
  obtain⟨z,y,xs,r,ob,es,ep,e,c⟩:=x
  exact⟨z,y,xs,Paired.mapP r λp q z=>⟨z.1,ht _ _ z.2.1,z.2.2⟩,ob,es,ep,k _ _ (.inl rfl) e,c⟩
 | set S n=>obtain⟨ob,es,ep,t,e,c⟩:=x;exact⟨ob,es,ep,t,k _ _ (.inl rfl) e,c⟩
 | ins C dx fs =>
  obtain⟨d,z,ne,e,mA,⟨od,es,ep,e2,c⟩,r⟩:=x
  exact⟨ho _ d,z,ne,k _ _ (.inl rfl) e,mA,⟨od,es,ep,k _ _ (.inr d) e2,c⟩,r⟩
 | own y=>obtain⟨ob,e⟩:=x;exact⟨ob,k _ _ (.inl rfl) e⟩
 | xd fs=>obtain⟨mA,⟨od,es,ep,e,c⟩,r⟩:=x;exact⟨mA,⟨od,es,ep,k _ _ (.inl rfl) e,c⟩,r⟩
 | rng lo hi=>obtain⟨t,u,v,e⟩:=x;exact⟨t,u,v,k _ _ (.inl rfl) e⟩
 | frz ob u ih=>obtain⟨e,q⟩:=x;exact⟨k _ _ (.inl rfl) e,ih q⟩
 | tbl ps =>
  have e:h.get? a=some { cls:=.none,data:=.fields ps }:=x
  show h'.get? a=some { cls:=.none,data:=.fields ps }
  exact k a _ (.inl rfl) e
 | met f y =>
  have e:h.get? a=some (AED (.ref f) (.ref y)):=x
  show h'.get? a=some (AED (.ref f) (.ref y))
  exact k a _ (.inl rfl) e
 | ext φ=>obtain⟨p,⟨o,e⟩,st⟩:=x;exact⟨st _ _ p λo q=>k _ _ (.inl rfl) q,⟨o,k _ _ (.inl rfl) e⟩,st⟩
theorem HOk.lt(x:HOk P w H h)(e:H a=some o):a<h.objs.size:=(x a o e).lt
theorem HOk.fresh(x:HOk P w H h)(e:h.objs.size<=a):H a=none:=by
 cases q:H a with
 | none=>rfl
 | some u=>exact absurd (AAT (x.lt q) e) (AAk _)
theorem HOk.kept(x:HOk P w H h)(k:∀b u,h.get? b=some u->h'.get? b=some u):HOk P w H h':=λa o e =>
 (x a o e).stay (λb u _ q=>k b u q) (λ_ q=>q) λ_ _ q=>q
theorem HOk.laid(x:HOk P w H h)(k:∀b u,h.get? b=some u->h'.get? b=some u)(hp:h.objs.size<=a)(new:bP P w (upd H a o) h' a o):HOk P w (upd H a o) h':=λb u e=>by
 have hn:=x.fresh hp
 by_cases hb:b=a
 ·subst hb;rw[aL]at e;cases e;exact new
 ·rw[av hb]at e
  exact(x b u e).stay (λc v _ q=>k c v q) (λc q=>by rw[av (ad q hn)];exact q) λc xs q=>by rw[av (ad q hn)];exact q
def Rd(H:Hp)(a:Addr)(u:HO):Prop:=H a=some u\/∃o,H a=some (.frz o u)
theorem Rd.ok(r:Rd H a u)(x:HOk P w H h):bP P w H h a u:=by
 rcases r with r | ⟨o,r⟩
 ·exact x a u r
 ·obtain⟨_,q⟩:=x a _ r
  exact q
def Mut:Option HO->Prop
 | some (.lst _)=>True
 | some (.dK _)=>True
 | some (.dT _)=>True
 | some (.set _ _)=>True
 | some (.ins _ _ _)=>True
 | some (.ext _)=>True
 | _=>False
theorem HOk.write(ok:HOk P w H h)(mu:Mut (H x))(he:e=x\/H e=some (.own x))(k:∀b u,b≠e->h.get? b=some u->h'.get? b=some u)(heo:∃u,h'.get? e=some u)
  (new:bP P w (upd H x o') h' x o'):HOk P w (upd H x o') h':=λb u q=>by
 have nown:∀c y,H c=some (.own y)->c≠x:=λc y r z=>by subst z;rw[r]at mu;exact mu
 have ntup:∀c xs,H c=some (.tup xs)->c≠x:=λc xs r z=>by subst z;rw[r]at mu;exact mu
 by_cases hb:b=x
 ·subst hb;rw[aL]at q;cases q;exact new
 ·rw[av hb]at q
  by_cases hbe:b=e
  ·have q':H b=some (.own x):=by
    rcases he with z | z
    ·exact absurd (hbe.trans z) hb
    ·rw[hbe];exact z
   rw[q]at q';cases q'
   obtain⟨v,hv⟩:=heo
   exact⟨v,by rw[hbe];exact hv⟩
  ·refine(ok b u q).stay (λc v hc r=>k c v ?_ r) (λc r=>by rw[av (nown c b r)];exact r) λc xs r=>by rw[av (ntup c xs r)];exact r
   rcases hc with rfl | hc
   ·exact hbe
   ·rintro rfl
    rcases he with z | z
    ·exact nown c b hc z
    ·rw[hc]at z;cases z;exact hb rfl
structure Un(fs ex:List Addr)(H H':Hp)(h h':Heap):Prop where
 keep:∀b o,h.get? b=some o->H b=none->b∉fs->b∉ex->h'.get? b=some o
 slot:∀b o,h.get? b=some o->H b=none->b∈fs->b∉ex->∃sl,h'.get? b=some { o with slots:=sl }
 free:∀b o,h.get? b=some o->H b=none->b∉ex->H' b=none
 there:∀b o,h.get? b=some o->b∉ex->∃o',h'.get? b=some o'
 tups:∀b xs,H b=some (.tup xs)->H' b=some (.tup xs)
 frzs:∀b o u,H b=some (.frz o u)->H' b=some (.frz o u)
 tbls:∀b ps,H b=some (.tbl ps)->∃more,H' b=some (.tbl (ps++more))
theorem Un.any(u:Un fs ex H H1 h h1)(q:h.get? b=some ob)(n:H b=none)(hx:b∉ex):∃sl,h1.get? b=some { ob with slots:=sl }:=by
 by_cases hb:b∈fs
 ·exact u.slot b ob q n hb hx
 ·exact⟨ob.slots,u.keep b ob q n hb hx⟩
theorem Un.kept(k:∀b u,h.get? b=some u->h'.get? b=some u):Un fs ex H H h h' :=
 ⟨λb ob q _ _ _=>k b ob q,λb ob q _ _ _=>⟨ob.slots,k b ob q⟩,λ_ _ _ n _=>n,λb ob q _=>⟨ob,k b ob q⟩,λ_ _ q=>q,λ_ _ _ q=>q,λ_ ps q=>⟨#[],by rw[q];simp⟩⟩
theorem Un.refl:Un fs ex H H h h:=Un.kept λ_ _ q=>q
theorem Un.laid(k:∀b u,h.get? b=some u->h'.get? b=some u)(hp:h.objs.size<=a)(hn:H a=none):Un fs ex H (upd H a o) h h' where
 keep:=λb u q _ _ _=>k b u q
 slot:=λb u q _ _ _=>⟨u.slots,k b u q⟩
 free:=λb u q n _=>by rw[av (AAQ (AAT (AAM q) hp))];exact n
 there:=λb u q _=>⟨u,k b u q⟩
 tups:=λb xs q=>by rw[av (ad q hn)];exact q
 frzs:=λb u xs q=>by rw[av (ad q hn)];exact q
 tbls:=λb ps q=>⟨#[],by rw[av (ad q hn),q];simp⟩
theorem Un.write(mu:Mut (H x))(he:e=x\/H e=some (.own x))(k:∀b u,b≠e->h.get? b=some u->h'.get? b=some u)(heo:∃u,h'.get? e=some u):Un fs ex H (upd H x o) h h':=by
 have hx:∀b,H b=none->b≠x:=λb n z=>by subst z;rw[n]at mu;exact mu
 have hb:∀b,H b=none->b≠e:=λb n z=>by
  subst z
  rcases he with r | r
  ·exact hx b n r
  ·rw[n]at r;cases r
 have hm:∀b u,H b=some u->¬Mut (some u)->b≠x:=λb u q nm z=>by subst z;rw[q]at mu;exact nm mu
 refine⟨λb u q n _ _=>k b u (hb b n) q,λb u q n _ _=>⟨u.slots,k b u (hb b n) q⟩,λb u q n _=>by rw[av (hx b n)];exact n,λb u q _=>?_,
  λb xs q=>by rw[av (hm b _ q λz=>z)];exact q,λb u xs q=>by rw[av (hm b _ q λz=>z)];exact q,λb ps q=>⟨#[],by rw[av (hm b _ q λz=>z),q];simp⟩⟩
 by_cases hbe:b=e
 ·subst hbe;exact heo
 ·exact⟨u,k b u hbe q⟩
noncomputable def trk(h:Heap)(H:Hp):List Addr:=(AAg h.objs.size).filter λa=>(H a).isSome
noncomputable def BU(h:Heap)(H:Hp):Heap:=PySem.W.hideAll h (trk h H)
theorem zE(h:Heap)(H:Hp):(BU h H).objs.size=h.objs.size:=PySem.W.hideAll_size _ _
theorem BT(e:h.get? b=some o)(n:H b=none):(BU h H).get? b=some o :=
 PySem.W.hideAll_get _ e λhm=>by
  have q:(H b).isSome=true:=(AAX.mp hm).2
  rw[n]at q;simp at q
theorem EL(e:(BU h H).get? b=some o):h.get? b=some o/\H b=none:=by
 have e':h.get? b=some o:=PySem.W.of_hideAll (trk h H) e
 refine⟨e',?_⟩
 cases q:H b with
 | none=>rfl
 | some x =>
  have hm:b∈trk h H:=AAX.mpr ⟨ABK.mpr (AAM e'),by simp[q]⟩
  have z:(BU h H).get? b=none:=PySem.W.hideAll_none (trk h H) hm
  rw[z]at e;cases e
noncomputable def GI(g h:Heap)(L:Addr):List (Addr×Obj):=(AAg h.objs.size).filterMap λa=>if a=L\/(g.get? a).isSome=true then none else(h.get? a).map λo=>(a,o)
noncomputable def bm(g h:Heap)(L d:Addr):List (Addr×Obj):=(GI g h L).filter λp=>decide (p.1≠d)
structure Mod(K:AA2)(mg:Str->Option Value)(base:Heap):Prop where
 kin:K.In base
 glob:base.Ns mainGlobals mg
 blt:∃mb,base.Ns builtinsNs mb/\∀x:Str,x≠"__name__"->mb x=bootBuiltins x
 nolimit:base.NoLimit
/-- the context: a def's body (or a comprehension's block) running. base: fixed through the whole law;s₀,H₀: the entry;outer: the frames whose slots others may change (a def's callers);stack: all frames that run;
  ex: iterators that were made Kz of the entry and are walked here (a comprehension's);fn: the names whose cells were made at the entry (a def: all;a comprehension's block: its own);calm: not GW an except suite;pn: pins that every state bears;xe: what is wanted of an exception that leaves the code -/
structure Cx where
 prog:Program
 w:World
 K:AA2
 mg:Str->Option Value
 base:Heap
 A:Around
 N:List Str
 s₀:Shared
 H₀:Hp
 env:Env
 outer:List Env
 stack:List Env
 ex:List Addr
 fn:Str->Bool
 calm:Bool
 pn:List (Addr×Obj)
 xe:Value->Shared->Prop
noncomputable def frs(l:List Env):List Addr:=l.filterMap (·.frame)
noncomputable abbrev Cx.fs(X:Cx):List Addr:=frs X.outer
def Vis(sc:Scope)(x:Str):Prop:=sc.names.lookup x=some .local\/sc.names.lookup x=some .cell\/sc.names.lookup x=some .free
def Loc(sc:Scope)(x:Str):Prop:=sc.names.lookup x=some .local\/sc.names.lookup x=some .cell
def Look(env:Env)(h:Heap)(m:Str->Option Value)(x:Str)(u:Value):Prop :=
 (env.kindOf x=some .local/\m x=some u)\/((env.kindOf x=some .cell\/env.kindOf x=some .free)/\∃c,env.cells.lookup x=some c/\h.IsCell c (some u))
structure Cx.Ok(X:Cx):Prop where
 mod:Mod X.K X.mg X.base
 kind:X.env.scope.kind=.function
 glob:X.env.globals=mainGlobals
 blt:X.env.builtins=builtinsNs
 above:X.s₀.heap.objs.size<=X.env.locals
 inj:∀x y c,X.env.cells.lookup x=some c->X.env.cells.lookup y=some c->x=y
 has:∀x,(X.env.kindOf x=some .cell\/X.env.kindOf x=some .free)->∃c,X.env.cells.lookup x=some c
 cab:∀x c,X.fn x=true->X.env.cells.lookup x=some c->X.s₀.heap.objs.size<=c
 hd:X.calm=true->X.A.handled=none
 frames:X.A.frames=some X.stack
 stk:X.stack=X.outer\/(X.stack=X.env::X.outer/\X.env.frame=some X.env.locals)
 exf:∀b∈X.ex,b≠X.env.locals/\∀x c,X.env.cells.lookup x=some c->c≠b
 bs:∀b o,X.base.get? b=some o->X.s₀.heap.get? b=some o/\X.H₀ b=none
 bsz:X.base.objs.size<=X.s₀.heap.objs.size
 noex:∀b o,X.base.get? b=some o->b∉X.ex
 exfs:∀b∈X.ex,b∉X.fs
 funs:X.s₀.heap.FunFrames X.base X.outer
 frf:∀b∈X.fs,X.H₀ b=none
structure Inv(X:Cx)(pins:List (Addr×Obj))(σ:List (Option V))(H:Hp)(s:Shared):Prop where
 ok:X.Ok
 os:s.os=X.s₀.os
 bare:AllBare s.gens
 base:Un X.fs X.ex X.H₀ H X.s₀.heap s.heap
 loc:∃m,s.heap.Ns X.env.locals m/\∀(i:Nat) (x:Str) (v:V),X.N[i]?=some x->σ[i]?=some (some v)->Vis X.env.scope x->∃u,aU v u/\Look X.env s.heap m x u
 cell:∀x c,X.env.cells.lookup x=some c->∃v,s.heap.IsCell c v
 free:H X.env.locals=none
 freeC:∀x c,X.env.cells.lookup x=some c->H c=none
 pin:∀p∈X.pn++pins,s.heap.get? p.1=some p.2/\H p.1=none/\p.1≠X.env.locals/\p.1∉X.fs/\∀v,p.2.data≠.cell v
 hok:HOk X.prog X.w H s.heap
 len:σ.length=X.N.length
theorem Cx.Ok.nofr{X:Cx}(ok:X.Ok)(e:X.base.get? b=some o):b∉X.fs:=λhb=>by
 have:=(ok.funs.mem hb).1
 rw[e]at this;cases this
theorem Inv.bs{X:Cx}{pins:List (Addr×Obj)}{σ:List (Option V)}{H:Hp}{s:Shared}(I:Inv X pins σ H s):∀b o,X.base.get? b=some o->s.heap.get? b=some o/\H b=none:=λb o e =>
 ⟨I.base.keep b o (I.ok.bs b o e).1 (I.ok.bs b o e).2 (I.ok.nofr e) (I.ok.noex b o e),I.base.free b o (I.ok.bs b o e).1 (I.ok.bs b o e).2 (I.ok.noex b o e)⟩
theorem Inv.bk(I:Inv X pins σ H s):∀b o,X.base.get? b=some o->s.heap.get? b=some o:=λb o e=>(I.bs b o e).1
theorem Inv.mod(I:Inv X pins σ H s):Mod X.K X.mg X.base:=I.ok.mod
theorem Inv.kIn(I:Inv X pins σ H s):X.K.In s.heap:=I.ok.mod.kin.keeps I.bk
theorem Inv.lt(I:Inv X pins σ H s):X.env.locals<s.heap.objs.size:=let ⟨_,hn,_⟩:=I.loc;hn.lt
theorem Inv.sz(I:Inv X pins σ H s):X.s₀.heap.objs.size<=s.heap.objs.size:=AAp I.ok.above (AE2 I.lt)
theorem Inv.nofs(I:Inv X pins σ H s)(h:s.heap.objs.size<=a):a∉X.fs:=λhb=>by
 obtain⟨_,o,ho,_⟩:=I.ok.funs.mem hb
 exact absurd (AAT (AAM ho) (AAp I.sz h)) (AAk _)
theorem Inv.cne(I:Inv X pins σ H s):∀x c,X.env.cells.lookup x=some c->c≠X.env.locals:=λx c e z=>by
 obtain⟨v,o,ho,hd⟩:=I.cell x c e
 obtain⟨m,⟨o',es,ep,ho',hd',_⟩,_⟩:=I.loc
 rw[z,ho']at ho;cases ho;rw[hd']at hd;cases hd
theorem Inv.funs(I:Inv X pins σ H s):s.heap.FunFrames X.base X.outer:=by
 have all:∀(l:List Env),(∀b∈frs l,b∈X.fs)->X.s₀.heap.FunFrames X.base l->s.heap.FunFrames X.base l:=by
  intro l
  induction l with
  | nil=>intro _ _;trivial
  | cons env r ih =>
   intro hs hl
   obtain⟨hk,⟨L,o,hf,hn,ho,hd⟩,hr⟩:=hl
   have hL:L∈X.fs:=hs L (by unfold frs;rw[ADk,hf];exact AAG)
   obtain⟨sl,e⟩:=I.base.slot L o ho (I.ok.frf L hL) hL λz=>I.ok.exfs L z hL
   exact⟨hk,⟨L,_,hf,hn,e,hd⟩,ih (λb hb=>hs b (by unfold frs;rw[ADk,hf];exact AA8 _ hb)) hr⟩
 exact all X.outer (λ_ hb=>hb) I.ok.funs
theorem Inv.stack(I:Inv X pins σ H s):s.heap.FunFrames X.base X.stack:=by
 rcases I.ok.stk with e | ⟨e,hf⟩
 ·rw[e];exact I.funs
 ·rw[e]
  obtain⟨m,hn,_⟩:=I.loc
  refine .cons (by rw[I.ok.kind];decide) hf hn ?_ I.funs
  exact Heap.get?_none_of_le (AAp I.ok.bsz I.ok.above)
theorem Inv.stkSub(I:Inv X pins σ H s):∀b∈frs X.stack,b∈X.env.locals::X.fs:=λb hb=>by
 rcases I.ok.stk with e | ⟨e,hf⟩
 ·rw[e]at hb;exact AA8 _ hb
 ·rw[e]at hb
  unfold frs at hb
  rw[ADk,hf]at hb
  exact hb
theorem Inv.stkFree(I:Inv X pins σ H s):∀b∈frs X.stack,H b=none:=λb hb=>by
 rcases AAF.mp (I.stkSub b hb)with e | hb
 ·rw[e];exact I.free
 ·obtain⟨_,o,ho,_⟩:=I.ok.funs.mem hb
  exact I.base.free b o ho (I.ok.frf b hb) λz=>I.ok.exfs b z hb
theorem Inv.step{g':Array GenState}{t':Nat}{d':Drawn}{ch:List Addr}(I:Inv X pins σ H s)
  (hch:∀b∈ch,(b∈X.ex\/X.s₀.heap.objs.size<=b)/\b≠X.env.locals/\(∀x c,X.env.cells.lookup x=some c->c≠b)/\∀p∈X.pn++pins,p.1≠b)
  (keep:∀b o,b≠X.env.locals->b∉X.fs->b∉ch->s.heap.get? b=some o->H b=none->h'.get? b=some o)
  (slot:∀b o,b≠X.env.locals->b∈X.fs->b∉ch->s.heap.get? b=some o->H b=none->∃sl,h'.get? b=some { o with slots:=sl }) (free:∀b o,b∉ch->s.heap.get? b=some o->H b=none->H' b=none)
  (there:∀b o,b∉ch->s.heap.get? b=some o->∃o',h'.get? b=some o')
  (tups:∀b xs,H b=some (.tup xs)->H' b=some (.tup xs)) (frzs:∀b o u,H b=some (.frz o u)->H' b=some (.frz o u)) (tbls:∀b ps,H b=some (.tbl ps)->∃more,H' b=some (.tbl (ps++more)))
  (ns:∀m,s.heap.Ns X.env.locals m->h'.Ns X.env.locals m) (hok:HOk X.prog X.w H' h') (hg:AllBare g') :
  Inv X pins σ H' { s with heap:=h',gens:=g',drawn:=d',toks:=t' }:=by
 have neL:∀b o,X.s₀.heap.get? b=some o->b≠X.env.locals:=λb o e=>AAQ (AAT (AAM e) I.ok.above)
 have neC:∀b o,X.s₀.heap.get? b=some o->b∉X.ex->b∉ch:=λb o e hx hb=>by
  rcases(hch b hb).1 with z | z
  ·exact hx z
  ·exact absurd (AAT (AAM e) z) (AAk _)
 have cellK:∀x c,X.env.cells.lookup x=some c->∀v,s.heap.IsCell c v->h'.IsCell c v:=λx c e v ⟨o,ho,hd⟩=>by
  have nch:c∉ch:=λz=>(hch c z).2.2.1 x c e rfl
  by_cases hc:c∈X.fs
  ·obtain⟨sl,q⟩:=slot c o (I.cne x c e) hc nch ho (I.freeC x c e)
   exact⟨_,q,hd⟩
  ·exact⟨o,keep c o (I.cne x c e) hc nch ho (I.freeC x c e),hd⟩
 refine⟨I.ok,I.os,hg,⟨λb o e n hb hx=>?_,λb o e n hb hx=>?_,λb o e n hx=>?_,λb o e hx=>?_,λb xs e=>tups b xs (I.base.tups b xs e),λb o xs e=>frzs b o xs (I.base.frzs b o xs e),λb ps e=>?_⟩,?_,λx c e=>?_,?_,λx c e=>?_,λp hp=>?_,hok,I.len⟩
 ·exact keep b o (neL b o e) hb (neC b o e hx) (I.base.keep b o e n hb hx) (I.base.free b o e n hx)
 ·obtain⟨sl,e1⟩:=I.base.slot b o e n hb hx
  obtain⟨sl',e2⟩:=slot b _ (neL b o e) hb (neC b o e hx) e1 (I.base.free b o e n hx)
  exact⟨sl',e2⟩
 ·obtain⟨o',e1⟩:=I.base.there b o e hx
  exact free b o' (neC b o e hx) e1 (I.base.free b o e n hx)
 ·obtain⟨o',e1⟩:=I.base.there b o e hx
  exact there b o' (neC b o e hx) e1
 ·obtain⟨m1,e1⟩:=I.base.tbls b ps e
  obtain⟨m2,e2⟩:=tbls b _ e1
  exact⟨m1++m2,by rw[e2,Array.append_assoc]⟩
 ·obtain⟨m,hn,hl⟩:=I.loc
  refine⟨m,ns m hn,λi x v e1 e2 e3=>?_⟩
  obtain⟨u,r,l⟩:=hl i x v e1 e2 e3
  refine⟨u,r,?_⟩
  rcases l with l | ⟨k,c,e,z⟩
  ·exact .inl l
  ·exact .inr ⟨k,c,e,cellK x c e _ z⟩
 ·obtain⟨v,z⟩:=I.cell x c e
  exact⟨v,cellK x c e v z⟩
 ·obtain⟨m,⟨o,_,_,ho,_⟩,_⟩:=I.loc
  exact free _ o (λz=>(hch _ z).2.1 rfl) ho I.free
 ·obtain⟨v,o,ho,hd⟩:=I.cell x c e
  exact free c o (λz=>(hch c z).2.2.1 x c e rfl) ho (I.freeC x c e)
 ·obtain⟨e,n,ne,nf,d⟩:=I.pin p hp
  have nch:p.1∉ch:=λz=>(hch p.1 z).2.2.2 p hp rfl
  exact⟨keep p.1 p.2 ne nf nch e n,free p.1 p.2 nch e n,ne,nf,d⟩
theorem Inv.un{t':Nat}(I:Inv X pins σ H s)(u:Un X.fs [] H H' s.heap h')(hok:HOk X.prog X.w H' h'):Inv X pins σ H' { s with heap:=h',toks:=t' }:=by
 obtain⟨m,⟨o,es,ep,ho,r⟩,_⟩:=id I.loc
 obtain⟨sl,hL⟩:=u.any ho I.free (by simp)
 exact I.step (g':=s.gens) (d':=s.drawn) (ch:=[]) (λ_ z=>nomatch z) (λb o _ hb _ e n=>u.keep b o e n hb (by simp)) (λb o _ hb _ e n=>u.slot b o e n hb (by simp)) (λb o _ e n=>u.free b o e n (by simp)) (λb o _ e=>u.there b o e (by simp)) u.tups u.frzs u.tbls (λm' hm=>by
  obtain⟨o',es',ep',ho',r'⟩:=hm
  rw[ho]at ho';cases ho'
  exact⟨_,es',ep',hL,r'⟩) hok I.bare
theorem Inv.call{g':Array GenState}{t':Nat}{d':Drawn}{ch:List Addr}(I:Inv X pins σ H s)(u:Un (frs X.stack) ch H H' s.heap h')(hok:HOk X.prog X.w H' h')(hg:AllBare g')
  (hch:∀b∈ch,(b∈X.ex\/X.s₀.heap.objs.size<=b)/\b≠X.env.locals/\(∀x c,X.env.cells.lookup x=some c->c≠b)/\∀p∈X.pn++pins,p.1≠b) :
  Inv X pins σ H' { s with heap:=h',gens:=g',drawn:=d',toks:=t' }:=by
 obtain⟨m,⟨o,es,ep,ho,r⟩,_⟩:=id I.loc
 obtain⟨sl,hL⟩:=u.any ho I.free λz=>(hch _ z).2.1 rfl
 exact I.step (ch:=ch) hch (λb o hL hb hc e n=>u.keep b o e n (λz=>(AAF.mp (I.stkSub b z)).elim hL hb) hc) (λb o _ _ hc e n=>u.any e n hc) (λb o hc e n=>u.free b o e n hc) (λb o hc e=>u.there b o e hc) u.tups u.frzs u.tbls (λm' hm=>by
  obtain⟨o',es',ep',ho',r'⟩:=hm
  rw[ho]at ho';cases ho'
  exact⟨_,es',ep',hL,r'⟩) hok hg
theorem Inv.turned{t':Nat}{it:Addr}(I:Inv X pins σ H s)(k:∀b o,b≠it->s.heap.get? b=some o->h'.get? b=some o)(hn:H it=none)(hL:it≠X.env.locals)
  (h1:it∈X.ex\/X.s₀.heap.objs.size<=it) (h2:∀x c,X.env.cells.lookup x=some c->c≠it) (h3:∀p∈X.pn++pins,p.1≠it):Inv X pins σ H { s with heap:=h',toks:=t' }:=by
 have nit:∀b u,H b=some u->b≠it:=λb u e z=>by rw[z,hn]at e;cases e
 refine I.step (g':=s.gens) (d':=s.drawn) (ch:=[it]) (λb hb=>?_) (λb o _ _ hc e _=>k b o (λz=>hc (by simp[z])) e) (λb o _ _ hc e _=>⟨o.slots,k b o (λz=>hc (by simp[z])) e⟩) (λ_ _ _ _ n=>n)
  (λb o hc e=>⟨o,k b o (λz=>hc (by simp[z])) e⟩) (λ_ _ e=>e) (λ_ _ _ e=>e) (λb ps e=>⟨#[],by rw[e];simp⟩) (λm hm=>?_) (λb u e=>?_) I.bare
 ·have e:b=it:=by simpa using hb
  subst e
  exact⟨h1,hL,h2,h3⟩
 ·obtain⟨o,es,ep,ho,r⟩:=hm
  exact⟨o,es,ep,k _ o (AAt hL) ho,r⟩
 ·refine(I.hok b u e).stay (λc v hc q=>k c v ?_ q) (λ_ q=>q) λ_ _ q=>q
  rcases hc with z | z
  ·rw[z];exact nit b u e
  ·exact nit c _ z
theorem Inv.tok(I:Inv X pins σ H s)(t:Nat):Inv X pins σ H { s with toks:=t }:=I.un (h':=s.heap) (t':=t) Un.refl I.hok
theorem Inv.kept(I:Inv X pins σ H s)(k:∀b u,s.heap.get? b=some u->h'.get? b=some u):Inv X pins σ H { s with heap:=h',toks:=t' }:=I.un (Un.kept k) (I.hok.kept k)
theorem Inv.laid(I:Inv X pins σ H s)(k:∀b u,s.heap.get? b=some u->h'.get? b=some u)(hp:s.heap.objs.size<=a)(new:bP X.prog X.w (upd H a o) h' a o) :
  Inv X pins σ (upd H a o) { s with heap:=h',toks:=t' }:=I.un (Un.laid k hp (I.hok.fresh hp)) (I.hok.laid k hp new)
theorem Inv.write(I:Inv X pins σ H s)(mu:Mut (H x))(he:e=x\/H e=some (.own x))(k:∀b u,b≠e->s.heap.get? b=some u->h'.get? b=some u)(heo:∃u,h'.get? e=some u)
  (new:bP X.prog X.w (upd H x o) h' x o):Inv X pins σ (upd H x o) { s with heap:=h',toks:=t' }:=I.un (Un.write mu he k heo) (I.hok.write mu he k heo new)
theorem Inv.pins_of(I:Inv X pins σ H s)(h:∀p∈pins',s.heap.get? p.1=some p.2/\H p.1=none/\p.1≠X.env.locals/\p.1∉X.fs/\∀v,p.2.data≠.cell v):Inv X pins' σ H s :=
 ⟨I.ok,I.os,I.bare,I.base,I.loc,I.cell,I.free,I.freeC,λp hp=>(AAL.mp hp).elim (λz=>I.pin p (ABb _ z)) (h p),I.hok,I.len⟩
theorem uD{N:List Str}(hN:N.Nodup){i j:Nat}{x:Str}(a:N[i]?=some x)(b:N[j]?=some x):i=j:=by
 obtain⟨h1,e1⟩:=AA3.mp a
 obtain⟨h2,e2⟩:=AA3.mp b
 exact(List.getElem_inj hN).mp (e1.trans e2.symm)
theorem xK{M:Model}{A:Around}{E:Value->Shared->Prop}{i:Nat}{x:Str}{v:V}{u:Value}{Q:Unit->Shared->Prop}(I:Inv X pins σ H s)(hN:X.N.Nodup)(hi:X.N[i]?=some x)(hx:Loc X.env.scope x)(r:aU v u)
  (h:∀s',Inv X pins (σ.set i (some v)) H s'->(∃a,ABt a s.heap s'.heap/\(a=X.env.locals\/X.env.cells.lookup x=some a))->Q () s') (hf:X.fn x=true\/X.env.scope.names.lookup x=some .local:=by first | exact .inl rfl | exact .inr rfl | assumption):wpAny M A (storeName X.env x u) Q E s:=by
 obtain⟨m,hn,hl⟩:=id I.loc
 have hcls:(X.env.scope.kind==.class||(X.env.scope.kind==.module&&X.env.locals != X.env.globals))=false:=by rw[I.ok.kind];rfl
 have hiσ:i<σ.length:=by rw[I.len];exact(AA3.mp hi).1
 have cne:=I.cne
 have tracked:∀{a:Addr}{h':Heap},(∃o,s.heap.get? a=some o/\H a=none)->ABt a s.heap h'->HOk X.prog X.w H h':=λ{a h'} ha hs b ob e=>by
  obtain⟨_,_,hfree⟩:=ha
  refine(I.hok b ob e).stay (λc w' hc q=>(hs.2 c ?_).trans q) (λ_ q=>q) λ_ _ q=>q
  rintro rfl
  rcases hc with rfl | hc
  ·rw[hfree]at e;cases e
  ·rw[hfree]at hc;cases hc
 rcases hx with hk | hk
 ·refine wpAny_storeName_local hk hn (λh' hn' hs=>?_) hcls
  obtain⟨oL,_,_,hoL,_⟩:=id hn
  refine h _ ⟨I.ok,I.os,I.bare,⟨λb o e n hb hx=>?_,λb o e n hb hx=>?_,I.base.free,λb o e hx=>?_,I.base.tups,I.base.frzs,I.base.tbls⟩,⟨_,hn',λj y v' e1 e2 e3=>?_⟩,λy c e=>?_,I.free,I.freeC,λp hp=>?_,tracked ⟨oL,hoL,I.free⟩ hs,by simpa using I.len⟩ ⟨_,hs,.inl rfl⟩
  ·exact(hs.2 b (AAQ (AAT (AAM e) I.ok.above))).trans (I.base.keep b o e n hb hx)
  ·obtain⟨sl,e1⟩:=I.base.slot b o e n hb hx
   exact⟨sl,(hs.2 b (AAQ (AAT (AAM e) I.ok.above))).trans e1⟩
  ·obtain⟨o',e1⟩:=I.base.there b o e hx
   exact⟨o',(hs.2 b (AAQ (AAT (AAM e) I.ok.above))).trans e1⟩
  ·by_cases hj:j=i
   ·subst hj
    rw[hi]at e1;cases e1
    rw[ABD hiσ]at e2
    cases e2
    exact⟨u,r,.inl ⟨hk,by simp⟩⟩
   ·rw[AAq (AAt hj)]at e2
    obtain⟨u',r',q⟩:=hl j y v' e1 e2 e3
    refine⟨u',r',?_⟩
    rcases q with⟨k,e⟩|⟨k,c,e,z⟩
    ·refine .inl ⟨k,?_⟩
     have:y≠x:=λe=>hj (uD hN e1 (e ▸ hi))
     simp[this,e]
    ·exact .inr ⟨k,c,e,z.sameBut hs (cne y c e)⟩
  ·obtain⟨w',z⟩:=I.cell y c e
   exact⟨w',z.sameBut hs (cne y c e)⟩
  ·obtain⟨e,n,ne,nf,d⟩:=I.pin p hp
   exact⟨(hs.2 p.1 ne).trans e,n,ne,nf,d⟩
 ·have hfn:X.fn x=true:=by
   rcases hf with z | z
   ·exact z
   ·rw[z]at hk;cases hk
  obtain⟨c,hc⟩:=I.ok.has x (.inl hk)
  obtain⟨w',z⟩:=I.cell x c hc
  refine wpAny_storeName_cell I.ok.kind hk hc z (λh' hc' hs=>?_)
  obtain⟨oc,hoc,hocd⟩:=id z
  refine h { s with heap:=h' } ⟨I.ok,I.os,I.bare,⟨λb o e n hb hx=>?_,λb o e n hb hx=>?_,I.base.free,λb o e hx=>?_,I.base.tups,I.base.frzs,I.base.tbls⟩,⟨m,hn.sameBut hs (AAt (cne x c hc)),λj y v' e1 e2 e3=>?_⟩,λy c' e=>?_,I.free,I.freeC,λp hp=>?_,tracked ⟨oc,hoc,I.freeC x c hc⟩ hs,by simpa using I.len⟩ ⟨c,hs,.inr hc⟩
  ·exact(hs.2 b (AAQ (AAT (AAM e) (I.ok.cab x c hfn hc)))).trans (I.base.keep b o e n hb hx)
  ·obtain⟨sl,e1⟩:=I.base.slot b o e n hb hx
   exact⟨sl,(hs.2 b (AAQ (AAT (AAM e) (I.ok.cab x c hfn hc)))).trans e1⟩
  ·obtain⟨o',e1⟩:=I.base.there b o e hx
   exact⟨o',(hs.2 b (AAQ (AAT (AAM e) (I.ok.cab x c hfn hc)))).trans e1⟩
  ·by_cases hj:j=i
   ·subst hj
    rw[hi]at e1;cases e1
    rw[ABD hiσ]at e2
    cases e2
    exact⟨u,r,.inr ⟨.inl hk,c,hc,hc'⟩⟩
   ·rw[AAq (AAt hj)]at e2
    obtain⟨u',r',q⟩:=hl j y v' e1 e2 e3
    refine⟨u',r',?_⟩
    rcases q with q | ⟨k,c',e,z'⟩
    ·exact .inl q
    ·refine .inr ⟨k,c',e,z'.sameBut hs ?_⟩
     rintro rfl
     exact hj (uD hN e1 (I.ok.inj _ _ _ e hc ▸ hi))
  ·by_cases hcc:c'=c
   ·subst hcc;exact⟨_,hc'⟩
   ·obtain⟨w2,z2⟩:=I.cell y c' e
    exact⟨w2,z2.sameBut hs hcc⟩
  ·obtain⟨e,n,ne,nf,d⟩:=I.pin p hp
   refine⟨(hs.2 p.1 ?_).trans e,n,ne,nf,d⟩
   intro q
   rw[q,hoc]at e
   have q':oc=p.2:=AAW e
   exact d w' (by rw[<-q'];exact hocd)
theorem ur(I:Inv X pins σ H s)(hN:X.N.Nodup)(hi:X.N[i]?=some x)(hx:Loc X.env.scope x)(r:aU v u)
  (h:∀s',Inv X pins (σ.set i (some v)) H s'->Q () s') (hf:X.fn x=true\/X.env.scope.names.lookup x=some .local:=by first | exact .inl rfl | exact .inr rfl | assumption):wpAny M A (storeName X.env x u) Q E s :=
 xK I hN hi hx r (λs' I' _=>h s' I') hf
theorem Inv.call'(I:Inv X pins σ H s)(ho:s'.os=s.os)(u:Un (frs X.stack) ch H H' s.heap s'.heap)(hok:HOk X.prog X.w H' s'.heap)(hg:AllBare s'.gens)
  (hch:∀b∈ch,(b∈X.ex\/X.s₀.heap.objs.size<=b)/\b≠X.env.locals/\(∀x c,X.env.cells.lookup x=some c->c≠b)/\∀p∈X.pn++pins,p.1≠b):Inv X pins σ H' s':=by
 obtain⟨h',g',d',t',o'⟩:=s'
 have e:o'=s.os:=ho
 subst e
 exact I.call (g':=g') (t':=t') (d':=d') u hok hg hch
abbrev XK:=Value->Option Addr->Hp->Prop
noncomputable abbrev St:=List (Option V)
abbrev VK:=V->Hp->Prop
abbrev TE:=St->Hp->VK->Prop
abbrev TT:=St->Hp->(Bool->Hp->Prop)->Prop
abbrev TA:=St->Hp->(List V->Hp->Prop)->Prop
structure Ends where
 nx:St->Hp->Prop
 rt:VK
 bk:St->Hp->Prop:=λ_ _=>False
 ct:St->Hp->Prop:=λ_ _=>False
abbrev TS:=Ends->St->Hp->Prop
inductive EP(X:Cx)(pins:List (Addr×Obj))(σ:St)(Q:VK)(u:Value)(s':Shared):Prop
 | mk (v:_) (H':_) (f0:Inv X pins σ H' s') (f1:aU v u) (f2:Q v H')
inductive TP(X:Cx)(pins:List (Addr×Obj))(σ:St)(Q:Bool->Hp->Prop)(b:Bool)(s':Shared):Prop
 | mk (H':_) (f0:Inv X pins σ H' s') (f1:Q b H')
inductive AP(X:Cx)(pins:List (Addr×Obj))(σ:St)(Q:List V->Hp->Prop)(us:List Value)(s':Shared):Prop
 | mk (vs:_) (H':_) (f0:Inv X pins σ H' s') (f1:az vs us) (f2:Q vs H')
def SP(X:Cx)(pins:List (Addr×Obj))(D:Ends)(f:Flow)(s':Shared):Prop :=
 match f with
 | .next=>∃σ' H',Inv X pins σ' H' s'/\D.nx σ' H'
 | .brk=>∃σ' H',Inv X pins σ' H' s'/\D.bk σ' H'
 | .cont=>∃σ' H',Inv X pins σ' H' s'/\D.ct σ' H'
 | .ret u=>∃v σ' H',Inv X pins σ' H' s'/\aU v u/\D.rt v H'
def PE(X:Cx)(e:Expr)(t:TE):Prop :=
 ∀(pins:List (Addr×Obj)) (s:Shared) (σ:St) (H:Hp) (Q:VK),Inv X pins σ H s->t σ H Q->wpAny (model X.prog X.w) X.A (eval e X.env) (EP X pins σ Q) X.xe s
def PT(X:Cx)(e:Expr)(t:TT):Prop :=
 ∀(pins:List (Addr×Obj)) (s:Shared) (σ:St) (H:Hp) (Q:Bool->Hp->Prop),Inv X pins σ H s->t σ H Q->wpAny (model X.prog X.w) X.A (isTrue e X.env (eval e X.env)) (TP X pins σ Q) X.xe s
def PW(X:Cx)(e:Expr)(t:TT):Prop :=
 ∀(whole:Sem Value) (pins:List (Addr×Obj)) (s:Shared) (σ:St) (H:Hp) (Q:Bool->Hp->Prop),Inv X pins σ H s->t σ H Q->wpAny (model X.prog X.w) X.A (isTrue e X.env whole) (TP X pins σ Q) X.xe s
theorem PW.pt(h:PW X e t):PT X e t:=h _
def PA(X:Cx)(es:List Expr)(t:TA):Prop :=
 ∀(pos:Pos) (pins:List (Addr×Obj)) (s:Shared) (σ:St) (H:Hp) (Q:List V->Hp->Prop),Inv X pins σ H s->t σ H Q->wpAny (model X.prog X.w) X.A (spliced (backTo pos (starEach es X.env))) (AP X pins σ Q) X.xe s
def PS(X:Cx)(st:Stmt)(t:TS):Prop :=
 ∀(pins:List (Addr×Obj)) (s:Shared) (σ:St) (H:Hp) (D:Ends),Inv X pins σ H s->t D σ H->wpAny (model X.prog X.w) X.A (exec st X.env) (SP X pins D) X.xe s
def PSs(X:Cx)(st:List Stmt)(t:TS):Prop :=
 ∀(pins:List (Addr×Obj)) (s:Shared) (σ:St) (H:Hp) (D:Ends),Inv X pins σ H s->t D σ H->wpAny (model X.prog X.w) X.A (execs st X.env) (SP X pins D) X.xe s
theorem thn{α:Type}{t:Sem α}{Q Q':α->Shared->Prop}{M:Model}{A:Around}{E:Value->Shared->Prop}{s:Shared}(h:wpAny M A t Q E s)(hQ:∀a s,Q a s->Q' a s):wpAny M A t Q' E s:=ABc h hQ λ_ _ x=>x
section
variable{X:Cx}
def tVar(i:Nat):TE:=λσ H Q=>∃v,σ[i]?=some (some v)/\Q v H
def tC(v:V):TE:=λ_ H Q=>Q v H
theorem Da(hN:X.N[i]?=some x)(hv:Vis X.env.scope x)(hd:(x==("__debug__":Str))=false:=by decide)(hcd:(x==("__classdict__":Str))=false:=by decide):PE X (.Name x pos) (tVar i):=by
 intro pins s σ H Q I h
 obtain⟨v,e,h⟩:=h
 obtain⟨m,hn,hl⟩:=I.loc
 obtain⟨u,r,l⟩:=hl i x v hN e hv
 have fin:EP X pins σ Q u s:=⟨v,H,I,r,h⟩
 rcases l with⟨hk,hm⟩|⟨hk,c,hc,hcell⟩
 ·exact wpAny_Name (wpAny_loadName_local I.ok.kind hk hn hm fin) hd
 ·rcases hk with hk | hk
  ·exact wpAny_Name (wpAny_loadName_cell I.ok.kind hk hc hcell fin) hd
  ·exact wpAny_Name (wpAny_loadName_free I.ok.kind hk hc hcell fin hcd) hd
theorem Ij{i j pos}:PE X (.Constant (.int i) j pos) (tC (.int i)):=λ_ _ _ H _ I h=>wpAny_Constant_int ⟨.int i,H,I.tok _,⟨_,rfl⟩,h⟩
theorem Io{b j pos}:PE X (.Constant (.bool b) j pos) (tC (.bl b)):=λ_ _ _ H _ I h=>Constant_bool ⟨.bl b,H,I,rfl,h⟩
theorem Ie{j pos}:PE X (.Constant .none j pos) (tC .non):=λ_ _ _ H _ I h=>Constant_none ⟨.non,H,I,rfl,h⟩
theorem Ia{x j pos}:PE X (.Constant (.str x) j pos) (tC (.str x)):=λ_ _ _ H _ I h=>Calls.Constant_str ⟨.str x,H,I.tok _,⟨_,rfl⟩,h⟩
def Gl(X:Cx)(x:Str):Prop:=X.env.kindOf x=some .globalImplicit
theorem nJ(I:Inv X pins σ H s)(hg:Gl X x)(hm:X.mg x=some u)(h:Q u s)
  (hd:(x==("__debug__":Str))=false:=by decide):wpAny (model X.prog X.w) X.A (eval (.Name x pos) X.env) Q E s :=
 Calls.Name_function_global I.ok.kind hg (Calls.loadGlobal_global (by rw[I.ok.glob];exact I.mod.glob.keeps I.bk) hm h) hd
theorem gO(I:Inv X pins σ H s)(hg:Gl X x)(hm:X.mg x=none)(hv:bootBuiltins x=some u)(h:Q u s)
  (hn:x≠"__name__":=by decide) (hd:(x==("__debug__":Str))=false:=by decide):wpAny (model X.prog X.w) X.A (eval (.Name x pos) X.env) Q E s:=by
 obtain⟨mb,h1,h2⟩:=I.mod.blt
 exact Calls.Name_function_global I.ok.kind hg (Calls.loadGlobal_builtin (by rw[I.ok.glob];exact I.mod.glob.keeps I.bk) hm (by rw[I.ok.blt];exact h1.keeps I.bk) ((h2 x hn).trans hv) h) hd
theorem rW(hg:Gl X x)(hm:X.mg x=some u)(r:aU v u)(hd:(x==("__debug__":Str))=false:=by decide):PE X (.Name x pos) (tC v) :=
 λ_ _ _ H _ I h=>nJ I hg hm ⟨v,H,I,r,h⟩ hd
theorem Ev(hg:Gl X x)(hm:X.mg x=none)(hv:bootBuiltins x=some u)(r:aU v u)(hn:x≠"__name__":=by decide)(hd:(x==("__debug__":Str))=false:=by decide):PE X (.Name x pos) (tC v) :=
 λ_ _ _ H _ I h=>gO I hg hm hv ⟨v,H,I,r,h⟩ hn hd
variable{a b:Expr}{ta tb:TE}{pos:Pos}
theorem aU.none_iff(r:aU x v):(v==ABO)=decide (x=.non):=by
 cases x with
 | non=>cases r;rfl
 | bl _=>cases r;rfl
 | int _=>obtain⟨t,rfl⟩:=r;rfl
 | str _=>obtain⟨t,rfl⟩:=r;rfl
 | byt _=>obtain⟨t,rfl⟩:=r;rfl
 | flt _=>obtain⟨t,rfl⟩:=r;rfl
 | ref _=>cases r;rfl
 | ty _=>cases r;rfl
def tB(t:TE):TT:=λσ H Q=>t σ H λx H1=>∃c,x=.bl c/\Q c H1
theorem HL(h:PE X e t)(he:∀whole,isTrue e X.env whole=(do let v <-whole;standAt e.pos;holding [v] (truthy v)):=by intro _;rfl):PT X e (tB t):=by
 intro pins s σ H Q I hw
 refine isTrue_plain (thn (h pins s σ H _ I hw) ?_) (he _)
 rintro v s1 ⟨x,H1,I1,r1,q1⟩
 obtain⟨d,rfl,q⟩:=q1
 cases r1
 exact ABv ⟨H1,I1,q⟩
variable{tA tB':TT}{bm:List Expr}
def tAnd(t u:TT):TT:=λσ H Q=>t σ H λc H1=>if c=true then u σ H1 Q else Q false H1
def tOr(t u:TT):TT:=λσ H Q=>t σ H λc H1=>if c=true then Q true H1 else u σ H1 Q
def tNot(t:TT):TT:=λσ H Q=>t σ H λc H1=>Q (!c) H1
theorem Ec(ha:PT X a tA):PW X (.BoolOp .And [a] pos) tA:=by
 intro wh pins s σ H Q I h
 refine isTrue_and (thn (ha pins s σ H Q I h) λc s1 e=>?_)
 cases c with
 | true=>exact isTrue_and_nil e
 | false=>exact e
theorem HJ(ha:PT X a tA):PW X (.BoolOp .Or [a] pos) tA:=by
 intro wh pins s σ H Q I h
 refine isTrue_or (thn (ha pins s σ H Q I h) λc s1 e=>?_)
 cases c with
 | false=>exact isTrue_or_nil e
 | true=>exact e
theorem HK(ha:PT X a tA)(hb:PW X (.BoolOp .And (b::bm) pos) tB'):PW X (.BoolOp .And (a::b::bm) pos) (tAnd tA tB'):=by
 intro wh pins s σ H Q I h
 refine isTrue_and (thn (ha pins s σ H _ I h) ?_)
 rintro c s1 ⟨H1,I1,q1⟩
 cases c with
 | true=>exact hb wh pins s1 σ H1 Q I1 q1
 | false=>exact⟨H1,I1,q1⟩
theorem pw_or(ha:PT X a tA)(hb:PW X (.BoolOp .Or (b::bm) pos) tB'):PW X (.BoolOp .Or (a::b::bm) pos) (tOr tA tB'):=by
 intro wh pins s σ H Q I h
 refine isTrue_or (thn (ha pins s σ H _ I h) ?_)
 rintro c s1 ⟨H1,I1,q1⟩
 cases c with
 | true=>exact⟨H1,I1,q1⟩
 | false=>exact hb wh pins s1 σ H1 Q I1 q1
theorem HM(ha:PT X a tA):PT X (.UnaryOp .Not a pos) (tNot tA):=by
 intro pins s σ H Q I h
 refine isTrue_not (thn (ha pins s σ H (λc H1=>Q (!c) H1) I h) ?_)
 rintro c s1 ⟨H1,I1,q1⟩
 exact⟨H1,I1,q1⟩
def tAndV(ta tb:TE):TE:=λσ H Q=>ta σ H λx H1=>∃c,x=.bl c/\if c=true then tb σ H1 Q else Q (.bl false) H1
def tOrV(ta tb:TE):TE:=λσ H Q=>ta σ H λx H1=>∃c,x=.bl c/\if c=true then Q (.bl true) H1 else tb σ H1 Q
def tNotV(ta:TE):TE:=λσ H Q=>ta σ H λx H1=>∃c,x=.bl c/\Q (.bl (!c)) H1
theorem Ib{op}(h:PE X a t):PE X (.BoolOp op [a] pos) t:=λpins s σ H Q I hw=>BoolOp_one (h pins s σ H Q I hw)
theorem Ip(ha:PE X a ta)(hb:PE X (.BoolOp .And (b::bm) pos) tb):PE X (.BoolOp .And (a::b::bm) pos) (tAndV ta tb):=by
 intro pins s σ H Q I h
 refine BoolOp_and (thn (ha pins s σ H _ I h) ?_)
 rintro v s1 ⟨x,H1,I1,r1,q1⟩
 obtain⟨c,rfl,q1⟩:=q1
 cases r1
 refine ABv ?_
 cases c with
 | true=>exact hb pins s1 σ H1 Q I1 q1
 | false=>exact⟨.bl false,H1,I1,rfl,q1⟩
theorem pe_or(ha:PE X a ta)(hb:PE X (.BoolOp .Or (b::bm) pos) tb):PE X (.BoolOp .Or (a::b::bm) pos) (tOrV ta tb):=by
 intro pins s σ H Q I h
 refine BoolOp_or (thn (ha pins s σ H _ I h) ?_)
 rintro v s1 ⟨x,H1,I1,r1,q1⟩
 obtain⟨c,rfl,q1⟩:=q1
 cases r1
 refine ABv ?_
 cases c with
 | false=>exact hb pins s1 σ H1 Q I1 q1
 | true=>exact⟨.bl true,H1,I1,rfl,q1⟩
theorem Ic(ha:PE X a ta):PE X (.UnaryOp .Not a pos) (tNotV ta):=by
 intro pins s σ H Q I h
 refine UnaryOp_ (thn (ha pins s σ H _ I h) ?_)
 rintro v s1 ⟨x,H1,I1,r1,q1⟩
 obtain⟨c,rfl,q1⟩:=q1
 cases r1
 exact not_of (ABv ⟨.bl (!c),H1,I1,rfl,q1⟩)
end
def SqL(K:AA2)(H:Hp)(a:Addr)(xs:List V):Prop :=
 Rd H a (.lst xs) \/
  ∃(o:Obj) (its:Array Value) (n:Nat),K.lookup a=some o/\o.cls=.type "list"/\o.dict=none/\o.data=.seq its n/\its.size<=sizeLine/\az xs its.toList
def SqT(K:AA2)(H:Hp)(a:Addr)(xs:List V):Prop :=
 Rd H a (.tup xs) \/
  ∃(o:Obj) (its:Array Value) (n:Nat),K.lookup a=some o/\o.cls=.type "tuple"/\o.dict=none/\o.data=.seq its n/\its.size<=sizeLine/\az xs its.toList
noncomputable def absV:Value->Option V
 | .none=>some .non
 | .bool b=>some (.bl b)
 | .int i _=>some (.int i)
 | .str x _=>some (.str x)
 | .bytes b _=>some (.byt b)
 | .float b _=>some (.flt b)
 | .ref a=>some (.ref a)
 | .type n=>some (.ty n)
 | _=>none
theorem aU.abs(r:aU x u):absV u=some x:=by
 cases x with
 | non=>cases r;rfl
 | bl _=>cases r;rfl
 | int _=>obtain⟨t,rfl⟩:=r;rfl
 | str _=>obtain⟨t,rfl⟩:=r;rfl
 | byt _=>obtain⟨t,rfl⟩:=r;rfl
 | flt _=>obtain⟨t,rfl⟩:=r;rfl
 | ref _=>cases r;rfl
 | ty _=>cases r;rfl
theorem aU.inj(r:aU x u)(q:aU y u):x=y:=AAW (r.abs.symm.trans q.abs)
theorem az.inj(h:az xs us)(h':az ys us):xs=ys:=by
 induction h generalizing ys with
 | nil=>cases h';rfl
 | cons r t ih=>cases h' with
  | cons r' t'=>rw[r.inj r',ih t']
theorem SqT.of{K:AA2}(h:H a=some (.tup xs)):SqT K H a xs:=.inl (.inl h)
theorem Inv.list(I:Inv X pins σ H s)(h:SqL X.K H a xs):∃its:List Value,az xs its/\PlainL s.heap a its.toArray/\xs.length<=sizeLine:=by
 rcases h with h | ⟨o,its,n,hk,hc,hd,hs,hz,r⟩
 ·obtain⟨z,its,n,r,e⟩:=h.ok I.hok
  exact⟨its,r,⟨_,n,e,rfl,rfl,rfl⟩,z⟩
 ·refine⟨its.toList,r,⟨o,n,I.kIn a o hk,hc,hd,by simpa using hs⟩,?_⟩
  have e:=r.length
  simp only[ABy]at e
  lia
theorem Inv.tuple(I:Inv X pins σ H s)(h:SqT X.K H a xs):∃its:List Value,az xs its/\IsTup s.heap a its.toArray/\xs.length<=sizeLine:=by
 rcases h with h | ⟨o,its,n,hk,hc,_,hs,hz,r⟩
 ·obtain⟨z,its,r,p⟩:=h.ok I.hok
  exact⟨its,r,p.tup,z⟩
 ·refine⟨its.toList,r,⟨o,I.kIn a o hk,hc,n,by simpa using hs⟩,?_⟩
  have e:=r.length
  simp only[ABy]at e
  lia
theorem Inv.list_inj(I:Inv X pins σ H s)(h:SqL X.K H a xs)(h':SqL X.K H a ys):xs=ys:=by
 obtain⟨its,r,⟨o,n,e,_,_,d⟩,_⟩:=I.list h
 obtain⟨its',r',⟨o',n',e',_,_,d'⟩,_⟩:=I.list h'
 rw[e]at e';cases e'
 rw[d]at d'
 injection d' with d1 _
 have:its=its':=by simpa using congrArg Array.toList d1
 subst this
 exact r.inj r'
theorem Inv.tuple_inj(I:Inv X pins σ H s)(h:SqT X.K H a xs)(h':SqT X.K H a ys):xs=ys:=by
 obtain⟨its,r,⟨o,e,_,n,d⟩,_⟩:=I.tuple h
 obtain⟨its',r',⟨o',e',_,n',d'⟩,_⟩:=I.tuple h'
 rw[e]at e';cases e'
 rw[d]at d'
 injection d' with d1 _
 have:its=its':=by simpa using congrArg Array.toList d1
 subst this
 exact r.inj r'
noncomputable abbrev Cx.wish(X:Cx)(E:Value->Shared->Prop):Cx:={ X with xe:=E }
noncomputable abbrev Cx.nox(X:Cx):Cx:=X.wish λ_ _=>False
theorem Cx.Ok.wish{X:Cx}(ok:X.Ok)(E:Value->Shared->Prop):(X.wish E).Ok :=
 ⟨ok.mod,ok.kind,ok.glob,ok.blt,ok.above,ok.inj,ok.has,ok.cab,ok.hd,ok.frames,ok.stk,ok.exf,ok.bs,ok.bsz,ok.noex,ok.exfs,ok.funs,ok.frf⟩
theorem Cx.Ok.unwish{X:Cx}{E:Value->Shared->Prop}(ok:(X.wish E).Ok):X.Ok :=
 ⟨ok.mod,ok.kind,ok.glob,ok.blt,ok.above,ok.inj,ok.has,ok.cab,ok.hd,ok.frames,ok.stk,ok.exf,ok.bs,ok.bsz,ok.noex,ok.exfs,ok.funs,ok.frf⟩
theorem Inv.wish(I:Inv X pins σ H s)(E:Value->Shared->Prop):Inv (X.wish E) pins σ H s:=⟨I.ok.wish E,I.os,I.bare,I.base,I.loc,I.cell,I.free,I.freeC,I.pin,I.hok,I.len⟩
theorem Inv.unwish(I:Inv (X.wish E) pins σ H s):Inv X pins σ H s:=⟨I.ok.unwish,I.os,I.bare,I.base,I.loc,I.cell,I.free,I.freeC,I.pin,I.hok,I.len⟩
theorem SP.unwish(h:SP (X.wish E) pins D f s'):SP X pins D f s':=by
 cases f with
 | next=>obtain⟨σ',H',I,q⟩:=h;exact⟨σ',H',I.unwish,q⟩
 | brk=>obtain⟨σ',H',I,q⟩:=h;exact⟨σ',H',I.unwish,q⟩
 | cont=>obtain⟨σ',H',I,q⟩:=h;exact⟨σ',H',I.unwish,q⟩
 | ret u=>obtain⟨v,σ',H',I,r,q⟩:=h;exact⟨v,σ',H',I.unwish,r,q⟩
theorem PSs.nox{st:List Stmt}{t:TS}(h:PSs X.nox st t):PSs X st t:=λpins s σ H D I hw =>
 ABc (h pins s σ H D (I.wish _) hw) (λ_ _ q=>q.unwish) λ_ _ z=>AC5 z
def tNext:TS:=λD σ H=>D.nx σ H
def tSeq(t u:TS):TS:=λD σ H=>t { D with nx:=u D } σ H
theorem Eh:PSs X [] tNext:=λ_ _ σ H _ I h=>wpAny_execs_nil ⟨σ,H,I,h⟩
theorem AT{X:Cx}{st:Stmt}{bm:List Stmt}{t u:TS}(h1:PS X st t)(h2:PSs X bm u):PSs X (st::bm) (tSeq t u):=by
 intro pins s σ H D I h
 refine wpAny_execs_cons (thn (h1 pins s σ H { D with nx:=u D } I h) λf s1 q=>?_)
 cases f with
 | next =>
  obtain⟨σ',H',I',q⟩:=q
  exact h2 pins s1 σ' H' D I' q
 | ret v=>exact q
 | brk=>exact q
 | cont=>exact q
theorem Eg{X:Cx}{st:Stmt}{t:TS}(h1:PS X st t):PSs X [st] t:=by
 intro pins s σ H D I h
 refine wpAny_execs_cons (thn (h1 pins s σ H D I h) λf s1 q=>?_)
 cases f with
 | next=>exact wpAny_execs_nil q
 | ret v=>exact q
 | brk=>exact q
 | cont=>exact q
theorem Inv.quiet(I:Inv X pins σ H s):interactive X.env=false:=by simp[interactive,I.ok.kind]
def tDrop(te:TE):TS:=λD σ H=>te σ H λ_ H1=>D.nx σ H1
theorem Ei(he:PE X e te)(hs:swapsWith e none pos.line X.env=pure false:=by rfl):PS X (.Expr e pos) (tDrop te):=by
 intro pins s σ H D I h
 exact wpAny_Expr_any (thn (he pins s σ H _ I h) λv s1 ⟨x,H1,I1,r1,q1⟩=>⟨σ,H1,I1,q1⟩) I.quiet hs
def tRet(te:TE):TS:=λD σ H=>te σ H D.rt
theorem HP(he:PE X e te):PS X (.Return (some e) pos) (tRet te):=by
 intro pins s σ H D I h
 refine wpAny_Return_some (thn (he pins s σ H _ I h) ?_)
 rintro v s1 ⟨x,H1,I1,r1,q1⟩
 exact⟨x,σ,H1,I1,r1,q1⟩
def tIfS(c:TT)(t u:TS):TS:=λD σ H=>c σ H λb H1=>if b=true then t D σ H1 else u D σ H1
theorem ps_if(hc:PT X c tc)(ha:PSs X a t)(hb:PSs X b u):PS X (.If c a b pos) (tIfS tc t u):=by
 intro pins s σ H D I h
 refine wpAny_If (thn (hc pins s σ H _ I h) ?_)
 rintro d s1 ⟨H1,I1,q1⟩
 cases d with
 | true=>exact ha pins s1 σ H1 D I1 q1
 | false=>exact hb pins s1 σ H1 D I1 q1
abbrev TG:=V->St->Hp->(St->Hp->Prop)->Prop
abbrev TGs:=List V->St->Hp->(St->Hp->Prop)->Prop
def PG(X:Cx)(target:Expr)(t:TG):Prop :=
 ∀(pins:List (Addr×Obj)) (s:Shared) (σ:St) (H:Hp) (v:V) (u:Value) (Q:St->Hp->Prop),Inv X pins σ H s->aU v u->t v σ H Q ->
  wpAny (model X.prog X.w) X.A (assign target X.env u) (λ_ s'=>∃σ' H',Inv X pins σ' H' s'/\Q σ' H') X.xe s
def PGs(X:Cx)(ts:List Expr)(t:TGs):Prop :=
 ∀(pins:List (Addr×Obj)) (s:Shared) (σ:St) (H:Hp) (vs:List V) (us:List Value) (Q:St->Hp->Prop),Inv X pins σ H s->az vs us->t vs σ H Q ->
  wpAny (model X.prog X.w) X.A (assignInOrder ((assignEach ts X.env).map (·.2)) us) (λ_ s'=>∃σ' H',Inv X pins σ' H' s'/\Q σ' H') X.xe s
abbrev TSet:=V->V->V->Hp->(Hp->Prop)->Prop
def PSet(X:Cx)(t:TSet):Prop :=
 ∀(pins:List (Addr×Obj)) (s:Shared) (σ:St) (H:Hp) (o i v:V) (ov iv u:Value) (Q:Hp->Prop),Inv X pins σ H s->aU o ov->aU i iv->aU v u->t o i v H Q ->
  wpAny (model X.prog X.w) X.A (setItem ov iv u) (λ_ s'=>∃H',Inv X pins σ H' s'/\Q H') X.xe s
def JL(i:Nat):TG:=λv σ H Q=>Q (σ.set i (some v)) H
theorem Ep(hN:X.N.Nodup)(hi:X.N[i]?=some x)(hx:Loc X.env.scope x)(hf:X.fn x=true\/X.env.scope.names.lookup x=some .local:=by first | exact .inl rfl | exact .inr rfl | assumption):PG X (.Name x pos) (JL i):=by
 intro pins s σ H v u Q I r h
 exact wpAny_assign_Name (ur I hN hi hx r (λs' I'=>⟨_,H,I',h⟩) hf)
def gNil:TGs:=λvs σ H Q=>vs=[]/\Q σ H
def gCons(t:TG)(u:TGs):TGs:=λvs σ H Q=>∃v r,vs=v::r/\t v σ H λσ' H'=>u r σ' H' Q
theorem Eo:PGs X [] gNil:=by
 intro pins s σ H vs us Q I r h
 obtain⟨e,h⟩:=h
 subst e
 cases r
 exact assignInOrder_nil ⟨σ,H,I,h⟩
theorem AX(h1:PG X e t)(h2:PGs X es u)
  (hs:(assignEach (e::es) X.env).map (·.2)=assign e X.env::(assignEach es X.env).map (·.2):=by rfl):PGs X (e::es) (gCons t u):=by
 intro pins s σ H vs us Q I r h
 obtain⟨v,vr,e1,h⟩:=h
 subst e1
 cases r with
 | cons r rr =>
  rw[hs]
  refine assignInOrder_cons (thn (h1 pins s σ H _ _ _ I r h) ?_)
  rintro _ s1 ⟨σ1,H1,I1,q1⟩
  exact h2 pins s1 σ1 H1 _ _ Q I1 rr q1
def gTup(K:AA2)(n:Nat)(t:TGs):TG:=λv σ H Q=>∃a xs,v=.ref a/\SqT K H a xs/\xs.length=n/\t xs σ H Q
theorem HV(hc:X.calm=true)(h:PGs X es t)
  (hn:(assignEach es X.env).length=n:=by rfl) (hst:(assignEach es X.env).findIdx? (·.1)=none:=by rfl):PG X (.Tuple es k pos) (gTup X.K n t):=by
 intro pins s σ H v u Q I r hw
 obtain⟨a,xs,e1,hq,hl,hw⟩:=hw
 subst e1
 cases r
 obtain⟨its,rv,ht,hz⟩:=I.tuple hq
 refine assign_Tuple_tuple (I.ok.hd hc) ht (by simp[hn,<-hl,rv.length]) hst λh' hx=>?_
 have I1:Inv X pins σ H { s with heap:=h' }:=I.kept (t':=s.toks) λb o e=>hx b o (AAQ (AAM e)) e
 exact h pins _ σ H xs _ Q I1 (by simpa using rv) hw
def gSub(to ti:TE)(t:TSet):TG:=λv σ H Q=>to σ H λo H1=>ti σ H1 λi H2=>t o i v H2 λH3=>Q σ H3
theorem HY(ho:PE X o to)(hi:PE X i ti)(hs:PSet X t)
  (ha:∀v,assign (.Subscript o i pos) X.env v=(do
   let ov <-holding [v] (eval o X.env)
   let iv <-holding [v,ov] (eval i X.env)
   standAt pos
   holding [v,ov,iv] (setItem ov iv v)
   release [v,ov,iv] []):=by intro _;rfl):PG X (.Subscript o i pos) (gSub to ti t):=by
 intro pins s σ H v u Q I r h
 rw[ha]
 refine AA0 (AAr (thn (ho pins s σ H _ I h) ?_))
 rintro ov s1 ⟨x,H1,I1,r1,q1⟩
 refine AA0 (AAr (thn (hi pins s1 σ H1 _ I1 q1) ?_))
 rintro iv s2 ⟨y,H2,I2,r2,q2⟩
 refine AA0 (wpAny_standAt (AA0 (AAr (thn (hs pins s2 σ H2 x y v ov iv u _ I2 r1 r2 r q2) ?_))))
 rintro _ s3 ⟨H3,I3,q3⟩
 exact wpAny_release ⟨σ,H3,I3,q3⟩
def tAsg(te:TE)(g:TG):TS:=λD σ H=>te σ H λx H1=>g x σ H1 D.nx
theorem HU(he:PE X e te)(hg:PG X tg g)(hs:swapsWithSole [tg] e pos.line X.env=pure false:=by rfl)(hw:swappedStores [tg] e X.env=pure none:=by rfl)
  (h1:(assignEach [tg] X.env).map (·.2)=[assign tg X.env]:=by rfl):PS X (.Assign [tg] e pos) (tAsg te g):=by
 intro pins s σ H D I h
 refine wpAny_Assign_stores (thn (he pins s σ H _ I h) ?_) hs hw
 rintro v s1 ⟨x,H1,I1,r1,q1⟩
 rw[h1]
 exact thn (hg pins s1 σ H1 x v _ I1 r1 q1) λ_ s2 q=>q
theorem HN(hN:X.N.Nodup)(hi:X.N[i]?=some x)(hx:Loc X.env.scope x)(he:PE X e te)(hs:swapsWith e (some (.Name x pos')) pos.line X.env=pure false:=by rfl)(hf:X.fn x=true\/X.env.scope.names.lookup x=some .local:=by first | exact .inl rfl | exact .inr rfl | assumption) :
  PS X (.Assign [.Name x pos'] e pos) (tAsg te (JL i)):=by
 intro pins s σ H D I h
 refine wpAny_Assign_Name (thn (he pins s σ H _ I h) ?_) hs
 rintro v s1 ⟨y,H1,I1,r1,q1⟩
 exact ur I1 hN hi hx r1 (λs2 I2=>⟨_,H1,I2,q1⟩) hf
structure It where
 go:Nat->Hp->Prop
 yld:Nat->Hp->V->Hp->Prop
 stop:Nat->Hp->Prop
def rp(X:Cx)(pins:List (Addr×Obj))(H:Hp)(b:Addr):Prop :=
 H b=none/\b≠X.env.locals/\b∉X.fs/\(b∈X.ex\/X.s₀.heap.objs.size<=b)/\(∀x c,X.env.cells.lookup x=some c->c≠b)/\∀p∈X.pn++pins,p.1≠b
theorem Inv.fpOk(I:Inv X pins σ H s)(hb:s.heap.objs.size<=b)(hn:H' b=none):rp X pins H' b:=by
 refine⟨hn,Nat.ne_of_gt (AAT I.lt hb),I.nofs hb,.inr (AAp I.sz hb),λx c e z=>?_,λp hp z=>?_⟩
 ·obtain⟨v,q⟩:=I.cell x c e
  exact absurd (AAT q.lt (by rw[z];exact hb)) (AAk _)
 ·exact absurd (AAT (AAM (I.pin p hp).1) (by rw[z];exact hb)) (AAk _)
structure Turn(P:Program)(w:World)(K:AA2)(tg:Expr)(J:It)(fp:List Addr)(it:Addr)(tn:Nat->Heap->Prop):Prop where
 mem:it∈fp
 obj:∀i h,tn i h->∀b∈fp,∃o,h.get? b=some o/\∀v,o.data≠.cell v
 keep:∀i h h',tn i h->(∀b∈fp,∀o,h.get? b=some o->h'.get? b=some o)->tn i h'
 item:∀(X:Cx),X.prog=P->X.w=w->X.K=K->X.calm=true->∀(i:Nat) (pins:List (Addr×Obj)) (s:Shared) (σ:St) (H:Hp) (E:Value->Shared->Prop),Inv X pins σ H s->(∀b∈fp,rp X pins H b)->tn i s.heap->J.go i H ->
  wpAny (model P w) X.A (pyNext (.ref it)) (λr s1=>∃u,r=some u /\
   wpAny (model P w) X.A (letOwnedTupleGo tg (.ref it) u) (λ_ s2=>∃x H',Inv X pins σ H' s2/\aU x u/\J.yld i H x H'/\tn (i+1) s2.heap/\∀b∈fp,H' b=none) E s1) E s
 done:∀(X:Cx),X.prog=P->X.w=w->X.K=K->X.calm=true->∀(i:Nat) (pins:List (Addr×Obj)) (s:Shared) (σ:St) (H:Hp) (E:Value->Shared->Prop),Inv X pins σ H s->(∀b∈fp,rp X pins H b)->tn i s.heap->J.stop i H ->
  wpAny (model P w) X.A (pyNext (.ref it)) (λr s1=>r=none/\Inv X pins σ H s1) E s
 self:∀(A:Around) (i:Nat) (s:Shared) (Q:Value->Shared->Prop) (E:Value->Shared->Prop),tn i s.heap->Q (.ref it) s->wpAny (model P w) A (pyIter (.ref it)) Q E s
abbrev TI:=St->Hp->(It->Hp->Prop)->Prop
inductive PIE(X:Cx)(pins:List (Addr×Obj))(σ:St)(tg:Expr)(R:It->Hp->Prop)(itv:Value)(s2:Shared):Prop
 | mk (it:Addr) (fp:List Addr) (tn:Nat->Heap->Prop) (J:It) (H':Hp) (f0:itv=.ref it) (f1:Inv X pins σ H' s2) (f2:Turn X.prog X.w X.K tg J fp it tn) (f3:tn 0 s2.heap) (f4:(∀b∈fp,rp X pins H' b)) (f5:R J H')
def PI(X:Cx)(tg iter:Expr)(wi:TI):Prop :=
 ∀(pins:List (Addr×Obj)) (s:Shared) (σ:St) (H:Hp) (R:It->Hp->Prop),Inv X pins σ H s->wi σ H R ->
  wpAny (model X.prog X.w) X.A (eval iter X.env) (λv s1=>wpAny (model X.prog X.w) X.A (pyIter v) (PIE X pins σ tg R) X.xe s1) X.xe s
theorem BX(ho:s.heap.get? it=some o)(hc:o.cls=.type n)(hd:o.data=.fields vs)
  (hn:["enumerate","zip","dict_itemiterator","dict_reverseitemiterator","odict_iterator","itertools.zip_longest","itertools.pairwise"].contains n=false) (hQ:Q () s):wpAny M A (letOwnedTupleGo tg (.ref it) u) Q E s:=by
 unfold letOwnedTupleGo
 cases tg<;>first
  | exact AA7 hQ
  | (cases u<;>first
    | exact AA7 hQ
    | (refine AA0 (wpAny_load ho ?_);rw[hc,hd];show wpAny M A (if (["enumerate","zip","dict_itemiterator","dict_reverseitemiterator","odict_iterator","itertools.zip_longest","itertools.pairwise"].contains n&&vs[0]?==some (rawInt _))=true then _ else _) Q E s;rw[if_neg (by intro h;rw[hn,ACt]at h;cases h)];exact AA7 hQ))
noncomputable def Itl(K:AA2)(a:Addr):It :=
 ⟨λi H=>∃xs x,SqL K H a xs/\xs[i]?=some x,λi H x H'=>H'=H/\∀xs,SqL K H a xs->xs[i]?=some x,λi H=>∃xs,SqL K H a xs/\xs.length<=i⟩
noncomputable def Itt(K:AA2)(a:Addr):It :=
 ⟨λi H=>∃xs x,SqT K H a xs/\xs[i]?=some x,λi H x H'=>H'=H/\∀xs,SqT K H a xs->xs[i]?=some x,λi H=>∃xs,SqT K H a xs/\xs.length<=i⟩
noncomputable def Itr(lo:Int)(n:Nat):It:=⟨λi _=>i<n,λi H x H'=>H'=H/\x=.int (lo+i),λi _=>n<=i⟩
theorem wT{P:Program}{w:World}{K:AA2}{tg:Expr}(a it:Addr):Turn P w K tg (Itl K a) [it] it (λi h=>h.IsListIter it a i) where
 mem:=by simp
 obj:=λi h st b hb=>by
  have e:b=it:=by simpa using hb
  subst e
  obtain⟨o,e,c,d⟩:=st
  exact⟨o,e,λv z=>by rw[d]at z;cases z⟩
 keep:=λi h h' st k=>st.at λo e=>k it (by simp) o e
 item:=by
  intro X hP hw hK hc i pins s σ H E I hf st hg
  subst hP hw hK
  obtain⟨xs,x,hq,hx⟩:=hg
  obtain⟨its,rv,p,hz⟩:=I.list hq
  obtain⟨u,hu,ru⟩:=rv.get hx
  obtain⟨f0,f1,f2,f3,f4,f5⟩:=hf it (by simp)
  refine wpAny_pyNext_list_item st p.isList (x:=u) (by simpa using hu) λh' st' sb=>?_
  have I1:Inv X pins σ H { s with heap:=h' }:=I.turned (t':=s.toks) (λb o hb e=>(sb.2 b hb).trans e) f0 f1 f3 f4 f5
  obtain⟨o,e,c,d⟩:=id st'
  exact⟨u,rfl,BX (s:={ s with heap:=h' }) e c d (by decide) ⟨x,H,I1,ru,⟨rfl,λys hy=>by rw[I.list_inj hy hq];exact hx⟩,st',λb hb=>(hf b hb).1⟩⟩
 done:=by
  intro X hP hw hK hc i pins s σ H E I hf st hg
  subst hP hw hK
  obtain⟨xs,hq,hx⟩:=hg
  obtain⟨its,rv,p,hz⟩:=I.list hq
  obtain⟨f0,f1,f2,f3,f4,f5⟩:=hf it (by simp)
  have hl:=rv.length
  exact wpAny_pyNext_list_end (I.ok.hd hc) st p.isList (by simp;lia) λh' eb=>⟨rfl,I.turned (t':=s.toks) (λb o hb e=>eb b o hb e) f0 f1 f3 f4 f5⟩
 self:=λ_ _ _ _ _ st h=>wpAny_pyIter_listiter st h
theorem vD{P:Program}{w:World}{K:AA2}{tg:Expr}(a it:Addr):Turn P w K tg (Itt K a) [it] it (λi h=>h.IsTupleIter it a i) where
 mem:=by simp
 obj:=λi h st b hb=>by
  have e:b=it:=by simpa using hb
  subst e
  obtain⟨o,e,c,d⟩:=st
  exact⟨o,e,λv z=>by rw[d]at z;cases z⟩
 keep:=λi h h' st k=>st.at λo e=>k it (by simp) o e
 item:=by
  intro X hP hw hK hc i pins s σ H E I hf st hg
  subst hP hw hK
  obtain⟨xs,x,hq,hx⟩:=hg
  obtain⟨its,rv,p,hz⟩:=I.tuple hq
  obtain⟨u,hu,ru⟩:=rv.get hx
  obtain⟨f0,f1,f2,f3,f4,f5⟩:=hf it (by simp)
  refine wpAny_pyNext_tuple_item st (show s.heap.IsTuple a its.toArray from p) (x:=u) (by simpa using hu) λh' st' sb=>?_
  have I1:Inv X pins σ H { s with heap:=h' }:=I.turned (t':=s.toks) (λb o hb e=>(sb.2 b hb).trans e) f0 f1 f3 f4 f5
  obtain⟨o,e,c,d⟩:=id st'
  exact⟨u,rfl,BX (s:={ s with heap:=h' }) e c d (by decide) ⟨x,H,I1,ru,⟨rfl,λys hy=>by rw[I.tuple_inj hy hq];exact hx⟩,st',λb hb=>(hf b hb).1⟩⟩
 done:=by
  intro X hP hw hK hc i pins s σ H E I hf st hg
  subst hP hw hK
  obtain⟨xs,hq,hx⟩:=hg
  obtain⟨its,rv,p,hz⟩:=I.tuple hq
  obtain⟨f0,f1,f2,f3,f4,f5⟩:=hf it (by simp)
  have hl:=rv.length
  exact wpAny_pyNext_tuple_end (I.ok.hd hc) st (show s.heap.IsTuple a its.toArray from p) (by simp;lia) λh' eb=>⟨rfl,I.turned (t':=s.toks) (λb o hb e=>eb b o hb e) f0 f1 f3 f4 f5⟩
 self:=λ_ _ _ _ _ st h=>wpAny_pyIter_tupleiter st h
theorem vF{P:Program}{w:World}{K:AA2}{tg:Expr}(it:Addr)(lo:Int)(n:Nat):Turn P w K tg (Itr lo n) [it] it (λi h=>IsRangeIter h it (lo+(i:Nat)*1) ((n:Int)-(i:Nat)) 1) where
 mem:=by simp
 obj:=λi h st b hb=>by
  have e:b=it:=by simpa using hb
  subst e
  exact⟨_,st,λv z=>by
   have z':Data.fields _=Data.cell v:=z
   cases z'⟩
 keep:=λi h h' st k=>k it (by simp) _ st
 item:=by
  intro X hP hw hK hc i pins s σ H E I hf st hg
  subst hP hw hK
  obtain⟨f0,f1,f2,f3,f4,f5⟩:=hf it (by simp)
  have W:=Walks.range (prog:=X.prog) (w:=X.w) (I.ok.hd hc) it lo 1 n
  refine W.item i s _ _ hg st λv h' tk hv st' kk=>?_
  obtain⟨t,rfl⟩:=hv
  have I1:Inv X pins σ H { s with heap:=h',toks:=tk }:=I.turned (λb o hb e=>kk b o (by simpa using hb) e) f0 f1 f3 f4 f5
  refine⟨_,rfl,BX (s:={ s with heap:=h',toks:=tk }) (n:="range_iterator") st' rfl rfl (by decide) ⟨.int (lo+i),H,I1,⟨t,?_⟩,⟨rfl,rfl⟩,st',λb hb=>(hf b hb).1⟩⟩
  rw[Int.mul_one]
 done:=by
  intro X hP hw hK hc i pins s σ H E I hf st hg
  subst hP hw hK
  obtain⟨f0,f1,f2,f3,f4,f5⟩:=hf it (by simp)
  exact wpAny_pyNext_range_end (I.ok.hd hc) st (by have:n<=i:=hg;lia) λh' eb=>⟨rfl,I.turned (t':=s.toks) (λb o hb e=>eb b o hb e) f0 f1 f3 f4 f5⟩
 self:=λ_ _ _ _ _ st h=>wpAny_pyIter_rangeiter st h
theorem ux{pins:List (Addr×Obj)}{σ:St}{H:Hp}{s:Shared}{R:It->Hp->Prop}{E:Value->Shared->Prop}{lo hi:Int}{t u v:Tok}{tk:Nat}(I:Inv X pins σ H s)(h1:-(2 ^ 62)<=lo)(h2:lo<2 ^ 62)(h3:-(2 ^ 62)<=hi)(h4:hi<2 ^ 62)
  (q:R (Itr lo (hi-lo).toNat) H):wpAny (model X.prog X.w) X.A (pyIter (.ref s.heap.objs.size)) (PIE X pins σ tg R) E { s with heap:=s.heap.push { cls:=.type "range",data:=.fields #[.int lo t,.int hi u,.int 1 v] },toks:=tk }:=by
 refine wpAny_pyIter_range (IsRange.new ..) (small_one h1 h2 h3 h4) ?_
 have I1:Inv X pins σ H { s with heap:=s.heap.push { cls:=.type "range",data:=.fields #[.int lo t,.int hi u,.int 1 v] },toks:=tk }:=I.kept λb o e=>AA6 _ e
 refine⟨(s.heap.push { cls:=.type "range",data:=.fields #[.int lo t,.int hi u,.int 1 v] }).objs.size,[(s.heap.push { cls:=.type "range",data:=.fields #[.int lo t,.int hi u,.int 1 v] }).objs.size],_,_,H,rfl,
  I1.kept (t':=tk) λb o e=>AA6 _ e,vF _ lo (hi-lo).toNat,?_,λb hb=>?_,q⟩
 ·have e1:lo+((0:Nat):Int)*1=lo:=by simp
  have e2:(((hi-lo).toNat:Nat):Int)-((0:Nat):Int)=Builtin.Range.rangeSize lo hi 1:=by rw[rangeSize_one];split<;>lia
  show IsRangeIter _ _ (lo+((0:Nat):Int)*1) ((((hi-lo).toNat:Nat):Int)-((0:Nat):Int)) 1
  rw[e1,e2]
  exact AAE _ rfl
 ·have e:b=(s.heap.push { cls:=.type "range",data:=.fields #[.int lo t,.int hi u,.int 1 v] }).objs.size:=by simpa using hb
  subst e
  exact I1.fpOk (AAC _) (I1.hok.fresh (AAC _))
def Jv(ta:TA):TI:=λσ H R=>ta σ H λvs H1=>∃j:Int,vs=[.int j]/\-(2 ^ 62)<=j/\j<2 ^ 62/\R (Itr 0 j.toNat) H1
def iRng2(ta:TA):TI:=λσ H R=>ta σ H λvs H1=>∃i j:Int,vs=[.int i,.int j]/\(-(2 ^ 62)<=i/\i<2 ^ 62/\-(2 ^ 62)<=j/\j<2 ^ 62)/\R (Itr i (j-i).toNat) H1
theorem yf{a:Expr}{ta:TA}{p pos:Pos}(hg:Gl X "range")(hm:X.mg "range" = none)(ha:PA X [a] ta)(hs:starEach [a] X.env=[(false,eval a X.env)]:=by rfl):PI X tg (.Call (.Name "range" p) [a] [] pos) (Jv ta):=by
 intro pins s σ H R I h
 refine Call_ (gO I hg hm boot_range (ABz (thn (ha pos pins s σ H _ I h) ?_) hs rfl))
 rintro us s1 ⟨vs,H1,I1,r1,q1⟩
 obtain⟨j,e,q1,q2,q⟩:=q1
 subst e
 cases r1 with
 | cons r rr =>
  cases rr
  obtain⟨t,rfl⟩:=r
  exact call_range_1 (ux I1 (by lia) (by lia) q1 q2 (by simpa using q))
theorem ye(hg:Gl X "range")(hm:X.mg "range" = none)(ha:PA X [a,b] ta)(hs:starEach [a,b] X.env=[(false,eval a X.env),(false,eval b X.env)]:=by rfl)(hs2:starEach [b] X.env=[(false,eval b X.env)]:=by rfl) :
  PI X tg (.Call (.Name "range" p) [a,b] [] pos) (iRng2 ta):=by
 intro pins s σ H R I h
 refine Call_ (gO I hg hm boot_range (ABz (thn (ha pos pins s σ H _ I h) ?_) (by rw[hs,hs2]) (by rw[hs2];rfl)))
 rintro us s1 ⟨vs,H1,I1,r1,q1⟩
 obtain⟨i,j,e,⟨q1,q2,q3,q4⟩,q⟩:=q1
 subst e
 cases r1 with
 | cons r rr =>
  cases rr with
  | cons r' rr =>
   cases rr
   obtain⟨t,rfl⟩:=r
   obtain⟨t',rfl⟩:=r'
   exact call_range_2 (ux I1 q1 q2 q3 q4 q)
def tFor(wi:TI)(g:TG)(tb:TS):TS:=λD σ H=>wi σ H λJ H1=>∃W:Nat->Nat->St->Hp->Prop,(∃m,W 0 m σ H1)/\∀i m σ H,W i m σ H ->
 (J.stop i H/\D.nx σ H)\/(J.go i H/\∃N:St->Hp->Prop,(∀σ' H',N σ' H'->∃m',m' < m/\W (i+1) m' σ' H')/\∀x H',J.yld i H x H'->g x σ H' λσ2 H2=>tb { D with nx:=N,ct:=N,bk:=D.nx } σ2 H2)
noncomputable def gJ(fp:List Addr)(h:Heap):List (Addr×Obj):=fp.filterMap λb=>(h.get? b).map λo=>(b,o)
theorem fh(hb:b∈fp)(e:h.get? b=some o):(b,o)∈gJ fp h:=List.mem_filterMap.mpr ⟨b,hb,by rw[e];rfl⟩
theorem qk(hp:p∈gJ fp h):p.1∈fp/\h.get? p.1=some p.2:=by
 obtain⟨b,hb,e⟩:=List.mem_filterMap.mp hp
 cases q:h.get? b with
 | none=>rw[q]at e;cases e
 | some o =>
  rw[q]at e
  have e':(b,o)=p:=AAW e
  subst e'
  exact⟨hb,q⟩
theorem Inv.pinned(I:Inv X pins σ H s)(hf:∀b∈fp,rp X pins H b)(ho:∀b∈fp,∃o,s.heap.get? b=some o/\∀v,o.data≠.cell v):Inv X (pins++gJ fp s.heap) σ H s :=
 I.pins_of λp hp=>(AAL.mp hp).elim (λz=>I.pin p (AAR _ z)) λz=>by
  obtain⟨hb,e⟩:=qk z
  obtain⟨f0,f1,f2,_⟩:=hf p.1 hb
  obtain⟨o,e',d⟩:=ho p.1 hb
  rw[e]at e';cases e'
  exact⟨e,f0,f1,f2,d⟩
theorem Inv.unpinned(I:Inv X (pins++pl) σ H s):Inv X pins σ H s:=I.pins_of λp hp=>I.pin p (AAR _ (ABb _ hp))
theorem HQ(hp:PassesOwn (model X.prog X.w) X.A X.env X.xe)(hc:X.calm=true)(hi:PI X tg iter wi)(hg:PG X tg g)(hb:PSs X body tb)
  (hs:∀x,foldedSetIterable iter X.env x=pure x:=by intro _;rfl):PS X (.For tg iter body [] pos) (tFor wi g tb):=by
 intro pins s σ H D I h
 refine wpAny_For (thn (hi pins s σ H _ I h) λv s1 h1=>thn h1 λitv s2 h2=>?_) hs
 obtain⟨it,fp,tn,J,H2,e,I2,T,st2,f2,W,⟨m0,w0⟩,turn⟩:=h2
 subst e
 -- what stays true of the iterator's objects through the loop
 have stat:∀{H':Hp},(∀b∈fp,H' b=none)->∀b∈fp,rp X pins H' b:=λhn b hb=>⟨hn b hb,(f2 b hb).2⟩
 refine codeAny_forLoop_any (λn s'=>∃i σ' H',Inv X pins σ' H' s'/\tn i s'.heap/\(∀b∈fp,H' b=none)/\W i n σ' H') ?_ m0 ⟨0,σ,H2,I2,st2,λb hb=>(f2 b hb).1,w0⟩
 rintro n s3 ⟨i,σ3,H3,I3,st3,fr3,w3⟩
 rcases turn i n σ3 H3 w3 with⟨stop,qn⟩|⟨go,N,hN,step⟩
 ·refine AD7 hp (thn (T.done X rfl rfl rfl hc i pins s3 σ3 H3 X.xe I3 (stat fr3) st3 stop) ?_)
  rintro r s4 ⟨hr,I4⟩
  subst hr
  exact wpAny_execs_nil ⟨σ3,H3,I4,qn⟩
 ·refine AD7 hp (thn (T.item X rfl rfl rfl hc i pins s3 σ3 H3 X.xe I3 (stat fr3) st3 go) ?_)
  rintro r s4 ⟨u,hr,h4⟩
  subst hr
  refine AD7 hp (thn h4 ?_)
  rintro _ s5 ⟨x,H5,I5,r5,y5,st5,fr5⟩
  have I5':=I5.pinned (stat fr5) (T.obj _ _ st5)
  refine AD7 hp (thn (hg _ s5 σ3 H5 x u _ I5' r5 (step x H5 y5)) ?_)
  rintro _ s6 ⟨σ6,H6,I6,q6⟩
  refine AD7 hp (thn (hb _ s6 σ6 H6 _ I6 q6) λf s7 q7=>?_)
  have again:∀{σ7:St}{H7:Hp},Inv X (pins++gJ fp s5.heap) σ7 H7 s7->N σ7 H7->∃m,m<n/\∃i σ' H',Inv X pins σ' H' s7/\tn i s7.heap/\(∀b∈fp,H' b=none)/\W i m σ' H':=λ{σ7 H7} I7 n7=>by
   obtain⟨m',hm,w7⟩:=hN σ7 H7 n7
   refine⟨m',hm,i+1,σ7,H7,I7.unpinned,T.keep _ _ _ st5 λb hb o e=>(I7.pin (b,o) (AAR _ (AAR _ (fh hb e)))).1,λb hb=>?_,w7⟩
   obtain⟨o,e,d⟩:=T.obj _ _ st5 b hb
   exact(I7.pin (b,o) (AAR _ (AAR _ (fh hb e)))).2.1
  cases f with
  | next=>obtain⟨σ7,H7,I7,n7⟩:=q7;exact again I7 n7
  | cont=>obtain⟨σ7,H7,I7,n7⟩:=q7;exact again I7 n7
  | brk=>obtain⟨σ7,H7,I7,q7⟩:=q7;exact⟨σ7,H7,I7.unpinned,q7⟩
  | ret v=>obtain⟨x7,σ7,H7,I7,r7,q7⟩:=q7;exact⟨x7,σ7,H7,I7.unpinned,r7,q7⟩
abbrev R2:=V->V->Hp->VK->Prop
def OpR(X:Cx)(f:Value->Value->Sem Value)(r:R2):Prop :=
 ∀(pins:List (Addr×Obj)) (s:Shared) (σ:St) (H:Hp) (x y:V) (v u:Value) (Q:VK),Inv X pins σ H s->aU x v->aU y u->r x y H Q ->
  wpAny (model X.prog X.w) X.A (f v u) (EP X pins σ Q) X.xe s
def UnR(X:Cx)(f:Value->Sem Value)(r:V->Hp->VK->Prop):Prop :=
 ∀(pins:List (Addr×Obj)) (s:Shared) (σ:St) (H:Hp) (x:V) (v:Value) (Q:VK),Inv X pins σ H s->aU x v->r x H Q ->
  wpAny (model X.prog X.w) X.A (f v) (EP X pins σ Q) X.xe s
def fb(X:Cx)(f:Value)(r:List V->Hp->VK->Prop):Prop :=
 ∀(pins:List (Addr×Obj)) (s:Shared) (σ:St) (H:Hp) (xs:List V) (us:List Value) (Q:VK),Inv X pins σ H s->az xs us->r xs H Q ->
  wpAny (model X.prog X.w) X.A (call f us) (EP X pins σ Q) X.xe s
def tOp(r:R2)(ta tb:TE):TE:=λσ H Q=>ta σ H λx H1=>tb σ H1 λy H2=>r x y H2 Q
def rI(C:Int->Int->Prop)(g:Int->Int->V):R2:=λx y H Q=>∃i j,x=.int i/\y=.int j/\C i j/\Q (g i j) H
def rI0(g:Int->Int->V):R2:=λx y H Q=>∃i j,x=.int i/\y=.int j/\Q (g i j) H
theorem binT(ha:PE X a ta)(hb:PE X b tb){pins:List (Addr×Obj)}{s:Shared}{σ:St}{H:Hp}{R:V->V->Hp->Prop}(I:Inv X pins σ H s)
  (h:ta σ H λx H1=>tb σ H1 λy H2=>R x y H2) {Q:Value->Shared->Prop}{f:Value->Value->Sem Value}
  (hf:∀v u s2 x y H2,Inv X pins σ H2 s2->aU x v->aU y u->R x y H2->wpAny (model X.prog X.w) X.A (f v u) Q X.xe s2) :
  wpAny (model X.prog X.w) X.A (eval a X.env) (λv s₁=>wpAny (model X.prog X.w) X.A (eval b X.env) (λu s₂=>wpAny (model X.prog X.w) X.A (f v u) Q X.xe s₂) X.xe s₁) X.xe s:=by
 refine thn (ha pins s σ H _ I h) ?_
 rintro v s1 ⟨x,H1,I1,r1,q1⟩
 refine thn (hb pins s1 σ H1 _ I1 q1) ?_
 rintro u s2 ⟨y,H2,I2,r2,q2⟩
 exact hf v u s2 x y H2 I2 r1 r2 q2
theorem pe_op{op:Operator}{r:R2}(ho:OpR X (binaryOp op) r)(ha:PE X a ta)(hb:PE X b tb):PE X (.BinOp a op b pos) (tOp r ta tb):=by
 intro pins s σ H Q I h
 exact wpAny_BinOp (binT ha hb I h λv u s2 x y H2 I2 rx ry q=>ho pins s2 σ H2 x y v u Q I2 rx ry q)
theorem opI{f:Value->Value->Sem Value}{C:Int->Int->Prop}{g:Int->Int->Int}
  (rule:∀(i j:Int) (t u:Tok) (s:Shared) (Q:Value->Shared->Prop) (E:Value->Shared->Prop),C i j->Q (.int (g i j) s.toks) { s with toks:=s.toks+1 }->wpAny (model X.prog X.w) X.A (f (.int i t) (.int j u)) Q E s) :
  OpR X f (rI C λi j=>.int (g i j)):=by
 intro pins s σ H x y v u Q I rx ry h
 obtain⟨i,j,rfl,rfl,hc,q⟩:=h
 obtain⟨t,rfl⟩:=rx
 obtain⟨t',rfl⟩:=ry
 exact rule i j t t' s _ _ hc ⟨.int (g i j),H,I.tok _,⟨_,rfl⟩,q⟩
theorem opI0{f:Value->Value->Sem Value}{g:Int->Int->Int}
  (rule:∀(i j:Int) (t u:Tok) (s:Shared) (Q:Value->Shared->Prop) (E:Value->Shared->Prop),Q (.int (g i j) s.toks) { s with toks:=s.toks+1 }->wpAny (model X.prog X.w) X.A (f (.int i t) (.int j u)) Q E s) :
  OpR X f (rI0 λi j=>.int (g i j)):=by
 intro pins s σ H x y v u Q I rx ry h
 obtain⟨i,j,rfl,rfl,q⟩:=h
 obtain⟨t,rfl⟩:=rx
 obtain⟨t',rfl⟩:=ry
 exact rule i j t t' s _ _ ⟨.int (g i j),H,I.tok _,⟨_,rfl⟩,q⟩
theorem opB0{f:Value->Value->Sem Value}{g:Int->Int->Bool}
  (rule:∀(i j:Int) (t u:Tok) (s:Shared) (Q:Value->Shared->Prop) (E:Value->Shared->Prop),Q (.bool (g i j)) s->wpAny (model X.prog X.w) X.A (f (.int i t) (.int j u)) Q E s) :
  OpR X f (rI0 λi j=>.bl (g i j)):=by
 intro pins s σ H x y v u Q I rx ry h
 obtain⟨i,j,rfl,rfl,q⟩:=h
 obtain⟨t,rfl⟩:=rx
 obtain⟨t',rfl⟩:=ry
 exact rule i j t t' s _ _ ⟨.bl (g i j),H,I,rfl,q⟩
def CPow(i j:Int):Prop:=0<=j/\j<=1000000/\i.natAbs<2 ^ 64
def CMul(i j:Int):Prop:=(-(2 ^ 64)<i/\i<2 ^ 64)\/(-(2 ^ 64)<j/\j<2 ^ 64)
theorem CMul.ok(h:CMul i j):IntMulOk i j:=by
 rcases h with⟨h1,h2⟩|⟨h1,h2⟩
 ·exact .of_left (intBits_le_64 h1 h2)
 ·exact .of_right (intBits_le_64 h1 h2)
theorem IA:OpR X (binaryOp .Add) (rI0 λi j=>.int (i+j)):=opI0 λ_ _ _ _ _ _ _ q=>add_int q
theorem Iu:OpR X (binaryOp .Sub) (rI0 λi j=>.int (i-j)):=opI0 λ_ _ _ _ _ _ _ q=>sub_int q
theorem Iw:OpR X (binaryOp .Mult) (rI CMul λi j=>.int (i*j)):=opI λ_ _ _ _ _ _ _ hc q=>mul_int q hc.ok
theorem Iy:OpR X (binaryOp .Mod) (rI (λ_ j=>0<j) λi j=>.int (i % j)):=opI λi j _ _ _ _ _ hc q=>by
 have h1:(0:Int)<j:=hc
 exact mod_int' (by lia) (by rw[Int.fmod_eq_emod_of_nonneg i (by lia)];exact q)
theorem Iv:OpR X (binaryOp .Pow) (rI CPow λi j=>.int (i ^ j.toNat)):=opI λ_ _ _ _ _ _ _ hc q=>pow_int_small hc.1 hc.2.1 hc.2.2 q
theorem op_lt:OpR X (compareOp .Lt) (rI0 λi j=>.bl (decide (i<j))):=opB0 λ_ _ _ _ _ _ _ q=>lt_int q
theorem op_le:OpR X (compareOp .LtE) (rI0 λi j=>.bl (decide (i<=j))):=opB0 λ_ _ _ _ _ _ _ q=>le_int q
theorem op_gt:OpR X (compareOp .Gt) (rI0 λi j=>.bl (decide (j<i))):=opB0 λ_ _ _ _ _ _ _ q=>gt_int q
theorem op_ge:OpR X (compareOp .GtE) (rI0 λi j=>.bl (decide (j<=i))):=opB0 λ_ _ _ _ _ _ _ q=>ge_int q
theorem OpR.or(h:OpR X f r)(h':OpR X f r'):OpR X f (λx y H Q=>r x y H Q\/r' x y H Q):=by
 intro pins s σ H x y v u Q I rx ry q
 rcases q with q | q
 ·exact h pins s σ H x y v u Q I rx ry q
 ·exact h' pins s σ H x y v u Q I rx ry q
theorem Et(ho:OpR X (compareOp op) r)(ha:PE X a ta)(hb:PE X b tb)(hm:behindInMarks op b=false):PE X (.Compare a [op] [b] pos) (tOp r ta tb):=by
 intro pins s σ H Q I h
 exact wpAny_Compare1 (binT ha hb I h λv u s2 x y H2 I2 rx ry q=>ho pins s2 σ H2 x y v u Q I2 rx ry q) hm
def Hf(t:TE):TT:=λσ H Q=>t σ H λx H'=>∃k,x=.bl k/\Q k H'
theorem yc(ho:OpR X (compareOp op) r)(ha:PE X a ta)(hb:PE X b tb)(hm:behindInMarks op b=false):PT X (.Compare a [op] [b] pos) (Hf (tOp r ta tb)):=by
 intro pins s σ H Q I h
 refine wpAny_isTrue_Compare1 (thn (ha pins s σ H _ I h) λv s1 ⟨x,H1,I1,r1,q1⟩=>thn (hb pins s1 σ H1 _ I1 q1) λu s2 ⟨y,H2,I2,r2,q2⟩ =>
  thn (ho pins s2 σ H2 x y v u _ I2 r1 r2 q2) λc s3 ⟨z,H3,I3,r3,k,e,q3⟩=>?_) hm
 subst e
 cases r3
 exact ABv ⟨H3,I3,q3⟩
def CU(r r':R2)(ta tb tc:TE):TE:=λσ H Q=>ta σ H λx H1=>tb σ H1 λy H2=>r x y H2 λz H3=>∃k,z=.bl k /\
 (if k=true then tc σ H3 λw' H4=>r' y w' H4 Q else Q (.bl false) H3)
theorem AZ(ho:OpR X (compareOp op) r)(ho':OpR X (compareOp op') r')(ha:PE X a ta)(hb:PE X b tb)(hc:PE X c tc)
  (hm:lastMarks [op,op'] [b,c]=false:=by with_unfolding_all rfl):PE X (.Compare a [op,op'] [b,c] pos) (CU r r' ta tb tc):=by
 intro pins s σ H Q I h
 refine Compare_chain (thn (ha pins s σ H _ I h) λv s1 ⟨x,H1,I1,r1,q1⟩=>chain_link (thn (hb pins s1 σ H1 _ I1 q1) λu s2 ⟨y,H2,I2,r2,q2⟩ =>
  thn (ho pins s2 σ H2 x y v u _ I2 r1 r2 q2) λd s3 ⟨z,H3,I3,r3,k,e,q3⟩=>?_)) hm
 subst e
 cases r3
 refine ABv ?_
 cases k with
 | false=>exact ite_ff ⟨.bl false,H3,I3,rfl,q3⟩
 | true=>exact ite_tt (chain_last (thn (hc pins s3 σ H3 _ I3 q3) λw' s4 ⟨z',H4,I4,r4,q4⟩=>ho' pins s4 σ H4 y z' u w' Q I4 r2 r4 q4))
theorem mB:(sizeLine:Nat)<2 ^ 63:=by rw[ABa];decide
theorem vN:OpR X (binaryOp .Add) (λx y H Q=>∃i j,x=.str i/\y=.str j/\i.length+j.length<=sizeLine/\Q (.str (i++j)) H):=by
 intro pins s σ H x y v u Q I rx ry h
 obtain⟨i,j,rfl,rfl,hz,q⟩:=h
 obtain⟨t,rfl⟩:=rx
 obtain⟨t',rfl⟩:=ry
 exact add_str (λt' tk=>⟨.str (i++j),H,I.tok _,⟨_,rfl⟩,q⟩) hz
theorem AB(r:az [x] us):∃u,us=[u]/\aU x u:=by
 cases r with
 | cons r1 r2=>cases r2;exact⟨_,rfl,r1⟩
theorem CA:fb X (.builtin "ord") (λxs H Q=>∃x,xs=[.str x]/\x.length=1/\Q (.int (x.cps.getD 0 0:Nat)) H):=by
 intro pins s σ H xs us Q I r h
 obtain⟨x,rfl,hz,q⟩:=h
 obtain⟨u,rfl,t,rfl⟩:=AB r
 exact ord_of_one hz ⟨.int _,H,I.tok _,⟨_,rfl⟩,q⟩
structure ObjM(h:Heap)(x dx C:Addr)(mA:Str->Option Value):Prop where
 obj:h.get? x=some (ABx C dx)
 ns:h.Ns1 dx mA
 ne:dx≠x
theorem yR{h:Heap}{dx:Addr}{mA:Str->Option Value}(n:h.Ns1 dx mA):∃od,h.get? dx=some od/\∀name,AE9 name od=some (mA name):=by
 obtain⟨o,es,ep,ho,hd,hk,_,hm⟩:=n
 refine⟨o,ho,λname=>?_⟩
 have e:=hm name
 unfold nsFind findBy at e
 rw[<-Array.find?_toList]at e
 unfold AE9
 rw[hd]
 dsimp only
 split
 ·rename_i y q
  rw[q]at e
  exact congrArg some e
 ·rename_i q
  rw[q]at e
  have a:es.toList.any (·.refKey)=false:=by
   rw[List.any_eq_false]
   intro y hy
   obtain⟨z,t,hkey⟩:=hk y (Array.mem_toList_iff.mp hy)
   simp[DictEntry.refKey,hkey]
  have a':¬es.toList.any (·.refKey)=true:=by rw[a];exact AAc
  rw[if_neg a']
  exact congrArg some e
theorem ObjM.look(I:ObjM h x dx C mA):∃od,PySem.W.InstAt h x (ABx C dx) C (some od)/\∀name,AE9 name od=some (mA name) :=
 let ⟨od,ho,hl⟩:=yR I.ns
 ⟨od,⟨I.obj,rfl,rfl,ho⟩,hl⟩
section
variable{prog:Program}{w:World}{A:Around}{E:Value->Shared->Prop}{s:Shared}{K:AA2}{x dx C f:Addr}{mA:Str->Option Value}{name:Str}{v:Value}
theorem FS(X:K.In s.heap)(I:ObjM s.heap x dx C mA)(hg:AC6 K C name=true)(hh:ACK K C=true)
  (ha:AAw K (.ref C) name=some none) (hv:mA name=some v) (hv':PySem.W.handedIn v=true) (h:Q v { s with toks:=s.toks+1 }) :
  wpAny (model prog w) A (getAttr (.ref x) name expr) Q E s:=by
 obtain⟨od,J,hl⟩:=I.look
 exact PySem.W.get_value X J (ADl hg).1 (PySem.W.findObj_own hh ha rfl (by rw[hl,hv])) hv' h
theorem BY(X:K.In s.heap)(I:ObjM s.heap x dx C mA)(hg:AC6 K C name=true)
  (hf:AAw K (.ref C) name=some (some (.ref f))) (ht:AE3 K (.ref f)=true) (hv:mA name=none) (h:Q (.ref f,[.ref x]) s) :
  wpAny (model prog w) A (getMethod (.ref x) name pl) Q E s:=by
 obtain⟨od,J,hl⟩:=I.look
 exact PySem.W.method_fn X J (ADl hg).1 (ADl hg).2 hf (beq_iff_eq.mp ht) (by show (AE9 name od).map (·.isSome)=some false;rw[hl,hv];rfl) h
theorem DY(X:K.In s.heap)(I:ObjM s.heap x dx C mA)
  (hs:AAw K (.ref C) "__setattr__" = some (some (.builtin "object.__setattr__"))) (hp:ACn K C=true) (ht:PySem.W.takerIn K C name=some none) (hh:ACK K C=true)
  (hw:PySem.Within mA ns) (hsz:ns.length<=sizeLine)
  (h:∀h',ObjM h' x dx C (λy=>if y=name then some v else mA y)->ABt dx s.heap h'->Q () { s with heap:=h',toks:=s.toks+2 }) :
  wpAny (model prog w) A (setAttr (.ref x) name v) Q E s:=by
 obtain⟨od,J,hl⟩:=I.look
 refine PySem.W.set_plain X J hs (PySem.W.osa_open (s:={ s with toks:=s.toks+1 }) (r:=none) X J hp ht λb=>?_)
 obtain⟨cd,hc,hd'⟩:=PySem.W.any_some hh
 have hx:s.heap.get? x=some ⟨.ref C,some dx,.plain,#[]⟩:=I.obj
 refine AA0 (AA7 (AA0 (AA0 (wpAny_loadPart hx (AA0 (PySem.W.Looks.here (s:={ s with toks:=s.toks+1 }) (PySem.W.looks_clsIn X hc) ?_))))))
 rw[hd']
 refine AA7 (a:=some dx) (AA0 (AA7 (AA0 ?_)))
 refine wpAny_nsSet1 (s:={ s with toks:=s.toks+1 }) I.ns λh' hn2 hs2=>?_
 obtain⟨oD,esD,epD,hoD,hdD,hcD⟩:=hn2.count (PySem.Within.cons name v hw)
 refine AA0 (wpAny_lookBehind hoD (by rw[hdD];exact pastItsLine_dict (AAp hcD (by rw[AAD];lia))) ?_)
 exact AA7 (h _ ⟨(hs2.2 _ (AAt I.ne)).trans I.obj,hn2,I.ne⟩ hs2)
theorem Bq(X:K.In s.heap)(hm:PySem.W.makesIn K C=true)
  (hi:AAw K (.ref C) "__init__" = some (some (.ref f))) (hf:PySem.W.typeIn K (.ref f)=some (.type "function"))
  (h:codeAny (model prog w) (A.under (.builtin "type.__call__" ⟨.ref C::vs,kw⟩)) (.call (.ref f) ⟨.ref (s.heap.objs.size+1)::vs,kw⟩) (PySem.W.InitBack (s.heap.objs.size+1) R)
   { s with heap:=(s.heap.push ABU).push (ABx C s.heap.objs.size) }) :
  codeAny (model prog w) A (.call (.ref C) ⟨vs,kw⟩) R s:=by
 obtain⟨hh,g,d,t,os⟩:=s
 exact PySem.W.make_core (PySem.W.makes_of X hm) (PySem.W.looks_findIn X hi) (λself=>PySem.W.bind_fn X self hf) (.inl rfl) h
end
noncomputable def oh(f:Str)(v:V):List (Str×V)->List (Str×V)
 | []=>[(f,v)]
 | (g,x)::r=>if g=f then(g,v)::r else(g,x)::oh f v r
theorem kJ(f g:Str)(v:V):∀fs:List (Str×V),(oh f v fs).lookup g=if g=f then some v else fs.lookup g
 | []=>by
  show ACU g [(f,v)]=_
  by_cases h:g=f
  ·have hb:(g==f)=true:=beq_iff_eq.mpr h
   simp only[ACU,hb,if_pos h]
  ·have hb:(g==f)=false:=beq_eq_false_iff_ne.mpr h
   simp only[ACU,hb,if_neg h]
 | (k,x)::r=>by
  have ih:=kJ f g v r
  rw[show oh f v ((k,x)::r)=(if k=f then(k,v)::r else(k,x)::oh f v r)from rfl]
  by_cases hk:k=f
  ·rw[if_pos hk]
   by_cases h:g=k
   ·have hb:(g==k)=true:=beq_iff_eq.mpr h
    simp only[ACU,hb,if_pos (h.trans hk)]
   ·have hb:(g==k)=false:=beq_eq_false_iff_ne.mpr h
    simp only[ACU,hb,if_neg (λe:g=f=>h (e.trans hk.symm))]
  ·rw[if_neg hk]
   by_cases h:g=k
   ·have hb:(g==k)=true:=beq_iff_eq.mpr h
    simp only[ACU,hb,if_neg (λe:g=f=>hk (h.symm.trans e))]
   ·have hb:(g==k)=false:=beq_eq_false_iff_ne.mpr h
    simp only[ACU,hb]
    exact ih
theorem kO(f:Str)(v:V):∀fs:List (Str×V),f∈(oh f v fs).map (·.1)/\∀g,g∈fs.map (·.1)->g∈(oh f v fs).map (·.1)
 | []=>⟨by simp[oh],λg h=>by simp at h⟩
 | (k,x)::r=>by
  obtain⟨i1,i2⟩:=kO f v r
  rw[show oh f v ((k,x)::r)=(if k=f then(k,v)::r else(k,x)::oh f v r)from rfl]
  by_cases hk:k=f
  ·rw[if_pos hk]
   subst hk
   exact⟨by simp,λg h=>by simpa using h⟩
  ·rw[if_neg hk]
   refine⟨?_,λg h=>?_⟩
   ·rw[AAH]
    exact AA8 _ i1
   ·rw[AAH]at h ⊢
    rcases AAF.mp h with e | e
    ·exact List.mem_cons.mpr (.inl e)
    ·exact AA8 _ (i2 g e)
theorem kK(f:Str)(v:V):∀fs:List (Str×V),(oh f v fs).length<=fs.length+1
 | []=>by simp[oh]
 | (k,x)::r=>by
  have ih:=kK f v r
  rw[show oh f v ((k,x)::r)=(if k=f then(k,v)::r else(k,x)::oh f v r)from rfl]
  by_cases hk:k=f
  ·rw[if_pos hk,AAD,AAD];lia
  ·rw[if_neg hk,AAD,AAD];lia
theorem wG.some_of(r:wG (some v) o):∃u,o=some u/\aU v u:=by
 cases o with
 | none=>exact(show False from r).elim
 | some u=>exact⟨u,rfl,r⟩
theorem wG.none_of(r:wG none o):o=none:=by
 cases o with
 | none=>rfl
 | some u=>exact(show False from r).elim
theorem zJ(r:aU v u):PySem.W.handedIn u=true:=by
 cases v with
 | non=>cases (show u=ABO from r);rfl
 | bl b=>cases (show u=ADj b from r);rfl
 | int i=>obtain⟨t,e⟩:=(show ∃t,u=Value.int i t from r);cases e;rfl
 | str x=>obtain⟨t,e⟩:=(show ∃t,u=Value.str x t from r);cases e;rfl
 | byt b=>obtain⟨t,e⟩:=(show ∃t,u=Value.bytes b t from r);cases e;rfl
 | flt b=>obtain⟨t,e⟩:=(show ∃t,u=Value.float b t from r);cases e;rfl
 | ref a=>cases (show u=AB3 a from r);rfl
 | ty n=>cases (show u=AEC n from r);rfl
theorem sT(hok:HOk P w H h)(e:H a=some (.ins C dx fs)):∃mA,ObjM h a dx C mA/\(∀f,wG (fs.lookup f) (mA f))/\PySem.Within mA (fs.map (·.1))/\fs.length<=1000/\H dx=some (.own a):=by
 obtain⟨d,z,ne,ob,mA,n,r,q⟩:=(show bP P w H h a (.ins C dx fs)from hok a _ e)
 exact⟨mA,⟨ob,n,ne⟩,r,q,z,d⟩
structure Cls(K:AA2)(C:Addr):Prop where
 pg:AC6 K C Str.empty=true
 hd:ACK K C=true
 po:ACn K C=true
 sa:AAw K (.ref C) "__setattr__" = some (some (.builtin "object.__setattr__"))
theorem Cls.get{K:AA2}{C:Addr}(c:Cls K C)(f:Str):AC6 K C f=true:=c.pg
def ln(K:AA2)(C:Addr)(f:Str):Prop:=AAw K (.ref C) f=some none
theorem ln.taker{K:AA2}{C:Addr}{f:Str}(n:ln K C f):PySem.W.takerIn K C f=some none:=by
 unfold PySem.W.takerIn
 rw[show AAw K (.ref C) f=some none from n]
 rfl
structure Con(K:AA2)(C:Addr)(f:Str)(v:V)(u:Value):Prop where
 at_:AAw K (.ref C) f=some (some u)
 rel:aU v u
 get:PySem.W.specialIn K u "__get__" = some none
 cp:PySem.W.copiedNames.contains f=false
structure Meth(K:AA2)(C:Addr)(m:Str)(f:Addr):Prop where
 at_:AAw K (.ref C) m=some (some (.ref f))
 fn:AE3 K (.ref f)=true
 kp:ABY K (.ref f)=true
theorem wv(I:Inv X pins σ H s)(e:H a=some (.ins C dx fs))(c:Cls X.K C)(n:ln X.K C f)(l:fs.lookup f=some v)
  (h:∀u s',Inv X pins σ H s'->aU v u->Q u s'):wpAny (model X.prog X.w) A (getAttr (.ref a) f b) Q E s:=by
 obtain⟨mA,O,r,_,_,_⟩:=sT I.hok e
 obtain⟨u,hu,ru⟩:=wG.some_of (v:=v) (o:=mA f) (by rw[<-l];exact r f)
 exact FS I.kIn O (c.get f) c.hd n hu (zJ ru) (h u _ (I.tok _) ru)
theorem wu(I:Inv X pins σ H s)(e:H a=some (.ins C dx fs))(c:Cls X.K C)(k:Meth X.K C m g)(l:fs.lookup m=none)
  (h:Q (.ref g,[.ref a]) s):wpAny (model X.prog X.w) A (getMethod (.ref a) m pl) Q E s:=by
 obtain⟨mA,O,r,_,_,_⟩:=sT I.hok e
 have hn:mA m=none:=wG.none_of (by rw[<-l];exact r m)
 exact BY I.kIn O (c.get m) k.at_ k.fn hn h
theorem vI(I:Inv X pins σ H s)(e:H a=some (.ins C dx fs))(c:Cls X.K C)(n:ln X.K C f)(hl:fs.length<1000)(ry:aU y u)
  (h:∀s',Inv X pins σ (upd H a (.ins C dx (oh f y fs))) s'->Q () s'):wpAny (model X.prog X.w) A (setAttr (.ref a) f u) Q E s:=by
 obtain⟨mA,O,r,wi,_,ho⟩:=sT I.hok e
 have hz:(fs.map (·.1)).length<=sizeLine:=by rw[AA4,ABa];lia
 refine DY I.kIn O c.sa c.po n.taker c.hd wi hz λh' O' sb=>h _ ?_
 have hd:∃o,h'.get? dx=some o:=let ⟨o,_,_,e',_⟩:=O'.ns;⟨o,e'⟩
 refine I.write (x:=a) (e:=dx) (by rw[e];exact ACL) (.inr ho) (λb q hb z=>(sb.2 b hb).trans z) hd ?_
 refine⟨by rw[av O.ne];exact ho,?_,O.ne,O'.obj,_,O'.ns,λg=>?_,λg hg=>?_⟩
 ·have:=kK f y fs;lia
 ·show wG ((oh f y fs).lookup g) (if g=f then some u else mA g)
  rw[kJ]
  by_cases q:g=f
  ·rw[if_pos q,if_pos q];exact ry
  ·rw[if_neg q,if_neg q];exact r g
 ·by_cases q:g=f
  ·rw[q];exact(kO f y fs).1
  ·refine(kO f y fs).2 g (wi g λz=>hg ?_)
   show (if g=f then some u else mA g)=none
   rw[if_neg q];exact z
theorem Inv.made(I:Inv X pins σ H s):Inv X pins σ (upd (upd H s.heap.objs.size (.own (s.heap.objs.size+1))) (s.heap.objs.size+1) (.ins C s.heap.objs.size []))
  { s with heap:=(s.heap.push ABU).push (ABx C s.heap.objs.size) }:=by
 have e1:(s.heap.push ABU).get? s.heap.objs.size=some ABU:=AAE s.heap rfl
 have e2:((s.heap.push ABU).push (ABx C s.heap.objs.size)).get? (s.heap.objs.size+1)=some (ABx C s.heap.objs.size):=by
  have:=AAE (s.heap.push ABU) (o:=ABx C s.heap.objs.size) rfl
  rwa [ABZ]at this
 have e3:(s.heap.push ABU).Ns s.heap.objs.size (λ_=>none):=⟨ABU,#[],_,e1,rfl,(λe he=>absurd he (by simp)),λ_=>rfl⟩
 have I1:=I.laid (a:=s.heap.objs.size) (o:=.own (s.heap.objs.size+1)) (h':=s.heap.push ABU) (t':=s.toks) (λb u q=>AA6 _ q) (AAC _) ⟨_,e1⟩
 refine I1.laid (a:=s.heap.objs.size+1) (o:=.ins C s.heap.objs.size []) (t':=s.toks) (λb u q=>AA6 _ q) (Nat.le_of_eq (ABZ _ _)) ?_
 have ne:s.heap.objs.size≠s.heap.objs.size+1:=AAQ (AC7 _)
 refine⟨by rw[av ne,aL],AAV _,ne,e2,λ_=>none,(Heap.Ns1.of_empty e3).at λo q=>AA6 _ q,λ_=>ACL,λy hy=>absurd rfl hy⟩
theorem GG(hb:attributeBase e f env (eval e env)=eval e env)
  (h:wpAny (model prog w) A (eval e env) (λo s₁=>wpAny (model prog w) A (getAttr o f true) Q E s₁) E s):wpAny (model prog w) A (eval (.Attribute e f pos) env) Q E s :=
 Attribute_any_ h (by rw[arm_eval_Attribute,hb])
def tFld(K:AA2)(ta:TE)(f:Str):TE:=λσ H Q=>ta σ H λx H1=>∃a C dx fs v,x=.ref a/\H1 a=some (.ins C dx fs)/\Cls K C/\ln K C f/\fs.lookup f=some v/\Q v H1
def sFld(K:AA2)(ta tv:TE)(f:Str):TS:=λD σ H=>tv σ H λy H1=>ta σ H1 λx H2=>∃a C dx fs,x=.ref a/\H2 a=some (.ins C dx fs)/\Cls K C/\ln K C f/\fs.length<1000 /\
 D.nx σ (upd H2 a (.ins C dx (oh f y fs)))
theorem Ik(he:PE X e ta)(hb:attributeBase e f X.env (eval e X.env)=eval e X.env):PE X (.Attribute e f pos) (tFld X.K ta f):=by
 intro pins s σ H Q I h
 refine GG hb (thn (he pins s σ H _ I h) ?_)
 rintro u s1 ⟨x,H1,I1,rx,a,C,dx,fs,v,ex,ea,c,n,l,q⟩
 subst ex
 obtain rfl:u=AB3 a:=rx
 exact wv I1 ea c n l λu' s2 I2 ru=>⟨v,H1,I2,ru,q⟩
theorem HR(ha:PE X o ta)(hv:PE X value tv)(hs:swapsWith value (some (.Attribute o f pos')) pos.line X.env=pure false):PS X (.Assign [.Attribute o f pos'] value pos) (sFld X.K ta tv f):=by
 intro pins s σ H D I h
 refine plainObj_wpAny_Assign_Attribute (thn (hv pins s σ H _ I h) λu s1 ⟨y,H1,I1,ry,q⟩=>thn (ha pins s1 σ H1 _ I1 q) ?_) hs
 rintro ov s2 ⟨x,H2,I2,rx,a,C,dx,fs,ex,ea,c,n,l,q2⟩
 subst ex
 obtain rfl:ov=AB3 a:=rx
 exact vI I2 ea c n l ry λs3 I3=>⟨σ,_,I3,q2⟩
inductive TyOf(K:AA2)(H:Hp):V->Value->Prop where
 | non:TyOf K H .non (.type "NoneType")
 | bl (x:Bool):TyOf K H (.bl x) (.type "bool")
 | int (i:Int):TyOf K H (.int i) (.type "int")
 | str (x:Str):TyOf K H (.str x) (.type "str")
 | flt (x:UInt64):TyOf K H (.flt x) (.type "float")
 | lst {a:Addr}{xs:List V} (e:H a=some (.lst xs)):TyOf K H (.ref a) (.type "list")
 | frz {a:Addr}{o:Obj}{xs:List V} (e:H a=some (.frz o (.lst xs))):TyOf K H (.ref a) (.type "list")
 | tup {a:Addr}{xs:List V} (e:H a=some (.tup xs)):TyOf K H (.ref a) (.type "tuple")
 | dK {a:Addr}{kvs:List (Key×V)} (e:H a=some (.dK kvs)):TyOf K H (.ref a) (.type "dict")
 | dT {a:Addr}{kvs:List (List Key×V)} (e:H a=some (.dT kvs)):TyOf K H (.ref a) (.type "dict")
 | ins {a C dx:Addr}{fs:List (Str×V)} (e:H a=some (.ins C dx fs)) (cl:Cls K C) (ha:AAw K (.ref C) "__class__" = some (some (.builtin "object.__class__")))
   (hn:PySem.W.specialIn K (.builtin "object.__class__") "__get__" = some (some (.builtin "getset_descriptor.__get__"))) (htk:PySem.W.takesIn K (.builtin "object.__class__")=some true)
   (hm:PySem.W.mroIn K C (.type "object")=some true):TyOf K H (.ref a) (.ref C)
structure Room(k:Nat)(A:Around):Prop where
 hd:A.handled=none
 dp:A.depth+3*k+5<recursionLimit
 un:A.units+16*k+200<cLine
theorem Room.mono(r:Room k A)(h:j<=k):Room j A:=⟨r.hd,by have:=r.dp;lia,by have:=r.un;lia⟩
theorem Room.deeper(r:Room (k+1) A)(env:Env):Room k (A.deeper env) :=
 ⟨r.hd,by have:=r.dp;show A.depth+1+3*k+5<_;lia,by have:=r.un;show A.units+3+16*k+200<_;lia⟩
theorem Room.in1(r:Room (k+1) A):Room k A.in1 :=
 ⟨r.hd,by have:=r.dp;show A.depth+3*k+5<_;lia,by have:=r.un;show A.units+1+16*k+200<_;lia⟩
theorem vZ{A:Around}{C:Addr}{us:List Value}{kw:List (Str×Value)}:(A.under (.builtin "type.__call__" ⟨.ref C::us,kw⟩)).depth=A.depth+1:=by
 first | rfl | simp[Around.under,Code.weight,Code.isCreation,Code.isGuard,Code.isCaller,Code.frames,Code.isFrame,guardIds]
theorem vY{A:Around}{C:Addr}{us:List Value}{kw:List (Str×Value)}:(A.under (.builtin "type.__call__" ⟨.ref C::us,kw⟩)).units=A.units+1:=by
 first | rfl | simp[Around.under,Code.cUnits,Code.frames,Code.isFrame]
theorem Room.make(r:Room (k+1) A)(C:Addr)(us:List Value)(kw:List (Str×Value)):Room k (A.under (.builtin "type.__call__" ⟨.ref C::us,kw⟩)) :=
 ⟨r.hd,by have:=r.dp;rw[vZ];lia,by have:=r.un;rw[vY];lia⟩
theorem Room.depth(r:Room k A):A.depth<recursionLimit:=by have:=r.dp;lia
def tNil:TA:=λ_ H Q=>Q [] H
def tCons(ta:TE)(tr:TA):TA:=λσ H Q=>ta σ H λx H1=>tr σ H1 λxs H2=>Q (x::xs) H2
theorem Ir:PA X [] tNil:=λ_ _ _ _ H Q I h=>Calls.spliced_nil ⟨[],H,I,.nil,h⟩
theorem Ez(ha:PE X e te)(hr:PA X es t)(hs:starEach (e::es) X.env=(false,eval e X.env)::starEach es X.env:=by rfl):PA X (e::es) (tCons te t):=by
 intro pos pins s σ H Q I h
 rw[hs]
 show wpAny _ _ (spliced ((false,eval e X.env)::backTo pos (starEach es X.env))) _ _ s
 refine AE4 (thn (ha pins s σ H _ I h) ?_)
 rintro u s1 ⟨x,H1,I1,r1,q1⟩
 refine thn (hr pos pins s1 σ H1 _ I1 q1) ?_
 rintro us s2 ⟨xs,H2,I2,r2,q2⟩
 exact⟨x::xs,H2,I2,.cons r1 r2,q2⟩
def tTup(t:TA):TE:=λσ H Q=>t σ H λxs H1=>xs.length<=sizeLine/\∀p,H1 p=none->Q (.ref p) (upd H1 p (.tup xs))
def tLst(t:TA):TE:=λσ H Q=>t σ H λxs H1=>xs.length<=sizeLine/\∀p,H1 p=none->Q (.ref p) (upd H1 p (.lst xs))
theorem HZ{x1}(h:PA X es t):PE X (.Tuple es x1 pos) (tTup t):=by
 intro pins s σ H Q I hq
 refine wpAny_Tuple_spliced (thn (h pos pins s σ H _ I hq) λus s1 ⟨xs,H1,I1,r,z,q⟩=>⟨by rw[<-r.length];exact z,?_⟩)
 have hf:H1 s1.heap.objs.size=none:=I1.hok.fresh (AAC _)
 refine⟨.ref s1.heap.objs.size,upd H1 s1.heap.objs.size (.tup xs),I1.laid (t':=s1.toks) (λb u e=>AA6 _ e) (AAC _) ?_,rfl,q _ hf⟩
 exact⟨z,us,r,⟨_,AAE _ rfl,rfl,⟨_,rfl⟩,rfl⟩⟩
theorem Ig(h:PA X es t):PE X (.List es pos) (tLst t):=by
 intro pins s σ H Q I hq
 refine wpAny_List_spliced (thn (h pos pins s σ H _ I hq) λus s1 ⟨xs,H1,I1,r,z,q⟩=>⟨by rw[<-r.length];exact z,?_⟩)
 have hf:H1 s1.heap.objs.size=none:=I1.hok.fresh (AAC _)
 refine⟨.ref s1.heap.objs.size,upd H1 s1.heap.objs.size (.lst xs),I1.laid (t':=s1.toks) (λb u e=>AA6 _ e) (AAC _) ?_,rfl,q _ hf⟩
 exact⟨z,us,0,r,AAE _ rfl⟩
abbrev Sp:=List V->Hp->VK->XK->Prop
abbrev CXT:=List Env->Hp->Shared->XK->Value->Shared->Prop
structure Env0(P:Program)(w:World)(K:AA2)(mg:Str->Option Value)(base:Heap)(A:Around)(outer:List Env)(s:Shared)(H:Hp):Prop where
 frames:A.frames=some outer
 mod:Mod K mg base
 bs:∀b o,base.get? b=some o->s.heap.get? b=some o/\H b=none
 bsz:base.objs.size<=s.heap.objs.size
 funs:s.heap.FunFrames base outer
 frf:∀b∈frs outer,H b=none
 hok:HOk P w H s.heap
 bare:AllBare s.gens
inductive CE(outer:List Env)(P:Program)(w:World)(H:Hp)(s:Shared)(Q:VK)(u:Value)(s':Shared):Prop
 | mk (v:_) (H':_) (f0:s'.os=s.os) (f1:AllBare s'.gens) (f2:Un (frs outer) [] H H' s.heap s'.heap) (f3:HOk P w H' s'.heap) (f4:aU v u) (f5:Q v H')
def CR(CX:CXT)(outer:List Env)(P:Program)(w:World)(H:Hp)(s:Shared)(Q:VK)(E:XK)(r:Result)(s':Shared):Prop :=
 match r with
 | .ok (.ret u)=>CE outer P w H s Q u s'
 | .ok _=>False
 | .error e=>CX outer H s E e s'
structure FnOk(P:Program)(w:World)(K:AA2)(mg:Str->Option Value)(base:Heap)(CX:CXT)(k:Nat)(f:Addr)(fd:FuncData)(ps:List Str)(sp:Sp):Prop where
 len:∀vs H Q E,sp vs H Q E->vs.length=ps.length
 run:∀(A:Around) (outer:List Env) (s:Shared) (H:Hp) (args:Args) (us:List Value) (vs:List V) (Q:VK) (E:XK),Room k A->Env0 P w K mg base A outer s H->BindsTo s fd args (ps.zip us)->az vs us->sp vs H Q E ->
  codeAny (model P w) A (.call (.ref f) args) (CR CX outer P w H s Q E) s
theorem Env0.make{P:Program}{w:World}{K:AA2}{mg:Str->Option Value}{base:Heap}{A:Around}{outer:List Env}{s:Shared}{H:Hp}(e:Env0 P w K mg base A outer s H)(C:Addr)(us:List Value)(kw:List (Str×Value)) :
  Env0 P w K mg base (A.under (.builtin "type.__call__" ⟨.ref C::us,kw⟩)) outer s H:=⟨by first | exact e.frames | (simpa [Around.under,Code.envs,Code.isFrame,pushEnvs]using e.frames),e.mod,e.bs,e.bsz,e.funs,e.frf,e.hok,e.bare⟩
theorem Env0.in1{P:Program}{w:World}{K:AA2}{mg:Str->Option Value}{base:Heap}{A:Around}{outer:List Env}{s:Shared}{H:Hp}(e:Env0 P w K mg base A outer s H) :
  Env0 P w K mg base A.in1 outer s H:=⟨e.frames,e.mod,e.bs,e.bsz,e.funs,e.frf,e.hok,e.bare⟩
theorem Inv.env0(I:Inv X pins σ H s):Env0 X.prog X.w X.K X.mg X.base X.A X.stack s H :=
 ⟨I.ok.frames,I.ok.mod,I.bs,AAp I.ok.bsz I.sz,I.stack,I.stkFree,I.hok,I.bare⟩
theorem Inv.after(I:Inv X pins σ H s)(h:CE X.stack X.prog X.w H s Q u s'):EP X pins σ Q u s':=by
 obtain⟨v,H',os,bare,un,hok,r,q⟩:=h
 obtain⟨hh,g,d,t,os'⟩:=s'
 obtain rfl:os'=s.os:=os
 exact⟨v,H',I.call (h':=hh) (g':=g) (d':=d) (t':=t) (ch:=[]) un hok bare (λb z=>absurd z (by simp)),r,q⟩
def Hh(sp:Sp)(dvs:List V)(E:XK)(t:TA):TE:=λσ H Q=>t σ H λvs H1=>sp (vs++dvs) H1 Q E
def tMake(C:Addr)(sp:Sp)(dvs:List V)(E:XK)(t:TA):TE:=λσ H Q=>t σ H λvs H1=>∀x dx,H1 x=none->H1 dx=none->dx≠x ->
 sp (.ref x::(vs++dvs)) (upd (upd H1 dx (.own x)) x (.ins C dx [])) (λv H2=>v=.non/\Q (.ref x) H2) E
def ic(K:AA2)(fd:FuncData)(ps:List Str)(ds:List Value):Prop :=
 ∀(s:Shared) (us:List Value),K.In s.heap->(us++ds).length=ps.length->BindsTo s fd ⟨us,[]⟩ (ps.zip (us++ds))
theorem ic.all{K:AA2}{fd:FuncData}{ps:List Str}(h:∀us:List Value,us.length=ps.length->bindArgs fd ⟨us,[]⟩=pure (ps.zip us)):ic K fd ps []:=λs us _ hl=>by
 rw[AB8]at hl ⊢
 exact .of_eq (h us hl)
def rj(CX:CXT)(X:Cx)(E:XK):Prop:=∀(pins:List (Addr×Obj)) (σ:St) (H:Hp) (s:Shared) (e:Value) (s':Shared),Inv X pins σ H s->CX X.stack H s E e s'->X.xe e s'
theorem xV(F:FnOk X.prog X.w X.K X.mg X.base CX k f fd ps sp)(hr:Room k X.A)(hb:ic X.K fd ps ds)(hd:az dvs ds)(hx:rj CX X E)
  (I:Inv X pins σ H s) (r:az vs us) (h:sp (vs++dvs) H Q E):wpAny (model X.prog X.w) X.A (call (.ref f) us) (EP X pins σ Q) X.xe s:=by
 have r2:az (vs++dvs) (us++ds):=r.append hd
 have hl:(us++ds).length=ps.length:=by rw[<-r2.length];exact F.len _ _ _ _ h
 refine wpAny_call (AE5 (F.run X.A X.stack s H ⟨us,[]⟩ (us++ds) (vs++dvs) Q E hr I.env0 (hb s us I.kIn hl) r2 h) λr s' hq=>?_)
 cases r with
 | error e=>exact hx pins σ H s e s' I hq
 | ok fl =>
  cases fl with
  | ret u=>exact I.after hq
  | next=>exact AC5 hq
  | brk=>exact AC5 hq
  | cont=>exact AC5 hq
theorem Eu(F:FnOk X.prog X.w X.K X.mg X.base CX k f fd ps sp)(hr:Room k X.A)(hg:Gl X x)(hm:X.mg x=some (.ref f))(hk:ABY X.K (.ref f)=true)(hb:ic X.K fd ps ds)(hd:az dvs ds)(hx:rj CX X E)
  (ha:PA X (e::es) t) (hdb:(x==("__debug__":Str))=false:=by decide) (he:starEach (e::es) X.env=(false,eval e X.env)::starEach es X.env:=by rfl) (hpl:(backTo pos (starEach es X.env)).any (·.1)=false:=by rfl) :
  PE X (.Call (.Name x p) (e::es) [] pos) (Hh sp dvs E t):=by
 intro pins s σ H Q I h
 refine ABm (nJ I hg hm ?_ hdb)
 refine AE6 (h₀:=X.base) I.ok.mod.kin hk (thn (ha pos pins s σ H _ I h) λus s1 ⟨vs,H1,I1,r,q⟩=>⟨I1.kIn,?_⟩) he hpl
 exact xV F hr hb hd hx I1 r q
structure Mk(K:AA2)(C f:Addr):Prop where
 makes:PySem.W.makesIn K C=true
 init:AAw K (.ref C) "__init__" = some (some (.ref f))
 fn:AE3 K (.ref f)=true
 kp:ABY K (.ref C)=true
theorem AL(M:Mk X.K C f)(F:FnOk X.prog X.w X.K X.mg X.base CX k f fd ps sp)(hr:Room (k+1) X.A)(hb:ic X.K fd ps ds)(hd:az dvs ds)
  (hx:rj CX X E) (I:Inv X pins σ H s) (r:az vs us)
  (h:∀x dx,H x=none->H dx=none->dx≠x->sp (.ref x::(vs++dvs)) (upd (upd H dx (.own x)) x (.ins C dx [])) (λv H2=>v=.non/\Q (.ref x) H2) E) :
  wpAny (model X.prog X.w) X.A (call (.ref C) us) (EP X pins σ Q) X.xe s:=by
 have hq:=h (s.heap.objs.size+1) s.heap.objs.size (I.hok.fresh (Nat.le_succ _)) (I.hok.fresh (AAC _)) (AAQ (AC7 _))
 have I2:=Inv.made (C:=C) I
 have r2:az (V.ref (s.heap.objs.size+1)::(vs++dvs)) (AB3 (s.heap.objs.size+1)::(us++ds)):=.cons rfl (r.append hd)
 have hl:(AB3 (s.heap.objs.size+1)::us++ds).length=ps.length:=by
  have e:=r2.length
  rw[F.len _ _ _ _ hq]at e
  exact e.symm
 refine wpAny_call (Bq (f:=f) I.kIn M.makes M.init (beq_iff_eq.mp M.fn) (AE5 (F.run _ X.stack _ _ ⟨AB3 (s.heap.objs.size+1)::us,[]⟩ (AB3 (s.heap.objs.size+1)::(us++ds)) _ _ E (hr.make C us [])
  (I2.env0.make C us []) (hb _ (AB3 (s.heap.objs.size+1)::us) I2.kIn hl) r2 hq) λr s' hq'=>?_))
 cases r with
 | error e=>exact hx pins σ _ _ e s' I2 hq'
 | ok fl =>
  cases fl with
  | ret u =>
   obtain⟨v,H',I3,rv,ev,q3⟩:=I2.after hq'
   subst ev
   exact⟨rv,⟨V.ref (s.heap.objs.size+1),H',I3,rfl,q3⟩⟩
  | next=>exact AC5 hq'
  | brk=>exact AC5 hq'
  | cont=>exact AC5 hq'
theorem Er(M:Mk X.K C f)(F:FnOk X.prog X.w X.K X.mg X.base CX k f fd ps sp)(hr:Room (k+1) X.A)(hg:Gl X x)(hm:X.mg x=some (.ref C))(hb:ic X.K fd ps ds)(hd:az dvs ds)(hx:rj CX X E)
  (ha:PA X (e::es) t) (hdb:(x==("__debug__":Str))=false:=by decide) (he:starEach (e::es) X.env=(false,eval e X.env)::starEach es X.env:=by rfl) (hpl:(backTo pos (starEach es X.env)).any (·.1)=false:=by rfl) :
  PE X (.Call (.Name x p) (e::es) [] pos) (tMake C sp dvs E t):=by
 intro pins s σ H Q I h
 refine ABm (nJ I hg hm ?_ hdb)
 refine AE6 (h₀:=X.base) I.ok.mod.kin M.kp (thn (ha pos pins s σ H _ I h) λus s1 ⟨vs,H1,I1,r,q⟩=>⟨I1.kIn,?_⟩) he hpl
 exact AL M F hr hb hd hx I1 r q
structure KBinds(K:AA2)(fd:FuncData)(ps ks:List Str)(g:List Value->List Value->List Value)(gV:List V->List V->List V):Prop where
 to:∀(s:Shared) (us ws:List Value),K.In s.heap->(g us ws).length=ps.length->BindsTo s fd ⟨us,ks.zip ws⟩ (ps.zip (g us ws))
 rel:∀{vs:List V}{us:List Value}{zs:List V}{ws:List Value},az vs us->az zs ws->az (gV vs zs) (g us ws)
structure FnScope(N P:List Str)(sc:Scope):Prop where
 kind:sc.kind=.function
 co:sc.isCoroutine=false
 gen:sc.isGenerator=false
 nd:N.Nodup
 pre:N.take P.length=P
 par:∀x∈P,sc.names.lookup x=some .local\/sc.names.lookup x=some .cell
 nofree:∀y∈sc.names,y.2≠.free
theorem qV{kindOf:Str->Option NameKind}{x:Str}:∀{binds:List (Str×Value)}{m:Str->Option Value},(∀v,(x,v)∉binds)->bindL kindOf binds m x=m x
 | [],_,_=>rfl
 | (n,v)::r,m,h=>by
  unfold bindL
  rw[qV λw hw=>h w (AA8 _ hw)]
  split
  ·have:x≠n:=by rintro rfl;exact h v AAG
   simp[this]
  ·rfl
theorem qX{kindOf:Str->Option NameKind}{x:Str}:∀{binds:List (Str×Value)}{m:Str->Option Value},(∀v,(x,v)∉binds)->bindC kindOf binds m x=m x
 | [],_,_=>rfl
 | (n,v)::r,m,h=>by
  unfold bindC
  rw[qX λw hw=>h w (AA8 _ hw)]
  split
  ·rfl
  ·have:x≠n:=by rintro rfl;exact h v AAG
   simp[this]
theorem qW{kindOf:Str->Option NameKind}{x:Str}{v:Value}:∀{P:List Str}{vs:List Value}{i:Nat}{m:Str->Option Value},P.Nodup->P[i]?=some x->vs[i]?=some v->kindOf x=some .local ->
  bindL kindOf (P.zip vs) m x=some v
 | [],_,_,_,_,h,_,_=>by simp at h
 | _::_,[],_,_,_,_,h,_=>by simp at h
 | p::P,w::vs,0,m,nd,h1,h2,hk=>by
  simp at h1 h2;subst h1;subst h2
  show bindL kindOf ((p,w)::P.zip vs) m p=_
  unfold bindL
  rw[qV λv hv=>(AB9.mp nd).1 (ADm hv).1,if_pos hk]
  simp
 | p::P,w::vs,i+1,m,nd,h1,h2,hk=>by
  show bindL kindOf ((p,w)::P.zip vs) m x=_
  unfold bindL
  exact qW (i:=i) (AB9.mp nd).2 (by simpa using h1) (by simpa using h2) hk
theorem qY{kindOf:Str->Option NameKind}{x:Str}{v:Value}:∀{P:List Str}{vs:List Value}{i:Nat}{m:Str->Option Value},P.Nodup->P[i]?=some x->vs[i]?=some v->kindOf x≠some .local ->
  bindC kindOf (P.zip vs) m x=some v
 | [],_,_,_,_,h,_,_=>by simp at h
 | _::_,[],_,_,_,_,h,_=>by simp at h
 | p::P,w::vs,0,m,nd,h1,h2,hk=>by
  simp at h1 h2;subst h1;subst h2
  show bindC kindOf ((p,w)::P.zip vs) m p=_
  unfold bindC
  rw[qX λv hv=>(AB9.mp nd).1 (ADm hv).1,if_neg hk]
  simp
 | p::P,w::vs,i+1,m,nd,h1,h2,hk=>by
  show bindC kindOf ((p,w)::P.zip vs) m x=_
  unfold bindC
  exact qY (i:=i) (AB9.mp nd).2 (by simpa using h1) (by simpa using h2) hk
noncomputable def start(N:List Str)(vs:List V):St:=vs.map some++ADU (N.length-vs.length) none
noncomputable def wK(CX:CXT)(P:Program)(w:World)(K:AA2)(mg:Str->Option Value)(base:Heap)(N:List Str)(qual:Str)(scope:Scope)(f:Addr)(cd:Value)(A:Around)(outer:List Env)(s:Shared)(H:Hp)(E:XK):Cx where
 prog:=P
 w:=w
 K:=K
 mg:=mg
 base:=base
 A:=A.deeper (envOfC qual scope s.heap.objs.size f cd)
 N:=N
 s₀:=s
 H₀:=H
 env:=envOfC qual scope s.heap.objs.size f cd
 outer:=outer
 stack:=envOfC qual scope s.heap.objs.size f cd::outer
 ex:=[]
 calm:=true
 fn:=λ_=>true
 pn:=[]
 xe:=λe s'=>wpAny (model P w) (A.deeper (envOfC qual scope s.heap.objs.size f cd)) (leaving (envOfC qual scope s.heap.objs.size f cd) e) (λ_ s''=>CX outer H s E e s'') (λe' s''=>CX outer H s E e' s'') s'
theorem uS{sc:Scope}{n:Nat}{x:Str}(h:sc.names.lookup x=some .cell):∃c,(cellsFrom n sc.names []).lookup x=some c:=by
 have q:=PySem.W.cellsFrom_some sc.names n [] (.inl h)
 exact ACM.mp q
theorem zu{CX:CXT}{P:Program}{w:World}{K:AA2}{mg:Str->Option Value}{base:Heap}{N ps:List Str}{qual:Str}{scope:Scope}{f:Addr}{cd:Value}{A:Around}{outer:List Env}{s s1:Shared}{H:Hp}{E:XK}{us:List Value}{vs:List V}
  (S:FnScope N ps scope) (hd:A.handled=none) (e0:Env0 P w K mg base A outer s H) (hl:vs.length=ps.length) (r:az vs us)
  (x:InCallC s s.heap.objs.size (bindL (envOfC qual scope s.heap.objs.size f cd).kindOf (ps.zip us) λ_=>none) (cellsFrom (s.heap.objs.size+1) scope.names []) (bindC (envOfC qual scope s.heap.objs.size f cd).kindOf (ps.zip us) λ_=>none) s1) :
  Inv (wK CX P w K mg base N qual scope f cd A outer s H E) [] (start N vs) H s1:=by
 have hpl:ps.length<=N.length:=by have:=congrArg ACV S.pre;rw[AAe]at this;lia
 obtain⟨h1,tk,rfl,hk⟩:=x.done
 have noA:∀b:Addr,b∉(wK CX P w K mg base N qual scope f cd A outer s H E).ex:=λb z=>absurd (show b∈([]:List Addr)from z) (by simp)
 refine⟨⟨e0.mod,S.kind,rfl,rfl,AAC _,λy z c h1 h2=>?_,λy hy=>?_,λy c _ h=>?_,λ_=>hd,Around.frames_deeper e0.frames,.inr ⟨rfl,rfl⟩,λb z=>absurd z (noA b),e0.bs,e0.bsz,λb _ _=>noA b,λb z=>absurd z (noA b),e0.funs,e0.frf⟩,
  rfl,e0.bare,Un.kept hk,⟨_,x.toInCall.ns,λi y v h1 h2 h3=>?_⟩,λy c h=>⟨_,x.cell y c h⟩,e0.hok.fresh (AAC _),λy c h=>?_,λp hp=>absurd (show p∈([]:List (Addr×Obj))from hp) (by simp),e0.hok.kept hk,?_⟩
 ·exact name_of_addr x.apart (ABG h1) (ABG h2)
 ·have hy:scope.names.lookup y=some .cell\/scope.names.lookup y=some .free:=hy
  rcases hy with hy | hy
  ·exact uS hy
  ·exact absurd rfl (S.nofree _ (ABG hy))
 ·exact AE2 (x.above y c (ABG h))
 ·have hi:i<vs.length:=by
   unfold start at h2
   by_cases hi:i<vs.length
   ·exact hi
   ·rw[AAi (by simpa using hi)]at h2
    rw[ACW]at h2
    split at h2<;>cases h2
  have ha:vs[i]?=some v:=by
   unfold start at h2
   rw[AAJ (by simpa using hi),AAU]at h2
   cases e:vs[i]? with
   | none=>rw[e]at h2;cases h2
   | some a=>rw[e]at h2;cases h2;rfl
  obtain⟨u,hu,rv⟩:=r.get ha
  have hp:ps[i]?=some y:=by
   rw[<-S.pre,ABE (by lia)];exact h1
  have ndP:ps.Nodup:=by rw[<-S.pre];exact S.nd.sublist (ADM _ _)
  refine⟨u,rv,?_⟩
  rcases S.par y (AB1 hp)with k | k
  ·exact .inl ⟨k,qW ndP hp hu k⟩
  ·obtain⟨c,e⟩:=uS (n:=s.heap.objs.size+1) k
   refine .inr ⟨.inl k,c,e,?_⟩
   have q:=x.cell y c e
   rw[qY ndP hp hu (by show scope.names.lookup y≠_;rw[k];decide)]at q
   exact q
 ·exact e0.hok.fresh (AE2 (x.above y c (ABG h)))
 ·unfold start
  show _=N.length
  rw[AA9,AA4,ACh]
  lia
theorem fn_of{CX:CXT}{P:Program}{w:World}{K:AA2}{mg:Str->Option Value}{base:Heap}{k:Nat}{f:Addr}{name qual:Str}{params:Arguments}{body:List Stmt}{scope:Scope}{dV kV doc pm cdv ct oc:Value}{an od:Option Addr}
  {osl:Array (Option Value)}{N ps:List Str}{sp:Sp} (lk:K.lookup f=some ⟨oc,od,.func (ABd name qual params body scope dV kV doc pm an cdv ct),osl⟩) (hcd:ACu K cdv qual=true) (S:FnScope N ps scope)
  (len:∀vs H Q E,sp vs H Q E->vs.length=ps.length)
  (hbody:∀(A:Around) (outer:List Env) (s:Shared) (H:Hp) (vs:List V) (Q:VK) (E:XK),Room k (A.deeper (envOfC qual scope s.heap.objs.size f cdv))->sp vs H Q E ->
   ∃t,PSs (wK CX P w K mg base N qual scope f cdv A outer s H E) body t/\t { nx:=λ_ H'=>Q .non H',rt:=Q } (start N vs) H) :
  FnOk P w K mg base CX (k+1) f (ABd name qual params body scope dV kV doc pm an cdv ct) ps sp:=by
 refine⟨len,λA outer s H args us vs Q E hr e0 hb r hsp=>?_⟩
 have hl:=len _ _ _ _ hsp
 have KX:K.In s.heap:=e0.mod.kin.keeps λb o e=>(e0.bs b o e).1
 have lim:s.heap.NoLimit:=e0.mod.nolimit.keeps λb o e=>(e0.bs b o e).1
 have hkind:∀y∈ps.zip us,scope.names.lookup y.1=some .local\/(scope.names.lookup y.1=some .cell/\((cellsFrom (s.heap.objs.size+1) scope.names []).lookup y.1).isSome=true):=λ⟨n,v⟩ hy=>by
  rcases S.par n (ADm hy).1 with q | q
  ·exact .inl q
  ·exact .inr ⟨q,PySem.W.cellsFrom_some _ _ _ (.inl q)⟩
 refine codeAny_call_function hr.depth (KX _ _ lk) rfl S.co S.gen rfl (PySem.W.codeRec_of KX hcd) (hb _ _ _ _ ?_)
 refine wpAny_newFunctionEnv_cells S.kind hkind λenv he s1 x=>?_
 subst he
 refine⟨lim.keeps x.toInCall.keep,codeAny_func ?_⟩
 obtain⟨t,ht,hq⟩:=hbody A outer s H vs Q E (hr.deeper _) hsp
 have I:Inv (wK CX P w K mg base N qual scope f cdv A outer s H E) [] (start N vs) H s1:=zu S hr.hd e0 hl r x
 refine ABc (ht [] s1 (start N vs) H _ I hq) (λfl s' hs=>?_) λe s' hs=>hs
 have fin:∀{σ':St}{H':Hp}{v:V}{u:Value},Inv (wK CX P w K mg base N qual scope f cdv A outer s H E) [] σ' H' s'->aU v u->Q v H'->CE outer P w H s Q u s' :=
  λ{σ' H' v u} J rv q=>⟨v,H',J.os,J.bare,J.base,J.hok,rv,q⟩
 cases fl with
 | ret u =>
  obtain⟨v,σ',H',J,rv,q⟩:=hs
  exact fin J rv q
 | next =>
  obtain⟨σ',H',J,q⟩:=hs
  exact fin (v:=V.non) (u:=ABO) J rfl q
 | brk =>
  obtain⟨_,_,_,q⟩:=hs
  exact AC5 q
 | cont =>
  obtain⟨_,_,_,q⟩:=hs
  exact AC5 q
def tCB(r:List V->Hp->VK->Prop)(t:TA):TE:=λσ H Q=>t σ H λvs H1=>r vs H1 Q
theorem Ba{X:Cx}{x:Str}{p pos:Pos}{e:Expr}{es:List Expr}{t:TA}{id:String}{r:List V->Hp->VK->Prop}(hc:fb X (.builtin id) r)(hg:Gl X x)(hm:X.mg x=none)(hv:bootBuiltins x=some (.builtin id))(ha:PA X (e::es) t)(hn:x≠"__name__":=by decide)(hdb:(x==("__debug__":Str))=false:=by decide)
  (he:starEach (e::es) X.env=(false,eval e X.env)::starEach es X.env:=by rfl) (hpl:(backTo pos (starEach es X.env)).any (·.1)=false:=by rfl):PE X (.Call (.Name x p) (e::es) [] pos) (tCB r t):=by
 intro pins s σ H Q I h
 refine ABm (gO I hg hm hv ?_ hn hdb)
 exact PyProof.Rows.callWith_builtin1 (thn (ha pos pins s σ H _ I h) λus s1 ⟨vs,H1,I1,r1,q1⟩=>hc pins s1 σ H1 vs us Q I1 r1 q1) he hpl
theorem yi(hc:fb X (.type T) r)(hg:Gl X x)(hm:X.mg x=none)(hv:bootBuiltins x=some (.type T))(ha:PA X (e::es) t)(hn:x≠"__name__":=by decide)(hdb:(x==("__debug__":Str))=false:=by decide)
  (he:starEach (e::es) X.env=(false,eval e X.env)::starEach es X.env:=by rfl) (hpl:(backTo pos (starEach es X.env)).any (·.1)=false:=by rfl):PE X (.Call (.Name x p) (e::es) [] pos) (tCB r t):=by
 intro pins s σ H Q I h
 refine ABm (gO I hg hm hv ?_ hn hdb)
 exact ABz (thn (ha pos pins s σ H _ I h) λus s1 ⟨vs,H1,I1,r1,q1⟩=>hc pins s1 σ H1 vs us Q I1 r1 q1) he hpl
end L2
namespace HT
open PySem PyProof.Rows
theorem rcLt_int(A:Around)(s:Shared)(a:Int)(t:Tok)(c:Int)(u:Tok)(prog:Program)(w:World)(E:Value->Shared->Prop)(Q:Value->Shared->Prop)(h:Q (.bool (decide (a<c))) s) :
  wpAny (model prog w) A (richCompare .Lt (.int a t) (.int c u)) Q E s :=
 (PyProof.Rows.lt_int h:wpAny (model prog w) A (compareOp .Lt (.int a t) (.int c u)) Q E s)
theorem cat_tup(ht:IsTup s.heap t vs.toArray)(hb:IsTup s.heap b ws.toArray)(hv:vs≠[])
  (h1:ws=[]->Q (.ref t) s) (h2:ws≠[]->Q (.ref s.heap.objs.size) { s with heap:=s.heap.push { cls:=.type "tuple",data:=.seq (vs++ws).toArray } })
  (hsz:vs.length+ws.length<=sizeLine):wpAny (model prog w) A (binaryOp .Add (.ref t) (.ref b)) Q E s:=by
 obtain⟨⟨cls,dd,data,sl⟩,ho,hc,n,hd⟩:=id ht
 obtain⟨⟨cls2,dd2,data2,sl2⟩,ho2,hc2,n2,hd2⟩:=id hb
 simp only at hc hd hc2 hd2
 subst hc hd hc2 hd2
 have e:vs.toArray++ws.toArray=(vs++ws).toArray:=by simp
 by_cases hw:ws=[]
 ·exact concat_meets ⟨_,ho,rfl⟩ ⟨_,ho2,rfl⟩ noFill_tuple_add seq_tuple_add ADJ AD8 (AD3 _ _)
   (tuple_addW1 t b vs.toArray ws.toArray n n2 dd dd2 sl sl2 (by simpa using hv) (by simp[hw])) ⟨ho,ho2,h1 hw⟩
 ·refine concat_meets ⟨_,ho,rfl⟩ ⟨_,ho2,rfl⟩ noFill_tuple_add seq_tuple_add ADJ AD8 (AD3 _ _)
   (tuple_addW2 t b vs.toArray ws.toArray n n2 dd dd2 sl sl2 (by simpa using hv) (by simpa using hw) (by rw[AAB,AAB];exact hsz)) ⟨ho,ho2,?_⟩
  rw[e]
  exact h2 hw
noncomputable def sIx(n d:Nat):Option Int->Nat
 | none=>d
 | some v=>if v<0 then(v+(n:Int)).toNat else min v.toNat n
theorem sIx_none(n d:Nat):sIx n d none=d:=rfl
theorem sIx_nat(n d k:Nat):sIx n d (some (k:Int))=min k n:=by
 show (if (k:Int)<0 then((k:Int)+(n:Int)).toNat else min (k:Int).toNat n)=min k n
 rw[if_neg (by lia),ABw]
theorem Hr(n d:Nat)(hd:d<=n)(o:Option Int):sIx n d o<=n:=by
 cases o with
 | none=>exact hd
 | some v =>
  show (if v<0 then(v+(n:Int)).toNat else min v.toNat n)<=n
  by_cases hv:v<0
  ·rw[if_pos hv];lia
  ·rw[if_neg hv];exact Nat.min_le_right _ _
theorem zY(v:Int)(n d:Nat):(if v<0 then max (v+(n:Int)) 0 else min v (n:Int))=((sIx n d (some v):Nat):Int):=by
 show (if v<0 then max (v+(n:Int)) 0 else min v (n:Int))=(((if v<0 then(v+(n:Int)).toNat else min v.toNat n):Nat):Int)
 by_cases hv:v<0
 ·simp only[if_pos hv];lia
 ·simp only[if_neg hv];lia
theorem wF(lo hi:Option Int)(n:Nat):ACv lo hi 1 (n:Int)=(((sIx n 0 lo:Nat):Int),((sIx n n hi:Nat):Int)):=by
 have h1:¬((1:Int)<0):=by lia
 unfold ACv
 simp only[h1,if_false]
 refine Prod.ext ?_ ?_
 ·cases lo with
  | none=>rfl
  | some v=>exact zY v n 0
 ·cases hi with
  | none=>rfl
  | some v=>exact zY v n n
theorem vL(i j:Nat):ACF (i:Int) (j:Int) 1=j-i:=by
 unfold ACF
 have h1:(1:Int) > 0:=by lia
 simp only[h1,if_true,Int.ediv_one]
 split<;>lia
theorem mh(p:IsPart v o)(h:Q o s):wpAny (model prog w) A (Builtin.Slice.slicePartIndex v) Q E s:=by
 cases p with
 | none=>exact slicePart_none h
 | int i t=>exact slicePart_int h
theorem dZ{sl:Addr}{vl vu:Value}{lo hi:Option Int}{n:Nat}{Q:Int×Int×Nat->Shared->Prop}(hs:s.heap.IsSliceOf sl vl vu .none)(pl:IsPart vl lo)(pu:IsPart vu hi)
  (h:Q (((sIx n 0 lo:Nat):Int),1,sIx n n hi-sIx n 0 lo) s):wpAny (model prog w) A (AE0 (.ref sl) (pure (n:Int))) Q E s:=by
 obtain⟨os,hos,hcs,hds⟩:=id hs
 unfold AE0 Builtin.Slice.sliceFields
 refine AA0 (AA0 (ABS hos hds (x:=vl) rfl (AA0 (ABS hos hds (x:=vu) rfl (AA0 (ABS hos hds (x:=.none) rfl (AA7 ?_)))))))
 refine AA0 (slicePart_none ?_)
 show wpAny _ _ (if ((1:Int)==0)=true then _ else _) _ _ s
 rw[if_neg (by decide)]
 refine AA0 (mh pl (AA0 (mh pu (AA0 (AA7 ?_)))))
 show wpAny _ _ (match ACv lo hi 1 (n:Int)with | (lo,hi)=>pure (lo,(1:Int),ACF lo hi 1)) _ _ s
 rw[wF lo hi n]
 show wpAny _ _ (pure (((sIx n 0 lo:Nat):Int),(1:Int),ACF ((sIx n 0 lo:Nat):Int) ((sIx n n hi:Nat):Int) 1)) _ _ s
 rw[vL]
 exact AA7 h
theorem AW(xs:Array Value)(i k:Nat):((AAg k).filterMap λ(m:Nat)=>xs[((i:Int)+(m:Int)*1).toNat]?).toArray=((xs.toList.drop i).take k).toArray:=by
 have e:(λ(m:Nat)=>xs[((i:Int)+(m:Int)*1).toNat]?)=λm=>xs[i+m]?:=by
  funext m
  have:((i:Int)+(m:Int)*1).toNat=i+m:=by lia
  rw[this]
 rw[e]
 have:=pick_run xs i k
 rw[List.filterMap_map]at this
 have e2:((λx=>xs[x]?) ∘ λx=>i+x)=λm=>xs[i+m]?:=rfl
 rw[e2]at this
 rw[this]
theorem getItem_tuple_cut{t sl:Addr}{items:Array Value}{vl vu:Value}{lo hi:Option Int}{Q:Value->Shared->Prop}(ht:IsTup s.heap t items)(hs:s.heap.IsSliceOf sl vl vu .none)(pl:IsPart vl lo)(pu:IsPart vu hi)
  (hw:¬(sIx items.size 0 lo=0/\sIx items.size items.size hi=items.size))
  (h:Q (.ref s.heap.objs.size) { s with heap:=s.heap.push { cls:=.type "tuple",data:=.seq ((items.toList.drop (sIx items.size 0 lo)).take (sIx items.size items.size hi-sIx items.size 0 lo)).toArray } })
  (hsz:items.size<=sizeLine):wpAny (model prog w) A (getItem (.ref t) (.ref sl)) Q E s:=by
 have htake:sizeOk (.seq ((items.toList.drop (sIx items.size 0 lo)).take (sIx items.size items.size hi-sIx items.size 0 lo)).toArray):=by
  show ((items.toList.drop (sIx items.size 0 lo)).take (sIx items.size items.size hi-sIx items.size 0 lo)).toArray.size<=sizeLine
  rw[AAB,AAe,ABe,ABy]
  lia
 have hj:sIx items.size items.size hi<=items.size:=Hr _ _ (AAC _) hi
 obtain⟨os,hos,hcs,hds⟩:=id hs
 have hTs:s.TypeIs (.ref sl) "slice":=⟨os,hos,hcs⟩
 unfold getItem
 try with_reducible refine AAr ?_
 first | refine AA0 (AA7 ?_) | skip
 refine AA0 (wpAny_sequenceKey ht.typeIs (by decide) ?_)
 refine AA0 (AAl (name:=AA1 "__getitem__") ht.typeIs AB4
  (AAo AB4 ht.typeIs entry_tuple_getitem ?_ (args_tuple_getitem _ _)))
 show wpAny _ _ (ACq (.ref t) >>= _) _ _ s
 refine AA0 (tupleItemsOf_ ht ?_)
 refine AA0 (AD4 hTs ?_)
 rw[if_pos (by decide)]
 refine AA0 (dZ hs pl pu ?_)
 have hno:¬((((sIx items.size 0 lo:Nat):Int)==0&&(1:Int)==1&&(sIx items.size items.size hi-sIx items.size 0 lo)==items.size)=true):=by
  intro q
  rw[AAN,AAN]at q
  have q1:((sIx items.size 0 lo:Nat):Int)=0:=eq_of_beq q.1.1
  have q2:sIx items.size items.size hi-sIx items.size 0 lo=items.size:=eq_of_beq q.2
  exact hw ⟨by lia,by lia⟩
 show wpAny _ _ (if (((sIx items.size 0 lo:Nat):Int)==0&&(1:Int)==1&&(sIx items.size items.size hi-sIx items.size 0 lo)==items.size)=true then _ else _) _ _ s
 rw[if_neg hno,AW]
 first
  | exact AA0 (m:=ABV _) (AAj (AA7 ⟨_,rfl,AA7 h⟩) htake)
  | exact AA0 (m:=ABV _) (AAj (AA0 (AA7 (AA7 ⟨_,rfl,AA7 h⟩))) htake)
  | exact AA0 (AA0 (m:=ABV _) (AAj (AA7 (AA7 ⟨_,rfl,AA7 h⟩)) htake))
  | exact AA0 (AA0 (m:=ABV _) (AAj (AA7 ⟨_,rfl,AA7 h⟩) htake))
end HT
namespace L2
open PySem PySem.Spec PyProof.Rows
abbrev TO:=St->Hp->(Option Int->Hp->Prop)->Prop
def PO(X:Cx)(e:Option Expr)(t:TO):Prop :=
 ∀(pins:List (Addr×Obj)) (s:Shared) (σ:St) (H:Hp) (Q:Option Int->Hp->Prop),Inv X pins σ H s->t σ H Q ->
  wpAny (model X.prog X.w) X.A (evalPart e X.env) (λu s'=>∃o H',Inv X pins σ H' s'/\IsPart u o/\Q o H') X.xe s
def DH:TO:=λ_ H Q=>Q none H
def tPart(t:TE):TO:=λσ H Q=>t σ H λx H1=>∃i,x=.int i/\Q (some i) H1
section
variable{X:Cx}{e:Expr}{te:TE}{lo hi:Option Expr}{tl th:TO}{pos p2:Pos}
theorem Em:PO X none DH:=by
 intro pins s σ H Q I h
 rw[evalPart_none]
 exact AA7 ⟨none,H,I,.none,h⟩
theorem El(h:PE X e te):PO X (some e) (tPart te):=by
 intro pins s σ H Q I hw
 rw[evalPart_some]
 refine thn (h pins s σ H _ I hw) ?_
 rintro u s1 ⟨x,H1,I1,r1,q1⟩
 obtain⟨i,rfl,q⟩:=q1
 obtain⟨t,rfl⟩:=r1
 exact⟨some i,H1,I1,.int i t,q⟩
def SlR(X:Cx)(r:V->Option Int->Option Int->Hp->VK->Prop):Prop :=
 ∀(pins:List (Addr×Obj)) (s:Shared) (σ:St) (H:Hp) (x:V) (v vl vu:Value) (lo hi:Option Int) (sl:Addr) (Q:VK),Inv X pins σ H s->aU x v->s.heap.IsSliceOf sl vl vu .none->IsPart vl lo->IsPart vu hi->r x lo hi H Q ->
  ∃T id,typeLookup (.type T) "__getitem__" = pure (some (.builtin id))/\s.TypeIs v T/\wpAny (model X.prog X.w) X.A (getItem v (.ref sl)) (EP X pins σ Q) X.xe s
def tSl(r:V->Option Int->Option Int->Hp->VK->Prop)(te:TE)(tl th:TO):TE:=λσ H Q=>te σ H λx H1=>tl σ H1 λl H2=>th σ H2 λu H3=>r x l u H3 Q
theorem AY(hr:SlR X r)(he:PE X e te)(hl:PO X lo tl)(hu:PO X hi th):PE X (.Subscript e (.Slice lo hi none p2) pos) (tSl r te tl th):=by
 intro pins s σ H Q I h
 refine Subscript_ (thn (he pins s σ H _ I h) ?_)
 rintro v s1 ⟨x,H1,I1,r1,q1⟩
 refine wpAny_Slice (thn (hl pins s1 σ H1 _ I1 q1) ?_)
 rintro vl s2 ⟨l,H2,I2,pl,q2⟩
 refine thn (hu pins s2 σ H2 _ I2 q2) ?_
 rintro vu s3 ⟨u,H3,I3,pu,q3⟩
 rw[evalPart_none]
 refine AA7 ?_
 have I4:Inv X pins σ H3 { s3 with heap:=s3.heap.push { cls:=.type "slice",data:=.fields #[vl,vu,.none] } }:=I3.kept (t':=s3.toks) λb ob q=>AA6 _ q
 obtain⟨T,id,hT,ht,hg⟩:=hr pins { s3 with heap:=s3.heap.push { cls:=.type "slice",data:=.fields #[vl,vu,.none] } } σ H3 x v vl vu l u s3.heap.objs.size Q I4 r1 (Heap.IsSliceOf.new ..) pl pu q3
 show wpAny (model X.prog X.w) X.A (subscriptTail e (.Slice lo hi none p2) v (.ref s3.heap.objs.size)) (EP X pins σ Q) X.xe { s3 with heap:=s3.heap.push { cls:=.type "slice",data:=.fields #[vl,vu,.none] } }
 exact tail_any (ops:=[.ref s3.heap.objs.size,v]) ht hT hg (by with_unfolding_all rfl)
noncomputable def Dq(xs:List V)(lo hi:Option Int):List V:=(xs.drop (HT.sIx xs.length 0 lo)).take (HT.sIx xs.length xs.length hi-HT.sIx xs.length 0 lo)
theorem kY(xs:List V)(lo hi:Option Int):(Dq xs lo hi).length<=xs.length:=by
 unfold Dq
 rw[AAe,ABe]
 lia
def rSlT(K:AA2):V->Option Int->Option Int->Hp->VK->Prop:=λx lo hi H Q=>∃a xs,x=.ref a/\SqT K H a xs /\
 ¬(HT.sIx xs.length 0 lo=0/\HT.sIx xs.length xs.length hi=xs.length)/\∀p,H p=none->Q (.ref p) (upd H p (.tup (Dq xs lo hi)))
theorem Hm:SlR X (rSlT X.K):=by
 intro pins s σ H x v vl vu lo hi sl Q I rx hs pl pu h
 obtain⟨a,xs,rfl,hx,hw,q⟩:=h
 cases rx
 obtain⟨its,r,ht,hz⟩:=I.tuple hx
 have hlen:its.toArray.size=xs.length:=by rw[AAB];exact r.length.symm
 refine⟨"tuple",_,AB4.lookup,ht.typeIs,?_⟩
 refine HT.getItem_tuple_cut ht hs pl pu (by rw[hlen];exact hw) ?_ (by rw[hlen];exact hz)
 rw[hlen]
 refine⟨.ref s.heap.objs.size,_,I.laid (t':=s.toks) (o:=.tup (Dq xs lo hi)) (λb ob q=>AA6 _ q) (AAC _) ?_,rfl,q _ (I.hok.fresh (AAC _))⟩
 exact⟨AAp (kY xs lo hi) hz,_,(r.drop (HT.sIx xs.length 0 lo)).take (HT.sIx xs.length xs.length hi-HT.sIx xs.length 0 lo),CH.new _ _⟩
def rCatT(K:AA2):R2:=λx y H Q=>∃a b xs ys,x=.ref a/\y=.ref b/\SqT K H a xs/\SqT K H b ys/\xs≠[]/\xs.length+ys.length<=sizeLine /\
 (ys=[]->Q (.ref a) H)/\(ys≠[]->∀p,H p=none->Q (.ref p) (upd H p (.tup (xs++ys))))
theorem az.nil_iff(r:az xs us):us=[]↔xs=[]:=by
 cases r with
 | nil=>simp
 | cons _ _=>simp
theorem EH:OpR X (binaryOp .Add) (rCatT X.K):=by
 intro pins s σ H x y v u Q I rx ry h
 obtain⟨a,b,xs,ys,rfl,rfl,ha,hb,hx,hz,q1,q2⟩:=h
 cases rx
 cases ry
 obtain⟨its,r1,p1,_⟩:=I.tuple ha
 obtain⟨its2,r2,p2,_⟩:=I.tuple hb
 refine HT.cat_tup p1 p2 (λz=>hx (r1.nil_iff.mp z)) (λz=>⟨.ref a,H,I,rfl,q1 (r2.nil_iff.mp z)⟩) (λz=>?_) (by rw[<-r1.length,<-r2.length];exact hz)
 refine⟨.ref s.heap.objs.size,_,I.laid (t':=s.toks) (o:=.tup (xs++ys)) (λb ob q=>AA6 _ q) (AAC _) ?_,rfl,q2 (λw=>z (r2.nil_iff.mpr w)) _ (I.hok.fresh (AAC _))⟩
 exact⟨by rw[AA9];exact hz,_,r1.append r2,CH.new _ _⟩
end
noncomputable def ixN(n:Nat)(i:Int):Option Nat:=if 0<=i then(if i<n then some i.toNat else none)else if -(n:Int)<=i then some (i+n).toNat else none
noncomputable def atI{α:Type}(xs:List α)(i:Int):Option α:=(ixN xs.length i).bind λj=>xs[j]?
theorem zr(h:ixN n i=some j):seqIndex? i n=some j/\j<n/\-(n:Int)<=i/\i<n:=by
 unfold ixN at h
 by_cases h0:0<=i
 ·rw[if_pos h0]at h
  by_cases h1:i<n
  ·rw[if_pos h1]at h
   have e:i.toNat=j:=AAW h
   exact⟨by rw[seqIndex_of h0 h1,e],by lia,by lia,h1⟩
  ·rw[if_neg h1]at h;cases h
 ·rw[if_neg h0]at h
  by_cases h1:-(n:Int)<=i
  ·rw[if_pos h1]at h
   have e:(i+n).toNat=j:=AAW h
   exact⟨by rw[seqIndex_neg (by lia) h1,e],by lia,h1,by lia⟩
  ·rw[if_neg h1]at h;cases h
theorem tw{α:Type}{xs:List α}{i:Int}{v:α}(h:atI xs i=some v):∃j,seqIndex? i xs.length=some j/\xs[j]?=some v/\j<xs.length/\-(xs.length:Int)<=i/\i<xs.length:=by
 unfold atI at h
 cases e:ixN xs.length i with
 | none=>rw[e]at h;cases h
 | some j =>
  rw[e]at h
  obtain⟨h1,h2,h3,h4⟩:=zr e
  exact⟨j,h1,h,h2,h3,h4⟩
theorem aM{α:Type}{xs:List α}{j:Nat}{v:α}(h:xs[j]?=some v):atI xs (j:Int)=some v:=by
 have hj:j<xs.length:=(AA3.mp h).1
 have e:ixN xs.length (j:Int)=some j:=by
  unfold ixN
  rw[if_pos (by lia),if_pos (by lia)];simp
 unfold atI;rw[e];exact h
def nZ(b:Expr):Prop:=∀o i,subscripted b false o i=operate [o,i] (getItem o i)
def IxR(X:Cx)(r:R2):Prop :=
 ∀(value slice:Expr) (pins:List (Addr×Obj)) (s:Shared) (σ:St) (H:Hp) (x y:V) (v u:Value) (Q:VK),Inv X pins σ H s->aU x v->aU y u->r x y H Q ->
  subscripted slice false v u=operate [v,u] (getItem v u)->wpAny (model X.prog X.w) X.A (subscriptTail value slice v u) (EP X pins σ Q) X.xe s
def MtR(X:Cx)(id:String)(r:V->List V->Hp->VK->Prop):Prop :=
 ∀(pins:List (Addr×Obj)) (s:Shared) (σ:St) (H:Hp) (x:V) (xs:List V) (v:Value) (us:List Value) (Q:VK),Inv X pins σ H s->aU x v->az xs us->r x xs H Q ->
  wpAny (model X.prog X.w) X.A (call (.builtin id) (v::us)) (EP X pins σ Q) X.xe s
section
variable{X:Cx}{a b:Expr}{ta tb:TE}{pos:Pos}
theorem IxR.or(h:IxR X r)(h':IxR X r'):IxR X (λx y H Q=>r x y H Q\/r' x y H Q):=by
 intro value slice pins s σ H x y v u Q I rx ry q hs
 rcases q with q | q
 ·exact h value slice pins s σ H x y v u Q I rx ry q hs
 ·exact h' value slice pins s σ H x y v u Q I rx ry q hs
theorem Ii(hr:IxR X r)(ha:PE X a ta)(hb:PE X b tb)(hs:nZ b):PE X (.Subscript a b pos) (tOp r ta tb):=by
 intro pins s σ H Q I h
 exact Subscript_ (binT ha hb I h λv u s2 x y H2 I2 rx ry q=>hr a b pins s2 σ H2 x y v u Q I2 rx ry q (hs _ _))
def rIxL(K:AA2):R2:=λx y H Q=>∃p xs i v,x=.ref p/\y=.int i/\SqL K H p xs/\atI xs i=some v/\Q v H
def rIxT(K:AA2):R2:=λx y H Q=>∃p xs i v,x=.ref p/\y=.int i/\SqT K H p xs/\atI xs i=some v/\Q v H
def rIxS:R2:=λx y H Q=>∃z i c,x=.str z/\y=.int i/\z.length<=sizeLine/\atI z.cps.toList i=some c/\Q (.str ⟨#[c]⟩) H
theorem FF:IxR X (rIxL X.K):=by
 intro value slice pins s σ H x y v u Q I rx ry h hs
 obtain⟨p,xs,i,z,rfl,rfl,hq,he,q⟩:=h
 cases rx
 obtain⟨t,rfl⟩:=ry
 obtain⟨its,r,pl,hz⟩:=I.list hq
 obtain⟨j,h1,h2,h3,h4,h5⟩:=tw he
 obtain⟨w,ew,rw'⟩:=r.get h2
 have hl:=r.length
 have hn:=mB
 have fin:EP X pins σ Q w s:=⟨z,H,I,rw',q⟩
 by_cases h0:0<=i
 ·have hj:i.toNat=j:=by
   rw[seqIndex_of h0 h5]at h1
   exact AAW h1
  exact item_listR pl.isList h0 (by lia) (by rw[hj];simpa using ew) fin hs
 ·have hj:(i+(its.toArray.size:Int)).toNat=j:=by
   rw[seqIndex_neg (by lia) h4]at h1
   rw[AAB,<-hl]
   exact AAW h1
  exact subscriptTail_builtinR (x:=w) pl.isList.typeIs slot_list_getitem.lookup
   (wpAny_getItem_list_neg (Q:=λr s'=>r=w/\EP X pins σ Q r s') pl.isList (by lia) (by rw[AAB]<;>lia) (by lia) (by rw[hj];simpa using ew) ⟨rfl,fin⟩) hs
theorem Jq:IxR X (rIxT X.K):=by
 intro value slice pins s σ H x y v u Q I rx ry h hs
 obtain⟨p,xs,i,z,rfl,rfl,hq,he,q⟩:=h
 cases rx
 obtain⟨t,rfl⟩:=ry
 obtain⟨its,r,pl,hz⟩:=I.tuple hq
 obtain⟨j,h1,h2,h3,h4,h5⟩:=tw he
 obtain⟨w,ew,rw'⟩:=r.get h2
 have hl:=r.length
 have hn:=mB
 have fin:EP X pins σ Q w s:=⟨z,H,I,rw',q⟩
 exact subscriptTail_builtinR (x:=w) pl.typeIs slot_tuple_getitem.lookup
  (getItem_tuple (j:=j) (Q:=λr s'=>r=w/\EP X pins σ Q r s') pl (by lia) (by lia) (by rw[AAB,<-hl];exact h1) (by simpa using ew) ⟨rfl,fin⟩) hs
theorem Jr:IxR X rIxS:=by
 intro value slice pins s σ H x y v u Q I rx ry h hs
 obtain⟨z,i,c,rfl,rfl,hz,he,q⟩:=h
 obtain⟨t,rfl⟩:=rx
 obtain⟨t',rfl⟩:=ry
 obtain⟨j,h1,h2,h3,h4,h5⟩:=tw he
 have hl:z.cps.toList.length=z.length:=by simp[Str.length]
 rw[hl]at h1 h4 h5
 have hn:=mB
 exact tail_any (typeIs_str s z t) slot_str_getitem.lookup (getItem_str (c:=c) (by
  have e1:decide (i < -(2 ^ 63:Int))=false:=dF_ (by lia)
  have e2:decide (i ≥ 2 ^ 63)=false:=dF_ (by lia)
  rw[e1,e2,Bool.or_false]) (by rw[h1];simpa using h2) ⟨.str ⟨#[c]⟩,H,I.tok _,⟨_,rfl⟩,q⟩) hs
def rIx(K:AA2):R2:=λx y H Q=>rIxL K x y H Q\/rIxT K x y H Q\/rIxS x y H Q
theorem Js:IxR X (rIx X.K):=FF.or (Jq.or Jr)
theorem vX(its:List Value)(n j:Nat)(u:Value):ABF (·.setIfInBounds j u) { cls:=.type "list",data:=.seq its.toArray n }={ cls:=.type "list",data:=.seq (its.set j u).toArray n }:=by
 simp[ABF]
theorem Inv.lst(I:Inv X pins σ H s)(h:H p=some (.lst xs)) :
  ∃(its:List Value) (n:Nat),az xs its/\s.heap.get? p=some { cls:=.type "list",data:=.seq its.toArray n }/\xs.length<=sizeLine:=by
 obtain⟨z,its,n,r,e⟩:=I.hok p _ h
 exact⟨its,n,r,e,z⟩
theorem Inv.lstUpd{pins:List (Addr×Obj)}{σ:St}{H:Hp}{s:Shared}{p:Addr}{xs ys:List V}{its its':List Value}{n n':Nat}{f:Obj->Obj}(I:Inv X pins σ H s)(h:H p=some (.lst xs))
  (ho:s.heap.get? p=some { cls:=.type "list",data:=.seq its.toArray n }) (hf:f { cls:=.type "list",data:=.seq its.toArray n }={ cls:=.type "list",data:=.seq its'.toArray n' }) (r:az ys its') (hz:ys.length<=sizeLine) (t:Nat) :
  Inv X pins σ (upd H p (.lst ys)) { s with heap:=s.heap.update p f,toks:=t }:=by
 have e:(s.heap.update p f).get? p=some { cls:=.type "list",data:=.seq its'.toArray n' }:=by
  rw[ABH f ho (by rw[hf]<;>rfl),hf]
 refine I.write (x:=p) (e:=p) (by rw[h];trivial) (.inl rfl) (λb u hb q=>(Heap.get?_update_other _ _ (AAt hb)).trans q) ⟨_,e⟩ ?_
 exact⟨hz,its',n',r,e⟩
def rSetL:V->V->V->Hp->(Hp->Prop)->Prop:=λo i v H Q=>∃p xs k j,o=.ref p/\i=.int k/\H p=some (.lst xs)/\ixN xs.length k=some j/\Q (upd H p (.lst (xs.set j v)))
theorem AJ:PSet X rSetL:=by
 intro pins s σ H o i v ov iv u Q I ro ri rv h
 obtain⟨p,xs,k,j,rfl,rfl,hp,hj,q⟩:=h
 cases ro
 obtain⟨t,rfl⟩:=ri
 obtain⟨its,n,r,ho,hz⟩:=I.lst hp
 obtain⟨h1,h2,h3,h4⟩:=zr hj
 have hl:=r.length
 have hn:=mB
 have I':Inv X pins σ (upd H p (.lst (xs.set j v))) { s with heap:=s.heap.update p (ABF (·.setIfInBounds j u)) } :=
  I.lstUpd hp ho (vX its n j u) (r.set rv j) (by rw[AAa];exact hz) s.toks
 by_cases h0:0<=k
 ·have hk:k.toNat=j:=by
   rw[seqIndex_of h0 h4]at h1
   exact AAW h1
  exact PySem.W.ki_setAt ho h0 (by lia) (by rw[AAB,<-hl];exact h4) (by rw[hk];exact⟨_,I',q⟩)
 ·have hk:(k+(its.toArray.size:Int)).toNat=j:=by
   rw[seqIndex_neg (by lia) h3]at h1
   rw[AAB,<-hl]
   exact AAW h1
  exact PySem.W.ki_setBack ho (by lia) (by rw[AAB,<-hl];exact h3) (by lia) (by rw[hk];exact⟨_,I',q⟩)
theorem pM(lo hi:Option Int)(n:Nat):(sliceBounds lo hi none n).1=((HT.sIx n 0 lo:Nat):Int)/\(sliceBounds lo hi none n).2.1=((HT.sIx n n hi:Nat):Int)/\(sliceBounds lo hi none n).2.2=1:=by
 refine⟨?_,?_,rfl⟩
 ·cases lo with
  | none=>simp[sliceBounds,HT.sIx]
  | some i =>
   simp only[sliceBounds,HT.sIx,Option.getD_none,show (1:Int) > 0 by decide,if_true]
   by_cases h:i<0
   ·simp only[h,if_true]<;>lia
   ·simp only[h,if_false]<;>lia
 ·cases hi with
  | none=>simp[sliceBounds,HT.sIx]
  | some i =>
   simp only[sliceBounds,HT.sIx,Option.getD_none,show (1:Int) > 0 by decide,if_true]
   by_cases h:i<0
   ·simp only[h,if_true]<;>lia
   ·simp only[h,if_false]<;>lia
theorem mS(its:List Value)(lo hi:Option Int):slicePick its.toArray lo hi none=((its.drop (HT.sIx its.length 0 lo)).take (HT.sIx its.length its.length hi-HT.sIx its.length 0 lo)).toArray:=by
 obtain⟨h1,h2,h3⟩:=pM lo hi its.toArray.size
 unfold slicePick
 rw[h1,h2,h3]
 simp only[sliceRange_one,pick_run,AAB]<;>rfl
def rSlL(K:AA2):V->Option Int->Option Int->Hp->VK->Prop:=λx lo hi H Q=>∃a xs,x=.ref a/\SqL K H a xs/\∀p,H p=none->Q (.ref p) (upd H p (.lst (Dq xs lo hi)))
theorem DQ:SlR X (rSlL X.K):=by
 intro pins s σ H x v vl vu lo hi sl Q I rx hs pl pu h
 obtain⟨a,xs,rfl,hx,q⟩:=h
 cases rx
 obtain⟨its,r,ht,hz⟩:=I.list hx
 have hlen:=r.length
 refine⟨"list",_,slot_list_getitem.lookup,ht.isList.typeIs,?_⟩
 refine wpAny_getItem_list_slice ht.isList hs pl pu .none (by simp) ?_ (by rw[AAB]<;>lia)
 rw[mS,<-hlen]
 refine⟨.ref s.heap.objs.size,_,I.laid (t':=s.toks) (o:=.lst (Dq xs lo hi)) (λb ob q=>AA6 _ q) (AAC _) ?_,rfl,q _ (I.hok.fresh (AAC _))⟩
 exact⟨AAp (kY xs lo hi) hz,_,0,(r.drop (HT.sIx xs.length 0 lo)).take (HT.sIx xs.length xs.length hi-HT.sIx xs.length 0 lo),AAE _ rfl⟩
theorem qU:fb X (.builtin "len") (λxs H Q=>∃p ys,xs=[.ref p]/\(SqL X.K H p ys\/SqT X.K H p ys)/\Q (.int ys.length) H):=by
 intro pins s σ H xs us Q I r h
 obtain⟨p,ys,rfl,hq,q⟩:=h
 obtain⟨u,rfl,rx⟩:=AB r
 cases rx
 have hn:=mB
 rcases hq with hq | hq
 ·obtain⟨its,r',pl,hz⟩:=I.list hq
  have hlen:=r'.length
  exact Calls.call_len_list pl.isList (by simp only[AAB]<;>lia) ⟨.int ys.length,H,I.tok _,⟨s.toks+1,by rw[AAB,hlen]⟩,q⟩
 ·obtain⟨its,r',pl,hz⟩:=I.tuple hq
  have hlen:=r'.length
  exact len_tuple pl (by simp only[AAB]<;>lia) ⟨.int ys.length,H,I.tok _,⟨s.toks+1,by rw[AAB,hlen]⟩,q⟩
theorem qT:fb X (.builtin "len") (λxs H Q=>∃z,xs=[.str z]/\z.length<=sizeLine/\Q (.int z.length) H):=by
 intro pins s σ H xs us Q I r h
 obtain⟨z,rfl,hz,q⟩:=h
 obtain⟨u,rfl,t,rfl⟩:=AB r
 have hn:=mB
 exact len_str (by lia) ⟨.int z.length,H,I.tok _,⟨_,rfl⟩,q⟩
theorem fb.or(h:fb X f r)(h':fb X f r'):fb X f (λxs H Q=>r xs H Q\/r' xs H Q):=by
 intro pins s σ H xs us Q I rs q
 rcases q with q | q
 ·exact h pins s σ H xs us Q I rs q
 ·exact h' pins s σ H xs us Q I rs q
theorem nS:fb X (.type "tuple") (λxs H Q=>∃p ys,xs=[.ref p]/\((SqL X.K H p ys/\∀l,H l=none->Q (.ref l) (upd H l (.tup ys)))\/(SqT X.K H p ys/\Q (.ref p) H))):=by
 intro pins s σ H xs us Q I r h
 obtain⟨p,ys,rfl,h⟩:=h
 obtain⟨u,rfl,rx⟩:=AB r
 cases rx
 rcases h with⟨hq,q⟩|⟨hq,q⟩
 ·obtain⟨its,r',pl,hz⟩:=I.list hq
  have hlen:=r'.length
  refine call_tuple_list pl.isList (λh' kp=>?_) (by simp only[AAB]<;>lia)
  have I1:Inv X pins σ H { s with heap:=h' }:=I.kept (t':=s.toks) kp
  have I2:Inv X pins σ (upd H h'.objs.size (.tup ys)) { s with heap:=h'.push { cls:=.type "tuple",data:=.seq its.toArray } } :=
   I1.laid (t':=s.toks) (λb o e=>AA6 _ e) (AAC _) (show bP X.prog X.w _ _ _ (.tup ys)from⟨hz,its,r',CH.new _ _⟩)
  exact⟨.ref h'.objs.size,_,I2,rfl,q _ (I1.hok.fresh (AAC _))⟩
 ·obtain⟨its,r',pl,hz⟩:=I.tuple hq
  exact call_tuple_same pl ⟨.ref p,H,I,rfl,q⟩
def tyV(K:AA2)(T:String)(x:V)(H:Hp):Prop:=match x with
 | .str _=>T = "str"
 | .int _=>T = "int"
 | .ref p=>(T = "list"/\∃xs,SqL K H p xs)\/(T = "tuple"/\∃o,K.lookup p=some o/\o.cls=.type "tuple"/\o.dict=none) \/
   (T = "dict"/\((∃kvs,H p=some (.dK kvs))\/∃kvs,H p=some (.dT kvs)))\/(T = "set"/\∃S n,H p=some (.set S n))
 | _=>False
theorem CL(I:Inv X pins σ H s)(r:aU x v)(ty:tyV X.K T x H) :
  s.TypeIs v T/\∀a,v=.ref a->∃ob,s.heap.get? a=some ob/\ob.dict=none:=by
 cases x with
 | str z =>
  obtain⟨t,rfl⟩:=r
  cases (show T = "str" from ty)
  exact⟨typeIs_str s z t,λ_ e=>nomatch e⟩
 | int i =>
  obtain⟨t,rfl⟩:=r
  cases (show T = "int" from ty)
  exact⟨typeIs_int s i t,λ_ e=>nomatch e⟩
 | ref p =>
  cases r
  rcases ty with⟨rfl,xs,hq⟩|⟨rfl,o,hk,hc,hd⟩|⟨rfl,hk⟩|⟨rfl,S,n,hk⟩
  ·obtain⟨its,_,pl,_⟩:=I.list hq
   refine⟨pl.isList.typeIs,λa e=>?_⟩
   cases e
   obtain⟨o,n,e,c,hd,_⟩:=pl
   exact⟨o,e,hd⟩
  ·refine⟨⟨o,I.kIn p o hk,hc⟩,λa e=>?_⟩
   cases e
   exact⟨o,I.kIn _ o hk,hd⟩
  ·have z:∃o,s.heap.get? p=some o/\o.ExactDict:=by
    rcases hk with⟨kvs,hk⟩|⟨kvs,hk⟩
    ·obtain⟨_,_,_,_,o,_,_,e,ex,_⟩:=I.hok p _ hk
     exact⟨o,e,ex⟩
    ·obtain⟨_,_,_,_,o,_,_,e,ex,_⟩:=I.hok p _ hk
     exact⟨o,e,ex⟩
   obtain⟨o,e,ex⟩:=z
   refine⟨⟨o,e,ex.1⟩,λa e2=>?_⟩
   cases e2
   exact⟨o,e,ex.2.1⟩
  ·obtain⟨o,_,_,_,e,ex,_⟩:=I.hok p _ hk
   refine⟨⟨o,e,ex.1⟩,λa e2=>?_⟩
   cases e2
   exact⟨o,e,ex.2.1⟩
 | _=>exact AC5 ty
def tBM0(K:AA2)(T:String)(r:V->List V->Hp->VK->Prop)(to:TE):TE:=λσ H Q=>to σ H λx H1=>tyV K T x H1/\r x [] H1 Q
def tBM(K:AA2)(T:String)(r:V->List V->Hp->VK->Prop)(to:TE)(t:TA):TE:=λσ H Q=>to σ H λx H1=>tyV K T x H1/\t σ H1 λxs H2=>r x xs H2 Q
variable{o e:Expr}{es:List Expr}{to:TE}{t:TA}{name:Str}{apos cpos:Pos}{T id:String}{r:V->List V->Hp->VK->Prop}
theorem Il(pa:PlainAttrs T)(slot:Slot T name id)(hty:typeOf (.builtin id)=pure (.type "method_descriptor"))(hm:MtR X id r)(ho:PE X o to)
  (hbase:attributeBase o name X.env (eval o X.env)=eval o X.env:=by rfl) (hline:(apos.endLine==cpos.line)=true:=by rfl):PE X (.Call (.Attribute o name apos) [] [] cpos) (tBM0 X.K T r to):=by
 intro pins s σ H Q I h
 refine AD9 hbase hline (thn (ho pins s σ H _ I h) ?_)
 rintro v s1 ⟨x,H1,I1,r1,ty,q1⟩
 obtain⟨h1,h2⟩:=CL I1 r1 ty
 exact⟨T,id,pa,slot,hty,h1,h2,AC3 rfl (ADn (hm pins s1 σ H1 x [] v [] Q I1 r1 .nil q1))⟩
theorem Im(pa:PlainAttrs T)(slot:Slot T name id)(hty:typeOf (.builtin id)=pure (.type "method_descriptor"))(hm:MtR X id r)(ho:PE X o to)(ha:PA X (e::es) t)
  (hbase:attributeBase o name X.env (eval o X.env)=eval o X.env:=by rfl)
  (hfew:((backTo cpos (starEach (e::es) X.env)).all (λx=>!x.1)&&(backToKw cpos (keywordEach [] X.env)).all (λx=>x.1.isSome)
   && decide ((e::es).length+([]:List Keyword).length+(if ([]:List Keyword).isEmpty then 0 else 1)<30))=true:=by rfl)
  (hline:(apos.endLine==cpos.line)=true:=by rfl) (hs:starEach (e::es) X.env=(false,eval e X.env)::starEach es X.env:=by rfl) (hplain:(backTo cpos (starEach es X.env)).any (·.1)=false:=by rfl) :
  PE X (.Call (.Attribute o name apos) (e::es) [] cpos) (tBM X.K T r to t):=by
 intro pins s σ H Q I h
 refine wpAny_Call_method_late hbase hfew hline rfl (thn (ho pins s σ H _ I h) ?_)
 rintro v s1 ⟨x,H1,I1,r1,ty,q1⟩
 obtain⟨h1,h2⟩:=CL I1 r1 ty
 refine⟨T,id,pa,slot,hty,h1,h2,?_⟩
 have hA:=ha cpos pins s1 σ H1 _ I1 q1
 rw[hs]at hA ⊢
 refine AC3 (by show (false||(backTo cpos (starEach es X.env)).any (·.1))=false;rw[hplain]<;>rfl) (Calls.evalArgs_plain ?_)
 refine thn hA ?_
 rintro us s2 ⟨vs,H2,I2,r2,q2⟩
 exact hm pins s2 σ H2 x vs v us Q I2 r1 r2 q2
/- xs.append(e),list.index on a module's tuple .. are MtR facts of 06m -/
end
def MtM(X:Cx)(id:String)(r:V->List V->Hp->VK->Prop):Prop :=
 ∀(pins:List (Addr×Obj)) (s:Shared) (σ:St) (H:Hp) (x:V) (xs:List V) (v:Value) (us:List Value) (Q:VK),Inv X pins σ H s->aU x v->az xs us->r x xs H Q ->
  wpAny (model X.prog X.w) X.A (call (.builtin id) (v::us)) (EP X pins σ Q) X.xe s
theorem az.one(h:az [x] us):∃u,us=[u]/\aU x u:=by
 cases h with
 | cons r t=>cases t;exact⟨_,rfl,r⟩
theorem az.two(h:az [x,y] us):∃u v,us=[u,v]/\aU x u/\aU y v:=by
 cases h with
 | cons r t =>
  obtain⟨v,e,q⟩:=az.one t
  subst e
  exact⟨_,v,rfl,r,q⟩
theorem az.zero:∀{us:List Value},az [] us->us=[]
 | _,.nil=>rfl
theorem Inv.lset{its its':List Value}{n:Nat}{f:Array Value->Array Value}{t':Nat}(I:Inv X pins σ H s)(hH:H l=some (.lst xs))
  (e:s.heap.get? l=some { cls:=.type "list",data:=.seq its.toArray n }) (hf:f its.toArray=its'.toArray) (hv:az ys its') (hz:ys.length<=sizeLine) :
  Inv X pins σ (upd H l (.lst ys)) { s with heap:=s.heap.update l (ABF f),toks:=t' }:=by
 have q:=PySem.IsL.update e f
 rw[hf]at q
 refine I.write (x:=l) (e:=l) (by rw[hH];exact trivial) (.inl rfl) (λb' u hb hu=>(Heap.get?_update_other s.heap (ABF f) (AAt hb)).trans hu) ⟨_,q⟩ ?_
 exact⟨hz,its',_,hv,q⟩
theorem Inv.lnew(I:Inv X pins σ H s)(hv:az ys its)(hz:ys.length<=sizeLine) :
  Inv X pins σ (upd H s.heap.objs.size (.lst ys)) { s with heap:=s.heap.push { cls:=.type "list",data:=.seq its.toArray },toks:=t' } :=
 I.laid (λ_ _ q=>AA6 _ q) (AAC _) ⟨hz,its,0,hv,AAE _ rfl⟩
theorem Inv.fresh(I:Inv X pins σ H s):H s.heap.objs.size=none:=I.hok.fresh (AAC _)
theorem Inv.lstM(I:Inv X pins σ H s)(hH:H l=some (.lst xs)):xs.length<=sizeLine/\∃(its:List Value) (n:Nat),az xs its/\xs.length=its.length/\s.heap.get? l=some { cls:=.type "list",data:=.seq its.toArray n }:=by
 obtain⟨z,its,n,r,e⟩:=I.hok l _ hH
 exact⟨z,its,n,r,r.length,e⟩
theorem Bk(h:n<=sizeLine):AD5 n=false:=by
 unfold AD5
 exact dF_ (by lia)
def Eb:V->List V->Hp->VK->Prop:=λx vs H Q=>∃l xs y,x=.ref l/\vs=[y]/\H l=some (.lst xs)/\xs.length<sizeLine/\Q .non (upd H l (.lst (xs++[y])))
theorem yL:MtM X "list.append" Eb:=by
 intro pins s σ H x vs v us Q I rx rv h
 obtain⟨l,xs,y,rfl,rfl,hH,hz,q⟩:=h
 cases rx
 obtain⟨u,rfl,ru⟩:=rv.one
 obtain⟨z,its,n,r,hl,e⟩:=I.lstM hH
 refine call_meets F.slot_list_append ⟨_,e,rfl⟩ F.entry_list_append (F.args_list_append_2 _ _) (PySem.list_append l its.toArray n u (by rw[AAB];lia)) ⟨e,?_⟩
 refine⟨.non,_,I.lset (its':=its++[u]) hH e (by simp) (r.append (.cons ru .nil)) ?_,rfl,q⟩
 rw[AA9,AAb]
 lia
def Ea:V->List V->Hp->VK->Prop:=λx vs H Q=>∃l b xs zs,x=.ref l/\vs=[.ref b]/\H l=some (.lst xs)/\H b=some (.lst zs)/\xs.length+zs.length<=sizeLine/\Q .non (upd H l (.lst (xs++zs)))
theorem yJ:MtM X "list.extend" Ea:=by
 intro pins s σ H x vs v us Q I rx rv h
 obtain⟨l,b,xs,zs,rfl,rfl,hH,hB,hz,q⟩:=h
 cases rx
 obtain⟨u,rfl,ru⟩:=rv.one
 cases ru
 obtain⟨z,its,n,r,hl,e⟩:=I.lstM hH
 obtain⟨z2,its2,n2,r2,hl2,e2⟩:=I.lstM hB
 have hsz:its.toArray.size+its2.toArray.size<=sizeLine:=by rw[AAB,AAB];lia
 have hlong:¬(!its.toArray.isEmpty&&AD5 (its.toArray.size+its2.toArray.size))=true:=by
  rw[Bk hsz,Bool.and_false]
  exact AAc
 refine call_meets F.slot_list_extend ⟨_,e,rfl⟩ F.entry_list_extend (F.args_list_extend_2 _ _)
  (AutoSeq1.list_extend_list_list_0 l its.toArray n b its2.toArray n2 hlong (by rw[AAB];lia) (by lia)) ⟨e,e2,?_⟩
 refine⟨.non,_,I.lset (its':=its++its2) hH e (by simp) (r.append r2) ?_,rfl,q⟩
 rw[AA9]
 lia
def Hw:V->List V->Hp->VK->Prop:=λx vs H Q=>∃l xs,x=.ref l/\vs=[]/\H l=some (.lst xs)/\Q .non (upd H l (.lst []))
theorem Bp:MtM X "list.clear" Hw:=by
 intro pins s σ H x vs v us Q I rx rv h
 obtain⟨l,xs,rfl,rfl,hH,q⟩:=h
 cases rx
 have hus:=rv.zero
 subst hus
 obtain⟨z,its,n,r,hl,e⟩:=I.lstM hH
 refine call_meets F.slot_list_clear ⟨_,e,rfl⟩ F.entry_list_clear (F.args_list_clear_1 _) (AutoSeq1.list_clear_list_0 l its.toArray n (by rw[AAB];lia)) ⟨e,?_⟩
 exact⟨.non,_,I.lset (its':=[]) (ys:=[]) hH e rfl .nil (AAV _),rfl,q⟩
def rCat:R2:=λx y H Q=>∃l b xs zs,x=.ref l/\y=.ref b/\H l=some (.lst xs)/\H b=some (.lst zs)/\xs.length+zs.length<=sizeLine/\∀p,H p=none->Q (.ref p) (upd H p (.lst (xs++zs)))
theorem Iz:OpR X (binaryOp .Add) rCat:=by
 intro pins s σ H x y v u Q I rx ry h
 obtain⟨l,b,xs,zs,rfl,rfl,hH,hB,hz,q⟩:=h
 cases rx
 cases ry
 obtain⟨z,its,n,r,hl,e⟩:=I.lstM hH
 obtain⟨z2,its2,n2,r2,hl2,e2⟩:=I.lstM hB
 refine PySem.P.add_list e e2 ?_ (by rw[AAB,AAB];lia)
 have ea:its.toArray++its2.toArray=(its++its2).toArray:=by simp
 rw[ea]
 exact⟨.ref _,_,I.lnew (t':=s.toks) (r.append r2) (by rw[AA9];lia),rfl,q _ I.fresh⟩
end L2
namespace Att
open PySem PySem.W PySem.Calls PyProof.Rows
theorem kQ:∀(ns:List Int) (vs:List Value),WellAll P h vs (ns.map WData.int)->IntsAre vs ns:=by
 intro ns
 induction ns with
 | nil =>
  intro vs w
  rw[ACA]at w
  cases w
  exact .nil
 | cons n ns ih =>
  intro vs w
  rw[AAH]at w
  cases w with
  | cons a b =>
   cases a
   exact .cons _ _ (ih _ b)
theorem xT{l:OpenLaw}{n:Nat}(hn:l.most=some n){P:Params}{h:Heap}{args:List WData}{vals:List Value}
  (hpre:l.row.toRowW.claim.pre args=true) (hwl:WellAll P h vals args) :
  ∃a vs ns,vals=[AB3 a]/\args=[WData.list (ns.map WData.int)]/\h.get? a=some { cls:=.type "list",data:=.seq vs.toArray }/\IntsAre vs ns/\ns.length<=n:=by
 have hsh:WShape.hasAll [] args [.list .int]=true:=(pre_splitW hpre).1
 have hc:l.pre.holds [] { args:=args }=true:=(pre_splitW hpre).2
 obtain⟨d,r,rfl,h1,h2⟩:=hasAllW_cons hsh
 obtain rfl:=hasAllW_nil h2
 obtain⟨xs,rfl,h3⟩:=hasW_list h1
 obtain⟨ns,rfl⟩:=items_int h3
 have hlen:ns.length<=n:=by
  unfold OpenLaw.pre at hc
  have h4:(WTm.not (.lt (.lit (.int (n:Int))) (.len (.arg 0)))).holds [] { args:=[.list (ns.map .int)] }=true:=by
   have h4:=(holds_andW hc).1
   rw[hn]at h4
   exact h4
  have h5:=condW_of h4 (w_not (w_lt w_lit (w_len_list (w_arg rfl))))
  rw[AA4]at h5
  refine Nat.le_of_not_lt λq=>?_
  have q':(n:Int)<((ns.length:Nat):Int):=by lia
  first
   | (rw[dT_ q']at h5;exact absurd h5 (by decide))
   | (simp at h5;lia)
 cases hwl with
 | cons w1 w2 =>
  cases w2
  cases w1 with
  | list ho hall=>exact⟨_,_,ns,rfl,rfl,ho,kQ ns _ hall,hlen⟩
theorem yd(l:OpenLaw)(args:List WData):l.row.toRowW.claim.post args (.bool true) args=true :=
 postW_of (r:=l.row.toRowW) (X:=(true==true))
  (show WShape.has [] (.bool true) .bool=true by first | rfl | decide | simp[WShape.has,WShape.arms,WShape.armsAll])
  (show (WTm.eq .res (.lit (.bool true))).value [] { args:=args,res:=some (.bool true),after:=args }=some (.bool (true==true))from w_eq_bool (w_res rfl) w_lit) rfl
theorem attach_call{l:OpenLaw}{n:Nat}{q:Program}{loose:List Str}{XP:(Str->Option Value)->Heap->Prop}{YP:World->Heap->Prop}{d:DefRec}
  (hn:l.most=some n) (hdf:d.params.defaults=[])
  (call:∀(w:World) (s₀ s₁:Shared) (mg mb:Str->Option Value) (fa:Addr) (o:Obj) (pm cd doc:Value) (a:Addr) (vs:List Value) (ns:List Int),
   Ground q loose [] XP w s₀ mg mb s₁.heap->YP w s₁.heap ->
   s₁.heap.get? fa=some o->o.data=.func (docDef d.name d.params d.body d.scope pm cd doc)->s₁.heap.CodeRec cd d.name->mg d.name=some (.ref fa) ->
   s₁.heap.get? a=some { cls:=.type "list",data:=.seq vs.toArray }->IntsAre vs ns->ns.length<=n->s₁.gens = #[] ->
   codeAny (model l.prog w) callerA (.call (.ref fa) ⟨[.ref a],[]⟩) (λr s'=>r=.ok (.ret (.bool true))/\OldK s₁.heap s'.heap/\s'.os=s₁.os/\AllBare s'.gens) s₁) :
  WalkO q loose XP YP l.row.toRowW d [] (λf vs=>PySem.call f vs):=by
 intro w s₀ s₁ mg mb G Y fa o pm cd doc dV kV ho hd hcd hD hmg hg args vals as hpre hlay hrd hwl hlo
 obtain rfl:dV=.none:=Dflts.none hD hdf
 obtain rfl:kV=.none:=Dflts.noKw hD
 obtain⟨a,vs,ns,rfl,rfl,hobj,hints,hlen⟩:=xT hn hpre hwl
 refine enter_call (AE5 (call w s₀ s₁ mg mb fa o pm cd doc a vs ns G Y ho (fd_plain hd) hcd hmg hobj hints hlen hg) λr s' hq=>?_)
 obtain⟨rfl,h2,h3,h4⟩:=hq
 exact⟨.inl ⟨.bool true,.bool true,[],rfl,λ_=>rfl,.bool true,yd l _,λ_=>⟨ADN,λ_ hm=>(nomatch hm)⟩⟩,h2,h3,h4⟩
noncomputable def noObjs(h:Heap):Heap:={ h with objs:=#[] }
theorem noObjs_get(h:Heap)(b:Addr):(noObjs h).get? b=none:=by
 cases e:(noObjs h).get? b with
 | none=>rfl
 | some o=>exact absurd (AAM e) (Nat.not_lt_zero _)
noncomputable def ledger(h:Heap)(L d:Addr):List (Addr×Obj):=(AAg h.objs.size).filterMap λa=>if a=L\/a=d then none else(h.get? a).map λo=>(a,o)
theorem mem_ledger:(a,o)∈ledger h L d↔a≠L/\a≠d/\h.get? a=some o:=by
 unfold ledger
 rw[List.mem_filterMap]
 constructor
 ·rintro⟨b,_,e⟩
  split at e
  ·cases e
  ·rename_i hb
   obtain⟨o',ho,e'⟩:=ABg.mp e
   cases e'
   exact⟨λq=>hb (.inl q),λq=>hb (.inr q),ho⟩
 ·rintro⟨n1,n2,ho⟩
  refine⟨a,ABK.mpr (AAM ho),?_⟩
  rw[if_neg (show ¬(a=L\/a=d)from λq=>q.elim n1 n2),ho]<;>rfl
theorem news_ledger(hne:d≠L)(ho:h.get? d=some od):News (noObjs h) L h ([]++(d,od)::ledger h L d):=by
 rintro⟨a,o⟩ hp
 rcases AAF.mp hp with e | hp
 ·cases e
  exact⟨ho,hne,noObjs_get _ _⟩
 ·obtain⟨n1,n2,e⟩:=mem_ledger.mp hp
  exact⟨e,n1,noObjs_get _ _⟩
theorem fr_all(n:h.Ns L m):Fr (noObjs h) L h m :=
 ⟨n,λb o e=>(by rw[noObjs_get]at e;cases e),AAV _⟩
end Att
namespace L2
open PySem PySem.Spec PyProof.Rows
theorem eD:∀{vs:List Value}{ns:List Int},IntsAre vs ns->az (ns.map V.int) vs
 | _,_,.nil=>.nil
 | _,_,.cons n t h=>.cons ⟨t,rfl⟩ (eD h)
def Only(H:Hp):Prop:=∀b,H b=none\/∃o xs,H b=some (.frz o (.lst xs))
theorem BD{P:Program}{w:World}{K:AA2}{mg mb:Str->Option Value}{CX:CXT}{k:Nat}{fa a:Addr}{fd:FuncData}{x:Str}{sp:Sp}{s₁:Shared}{vs:List Value}{ns:List Int}
  (KX:K.In s₁.heap) (hns:s₁.heap.Ns mainGlobals mg) (hb:s₁.heap.Ns builtinsNs mb) (hbb:∀x:Str,x≠"__name__"->mb x=bootBuiltins x) (hlim:s₁.heap.NoLimit) (hg:s₁.gens = #[])
  (ha:s₁.heap.get? a=some { cls:=.type "list",data:=.seq vs.toArray }) (hi:IntsAre vs ns) (hl:ns.length<=sizeLine) (hr:Room k callerA)
  (F:∀base:Heap,K.In base->base.Ns mainGlobals mg->FnOk P w K mg base CX k fa fd [x] sp) (hbind:∀(s:Shared) (u:Value),BindsTo s fd ⟨[u],[]⟩ [(x,u)])
  (hsp:∀H:Hp,Only H->SqL K H a (ns.map V.int)->sp [.ref a] H (λv _=>v=.bl true) λ_ _ _=>False)
  (hCX:∀H e s',CX [] H s₁ (λ_ _ _=>False) e s'->False) :
  codeAny (model P w) callerA (.call (.ref fa) ⟨[.ref a],[]⟩) (λr s'=>r=.ok (.ret (.bool true))/\OldK s₁.heap s'.heap/\s'.os=s₁.os/\AllBare s'.gens) s₁:=by
 have rv:=eD hi
 have lenV:=hi.length
 -- from an abstract heap in which nothing but the script may be tracked
 have core:∀H:Hp,Only H->SqL K H a (ns.map V.int)->HOk P w H s₁.heap->(∀b,H b≠none->b=a)->(H a≠none->K.lookup a=none) ->
   codeAny (model P w) callerA (.call (.ref fa) ⟨[.ref a],[]⟩) (λr s'=>r=.ok (.ret (.bool true))/\OldK s₁.heap s'.heap/\s'.os=s₁.os/\AllBare s'.gens) s₁:=by
  intro H hO hS hok hA hK
  have base_of:∀{b:Addr}{o:Obj},s₁.heap.get? b=some o->H b=none->(BU s₁.heap H).get? b=some o:=λe n=>BT e n
  have noA:∀{b:Addr}{o:Obj}{es:Array DictEntry}{ep:Nat},s₁.heap.get? b=some o->o.data=.dict es ep->H b=none:=λ{b o es ep} e d=>by
   cases q:H b with
   | none=>rfl
   | some u =>
    have e':b=a:=hA b (by rw[q];simp)
    subst e'
    rw[ha]at e;cases e
    have d':Data.seq vs.toArray _=Data.dict es ep:=d
    cases d'
  have nsK:∀{b:Addr}{m:Str->Option Value},s₁.heap.Ns b m->(BU s₁.heap H).Ns b m:=λ{b m} ⟨o,es,ep,e,d,r⟩=>⟨o,es,ep,base_of e (noA e d),d,r⟩
  have hKb:K.In (BU s₁.heap H):=λb o e=>base_of (KX b o e) (by
   cases q:H b with
   | none=>rfl
   | some u =>
    have e':b=a:=hA b (by rw[q];simp)
    subst e'
    rw[hK (by rw[q];simp)]at e;cases e)
  have hM:Mod K mg (BU s₁.heap H):=⟨hKb,nsK hns,⟨mb,nsK hb,hbb⟩,let ⟨mc,h1,h2⟩:=hlim;⟨mc,nsK h1,h2⟩⟩
  have e0:Env0 P w K mg (BU s₁.heap H) callerA [] s₁ H:=⟨rfl,hM,λb o e=>EL e,Nat.le_of_eq (zE _ _),trivial,λb hb=>absurd (show b∈([]:List Addr)from hb) (by simp),hok,.of_eq hg⟩
  refine AE5 ((F _ hKb (nsK hns)).run callerA [] s₁ H ⟨[.ref a],[]⟩ [.ref a] [.ref a] _ _ hr e0 (hbind s₁ (.ref a)) (.cons rfl .nil) (hsp H hO hS)) λr s' h=>?_
  cases r with
  | error e=>exact(hCX H e s' h).elim
  | ok fl =>
   cases fl with
   | next=>exact AC5 h
   | brk=>exact AC5 h
   | cont=>exact AC5 h
   | ret u =>
    obtain⟨v,H',os,bare,un,hok',r',q⟩:=h
    have q':v=.bl true:=q
    subst q'
    obtain rfl:u=ADj true:=r'
    refine⟨rfl,OldK.of_keep λb o e=>?_,os,bare⟩
    cases q:H b with
    | none=>exact un.keep b o e q (by intro z;exact absurd (show b∈([]:List Addr)from z) (by simp)) (by simp)
    | some u =>
     rcases hO b with z | ⟨ob,xs,z⟩
     ·rw[q]at z;cases z
     ·have z2:=un.frzs b ob _ z
      obtain⟨e1,_⟩:=hok b _ z
      obtain⟨e2,_⟩:=hok' b _ z2
      rw[e]at e1;cases e1
      exact e2
 cases hk:K.lookup a with
 | some o =>
  -- the script is one of the module's own objects
  have e:=KX a o hk
  rw[ha]at e
  cases e
  refine core (λ_=>none) (λ_=>.inl rfl) (.inr ⟨_,vs.toArray,_,hk,rfl,rfl,rfl,by rw[AAB,lenV];exact hl,by simpa using rv⟩) (λb u z=>by have z':(none:Option HO)=some u:=z;cases z') (λb z=>absurd rfl z) λz=>absurd rfl z
 | none =>
  refine core (λb=>if b=a then some (.frz { cls:=.type "list",data:=.seq vs.toArray } (.lst (ns.map V.int)))else none) (λb=>?_) (.inl (.inr ⟨{ cls:=.type "list",data:=.seq vs.toArray },if_pos rfl⟩)) (λb u z=>?_) (λb z=>?_) λ_=>hk
  ·by_cases hb:b=a
   ·exact .inr ⟨_,_,if_pos hb⟩
   ·exact .inl (if_neg hb)
  ·by_cases hb:b=a
   ·have z':=(if_pos hb).symm.trans z
    cases z'
    subst hb
    exact⟨ha,by rw[AA4];exact hl,vs,_,rv,ha⟩
   ·have z':=(if_neg hb).symm.trans z
    cases z'
  ·by_cases hb:b=a
   ·exact hb
   ·exact absurd (if_neg hb) z
noncomputable abbrev KOf{K:AA2}{h:Heap}(_:K.In h):AA2:=K
theorem walk_of{l:PySem.W.OpenLaw}{n k:Nat}{q:Program}{loose:List Str}{XP:(Str->Option Value)->Heap->Prop}{YP:World->Heap->Prop}{d:DefRec}{K:Params->AA2}{CX:World->CXT}{sp:World->Sp}{x:Str}
  (hn:l.most=some n) (hn2:n<=sizeLine) (hdf:d.params.defaults=[]) (hr:Room k callerA)
  (hY:∀(w:World) (h:Heap),YP w h->(K w.params).In h)
  (F:∀(w:World) (mg:Str->Option Value) (fa:Addr) (h:Heap),(K w.params).In h->h.Ns mainGlobals mg->mg d.name=some (.ref fa) ->
   ∃fd:FuncData,(∀(s:Shared) (u:Value),BindsTo s fd ⟨[u],[]⟩ [(x,u)]) /\
    ∀base:Heap,(K w.params).In base->base.Ns mainGlobals mg->FnOk l.prog w (K w.params) mg base (CX w) k fa fd [x] (sp w))
  (hsp:∀(w:World) (H:Hp) (a:Addr) (ns:List Int),ns.length<=n->Only H->SqL (K w.params) H a (ns.map V.int)->sp w [.ref a] H (λv _=>v=.bl true) λ_ _ _=>False)
  (hCX:∀(w:World) (H:Hp) (s:Shared) (e:Value) (s':Shared),CX w [] H s (λ_ _ _=>False) e s'->False) :
  PySem.W.WalkO q loose XP YP l.row.toRowW d [] (λf vs=>PySem.call f vs):=by
 refine Att.attach_call hn hdf λw s₀ s₁ mg mb fa o pm cd doc a vs ns G Y ho hd hcd hmg hobj hints hlen hg=>?_
 have KX:=hY w _ Y
 obtain⟨fd,hb,hF⟩:=F w mg fa _ KX G.T.g hmg
 exact BD KX G.T.g G.T.b G.T.builtins G.T.nolimit hg hobj hints (AAp hlen hn2) hr hF hb (λH hO hS=>hsp w H a ns hlen hO hS) λH e s'=>hCX w H s₁ e s'
noncomputable def cH(s:Stmt):Arguments:=match s with
 | .FunctionDef _ a _ _ _ _ _ _ _ _=>a
 | _=>{ posonlyargs:=[],args:=[],vararg:=none,kwonlyargs:=[],kw_defaults:=[],kwarg:=none,defaults:=[] }
noncomputable def bj(s:Stmt):List Stmt:=match s with
 | .FunctionDef _ _ b _ _ _ _ _ _ _=>b
 | _=>[]
noncomputable def aw(s:Stmt):Scope:=match s with
 | .FunctionDef _ _ _ _ _ _ sc _ _ _=>sc
 | _=>{ kind:=.function,names:=[],isGenerator:=false,isCoroutine:=false }
abbrev CX0:CXT:=λ_ _ _ _ _ _=>False
abbrev E0:XK:=λ_ _ _=>False
theorem Bc:rj CX0 X E0:=λ_ _ _ _ _ _ _ h=>h.elim
structure Fun(K:AA2)(x qual:Str)(st:Stmt)(f:Addr)(fd:FuncData):Prop where
 ex:∃(oc:Value) (od:Option Addr) (kV doc pm:Value) (an:Option Addr) (cdv ct:Value) (osl:Array (Option Value)),
  fd=ABd x qual (cH st) (bj st) (aw st) .none kV doc pm an cdv ct/\K.lookup f=some ⟨oc,od,.func fd,osl⟩/\ACu K cdv qual=true
 kp:ABY K (.ref f)=true
theorem Fun.ok{P:Program}{w:World}{K:AA2}{mg:Str->Option Value}{base:Heap}{x qual:Str}{st:Stmt}{f:Addr}{fd:FuncData}{N ps:List Str}{k:Nat}{sp:Sp}(F:Fun K x qual st f fd)(S:FnScope N ps (aw st))(len:∀vs H Q E,sp vs H Q E->vs.length=ps.length)
  (hbody:∀(cdv:Value) (A:Around) (outer:List Env) (s:Shared) (H:Hp) (vs:List V) (Q:VK) (E:XK),Room k (A.deeper (envOfC qual (aw st) s.heap.objs.size f cdv))->sp vs H Q E ->
   ∃t,PSs (wK CX0 P w K mg base N qual (aw st) f cdv A outer s H E).nox (bj st) t/\t { nx:=λ_ H'=>Q .non H',rt:=Q } (start N vs) H):FnOk P w K mg base CX0 (k+1) f fd ps sp:=by
 obtain⟨oc,od,kV,doc,pm,an,cdv,ct,osl,rfl,lk,hcd⟩:=F.ex
 refine fn_of lk hcd S len λA outer s H vs Q E hr hsp=>?_
 obtain⟨t,h,q⟩:=hbody cdv A outer s H vs Q E hr hsp
 exact⟨t,h.nox,q⟩
theorem Fun.binds{K:AA2}{x qual:Str}{st:Stmt}{f:Addr}{fd:FuncData}{ps:List Str}(F:Fun K x qual st f fd)
  (h:∀(kV doc pm:Value) (an:Option Addr) (cdv ct:Value) (us:List Value),us.length=ps.length->bindArgs (ABd x qual (cH st) (bj st) (aw st) .none kV doc pm an cdv ct) ⟨us,[]⟩=pure (ps.zip us)):ic K fd ps []:=by
 obtain⟨oc,od,kV,doc,pm,an,cdv,ct,osl,rfl,lk,hcd⟩:=F.ex
 exact .all (h kV doc pm an cdv ct)
theorem zK{K:AA2}{x qual:Str}{st:Stmt}{f:Addr}{oc:Value}{od an:Option Addr}{osl:Array (Option Value)}{kV doc pm cdv ct:Value}(l:K.lookup f=some ⟨oc,od,.func (ABd x qual (cH st) (bj st) (aw st) .none kV doc pm an cdv ct),osl⟩)
  (c:ACu K cdv qual=true) (k:ABY K (.ref f)=true):Fun K x qual st f (ABd x qual (cH st) (bj st) (aw st) .none kV doc pm an cdv ct):=⟨⟨oc,od,kV,doc,pm,an,cdv,ct,osl,rfl,l,c⟩,k⟩
theorem small1000(h:n<=1000):n<sizeLine:=Nat.lt_of_le_of_lt h (by decide)
theorem bp{A B:Prop}(h:B):if false=true then A else B:=by
 rw[if_neg AAc]
 exact h
theorem bu{A B:Prop}(h:A):if true=true then A else B:=by
 rw[if_pos rfl]
 exact h
section
variable{κ:Type}[DecidableEq κ]
noncomputable def DF(kvs:List (κ×V))(k:κ):Option V:=(kvs.find? λkv=>decide (kv.1=k)).map (·.2)
noncomputable def rA(kvs:List (κ×V))(k:κ)(v:V):List (κ×V) :=
 if (kvs.any λkv=>decide (kv.1=k))=true then kvs.map (λkv=>if kv.1=k then(kv.1,v)else kv)else kvs++[(k,v)]
theorem tG{p:κ×V}{r:List (κ×V)}{k:κ}(e:p.1=k):DF (p::r) k=some p.2:=by simp[DF,AAu,e]
theorem tH{p:κ×V}{r:List (κ×V)}{k:κ}(e:¬p.1=k):DF (p::r) k=DF r k:=by simp[DF,AAu,e]
theorem tI(k:κ):∀kvs:List (κ×V),(kvs.any λkv=>decide (kv.1=k))=(DF kvs k).isSome
 | []=>rfl
 | p::r=>by
  rw[ACX]
  by_cases e:p.1=k
  ·simp only[tG e,dT_ e,Bool.true_or,Option.isSome_some]
  ·rw[tH e,dF_ e,Bool.false_or];exact tI k r
theorem fT(kvs:List (κ×V))(k:κ)(v:V):(rA kvs k v).length<=kvs.length+1:=by
 unfold rA
 split
 ·rw[AA4];lia
 ·rw[AA9,AAD,AAS];lia
theorem wG.isSome_eq(r:wG o u):o.isSome=u.isSome:=by
 cases o with
 | none=>cases u with
  | none=>rfl
  | some _=>exact(show False from r).elim
 | some _=>cases u with
  | none=>exact(show False from r).elim
  | some _=>rfl
theorem KV.any(r:KV kvs vs)(k:κ):(kvs.any λkv=>decide (kv.1=k))=vs.any λkv=>decide (kv.1=k):=by
 unfold KV at r
 induction r with
 | nil=>rfl
 | cons h t ih=>rw[ACX,ACX,ih,h.1]
theorem KV.repl(r:KV kvs vs)(k:κ)(ry:aU y u) :
  KV (kvs.map λkv=>if kv.1=k then(kv.1,y)else kv) (vs.map λkv=>if kv.1=k then(kv.1,u)else kv):=by
 unfold KV at r ⊢
 induction r with
 | nil=>exact .nil
 | @cons p q ps qs h t ih =>
  rw[AAH,AAH]
  refine .cons ?_ ih
  obtain⟨h1,h2⟩:=h
  by_cases e:p.1=k
  ·rw[if_pos e,if_pos (h1.symm.trans e)];exact⟨h1,ry⟩
  ·rw[if_neg e,if_neg (λz=>e (h1.trans z))];exact⟨h1,h2⟩
theorem KV.put(r:KV kvs vs)(k:κ)(ry:aU y u):KV (rA kvs k y) (stored vs k u):=by
 unfold rA stored
 rw[r.any k]
 by_cases e:(vs.any λkv=>decide (kv.1=k))=true
 ·rw[if_pos e,if_pos e];exact r.repl k ry
 ·rw[if_neg e,if_neg e];exact Paired.snoc r ⟨rfl,ry⟩
theorem KV.length(r:KV kvs vs):kvs.length=vs.length:=Paired.length r
end
theorem FC(r:aU (kV k) u):(bw P w).is k u=true:=by
 cases k with
 | inl i=>obtain⟨t,e⟩:=(show ∃t,u=Value.int i t from r);subst e;exact sv P w i t
 | inr x=>obtain⟨t,e⟩:=(show ∃t,u=Value.str x t from r);subst e;exact su P w x t
theorem qB:∀{ks:List Key}{us:List Value},az (ks.map kV) us->ItemsAre (bw P w) ks us
 | [],_,r=>by rw[ACA]at r;cases r;exact .nil
 | k::ks,_,r=>by
  rw[AAH]at r
  cases r with
  | cons h t=>exact .cons (FC h) (qB t)
abbrev KT(H:Hp):List (List Key×V)->List (List Key×Addr×Value)->Prop:=Paired λp q=>p.1=q.1/\H q.2.1=some (.tup (p.1.map kV))/\aU p.2 q.2.2
theorem KT.val{H:Hp}{kvs:List (List Key×V)}{xs:List (List Key×Addr×Value)}(r:KT H kvs xs)(k:List Key):wG (DF kvs k) ((atKey xs k).map (·.2)):=by
 induction r with
 | nil=>exact ACL
 | @cons p q ps qs h t ih =>
  obtain⟨h1,_,h2⟩:=h
  by_cases e:p.1=k
  ·have e':q.1=k:=h1.symm.trans e
   have b:atKey (q::qs) k=some q.2:=by simp[atKey,AAu,e']
   rw[tG e,b];exact h2
  ·have e':¬q.1=k:=λz=>e (h1.trans z)
   have b:atKey (q::qs) k=atKey qs k:=by simp[atKey,AAu,e']
   rw[tH e,b];exact ih
theorem KT.repl(r:KT H kvs xs)(k:List Key)(ry:aU y u) :
  KT H (kvs.map λkv=>if kv.1=k then(kv.1,y)else kv) (xs.map (putAt k u)):=by
 induction r with
 | nil=>exact .nil
 | @cons p q ps qs h t ih =>
  rw[AAH,AAH]
  refine .cons ?_ ih
  obtain⟨h1,h2,h3⟩:=h
  unfold putAt
  by_cases e:p.1=k
  ·rw[if_pos e,if_pos (h1.symm.trans e)];exact⟨h1,h2,ry⟩
  ·rw[if_neg e,if_neg (λz=>e (h1.trans z))];exact⟨h1,h2,h3⟩
theorem KT.put(r:KT H kvs xs)(k:List Key)(hb:H b=some (.tup (k.map kV)))(ry:aU y u) :
  KT H (rA kvs k y) (storedH xs k b u):=by
 have e:(kvs.any λkv=>decide (kv.1=k))=(atKey xs k).isSome:=by
  rw[tI,(r.val k).isSome_eq,ACN]
 unfold rA storedH
 rw[e]
 by_cases q:(atKey xs k).isSome=true
 ·rw[if_pos q,if_pos q];exact r.repl k ry
 ·rw[if_neg q,if_neg q];exact Paired.snoc r ⟨rfl,hb,ry⟩
theorem KT.keeps(r:KT H kvs xs)(ht:∀b ys,H b=some (.tup ys)->H' b=some (.tup ys)):KT H' kvs xs :=
 Paired.mapP r λ_ _ z=>⟨z.1,ht _ _ z.2.1,z.2.2⟩
theorem Hu(ok:HOk P w H h)(e:Rd H a u):bP P w H h a u:=e.ok ok
theorem dk_rd(ok:HOk P w H h)(e:Rd H a (.dK kvs)):kvs.length<=sizeLine/\(a==sysModules)=false/\∃vs,KV kvs vs/\h.DictOf (bw P w) a vs :=
 show bP P w H h a (.dK kvs)from Hu ok e
theorem JZ(ok:HOk P w H h)(e:H a=some (.dK kvs)):kvs.length<=sizeLine/\(a==sysModules)=false/\∃vs,KV kvs vs/\h.DictOf (bw P w) a vs:=dk_rd ok (.inl e)
theorem Dl(ok:HOk P w H h)(e:H a=some (.tup (ks.map kV))):(tupleKind (bw P w)).is h ks a:=by
 obtain⟨_,its,r,o,h1,h2,⟨n,h3⟩,_⟩:=(show bP P w H h a (.tup (ks.map kV))from ok a _ e)
 exact⟨o,its.toArray,n,h1,h2,h3,by simpa using qB r⟩
theorem dt_rd(ok:HOk P w H h)(e:Rd H a (.dT kvs)):kvs.length<=sizeLine/\(a==sysModules)=false /\
  ∃xs,KT H kvs xs/\h.DictOfH (tupleKind (bw P w)) a xs:=by
 obtain⟨z,y,xs,r,o,es,ep,h1,h2,h3,h4,h5⟩:=(show bP P w H h a (.dT kvs)from Hu ok e)
 refine⟨z,y,xs,r,o,es,ep,h1,h2,h3,h4,λx hx=>?_,h5⟩
 have all:∀{l:List (List Key×V)}{m:List (List Key×Addr×Value)},KT H l m->∀x∈m,(tupleKind (bw P w)).is h x.1 x.2.1:=by
  intro l m q
  induction q with
  | nil=>intro x hx;exact nomatch hx
  | @cons p q ps qs hq t ih =>
   intro x hx
   rcases AAF.mp hx with e | hx
   ·subst e
    exact Dl ok (by rw[<-hq.1];exact hq.2.1)
   ·exact ih x hx
 exact all r x hx
theorem dt_of(ok:HOk P w H h)(e:H a=some (.dT kvs)):kvs.length<=sizeLine/\(a==sysModules)=false /\
  ∃xs,KT H kvs xs/\h.DictOfH (tupleKind (bw P w)) a xs:=dt_rd ok (.inl e)
def DPut(H:Hp)(a:Addr)(y v:V)(H':Hp):Prop :=
 (∃kvs k,H a=some (.dK kvs)/\y=kV k/\kvs.length<sizeLine/\H'=upd H a (.dK (rA kvs k v))) \/
 ∃kvs k b,H a=some (.dT kvs)/\y=.ref b/\H b=some (.tup (k.map kV))/\kvs.length<sizeLine/\H'=upd H a (.dT (rA kvs k v))
theorem Inv.big(I:Inv X pins σ H s):sysModules<s.heap.objs.size:=by
 have h:mainGlobals<s.heap.objs.size:=(I.mod.glob.keeps I.bk).lt
 exact Nat.lt_trans (by decide) h
theorem nO(I:Inv X pins σ H s)(mu:Mut (H a))(hs:ABt a s.heap h')(he:∃q,h'.get? a=some q)(new:bP X.prog X.w (upd H a ob) h' a ob) :
  Inv X pins σ (upd H a ob) { s with heap:=h',toks:=t' } :=
 I.write (x:=a) (e:=a) mu (.inl rfl) (λb q hb z=>(hs.2 b hb).trans z) he new
theorem Dp(z:kvs.length<=sizeLine)(hd:(a==sysModules)=false)(rel:KV kvs vs)(dd:h'.DictOf (bw P w) a vs) :
  bP P w H' h' a (.dK kvs):=⟨z,hd,vs,rel,dd⟩
theorem zV(hu:A.units+1<cLine)(I:Inv X pins σ H s)(g:DPut H a y v H')(ry:aU y u)(rv:aU v r)(h:∀s',Inv X pins σ H' s'->Q () s') :
  wpAny (model X.prog X.w) A (setItem (.ref a) u r) Q E s:=by
 rcases g with⟨kvs,k,e,ey,l,eH⟩|⟨kvs,k,b,e,ey,eb,l,eH⟩
 ·subst ey eH
  obtain⟨z,hd,vs,rel,dd⟩:=JZ I.hok e
  have hz:vs.length<=sizeLine:=by rw[<-rel.length];exact z
  have hl:(rA kvs k v).length<=sizeLine:=by have:=fT kvs k v;lia
  refine wpAny_setItem_pairs (hsz:=hz) (FC ry) dd λh' dd' hs=>h _ ?_
  have he:∃q,h'.get? a=some q:=let ⟨q,_,_,hq,_⟩:=dd';⟨q,hq⟩
  exact nO I (by rw[e];exact ACL) hs he (Dp hl hd (rel.put k rv) dd')
 ·subst ey eH
  cases (show u=AB3 b from ry)
  obtain⟨z,hd,xs,rel,dd⟩:=dt_of I.hok e
  have hz:xs.length<=sizeLine:=by rw[<-Paired.length rel];exact z
  have hl:(rA kvs k v).length<=sizeLine:=by have:=fT kvs k v;lia
  refine wpAny_setItem_heap (hsz:=hz) (tupleKind_room_in1 hu) (Dl I.hok eb) dd λh' dd' hs=>h _ ?_
  obtain⟨q,es,ep,hq,h2,h3,h4,_,h5⟩:=dd'
  refine nO I (by rw[e];exact ACL) hs ⟨q,hq⟩ ⟨hl,hd,_,(rel.put k eb rv).keeps λc ys ec=>?_,q,es,ep,hq,h2,h3,h4,h5⟩
  rw[av (ne_of ec e (λz=>nomatch z))]
  exact ec
def NoSl(i:Expr):Prop:=∀ov iv,subscripted i false ov iv=operate [ov,iv] (getItem ov iv)
theorem DJ{prog:Program}{w:World}{A:Around}{E:Value->Shared->Prop}{s:Shared}{env:Env}{value slice:Expr}{pos:Pos}{T id:String}{Q:Value->Shared->Prop}
  (hl:typeLookup (.type T) "__getitem__" = pure (some (.builtin id))) (hs:NoSl slice)
  (h:wpAny (model prog w) A (eval value env) (λo s₁=>wpAny (model prog w) A (eval slice env) (λi s₂=>s₂.TypeIs o T/\wpAny (model prog w) A (getItem o i) Q E s₂) E s₁) E s) :
  wpAny (model prog w) A (eval (.Subscript value slice pos) env) Q E s:=by
 refine Subscript_ (ABc h (λo s₁ h₁=>ABc h₁ (λi s₂ h₂=>?_) λ_ _ x=>x) λ_ _ x=>x)
 obtain⟨hT,h₂⟩:=h₂
 unfold subscriptTail
 refine AA0 ?_
 rw[getitemInPython_of_ne hT.not_modules]
 refine AA0 (ADo hT hl ?_)
 have fin:wpAny (model prog w) A (subscripted slice false o i) (λr s₃=>wpAny (model prog w) A (letTemporaryGo value o r >>= λ_=>pure r) Q E s₃) E s₂:=by
  rw[hs o i]
  exact wpAny_operating (ABc h₂ (λr s₃ h₃=>AA0 (wpAny_letTemporaryGo (AA7 h₃))) λ_ _ x=>x)
 first
  | exact AA7 (AA0 fin)
  | exact AA0 (AA7 (AA0 fin))
  | exact AA0 fin
def sDPut(td ty tv:TE):TS:=λD σ H=>tv σ H λv H1=>td σ H1 λx H2=>ty σ H2 λy H3=>∃a H4,x=.ref a/\DPut H3 a y v H4/\D.nx σ H4
theorem Ej(hu:X.A.units+1<cLine)(ho:PE X o td)(hi:PE X i ty)(hv:PE X value tv)(hs:swapsWith value (some (.Subscript o i pos')) pos.line X.env=pure false) :
  PS X (.Assign [.Subscript o i pos'] value pos) (sDPut td ty tv):=by
 intro pins s σ H D I h
 refine wpAny_Assign_Subscript (thn (hv pins s σ H _ I h) λr s1 ⟨v,H1,I1,rv,q1⟩=>thn (ho pins s1 σ H1 _ I1 q1) λu s2 ⟨x,H2,I2,rx,q2⟩=>thn (hi pins s2 σ H2 _ I2 q2) ?_) hs
 rintro iv s3 ⟨y,H3,I3,ry,a,H4,ex,g,q3⟩
 subst ex
 obtain rfl:u=AB3 a:=rx
 exact zV hu I3 g ry rv λs4 I4=>⟨σ,H4,I4,q3⟩
theorem Cj(h:Heap)(hb:sysModules<h.objs.size):bP P w H (h.push { cls:=.type "dict",data:=.dict #[] }) h.objs.size (.dK []) :=
 ⟨AAV _,beq_eq_false_iff_ne.mpr (AAt (AAQ hb)),[],.nil,Heap.DictOf.new h⟩
def xH:List (TE×TE)->St->Hp->(List (V×V)->Hp->Prop)->Prop
 | [],_,H,Q=>Q [] H
 | (tk,tv)::r,σ,H,Q=>tk σ H λx H1=>tv σ H1 λy H2=>xH r σ H2 λps H3=>Q ((x,y)::ps) H3
abbrev VV:List (V×V)->List (Value×Value)->Prop:=Paired λp q=>aU p.1 q.1/\aU p.2 q.2
def PPs(X:Cx)(pos:Pos)(keys:List (Option Expr))(values:List Expr)(trs:List (TE×TE)):Prop :=
 ∀(pins:List (Addr×Obj)) (s:Shared) (σ:St) (H:Hp) (Q:List (V×V)->Hp->Prop),Inv X pins σ H s->xH trs σ H Q ->
  wpAny (model X.prog X.w) X.A (evalPairs (pairTrees keys values X.env pos)) (λvs s'=>∃ps H',Inv X pins σ H' s'/\VV ps vs/\Q ps H') X.xe s
theorem Ek:PPs X pos [] [] []:=λpins s σ H Q I h=>pairTrees_nil_walk ⟨[],H,I,.nil,h⟩
theorem AV(hk:PE X k tk)(hv:PE X v tv)(hr:PPs X pos ks vs trs) :
  PPs X pos (some k::ks) (v::vs) ((tk,tv)::trs):=by
 refine λpins s σ H Q I h=>pairTrees_cons_walk (thn (hk pins s σ H _ I h) ?_)
 rintro u s1 ⟨x,H1,I1,rx,q1⟩
 refine thn (hv pins s1 σ H1 _ I1 q1) ?_
 rintro w2 s2 ⟨y,H2,I2,ry,q2⟩
 refine thn (hr pins s2 σ H2 _ I2 q2) ?_
 rintro ws s3 ⟨ps,H3,I3,rel,q3⟩
 exact⟨(x,y)::ps,H3,I3,.cons ⟨rx,ry⟩ rel,q3⟩
noncomputable def my(kvs more:List (Key×V)):List (Key×V):=more.foldl (λacc kv=>rA acc kv.1 kv.2) kvs
theorem KV.merge:∀{more:List (Key×V)}{rs:List (Key×Value)}{kvs:List (Key×V)}{vs:List (Key×Value)},KV more rs->KV kvs vs->KV (my kvs more) (merged vs rs):=by
 intro more rs kvs vs r
 unfold KV at r
 induction r generalizing kvs vs with
 | nil=>intro q;exact q
 | @cons p q ps qs h t ih =>
  intro r0
  have e:KV (rA kvs p.1 p.2) (stored vs q.1 q.2):=by
   have:=r0.put p.1 h.2
   rw[<-h.1];exact this
  exact ih e
theorem gM:∀(more kvs:List (Key×V)),(my kvs more).length<=kvs.length+more.length
 | [],kvs=>by show kvs.length<=kvs.length+0;lia
 | p::r,kvs=>by
  have h1:=gM r (rA kvs p.1 p.2)
  have h2:=fT kvs p.1 p.2
  show (my (rA kvs p.1 p.2) r).length<=_
  rw[AAD];lia
theorem mH:∀{kvs:List (Key×V)}{ws:List (Value×Value)},VV (kvs.map λkv=>(kV kv.1,kv.2)) ws->∃rs,Carries (bw P w) ws rs/\KV kvs rs
 | [],_,r=>by rw[ACA]at r;cases r;exact⟨[],ACL,.nil⟩
 | p::kvs,_,r=>by
  rw[AAH]at r
  cases r with
  | @cons a b as bs h t =>
   obtain⟨rs,c,q⟩:=mH (P:=P) (w:=w) t
   obtain⟨b1,b2⟩:=b
   exact⟨(p.1,b2)::rs,⟨FC h.1,rfl,c⟩,.cons ⟨rfl,h.2⟩ q⟩
def tDisp(trs:List (TE×TE)):TE:=λσ H Q=>∀p,H p=none->xH trs σ (upd H p (.dK [])) λps H2=>H2 p=some (.dK [])/\∃kvs:List (Key×V),ps=kvs.map (λkv=>(kV kv.1,kv.2))/\kvs.length<=15/\Q (.ref p) (upd H2 p (.dK (my [] kvs)))
theorem Es(h:PPs X pos keys values trs)(hall:keys.all (·.isSome)=true)(hl:keys.length=values.length)(h0:keys≠[])
  (h15:keys.length<=15):PE X (.Dict keys values pos) (tDisp trs):=by
 intro pins s σ H Q I q
 have hn:=I.hok.fresh (AAC s.heap.objs.size)
 have I1:=I.laid (a:=s.heap.objs.size) (o:=.dK []) (h':=s.heap.push { cls:=.type "dict",data:=.dict #[] }) (t':=s.toks) (λ_ _ q=>AA6 _ q) (AAC _) (Cj s.heap I.big)
 refine wpAny_Dict_walk (knd:=bw X.prog X.w) hall hl h0 h15 (thn (h pins _ σ _ _ I1 (q _ hn)) ?_)
 rintro ws s2 ⟨ps,H2,I2,rel,e,kvs,ep,lk,q2⟩
 subst ep
 obtain⟨rs,c,rk⟩:=mH (P:=X.prog) (w:=X.w) rel
 obtain⟨z,hd,vs0,r0,dd⟩:=JZ I2.hok e
 cases r0
 refine⟨rs,c,dd,λh' dd' hs=>⟨.ref s.heap.objs.size,_,?_,rfl,q2⟩⟩
 have hz:(my [] kvs).length<=sizeLine:=by
  have h1:=gM kvs []
  rw[AAS]at h1
  rw[ABa];lia
 have he:∃q,h'.get? s.heap.objs.size=some q:=let ⟨q,_,_,hq,_⟩:=dd';⟨q,hq⟩
 exact nO I2 (by rw[e];exact ACL) hs he (Dp hz hd (rk.merge .nil) dd')
end L2
namespace DL
open PySem
theorem fX(env:Env):∀(names:List (Str×NameKind)) (acc:List (Str×Addr)),
  (∀p∈names,p.2=AB5->∃c,env.cells.lookup p.1=some c) ->
  ∃cl,(forIn (m:=Sem) names acc λ(p:Str×NameKind) (r:List (Str×Addr)) =>
    if (p.2==AB5)=true then(do let a <-cellOf env p.1;pure (ADp ((p.1,a)::r)))else pure (ADp r))=pure cl /\
   (∀z c,cl.lookup z=some c->acc.lookup z=some c\/env.cells.lookup z=some c) /\
   (∀z c,acc.lookup z=some c->∃c',cl.lookup z=some c') /\
   (∀p∈names,p.2=AB5->∃c,cl.lookup p.1=some c)
 | [],acc,_=>⟨acc,rfl,λ_ _ h=>.inl h,λz c h=>⟨c,h⟩,λ_ h=>nomatch h⟩
 | (n,k)::bm,acc,hyp=>by
  by_cases hk:k=AB5
  ·subst hk
   obtain⟨c0,hc0⟩:=hyp (n,.free) AAG rfl
   obtain⟨cl,e,h1,h2,h3⟩:=fX env bm ((n,c0)::acc) λp hp=>hyp p (AA8 _ hp)
   have ce:cellOf env n=pure c0:=by unfold cellOf;rw[hc0]
   have own:∃c',cl.lookup n=some c':=h2 n c0 (by simp[ABL])
   refine⟨cl,?_,λz c hz=>?_,λz c hz=>?_,λp hp hf=>?_⟩
   ·rw[ADq]
    simp only[beq_self_eq_true,if_true,ce,pure_bind]
    exact e
   ·rcases h1 z c hz with q | q
    ·rw[ABL]at q
     by_cases hz':(z==n)=true
     ·rw[hz']at q
      have:z=n:=by simpa using hz'
      subst this
      cases q
      exact .inr hc0
     ·have hz'':(z==n)=false:=by simpa using hz'
      rw[hz'']at q
      exact .inl q
    ·exact .inr q
   ·by_cases hz':z=n
    ·subst hz';exact own
    ·refine h2 z c ?_
     rw[ABL]
     have hz'':(z==n)=false:=by simpa using hz'
     rw[hz'']
     exact hz
   ·rcases AAF.mp hp with rfl | hp
    ·exact own
    ·exact h3 p hp hf
  ·have hb:(k==AB5)=false:=by simpa using hk
   obtain⟨cl,e,h1,h2,h3⟩:=fX env bm acc λp hp=>hyp p (AA8 _ hp)
   refine⟨cl,?_,h1,h2,λp hp hf=>?_⟩
   ·rw[ADq]
    simp only[hb,AAZ,if_false,pure_bind]
    exact e
   ·rcases AAF.mp hp with rfl | hp
    ·exact absurd hf hk
    ·exact h3 p hp hf
theorem ja(hyp:∀p∈scope.names,p.2=AB5->∃c,env.cells.lookup p.1=some c) :
  ∃cl,closureFor scope env=pure cl/\(∀z c,cl.lookup z=some c->env.cells.lookup z=some c)/\(∀p∈scope.names,p.2=AB5->∃c,cl.lookup p.1=some c):=by
 obtain⟨cl,e,h1,h2,h3⟩:=fX env scope.names [] hyp
 refine⟨cl,?_,λz c hz=>?_,h3⟩
 ·unfold closureFor
  simp only[bind_pure]
  exact e
 ·rcases h1 z c hz with q | q
  ·simp at q
  ·exact q
theorem eO{env:Env}:∀{names:List (Str×NameKind)}{x:Str}{k:NameKind},
  (names.map λ(p:Str×NameKind)=>if (p.2==AB5&&env.scope.kind==.function&&env.kindOf p.1==some .cell)=true then(p.1,ACY)else(p.1,p.2)).lookup x=some k ->
   (names.lookup x=some k\/(k=ACY/\names.lookup x=some .free))
 | [],_,_,h=>by simp at h
 | (n,j)::bm,x,k,h=>by
  have ih:=@eO env bm x k
  rw[AAH,ABL]at h
  by_cases hx:(x==n)=true
  ·have hl:ACU x ((n,j)::bm)=some j:=by rw[ABL,hx]
   rw[hl]
   by_cases hc:(j==AB5&&env.scope.kind==.function&&env.kindOf n==some .cell)=true
   ·simp only[hc,if_true,hx]at h
    cases h
    have:j=AB5:=by
     simp only[AAN]at hc
     simpa using hc.1.1
    exact .inr ⟨rfl,by rw[this]⟩
   ·simp only[hc,AAZ,if_false,hx]at h
    exact .inl h
  ·have hx':(x==n)=false:=by simpa using hx
   have hl:ACU x ((n,j)::bm)=ACU x bm:=by rw[ABL,hx']
   rw[hl]
   refine ih ?_
   by_cases hc:(j==AB5&&env.scope.kind==.function&&env.kindOf n==some .cell)=true
   ·simp only[hc,if_true,hx']at h
    exact h
   ·simp only[hc,AAZ,if_false,hx']at h
    exact h
theorem mO(ifs:List Expr)(env:Env):compTests ifs env =
  (forIn ifs true λc r=>if r=true then do let ok <-isTrue c env (eval c env);pure (ADp ok)else pure (ADp r)):=by
 unfold compTests
 simp only[bind_pure]
theorem wA(J:Nat->Shared->Prop)(ne:Value->Shared->Prop)
  (hne:∀e s',ne e s'->notedBy (model prog w) A env (λe s'=>R (.error e) s') e s')
  (turn:∀n s,J n s->wpAny (model prog w) A (pyNext it) (λr s1=>match r with
   | none=>R (.ok .next) s1
   | some v=>wpAny (model prog w) A (letOwnedTupleGo target it v) (λ_ s2=>wpAny (model prog w) A (assign target env v) (λ_ s3 =>
     wpAny (model prog w) A (compTests ifs env) (λok s4 =>
      if ok=true then wpAny (model prog w) A (eval elt env) (λy s5=>wpAny (model prog w) A (call (.builtin "list.append") [acc,y]) (λ_ s6=>∃m,m<n/\J m s6) ne s5) ne s4
      else ∃m,m<n/\J m s4) ne s3) ne s2) ne s1) ne s)
  (n:Nat) (h:J n s):codeAny (model prog w) A (.compLoop (.ListComp elt [⟨target,iter,ifs,0⟩] scope pos) 0 it acc env) R s:=by
 refine codeAny_loop rfl J (λn s hJ=>?_) n h
 show wpAny _ A ((compTurn (.ListComp elt [⟨target,iter,ifs,0⟩] scope pos) 0 it acc env).onRaise (λx=>do noteFrame x env;theTreesLotGoes x)) _ _ s
 refine wpAny_noted ?_
 rw[compTurn_list]
 refine AA0 (wpAny_standAt (AA0 (ABc (turn n s hJ) (λr s1 h1=>?_) hne)))
 cases r with
 | none=>exact AA7 h1
 | some v =>
  refine AA0 (ABc h1 (λ_ s2 h2=>?_) hne)
  refine AA0 (ABc h2 (λ_ s3 h3=>?_) hne)
  rw[mO]at h3
  refine AA0 (ABc h3 (λok s4 h4=>?_) hne)
  cases ok with
  | false=>exact AA7 ⟨rfl,h4⟩
  | true =>
   exact AA0 (AA0 (ABc h4 (λy s5 h5=>AA0 (ABc h5 (λ_ s6 h6=>AA7 (AA7 ⟨rfl,h6⟩)) hne)) hne))
end DL
namespace L2
open PySem PySem.Spec PyProof.Rows DL
theorem iU{env:Env}:∀{names:List (Str×NameKind)}{x:Str},names.lookup x=some .free ->
  ((names.map λ(p:Str×NameKind)=>if (p.2==AB5&&env.scope.kind==.function&&env.kindOf p.1==some .cell)=true then(p.1,ACY)else(p.1,p.2)).lookup x=some .cell \/
   (names.map λ(p:Str×NameKind)=>if (p.2==AB5&&env.scope.kind==.function&&env.kindOf p.1==some .cell)=true then(p.1,ACY)else(p.1,p.2)).lookup x=some .free)
 | [],_,h=>by simp at h
 | (n,j)::bm,x,h=>by
  have ih:=@iU env bm x
  rw[AAH,ABL]
  rw[ABL]at h
  by_cases hc:(j==AB5&&env.scope.kind==.function&&env.kindOf n==some .cell)=true
  ·by_cases hx:(x==n)=true
   ·simp[hc,hx]
   ·have hx':(x==n)=false:=by simpa using hx
    rw[hx']at h
    simp only[hc,if_true,hx']
    exact ih h
  ·by_cases hx:(x==n)=true
   ·rw[hx]at h
    cases h
    right
    simp only[hc,AAZ,if_false,hx]
   ·have hx':(x==n)=false:=by simpa using hx
    rw[hx']at h
    simp only[hc,AAZ,if_false,hx']
    exact ih h
noncomputable def blk(X:Cx)(N':List Str)(scope:Scope)(cl:List (Str×Addr))(s₀:Shared)(H₀:Hp)(ex:List Addr):Cx :=
 { X with N:=N',s₀:=s₀,H₀:=H₀,env:=compEnvC scope cl s₀.heap.objs.size X.env,outer:=X.stack,ex:=ex,fn:=λx=>scope.names.lookup x==some .cell,pn:=[],xe:=λ_ _=>False }
structure BlkSc(X:Cx)(N':List Str)(nt:Nat)(js:List Nat)(scope:Scope):Prop where
 kind:scope.kind=.function
 nocell:∀y∈scope.names,y.2≠.cell
 loc:∀y∈scope.names,y.2=.local->scope.names.lookup y.1=some .local
 free:∀y∈scope.names,y.2=.free->(X.env.kindOf y.1=some .cell\/X.env.kindOf y.1=some .free)
 len:N'.length=nt+js.length
 fr:∀(k j:Nat),js[k]?=some j->∃x,N'[nt+k]?=some x/\X.N[j]?=some x/\scope.names.lookup x=some .free/\(X.env.kindOf x=some .cell\/X.env.kindOf x=some .free)
noncomputable def bst(nt:Nat)(js:List Nat)(σ:St):St:=ADU nt none++js.map λj=>(σ[j]?).join
theorem Af(nt:Nat)(js:List Nat)(σ:St):(bst nt js σ).length=nt+js.length:=by simp[bst]
theorem GC(h:(bst nt js σ)[i]?=some (some v)):∃k j,i=nt+k/\js[k]?=some j/\σ[j]?=some (some v):=by
 unfold bst at h
 by_cases hi:i<nt
 ·rw[AAJ (by simpa using hi),ACW]at h
  simp[hi]at h
 ·rw[AAi (by simpa using Nat.not_lt.mp hi),ACh,AAU]at h
  cases e:js[i-nt]? with
  | none=>rw[e]at h;cases h
  | some j =>
   rw[e]at h
   refine⟨i-nt,j,by lia,e,?_⟩
   have h':(σ[j]?).join=some v:=by simpa using h
   cases q:σ[j]? with
   | none=>rw[q]at h';cases h'
   | some o=>rw[q]at h';exact congrArg some h'
def PTs(X:Cx)(ifs:List Expr)(t:TT):Prop :=
 ∀(pins:List (Addr×Obj)) (s:Shared) (σ:St) (H:Hp) (Q:Bool->Hp->Prop),Inv X pins σ H s->t σ H Q->wpAny (model X.prog X.w) X.A (compTests ifs X.env) (TP X pins σ Q) X.xe s
def ttNil:TT:=λ_ H Q=>Q true H
theorem Ef:PTs X [] ttNil:=λpins s σ H Q I h=>by
 rw[mO]
 exact wpAny_tests_nil ⟨H,I,h⟩
theorem Ee(h:PT X c t):PTs X [c] t:=λpins s σ H Q I hq=>by
 rw[mO]
 exact wpAny_tests_one (h pins s σ H Q I hq)
def tLC(nt:Nat)(js:List Nat)(wi:TI)(g:TG)(tt:TT)(te:TE):TE:=λσ H Q=>wi σ H λJ H1=>∃W:Nat->Nat->List V->St->Hp->Prop,(∃m,W 0 m [] (bst nt js σ) H1) /\
 ∀i m vs τ H,W i m vs τ H->(J.stop i H/\∀p,H p=none->Q (.ref p) (upd H p (.lst vs))) \/
  (J.go i H/\∀x H',J.yld i H x H'->g x τ H' λτ2 H2=>tt τ2 H2 λb H3=>if b=true then te τ2 H3 λy H4=>vs.length<sizeLine/\∃m',m' < m/\W (i+1) m' (vs++[y]) τ2 H4 else ∃m',m' < m/\W (i+1) m' vs τ2 H3)
noncomputable abbrev cj(its:List Value)(k:Nat):Obj:={ cls:=.type "list",data:=.seq its.toArray k }
structure TurnX(X:Cx)(tg:Expr)(J:It)(fp:List Addr)(it:Addr)(tn:Nat->Heap->Prop):Prop where
 item:∀(i:Nat) (pins:List (Addr×Obj)) (s:Shared) (σ:St) (H:Hp) (E:Value->Shared->Prop),Inv X pins σ H s->(∀b∈fp,rp X pins H b)->tn i s.heap->J.go i H ->
  wpAny (model X.prog X.w) X.A (pyNext (.ref it)) (λr s1=>∃u,r=some u /\
   wpAny (model X.prog X.w) X.A (letOwnedTupleGo tg (.ref it) u) (λ_ s2=>∃x H',Inv X pins σ H' s2/\aU x u/\J.yld i H x H'/\tn (i+1) s2.heap/\∀b∈fp,H' b=none) E s1) E s
 done:∀(i:Nat) (pins:List (Addr×Obj)) (s:Shared) (σ:St) (H:Hp) (E:Value->Shared->Prop),Inv X pins σ H s->(∀b∈fp,rp X pins H b)->tn i s.heap->J.stop i H ->
  wpAny (model X.prog X.w) X.A (pyNext (.ref it)) (λr s1=>r=none/\Inv X pins σ H s1) E s
theorem Turn.at(T:Turn X.prog X.w X.K tg J fp it tn)(hc:X.calm=true):TurnX X tg J fp it tn:=⟨T.item X rfl rfl rfl hc,T.done X rfl rfl rfl hc⟩
theorem Inv.blkOk(B:BlkSc X N' nt js scope)(I:Inv X pins σ H s)
  (hcl1:∀z c,cl.lookup z=some c->X.env.cells.lookup z=some c) (hcl2:∀p∈scope.names,p.2=AB5->∃c,cl.lookup p.1=some c) (hf:∀b∈fp,rp X pins H b) (hfs:∀b∈fp,b<s.heap.objs.size) :
  (blk X N' scope cl { s with heap:=s.heap.push ob } H (s.heap.objs.size::fp)).Ok:=by
 have J:Inv X pins σ H { s with heap:=s.heap.push ob }:=I.kept (t':=s.toks) λb o e=>AA6 _ e
 have ltc:∀z c,cl.lookup z=some c->c<s.heap.objs.size:=λz c e=>by
  obtain⟨v,q⟩:=I.cell z c (hcl1 z c e)
  exact q.lt
 have hC:(s.heap.push ob).objs.size=s.heap.objs.size+1:=ABZ ..
 refine⟨I.ok.mod,B.kind,I.ok.glob,I.ok.blt,AAC _,λy z c h1 h2=>I.ok.inj y z c (hcl1 y c h1) (hcl1 z c h2),λy hy=>?_,λy c h=>?_,I.ok.hd,I.ok.frames,.inl rfl,λb hb=>?_,λb o e=>?_,?_,λb o e hb=>?_,λb hb=>?_,J.stack,I.stkFree⟩
 ·have key:scope.names.lookup y=some .free:=by
   rcases hy with hy | hy
   ·rcases eO (env:=X.env) (names:=scope.names) (x:=y) (k:=.cell) hy with q | ⟨_,q⟩
    ·exact absurd rfl (B.nocell _ (ABG q))
    ·exact q
   ·rcases eO (env:=X.env) (names:=scope.names) (x:=y) (k:=.free) hy with q | ⟨q,_⟩
    ·exact q
    ·cases q
  exact hcl2 (y,.free) (ABG key) rfl
 ·exact absurd rfl (B.nocell _ (ABG (beq_iff_eq.mp (show (scope.names.lookup y==some ACY)=true from h))))
 ·show b≠(s.heap.push ob).objs.size/\∀x c,cl.lookup x=some c->c≠b
  rw[hC]
  rcases AAF.mp hb with rfl | hb
  ·exact⟨AAQ (AC7 _),λx c e=>AAQ (ltc x c e)⟩
  ·exact⟨AAQ (ACO (hfs b hb)),λx c e=>(hf b hb).2.2.2.2.1 x c (hcl1 x c e)⟩
 ·exact⟨AA6 _ (I.bs b o e).1,(I.bs b o e).2⟩
 ·show X.base.objs.size<=(s.heap.push ob).objs.size
  rw[hC]
  exact Nat.le_succ_of_le (AAp I.ok.bsz I.sz)
 ·rcases AAF.mp hb with rfl | hb
  ·exact absurd (AAM (I.bs _ o e).1) (AAk _)
  ·rcases(hf b hb).2.2.2.1 with z | z
   ·exact I.ok.noex b o e z
   ·exact absurd (AAT (AAM (I.ok.bs b o e).1) z) (AAk _)
 ·intro hz
  have hz':=I.stkSub b hz
  rcases AAF.mp hb with rfl | hb
  ·rcases AAF.mp hz' with q | q
   ·exact absurd I.lt (by rw[<-q];exact AAk _)
   ·exact I.nofs (AAC _) q
  ·rcases AAF.mp hz' with q | q
   ·exact(hf b hb).2.1 q
   ·exact(hf b hb).2.2.1 q
theorem Inv.blkStart(B:BlkSc X N' nt js scope)(I:Inv X pins σ H s)
  (hcl1:∀z c,cl.lookup z=some c->X.env.cells.lookup z=some c) (hcl2:∀p∈scope.names,p.2=AB5->∃c,cl.lookup p.1=some c) (hf:∀b∈fp,rp X pins H b) (hfs:∀b∈fp,b<s.heap.objs.size)
  (old:∀b o,(s.heap.push (cj [] 0)).get? b=some o->h1.get? b=some o) (hn:h1.Ns (s.heap.push (cj [] 0)).objs.size mm) :
  Inv (blk X N' scope cl { s with heap:=s.heap.push (cj [] 0) } H (s.heap.objs.size::fp)) [(s.heap.objs.size,cj [] 0)] (bst nt js σ) H { s with heap:=h1,toks:=tk }:=by
 have old2:∀b o,s.heap.get? b=some o->h1.get? b=some o:=λb o e=>old b o (AA6 _ e)
 have hC:(s.heap.push (cj [] 0)).objs.size=s.heap.objs.size+1:=ABZ ..
 refine⟨I.blkOk B hcl1 hcl2 hf hfs,rfl,I.bare,Un.kept old,⟨mm,hn,λi x v e1 e2 e3=>?_⟩,λx c e=>?_,?_,λx c e=>I.freeC x c (hcl1 x c e),λp hp=>?_,I.hok.kept old2,?_⟩
 ·obtain⟨k,j,rfl,hj,hσ⟩:=GC e2
  obtain⟨x',n1,n2,lf,kf⟩:=B.fr k j hj
  have ex:x=x':=AAW (e1.symm.trans n1)
  subst ex
  obtain⟨m2,hn2,hl2⟩:=I.loc
  have vis:Vis X.env.scope x:=kf.elim (λz=>.inr (.inl z)) λz=>.inr (.inr z)
  obtain⟨u,r,look⟩:=hl2 j x v n2 hσ vis
  refine⟨u,r,?_⟩
  rcases look with⟨q,_⟩|⟨q,c,hc,hcell⟩
  ·rcases kf with z | z<;>(rw[q]at z;cases z)
  ·obtain⟨c',hc'⟩:=hcl2 (x,.free) (ABG lf) rfl
   have:c'=c:=AAW ((hcl1 x c' hc').symm.trans hc)
   subst this
   exact .inr ⟨iU (env:=X.env) lf,c',hc',hcell.keeps old2⟩
 ·obtain⟨v,q⟩:=I.cell x c (hcl1 x c e)
  exact⟨v,q.keeps old2⟩
 ·exact I.hok.fresh (by show s.heap.objs.size<=(s.heap.push (cj [] 0)).objs.size;rw[hC];exact Nat.le_succ _)
 ·have e:p=(s.heap.objs.size,cj [] 0):=by simpa [blk]using hp
  subst e
  refine⟨old _ _ (AAE _ rfl),I.hok.fresh (AAC _),?_,?_,λv z=>by cases z⟩
  ·show s.heap.objs.size≠(s.heap.push (cj [] 0)).objs.size
   rw[hC]
   exact AAQ (AC7 _)
  ·intro hz
   rcases AAF.mp (I.stkSub _ hz)with q | q
   ·exact absurd I.lt (by rw[<-q];exact AAk _)
   ·exact I.nofs (AAC _) q
 ·rw[Af]
  exact B.len.symm
theorem Inv.blkEnd(I:Inv X pins σ H s)
  (hf:∀b∈fp,rp X pins H b)
  (I4:Inv (blk X N' scope cl { s with heap:=s.heap.push (cj [] 0) } H (s.heap.objs.size::fp)) [(s.heap.objs.size,cj its k)] τ H' s')
  (rv:az vs its) (hl:vs.length<=sizeLine) (sb:ABt (s.heap.push (cj [] 0)).objs.size s'.heap h') :
  Inv X pins σ (upd H' s.heap.objs.size (.lst vs)) { s' with heap:=h' }:=by
 have hC:(s.heap.push (cj [] 0)).objs.size=s.heap.objs.size+1:=ABZ ..
 have hDC:s.heap.objs.size≠(s.heap.push (cj [] 0)).objs.size:=by rw[hC];exact AAQ (AC7 _)
 obtain⟨oD,fD,_⟩:=I4.pin (s.heap.objs.size,cj its k) (by simp[blk])
 have oD':s'.heap.get? s.heap.objs.size=some (cj its k):=oD
 have fD':H' s.heap.objs.size=none:=fD
 have fC:H' (s.heap.push (cj [] 0)).objs.size=none:=I4.free
 have u:Un (frs X.stack) (s.heap.objs.size::fp) H H' (s.heap.push (cj [] 0)) s'.heap:=I4.base
 have ne:∀b o,s.heap.get? b=some o->b≠s.heap.objs.size/\b≠(s.heap.push (cj [] 0)).objs.size:=λb o e=>by
  have:=AAM e
  exact⟨AAQ this,by rw[hC];exact AAQ (ACO this)⟩
 have up:∀b o,s.heap.get? b=some o->(s.heap.push (cj [] 0)).get? b=some o:=λb o e=>AA6 _ e
 have nx:∀b o,s.heap.get? b=some o->b∉fp->b∉s.heap.objs.size::fp:=λb o e hx hz=>by
  rcases AAF.mp hz with q | q
  ·exact(ne b o e).1 q
  ·exact hx q
 refine I.call' (s':={ s' with heap:=h' }) (ch:=fp) I4.os ⟨λb o e n hb hx=>?_,λb o e n hb hx=>?_,λb o e n hx=>?_,λb o e hx=>?_,λb xs e=>?_,λb o w e=>?_,λb ps e=>?_⟩ (λb w q=>?_) I4.bare λb hb=>?_
 ·exact(sb.2 b (ne b o e).2).trans (u.keep b o (up b o e) n hb (nx b o e hx))
 ·obtain⟨sl,z⟩:=u.slot b o (up b o e) n hb (nx b o e hx)
  exact⟨sl,(sb.2 b (ne b o e).2).trans z⟩
 ·rw[av (ne b o e).1]
  exact u.free b o (up b o e) n (nx b o e hx)
 ·obtain⟨o',z⟩:=u.there b o (up b o e) (nx b o e hx)
  exact⟨o',(sb.2 b (ne b o e).2).trans z⟩
 ·have z:=u.tups b xs e
  rw[av (ad z fD')]
  exact z
 ·have z:=u.frzs b o w e
  rw[av (ad z fD')]
  exact z
 ·obtain⟨more,z⟩:=u.tbls b ps e
  exact⟨more,by rw[av (ad z fD')];exact z⟩
 ·by_cases hb:b=s.heap.objs.size
  ·subst hb
   rw[aL]at q
   cases q
   exact⟨hl,its,k,rv,(sb.2 _ hDC).trans oD'⟩
  ·rw[av hb]at q
   refine(I4.hok b w q).stay (λc v hc r=>(sb.2 c ?_).trans r) (λc z=>by rw[av (ad z fD')];exact z) λc xs z=>by rw[av (ad z fD')];exact z
   rcases hc with rfl | hc
   ·exact ad q fC
   ·exact ad hc fC
 ·obtain⟨_,f1,_,f3,f4,f5⟩:=hf b hb
  exact⟨f3,f1,f4,f5⟩
theorem yZ{elt tg iter:Expr}{ifs:List Expr}{scope:Scope}{pos:Pos}{N':List Str}{cl:List (Str×Addr)}{J:It}{fp:List Addr}{it:Addr}{tn:Nat->Heap->Prop}{g:TG}{tt:TT}{te:TE}{Q:VK}
  {W:Nat->Nat->List V->St->Hp->Prop}{R:Result->Shared->Prop}{s0:Shared}{H0:Hp}{D:Addr} (TX:TurnX (blk X N' scope cl s0 H0 (D::fp)) tg J fp it tn)
  (hg:PG (blk X N' scope cl s0 H0 (D::fp)) tg g) (ht:PTs (blk X N' scope cl s0 H0 (D::fp)) ifs tt) (he:PE (blk X N' scope cl s0 H0 (D::fp)) elt te)
  (T:Turn X.prog X.w X.K tg J fp it tn) (hDf:D∉fp)
  (turn:∀i m vs τ H,W i m vs τ H->(J.stop i H/\∀p,H p=none->Q (.ref p) (upd H p (.lst vs))) \/
   (J.go i H/\∀x H',J.yld i H x H'->g x τ H' λτ2 H2=>tt τ2 H2 λb H3=>if b=true then te τ2 H3 λy H4=>vs.length<sizeLine/\∃m',m' < m/\W (i+1) m' (vs++[y]) τ2 H4 else ∃m',m' < m/\W (i+1) m' vs τ2 H3))
  (hstat:∀b∈fp,b≠s0.heap.objs.size/\b∉frs X.stack/\∀x c,cl.lookup x=some c->c≠b) (hDC:D≠s0.heap.objs.size) (hDs:D∉frs X.stack) (hDc:∀x c,cl.lookup x=some c->c≠D)
  (fin:∀τ H' s' vs its k,Inv (blk X N' scope cl s0 H0 (D::fp)) [(D,cj its k)] τ H' s'->az vs its->vs.length<=sizeLine->Q (.ref D) (upd H' D (.lst vs))->R (.ok .next) s')
  (m0:Nat) {τ0:St}{s3:Shared}{H3:Hp} (I3:Inv (blk X N' scope cl s0 H0 (D::fp)) [(D,cj [] 0)] τ0 H3 s3) (st3:tn 0 s3.heap) (fr3:∀b∈fp,H3 b=none) (w0:W 0 m0 [] τ0 H3) :
  codeAny (model X.prog X.w) X.A (.compLoop (.ListComp elt [⟨tg,iter,ifs,0⟩] scope pos) 0 (.ref it) (.ref D) (compEnvC scope cl s0.heap.objs.size X.env)) R s3:=by
 have fok:∀{ob:Obj}{H':Hp},(∀b∈fp,H' b=none)->∀b∈fp,rp (blk X N' scope cl s0 H0 (D::fp)) [(D,ob)] H' b:=λ{ob H'} hn b hb=>by
  obtain⟨a1,a2,a3⟩:=hstat b hb
  refine⟨hn b hb,a1,a2,.inl (AA8 _ hb),a3,λp hp z=>?_⟩
  have e:p=(D,ob):=by simpa [blk]using hp
  subst e
  exact hDf (by rw[show D=b from z];exact hb)
 refine wA (λn s'=>∃i τ H' vs its k,Inv (blk X N' scope cl s0 H0 (D::fp)) [(D,cj its k)] τ H' s'/\tn i s'.heap/\(∀b∈fp,H' b=none)/\az vs its/\vs.length<=sizeLine/\W i n vs τ H')
  (λ_ _=>False) (λ_ _ z=>z.elim) ?_ m0 ⟨0,τ0,H3,[],[],0,I3,st3,fr3,.nil,AAV _,w0⟩
 rintro n s' ⟨i,τ,H',vs,its,k,I',st',fr',rv,hl,w'⟩
 rcases turn i n vs τ H' w' with⟨stop,q⟩|⟨go,step⟩
 ·refine thn (TX.done i _ s' τ H' (λ_ _=>False) I' (fok fr') st' stop) ?_
  rintro r s4 ⟨hr,I4⟩
  subst hr
  exact fin τ H' s4 vs its k I4 rv hl (q D (I'.pin (D,cj its k) (by simp[blk])).2.1)
 ·refine thn (TX.item i _ s' τ H' (λ_ _=>False) I' (fok fr') st' go) ?_
  rintro r s4 ⟨u,hr,h4⟩
  subst hr
  refine thn h4 ?_
  rintro _ s5 ⟨x,H5,I5,r5,y5,st5,fr5⟩
  have I5':=I5.pinned (fok fr5) (T.obj _ _ st5)
  refine thn (hg _ s5 τ H5 x u _ I5' r5 (step x H5 y5)) ?_
  rintro _ s6 ⟨τ6,H6,I6,q6⟩
  refine thn (ht _ s6 τ6 H6 _ I6 q6) ?_
  rintro ok s7 ⟨H7,I7,q7⟩
  have memF:∀{b:Addr}{o:Obj},b∈fp->s5.heap.get? b=some o->(b,o)∈(blk X N' scope cl s0 H0 (D::fp)).pn++([(D,cj its k)]++gJ fp s5.heap):=λhb e=>AAR _ (AAR _ (fh hb e))
  cases ok with
  | false =>
   obtain⟨m',hm,w7⟩:=(show ∃m',m' < n/\W (i+1) m' vs τ6 H7 from q7)
   refine⟨m',hm,i+1,τ6,H7,vs,its,k,I7.unpinned,T.keep _ _ _ st5 λb hb o e=>(I7.pin (b,o) (memF hb e)).1,λb hb=>?_,rv,hl,w7⟩
   obtain⟨o,e,_⟩:=T.obj _ _ st5 b hb
   exact(I7.pin (b,o) (memF hb e)).2.1
  | true =>
   refine thn (he _ s7 τ6 H7 _ I7 q7) ?_
   rintro yv s8 ⟨y,H8,I8,r8,q8⟩
   obtain⟨hsz,m',hm,w8⟩:=q8
   obtain⟨oD,fD,_⟩:=I8.pin (D,cj its k) (AAR _ (ABb _ (by simp)))
   have fD':H8 D=none:=fD
   refine append_at (its:=its.toArray) (n:=k) oD (λh9 sb9 o9=>?_) (by rw[AAB,<-rv.length];exact hl)
   have J8:Inv (blk X N' scope cl s0 H0 (D::fp)) (gJ fp s5.heap) τ6 H8 s8:=I8.pins_of λp hp=>I8.pin p (AAR _ (AAR _ hp))
   have J9:Inv (blk X N' scope cl s0 H0 (D::fp)) (gJ fp s5.heap) τ6 H8 { s8 with heap:=h9 }:=J8.turned (t':=s8.toks) (it:=D) (λb o hb e=>(sb9.2 b hb).trans e) fD' hDC (.inl AAG) hDc λp hp z=>by
    have hp':p∈gJ fp s5.heap:=by simpa [blk]using hp
    exact hDf (by rw[<-z];exact(qk hp').1)
   have memG:∀{b:Addr}{o:Obj},b∈fp->s5.heap.get? b=some o->(b,o)∈(blk X N' scope cl s0 H0 (D::fp)).pn++gJ fp s5.heap:=λhb e=>AAR _ (fh hb e)
   refine⟨m',hm,i+1,τ6,H8,vs++[y],its++[yv],k+1,J9.pins_of λp hp=>?_,T.keep _ _ _ st5 λb hb o e=>(J9.pin (b,o) (memG hb e)).1,λb hb=>?_,rv.append (.cons r8 .nil),?_,w8⟩
   ·have e:p=(D,cj (its++[yv]) (k+1)):=by simpa using hp
    subst e
    refine⟨?_,fD',hDC,hDs,λv z=>by cases z⟩
    rw[show cj (its++[yv]) (k+1)=({ cls:=.type "list",data:=.seq (its.toArray.push yv) (k+1) }:Obj) by rw[List.push_toArray]]
    exact o9
   ·obtain⟨o,e,_⟩:=T.obj _ _ st5 b hb
    exact(J9.pin (b,o) (memG hb e)).2.1
   ·rw[AA9]
    exact hsz
def PIG(X:Cx)(PP:It->List Addr->Addr->(Nat->Heap->Prop)->Prop)(iter:Expr)(wi:TI):Prop :=
 ∀(pins:List (Addr×Obj)) (s:Shared) (σ:St) (H:Hp) (R:It->Hp->Prop),Inv X pins σ H s->wi σ H R ->
  wpAny (model X.prog X.w) X.A (eval iter X.env) (λv s1=>wpAny (model X.prog X.w) X.A (pyIter v) (λitv s2=>∃it fp tn J H',itv=.ref it/\Inv X pins σ H' s2/\PP J fp it tn/\tn 0 s2.heap/\(∀b∈fp,rp X pins H' b)/\R J H') X.xe s1) X.xe s
theorem Ih(B:BlkSc X N' nt js scope)(hc:∀J fp it tn,PP J fp it tn->Turn X.prog X.w X.K tg J fp it tn/\∀pins σ H s cl s0 ex,Inv X pins σ H s->TurnX (blk X N' scope cl s0 H ex) tg J fp it tn)(hi:PIG X PP iter wi)
  (hg:∀cl s0 H0 ex,PG (blk X N' scope cl s0 H0 ex) tg g) (ht:∀cl s0 H0 ex,PTs (blk X N' scope cl s0 H0 ex) ifs tt) (he:∀cl s0 H0 ex,PE (blk X N' scope cl s0 H0 ex) elt te)
  (hs:∀x,foldedSetIterable iter X.env x=pure x:=by intro _;rfl):PE X (.ListComp elt [⟨tg,iter,ifs,0⟩] scope pos) (tLC nt js wi g tt te):=by
 intro pins s σ H Q I h
 rw[eval_ListComp]
 obtain⟨cl,ecl,hcl1,hcl2⟩:=ja (scope:=scope) (env:=X.env) λp hp hf=>I.ok.has p.1 (B.free p hp hf)
 refine wpAny_comprehension_free (use:=none) rfl hs ecl B.kind B.loc ?_
 refine thn (hi pins s σ H _ I h) λv s1 h1=>thn h1 λitv s2 h2=>?_
 obtain⟨it,fp,tn,J,H2,e,I2,T,st2,f2,W,⟨m0,w0⟩,turn⟩:=h2
 obtain⟨T,TX⟩:=hc _ _ _ _ T
 subst e
 refine AAj (wpAny_newFunctionEnv B.nocell (by intro y hy;simp at hy) (λh1 hns1 hsb1=>?_) B.kind)
 have hfs:∀b∈fp,b<s2.heap.objs.size:=λb hb=>by
  obtain⟨o,e,_⟩:=T.obj _ _ st2 b hb
  exact AAM e
 have hC:(s2.heap.push (cj [] 0)).objs.size=s2.heap.objs.size+1:=ABZ ..
 have old:∀b o,(s2.heap.push (cj [] 0)).get? b=some o->h1.get? b=some o:=λb o e=>(hsb1.2 b (AAQ (AAM e))).trans (AA6 _ e)
 have I3:=I2.blkStart (tk:=s2.toks+([]:List (Str×Value)).length) B hcl1 hcl2 f2 hfs old hns1
 have st3:tn 0 h1:=T.keep _ _ _ st2 λb _ o e=>old b o (AA6 _ e)
 have hDf:s2.heap.objs.size∉fp:=λz=>AAk _ (hfs _ z)
 have hDs:s2.heap.objs.size∉frs X.stack:=λz=>by
  rcases AAF.mp (I2.stkSub _ z)with q | q
  ·exact absurd I2.lt (by rw[<-q];exact AAk _)
  ·exact I2.nofs (AAC _) q
 have hDC:s2.heap.objs.size≠(s2.heap.push (cj [] 0)).objs.size:=by rw[hC];exact AAQ (AC7 _)
 have ltc:∀z c,cl.lookup z=some c->c<s2.heap.objs.size:=λz c e=>by
  obtain⟨v,q⟩:=I2.cell z c (hcl1 z c e)
  exact q.lt
 have hstat:∀b∈fp,b≠(s2.heap.push (cj [] 0)).objs.size/\b∉frs X.stack/\∀x c,cl.lookup x=some c->c≠b:=λb hb=>by
  refine⟨by rw[hC];exact AAQ (ACO (hfs b hb)),λz=>?_,λx c e=>(f2 b hb).2.2.2.2.1 x c (hcl1 x c e)⟩
  rcases AAF.mp (I2.stkSub b z)with q | q
  ·exact(f2 b hb).2.1 q
  ·exact(f2 b hb).2.2.1 q
 have loop:codeAny (model X.prog X.w) X.A (.compLoop (.ListComp elt [⟨tg,iter,ifs,0⟩] scope pos) 0 (.ref it) (.ref s2.heap.objs.size) (compEnvC scope cl (s2.heap.push (cj [] 0)).objs.size X.env))
   (compPost (model X.prog X.w) X.A X.xe none (EP X pins σ Q) (.ref s2.heap.objs.size) (s2.heap.push (cj [] 0)).objs.size) { s2 with heap:=h1,toks:=s2.toks+([]:List (Str×Value)).length }:=by
  refine yZ (s0:={ s2 with heap:=s2.heap.push (cj [] 0) }) (H0:=H2) (N':=N') (Q:=Q) (TX _ _ _ _ _ _ _ I2) (hg _ _ _ _) (ht _ _ _ _) (he _ _ _ _) T hDf turn hstat hDC hDs (λx c e=>AAQ (ltc x c e)) ?_ m0 I3 st3 (λb hb=>(f2 b hb).1) w0
  intro τ H' s' vs its k I4 rv hl q
  obtain⟨mm,hn,_⟩:=id I4.loc
  exact⟨mm,hn,λh' sb=>⟨.ref s2.heap.objs.size,_,I2.blkEnd f2 I4 rv hl sb,rfl,q⟩⟩
 exact codeAny_compStart_list loop (T.self _ 0 _ _ _ st3 loop)
theorem pe_lc{elt tg iter:Expr}{ifs:List Expr}{scope:Scope}{pos:Pos}{N':List Str}{nt:Nat}{js:List Nat}{wi:TI}{g:TG}{tt:TT}{te:TE}(B:BlkSc X N' nt js scope)(hc:X.calm=true)(hi:PI X tg iter wi)
  (hg:∀cl s0 H0 ex,PG (blk X N' scope cl s0 H0 ex) tg g) (ht:∀cl s0 H0 ex,PTs (blk X N' scope cl s0 H0 ex) ifs tt) (he:∀cl s0 H0 ex,PE (blk X N' scope cl s0 H0 ex) elt te)
  (hs:∀x,foldedSetIterable iter X.env x=pure x:=by intro _;rfl):PE X (.ListComp elt [⟨tg,iter,ifs,0⟩] scope pos) (tLC nt js wi g tt te) :=
 Ih B (λJ fp it tn (T:Turn X.prog X.w X.K tg J fp it tn)=>⟨T,λ_ _ _ _ cl s0 ex _=>Turn.at T hc⟩)
  (λpins s σ H R I q=>thn (hi pins s σ H R I q) λv s1 h1=>thn h1 λitv s2 ⟨it,fp,tn,J,H',f0,f1,f2,f3,f4,f5⟩=>⟨it,fp,tn,J,H',f0,f1,f2,f3,f4,f5⟩) hg ht he hs
section
inductive D where
 | non | bl (b:Bool) | int (i:Int) | str (x:Str) | ty (n:String) | tup (ds:List D) | ref (n:Nat)
inductive MO where
 | lst (xs:List D)
 | fz (xs:List D)
 | kl (xs:List D)
 | dct (kvs:List (Str×D))
 | dkt (kvs:List (D×D))
 | dkq (e:Nat) (kvs:List (D×D))
 | dkm (kvs:List (D×D))
 | fdc (o:Obj) (kvs:List (Str×D))
 | tb (x:Str) (b:Bool)
 | exc (x:Str) (e:Addr)
 | ins (c:Str) (fs:List (Str×D))
 | tl (x:Str) (p:Pos) (q:Str) (e:Addr)
noncomputable abbrev Mem:=List MO
noncomputable def MO.isL:MO->Bool
 | .dct _=>false
 | .dkt _=>false
 | .dkq _ _=>false
 | .fdc _ _=>false
 | .dkm _=>false
 | .tb _ _=>false
 | .exc _ _=>false
 | .ins _ _=>false
 | .tl _ _ _ _=>false
 | _=>true
noncomputable def np(ks:List Str)(vs:List V):List (Key×V):=(ks.zip vs).map λp=>(ABs p.1,p.2)
mutual
inductive Rep(K:AA2)(ρ:List Addr)(H:Hp):D->V->Prop
 | non:Rep K ρ H .non .non
 | bl (b:Bool):Rep K ρ H (.bl b) (.bl b)
 | int (i:Int):Rep K ρ H (.int i) (.int i)
 | str (x:Str):Rep K ρ H (.str x) (.str x)
 | ty (n:String):Rep K ρ H (.ty n) (.ty n)
 | tup {a:Addr}{vs:List V}{ds:List D} (h:SqT K H a vs) (r:Reps K ρ H ds vs):Rep K ρ H (.tup ds) (.ref a)
 | ref {n:Nat}{a:Addr} (h:ρ[n]?=some a):Rep K ρ H (.ref n) (.ref a)
inductive Reps(K:AA2)(ρ:List Addr)(H:Hp):List D->List V->Prop
 | nil:Reps K ρ H [] []
 | cons {d:D}{v:V}{ds:List D}{vs:List V} (h:Rep K ρ H d v) (t:Reps K ρ H ds vs):Reps K ρ H (d::ds) (v::vs)
end
def KList(K:AA2)(a:Addr)(xs:List V):Prop :=
 ∃(o:Obj) (its:Array Value) (n:Nat),K.lookup a=some o/\o.cls=.type "list"/\o.dict=none/\o.data=.seq its n/\its.size<=sizeLine/\az xs its.toList
noncomputable def kP:Nat->D->Bool
 | _,.str _=>true
 | _,.int _=>true
 | n+1,.tup ds=>ds.all (kP n)
 | _,_=>false
noncomputable def hkD(w:World):Nat->D->Int
 | _,.str x=>hashStr w x
 | _,.int i=>hashInt i
 | n+1,.tup ds=>reduceHash (ACG (ds.map (hkD w n)))
 | _,_=>0
def dX(a:Addr)(xs:List (D×Addr×Value)):Program->World->Heap->Prop:=λ_ w h =>
 ∃(o:Obj) (es:Array DictEntry),h.get? a=some o/\o.ExactDict/\o.data=.dict es xs.length/\es.toList=xs.map λx=>⟨hkD w 8 x.1,.ref x.2.1,x.2.2⟩
def dQ(a:Addr)(e:Nat)(xs:List (D×Addr×Value)):Program->World->Heap->Prop:=λ_ w h =>
 ∃(o:Obj) (es:Array DictEntry),h.get? a=some o/\o.ExactDict/\o.data=.dict es e/\es.toList=xs.map λx=>⟨hkD w 8 x.1,.ref x.2.1,x.2.2⟩
noncomputable def keyM:D->Bool
 | .non=>true
 | .tup ks=>kP 8 (.tup ks)
 | _=>false
noncomputable def hkM(w:World):D->Int
 | .non=>reduceHash 0xFCA86420
 | d=>hkD w 8 d
noncomputable def entM(hs:D->Int)(x:D×Value×Value):DictEntry:=⟨hs x.1,x.2.1,x.2.2⟩
def dM(a:Addr)(xs:List (D×Value×Value)):Program->World->Heap->Prop:=λ_ w h =>
 ∃(o:Obj) (es:Array DictEntry),h.get? a=some o/\o.ExactDict/\o.data=.dict es xs.length/\es.toList=xs.map (entM (hkM w))
def KvM(K:AA2)(ρ:List Addr)(H:Hp)(p:D×D)(q:D×Value×Value):Prop:=p.1=q.1/\keyM p.1=true/\(∃u,Rep K ρ H p.1 u/\aU u q.2.1)/\∃v,Rep K ρ H p.2 v/\aU v q.2.2
def rC(K:AA2)(ρ:List Addr)(H:Hp)(p:D×D)(q:D×Addr×Value):Prop:=p.1=q.1/\kP 8 p.1=true/\Rep K ρ H p.1 (.ref q.2.1)/\∃v,Rep K ρ H p.2 v/\aU v q.2.2
def IsX(o:Obj)(C:Value):Prop:=o.cls=C/\∃vs,o.data=.fields vs/\vs[2]?=some .none
def wH(K:AA2)(ρ:List Addr)(H:Hp)(a:Addr):MO->Prop
 | .lst ds=>∃vs,H a=some (.lst vs)/\Reps K ρ H ds vs
 | .fz ds=>∃o vs,H a=some (.frz o (.lst vs))/\Reps K ρ H ds vs
 | .kl ds=>∃vs,KList K a vs/\Reps K ρ H ds vs
 | .dct kvs=>∃vs,H a=some (.dK (np (kvs.map (·.1)) vs))/\Reps K ρ H (kvs.map (·.2)) vs
 | .dkt kvs=>kvs.length<=sizeLine/\(a==sysModules)=false/\(kvs.map (·.1)).Nodup/\∃xs,H a=some (.ext (dX a xs))/\Paired (rC K ρ H) kvs xs
 | .dkq e kvs=>kvs.length<=sizeLine/\(a==sysModules)=false/\(kvs.map (·.1)).Nodup/\∃xs,H a=some (.ext (dQ a e xs))/\Paired (rC K ρ H) kvs xs
 | .dkm kvs=>kvs.length<=sizeLine/\(a==sysModules)=false/\(kvs.map (·.1)).Nodup/\∃xs,H a=some (.ext (dM a xs))/\Paired (KvM K ρ H) kvs xs
 | .fdc o kvs=>∃vs,H a=some (.frz o (.dK (np (kvs.map (·.1)) vs)))/\Reps K ρ H (kvs.map (·.2)) vs
 | .tb x b=>(∃c,PySem.W.tabIn K x=some (c,a)/\∀h:Heap,K.In h->PySem.W.CodeHd h c a)/\∃ps,H a=some (.tbl ps)/\(b=false->ps = #[])
 | .exc x e=>e=a/\∃C o,ABC K mainGlobals x=some (some (.ref C))/\IsX o (.ref C)/\H a=some (.frz o (.own a))
 | .ins c fs=>∃C dx vs,ABC K mainGlobals c=some (some (.ref C))/\H a=some (.ins C dx ((fs.map (·.1)).zip vs))/\Reps K ρ H (fs.map (·.2)) vs
 | .tl x p q e=>(∃c,PySem.W.tabIn K x=some (c,a)/\∀h:Heap,K.In h->PySem.W.CodeHd h c a)/\∃o vs t,H a=some (.tbl #[rawInt p.line,rawInt p.col,.ref e])/\H e=some (.frz o (.own e))/\o.data=.fields vs/\vs[1]?=some (.str q t)
def isK(mo:Option MO):Prop:=∃ds,mo=some (.kl ds)
def ao(M:Mem)(n:Nat)(xs:List D):Prop:=M[n]?=some (.lst xs)\/M[n]?=some (.fz xs)\/M[n]?=some (.kl xs)
structure Sim(K:AA2)(ρ:List Addr)(M:Mem)(H:Hp):Prop where
 nd:∀(n m:Nat) (a:Addr),n≠m->ρ[n]?=some a->ρ[m]?=some a->isK M[n]?\/isK M[m]?
 len:ρ.length=M.length
 obj:∀(n:Nat) (a:Addr) (mo:MO),ρ[n]?=some a->M[n]?=some mo->wH K ρ H a mo
structure Grow(K:AA2)(ρ:List Addr)(H:Hp)(ρ':List Addr)(H':Hp):Prop where
 pre:ρ <+: ρ'
 tup:∀a xs,SqT K H a xs->SqT K H' a xs
 fr:∀a o,H a=some (.frz o (.own a))->H' a=some (.frz o (.own a))
theorem Grow.refl{K:AA2}{ρ:List Addr}{H:Hp}:Grow K ρ H ρ H:=⟨ADr,λ_ _ h=>h,λ_ _ h=>h⟩
theorem Grow.trans{K:AA2}{ρ ρ1 ρ2:List Addr}{H H1 H2:Hp}(a:Grow K ρ H ρ1 H1)(b:Grow K ρ1 H1 ρ2 H2):Grow K ρ H ρ2 H2:=⟨a.pre.trans b.pre,λx xs h=>b.tup x xs (a.tup x xs h),λx o h=>b.fr x o (a.fr x o h)⟩
theorem aK{α:Type}{l l':List α}(h:l <+: l'){n:Nat}{a:α}(e:l[n]?=some a):l'[n]?=some a:=by
 obtain⟨t,rfl⟩:=h
 rw[AAJ (AA3.mp e).1]
 exact e
theorem Rep.grow{K:AA2}{ρ ρ':List Addr}{H H':Hp}(g:Grow K ρ H ρ' H'){d:D}{v:V}(h:Rep K ρ H d v):Rep K ρ' H' d v :=
 Rep.rec (motive_1:=λd v _=>Rep K ρ' H' d v) (motive_2:=λds vs _=>Reps K ρ' H' ds vs) .non .bl .int .str .ty (λh _ r=>.tup (g.tup _ _ h) r) (λh=>.ref (aK g.pre h)) .nil (λ_ _ h t=>.cons h t) h
theorem Reps.grow{K:AA2}{ρ ρ':List Addr}{H H':Hp}(g:Grow K ρ H ρ' H'){ds:List D}{vs:List V}(h:Reps K ρ H ds vs):Reps K ρ' H' ds vs :=
 Reps.rec (motive_1:=λd v _=>Rep K ρ' H' d v) (motive_2:=λds vs _=>Reps K ρ' H' ds vs) .non .bl .int .str .ty (λh _ r=>.tup (g.tup _ _ h) r) (λh=>.ref (aK g.pre h)) .nil (λ_ _ h t=>.cons h t) h
section
variable{K:AA2}{ρ ρ':List Addr}{H H':Hp}{M:Mem}
theorem Reps.length(h:Reps K ρ H ds vs):ds.length=vs.length :=
 Reps.rec (motive_1:=λ_ _ _=>True) (motive_2:=λds vs _=>ds.length=vs.length) trivial (λ_=>trivial) (λ_=>trivial) (λ_=>trivial) (λ_=>trivial) (λ_ _ _=>trivial) (λ_=>trivial) rfl (λ_ _ _ t=>congrArg Nat.succ t) h
theorem Reps.append(h:Reps K ρ H ds vs)(s:Reps K ρ H es ws):Reps K ρ H (ds++es) (vs++ws) :=
 Reps.rec (motive_1:=λ_ _ _=>True) (motive_2:=λds vs _=>Reps K ρ H (ds++es) (vs++ws)) trivial (λ_=>trivial) (λ_=>trivial) (λ_=>trivial) (λ_=>trivial) (λ_ _ _=>trivial) (λ_=>trivial) s (λh _ _ t=>.cons h t) h
theorem Reps.get:∀{ds:List D}{vs:List V}{i:Nat}{d:D},Reps K ρ H ds vs->ds[i]?=some d->∃v,vs[i]?=some v/\Rep K ρ H d v
 | _,_,_,_,.nil,e=>by simp at e
 | _,_,0,_,.cons r _,e=>by simp at e;subst e;exact⟨_,rfl,r⟩
 | _,_,i+1,d,.cons _ t,e=>by
  obtain⟨v,h1,h2⟩:=Reps.get (i:=i) (d:=d) t (by simpa using e)
  exact⟨v,by simpa using h1,h2⟩
theorem Reps.getV:∀{ds:List D}{vs:List V}{i:Nat}{v:V},Reps K ρ H ds vs->vs[i]?=some v->∃d,ds[i]?=some d/\Rep K ρ H d v
 | _,_,_,_,.nil,e=>by simp at e
 | _,_,0,_,.cons r _,e=>by simp at e;subst e;exact⟨_,rfl,r⟩
 | _,_,i+1,d,.cons _ t,e=>by
  obtain⟨v,h1,h2⟩:=Reps.getV (i:=i) (v:=d) t (by simpa using e)
  exact⟨v,by simpa using h1,h2⟩
theorem Reps.take:∀{ds:List D}{vs:List V} (n:Nat),Reps K ρ H ds vs->Reps K ρ H (ds.take n) (vs.take n)
 | _,_,0,_=>by simpa using .nil
 | _,_,_+1,.nil=>.nil
 | _,_,n+1,.cons r t=>.cons r (Reps.take n t)
theorem Reps.drop:∀{ds:List D}{vs:List V} (n:Nat),Reps K ρ H ds vs->Reps K ρ H (ds.drop n) (vs.drop n)
 | _,_,0,r=>r
 | _,_,_+1,.nil=>.nil
 | _,_,n+1,.cons _ t=>Reps.drop n t
theorem SqT.laid(hp:H p=none)(h:SqT K H a xs):SqT K (upd H p o) a xs:=by
 rcases h with h | h
 ·rcases h with h | ⟨ob,h⟩
  ·exact .inl (.inl (by rw[av (ad h hp)];exact h))
  ·exact .inl (.inr ⟨ob,by rw[av (ad h hp)];exact h⟩)
 ·exact .inr h
noncomputable def HO.noT:HO->Bool
 | .tup _=>false
 | .frz _ _=>false
 | _=>true
theorem SqT.written(hp:H p=some o')(nt:o'.noT=true)(h:SqT K H a xs):SqT K (upd H p o) a xs:=by
 have ne:∀u,u.noT=false->H a=some u->a≠p:=λu q e z=>by rw[z,hp]at e;cases e;rw[nt]at q;cases q
 rcases h with h | h
 ·rcases h with h | ⟨ob,h⟩
  ·exact .inl (.inl (by rw[av (ne _ rfl h)];exact h))
  ·exact .inl (.inr ⟨ob,by rw[av (ne _ rfl h)];exact h⟩)
 ·exact .inr h
theorem Grow.laid(hp:H p=none):Grow K ρ H ρ (upd H p o):=⟨ADr,λ_ _ h=>SqT.laid hp h,λ_ _ h=>(av (ad h hp)).trans h⟩
theorem Grow.laidR(hp:H p=none):Grow K ρ H (ρ++[p]) (upd H p o):=⟨AAx _ _,λ_ _ h=>SqT.laid hp h,λ_ _ h=>(av (ad h hp)).trans h⟩
theorem Sim.tracked(S:Sim K ρ M H){n:Nat}{a:Addr}(e:ρ[n]?=some a):(∃o,H a=some o)\/isK M[n]?:=by
 have hn:n<M.length:=by rw[<-S.len];exact(AA3.mp e).1
 have hm:M[n]?=some M[n]:=AA5 hn
 have h:=S.obj n a _ e hm
 rw[hm]
 cases hmo:M[n] with
 | lst ds=>rw[hmo]at h;obtain⟨vs,h,_⟩:=h;exact .inl ⟨_,h⟩
 | fz ds=>rw[hmo]at h;obtain⟨o,vs,h,_⟩:=h;exact .inl ⟨_,h⟩
 | kl ds=>exact .inr ⟨ds,rfl⟩
 | dct kvs=>rw[hmo]at h;obtain⟨vs,h,_⟩:=h;exact .inl ⟨_,h⟩
 | dkt kvs=>rw[hmo]at h;obtain⟨_,_,_,xs,h,_⟩:=h;exact .inl ⟨_,h⟩
 | dkq _ kvs=>rw[hmo]at h;obtain⟨_,_,_,xs,h,_⟩:=h;exact .inl ⟨_,h⟩
 | fdc o kvs=>rw[hmo]at h;obtain⟨vs,h,_⟩:=h;exact .inl ⟨_,h⟩
 | dkm kvs=>rw[hmo]at h;obtain⟨_,_,_,xs,h,_⟩:=h;exact .inl ⟨_,h⟩
 | tb x b=>rw[hmo]at h;obtain⟨_,ps,h,_⟩:=h;exact .inl ⟨_,h⟩
 | exc x e=>rw[hmo]at h;obtain⟨_,_,_,_,_,h⟩:=h;exact .inl ⟨_,h⟩
 | ins c fs=>rw[hmo]at h;obtain⟨_,_,_,_,h,_⟩:=h;exact .inl ⟨_,h⟩
 | tl x p q e=>rw[hmo]at h;obtain⟨_,_,_,_,h,_⟩:=h;exact .inl ⟨_,h⟩
theorem wH.grow(g:Grow K ρ H ρ' H')(hs:H' a=H a\/isK (some mo))(h:wH K ρ H a mo):wH K ρ' H' a mo:=by
 by_cases z:isK (some mo)
 ·obtain⟨ds,z⟩:=z
  cases z
  obtain⟨vs,e,r⟩:=h
  exact⟨vs,e,r.grow g⟩
 have hh:=hs.resolve_right z
 clear hs
 have kv:∀{kvs:List (D×D)}{xs:List (D×Addr×Value)},Paired (rC K ρ H) kvs xs->Paired (rC K ρ' H') kvs xs:=λr=>Paired.mapP r λ_ _ ⟨q1,q2,q3,v,q4,q5⟩=>⟨q1,q2,q3.grow g,v,q4.grow g,q5⟩
 cases mo with
 | lst ds=>obtain⟨vs,e,r⟩:=h;exact⟨vs,hh.trans e,r.grow g⟩
 | fz ds=>obtain⟨o,vs,e,r⟩:=h;exact⟨o,vs,hh.trans e,r.grow g⟩
 | kl ds=>exact absurd ⟨ds,rfl⟩ z
 | dct kvs=>obtain⟨vs,e,r⟩:=h;exact⟨vs,hh.trans e,r.grow g⟩
 | dkt kvs=>obtain⟨h1,h2,h3,xs,e,r⟩:=h;exact⟨h1,h2,h3,xs,hh.trans e,kv r⟩
 | dkq _ kvs=>obtain⟨h1,h2,h3,xs,e,r⟩:=h;exact⟨h1,h2,h3,xs,hh.trans e,kv r⟩
 | dkm kvs=>obtain⟨h1,h2,h3,xs,e,r⟩:=h;exact⟨h1,h2,h3,xs,hh.trans e,Paired.mapP r λ_ _ ⟨q1,q2,⟨u,q3,q3'⟩,v,q4,q5⟩=>⟨q1,q2,⟨u,q3.grow g,q3'⟩,v,q4.grow g,q5⟩⟩
 | fdc o kvs=>obtain⟨vs,e,r⟩:=h;exact⟨vs,hh.trans e,r.grow g⟩
 | tb x b=>obtain⟨c,ps,e,q⟩:=h;exact⟨c,ps,hh.trans e,q⟩
 | exc x e=>obtain⟨h0,C,o,e,i,q⟩:=h;exact⟨h0,C,o,e,i,hh.trans q⟩
 | ins c fs=>obtain⟨C,dx,vs,n,e,r⟩:=h;exact⟨C,dx,vs,n,hh.trans e,r.grow g⟩
 | tl x p q e'=>obtain⟨c,o,vs,t,e,f,r⟩:=h;exact⟨c,o,vs,t,hh.trans e,g.fr _ _ f,r⟩
theorem Sim.keeps{p:Addr}{o:HO}(S:Sim K ρ M H)(hp:H p=none){n:Nat}{a:Addr}{mo:MO}(e1:ρ[n]?=some a)(e2:M[n]?=some mo):upd H p o a=H a\/isK (some mo):=by
 rcases S.tracked e1 with⟨ob,hob⟩ | q
 ·exact .inl (av (ad hob hp))
 ·rw[e2]at q
  exact .inr q
theorem Sim.laid{p:Addr}{o:HO}(S:Sim K ρ M H)(hp:H p=none):Sim K ρ M (upd H p o) :=
 ⟨S.nd,S.len,λn a mo e1 e2=>(S.obj n a mo e1 e2).grow (Grow.laid hp) (S.keeps hp e1 e2)⟩
theorem bH{α:Type}{l:List α}{x y:α}{n:Nat}(h:(l++[x])[n]?=some y):l[n]?=some y\/(n=l.length/\y=x):=by
 by_cases hn:n<l.length
 ·rw[AAJ hn]at h
  exact .inl h
 ·have hn':n=l.length:=by
   have:=(AA3.mp h).1
   rw[AA9,AAb]at this
   lia
  subst hn'
  rw[AAi (AAC _),ABu]at h
  simp at h
  exact .inr ⟨rfl,h.symm⟩
theorem isK.more{mo:MO}{n:Nat}(h:isK M[n]?):isK (M++[mo])[n]?:=by
 obtain⟨ds,e⟩:=h
 exact⟨ds,by rw[AAJ (AA3.mp e).1];exact e⟩
theorem Sim.laidM(S:Sim K ρ M H)(hp:H p=none)(ok:wH K (ρ++[p]) (upd H p o) p mo):Sim K (ρ++[p]) (M++[mo]) (upd H p o):=by
 have g:Grow K ρ H (ρ++[p]) (upd H p o):=Grow.laidR hp
 have old:∀(n:Nat),ρ[n]?=some p->isK M[n]?:=λn e=>by
  rcases S.tracked e with⟨o,q⟩ | q
  ·rw[hp]at q;cases q
  ·exact q
 refine⟨λn m a hnm e1 e2=>?_,by rw[AA9,AA9,S.len];rfl,λn a mo' e1 e2=>?_⟩
 ·rcases bH e1 with f1 | ⟨f1,g1⟩
  ·rcases bH e2 with f2 | ⟨f2,g2⟩
   ·exact(S.nd n m a hnm f1 f2).elim (λz=>.inl z.more) λz=>.inr z.more
   ·subst g2
    exact .inl (old n f1).more
  ·rcases bH e2 with f2 | ⟨f2,g2⟩
   ·subst g1
    exact .inr (old m f2).more
   ·exact absurd (f1.trans f2.symm) hnm
 ·rcases bH e1 with f1 | ⟨f1,g1⟩
  ·have hn:n<M.length:=by rw[<-S.len];exact(AA3.mp f1).1
   rw[AAJ hn]at e2
   exact(S.obj n a mo' f1 e2).grow g (S.keeps hp f1 e2)
  ·subst g1 f1
   rw[S.len,AAi (AAC _),ABu]at e2
   simp at e2
   subst e2
   exact ok
theorem Sim.laidL{p:Addr}{ds:List D}{vs:List V}(S:Sim K ρ M H)(hp:H p=none)(r:Reps K ρ H ds vs):Sim K (ρ++[p]) (M++[.lst ds]) (upd H p (.lst vs)):=
 S.laidM hp ⟨vs,aL,r.grow (Grow.laidR hp)⟩
theorem Sim.last(S:Sim K ρ M H):(ρ++[p])[M.length]?=some p:=by
 rw[<-S.len,AAi (AAC _),ABu]
 rfl
theorem Sim.writeG(S:Sim K ρ M H)(e1:ρ[n]?=some a)(notK:¬isK M[n]?)(hH:H a=some o')(nt:o'.noT=true)(ok:Grow K ρ H ρ (upd H a o)->wH K ρ (upd H a o) a mo) :
  Sim K ρ (M.set n mo) (upd H a o)/\Grow K ρ H ρ (upd H a o):=by
 have g:Grow K ρ H ρ (upd H a o):=⟨ADr,λ_ _ h=>SqT.written hH nt h,λb _ h=>(av λz=>by rw[z,hH]at h;cases h;cases nt).trans h⟩
 have hk:∀m,m≠n->(M.set n mo)[m]?=M[m]?:=λm hm=>AAq (AAt hm)
 refine⟨⟨λm m' b hne f1 f2=>?_,by rw[AAa];exact S.len,λm b mo' f1 f2=>?_⟩,g⟩
 ·have q:=S.nd m m' b hne f1 f2
  by_cases h1:m=n
  ·subst h1
   rw[hk m' (AAt hne)]
   exact .inr (q.resolve_left notK)
  ·rw[hk m h1]
   by_cases h2:m'=n
   ·subst h2
    exact .inl (q.resolve_right notK)
   ·rw[hk m' h2]
    exact q
 by_cases hm:m=n
 ·subst hm
  have hb:b=a:=AAW (f1.symm.trans e1)
  subst hb
  rw[ABD (by rw[<-S.len];exact(AA3.mp e1).1)]at f2
  cases f2
  exact ok g
 ·rw[hk m hm]at f2
  by_cases hb:b=a
  ·subst hb
   have q':=(S.nd m n b hm f1 e1).resolve_right notK
   rw[f2]at q'
   exact(S.obj m b mo' f1 f2).grow g (.inr q')
  ·exact(S.obj m b mo' f1 f2).grow g (.inl (av hb))
theorem Sim.write(S:Sim K ρ M H)(e1:ρ[n]?=some a)(hM:M[n]?=some (.lst ds))(hH:H a=some (.lst vs))(r:Reps K ρ H ds' vs') :
  Sim K ρ (M.set n (.lst ds')) (upd H a (.lst vs'))/\Grow K ρ H ρ (upd H a (.lst vs')):=
 S.writeG e1 (λ⟨_,z⟩=>by rw[hM]at z;cases z) hH rfl λg=>⟨vs',aL,r.grow g⟩
theorem ao.seq(S:Sim K ρ M H)(h:ao M n xs)(e:ρ[n]?=some a):∃vs,SqL K H a vs/\Reps K ρ H xs vs:=by
 rcases h with h | h | h
 ·obtain⟨vs,q,r⟩:=S.obj n a _ e h
  exact⟨vs,.inl (.inl q),r⟩
 ·obtain⟨o,vs,q,r⟩:=S.obj n a _ e h
  exact⟨vs,.inl (.inr ⟨o,q⟩),r⟩
 ·obtain⟨vs,q,r⟩:=S.obj n a _ e h
  exact⟨vs,.inr q,r⟩
theorem Sim.get(S:Sim K ρ M H){n:Nat}{mo:MO}(e:M[n]?=some mo):∃a,ρ[n]?=some a/\wH K ρ H a mo:=by
 have hn:n<ρ.length:=by rw[S.len];exact(AA3.mp e).1
 exact⟨ρ[n],AA5 hn,S.obj n _ mo (AA5 hn) e⟩
end
noncomputable abbrev SD:=List (Option D)
structure SRep(K:AA2)(ρ:List Addr)(H:Hp)(S:SD)(σ:St):Prop where
 len:S.length=σ.length
 get:∀(i:Nat) (d:D),S[i]?=some (some d)->∃v,σ[i]?=some (some v)/\Rep K ρ H d v
theorem SRep.grow{K:AA2}{ρ ρ':List Addr}{H H':Hp}{S:SD}{σ:St}(r:SRep K ρ H S σ)(g:Grow K ρ H ρ' H'):SRep K ρ' H' S σ :=
 ⟨r.len,λi d e=>let ⟨v,h1,h2⟩:=r.get i d e;⟨v,h1,h2.grow g⟩⟩
theorem SRep.set{K:AA2}{ρ:List Addr}{H:Hp}{S:SD}{σ:St}(r:SRep K ρ H S σ)(i:Nat){d:D}{v:V}(h:Rep K ρ H d v):SRep K ρ H (S.set i (some d)) (σ.set i (some v)):=by
 refine⟨by rw[AAa,AAa];exact r.len,λj e hj=>?_⟩
 by_cases hij:i=j
 ·subst hij
  by_cases hl:i<S.length
  ·rw[ABD hl]at hj
   cases hj
   exact⟨v,by rw[ABD (by rw[<-r.len];exact hl)],h⟩
  ·rw[ACB (by rw[AAa];lia)]at hj
   cases hj
 ·rw[AAq hij]at hj
  rw[AAq hij]
  exact r.get j e hj
abbrev DK:=D->Mem->Prop
abbrev DTE:=SD->Mem->DK->Prop
abbrev DTT:=SD->Mem->(Bool->Mem->Prop)->Prop
abbrev DTA:=SD->Mem->(List D->Mem->Prop)->Prop
structure DEnds where
 nx:SD->Mem->Prop
 rt:DK
 bk:SD->Mem->Prop:=λ_ _=>False
 ct:SD->Mem->Prop:=λ_ _=>False
abbrev DTS:=DEnds->SD->Mem->Prop
abbrev DTG:=D->SD->Mem->(SD->Mem->Prop)->Prop
abbrev Ds:=List D->SD->Mem->(SD->Mem->Prop)->Prop
abbrev DR2:=D->D->Mem->DK->Prop
abbrev DR1:=D->Mem->DK->Prop
abbrev DRA:=List D->Mem->DK->Prop
section
variable(K:AA2)
inductive VQ(ρ:List Addr)(H:Hp)(Q:DK)(v:V)(H':Hp):Prop
 | mk (d:D) (M':Mem) (ρ':List Addr) (s:Sim K ρ' M' H') (g:Grow K ρ H ρ' H') (r:Rep K ρ' H' d v) (q:Q d M')
inductive BQ(ρ:List Addr)(H:Hp)(Q:Bool->Mem->Prop)(b:Bool)(H':Hp):Prop
 | mk (M':Mem) (ρ':List Addr) (s:Sim K ρ' M' H') (g:Grow K ρ H ρ' H') (q:Q b M')
inductive AQ(ρ:List Addr)(H:Hp)(Q:List D->Mem->Prop)(vs:List V)(H':Hp):Prop
 | mk (ds:List D) (M':Mem) (ρ':List Addr) (s:Sim K ρ' M' H') (g:Grow K ρ H ρ' H') (r:Reps K ρ' H' ds vs) (q:Q ds M')
inductive SQ(ρ:List Addr)(H:Hp)(Q:SD->Mem->Prop)(σ':St)(H':Hp):Prop
 | mk (S':SD) (M':Mem) (ρ':List Addr) (s:Sim K ρ' M' H') (g:Grow K ρ H ρ' H') (r:SRep K ρ' H' S' σ') (q:Q S' M')
structure Ups(ρ:List Addr)(H:Hp)(F:DEnds)(E:Ends):Prop where
 nx:∀σ' H',SQ K ρ H F.nx σ' H'->E.nx σ' H'
 rt:∀v H',VQ K ρ H F.rt v H'->E.rt v H'
 bk:∀σ' H',SQ K ρ H F.bk σ' H'->E.bk σ' H'
 ct:∀σ' H',SQ K ρ H F.ct σ' H'->E.ct σ' H'
inductive lowE(t:DTE)(σ:St)(H:Hp)(R:VK):Prop
 | mk (S:SD) (M:Mem) (ρ:List Addr) (Q:DK) (s:Sim K ρ M H) (sr:SRep K ρ H S σ) (q:t S M Q) (k:∀v H',VQ K ρ H Q v H'->R v H')
inductive lowT(t:DTT)(σ:St)(H:Hp)(R:Bool->Hp->Prop):Prop
 | mk (S:SD) (M:Mem) (ρ:List Addr) (Q:Bool->Mem->Prop) (s:Sim K ρ M H) (sr:SRep K ρ H S σ) (q:t S M Q) (k:∀v H',BQ K ρ H Q v H'->R v H')
inductive lowA(t:DTA)(σ:St)(H:Hp)(R:List V->Hp->Prop):Prop
 | mk (S:SD) (M:Mem) (ρ:List Addr) (Q:List D->Mem->Prop) (s:Sim K ρ M H) (sr:SRep K ρ H S σ) (q:t S M Q) (k:∀v H',AQ K ρ H Q v H'->R v H')
inductive lowS(t:DTS)(E:Ends)(σ:St)(H:Hp):Prop
 | mk (S:SD) (M:Mem) (ρ:List Addr) (F:DEnds) (s:Sim K ρ M H) (sr:SRep K ρ H S σ) (q:t F S M) (k:Ups K ρ H F E)
inductive lowG(g:DTG)(v:V)(σ:St)(H:Hp)(R:St->Hp->Prop):Prop
 | mk (d:D) (S:SD) (M:Mem) (ρ:List Addr) (Q:SD->Mem->Prop) (s:Sim K ρ M H) (sr:SRep K ρ H S σ) (r:Rep K ρ H d v) (q:g d S M Q) (k:∀σ' H',SQ K ρ H Q σ' H'->R σ' H')
inductive lowGs(g:Ds)(vs:List V)(σ:St)(H:Hp)(R:St->Hp->Prop):Prop
 | mk (ds:List D) (S:SD) (M:Mem) (ρ:List Addr) (Q:SD->Mem->Prop) (s:Sim K ρ M H) (sr:SRep K ρ H S σ) (r:Reps K ρ H ds vs) (q:g ds S M Q) (k:∀σ' H',SQ K ρ H Q σ' H'->R σ' H')
inductive lowR(r:DR2)(vx vy:V)(H:Hp)(R:VK):Prop
 | mk (x y:D) (M:Mem) (ρ:List Addr) (Q:DK) (s:Sim K ρ M H) (r1:Rep K ρ H x vx) (r2:Rep K ρ H y vy) (q:r x y M Q) (k:∀v H',VQ K ρ H Q v H'->R v H')
inductive lowU(r:DR1)(vx:V)(H:Hp)(R:VK):Prop
 | mk (x:D) (M:Mem) (ρ:List Addr) (Q:DK) (s:Sim K ρ M H) (r1:Rep K ρ H x vx) (q:r x M Q) (k:∀v H',VQ K ρ H Q v H'->R v H')
inductive lowC(r:DRA)(vs:List V)(H:Hp)(R:VK):Prop
 | mk (ds:List D) (M:Mem) (ρ:List Addr) (Q:DK) (s:Sim K ρ M H) (r1:Reps K ρ H ds vs) (q:r ds M Q) (k:∀v H',VQ K ρ H Q v H'->R v H')
end
def DE(X:Cx)(e:Expr)(t:DTE):Prop:=PE X e (lowE X.K t)
def DT(X:Cx)(e:Expr)(t:DTT):Prop:=PT X e (lowT X.K t)
def DW(X:Cx)(e:Expr)(t:DTT):Prop:=PW X e (lowT X.K t)
def DA(X:Cx)(es:List Expr)(t:DTA):Prop:=PA X es (lowA X.K t)
def DS(X:Cx)(st:Stmt)(t:DTS):Prop:=PS X st (lowS X.K t)
def DSs(X:Cx)(st:List Stmt)(t:DTS):Prop:=PSs X st (lowS X.K t)
def DG(X:Cx)(tg:Expr)(g:DTG):Prop:=PG X tg (lowG X.K g)
def DGs(X:Cx)(tg:List Expr)(g:Ds):Prop:=PGs X tg (lowGs X.K g)
def OpD(X:Cx)(f:Value->Value->Sem Value)(r:DR2):Prop:=OpR X f (lowR X.K r)
def UnD(X:Cx)(f:Value->Sem Value)(r:DR1):Prop:=UnR X f (lowU X.K r)
def hZ(X:Cx)(f:Value)(r:DRA):Prop:=fb X f (lowC X.K r)
section
variable{K:AA2}{ρ ρ1:List Addr}{H H1:Hp}
theorem VQ.trans(g:Grow K ρ H ρ1 H1)(h:VQ K ρ1 H1 Q v H'):VQ K ρ H Q v H':=by
 obtain⟨d,M',ρ',s,g',r,q⟩:=h
 exact⟨d,M',ρ',s,g.trans g',r,q⟩
theorem BQ.trans(g:Grow K ρ H ρ1 H1)(h:BQ K ρ1 H1 Q v H'):BQ K ρ H Q v H':=by
 obtain⟨M',ρ',s,g',q⟩:=h
 exact⟨M',ρ',s,g.trans g',q⟩
theorem SQ.trans(g:Grow K ρ H ρ1 H1)(h:SQ K ρ1 H1 Q v H'):SQ K ρ H Q v H':=by
 obtain⟨d,M',ρ',s,g',r,q⟩:=h
 exact⟨d,M',ρ',s,g.trans g',r,q⟩
theorem Ups.trans(g:Grow K ρ H ρ1 H1)(h:Ups K ρ H F E):Ups K ρ1 H1 F E :=
 ⟨λσ' H' q=>h.nx σ' H' (SQ.trans g q),λv H' q=>h.rt v H' (VQ.trans g q),λσ' H' q=>h.bk σ' H' (SQ.trans g q),λσ' H' q=>h.ct σ' H' (SQ.trans g q)⟩
theorem VQ.now(s:Sim K ρ M H)(r:Rep K ρ H d v)(q:Q d M):VQ K ρ H Q v H:=⟨d,M,ρ,s,.refl,r,q⟩
end
section
variable{K:AA2}{ρ:List Addr}{H:Hp}{v:V}{vs:List V}
theorem Rep.inv_non(h:Rep K ρ H .non v):v=.non:=by cases h;rfl
theorem Rep.inv_bl(h:Rep K ρ H (.bl b) v):v=.bl b:=by cases h;rfl
theorem Rep.inv_int(h:Rep K ρ H (.int i) v):v=.int i:=by cases h;rfl
theorem Rep.inv_str(h:Rep K ρ H (.str x) v):v=.str x:=by cases h;rfl
theorem Rep.inv_ty(h:Rep K ρ H (.ty n) v):v=.ty n:=by cases h;rfl
theorem Rep.inv_tup(h:Rep K ρ H (.tup ds) v):∃a vs,v=.ref a/\SqT K H a vs/\Reps K ρ H ds vs:=by cases h with | tup h r=>exact⟨_,_,rfl,h,r⟩
theorem Rep.inv_ref(h:Rep K ρ H (.ref n) v):∃a,v=.ref a/\ρ[n]?=some a:=by cases h with | ref h=>exact⟨_,rfl,h⟩
theorem az.inv_cons(h:az (x::vs) us):∃u ws,us=u::ws/\aU x u/\az vs ws:=by cases h with | cons h t=>exact⟨_,_,rfl,h,t⟩
theorem az.inv_nil(h:az [] us):us=[]:=by cases h;rfl
theorem Reps.inv_nil(h:Reps K ρ H [] vs):vs=[]:=by cases h;rfl
theorem Reps.inv_cons(h:Reps K ρ H (d::ds) vs):∃v ws,vs=v::ws/\Rep K ρ H d v/\Reps K ρ H ds ws:=by cases h with | cons h t=>exact⟨_,_,rfl,h,t⟩
end
end
theorem PE.imp(h:PE X e t')(i:∀σ H R,t σ H R->t' σ H R):PE X e t:=λpins s σ H R I q=>h pins s σ H R I (i σ H R q)
theorem PT.imp(h:PT X e t')(i:∀σ H R,t σ H R->t' σ H R):PT X e t:=λpins s σ H R I q=>h pins s σ H R I (i σ H R q)
theorem PW.imp(h:PW X e t')(i:∀σ H R,t σ H R->t' σ H R):PW X e t:=λw pins s σ H R I q=>h w pins s σ H R I (i σ H R q)
theorem PA.imp(h:PA X e t')(i:∀σ H R,t σ H R->t' σ H R):PA X e t:=λpos pins s σ H R I q=>h pos pins s σ H R I (i σ H R q)
theorem PS.imp(h:PS X e t')(i:∀E σ H,t E σ H->t' E σ H):PS X e t:=λpins s σ H R I q=>h pins s σ H R I (i R σ H q)
theorem PSs.imp(h:PSs X e t')(i:∀E σ H,t E σ H->t' E σ H):PSs X e t:=λpins s σ H R I q=>h pins s σ H R I (i R σ H q)
theorem OpR.imp(h:OpR X f r')(i:∀x y H R,r x y H R->r' x y H R):OpR X f r:=λpins s σ H x y v u R I a b q=>h pins s σ H x y v u R I a b (i x y H R q)
theorem fb.imp(h:fb X f r')(i:∀xs H R,r xs H R->r' xs H R):fb X f r:=λpins s σ H xs us R I a q=>h pins s σ H xs us R I a (i xs H R q)
section
variable{X:Cx}{a b c:Expr}{ta tb tc:DTE}{pos:Pos}
def ac(i:Nat):DTE:=λS M Q=>match S[i]? with
 | some (some d)=>Q d M
 | _=>False
def dC(d:D):DTE:=λ_ M Q=>Q d M
theorem Bt{K:AA2}{i:Nat}(σ:St)(H:Hp)(R:VK)(h:lowE K (ac i) σ H R):tVar i σ H R:=by
 obtain⟨S,M,ρ,Q,s,r,q,k⟩:=h
 unfold ac at q
 cases e:S[i]? with
 | none=>rw[e]at q;exact q.elim
 | some o =>
  cases o with
  | none=>rw[e]at q;exact q.elim
  | some d =>
   rw[e]at q
   obtain⟨v,hv,rv⟩:=r.get i d e
   exact⟨v,hv,k v H (VQ.now s rv q)⟩
theorem d_var(hN:X.N[i]?=some x:=by rfl)(hv:Vis X.env.scope x:=by first | exact Or.inl rfl | exact Or.inr (Or.inl rfl) | exact Or.inr (Or.inr rfl))(hd:(x==("__debug__":Str))=false:=by decide)
  (hcd:(x==("__classdict__":Str))=false:=by decide):DE X (.Name x pos) (ac i):=PE.imp (Da hN hv hd hcd) Bt
noncomputable def cV:D->Option V
 | .non=>some .non
 | .bl b=>some (.bl b)
 | .int i=>some (.int i)
 | .str x=>some (.str x)
 | .ty n=>some (.ty n)
 | _=>none
theorem Ad{K:AA2}{ρ:List Addr}{H:Hp}{d:D}{v:V}(h:cV d=some v):Rep K ρ H d v:=by
 cases d with
 | non=>cases h;exact .non
 | bl b=>cases h;exact .bl b
 | int b=>cases h;exact .int b
 | str b=>cases h;exact .str b
 | ty b=>cases h;exact .ty b
 | tup b=>cases h
 | ref b=>cases h
theorem mz{K:AA2}{d:D}{v:V}(hd:cV d=some v)(σ:St)(H:Hp)(R:VK)(h:lowE K (dC d) σ H R):tC v σ H R:=by
 obtain⟨S,M,ρ,Q,s,r,q,k⟩:=h
 exact k v H (VQ.now s (Ad hd) q)
theorem d_int{i:Int}{j:Nat}:DE X (.Constant (.int i) j pos) (dC (.int i)):=PE.imp Ij (mz rfl)
theorem d_bl{i:Bool}{j:Nat}:DE X (.Constant (.bool i) j pos) (dC (.bl i)):=PE.imp Io (mz rfl)
theorem d_non{j:Nat}:DE X (.Constant .none j pos) (dC .non):=PE.imp Ie (mz rfl)
theorem d_str{i:Str}{j:Nat}:DE X (.Constant (.str i) j pos) (dC (.str i)):=PE.imp Ia (mz rfl)
theorem Kj(hm:X.mg x=some u)(hd:cV d=some v)(r:aU v u)(hg:Gl X x:=by rfl)(hb:(x==("__debug__":Str))=false:=by decide):DE X (.Name x pos) (dC d):=PE.imp (rW hg hm r hb) (mz hd)
theorem Kg{x:Str}{T:String}(hm:X.mg x=none)(hv:bootBuiltins x=some (.type T))(hg:Gl X x:=by rfl)(hn:x≠"__name__":=by decide)(hb:(x==("__debug__":Str))=false:=by decide):DE X (.Name x pos) (dC (.ty T)) :=
 PE.imp (Ev (v:=.ty T) hg hm hv rfl hn hb) (mz rfl)
theorem low2{K:AA2}{S:SD}{M:Mem}{ρ:List Addr}{σ:St}{H:Hp}{P:D->D->Mem->Prop}{G:V->V->Hp->Prop}(s:Sim K ρ M H)(r:SRep K ρ H S σ)(h:ta S M λx M1=>tb S M1 λy M2=>P x y M2)
  (k:∀x y vx vy M2 ρ2 H2,Sim K ρ2 M2 H2->Grow K ρ H ρ2 H2->Rep K ρ2 H2 x vx->Rep K ρ2 H2 y vy->P x y M2->G vx vy H2):lowE K ta σ H λvx H1=>lowE K tb σ H1 λvy H2=>G vx vy H2:=by
 refine⟨S,M,ρ,_,s,r,h,?_⟩
 rintro vx H1 ⟨x,M1,ρ1,s1,g1,r1,q1⟩
 refine⟨S,M1,ρ1,_,s1,r.grow g1,q1,?_⟩
 rintro vy H2 ⟨y,M2,ρ2,s2,g2,r2,q2⟩
 exact k x y vx vy M2 ρ2 H2 s2 (g1.trans g2) (r1.grow g2) r2 q2
def dOp(r:DR2)(ta tb:DTE):DTE:=λS M Q=>ta S M λx M1=>tb S M1 λy M2=>r x y M2 Q
theorem nv{K:AA2}{r:DR2}(σ:St)(H:Hp)(R:VK)(h:lowE K (dOp r ta tb) σ H R):tOp (lowR K r) (lowE K ta) (lowE K tb) σ H R:=by
 obtain⟨S,M,ρ,Q,s,sr,q,k⟩:=h
 exact low2 s sr q λx y vx vy M2 ρ2 H2 s2 g2 r1 r2 q2=>⟨x,y,M2,ρ2,Q,s2,r1,r2,q2,λv H' w=>k v H' (VQ.trans g2 w)⟩
theorem d_op(ho:OpD X (binaryOp op) r)(ha:DE X a ta)(hb:DE X b tb):DE X (.BinOp a op b pos) (dOp r ta tb):=PE.imp (pe_op ho ha hb) nv
theorem d_cmp(ho:OpD X (compareOp op) r)(ha:DE X a ta)(hb:DE X b tb)(hm:behindInMarks op b=false:=by with_unfolding_all rfl):DE X (.Compare a [op] [b] pos) (dOp r ta tb):=PE.imp (Et ho ha hb hm) nv
def aB(t:DTE):DTT:=λS M Q=>t S M λx M'=>match x with
 | .bl b=>Q b M'
 | _=>False
theorem kI{K:AA2}{t:DTE}(σ:St)(H:Hp)(R:Bool->Hp->Prop)(h:lowT K (aB t) σ H R):Hf (lowE K t) σ H R:=by
 obtain⟨S,M,ρ,Q,s,sr,q,k⟩:=h
 refine⟨S,M,ρ,_,s,sr,q,?_⟩
 rintro v H' ⟨d,M',ρ',s',g',r',q'⟩
 cases r' with
 | bl b=>exact⟨b,rfl,k b H' ⟨M',ρ',s',g',q'⟩⟩
 | _=>exact q'.elim
theorem JS(ho:OpD X (compareOp op) r)(ha:DE X a ta)(hb:DE X b tb)(hm:behindInMarks op b=false:=by with_unfolding_all rfl):DT X (.Compare a [op] [b] pos) (aB (dOp r ta tb)):=by
 refine PT.imp (yc ho ha hb hm) λσ H R h=>?_
 obtain⟨S,M,ρ,Q,s,sr,q,k⟩:=kI σ H R h
 exact nv σ H _ ⟨S,M,ρ,Q,s,sr,q,k⟩
theorem JQ(h:DE X e t)(he:∀whole,isTrue e X.env whole=(do let v <-whole;standAt e.pos;holding [v] (truthy v)):=by intro _;rfl):DT X e (aB t):=PT.imp (HL h he) kI
def onB(z:D)(k:Bool->Prop):Prop:=match z with
 | .bl b=>k b
 | _=>False
theorem pY{b:Bool}{k:Bool->Prop}:onB (.bl b) k=k b:=rfl
def gY(r r':DR2)(ta tb tc:DTE):DTE:=λS M Q=>ta S M λx M1=>tb S M1 λy M2=>r x y M2 λz M3=>onB z λb=>if b=true then tc S M3 λw M4=>r' y w M4 Q else Q (.bl false) M3
theorem wa{K:AA2}{r r':DR2}(σ:St)(H:Hp)(R:VK)(h:lowE K (gY r r' ta tb tc) σ H R):CU (lowR K r) (lowR K r') (lowE K ta) (lowE K tb) (lowE K tc) σ H R:=by
 obtain⟨S,M,ρ,Q,s,sr,q,k⟩:=h
 refine low2 s sr q λx y vx vy M2 ρ2 H2 s2 g2 r1 r2 q2=>⟨x,y,M2,ρ2,_,s2,r1,r2,q2,?_⟩
 rintro vz H3 ⟨z,M3,ρ3,s3,g3,r3,q3⟩
 cases r3 with
 | bl b =>
  cases b with
  | false=>exact⟨false,rfl,bp (k _ H3 ⟨_,M3,ρ3,s3,g2.trans g3,.bl false,(show Q (.bl false) M3 from q3)⟩)⟩
  | true =>
   refine⟨true,rfl,bu ⟨S,M3,ρ3,_,s3,sr.grow (g2.trans g3),(show tc S M3 _ from q3),?_⟩⟩
   rintro vw H4 ⟨w,M4,ρ4,s4,g4,r4,q4⟩
   exact⟨y,w,M4,ρ4,Q,s4,r2.grow (g3.trans g4),r4,q4,λv H' w'=>k v H' (VQ.trans ((g2.trans g3).trans g4) w')⟩
 | _=>exact q3.elim
theorem Gu(ho:OpD X (compareOp op) r)(ho':OpD X (compareOp op') r')(ha:DE X a ta)(hb:DE X b tb)(hc:DE X c tc)(hm:lastMarks [op,op'] [b,c]=false:=by with_unfolding_all rfl) :
  DE X (.Compare a [op,op'] [b,c] pos) (gY r r' ta tb tc):=PE.imp (AZ ho ho' ha hb hc hm) wa
variable{tA tB:DTT}{bm:List Expr}
def Kl(t u:DTT):DTT:=λS M Q=>t S M λb M1=>if b=true then u S M1 Q else Q false M1
def dOr(t u:DTT):DTT:=λS M Q=>t S M λb M1=>if b=true then Q true M1 else u S M1 Q
def qN(t:DTT):DTT:=λS M Q=>t S M λb M1=>Q (!b) M1
theorem Gc(ha:DT X a tA):DW X (.BoolOp .And [a] pos) tA:=Ec ha
theorem JO(ha:DT X a tA):DW X (.BoolOp .Or [a] pos) tA:=HJ ha
theorem JP(ha:DT X a tA)(hb:DW X (.BoolOp .And (b::bm) pos) tB):DW X (.BoolOp .And (a::b::bm) pos) (Kl tA tB):=by
 refine PW.imp (HK ha hb) ?_
 rintro σ H R ⟨S,M,ρ,Q,s,sr,q,k⟩
 refine⟨S,M,ρ,_,s,sr,q,?_⟩
 rintro c H1 ⟨M1,ρ1,s1,g1,q1⟩
 cases c with
 | true=>exact bu ⟨S,M1,ρ1,Q,s1,sr.grow g1,(show tB S M1 Q from q1),λv H' w=>k v H' (BQ.trans g1 w)⟩
 | false=>exact bp (k false H1 ⟨M1,ρ1,s1,g1,q1⟩)
theorem dw_or(ha:DT X a tA)(hb:DW X (.BoolOp .Or (b::bm) pos) tB):DW X (.BoolOp .Or (a::b::bm) pos) (dOr tA tB):=by
 refine PW.imp (pw_or ha hb) ?_
 rintro σ H R ⟨S,M,ρ,Q,s,sr,q,k⟩
 refine⟨S,M,ρ,_,s,sr,q,?_⟩
 rintro c H1 ⟨M1,ρ1,s1,g1,q1⟩
 cases c with
 | false=>exact bp ⟨S,M1,ρ1,Q,s1,sr.grow g1,(show tB S M1 Q from q1),λv H' w=>k v H' (BQ.trans g1 w)⟩
 | true=>exact bu (k true H1 ⟨M1,ρ1,s1,g1,q1⟩)
theorem dw_t(h:DW X e t):DT X e t:=PW.pt h
theorem JR(ha:DT X a tA):DT X (.UnaryOp .Not a pos) (qN tA):=by
 refine PT.imp (HM ha) ?_
 rintro σ H R ⟨S,M,ρ,Q,s,sr,q,k⟩
 refine⟨S,M,ρ,_,s,sr,q,?_⟩
 rintro c H1 ⟨M1,ρ1,s1,g1,q1⟩
 exact k (!c) H1 ⟨M1,ρ1,s1,g1,q1⟩
def db(ta tb:DTE):DTE:=λS M Q=>ta S M λx M1=>onB x λb=>if b=true then tb S M1 Q else Q (.bl false) M1
def dOrV(ta tb:DTE):DTE:=λS M Q=>ta S M λx M1=>onB x λb=>if b=true then Q (.bl true) M1 else tb S M1 Q
def Cp(ta:DTE):DTE:=λS M Q=>ta S M λx M1=>match x with
 | .bl b=>Q (.bl (!b)) M1
 | _=>False
theorem d_one{op}(h:DE X a ta):DE X (.BoolOp op [a] pos) ta:=Ib h
theorem d_and(ha:DE X a ta)(hb:DE X (.BoolOp .And (b::bm) pos) tb):DE X (.BoolOp .And (a::b::bm) pos) (db ta tb):=by
 refine PE.imp (Ip ha hb) ?_
 rintro σ H R ⟨S,M,ρ,Q,s,sr,q,k⟩
 refine⟨S,M,ρ,_,s,sr,q,?_⟩
 rintro v H1 ⟨d,M1,ρ1,s1,g1,r1,q1⟩
 cases r1 with
 | bl c =>
  cases c with
  | true=>exact⟨true,rfl,bu ⟨S,M1,ρ1,Q,s1,sr.grow g1,(show tb S M1 Q from q1),λv H' w=>k v H' (VQ.trans g1 w)⟩⟩
  | false=>exact⟨false,rfl,bp (k _ H1 ⟨_,M1,ρ1,s1,g1,.bl false,(show Q (.bl false) M1 from q1)⟩)⟩
 | _=>exact q1.elim
theorem d_or(ha:DE X a ta)(hb:DE X (.BoolOp .Or (b::bm) pos) tb):DE X (.BoolOp .Or (a::b::bm) pos) (dOrV ta tb):=by
 refine PE.imp (pe_or ha hb) ?_
 rintro σ H R ⟨S,M,ρ,Q,s,sr,q,k⟩
 refine⟨S,M,ρ,_,s,sr,q,?_⟩
 rintro v H1 ⟨d,M1,ρ1,s1,g1,r1,q1⟩
 cases r1 with
 | bl c =>
  cases c with
  | false=>exact⟨false,rfl,bp ⟨S,M1,ρ1,Q,s1,sr.grow g1,(show tb S M1 Q from q1),λv H' w=>k v H' (VQ.trans g1 w)⟩⟩
  | true=>exact⟨true,rfl,bu (k _ H1 ⟨_,M1,ρ1,s1,g1,.bl true,(show Q (.bl true) M1 from q1)⟩)⟩
 | _=>exact q1.elim
theorem d_not(ha:DE X a ta):DE X (.UnaryOp .Not a pos) (Cp ta):=by
 refine PE.imp (Ic ha) ?_
 rintro σ H R ⟨S,M,ρ,Q,s,sr,q,k⟩
 refine⟨S,M,ρ,_,s,sr,q,?_⟩
 rintro v H1 ⟨d,M1,ρ1,s1,g1,r1,q1⟩
 cases r1 with
 | bl c=>exact⟨c,rfl,k _ H1 ⟨_,M1,ρ1,s1,g1,.bl (!c),q1⟩⟩
 | _=>exact q1.elim
variable{e:Expr}{es:List Expr}{te:DTE}{t:DTA}
def ag:DTA:=λ_ M Q=>Q [] M
def aa(te:DTE)(t:DTA):DTA:=λS M Q=>te S M λd M1=>t S M1 λds M2=>Q (d::ds) M2
theorem Kf:DA X [] ag:=by
 refine PA.imp Ir ?_
 rintro σ H R ⟨S,M,ρ,Q,s,sr,q,k⟩
 exact k [] H ⟨[],M,ρ,s,.refl,.nil,q⟩
theorem Gp(ha:DE X e te)(hr:DA X es t)(hs:starEach (e::es) X.env=(false,eval e X.env)::starEach es X.env:=by rfl):DA X (e::es) (aa te t):=by
 refine PA.imp (Ez ha hr hs) ?_
 rintro σ H R ⟨S,M,ρ,Q,s,sr,q,k⟩
 refine⟨S,M,ρ,_,s,sr,q,?_⟩
 rintro v H1 ⟨d,M1,ρ1,s1,g1,r1,q1⟩
 refine⟨S,M1,ρ1,_,s1,sr.grow g1,q1,?_⟩
 rintro vs H2 ⟨ds,M2,ρ2,s2,g2,r2,q2⟩
 exact k _ H2 ⟨d::ds,M2,ρ2,s2,g1.trans g2,.cons (r1.grow g2) r2,q2⟩
def iJ(t:DTA):DTE:=λS M Q=>t S M λds M1=>ds.length<=sizeLine/\Q (.tup ds) M1
def gW(t:DTA):DTE:=λS M Q=>t S M λds M1=>ds.length<=sizeLine/\Q (.ref M1.length) (M1++[.lst ds])
theorem VQ.laidT{K:AA2}{ρ ρ1:List Addr}{H H1:Hp}{M1:Mem}{ds:List D}{vs:List V}{Q:DK}{p:Addr}(s1:Sim K ρ1 M1 H1)(g1:Grow K ρ H ρ1 H1)(r1:Reps K ρ1 H1 ds vs)(hp:H1 p=none)(q:Q (.tup ds) M1):VQ K ρ H Q (.ref p) (upd H1 p (.tup vs)) :=
 ⟨.tup ds,M1,ρ1,s1.laid hp,g1.trans (Grow.laid hp),.tup (SqT.of aL) (r1.grow (Grow.laid hp)),q⟩
theorem VQ.laidL{K:AA2}{ρ ρ1:List Addr}{H H1:Hp}{M1:Mem}{ds:List D}{vs:List V}{Q:DK}{p:Addr}(s1:Sim K ρ1 M1 H1)(g1:Grow K ρ H ρ1 H1)(r1:Reps K ρ1 H1 ds vs)(hp:H1 p=none)(q:Q (.ref M1.length) (M1++[.lst ds])):VQ K ρ H Q (.ref p) (upd H1 p (.lst vs)) :=
 ⟨.ref M1.length,M1++[.lst ds],ρ1++[p],s1.laidL hp r1,g1.trans (Grow.laidR hp),.ref s1.last,q⟩
theorem d_tup{x1}(h:DA X es t):DE X (.Tuple es x1 pos) (iJ t):=by
 refine PE.imp (HZ h) ?_
 rintro σ H R ⟨S,M,ρ,Q,s,sr,q,k⟩
 refine⟨S,M,ρ,_,s,sr,q,?_⟩
 rintro vs H1 ⟨ds,M1,ρ1,s1,g1,r1,z,q1⟩
 exact⟨by rw[<-r1.length];exact z,λp hp=>k _ _ (VQ.laidT s1 g1 r1 hp q1)⟩
theorem d_lst(h:DA X es t):DE X (.List es pos) (gW t):=by
 refine PE.imp (Ig h) ?_
 rintro σ H R ⟨S,M,ρ,Q,s,sr,q,k⟩
 refine⟨S,M,ρ,_,s,sr,q,?_⟩
 rintro vs H1 ⟨ds,M1,ρ1,s1,g1,r1,z,q1⟩
 exact⟨by rw[<-r1.length];exact z,λp hp=>k _ _ (VQ.laidL s1 g1 r1 hp q1)⟩
def dCB(r:DRA)(t:DTA):DTE:=λS M Q=>t S M λds M1=>r ds M1 Q
theorem yQ{K:AA2}{r:DRA}(σ:St)(H:Hp)(R:VK)(h:lowE K (dCB r t) σ H R):tCB (lowC K r) (lowA K t) σ H R:=by
 obtain⟨S,M,ρ,Q,s,sr,q,k⟩:=h
 refine⟨S,M,ρ,_,s,sr,q,?_⟩
 rintro vs H1 ⟨ds,M1,ρ1,s1,g1,r1,q1⟩
 exact⟨ds,M1,ρ1,Q,s1,r1,q1,λv H' w=>k v H' (VQ.trans g1 w)⟩
theorem Gv{x:Str}{p:Pos}{id:String}{r:DRA}(hc:hZ X (.builtin id) r)(hm:X.mg x=none)(hv:bootBuiltins x=some (.builtin id))(ha:DA X (e::es) t)(hg:Gl X x:=by rfl)(hn:x≠"__name__":=by decide)(hdb:(x==("__debug__":Str))=false:=by decide)
  (he:starEach (e::es) X.env=(false,eval e X.env)::starEach es X.env:=by rfl) (hpl:(backTo pos (starEach es X.env)).any (·.1)=false:=by rfl):DE X (.Call (.Name x p) (e::es) [] pos) (dCB r t) :=
 PE.imp (Ba hc hg hm hv ha hn hdb he hpl) yQ
theorem Co(hc:hZ X (.type T) r)(hm:X.mg x=none)(hv:bootBuiltins x=some (.type T))(ha:DA X (e::es) t)(hg:Gl X x:=by rfl)(hn:x≠"__name__":=by decide)(hdb:(x==("__debug__":Str))=false:=by decide)
  (he:starEach (e::es) X.env=(false,eval e X.env)::starEach es X.env:=by rfl) (hpl:(backTo pos (starEach es X.env)).any (·.1)=false:=by rfl):DE X (.Call (.Name x p) (e::es) [] pos) (dCB r t) :=
 PE.imp (yi hc hg hm hv ha hn hdb he hpl) yQ
abbrev DSp:=List D->Mem->DK->Prop
def spL(K:AA2)(P:DSp):Sp:=λvs H Q _=>∃ds M ρ R,Sim K ρ M H/\Reps K ρ H ds vs/\P ds M R/\∀v H',VQ K ρ H R v H'->Q v H'
theorem yO{K:AA2}{P:DSp}(σ:St)(H:Hp)(R:VK)(h:lowE K (dCB P t) σ H R):Hh (spL K P) [] E0 (lowA K t) σ H R:=by
 obtain⟨S,M,ρ,Q,s,sr,q,k⟩:=h
 exact⟨S,M,ρ,_,s,sr,q,λvs H1 ⟨ds,M1,ρ1,s1,g1,r1,q1⟩=>⟨ds,M1,ρ1,Q,s1,by rw[AB8];exact r1,q1,λv H' w=>k v H' (VQ.trans g1 w)⟩⟩
theorem Kk(F:FnOk X.prog X.w X.K X.mg X.base CX0 k f fd ps (spL X.K P))(hr:Room k X.A)(hm:X.mg x=some (.ref f))(hk:ABY X.K (.ref f)=true)(hb:ic X.K fd ps [])
  (ha:DA X (e::es) t) (hg:Gl X x:=by rfl) (hdb:(x==("__debug__":Str))=false:=by decide) (he:starEach (e::es) X.env=(false,eval e X.env)::starEach es X.env:=by rfl) (hpl:(backTo pos (starEach es X.env)).any (·.1)=false:=by rfl) :
  DE X (.Call (.Name x p) (e::es) [] pos) (dCB P t):=PE.imp (Eu F hr hg hm hk hb .nil Bc ha hdb he hpl) yO
end
def aR:DTS:=λE S M=>E.nx S M
def aF(t u:DTS):DTS:=λE S M=>t { E with nx:=λS' M'=>u E S' M' } S M
theorem JW:DSs X [] aR:=by
 refine PSs.imp Eh ?_
 rintro E σ H ⟨S,M,ρ,F,s,sr,q,k⟩
 exact k.nx σ H ⟨S,M,ρ,s,.refl,sr,q⟩
theorem JV{X:Cx}{st:Stmt}{t:DTS}(h:DS X st t):DSs X [st] t:=Eg h
theorem Gi{X:Cx}{st:Stmt}{bm:List Stmt}{t u:DTS}(h1:DS X st t)(h2:DSs X bm u):DSs X (st::bm) (aF t u):=by
 refine PSs.imp (AT h1 h2) ?_
 rintro E σ H ⟨S,M,ρ,F,s,sr,q,k⟩
 exact⟨S,M,ρ,_,s,sr,q,⟨λσ' H' ⟨S',M',ρ',s',g',sr',q'⟩=>⟨S',M',ρ',F,s',sr',q',k.trans g'⟩,k.rt,k.bk,k.ct⟩⟩
def eU(te:DTE):DTS:=λE S M=>te S M λ_ M1=>E.nx S M1
theorem Gg(he:DE X e te)(hs:swapsWith e none pos.line X.env=pure false:=by rfl):DS X (.Expr e pos) (eU te):=by
 refine PS.imp (Ei he hs) ?_
 rintro E σ H ⟨S,M,ρ,F,s,sr,q,k⟩
 refine⟨S,M,ρ,_,s,sr,q,?_⟩
 rintro v H1 ⟨d,M1,ρ1,s1,g1,r1,q1⟩
 exact k.nx σ H1 ⟨S,M1,ρ1,s1,g1,sr.grow g1,q1⟩
def aX(te:DTE):DTS:=λE S M=>te S M E.rt
theorem JU(he:DE X e te):DS X (.Return (some e) pos) (aX te):=by
 refine PS.imp (HP he) ?_
 rintro E σ H ⟨S,M,ρ,F,s,sr,q,k⟩
 exact⟨S,M,ρ,_,s,sr,q,λv H1 w=>k.rt v H1 w⟩
def dIf(c:DTT)(t u:DTS):DTS:=λE S M=>c S M λb M1=>if b=true then t E S M1 else u E S M1
theorem ds_if(hc:DT X c tc)(ha:DSs X a t)(hb:DSs X b u):DS X (.If c a b pos) (dIf tc t u):=by
 refine PS.imp (ps_if hc ha hb) ?_
 rintro E σ H ⟨S,M,ρ,F,s,sr,q,k⟩
 refine⟨S,M,ρ,_,s,sr,q,?_⟩
 rintro c H1 ⟨M1,ρ1,s1,g1,q1⟩
 cases c with
 | true=>exact bu ⟨S,M1,ρ1,F,s1,sr.grow g1,(show t F S M1 from q1),k.trans g1⟩
 | false=>exact bp ⟨S,M1,ρ1,F,s1,sr.grow g1,(show u F S M1 from q1),k.trans g1⟩
def bq(te:DTE)(i:Nat):DTS:=λE S M=>te S M λd M1=>E.nx (S.set i (some d)) M1
theorem JT(hN:X.N.Nodup)(he:DE X e te)(hi:X.N[i]?=some x:=by rfl)(hx:Loc X.env.scope x:=by first | exact Or.inl rfl | exact Or.inr rfl)(hs:swapsWith e (some (.Name x pos')) pos.line X.env=pure false:=by rfl)
  (hf:X.fn x=true\/X.env.scope.names.lookup x=some .local:=by first | exact .inl rfl | exact .inr rfl | assumption):DS X (.Assign [.Name x pos'] e pos) (bq te i):=by
 refine PS.imp (HN hN hi hx he hs hf) ?_
 rintro E σ H ⟨S,M,ρ,F,s,sr,q,k⟩
 refine⟨S,M,ρ,_,s,sr,q,?_⟩
 rintro v H1 ⟨d,M1,ρ1,s1,g1,r1,q1⟩
 exact k.nx _ H1 ⟨_,M1,ρ1,s1,g1,(sr.grow g1).set i r1,q1⟩
def ax(i:Nat):DTG:=λd S M Q=>Q (S.set i (some d)) M
theorem tj(hN:X.N.Nodup)(hi:X.N[i]?=some x:=by rfl)(hx:Loc X.env.scope x:=by first | exact Or.inl rfl | exact Or.inr rfl)(hf:X.fn x=true\/X.env.scope.names.lookup x=some .local:=by first | exact .inl rfl | exact .inr rfl | assumption):DG X (.Name x pos) (ax i) :=
 λpins s σ H v u R I r ⟨d,S,M,ρ,Q,sm,sr,rd,q,k⟩=>Ep hN hi hx hf pins s σ H v u R I r (k _ H ⟨_,M,ρ,sm,.refl,sr.set i rd,q⟩)
theorem vC{P:Program}{w:World}{K:AA2}{tg:Expr}(it:Addr)(n:Nat)(PV:Nat->Value->Prop)(PX:Nat->V->Prop)(Sx:Nat->Heap->Prop)
  (W:∀A':Around,A'.handled=none->Walks P w A' it [it] [it] n PV Sx) (hrel:∀i v,PV i v->∃x,aU x v/\PX i x)
  (hobj:∀i h,Sx i h->∃(o:Obj) (nm:String) (vs:Array Value),h.get? it=some o/\o.cls=.type nm/\o.data=.fields vs/\["enumerate","zip","dict_itemiterator","dict_reverseitemiterator","odict_iterator","itertools.zip_longest","itertools.pairwise"].contains nm=false)
  (hframe:∀(i:Nat) (h h':Heap),Sx i h->(∀o,h.get? it=some o->h'.get? it=some o)->Sx i h')
  (hself:∀(A:Around) (i:Nat) (s:Shared) (Q:Value->Shared->Prop) (E:Value->Shared->Prop),Sx i s.heap->Q (.ref it) s->wpAny (model P w) A (pyIter (.ref it)) Q E s) :
  Turn P w K tg ⟨λi _=>i<n,λi H x H'=>H'=H/\PX i x,λi _=>i=n⟩ [it] it Sx where
 mem:=by simp
 obj:=λi h st b hb=>by
  have e:b=it:=by simpa using hb
  subst e
  obtain⟨o,nm,vs,e,_,d,_⟩:=hobj i h st
  exact⟨o,e,λv z=>by rw[d]at z;cases z⟩
 keep:=λi h h' st k=>hframe i h h' st λo e=>k it (by simp) o e
 item:=by
  intro X hP hw hK hc i pins s σ H E I hf st hg
  subst hP hw hK
  obtain⟨f0,f1,f2,f3,f4,f5⟩:=hf it (by simp)
  refine(W X.A (I.ok.hd hc)).item i s _ _ hg st λv h' tk hv st' kk=>?_
  obtain⟨x,rx,px⟩:=hrel i v hv
  have I1:Inv X pins σ H { s with heap:=h',toks:=tk }:=I.turned (λb o hb e=>kk b o (by simpa using hb) e) f0 f1 f3 f4 f5
  obtain⟨o,nm,vs,e,c,d,hn⟩:=hobj _ _ st'
  exact⟨v,rfl,BX (s:={ s with heap:=h',toks:=tk }) e c d hn ⟨x,H,I1,rx,⟨rfl,px⟩,st',λb hb=>(hf b hb).1⟩⟩
 done:=by
  intro X hP hw hK hc i pins s σ H E I hf st hg
  subst hP hw hK
  obtain⟨f0,f1,f2,f3,f4,f5⟩:=hf it (by simp)
  have hi:i=n:=hg
  subst hi
  exact(W X.A (I.ok.hd hc)).done s _ _ st λh' tk kk=>⟨rfl,I.turned (λb o hb e=>kk b o (by simpa using hb) e) f0 f1 f3 f4 f5⟩
 self:=hself
noncomputable def signs(x:Str):List D:=x.cps.toList.map λc=>.str ⟨#[c]⟩
structure Src where
 items:List D
 ok:Mem->Prop
abbrev DTI:=SD->Mem->(Src->Mem->Prop)->Prop
structure ItD(K:AA2)(src:Src)(ρ0:List Addr)(H0:Hp)(J:It):Prop where
 go:∀(i:Nat) ρ M H,Sim K ρ M H->Grow K ρ0 H0 ρ H->src.ok M->i<src.items.length->J.go i H
 yld:∀(i:Nat) ρ M H x H',Sim K ρ M H->Grow K ρ0 H0 ρ H->src.ok M->i<src.items.length->J.yld i H x H'->∃d ρ',src.items[i]?=some d/\Sim K ρ' M H'/\Grow K ρ H ρ' H'/\Rep K ρ' H' d x
 stop:∀(ρ:List Addr) M H,Sim K ρ M H->Grow K ρ0 H0 ρ H->src.ok M->J.stop src.items.length H
def IQ(K:AA2)(ρ:List Addr)(H:Hp)(Q:Src->Mem->Prop):It->Hp->Prop:=λJ H'=>∃src M' ρ',Sim K ρ' M' H'/\Grow K ρ H ρ' H'/\ItD K src ρ' H' J/\Q src M'
def lowI(K:AA2)(di:DTI):TI:=λσ H R=>∃S M ρ Q,Sim K ρ M H/\SRep K ρ H S σ/\di S M Q/\∀J H',IQ K ρ H Q J H'->R J H'
def DI(X:Cx)(tg iter:Expr)(di:DTI):Prop:=PI X tg iter (lowI X.K di)
theorem ItD.tup{K:AA2}{ρ:List Addr}{H:Hp}{a:Addr}{vs:List V}{ds:List D}(h:SqT K H a vs)(r:Reps K ρ H ds vs)(uniq:∀ys,SqT K H a ys->ys=vs):ItD K ⟨ds,λ_=>True⟩ ρ H (Itt K a) where
 go:=λi ρ' M H' s g _ hi=>by
  have hl:i<vs.length:=by rw[<-r.length];exact hi
  exact⟨vs,vs[i],g.tup a vs h,AA5 hl⟩
 yld:=λi ρ' M H' x H2 s g _ hi y=>by
  obtain⟨rfl,y⟩:=y
  obtain⟨d,hd,rd⟩:=(r.grow g).getV (y vs (g.tup a vs h))
  exact⟨d,ρ',hd,s,.refl,rd⟩
 stop:=λρ' M H' s g _=>⟨vs,g.tup a vs h,by rw[<-r.length];exact AAC _⟩
theorem ItD.lst{K:AA2}{ρ:List Addr}{H:Hp}{n:Nat}{a:Addr}{ds:List D}(e:ρ[n]?=some a):ItD K ⟨ds,λM=>ao M n ds⟩ ρ H (Itl K a) where
 go:=λi ρ' M H' s g ok hi=>by
  obtain⟨vs,h,r⟩:=ao.seq s ok (aK g.pre e)
  have hl:i<vs.length:=by rw[<-r.length];exact hi
  exact⟨vs,vs[i],h,AA5 hl⟩
 yld:=λi ρ' M H' x H2 s g ok hi y=>by
  obtain⟨rfl,y⟩:=y
  obtain⟨vs,h,r⟩:=ao.seq s ok (aK g.pre e)
  obtain⟨d,hd,rd⟩:=r.getV (y vs h)
  exact⟨d,ρ',hd,s,.refl,rd⟩
 stop:=λρ' M H' s g ok=>by
  obtain⟨vs,h,r⟩:=ao.seq s ok (aK g.pre e)
  exact⟨vs,h,by rw[<-r.length];exact AAC _⟩
theorem ItD.plain{K:AA2}{ρ:List Addr}{H:Hp}{ds:List D}{J:It}(hg:∀i H,i<ds.length->J.go i H)(hy:∀i H x H',i<ds.length->J.yld i H x H'->H'=H/\∃d,ds[i]?=some d/\cV d=some x)(hs:∀H,J.stop ds.length H):ItD K ⟨ds,λ_=>True⟩ ρ H J where
 go:=λi ρ' M H' s g _ hi=>hg i H' hi
 yld:=λi ρ' M H' x H2 s g _ hi y=>by
  obtain⟨rfl,d,hd,hv⟩:=hy i _ x H2 hi y
  exact⟨d,ρ',hd,s,.refl,Ad hv⟩
 stop:=λρ' M H' s g _=>hs H'
def bo(te:DTE):DTI:=λS M R=>te S M λd M1=>match d with
 | .tup ds=>ds.length<=sizeLine->R ⟨ds,λ_=>True⟩ M1
 | .str x=>R ⟨signs x,λ_=>True⟩ M1
 | .ref n=>∃xs,ao M1 n xs/\(xs.length<=sizeLine->R ⟨xs,λM=>ao M n xs⟩ M1)
 | _=>False
theorem Kb(hl:DE X l tl):DI X tg l (bo tl):=by
 intro pins s σ H R I h
 obtain⟨S,M,ρ,Q,sm,sr,q,k⟩:=h
 refine thn (hl pins s σ H _ I ⟨S,M,ρ,_,sm,sr,q,λv H' w=>w⟩) ?_
 rintro u s1 ⟨v,H1,I1,rv,d,M1,ρ1,sm1,g1,r1,q1⟩
 cases r1 with
 | non=>exact q1.elim
 | bl b=>exact q1.elim
 | int i=>exact q1.elim
 | ty n=>exact q1.elim
 | @tup a vs ds hq r =>
  cases rv
  obtain⟨its,rr,p,hz⟩:=I1.tuple hq
  refine wpAny_pyIter_tuple (show s1.heap.IsTuple a its.toArray from p) ?_
  refine⟨s1.heap.objs.size,[s1.heap.objs.size],_,_,H1,rfl,I1.kept (t':=s1.toks) λb o e=>AA6 _ e,vD a _,⟨_,AAE _ rfl,rfl,rfl⟩,λb hb=>?_,k _ H1 ⟨⟨ds,λ_=>True⟩,M1,ρ1,sm1,g1,ItD.tup hq r λys hy=>I1.tuple_inj hy hq,?_⟩⟩
  ·have e:b=s1.heap.objs.size:=by simpa using hb
   subst e
   exact I1.fpOk (AAC _) (I1.hok.fresh (AAC _))
  ·exact(show ds.length<=sizeLine->Q ⟨ds,λ_=>True⟩ M1 from q1) (by rw[r.length];exact hz)
 | @ref n a hn =>
  cases rv
  obtain⟨xs,hL,q2⟩:=(show ∃xs,ao M1 n xs/\(xs.length<=sizeLine->Q ⟨xs,λM=>ao M n xs⟩ M1)from q1)
  obtain⟨vs,hq,r⟩:=ao.seq sm1 hL hn
  obtain⟨its,rr,p,hz⟩:=I1.list hq
  refine ADO p.isList ?_
  refine⟨s1.heap.objs.size,[s1.heap.objs.size],_,_,H1,rfl,I1.kept (t':=s1.toks) λb o e=>AA6 _ e,wT a _,⟨_,AAE _ rfl,rfl,rfl⟩,λb hb=>?_,k _ H1 ⟨⟨xs,λM=>ao M n xs⟩,M1,ρ1,sm1,g1,ItD.lst hn,q2 (by rw[r.length];exact hz)⟩⟩
  have e:b=s1.heap.objs.size:=by simpa using hb
  subst e
  exact I1.fpOk (AAC _) (I1.hok.fresh (AAC _))
 | str x =>
  obtain⟨t,rfl⟩:=rv
  have fin:∀(nm:String) (ob:Obj),(ob.cls=.type nm/\ob.data=.fields #[.str x t,.int 0 0]) ->
    (∀A':Around,A'.handled=none->Walks X.prog X.w A' s1.heap.objs.size [s1.heap.objs.size] [s1.heap.objs.size] x.cps.size (SignAt x) (λi h=>h.IsStrIter s1.heap.objs.size nm x t i)) ->
    (∀(A:Around) (i:Nat) (s:Shared) (Q:Value->Shared->Prop) (E:Value->Shared->Prop),s.heap.IsStrIter s1.heap.objs.size nm x t i->Q (.ref s1.heap.objs.size) s->wpAny (model X.prog X.w) A (pyIter (.ref s1.heap.objs.size)) Q E s) ->
    ["enumerate","zip","dict_itemiterator","dict_reverseitemiterator","odict_iterator","itertools.zip_longest","itertools.pairwise"].contains nm=false->(s1.heap.push ob).IsStrIter s1.heap.objs.size nm x t 0 ->
    PIE X pins σ tg R (.ref s1.heap.objs.size) { s1 with heap:=s1.heap.push ob }:=λnm ob hob W hself hnm st=>by
   refine⟨s1.heap.objs.size,[s1.heap.objs.size],_,_,H1,rfl,I1.kept (t':=s1.toks) λb o e=>AA6 _ e,
    vC (PX:=λi v=>∃c,x.cps[i]?=some c/\v=.str ⟨#[c]⟩) _ _ _ _ W (λi v ⟨c,u,e1,e2⟩=>⟨.str ⟨#[c]⟩,⟨u,e2⟩,c,e1,rfl⟩) (λi h st=>?_) (λi h h' st k=>?_) hself,st,λb hb=>?_,k _ H1 ⟨⟨signs x,λ_=>True⟩,M1,ρ1,sm1,g1,ItD.plain ?_ ?_ ?_,q1⟩⟩
   ·obtain⟨o,e,c,d⟩:=st
    exact⟨o,nm,_,e,c,d,hnm⟩
   ·obtain⟨o,e,r⟩:=st
    exact⟨o,k o e,r⟩
   ·have e:b=s1.heap.objs.size:=by simpa using hb
    subst e
    exact I1.fpOk (AAC _) (I1.hok.fresh (AAC _))
   ·intro i _ hi
    simpa [signs]using hi
   ·rintro i H x' H' _ ⟨rfl,c,e,rfl⟩
    exact⟨rfl,.str ⟨#[c]⟩,by simp[signs,e],rfl⟩
   ·intro H
    simp[signs]
  cases ha:x.cps.all (· < 128)
  ·exact wpAny_pyIter_wide ha (fin _ _ ⟨rfl,rfl⟩ (λA' hA=>Walks.strWide hA _ x t) (λ_ _ _ _ _ st h=>wpAny_pyIter_striter_wide st h) (by decide) ⟨_,AAE _ rfl,rfl,rfl⟩)
  ·exact wpAny_pyIter_ascii ha (fin _ _ ⟨rfl,rfl⟩ (λA' hA=>Walks.strAscii hA _ x t) (λ_ _ _ _ _ st h=>wpAny_pyIter_striter_ascii st h) (by decide) ⟨_,AAE _ rfl,rfl,rfl⟩)
noncomputable def mU(lo:Int)(n:Nat):List D:=(AAg n).map λi=>.int (lo+((i:Nat):Int))
theorem ItD.rng{K:AA2}{ρ:List Addr}{H:Hp}(lo:Int)(n:Nat):ItD K ⟨mU lo n,λ_=>True⟩ ρ H (Itr lo n):=by
 refine ItD.plain (λi _ hi=>?_) (λi H x H' hi y=>?_) λH=>?_
 ·show i<n
  simpa [mU]using hi
 ·obtain⟨e,rfl⟩:=y
  have hi':i<n:=by simpa [mU]using hi
  exact⟨e,.int (lo+i),by simp[mU,hi'],rfl⟩
 ·show n<=(mU lo n).length
  simp[mU]
def da(ta:DTA):DTI:=λS M R=>ta S M λds M1=>match ds with
 | [.int j]=>(-(2 ^ 62)<=j/\j<2 ^ 62)/\R ⟨mU 0 j.toNat,λ_=>True⟩ M1
 | _=>False
def iK(ta:DTA):DTI:=λS M R=>ta S M λds M1=>match ds with
 | [.int i,.int j]=>(-(2 ^ 62)<=i/\i<2 ^ 62/\-(2 ^ 62)<=j/\j<2 ^ 62)/\R ⟨mU i (j-i).toNat,λ_=>True⟩ M1
 | _=>False
theorem PI.imp(h:PI X tg iter t')(i:∀σ H R,t σ H R->t' σ H R):PI X tg iter t:=λpins s σ H R I q=>h pins s σ H R I (i σ H R q)
theorem sC{K:AA2}{ta:DTA}(σ:St)(H:Hp)(R:It->Hp->Prop)(h:lowI K (da ta) σ H R):Jv (lowA K ta) σ H R:=by
 obtain⟨S,M,ρ,Q,s,sr,q,k⟩:=h
 refine⟨S,M,ρ,_,s,sr,q,?_⟩
 rintro vs H1 ⟨ds,M1,ρ1,s1,g1,r1,q1⟩
 try dsimp only at q1
 split at q1
 ·rename_i j
  obtain⟨⟨h1,h2⟩,q2⟩:=q1
  first | have hzz:=Reps.inv_cons r1 | have hzz:=az.inv_cons r1
  clear r1
  obtain⟨_,_,rfl,r,t⟩:=hzz
  cases r
  cases t
  exact⟨j,rfl,h1,h2,k _ H1 ⟨_,M1,ρ1,s1,g1,ItD.rng 0 j.toNat,q2⟩⟩
 ·exact q1.elim
theorem zT(hm:X.mg "range" = none)(ha:DA X [a] ta)(hg:Gl X "range":=by rfl)(hs:starEach [a] X.env=[(false,eval a X.env)]:=by rfl):DI X tg (.Call (.Name "range" p) [a] [] pos) (da ta):=PI.imp (yf hg hm ha hs) sC
theorem zS(hm:X.mg "range" = none)(ha:DA X [a,b] ta)(hg:Gl X "range":=by rfl)(hs:starEach [a,b] X.env=[(false,eval a X.env),(false,eval b X.env)]:=by rfl)(hs2:starEach [b] X.env=[(false,eval b X.env)]:=by rfl) :
  DI X tg (.Call (.Name "range" p) [a,b] [] pos) (iK ta):=by
 refine PI.imp (ye hg hm ha hs hs2) ?_
 rintro σ H R ⟨S,M,ρ,Q,s,sr,q,k⟩
 refine⟨S,M,ρ,_,s,sr,q,?_⟩
 rintro vs H1 ⟨ds,M1,ρ1,s1,g1,r1,q1⟩
 try dsimp only at q1
 split at q1
 ·rename_i i j
  obtain⟨h,q2⟩:=q1
  first | have hzz:=Reps.inv_cons r1 | have hzz:=az.inv_cons r1
  clear r1
  obtain⟨_,_,rfl,r,t⟩:=hzz
  cases r
  cases t with
  | cons r t =>
   cases r
   cases t
   exact⟨i,j,rfl,h,k _ H1 ⟨_,M1,ρ1,s1,g1,ItD.rng i (j-i).toNat,q2⟩⟩
 ·exact q1.elim
section
mutual
inductive Bel(k:Nat):D->Prop
 | non:Bel k .non
 | bl (b:Bool):Bel k (.bl b)
 | int (i:Int):Bel k (.int i)
 | str (x:Str):Bel k (.str x)
 | ty (n:String):Bel k (.ty n)
 | tup {ds:List D} (h:Bels k ds):Bel k (.tup ds)
 | ref {n:Nat} (h:n<k):Bel k (.ref n)
inductive Bels(k:Nat):List D->Prop
 | nil:Bels k []
 | cons {d:D}{ds:List D} (h:Bel k d) (t:Bels k ds):Bels k (d::ds)
end
noncomputable def MO.items:MO->List D
 | .lst xs=>xs
 | .fz xs=>xs
 | .kl xs=>xs
 | .dct kvs=>kvs.map (·.2)
 | .dkt kvs=>kvs.map (·.2)
 | .dkq _ kvs=>kvs.map (·.2)
 | .fdc _ kvs=>kvs.map (·.2)
 | .dkm kvs=>kvs.map (·.2)
 | .tb _ _=>[]
 | .exc _ _=>[]
 | .ins _ fs=>fs.map (·.2)
 | .tl _ _ _ _=>[]
theorem Rep.bel{K:AA2}{ρ:List Addr}{H:Hp}{d:D}{v:V}(h:Rep K ρ H d v):Bel ρ.length d :=
 Rep.rec (motive_1:=λd v _=>Bel ρ.length d) (motive_2:=λds vs _=>Bels ρ.length ds) .non .bl .int .str .ty (λ_ _ r=>.tup r) (λh=>.ref (AA3.mp h).1) .nil (λ_ _ h t=>.cons h t) h
theorem Reps.bel{K:AA2}{ρ:List Addr}{H:Hp}{ds:List D}{vs:List V}(h:Reps K ρ H ds vs):Bels ρ.length ds :=
 Reps.rec (motive_1:=λd v _=>Bel ρ.length d) (motive_2:=λds vs _=>Bels ρ.length ds) .non .bl .int .str .ty (λ_ _ r=>.tup r) (λh=>.ref (AA3.mp h).1) .nil (λ_ _ h t=>.cons h t) h
theorem Bel.inv(b:Bel k d):(∀ds,d=.tup ds->Bels k ds)/\∀n,d=.ref n->n<k:=by
 cases b with
 | tup b=>exact⟨(λ_ e=>by injection e with e;exact e ▸ b),(λ_ e=>by cases e)⟩
 | ref b=>exact⟨(λ_ e=>by cases e),(λ_ e=>by injection e with e;exact e ▸ b)⟩
 | _=>exact⟨(λ_ e=>by cases e),(λ_ e=>by cases e)⟩
theorem Bels.inv{k:Nat}{d:D}{ds:List D}(b:Bels k (d::ds)):Bel k d/\Bels k ds:=by
 cases b with
 | cons b c=>exact⟨b,c⟩
theorem Rep.cut{K:AA2}{ρ:List Addr}{H:Hp}{k:Nat}{d:D}{v:V}(h:Rep K ρ H d v):Bel k d->Rep K (ρ.take k) H d v :=
 Rep.rec (motive_1:=λd v _=>Bel k d->Rep K (ρ.take k) H d v) (motive_2:=λds vs _=>Bels k ds->Reps K (ρ.take k) H ds vs) (λ_=>.non) (λb _=>.bl b) (λb _=>.int b) (λb _=>.str b) (λb _=>.ty b) (λh _ r b=>.tup h (r (b.inv.1 _ rfl)))
  (λh b=>.ref (by rw[ABE (b.inv.2 _ rfl)];exact h)) (λ_=>.nil) (λ_ _ h t b=>.cons (h b.inv.1) (t b.inv.2)) h
theorem Reps.cut{K:AA2}{ρ:List Addr}{H:Hp}{k:Nat}{ds:List D}{vs:List V}(h:Reps K ρ H ds vs):Bels k ds->Reps K (ρ.take k) H ds vs :=
 Reps.rec (motive_1:=λd v _=>Bel k d->Rep K (ρ.take k) H d v) (motive_2:=λds vs _=>Bels k ds->Reps K (ρ.take k) H ds vs) (λ_=>.non) (λb _=>.bl b) (λb _=>.int b) (λb _=>.str b) (λb _=>.ty b) (λh _ r b=>.tup h (r (b.inv.1 _ rfl)))
  (λh b=>.ref (by rw[ABE (b.inv.2 _ rfl)];exact h)) (λ_=>.nil) (λ_ _ h t b=>.cons (h b.inv.1) (t b.inv.2)) h
theorem Bel.mono{j k:Nat}(h:j<=k){d:D}(b:Bel j d):Bel k d :=
 Bel.rec (motive_1:=λd _=>Bel k d) (motive_2:=λds _=>Bels k ds) .non .bl .int .str .ty (λ_ b=>.tup b) (λb=>.ref (AAT b h)) .nil (λ_ _ b c=>.cons b c) b
theorem Bels.mono{j k:Nat}(h:j<=k){ds:List D}(b:Bels j ds):Bels k ds :=
 Bels.rec (motive_1:=λd _=>Bel k d) (motive_2:=λds _=>Bels k ds) .non .bl .int .str .ty (λ_ b=>.tup b) (λb=>.ref (AAT b h)) .nil (λ_ _ b c=>.cons b c) b
theorem Bels.of:∀{xs:List D},(∀d∈xs,Bel k d)->Bels k xs
 | [],_=>.nil
 | d::ds,h=>.cons (h d AAG) (Bels.of λe he=>h e (AA8 _ he))
section
variable{K:AA2}{ρ ρ':List Addr}{H H':Hp}{M M':Mem}
theorem uJ:∀(n:Nat) (d:D),kP n d=true->Bel k d:=by
 intro n
 induction n with
 | zero =>
  intro d h
  cases d with
  | str x=>exact .str x
  | int x=>exact .int x
  | _=>cases h
 | succ n ih =>
  intro d h
  cases d with
  | str x=>exact .str x
  | int x=>exact .int x
  | tup ds=>exact .tup (Bels.of λx hx=>ih x (AAO.mp (show ds.all (kP n)=true from h) x hx))
  | _=>cases h
theorem zb(r:Paired (rC K ρ H) kvs xs):Bels ρ.length (kvs.map (·.2)):=by
 induction r with
 | nil=>exact .nil
 | cons q _ ih =>
  obtain⟨_,_,_,v,q4,_⟩:=q
  exact .cons q4.bel ih
theorem za(r:Paired (rC K ρ H) kvs xs)(b:Bels k (kvs.map (·.2))):Paired (rC K (ρ.take k) H) kvs xs:=by
 induction r with
 | nil=>exact .nil
 | cons q _ ih =>
  obtain⟨q1,q2,q3,v,q4,q5⟩:=q
  rw[AAH]at b
  cases b with
  | cons b1 b2=>exact .cons ⟨q1,q2,q3.cut (uJ _ _ q2),v,q4.cut b1,q5⟩ (ih b2)
theorem BH:∀(d:D),keyM d=true->Bel k d
 | .non,_=>.non
 | .tup ks,h=>uJ 8 _ h
 | .bl _,h=>nomatch h
 | .int _,h=>nomatch h
 | .str _,h=>nomatch h
 | .ty _,h=>nomatch h
 | .ref _,h=>nomatch h
theorem Ff(r:Paired (KvM K ρ H) kvs xs):Bels ρ.length (kvs.map (·.2)):=by
 induction r with
 | nil=>exact .nil
 | cons q _ ih =>
  obtain⟨_,_,_,v,q4,_⟩:=q
  exact .cons q4.bel ih
theorem Fe(r:Paired (KvM K ρ H) kvs xs)(b:Bels k (kvs.map (·.2))):Paired (KvM K (ρ.take k) H) kvs xs:=by
 induction r with
 | nil=>exact .nil
 | cons q _ ih =>
  obtain⟨q1,q2,⟨u,q3,q3'⟩,v,q4,q5⟩:=q
  rw[AAH]at b
  cases b with
  | cons b1 b2=>exact .cons ⟨q1,q2,⟨u,q3.cut (BH _ q2),q3'⟩,v,q4.cut b1,q5⟩ (ih b2)
theorem wH.bels(h:wH K ρ H a mo):Bels ρ.length mo.items:=by
 cases mo with
 | lst ds=>obtain⟨vs,_,r⟩:=h;exact r.bel
 | fz ds=>obtain⟨o,vs,_,r⟩:=h;exact r.bel
 | kl ds=>obtain⟨vs,_,r⟩:=h;exact r.bel
 | dct kvs=>obtain⟨vs,_,r⟩:=h;exact r.bel
 | dkt kvs=>obtain⟨_,_,_,xs,_,r⟩:=h;exact zb r
 | dkq _ kvs=>obtain⟨_,_,_,xs,_,r⟩:=h;exact zb r
 | fdc o kvs=>obtain⟨vs,_,r⟩:=h;exact r.bel
 | dkm kvs=>obtain⟨_,_,_,xs,_,r⟩:=h;exact Ff r
 | tb x b=>exact .nil
 | exc x e=>exact .nil
 | ins c fs=>obtain⟨_,_,vs,_,_,r⟩:=h;exact r.bel
 | tl x p q e=>exact .nil
theorem wH.cut(h:wH K ρ H a mo)(b:Bels k mo.items):wH K (ρ.take k) H a mo:=by
 cases mo with
 | lst ds=>obtain⟨vs,e,r⟩:=h;exact⟨vs,e,r.cut b⟩
 | fz ds=>obtain⟨o,vs,e,r⟩:=h;exact⟨o,vs,e,r.cut b⟩
 | kl ds=>obtain⟨vs,e,r⟩:=h;exact⟨vs,e,r.cut b⟩
 | dct kvs=>obtain⟨vs,e,r⟩:=h;exact⟨vs,e,r.cut b⟩
 | dkt kvs=>obtain⟨h1,h2,h3,xs,e,r⟩:=h;exact⟨h1,h2,h3,xs,e,za r b⟩
 | dkq _ kvs=>obtain⟨h1,h2,h3,xs,e,r⟩:=h;exact⟨h1,h2,h3,xs,e,za r b⟩
 | fdc o kvs=>obtain⟨vs,e,r⟩:=h;exact⟨vs,e,r.cut b⟩
 | dkm kvs=>obtain⟨h1,h2,h3,xs,e,r⟩:=h;exact⟨h1,h2,h3,xs,e,Fe r b⟩
 | tb x b=>exact h
 | exc x e=>exact h
 | ins c fs=>obtain⟨C,dx,vs,n,e,r⟩:=h;exact⟨C,dx,vs,n,e,r.cut b⟩
 | tl x p q e=>exact h
theorem Sim.bels(S:Sim K ρ M H){n:Nat}{mo:MO}(e:M[n]?=some mo):Bels M.length mo.items:=by
 obtain⟨a,_,h⟩:=S.get e
 rw[<-S.len]
 exact h.bels
theorem Sim.cut(S:Sim K ρ M H)(k:Nat)(hb:∀(n:Nat) (mo:MO),n<k->M[n]?=some mo->Bels k mo.items):Sim K (ρ.take k) (M.take k) H:=by
 have lt:∀{n:Nat}{a:Addr},(ρ.take k)[n]?=some a->n<k/\ρ[n]?=some a:=λ{n a} e=>by
  have h1:=(AA3.mp e).1
  rw[AAe]at h1
  have h2:n<k:=by lia
  rw[ABE h2]at e
  exact⟨h2,e⟩
 refine⟨λn m a hne e1 e2=>?_,by rw[AAe,AAe,S.len],λn a mo e1 e2=>?_⟩
 ·obtain⟨l1,f1⟩:=lt e1
  obtain⟨l2,f2⟩:=lt e2
  rw[ABE l1,ABE l2]
  exact S.nd n m a hne f1 f2
 ·obtain⟨l1,f1⟩:=lt e1
  rw[ABE l1]at e2
  exact(S.obj n a mo f1 e2).cut (hb n mo l1 e2)
theorem SRep.cut(r:SRep K ρ H S σ)(hl:S'.length=S.length)(h:∀(i:Nat) d,S'[i]?=some (some d)->S[i]?=some (some d)/\Bel k d):SRep K (ρ.take k) H S' σ :=
 ⟨hl.trans r.len,λi d e=>let ⟨e',b⟩:=h i d e;let ⟨v,hv,rv⟩:=r.get i d e';⟨v,hv,rv.cut b⟩⟩
theorem Grow.cut(g:Grow K ρ H ρ' H')(h:ρ.length<=k):Grow K ρ H (ρ'.take k) H':=by
 refine⟨?_,g.tup,g.fr⟩
 obtain⟨t,rfl⟩:=g.pre
 rw[List.take_append]
 rw[ABh h]
 exact AAx _ _
end
inductive FgtS(k:Nat):SD->SD->Prop
 | nil:FgtS k [] []
 | keep {d:D}{S S':SD} (h:Bel k d) (t:FgtS k S S'):FgtS k (some d::S) (some d::S')
 | drop {o:Option D}{S S':SD} (t:FgtS k S S'):FgtS k (o::S) (none::S')
theorem FgtS.len(h:FgtS k S S'):S'.length=S.length:=by
 induction h with
 | nil=>rfl
 | keep _ _ ih=>rw[AAD,AAD,ih]
 | drop _ ih=>rw[AAD,AAD,ih]
theorem FgtS.get(h:FgtS k S S'):∀(i:Nat) d,S'[i]?=some (some d)->S[i]?=some (some d)/\Bel k d:=by
 induction h with
 | nil=>intro i d e;simp at e
 | keep b _ ih =>
  intro i d e
  cases i with
  | zero=>simp at e;subst e;exact⟨rfl,b⟩
  | succ i=>exact ih i d (by simpa using e)
 | drop _ ih =>
  intro i d e
  cases i with
  | zero=>simp at e
  | succ i=>exact ih i d (by simpa using e)
def Fgt(M0:Mem)(P:SD->Mem->Prop)(S:SD)(M:Mem):Prop :=
 P S M\/(∃k S',M0.length<=k/\FgtS k S S'/\(∀(n:Nat) mo,n<k->M[n]?=some mo->Bels k mo.items)/\P S' (M.take k))\/∃S',FgtS M0.length S S'/\M0 <+: M/\P S' M0
theorem AE{α:Type}{l l':List α}(h:l <+: l'):l'.take l.length=l:=by
 obtain⟨t,rfl⟩:=h
 rw[List.take_append_of_le_length (AAC _),ABQ]
theorem SQ.fgt{K:AA2}{ρ:List Addr}{H:Hp}{M0:Mem}{P:SD->Mem->Prop}{σ':St}{H':Hp}(s0:Sim K ρ M0 H)(h:SQ K ρ H (Fgt M0 P) σ' H'):SQ K ρ H P σ' H':=by
 have hk:ρ.length<=M0.length:=by rw[s0.len];exact AAC _
 obtain⟨S',M',ρ',s',g',sr',q'⟩:=h
 rcases q' with q' | ⟨k,S2,h1,h2,h4,q⟩|⟨S2,h2,hp,q⟩
 ·exact⟨S',M',ρ',s',g',sr',q'⟩
 ·exact⟨S2,M'.take k,ρ'.take k,s'.cut k h4,g'.cut (AAp hk h1),sr'.cut h2.len h2.get,q⟩
 ·have sc:=s'.cut M0.length λn mo hn e=>by
   obtain⟨t,rfl⟩:=hp
   rw[AAJ hn]at e
   exact s0.bels e
  rw[AE hp]at sc
  exact⟨S2,M0,ρ'.take M0.length,sc,g'.cut hk,sr'.cut h2.len h2.get,q⟩
def qP(ok:Mem->Prop)(g:DTG)(tb:DTS)(E:DEnds)(k0:Mem):List D->SD->Mem->Prop
 | [],S,M=>ok M/\E.nx S M
 | x::xs,S,M=>ok M/\g x S M λS2 M2=>tb ⟨Fgt k0 (qP ok g tb E k0 xs),E.rt,E.nx,Fgt k0 (qP ok g tb E k0 xs)⟩ S2 M2
def oo(di:DTI)(g:DTG)(tb:DTS):DTS:=λE S M=>di S M λsrc M1=>qP src.ok g tb E M1 src.items S M1
theorem qK{α:Type}{l:List α}{i:Nat}{x:α}(h:l[i]?=some x):l.drop i=x::l.drop (i+1):=by
 obtain⟨hi,e⟩:=AA3.mp h
 rw[List.drop_eq_getElem_cons hi,e]
theorem Br{K:AA2}{di:DTI}{g:DTG}{tb:DTS}(E:Ends)(σ:St)(H:Hp)(h:lowS K (oo di g tb) E σ H):tFor (lowI K di) (lowG K g) (lowS K tb) E σ H:=by
 obtain⟨S,M,ρ,F,s,sr,q,k⟩:=h
 refine⟨S,M,ρ,_,s,sr,q,?_⟩
 rintro J H1 ⟨src,M1,ρ1,s1,g1,it,q1⟩
 have k1:=k.trans g1
 refine⟨λi m τ H2=>∃S2 M2 ρ2,Sim K ρ2 M2 H2/\Grow K ρ1 H1 ρ2 H2/\SRep K ρ2 H2 S2 τ/\i<=src.items.length/\m=src.items.length-i/\qP src.ok g tb F M1 (src.items.drop i) S2 M2,
  ⟨_,S,M1,ρ1,s1,.refl,sr.grow g1,AAV _,rfl,q1⟩,?_⟩
 rintro i m τ H2 ⟨S2,M2,ρ2,s2,g2,sr2,hi,rfl,q2⟩
 by_cases hlt:i<src.items.length
 ·have hx:src.items[i]?=some src.items[i]:=AA5 hlt
  rw[qK hx]at q2
  obtain⟨ok,q3⟩:=(show src.ok M2/\g src.items[i] S2 M2 _ from q2)
  refine .inr ⟨it.go i ρ2 M2 H2 s2 g2 ok hlt,_,λτ' H' z=>z,λx H3 y=>?_⟩
  obtain⟨d,ρ3,hd,s3,g3,r3⟩:=it.yld i ρ2 M2 H2 x H3 s2 g2 ok hlt y
  have ed:d=src.items[i]:=AAW (hd.symm.trans hx)
  subst ed
  refine⟨_,S2,M2,ρ3,_,s3,sr2.grow g3,r3,q3,?_⟩
  rintro τ4 H4 ⟨S4,M4,ρ4,s4,g4,sr4,q4⟩
  have g14:=(g2.trans g3).trans g4
  refine⟨S4,M4,ρ4,_,s4,sr4,q4,?_⟩
  have again:∀τ5 H5,SQ K ρ4 H4 (Fgt M1 (qP src.ok g tb F M1 (src.items.drop (i+1)))) τ5 H5 ->
    ∃m',m' < src.items.length-i/\∃S2 M2 ρ2,Sim K ρ2 M2 H5/\Grow K ρ1 H1 ρ2 H5/\SRep K ρ2 H5 S2 τ5/\i+1<=src.items.length/\m'=src.items.length-(i+1)/\qP src.ok g tb F M1 (src.items.drop (i+1)) S2 M2:=λτ5 H5 z=>by
   obtain⟨S5,M5,ρ5,s5,g5,sr5,q5⟩:=SQ.fgt (ρ:=ρ1) (H:=H1) s1 (SQ.trans g14 z)
   exact⟨_,by lia,S5,M5,ρ5,s5,g5,sr5,hlt,rfl,q5⟩
  exact⟨again,λv H5 z=>k1.rt v H5 (VQ.trans g14 z),λτ5 H5 z=>k1.nx τ5 H5 (SQ.trans g14 z),again⟩
 ·have e:i=src.items.length:=by lia
  subst e
  rw[List.drop_of_length_le (AAC _)]at q2
  obtain⟨ok,q3⟩:=(show src.ok M2/\F.nx S2 M2 from q2)
  exact .inl ⟨it.stop ρ2 M2 H2 s2 g2 ok,k1.nx τ H2 ⟨S2,M2,ρ2,s2,g2,sr2,q3⟩⟩
theorem JX(hi:DI X tg iter di)(hg:DG X tg g)(hb:DSs X body tb)(hp:PassesOwn (model X.prog X.w) X.A X.env X.xe:=by exact PassesOwn.never)(hc:X.calm=true:=by rfl)
  (hs:∀x,foldedSetIterable iter X.env x=pure x:=by intro _;rfl):DS X (.For tg iter body [] pos) (oo di g tb):=PS.imp (HQ hp hc hi hg hb hs) Br
noncomputable def GP(nt:Nat)(js:List Nat)(S:SD):SD:=ADU nt none++js.map λj=>(S[j]?).join
def jo(ok:Mem->Prop)(g:DTG)(tt:DTT)(te:DTE)(Q:DK):List D->List D->SD->Mem->Prop
 | [],acc,S,M=>ok M/\Q (.ref M.length) (M++[.lst acc])
 | x::xs,acc,S,M=>ok M/\g x S M λS2 M2=>tt S2 M2 λb M3=>if b=true then te S2 M3 λy M4=>acc.length<sizeLine/\jo ok g tt te Q xs (acc++[y]) S2 M4 else jo ok g tt te Q xs acc S2 M3
def dLC(nt:Nat)(js:List Nat)(di:DTI)(g:DTG)(tt:DTT)(te:DTE):DTE:=λS M Q=>di S M λsrc M1=>jo src.ok g tt te Q src.items [] (GP nt js S) M1
theorem SRep.bst{K:AA2}{ρ:List Addr}{H:Hp}{S:SD}{σ:St}(r:SRep K ρ H S σ)(nt:Nat)(js:List Nat):SRep K ρ H (GP nt js S) (L2.bst nt js σ):=by
 refine⟨by simp[GP,Af],λi d e=>?_⟩
 unfold GP at e
 unfold L2.bst
 by_cases hi:i<nt
 ·rw[AAJ (by simpa using hi),ACW]at e
  simp[hi]at e
 ·rw[AAi (by simpa using Nat.not_lt.mp hi),ACh,AAU]at e
  rw[AAi (by simpa using Nat.not_lt.mp hi),ACh,AAU]
  cases q:js[i-nt]? with
  | none=>rw[q]at e;cases e
  | some j =>
   rw[q]at e
   have e':(S[j]?).join=some d:=by simpa using e
   cases q2:S[j]? with
   | none=>rw[q2]at e';cases e'
   | some o =>
    rw[q2]at e'
    have e2:o=some d:=e'
    subst e2
    obtain⟨v,hv,rv⟩:=r.get j d q2
    exact⟨v,by simp[hv],rv⟩
theorem yP{K:AA2}{nt:Nat}{js:List Nat}{di:DTI}{g:DTG}{tt:DTT}{te:DTE}(σ:St)(H:Hp)(R:VK)(h:lowE K (dLC nt js di g tt te) σ H R):tLC nt js (lowI K di) (lowG K g) (lowT K tt) (lowE K te) σ H R:=by
 obtain⟨S,M,ρ,Q,s,sr,q,k⟩:=h
 refine⟨S,M,ρ,_,s,sr,q,?_⟩
 rintro J H1 ⟨src,M1,ρ1,s1,g1,it,q1⟩
 refine⟨λi m vs τ H2=>∃S2 M2 ρ2 acc,Sim K ρ2 M2 H2/\Grow K ρ1 H1 ρ2 H2/\SRep K ρ2 H2 S2 τ/\Reps K ρ2 H2 acc vs/\i<=src.items.length/\m=src.items.length-i/\jo src.ok g tt te Q (src.items.drop i) acc S2 M2,
  ⟨_,_,M1,ρ1,[],s1,.refl,(sr.grow g1).bst nt js,.nil,AAV _,rfl,q1⟩,?_⟩
 rintro i m vs τ H2 ⟨S2,M2,ρ2,acc,s2,g2,sr2,ra,hi,rfl,q2⟩
 by_cases hlt:i<src.items.length
 ·have hx:src.items[i]?=some src.items[i]:=AA5 hlt
  rw[qK hx]at q2
  obtain⟨ok,q3⟩:=(show src.ok M2/\g src.items[i] S2 M2 _ from q2)
  refine .inr ⟨it.go i ρ2 M2 H2 s2 g2 ok hlt,λx H3 y=>?_⟩
  obtain⟨d,ρ3,hd,s3,g3,r3⟩:=it.yld i ρ2 M2 H2 x H3 s2 g2 ok hlt y
  have ed:d=src.items[i]:=AAW (hd.symm.trans hx)
  subst ed
  refine⟨_,S2,M2,ρ3,_,s3,sr2.grow g3,r3,q3,?_⟩
  rintro τ4 H4 ⟨S4,M4,ρ4,s4,g4,sr4,q4⟩
  refine⟨S4,M4,ρ4,_,s4,sr4,q4,?_⟩
  rintro b H5 ⟨M5,ρ5,s5,g5,q5⟩
  have g15:=((g2.trans g3).trans g4).trans g5
  cases b with
  | false=>exact bp ⟨_,by lia,S4,M5,ρ5,acc,s5,g15,sr4.grow g5,ra.grow ((g3.trans g4).trans g5),hlt,rfl,(show jo src.ok g tt te Q (src.items.drop (i+1)) acc S4 M5 from q5)⟩
  | true =>
   refine bu ⟨S4,M5,ρ5,_,s5,sr4.grow g5,(show te S4 M5 _ from q5),?_⟩
   rintro v H6 ⟨y',M6,ρ6,s6,g6,r6,hl,q6⟩
   have ra6:=ra.grow (((g3.trans g4).trans g5).trans g6)
   exact⟨by rw[<-ra.length];exact hl,_,by lia,S4,M6,ρ6,acc++[y'],s6,g15.trans g6,sr4.grow (g5.trans g6),ra6.append (.cons r6 .nil),hlt,rfl,q6⟩
 ·have e:i=src.items.length:=by lia
  subst e
  rw[List.drop_of_length_le (AAC _)]at q2
  obtain⟨ok,q3⟩:=(show src.ok M2/\Q (.ref M2.length) (M2++[.lst acc])from q2)
  exact .inl ⟨it.stop ρ2 M2 H2 s2 g2 ok,λp hp=>k _ _ (VQ.laidL s2 (g1.trans g2) ra hp q3)⟩
theorem d_lc(B:BlkSc X N' nt js scope)(hi:DI X tg iter di)
  (hg:∀cl s0 H0 ex,DG (blk X N' scope cl s0 H0 ex) tg g) (ht:∀cl s0 H0 ex,PTs (blk X N' scope cl s0 H0 ex) ifs (lowT X.K tt)) (he:∀cl s0 H0 ex,DE (blk X N' scope cl s0 H0 ex) elt te) (hc:X.calm=true:=by rfl)
  (hs:∀x,foldedSetIterable iter X.env x=pure x:=by intro _;rfl):DE X (.ListComp elt [⟨tg,iter,ifs,0⟩] scope pos) (dLC nt js di g tt te):=PE.imp (pe_lc (g:=lowG X.K g) (tt:=lowT X.K tt) (te:=lowE X.K te) B hc hi (λcl s0 H0 ex=>hg cl s0 H0 ex) ht (λcl s0 H0 ex=>he cl s0 H0 ex) hs) yP
def jm:DTT:=λ_ M Q=>Q true M
theorem Ge:PTs X [] (lowT X.K jm):=λpins s σ H R I ⟨S,M,ρ,Q,sm,sr,q,k⟩=>Ef pins s σ H R I (k true H ⟨M,ρ,sm,.refl,q⟩)
theorem Gd(h:DT X c t):PTs X [c] (lowT X.K t):=Ee h
def Chg(M M1:Mem):Prop:=M1.length=M.length/\∀(i:Nat) (mo:MO),M1[i]?=some mo->M[i]?=some mo\/Bels M.length mo.items
theorem Chg.refl:Chg M M:=⟨rfl,λ_ _ h=>.inl h⟩
theorem Chg.set(c:Chg M M1)(b:Bels M.length mo.items):Chg M (M1.set n mo):=by
 refine⟨by rw[AAa];exact c.1,λi mo' h=>?_⟩
 by_cases e:n=i
 ·subst e
  by_cases hl:n<M1.length
  ·rw[ABD hl]at h
   cases h
   exact .inr b
  ·rw[ACB (by rw[AAa];lia)]at h
   cases h
 ·rw[AAq e]at h
  exact c.2 i mo' h
def aI(M:Mem)(R:DK):DK:=λd M'=>R d M'\/(∃M1,Chg M M1/\Bel M.length d/\M1 <+: M'/\R d M1)\/∃M1 n xs,Chg M M1/\d=.ref n/\M.length<=n/\M'[n]?=some (.lst xs)/\M1 <+: M'/\Bels M.length xs/\R (.ref M.length) (M1++[.lst xs])
theorem cW{α:Type}{l l':List α}(h:l <+: l'):l'.take l.length=l:=by
 obtain⟨t,rfl⟩:=h
 rw[List.take_append_of_le_length (AAC _),ABQ]
theorem VQ.endq{K:AA2}{ρ:List Addr}{M:Mem}{H:Hp}{R:DK}{v:V}{H':Hp}(s:Sim K ρ M H)(h:VQ K ρ H (aI M R) v H'):VQ K ρ H R v H':=by
 obtain⟨d,M',ρ',s',g',r',q'⟩:=h
 have hρ:ρ'.take M.length=ρ:=by rw[<-s.len];exact cW g'.pre
 rcases q' with q | ⟨M1,c,b,pre,q⟩|⟨M1,n,xs,c,rfl,hnM,e,pre,b,q⟩
 ·exact⟨d,M',ρ',s',g',r',q⟩
 ·have sc:=s'.cut M.length λn mo hn e=>by
   have e':M1[n]?=some mo:=by
    obtain⟨t,rfl⟩:=pre
    rw[AAJ (by rw[c.1];exact hn)]at e
    exact e
   exact(c.2 n mo e').elim (λz=>s.bels z) id
  have tk:M'.take M.length=M1:=by rw[<-c.1];exact cW pre
  rw[hρ,tk]at sc
  have rc:=r'.cut b
  rw[hρ]at rc
  exact⟨d,M1,ρ,sc,⟨ADr,g'.tup,g'.fr⟩,rc,q⟩
 ·have sc:=s'.cut M.length λn mo hn e=>by
   have e':M1[n]?=some mo:=by
    obtain⟨t,rfl⟩:=pre
    rw[AAJ (by rw[c.1];exact hn)]at e
    exact e
   exact(c.2 n mo e').elim (λz=>s.bels z) id
  have tk:M'.take M.length=M1:=by rw[<-c.1];exact cW pre
  rw[hρ,tk]at sc
  obtain⟨a,rfl,hn⟩:=Rep.inv_ref r'
  obtain⟨vs,hH,rr⟩:=s'.obj n a _ hn e
  have rc:=rr.cut b
  rw[hρ]at rc
  have g2:Grow K ρ H' (ρ++[a]) H':=⟨AAx _ _,λ_ _ h=>h,λ_ _ h=>h⟩
  have old:∀(m:Nat),ρ[m]?=some a->isK M1[m]?:=λm em=>by
   have hm:m≠n:=λz=>by
    have:m<M.length:=by rw[<-s.len];exact(AA3.mp em).1
    lia
   have q:=s'.nd m n a hm (aK g'.pre em) hn
   have hlt:m<M.length:=by rw[<-s.len];exact(AA3.mp em).1
   rcases q with⟨ds,z⟩|⟨ds,z⟩
   ·refine⟨ds,?_⟩
    have hlt1:m<M1.length:=by rw[c.1];exact hlt
    have:=aK pre (AA5 hlt1)
    rw[z]at this
    rw[AA5 hlt1]
    exact this.symm
   ·rw[e]at z;cases z
  refine⟨.ref M.length,M1++[.lst xs],ρ++[a],⟨λn1 m1 a1 hne e1 e2=>?_,by rw[AA9,AA9,sc.len];rfl,λn1 a1 mo e1 e2=>?_⟩,⟨AAx _ _,g'.tup,g'.fr⟩,.ref (by have:=sc.last (p:=a);rw[c.1]at this;exact this),q⟩
  ·rcases bH e1 with f1 | ⟨f1,w1⟩
   ·rcases bH e2 with f2 | ⟨f2,w2⟩
    ·exact(sc.nd n1 m1 a1 hne f1 f2).elim (λz=>.inl z.more) λz=>.inr z.more
    ·subst w2
     exact .inl (old n1 f1).more
   ·rcases bH e2 with f2 | ⟨f2,w2⟩
    ·subst w1
     exact .inr (old m1 f2).more
    ·exact absurd (f1.trans f2.symm) hne
  ·rcases bH e1 with f1 | ⟨f1,w1⟩
   ·have hn1:n1<M1.length:=by rw[<-sc.len];exact(AA3.mp f1).1
    rw[AAJ hn1]at e2
    exact(sc.obj n1 a1 mo f1 e2).grow g2 (.inl rfl)
   ·subst w1 f1
    rw[sc.len,AAi (AAC _),ABu]at e2
    simp at e2
    subst e2
    exact⟨vs,hH,rc.grow g2⟩
noncomputable def bL(N:List Str)(ds:List D):SD:=ds.map some++ADU (N.length-ds.length) none
theorem SRep.start{K:AA2}{ρ:List Addr}{H:Hp}{ds:List D}{vs:List V}(r:Reps K ρ H ds vs)(N:List Str):SRep K ρ H (bL N ds) (L2.start N vs):=by
 refine⟨by simp[bL,L2.start,r.length],λi d e=>?_⟩
 unfold bL at e
 unfold L2.start
 by_cases hi:i<ds.length
 ·rw[AAJ (by simpa using hi),AAU]at e
  rw[AAJ (by simpa [<-r.length]using hi),AAU]
  have e':ds[i]?=some d:=by
   rw[AA5 hi]at e ⊢
   simpa using e
  obtain⟨v,hv,rv⟩:=r.get e'
  exact⟨v,by rw[hv];rfl,rv⟩
 ·rw[AAi (by simpa using Nat.not_lt.mp hi),ACW]at e
  split at e<;>cases e
theorem d_fn{P:Program}{w:World}{K:AA2}{mg:Str->Option Value}{base:Heap}{x qual:Str}{st:Stmt}{f:Addr}{fd:FuncData}{N ps:List Str}{k:Nat}(Pr:DSp)(F:Fun K x qual st f fd)(Sc:FnScope N ps (aw st))
  (len:∀ds M R,Pr ds M R->ds.length=ps.length)
  (hbody:∀(cdv:Value) (A:Around) (outer:List Env) (s:Shared) (H:Hp) (E:XK),Room k (A.deeper (envOfC qual (aw st) s.heap.objs.size f cdv)) ->
   ∃t,DSs (wK CX0 P w K mg base N qual (aw st) f cdv A outer s H E).nox (bj st) t/\∀ds M R,Pr ds M R->t ⟨λ_ M'=>aI M R .non M',aI M R,λ_ _=>False,λ_ _=>False⟩ (bL N ds) M) :
  FnOk P w K mg base CX0 (k+1) f fd ps (spL K Pr):=by
 refine F.ok Sc (λvs H Q E ⟨ds,M,ρ,R,s,r,q,_⟩=>by rw[<-r.length];exact len ds M R q) λcdv A outer s H vs Q E hr h=>?_
 obtain⟨ds,M,ρ,R,sm,r,q,kk⟩:=h
 obtain⟨t,ht,hq⟩:=hbody cdv A outer s H E hr
 refine⟨lowS K t,ht,bL N ds,M,ρ,_,sm,SRep.start r N,hq ds M R q,⟨λσ' H' ⟨S',M',ρ',s',g',sr',q'⟩=>?_,λv H' z=>kk v H' (VQ.endq sm z),λσ' H' ⟨S',M',ρ',s',g',sr',q'⟩=>q'.elim,λσ' H' ⟨S',M',ρ',s',g',sr',q'⟩=>q'.elim⟩⟩
 exact kk .non H' (VQ.endq sm ⟨.non,M',ρ',s',g',.non,q'⟩)
end
theorem dfin(I:Inv X pins σ H s)(sm:Sim X.K ρ M H)(k:∀v H',VQ X.K ρ H Q v H'->R v H')(hv:cV d=some v)(rel:aU v u)(q:Q d M):EP X pins σ R u s :=
 ⟨v,H,I,rel,k v H (VQ.now sm (Ad hv) q)⟩
theorem eB(I:Inv X pins σ H s)(sm:Sim X.K ρ M H)(k:∀v H',VQ X.K ρ H Q v H'->R v H')(q:Q (.bl b) M):EP X pins σ R (.bool b) s :=
 ⟨.bl b,H,I,rfl,k _ H (VQ.now sm (.bl b) q)⟩
def qAdd:DR2:=λx y M Q=>match x,y with
 | .int i,.int j=>Q (.int (i+j)) M
 | .str a,.str b=>a.length+b.length<=sizeLine/\Q (.str (a++b)) M
 | .ref n,.ref m=>∃xs ys,M[n]?=some (.lst xs)/\M[m]?=some (.lst ys)/\xs.length+ys.length<=sizeLine/\Q (.ref M.length) (M++[.lst (xs++ys)])
 | _,_=>False
theorem IJ:OpD X (binaryOp .Add) qAdd:=by
 refine OpR.imp (IA.or (vN.or Iz)) ?_
 rintro vx vy H R ⟨x,y,M,ρ,Q,sm,r1,r2,q,k⟩
 unfold qAdd at q
 split at q
 ·cases r1
  cases r2
  exact .inl ⟨_,_,rfl,rfl,k _ H (VQ.now sm (.int _) q)⟩
 ·cases r1
  cases r2
  exact .inr (.inl ⟨_,_,rfl,rfl,q.1,k _ H (VQ.now sm (.str _) q.2)⟩)
 ·obtain⟨xs,ys,e1,e2,hl,q⟩:=q
  obtain⟨_,rfl,h1⟩:=Rep.inv_ref r1
  obtain⟨_,rfl,h2⟩:=Rep.inv_ref r2
  obtain⟨vs,f1,g1⟩:=sm.obj _ _ _ h1 e1
  obtain⟨ws,f2,g2⟩:=sm.obj _ _ _ h2 e2
  exact .inr (.inr ⟨_,_,vs,ws,rfl,rfl,f1,f2,by rw[<-g1.length,<-g2.length];exact hl,λp hp=>k _ _ (VQ.laidL sm .refl (g1.append g2) hp q)⟩)
 ·exact q.elim
def AN:DR2:=λx y M Q=>match x,y with
 | .int i,.int j=>Q (.int (i-j)) M
 | _,_=>False
theorem IE:OpD X (binaryOp .Sub) AN:=by
 refine OpR.imp Iu ?_
 rintro vx vy H R ⟨x,y,M,ρ,Q,sm,r1,r2,q,k⟩
 unfold AN at q
 split at q
 ·cases r1
  cases r2
  exact⟨_,_,rfl,rfl,k _ H (VQ.now sm (.int _) q)⟩
 ·exact q.elim
def KG(i j:Int):Prop:=0<j/\j<340282366920938463463374607431768211456
theorem Be:OpR X (binaryOp .FloorDiv) (rI KG λi j=>.int (i / j)):=opI λi j _ _ _ _ _ hc q=>by
 have h1:(0:Int)<j:=hc.1
 have h2:j<340282366920938463463374607431768211456:=hc.2
 have h3:j.natAbs.log2<128:=(Nat.log2_lt (by lia)).mpr (by rw[show (2:Nat) ^ 128=340282366920938463463374607431768211456 by decide];lia)
 exact floordiv_int (by lia) (by rw[Int.fdiv_eq_ediv_of_nonneg i (by lia)];exact q) (.inl (PyProof.noPylong_of_log2 (by lia)))
def mV:DR2:=λx y M Q=>match x,y with
 | .int i,.int j=>KG i j/\Q (.int (i / j)) M
 | _,_=>False
theorem EN:OpD X (binaryOp .FloorDiv) mV:=by
 refine OpR.imp Be ?_
 rintro vx vy H R ⟨x,y,M,ρ,Q,sm,r1,r2,q,k⟩
 unfold mV at q
 split at q
 ·cases r1
  cases r2
  exact⟨_,_,rfl,rfl,q.1,k _ H (VQ.now sm (.int _) q.2)⟩
 ·exact q.elim
def vK:DR2:=λx y M Q=>match x,y with
 | .int i,.int j=>0<j/\Q (.int (i % j)) M
 | _,_=>False
theorem IG:OpD X (binaryOp .Mod) vK:=by
 refine OpR.imp Iy ?_
 rintro vx vy H R ⟨x,y,M,ρ,Q,sm,r1,r2,q,k⟩
 unfold vK at q
 split at q
 ·cases r1
  cases r2
  exact⟨_,_,rfl,rfl,q.1,k _ H (VQ.now sm (.int _) q.2)⟩
 ·exact q.elim
noncomputable def bv(a b:Str):Bool:=decide (a.cps.toList<b.cps.toList)
def qLt:DR2:=λx y M Q=>match x,y with
 | .int i,.int j=>Q (.bl (decide (i<j))) M
 | .str a,.str b=>Q (.bl (bv a b)) M
 | _,_=>False
def qLe:DR2:=λx y M Q=>match x,y with
 | .int i,.int j=>Q (.bl (decide (i<=j))) M
 | .str a,.str b=>Q (.bl (!bv b a)) M
 | _,_=>False
def qGt:DR2:=λx y M Q=>match x,y with
 | .int i,.int j=>Q (.bl (decide (j<i))) M
 | .str a,.str b=>Q (.bl (bv b a)) M
 | _,_=>False
def qGe:DR2:=λx y M Q=>match x,y with
 | .int i,.int j=>Q (.bl (decide (j<=i))) M
 | .str a,.str b=>Q (.bl (!bv a b)) M
 | _,_=>False
theorem II:OpD X (compareOp .Lt) qLt:=by
 rintro pins s σ H vx vy v u R I rx ry ⟨x,y,M,ρ,Q,sm,r1,r2,q,k⟩
 unfold qLt at q
 split at q
 ·cases r1
  cases r2
  exact op_lt pins s σ H _ _ v u R I rx ry ⟨_,_,rfl,rfl,k _ H (VQ.now sm (.bl _) q)⟩
 ·cases r1
  cases r2
  obtain⟨t,rfl⟩:=rx
  obtain⟨t',rfl⟩:=ry
  exact PySem.P.lt_str (eB I sm k q)
 ·exact q.elim
theorem od_le:OpD X (compareOp .LtE) qLe:=by
 rintro pins s σ H vx vy v u R I rx ry ⟨x,y,M,ρ,Q,sm,r1,r2,q,k⟩
 unfold qLe at q
 split at q
 ·cases r1
  cases r2
  exact op_le pins s σ H _ _ v u R I rx ry ⟨_,_,rfl,rfl,k _ H (VQ.now sm (.bl _) q)⟩
 ·cases r1
  cases r2
  obtain⟨t,rfl⟩:=rx
  obtain⟨t',rfl⟩:=ry
  exact PySem.P.le_str (eB I sm k q)
 ·exact q.elim
theorem od_gt:OpD X (compareOp .Gt) qGt:=by
 rintro pins s σ H vx vy v u R I rx ry ⟨x,y,M,ρ,Q,sm,r1,r2,q,k⟩
 unfold qGt at q
 split at q
 ·cases r1
  cases r2
  exact op_gt pins s σ H _ _ v u R I rx ry ⟨_,_,rfl,rfl,k _ H (VQ.now sm (.bl _) q)⟩
 ·cases r1
  cases r2
  obtain⟨t,rfl⟩:=rx
  obtain⟨t',rfl⟩:=ry
  exact PySem.P.gt_str (eB I sm k q)
 ·exact q.elim
theorem od_ge:OpD X (compareOp .GtE) qGe:=by
 rintro pins s σ H vx vy v u R I rx ry ⟨x,y,M,ρ,Q,sm,r1,r2,q,k⟩
 unfold qGe at q
 split at q
 ·cases r1
  cases r2
  exact op_ge pins s σ H _ _ v u R I rx ry ⟨_,_,rfl,rfl,k _ H (VQ.now sm (.bl _) q)⟩
 ·cases r1
  cases r2
  obtain⟨t,rfl⟩:=rx
  obtain⟨t',rfl⟩:=ry
  exact PySem.P.ge_str (eB I sm k q)
 ·exact q.elim
def qIs:DR2:=λx y M Q=>match x,y with
 | .bl a,.bl b=>Q (.bl (a==b)) M
 | .non,.non=>Q (.bl true) M
 | _,.non=>Q (.bl false) M
 | _,_=>False
theorem DZ{K:AA2}{ρ:List Addr}{H:Hp}{x:D}{v:V}(r:Rep K ρ H x v)(h:x≠.non):v≠.non:=by
 cases r<;>first | exact absurd rfl h | (intro z;cases z)
theorem od_is:OpD X (compareOp .Is) qIs:=by
 rintro pins s σ H vx vy v u R I rx ry ⟨x,y,M,ρ,Q,sm,r1,r2,q,k⟩
 unfold qIs at q
 split at q
 ·cases r1
  cases r2
  cases rx
  cases ry
  exact is_bool (eB I sm k q)
 ·cases r1
  cases r2
  cases rx
  cases ry
  exact is_none_gen (dfin (d:=.bl true) I sm k rfl rfl q)
 ·rename_i h1 h2
  cases r2
  cases ry
  refine is_none_gen (dfin (d:=.bl false) I sm k rfl ?_ q)
  have:=DZ r1 λz=>by subst z;exact h2 rfl
  rw[rx.none_iff,dF_ this]
  rfl
 ·exact q.elim
noncomputable def tyD(M:Mem):D->String
 | .non=>"NoneType"
 | .bl _=>"bool"
 | .int _=>"int"
 | .str _=>"str"
 | .ty _=>"type"
 | .tup _=>"tuple"
 | .ref n=>match M[n]? with
  | some mo=>if mo.isL=true then "list" else "?"
  | none=>"?"
noncomputable def oj(t T:String):Bool:=t==T||(t == "bool" && T == "int")
noncomputable def lA:List String:=["NoneType","bool","int","str","list","tuple"]
noncomputable def GY:List String:=["bool","int","str","list","tuple"]
theorem Fm(K:AA2)(ht:t∈lA)(hT:T∈GY):AEA K (.type t) (.type T)=some (oj t T):=by
 simp only[lA,GY,AAF,AB2,or_false]at ht hT
 rcases ht with rfl | rfl | rfl | rfl | rfl | rfl<;>rcases hT with rfl | rfl | rfl | rfl | rfl<;>kernel_rfl
theorem Dm(I:Inv X pins σ H s)(sm:Sim X.K ρ M H)(r:Rep X.K ρ H d v)(rv:aU v u)(hd:tyD M d∈lA)
  (step:∀(Hx:Heap->Prop),PySem.W.KitX X.K u (.type (tyD M d)) Hx->Hx s.heap->u≠.builtin "__main__.__loader__#opaque"->wpAny (model X.prog X.w) X.A (call (.builtin "isinstance") [u,c]) Q X.xe s):wpAny (model X.prog X.w) X.A (call (.builtin "isinstance") [u,c]) Q X.xe s:=by
 cases r with
 | non=>cases rv;exact step _ PySem.W.kitx_none ACL (λz=>nomatch z)
 | bl y=>cases rv;exact step _ PySem.W.kitx_bool ACL (λz=>nomatch z)
 | int i=>obtain⟨t,rfl⟩:=rv;exact step _ PySem.W.kitx_int ACL (λz=>nomatch z)
 | str i=>obtain⟨t,rfl⟩:=rv;exact step _ PySem.W.kitx_str ACL (λz=>nomatch z)
 | ty n=>exact absurd hd (by simp only[tyD];decide)
 | tup h rr =>
  cases rv
  obtain⟨its,_,⟨o,h1,h2,_⟩,_⟩:=I.tuple h
  exact step _ PySem.W.kitx_tuple ⟨o,h1,h2⟩ (λz=>nomatch z)
 | @ref n a e =>
  cases rv
  have hn:n<M.length:=by rw[<-sm.len];exact(AA3.mp e).1
  have hm:M[n]?=some M[n]:=AA5 hn
  have hd':(match M[n]? with | some mo=>if mo.isL=true then "list" else "?" | none=>"?")∈lA:=hd
  rw[hm]at hd'
  have hil:M[n].isL=true:=by
   cases q:M[n].isL with
   | true=>rfl
   | false =>
    simp only[q,AAZ,if_false]at hd'
    exact absurd hd' (by decide)
  have hL:ao M n M[n].items:=by
   cases q:M[n] with
   | lst xs=>exact .inl (by rw[hm,q];rfl)
   | fz xs=>exact .inr (.inl (by rw[hm,q];rfl))
   | kl xs=>exact .inr (.inr (by rw[hm,q];rfl))
   | dct xs=>rw[q]at hil;cases hil
   | dkt xs=>rw[q]at hil;cases hil
   | dkq _ xs=>rw[q]at hil;cases hil
   | fdc o xs=>rw[q]at hil;cases hil
   | dkm xs=>rw[q]at hil;cases hil
   | tb x b=>rw[q]at hil;cases hil
   | exc x e=>rw[q]at hil;cases hil
   | ins c fs=>rw[q]at hil;cases hil
   | tl x p q' e=>rw[q]at hil;cases hil
  obtain⟨vs,hq,_⟩:=ao.seq sm hL e
  obtain⟨its,_,⟨o,n',h1,h2,_⟩,_⟩:=I.list hq
  have ht:tyD M (.ref n) = "list":=by
   show (match M[n]? with | some mo=>if mo.isL=true then "list" else "?" | none=>"?") = "list"
   rw[hm]
   exact if_pos hil
  rw[ht]at step
  exact step _ PySem.W.kitx_list ⟨o,h1,h2⟩ (λz=>nomatch z)
def pS:DRA:=λds M Q=>match ds with
 | [d,.ty T]=>(tyD M d∈lA/\T∈GY)/\Q (.bl (oj (tyD M d) T)) M
 | [d,.tup [.ty T,.ty T']]=>(tyD M d∈lA/\T∈GY/\T'∈GY)/\Q (.bl (oj (tyD M d) T||oj (tyD M d) T')) M
 | _=>False
theorem Ko:hZ X (.builtin "isinstance") pS:=by
 rintro pins s σ H vs us R I rv ⟨ds,M,ρ,Q,sm,rs,q,k⟩
 unfold pS at q
 split at q
 ·rename_i d T
  obtain⟨⟨h1,h2⟩,q⟩:=q
  first | have hzz:=Reps.inv_cons rs | have hzz:=az.inv_cons rs
  clear rs
  obtain⟨_,_,rfl,r1,rs⟩:=hzz
  first | have hzz:=Reps.inv_cons rs | have hzz:=az.inv_cons rs
  clear rs
  obtain⟨_,_,rfl,r2,rs⟩:=hzz
  cases rs
  cases r2
  obtain⟨u,u',rfl,e1,e2⟩:=az.two rv
  cases e2
  refine Dm I sm r1 e1 h1 λHx Z p hx=>?_
  exact PySem.W.kia_one Z I.kIn p (Fm X.K h1 h2) hx λtk=>eB (I.tok tk) sm k q
 ·rename_i d T T'
  obtain⟨⟨h1,h2,h3⟩,q⟩:=q
  first | have hzz:=Reps.inv_cons rs | have hzz:=az.inv_cons rs
  clear rs
  obtain⟨_,_,rfl,r1,rs⟩:=hzz
  first | have hzz:=Reps.inv_cons rs | have hzz:=az.inv_cons rs
  clear rs
  obtain⟨_,_,rfl,r2,rs⟩:=hzz
  cases rs
  obtain⟨u,u',rfl,e1,e2⟩:=az.two rv
  obtain⟨a,ws,rfl,hq,rt⟩:=Rep.inv_tup r2
  cases e2
  obtain⟨its,rr,⟨o,g1,g2,n,g3⟩,_⟩:=I.tuple hq
  first | have hzz:=Reps.inv_cons rt | have hzz:=az.inv_cons rt
  clear rt
  obtain⟨_,_,rfl,t1,rt⟩:=hzz
  first | have hzz:=Reps.inv_cons rt | have hzz:=az.inv_cons rt
  clear rt
  obtain⟨_,_,rfl,t2,rt⟩:=hzz
  cases rt
  cases t1
  cases t2
  obtain⟨w1,w2,rfl,f1,f2⟩:=az.two rr
  cases f1
  cases f2
  obtain⟨oc,od,odt,osl⟩:=o
  cases g2
  cases g3
  refine Dm I sm r1 e1 h1 λHx Z p hx=>?_
  refine PySem.W.kia_tup Z I.kIn p g1 (b:=oj (tyD M d) T||oj (tyD M d) T') ?_ hx λtk=>eB (I.tok tk) sm k q
  show (match AEA X.K (.type (tyD M d)) (.type T)with | some true=>some true | some false=>PySem.W.kitAny X.K (.type (tyD M d)) [.type T'] | none=>none)=_
  rw[Fm X.K h1 h2]
  cases oj (tyD M d) T with
  | true=>rfl
  | false =>
   show (match AEA X.K (.type (tyD M d)) (.type T')with | some true=>some true | some false=>some false | none=>none)=_
   rw[Fm X.K h1 h3]
   cases oj (tyD M d) T'<;>rfl
 ·exact q.elim
def eP:DRA:=λds M Q=>match ds with
 | [.str x]=>x.length<=sizeLine/\Q (.int x.length) M
 | [.tup xs]=>Q (.int xs.length) M
 | [.ref n]=>∃xs,ao M n xs/\Q (.int xs.length) M
 | _=>False
theorem Kn:hZ X (.builtin "len") eP:=by
 refine fb.imp (qU.or qT) ?_
 rintro vs H R ⟨ds,M,ρ,Q,sm,rs,q,k⟩
 unfold eP at q
 split at q
 ·first | have hzz:=Reps.inv_cons rs | have hzz:=az.inv_cons rs
  clear rs
  obtain⟨_,_,rfl,r1,rs⟩:=hzz
  cases rs
  cases r1
  exact .inr ⟨_,rfl,q.1,k _ H (VQ.now sm (.int _) q.2)⟩
 ·first | have hzz:=Reps.inv_cons rs | have hzz:=az.inv_cons rs
  clear rs
  obtain⟨_,_,rfl,r1,rs⟩:=hzz
  cases rs
  cases r1 with
  | tup h r=>exact .inl ⟨_,_,rfl,.inr h,k _ H (VQ.now sm (by rw[<-r.length];exact .int _) q)⟩
 ·obtain⟨xs,hL,q⟩:=q
  first | have hzz:=Reps.inv_cons rs | have hzz:=az.inv_cons rs
  clear rs
  obtain⟨_,_,rfl,r1,rs⟩:=hzz
  cases rs
  obtain⟨_,rfl,e⟩:=Rep.inv_ref r1
  obtain⟨ws,hq,r⟩:=ao.seq sm hL e
  exact .inl ⟨_,_,rfl,.inl hq,k _ H (VQ.now sm (by rw[<-r.length];exact .int _) q)⟩
 ·exact q.elim
noncomputable def bls(bs:List Bool):List D:=bs.map .bl
theorem Reps.bls{K:AA2}{ρ:List Addr}{H:Hp}:∀{bs:List Bool}{vs:List V},Reps K ρ H (L2.bls bs) vs->vs=bs.map V.bl
 | [],_,h=>by cases h;rfl
 | b::bs,_,h=>by
  cases h with
  | cons r t =>
   cases r
   rw[Reps.bls t]
   rfl
theorem tF:∀{bs:List Bool}{us:List Value},az (bs.map V.bl) us->us=bs.map ADj
 | [],_,h=>by cases h;rfl
 | b::bs,_,h=>by
  cases h with
  | cons r t =>
   cases r
   rw[tF t]
   rfl
theorem mI{pins:List (Addr×Obj)}{σ:St}{H:Hp}{s:Shared}{a:Addr}{bs:List Bool}{G:Shared->Prop}(I:Inv X pins σ H s)(hc:X.calm=true)(hq:SqL X.K H a (bs.map V.bl))(fin:∀s',Inv X pins σ H s'->G s') :
  ∀(E:Value->Shared->Prop),wpAny (model X.prog X.w) X.A.in1 (pyIter (.ref a)) (λit s₂=>∃I fp wr n P St tr,it=AB3 I/\Walks X.prog X.w X.A.in1 I fp wr n P St/\St 0 s₂.heap/\TruthOf X.prog X.w X.A.in1 P tr /\
   (n=bs.length/\(∀i,i<bs.length->tr i=bs.getD i false))/\∀h' tk,(∀b o,b∉wr->s₂.heap.get? b=some o->h'.get? b=some o)->G { s₂ with heap:=h',toks:=tk }) E s:=by
 intro E
 obtain⟨its,rr,p,hz⟩:=I.list hq
 have eits:=tF rr
 subst eits
 have hl:=p.isList
 have hlt:a<s.heap.objs.size:=by obtain⟨o,n,e,_⟩:=p;exact AAM e
 refine ADO hl ?_
 have I1:Inv X pins σ H { s with heap:=s.heap.push { cls:=.type "list_iterator",data:=.fields #[.ref a,.int 0 0] } }:=I.kept (t':=s.toks) λb o e=>AA6 _ e
 refine⟨s.heap.objs.size,_,_,_,_,_,λi=>bs.getD i false,rfl,Walks.list (A:=X.A.in1) (I.ok.hd hc) s.heap.objs.size a (AAQ hlt) (bs.map ADj).toArray,⟨⟨_,AAE _ rfl,rfl,rfl⟩,hl.push _⟩,?_,⟨by simp,λi _=>rfl⟩,λh' tk kk=>?_⟩
 ·intro i v s' Q' E' hP hQ
  have hP':(bs.map ADj).toArray[i]?=some v:=hP
  rw[ADW,AAU]at hP'
  cases e:bs[i]? with
  | none=>rw[e]at hP';cases hP'
  | some b =>
   rw[e]at hP'
   cases hP'
   refine ABv ?_
   have:bs.getD i false=b:=by rw[AAK,e];rfl
   have hQ':Q' (bs.getD i false) s':=hQ
   rw[this]at hQ'
   exact hQ'
 ·have f:=I.fpOk (H':=H) (AAC _) (I.hok.fresh (AAC _))
  obtain⟨f0,f1,f2,f3,f4,f5⟩:=f
  exact fin _ (I1.turned (t':=tk) (it:=s.heap.objs.size) (λb o hb e=>kk b o (by simpa using hb) e) f0 f1 f3 f4 f5)
theorem Al{bs:List Bool}{tr:Nat->Bool}(h:∀i,i<bs.length->tr i=bs.getD i false):(AAg bs.length).all tr=bs.all id:=by
 rw[AC0,AAO,AAO]
 constructor
 ·intro g b hb
  obtain⟨i,hi,e⟩:=List.mem_iff_getElem.mp hb
  have:=g i (ABK.mpr hi)
  rw[h i hi,AAK,AA5 hi]at this
  rw[<-e]
  exact this
 ·intro g i hi
  have hi':=ABK.mp hi
  rw[h i hi',AAK,AA5 hi']
  exact g _ (AAf hi')
theorem Aj{bs:List Bool}{tr:Nat->Bool}(h:∀i,i<bs.length->tr i=bs.getD i false):(AAg bs.length).any tr=bs.any id:=by
 rw[AC0,ABo,ABo]
 constructor
 ·rintro⟨i,hi,g⟩
  have hi':=ABK.mp hi
  rw[h i hi',AAK,AA5 hi']at g
  exact⟨_,AAf hi',g⟩
 ·rintro⟨b,hb,g⟩
  obtain⟨i,hi,e⟩:=List.mem_iff_getElem.mp hb
  refine⟨i,ABK.mpr hi,?_⟩
  rw[h i hi,AAK,AA5 hi,e]
  exact g
def Ao:DRA:=λds M Q=>match ds with
 | [.ref n]=>∃bs,ao M n (bls bs)/\Q (.bl (bs.all id)) M
 | _=>False
def HH:DRA:=λds M Q=>match ds with
 | [.ref n]=>∃bs,ao M n (bls bs)/\Q (.bl (bs.any id)) M
 | _=>False
theorem Kq(hc:X.calm=true:=by rfl):hZ X (.builtin "all") Ao:=by
 rintro pins s σ H vs us R I rv ⟨ds,M,ρ,Q,sm,rs,q,k⟩
 unfold Ao at q
 split at q
 ·obtain⟨bs,hL,q⟩:=q
  first | have hzz:=Reps.inv_cons rs | have hzz:=az.inv_cons rs
  clear rs
  obtain⟨_,_,rfl,r1,rs⟩:=hzz
  cases rs
  obtain⟨u,rfl,e1⟩:=az.one rv
  obtain⟨_,rfl,e⟩:=Rep.inv_ref r1
  cases e1
  obtain⟨ws,hq,r⟩:=ao.seq sm hL e
  rw[r.bls]at hq
  refine call_all_walk (thn (mI (G:=λs'=>EP X pins σ R (.bool (bs.all id)) s') I hc hq (λs' I'=>eB I' sm k q) _) ?_)
  rintro it s2 ⟨J,fp,wr,n,P,Sx,tr,e1,W,st,T,⟨en,et⟩,fin⟩
  subst en
  exact⟨J,fp,wr,_,P,Sx,tr,e1,W,st,T,λh' tk kk=>by rw[Al et];exact fin h' tk kk⟩
 ·exact q.elim
theorem Kp(hc:X.calm=true:=by rfl):hZ X (.builtin "any") HH:=by
 rintro pins s σ H vs us R I rv ⟨ds,M,ρ,Q,sm,rs,q,k⟩
 unfold HH at q
 split at q
 ·obtain⟨bs,hL,q⟩:=q
  first | have hzz:=Reps.inv_cons rs | have hzz:=az.inv_cons rs
  clear rs
  obtain⟨_,_,rfl,r1,rs⟩:=hzz
  cases rs
  obtain⟨u,rfl,e1⟩:=az.one rv
  obtain⟨_,rfl,e⟩:=Rep.inv_ref r1
  cases e1
  obtain⟨ws,hq,r⟩:=ao.seq sm hL e
  rw[r.bls]at hq
  refine call_any_walk (thn (mI (G:=λs'=>EP X pins σ R (.bool (bs.any id)) s') I hc hq (λs' I'=>eB I' sm k q) _) ?_)
  rintro it s2 ⟨J,fp,wr,n,P,Sx,tr,e1,W,st,T,⟨en,et⟩,fin⟩
  subst en
  exact⟨J,fp,wr,_,P,Sx,tr,e1,W,st,T,λh' tk kk=>by rw[Aj et];exact fin h' tk kk⟩
 ·exact q.elim
end L2
namespace L2
open PySem PySem.Spec PyProof.Rows DL _root_.HT
theorem nL{t sl:Addr}{items:Array Value}{vl vu:Value}{lo hi:Option Int}{Q:Value->Shared->Prop}(ht:IsTup s.heap t items)(hs:s.heap.IsSliceOf sl vl vu .none)(pl:IsPart vl lo)(pu:IsPart vu hi)
  (hw:sIx items.size 0 lo=0/\sIx items.size items.size hi=items.size) (h:Q (.ref t) s):wpAny (model prog w) A (getItem (.ref t) (.ref sl)) Q E s:=by
 obtain⟨os,hos,hcs,hds⟩:=id hs
 have hTs:s.TypeIs (.ref sl) "slice":=⟨os,hos,hcs⟩
 unfold getItem
 try with_reducible refine AAr ?_
 first | refine AA0 (AA7 ?_) | skip
 refine AA0 (wpAny_sequenceKey ht.typeIs (by decide) (AA0 (AAl (name:=AA1 "__getitem__") ht.typeIs AB4 (AAo AB4 ht.typeIs entry_tuple_getitem ?_ (args_tuple_getitem _ _)))))
 refine(show wpAny (model prog w) _ (ACq (.ref t) >>= _) _ _ s from AA0 (tupleItemsOf_ ht (AA0 (AD4 hTs ?_))))
 rw[if_pos (by decide)]
 refine AA0 (dZ hs pl pu ?_)
 refine(show wpAny (model prog w) _ (if (((sIx items.size 0 lo:Nat):Int)==0&&(1:Int)==1&&(sIx items.size items.size hi-sIx items.size 0 lo)==items.size)=true then _ else _) _ _ s from ?_)
 rw[if_pos (by rw[hw.1,hw.2];simp)]
 unfold Builtin.Tuple.tupleIsExact
 refine AA0 (AA0 (AD4 ht.typeIs (AA7 ?_)))
 rw[if_pos (by decide)]
 exact AA0 (ACc (AA7 ⟨_,rfl,AA7 h⟩))
end L2
namespace L2
open PySem PySem.Spec PyProof.Rows DL
section
variable{X:Cx}{a b:Expr}{ta tb:DTE}{pos:Pos}
theorem IxR.imp(h:IxR X r')(i:∀x y H R,r x y H R->r' x y H R):IxR X r:=λvalue slice pins s σ H x y v u R I rx ry q hs=>h value slice pins s σ H x y v u R I rx ry (i x y H R q) hs
theorem Reps.atI{K:AA2}{ρ:List Addr}{H:Hp}{ds:List D}{vs:List V}{i:Int}{d:D}(r:Reps K ρ H ds vs)(h:L2.atI ds i=some d):∃v,L2.atI vs i=some v/\Rep K ρ H d v:=by
 unfold L2.atI at h ⊢
 rw[r.length]at h
 cases e:ixN vs.length i with
 | none=>rw[e]at h;cases h
 | some j =>
  rw[e]at h
  obtain⟨v,hv,rv⟩:=r.get (show ds[j]?=some d from h)
  exact⟨v,hv,rv⟩
def qIx:DR2:=λx y M Q=>match x,y with
 | .tup xs,.int i=>match L2.atI xs i with
  | some d=>Q d M
  | none=>False
 | .str z,.int i=>z.length<=sizeLine/\match L2.atI z.cps.toList i with
  | some c=>Q (.str ⟨#[c]⟩) M
  | none=>False
 | .ref n,.int i=>∃xs,ao M n xs/\match L2.atI xs i with
  | some d=>Q d M
  | none=>False
 | _,_=>False
theorem FE:IxR X (lowR X.K qIx):=by
 refine IxR.imp Js ?_
 rintro vx vy H R ⟨x,y,M,ρ,Q,sm,r1,r2,q,k⟩
 unfold qIx at q
 split at q
 ·rename_i xs i
  split at q
  ·rename_i d e
   cases r2
   obtain⟨_,_,rfl,h,r⟩:=Rep.inv_tup r1
   obtain⟨v,hv,rv⟩:=r.atI e
   exact .inr (.inl ⟨_,_,_,v,rfl,rfl,h,hv,k _ H (VQ.now sm rv q)⟩)
  ·exact q.elim
 ·rename_i z i
  obtain⟨hz,q⟩:=q
  split at q
  ·rename_i c e
   cases r2
   cases r1
   exact .inr (.inr ⟨z,i,c,rfl,rfl,hz,e,k _ H (VQ.now sm (.str _) q)⟩)
  ·exact q.elim
 ·rename_i n i
  obtain⟨xs,hL,q⟩:=q
  split at q
  ·rename_i d e
   cases r2
   obtain⟨_,rfl,hn⟩:=Rep.inv_ref r1
   obtain⟨vs,hq,r⟩:=ao.seq sm hL hn
   obtain⟨v,hv,rv⟩:=r.atI e
   exact .inl ⟨_,_,_,v,rfl,rfl,hq,hv,k _ H (VQ.now sm rv q)⟩
  ·exact q.elim
 ·exact q.elim
theorem d_ix(ha:DE X a ta)(hb:DE X b tb)(hs:nZ b:=by intro _ _;rfl):DE X (.Subscript a b pos) (dOp qIx ta tb):=PE.imp (Ii FE ha hb hs) nv
abbrev DTO:=SD->Mem->(Option Int->Mem->Prop)->Prop
def IM(K:AA2)(t:DTO):TO:=λσ H R=>∃S M ρ Q,Sim K ρ M H/\SRep K ρ H S σ/\t S M Q/\∀o H',(∃M' ρ',Sim K ρ' M' H'/\Grow K ρ H ρ' H'/\Q o M')->R o H'
def cI:DTO:=λ_ M Q=>Q none M
def iL(t:DTE):DTO:=λS M Q=>t S M λx M1=>match x with
 | .int i=>Q (some i) M1
 | _=>False
theorem PO.imp(h:PO X e t')(i:∀σ H R,t σ H R->t' σ H R):PO X e t:=λpins s σ H R I q=>h pins s σ H R I (i σ H R q)
theorem Gk:PO X none (IM X.K cI):=by
 refine PO.imp Em ?_
 rintro σ H R ⟨S,M,ρ,Q,s,sr,q,k⟩
 exact k none H ⟨M,ρ,s,.refl,q⟩
theorem Gj(h:DE X e te):PO X (some e) (IM X.K (iL te)):=by
 refine PO.imp (El h) ?_
 rintro σ H R ⟨S,M,ρ,Q,s,sr,q,k⟩
 refine⟨S,M,ρ,_,s,sr,q,?_⟩
 rintro v H1 ⟨d,M1,ρ1,s1,g1,r1,q1⟩
 cases r1 with
 | int i=>exact⟨i,rfl,k _ H1 ⟨M1,ρ1,s1,g1,q1⟩⟩
 | _=>exact q1.elim
theorem Hn:SlR X (λx lo hi H Q=>∃z,x=.str z/\z.length<=sizeLine/\Q (.str (ABP z lo hi)) H):=by
 intro pins s σ H x v vl vu lo hi sl Q I rx hs pl pu h
 obtain⟨z,rfl,hz,q⟩:=h
 obtain⟨t,rfl⟩:=rx
 have part:∀{v:Value}{o:Option Int},IsPart v o->∃p:Option (Int×Tok),v=partValue p/\p.map (·.1)=o:=λh=>by
  cases h with
  | none=>exact⟨none,rfl,rfl⟩
  | int i t=>exact⟨some (i,t),rfl,rfl⟩
 obtain⟨p1,rfl,e1⟩:=part pl
 obtain⟨p2,rfl,e2⟩:=part pu
 subst e1 e2
 refine⟨"str",_,slot_str_getitem.lookup,typeIs_str _ _ _,wpAny_getItem_str_slice (l:=p1) (u:=p2) (st:=none) hs rfl ?_⟩
 exact post_val_or_str ⟨AAp (Txt.slice_le z _ _) hz,λt' k=>⟨.str _,H,I.tok k,⟨t',rfl⟩,q⟩⟩
noncomputable def cutD(xs:List D)(lo hi:Option Int):List D:=(xs.drop (HT.sIx xs.length 0 lo)).take (HT.sIx xs.length xs.length hi-HT.sIx xs.length 0 lo)
theorem Reps.cutD{K:AA2}{ρ:List Addr}{H:Hp}{ds:List D}{vs:List V}(r:Reps K ρ H ds vs)(lo hi:Option Int):Reps K ρ H (L2.cutD ds lo hi) (Dq vs lo hi):=by
 unfold L2.cutD Dq
 rw[r.length]
 exact(r.drop _).take _
def qSl:D->Option Int->Option Int->Mem->DK->Prop:=λx lo hi M Q=>match x with
 | .str z=>z.length<=sizeLine/\Q (.str (ABP z lo hi)) M
 | .ref n=>∃xs,ao M n xs/\Q (.ref M.length) (M++[.lst (cutD xs lo hi)])
 | .tup xs=>Q (.tup (cutD xs lo hi)) M
 | _=>False
def lowSl(K:AA2)(r:D->Option Int->Option Int->Mem->DK->Prop):V->Option Int->Option Int->Hp->VK->Prop:=λvx lo hi H R=>∃x M ρ Q,Sim K ρ M H/\Rep K ρ H x vx/\r x lo hi M Q/\∀v H',VQ K ρ H Q v H'->R v H'
theorem sld:SlR X (lowSl X.K qSl):=by
 rintro pins s σ H x v vl vu lo hi sl R I rx hs pl pu ⟨d,M,ρ,Q,sm,r1,q,k⟩
 unfold qSl at q
 split at q
 ·cases r1
  exact Hn pins s σ H _ v vl vu lo hi sl R I rx hs pl pu ⟨_,rfl,q.1,k _ H (VQ.now sm (.str _) q.2)⟩
 ·obtain⟨xs,hL,q⟩:=q
  obtain⟨_,rfl,hn⟩:=Rep.inv_ref r1
  obtain⟨vs,hq,r⟩:=ao.seq sm hL hn
  exact DQ pins s σ H _ v vl vu lo hi sl R I rx hs pl pu ⟨_,vs,rfl,hq,λp hp=>k _ _ (VQ.laidL sm .refl (r.cutD lo hi) hp q)⟩
 ·obtain⟨_,_,rfl,h,r⟩:=Rep.inv_tup r1
  rename_i xs a vs
  by_cases hw:HT.sIx xs.length 0 lo=0/\HT.sIx xs.length xs.length hi=xs.length
  ·cases rx
   obtain⟨its,rr,ht,hz⟩:=I.tuple h
   have hlen:its.toArray.size=xs.length:=by rw[AAB,r.length];exact rr.length.symm
   have e:L2.cutD xs lo hi=xs:=by unfold L2.cutD;rw[hw.1,hw.2,List.drop_zero,Nat.sub_zero,ABQ]
   rw[e]at q
   exact⟨"tuple",_,AB4.lookup,ht.typeIs,nL ht hs pl pu (by rw[hlen];exact hw) ⟨.ref _,H,I,rfl,k _ H (VQ.now sm (.tup h r) q)⟩⟩
  ·exact Hm pins s σ H _ v vl vu lo hi sl R I rx hs pl pu ⟨_,_,rfl,h,by rw[<-r.length];exact hw,λp hp=>k _ _ (VQ.laidT sm .refl (r.cutD lo hi) hp q)⟩
 ·exact q.elim
def dSl(te:DTE)(tl th:DTO):DTE:=λS M Q=>te S M λx M1=>tl S M1 λl M2=>th S M2 λu M3=>qSl x l u M3 Q
theorem Gq{e:Expr}{te:DTE}{lo hi:Option Expr}{tl th:DTO}{p2:Pos}(he:DE X e te)(hl:PO X lo (IM X.K tl))(hu:PO X hi (IM X.K th)):DE X (.Subscript e (.Slice lo hi none p2) pos) (dSl te tl th):=by
 refine PE.imp (AY sld he hl hu) ?_
 rintro σ H R ⟨S,M,ρ,Q,s,sr,q,k⟩
 refine⟨S,M,ρ,_,s,sr,q,?_⟩
 rintro v H1 ⟨d,M1,ρ1,s1,g1,r1,q1⟩
 refine⟨S,M1,ρ1,_,s1,sr.grow g1,q1,?_⟩
 rintro l H2 ⟨M2,ρ2,s2,g2,q2⟩
 refine⟨S,M2,ρ2,_,s2,sr.grow (g1.trans g2),q2,?_⟩
 rintro u H3 ⟨M3,ρ3,s3,g3,q3⟩
 exact⟨d,M3,ρ3,Q,s3,r1.grow (g2.trans g3),q3,λv H' w=>k v H' (VQ.trans ((g1.trans g2).trans g3) w)⟩
def jf:DR2:=λx y M Q=>match x,y with
 | .int i,.int j=>CMul i j/\Q (.int (i*j)) M
 | .str z,.int n=>(0<=n/\n<2 ^ 63/\z.length*n.toNat<=sizeLine)/\Q (.str (Txt.mul z n)) M
 | _,_=>False
theorem ss(h0:0<=n)(h:z.length*n.toNat<=sizeLine)(hn:n<2 ^ 63):MulOk z n:=by
 refine⟨?_,λh1 h2=>?_,λh1 h2=>?_⟩
 ·have e1:decide (n < -(2 ^ 63:Int))=false:=dF_ (by lia)
  have e2:decide (n ≥ 2 ^ 63)=false:=dF_ (by lia)
  rw[e1,e2]
  rfl
 ·have hz:(z.length:Int)*n<=2 ^ 24:=by
   have e:((z.length*n.toNat:Nat):Int)=(z.length:Int)*n:=by
    rw[Int.natCast_mul,ADs h0]
   have h':((z.length*n.toNat:Nat):Int)<=(2 ^ 24:Nat):=Int.ofNat_le.mpr h
   rw[e]at h'
   exact h'
  have hpos:0<n:=by lia
  intro hgt
  have:=Int.lt_of_lt_of_le (Int.lt_mul_of_ediv_lt hpos hgt) hz
  lia
 ·unfold PySem.Builtin.Str.tooLong
  simpa using h
theorem EM:OpD X (binaryOp .Mult) jf:=by
 rintro pins s σ H vx vy v u R I rx ry ⟨x,y,M,ρ,Q,sm,r1,r2,q,k⟩
 unfold jf at q
 split at q
 ·cases r1
  cases r2
  exact Iw pins s σ H _ _ v u R I rx ry ⟨_,_,rfl,rfl,q.1,k _ H (VQ.now sm (.int _) q.2)⟩
 ·rename_i z n
  cases r1
  cases r2
  obtain⟨t,rfl⟩:=rx
  obtain⟨t',rfl⟩:=ry
  obtain⟨⟨h0,h2,h1⟩,q⟩:=q
  exact PySem.SB.mul (ss h0 h1 h2) λt' j=>⟨.str _,H,I.tok j,⟨t',rfl⟩,k _ H (VQ.now sm (.str _) q)⟩
 ·exact q.elim
def Hz:DRA:=λds M Q=>match ds with
 | [.str x]=>x.length=1/\Q (.int (x.cps.getD 0 0:Nat)) M
 | _=>False
theorem Km:hZ X (.builtin "ord") Hz:=by
 refine fb.imp CA ?_
 rintro vs H R ⟨ds,M,ρ,Q,sm,rs,q,k⟩
 unfold Hz at q
 split at q
 ·first | have hzz:=Reps.inv_cons rs | have hzz:=az.inv_cons rs
  clear rs
  obtain⟨_,_,rfl,r1,rs⟩:=hzz
  cases rs
  cases r1
  exact⟨_,rfl,q.1,k _ H (VQ.now sm (.int _) q.2)⟩
 ·exact q.elim
variable{o e:Expr}{es:List Expr}{to:DTE}{t:DTA}{name:Str}{apos cpos:Pos}{id:String}
def Bs(K:AA2)(r:Str->DRA):V->List V->Hp->VK->Prop:=λvx vs H R=>∃z ds M ρ Q,vx=.str z/\Sim K ρ M H/\Reps K ρ H ds vs/\r z ds M Q/\∀v H',VQ K ρ H Q v H'->R v H'
def nu(K:AA2)(r:Nat->DRA):V->List V->Hp->VK->Prop:=λvx vs H R=>∃n a ds M ρ Q,vx=.ref a/\ρ[n]?=some a/\Sim K ρ M H/\Reps K ρ H ds vs/\r n ds M Q/\∀v H',VQ K ρ H Q v H'->R v H'
def dMs(r:Str->DRA)(to:DTE)(t:DTA):DTE:=λS M Q=>to S M λx M1=>match x with
 | .str z=>t S M1 λds M2=>r z ds M2 Q
 | _=>False
def dMl(r:Nat->DRA)(to:DTE)(t:DTA):DTE:=λS M Q=>to S M λx M1=>match x with
 | .ref n=>(∃xs,ao M1 n xs)/\t S M1 λds M2=>r n ds M2 Q
 | _=>False
theorem d_ms(slot:Slot "str" name id)(hty:typeOf (.builtin id)=pure (.type "method_descriptor"))(hm:MtR X id (Bs X.K r))(ho:DE X o to)(ha:DA X (e::es) t)
  (hbase:attributeBase o name X.env (eval o X.env)=eval o X.env:=by rfl)
  (hfew:((backTo cpos (starEach (e::es) X.env)).all (λx=>!x.1)&&(backToKw cpos (keywordEach [] X.env)).all (λx=>x.1.isSome)
   && decide ((e::es).length+([]:List Keyword).length+(if ([]:List Keyword).isEmpty then 0 else 1)<30))=true:=by rfl)
  (hline:(apos.endLine==cpos.line)=true:=by rfl) (hs:starEach (e::es) X.env=(false,eval e X.env)::starEach es X.env:=by rfl) (hplain:(backTo cpos (starEach es X.env)).any (·.1)=false:=by rfl) :
  DE X (.Call (.Attribute o name apos) (e::es) [] cpos) (dMs r to t):=by
 refine PE.imp (Im PySem.F.plainAttrs_str slot hty hm ho ha hbase hfew hline hs hplain) ?_
 rintro σ H R ⟨S,M,ρ,Q,s,sr,q,k⟩
 refine⟨S,M,ρ,_,s,sr,q,?_⟩
 rintro v H1 ⟨d,M1,ρ1,s1,g1,r1,q1⟩
 cases r1 with
 | str z=>exact⟨rfl,S,M1,ρ1,_,s1,sr.grow g1,q1,λvs H2 ⟨ds,M2,ρ2,s2,g2,r2,q2⟩=>⟨z,ds,M2,ρ2,Q,rfl,s2,r2,q2,λv H' w=>k v H' (VQ.trans (g1.trans g2) w)⟩⟩
 | _=>exact q1.elim
theorem d_ml(slot:Slot "list" name id)(hty:typeOf (.builtin id)=pure (.type "method_descriptor"))(hm:MtR X id (nu X.K r))(ho:DE X o to)(ha:DA X (e::es) t)
  (hbase:attributeBase o name X.env (eval o X.env)=eval o X.env:=by rfl)
  (hfew:((backTo cpos (starEach (e::es) X.env)).all (λx=>!x.1)&&(backToKw cpos (keywordEach [] X.env)).all (λx=>x.1.isSome)
   && decide ((e::es).length+([]:List Keyword).length+(if ([]:List Keyword).isEmpty then 0 else 1)<30))=true:=by rfl)
  (hline:(apos.endLine==cpos.line)=true:=by rfl) (hs:starEach (e::es) X.env=(false,eval e X.env)::starEach es X.env:=by rfl) (hplain:(backTo cpos (starEach es X.env)).any (·.1)=false:=by rfl) :
  DE X (.Call (.Attribute o name apos) (e::es) [] cpos) (dMl r to t):=by
 refine PE.imp (Im PySem.F.plainAttrs_list slot hty hm ho ha hbase hfew hline hs hplain) ?_
 rintro σ H R ⟨S,M,ρ,Q,s,sr,q,k⟩
 refine⟨S,M,ρ,_,s,sr,q,?_⟩
 rintro v H1 ⟨d,M1,ρ1,s1,g1,r1,q1⟩
 cases r1 with
 | @ref n a hn =>
  obtain⟨⟨xs,hL⟩,q1⟩:=(show (∃xs,ao M1 n xs)/\t S M1 _ from q1)
  obtain⟨vs,hq,_⟩:=ao.seq s1 hL hn
  refine⟨.inl ⟨rfl,vs,hq⟩,S,M1,ρ1,_,s1,sr.grow g1,q1,?_⟩
  rintro vs H2 ⟨ds,M2,ρ2,s2,g2,r2,q2⟩
  exact⟨n,a,ds,M2,ρ2,Q,rfl,aK g2.pre hn,s2,r2,q2,λv H' w=>k v H' (VQ.trans (g1.trans g2) w)⟩
 | _=>exact q1.elim
def dF(n:Nat):DRA:=λds M Q=>match ds with
 | [d]=>∃xs,M[n]?=some (.lst xs)/\xs.length<sizeLine/\Q .non (M.set n (.lst (xs++[d])))
 | _=>False
theorem vW:MtR X "list.append" (nu X.K dF):=by
 rintro pins s σ H x xs v us R I rx rs ⟨n,a,ds,M,ρ,Q,ez,hn,sm,rr,q,k⟩
 unfold dF at q
 split at q
 ·rename_i d
  obtain⟨ys,e,hl,q⟩:=q
  first | have hzz:=Reps.inv_cons rr | have hzz:=az.inv_cons rr
  clear rr
  obtain⟨_,_,rfl,r1,rr⟩:=hzz
  cases rr
  obtain⟨vs,hH,r⟩:=sm.obj n a _ hn e
  obtain⟨w1,w2⟩:=sm.write hn e hH (r.append (.cons r1 .nil))
  exact yL pins s σ H x _ v us R I rx rs ⟨a,vs,_,ez,rfl,hH,by rw[<-r.length];exact hl,k _ _ ⟨.non,_,ρ,w1,w2,.non,q⟩⟩
 ·exact q.elim
end
def bV(K:AA2)(mg:Str->Option Value)(x:Str)(st:Stmt)(ps:List Str):Prop :=
 ∃f fd,Fun K x x st f fd/\mg x=some (.ref f)/\ic K fd ps []
def Cal(P:Program)(w:World)(K:AA2)(mg:Str->Option Value)(base:Heap)(k:Nat)(x:Str)(ps:List Str)(Pr:DSp):Prop :=
 ∃f fd,FnOk P w K mg base CX0 k f fd ps (spL K Pr)/\mg x=some (.ref f)/\ABY K (.ref f)=true/\ic K fd ps []
theorem fnat_mk{K:AA2}{h:Heap}{mg:Str->Option Value}{x:Str}{st:Stmt}{ps:List Str}{f:Addr}{oc:Value}{od an:Option Addr}{osl:Array (Option Value)}{kV doc pm cdv ct:Value}
  (X:K.In h) (G:h.Ns mainGlobals mg) (a:ABC K mainGlobals x=some (some (.ref f)))
  (l:K.lookup f=some ⟨oc,od,.func (ABd x x (cH st) (bj st) (aw st) .none kV doc pm an cdv ct),osl⟩)
  (c:ACu K cdv x=true) (k:ABY K (.ref f)=true)
  (h:∀(kV doc pm:Value) (an:Option Addr) (cdv ct:Value) (us:List Value),us.length=ps.length->bindArgs (ABd x x (cH st) (bj st) (aw st) .none kV doc pm an cdv ct) ⟨us,[]⟩=pure (ps.zip us)):bV K mg x st ps :=
 have F:=zK (st:=st) l c k
 ⟨f,_,F,AEF X G a,F.binds h⟩
theorem Cal.of{P:Program}{w:World}{K:AA2}{mg:Str->Option Value}{base:Heap}{x:Str}{st:Stmt}{N ps:List Str}{k:Nat}{Pr:DSp}(F:bV K mg x st ps)(Sc:FnScope N ps (aw st))
  (len:∀ds M R,Pr ds M R->ds.length=ps.length) {t:DTS}
  (der:∀(f:Addr) (cdv:Value) (A:Around) (outer:List Env) (s:Shared) (H:Hp) (E:XK),Room k (A.deeper (envOfC x (aw st) s.heap.objs.size f cdv))->DSs (wK CX0 P w K mg base N x (aw st) f cdv A outer s H E).nox (bj st) t)
  (wp:∀ds M R,Pr ds M R->t ⟨λ_ M'=>aI M R .non M',aI M R,λ_ _=>False,λ_ _=>False⟩ (bL N ds) M):Cal P w K mg base (k+1) x ps Pr:=by
 obtain⟨f,fd,F1,hm,hb⟩:=F
 exact⟨f,fd,d_fn Pr F1 Sc len λcdv A outer s H E hr=>⟨t,der f cdv A outer s H E hr,wp⟩,hm,F1.kp,hb⟩
theorem FY{P:Program}{w:World}{K:AA2}{mg:Str->Option Value}{base:Heap}{x:Str}{st:Stmt}{N ps:List Str}{k:Nat}{Pr:DSp}{f:Addr}{fd:FuncData}(F:Fun K x x st f fd)(Sc:FnScope N ps (aw st))
  (len:∀ds M R,Pr ds M R->ds.length=ps.length) {t:DTS}
  (der:∀(f:Addr) (cdv:Value) (A:Around) (outer:List Env) (s:Shared) (H:Hp) (E:XK),Room k (A.deeper (envOfC x (aw st) s.heap.objs.size f cdv))->DSs (wK CX0 P w K mg base N x (aw st) f cdv A outer s H E).nox (bj st) t)
  (wp:∀ds M R,Pr ds M R->t ⟨λ_ M'=>aI M R .non M',aI M R,λ_ _=>False,λ_ _=>False⟩ (bL N ds) M):FnOk P w K mg base CX0 (k+1) f fd ps (spL K Pr) :=
 d_fn Pr F Sc len λcdv A outer s H E hr=>⟨t,der f cdv A outer s H E hr,wp⟩
theorem d_cal(C:Cal X.prog X.w X.K X.mg X.base j x ps P)(hr:Room k X.A)(ha:DA X (e::es) t)(hj:j<=k:=by decide)
  (hg:Gl X x:=by rfl) (hdb:(x==("__debug__":Str))=false:=by decide) (he:starEach (e::es) X.env=(false,eval e X.env)::starEach es X.env:=by rfl) (hpl:(backTo pos (starEach es X.env)).any (·.1)=false:=by rfl) :
  DE X (.Call (.Name x p) (e::es) [] pos) (dCB P t):=by
 obtain⟨f,fd,F,hm,hk,hb⟩:=C
 exact Kk F (hr.mono hj) hm hk hb ha hg hdb he hpl
theorem Gr(hm:∃t,X.mg x=some (.int i t))(hg:Gl X x:=by rfl)(hb:(x==("__debug__":Str))=false:=by decide):DE X (.Name x pos) (dC (.int i)):=by
 obtain⟨t,hm⟩:=hm
 exact Kj hm rfl ⟨t,rfl⟩ hg hb
def Fb:DSp:=λds M R=>∃(ns:List Int) (mo:MO),ns.length<=63/\(mo.items=ns.map D.int/\mo.isL=true)/\ds=[.ref 0]/\M=[mo]/\∀M',R (.bl true) M'
theorem kH(h:M[n]?=some mo)(hl:mo.isL=true):ao M n mo.items:=by
 cases mo with
 | lst xs=>exact .inl h
 | fz xs=>exact .inr (.inl h)
 | kl xs=>exact .inr (.inr h)
 | dct xs=>cases hl
 | dkt xs=>cases hl
 | dkq _ xs=>cases hl
 | fdc o xs=>cases hl
 | dkm xs=>cases hl
 | tb x b=>cases hl
 | exc x e=>cases hl
 | ins c fs=>cases hl
 | tl x p q e=>cases hl
theorem gB{K:AA2}{ρ:List Addr}{H:Hp}:∀(ns:List Int),Reps K ρ H (ns.map D.int) (ns.map V.int)
 | []=>.nil
 | n::ns=>.cons (.int n) (gB ns)
theorem wf{K:AA2}{H:Hp}{a:Addr}{ns:List Int}(hl:ns.length<=63)(hS:SqL K H a (ns.map V.int)):spL K Fb [.ref a] H (λv _=>v=.bl true) λ_ _ _=>False:=by
 have one:∀{mo:MO},mo.items=ns.map D.int/\mo.isL=true->wH K [a] H a mo->spL K Fb [.ref a] H (λv _=>v=.bl true) λ_ _ _=>False:=λ{mo} e ok=>by
  refine⟨[.ref 0],[mo],[a],λd _=>d=.bl true,⟨λn m b hne e1 e2=>?_,rfl,λn b mo' e1 e2=>?_⟩,.cons (.ref rfl) .nil,⟨ns,mo,hl,e,rfl,rfl,λ_=>rfl⟩,λv H' ⟨d,M',ρ',_,_,r,q⟩=>?_⟩
  ·have h1:=(AA3.mp e1).1
   have h2:=(AA3.mp e2).1
   simp at h1 h2
   lia
  ·have h1:=(AA3.mp e1).1
   simp at h1
   subst h1
   simp at e1 e2
   subst e1 e2
   exact ok
  ·have q':d=.bl true:=q
   subst q'
   cases r
   rfl
 rcases hS with(h | ⟨o,h⟩) | h
 ·exact one (mo:=.lst _) ⟨rfl,rfl⟩ ⟨_,h,gB ns⟩
 ·exact one (mo:=.fz _) ⟨rfl,rfl⟩ ⟨o,_,h,gB ns⟩
 ·exact one (mo:=.kl _) ⟨rfl,rfl⟩ ⟨_,h,gB ns⟩
theorem law_walk{l:PySem.W.OpenLaw}{q:Program}{loose:List Str}{XP:(Str->Option Value)->Heap->Prop}{YP:World->Heap->Prop}{d:DefRec}{K:Params->AA2}{k:Nat}{st:Stmt}{x:Str}(hn:l.most=some 63)(hdf:d.params.defaults=[])(hd:d.name = "law")(hr:Room k callerA)
  (hY:∀(w:World) (h:Heap),YP w h->(K w.params).In h)
  (F:∀(w:World) (mg:Str->Option Value) (h:Heap),(K w.params).In h->h.Ns mainGlobals mg->bV (K w.params) mg "law" st [x] /\
   ∀(base:Heap) (f:Addr) (fd:FuncData),Fun (K w.params) "law" "law" st f fd->FnOk l.prog w (K w.params) mg base CX0 k f fd [x] (spL (K w.params) Fb))
  (hb:∀(kV doc pm:Value) (an:Option Addr) (cdv ct:Value) (u:Value),bindArgs (ABd "law" "law" (cH st) (bj st) (aw st) .none kV doc pm an cdv ct) ⟨[u],[]⟩=pure [(x,u)]) :
  PySem.W.WalkO q loose XP YP l.row.toRowW d [] (λf vs=>PySem.call f vs):=by
 refine L2.walk_of (n:=63) (k:=k) (x:=x) (CX:=λ_=>CX0) (sp:=λw=>spL (K w.params) Fb) hn (by decide) hdf hr hY (λw mg fa h KX G hmg=>?_) (λw H a ns hl _ hS=>wf hl hS) λ_ _ _ _ _ z=>z
 rw[hd]at hmg
 obtain⟨⟨f,fd,F1,hm,_⟩,C⟩:=F w mg h KX G
 have e:=hmg.symm.trans hm
 cases e
 have C':=λbase=>C base _ _ F1
 obtain⟨oc,od,kV,doc,pm,an,cdv,ct,osl,rfl,lk,hcd⟩:=id F1.ex
 exact⟨_,λs v=>.of_eq (hb kV doc pm an cdv ct v),λbase _ _=>C' base⟩
noncomputable def mJ(nm:List (Str×NameKind))(N N':List Str)(nt:Nat)(js:List Nat)(sc:Scope):Bool :=
 sc.kind==.function&&sc.names.all (λy=>y.2 != .cell&&(y.2 != .local||sc.names.lookup y.1==some .local)&&(y.2 != .free||(nm.lookup y.1==some .cell||nm.lookup y.1==some .free))) &&
 N'.length==nt+js.length&&(AAg js.length).all λk=>match js[k]?,N'[nt+k]? with
  | some j,some x=>N[j]?==some x&&sc.names.lookup x==some .free&&(nm.lookup x==some .cell||nm.lookup x==some .free)
  | _,_=>false
theorem BlkSc.chk(h:mJ X.env.scope.names X.N N' nt js scope=true):BlkSc X N' nt js scope:=by
 unfold mJ at h
 simp only[AAN,AAO,beq_iff_eq,Bool.or_eq_true,bne_iff_ne]at h
 obtain⟨⟨⟨h1,h2⟩,h3⟩,h4⟩:=h
 refine⟨h1,λy hy=>(h2 y hy).1.1,λy hy e=>((h2 y hy).1.2.resolve_left (λz=>z e)),λy hy e=>((h2 y hy).2.resolve_left (λz=>z e)),h3,λk j e=>?_⟩
 have hk:k<js.length:=(AA3.mp e).1
 have q:=h4 k (ABK.mpr hk)
 rw[e]at q
 cases f:N'[nt+k]? with
 | none=>rw[f]at q;exact absurd q (by simp)
 | some x =>
  rw[f]at q
  simp only[AAN,beq_iff_eq,Bool.or_eq_true]at q
  exact⟨x,rfl,q.1.1,q.1.2,q.2⟩
noncomputable def eqL(f:D->D->Bool):List D->List D->Bool
 | [],[]=>true
 | x::xs,y::ys=>f x y&&eqL f xs ys
 | _,_=>false
noncomputable def eqD(M:Mem):Nat->D->D->Bool
 | _,.non,.non=>true
 | _,.bl a,.bl b=>a==b
 | _,.bl a,.int b=>(if a then 1 else 0)==b
 | _,.int a,.bl b=>a==(if b then 1 else 0)
 | _,.int a,.int b=>a==b
 | _,.str a,.str b=>a==b
 | n+1,.tup xs,.tup ys=>eqL (eqD M n) xs ys
 | n+1,.ref i,.ref j=>match M[i]?,M[j]? with
  | some a,some b=>eqL (eqD M n) a.items b.items
  | _,_=>false
 | _,_,_=>false
noncomputable def okD(M:Mem):Nat->D->Bool
 | _,.ty _=>false
 | n+1,.tup xs=>xs.all (okD M n)
 | n+1,.ref i=>match M[i]? with
  | some a=>a.isL&&a.items.all (okD M n)
  | none=>false
 | 0,.tup _=>false
 | 0,.ref _=>false
 | _,_=>true
theorem zN:∀{xs ys:List D},eqL f xs ys=true->xs.length=ys.length
 | [],[],_=>rfl
 | [],_::_,h=>by simp[eqL]at h
 | _::_,[],h=>by simp[eqL]at h
 | x::xs,y::ys,h=>by
  simp only[eqL,AAN]at h
  rw[AAD,AAD,zN h.2]
theorem Ak(n:Nat)(e:Nat->Bool):(AAg (n+1)).all e=(e 0&&(AAg n).all λj=>e (j+1)):=by
 rw[List.range_succ_eq_map,AB6,AE7]
 rfl
theorem kU:∀{xs ys:List D}{e:Nat->Bool},xs.length=ys.length->(∀(j:Nat) x y,xs[j]?=some x->ys[j]?=some y->e j=f x y)->(AAg xs.length).all e=eqL f xs ys
 | [],[],e,_,_=>by simp[eqL]
 | [],_::_,_,h,_=>by simp at h
 | _::_,[],_,h,_=>by simp at h
 | x::xs,y::ys,e,h,he=>by
  rw[AAD,Ak,eqL,he 0 x y rfl rfl,kU (by simpa using h) λj x' y' h1 h2=>he (j+1) x' y' (by simpa using h1) (by simpa using h2)]
theorem zM(h:xs.length≠ys.length):eqL f xs ys=false:=by
 cases q:eqL f xs ys with
 | false=>rfl
 | true=>exact absurd (zN q) h
theorem fZ{vs:List V}{us:List Value}(h:az vs us){j:Nat}{v:V}(e:vs[j]?=some v):∃u,us[j]?=some u/\aU v u:=by
 induction h generalizing j with
 | nil=>simp at e
 | cons r _ ih =>
  cases j with
  | zero=>simp at e;subst e;exact⟨_,rfl,r⟩
  | succ j=>exact ih (by simpa using e)
section
variable{X:Cx}{pins:List (Addr×Obj)}{σ:St}{H:Hp}{s:Shared}{ρ:List Addr}{M:Mem}
theorem jX(I:Inv X pins σ H s)(sm:Sim X.K ρ M H){i:Nat}{a:Addr}{mo:MO}(e:ρ[i]?=some a)(hm:M[i]?=some mo)(hl:mo.isL=true):∃vs its,SqL X.K H a vs/\Reps X.K ρ H mo.items vs/\az vs its/\PlainL s.heap a its.toArray:=by
 obtain⟨vs,hq,r⟩:=ao.seq sm (kH hm hl) e
 obtain⟨its,rr,pl,_⟩:=I.list hq
 exact⟨vs,its,hq,r,rr,pl⟩
theorem dh(hm:M[i]?=some mo)(o:okD M (n+1) (.ref i)=true):mo.isL=true/\mo.items.all (okD M n)=true:=by
 have o':(match M[i]? with | some a=>a.isL&&a.items.all (okD M n) | none=>false)=true:=o
 rw[hm]at o'
 exact(AAN _ _).mp o'
theorem Cc(I:Inv X pins σ H s)(sm:Sim X.K ρ M H):∀(n:Nat) (x y:D) (v:V),Rep X.K ρ H x v->Rep X.K ρ H y v->okD M n x=true->okD M n y=true->eqD M n x y=true:=by
 have all:∀(n:Nat),(∀(x y:D) (v:V),Rep X.K ρ H x v->Rep X.K ρ H y v->okD M n x=true->okD M n y=true->eqD M n x y=true) ->
   ∀(xs ys:List D) (vs:List V),Reps X.K ρ H xs vs->Reps X.K ρ H ys vs->xs.all (okD M n)=true->ys.all (okD M n)=true->eqL (eqD M n) xs ys=true:=by
  intro n ih xs
  induction xs with
  | nil=>intro ys vs h1 h2 _ _;cases h1;cases h2;rfl
  | cons x xs hi =>
   intro ys vs h1 h2 o1 o2
   cases h1 with
   | cons r1 t1 =>
    cases h2 with
    | cons r2 t2 =>
     rw[AB6,AAN]at o1 o2
     rw[eqL,ih _ _ _ r1 r2 o1.1 o2.1,hi _ _ t1 t2 o1.2 o2.2]
     rfl
 intro n
 induction n with
 | zero =>
  intro x y v h1 h2 o1 o2
  cases h1<;>cases h2<;>first | (simp[okD]at o1;done) | rfl | simp[eqD]
 | succ n ih =>
  intro x y v h1 h2 o1 o2
  cases h1 with
  | non=>cases h2;rfl
  | bl b=>cases h2;simp[eqD]
  | int b=>cases h2;simp[eqD]
  | str b=>cases h2;simp[eqD]
  | ty b=>simp[okD]at o1
  | @tup a vs ds hq r =>
   cases h2 with
   | tup hq' r' =>
    have e:=I.tuple_inj hq hq'
    subst e
    exact all n ih _ _ _ r r' (by simpa [okD]using o1) (by simpa [okD]using o2)
   | @ref i _ e =>
    exfalso
    obtain⟨its,_,⟨o,e1,e2,_⟩,_⟩:=I.tuple hq
    have hi:i<M.length:=by rw[<-sm.len];exact(AA3.mp e).1
    obtain⟨vs',its',_,_,_,⟨o',n',f1,f2,_⟩⟩:=jX I sm e (AA5 hi) (dh (AA5 hi) o2).1
    rw[e1]at f1;cases f1
    rw[e2]at f2;injection f2 with f3;exact absurd f3 (by decide)
  | @ref i a e =>
   have hi:i<M.length:=by rw[<-sm.len];exact(AA3.mp e).1
   have hm:=AA5 hi
   obtain⟨vs,its,hq,r,rr,pl⟩:=jX I sm e hm (dh hm o1).1
   cases h2 with
   | tup hq' r' =>
    exfalso
    obtain⟨its',_,⟨o,e1,e2,_⟩,_⟩:=I.tuple hq'
    obtain⟨o',n',f1,f2,_⟩:=pl
    rw[e1]at f1;cases f1
    rw[e2]at f2;injection f2 with f3;exact absurd f3 (by decide)
   | @ref j _ e' =>
    have hj:j<M.length:=by rw[<-sm.len];exact(AA3.mp e').1
    have hm':=AA5 hj
    obtain⟨vs',its',hq',r',rr',pl'⟩:=jX I sm e' hm' (dh hm' o2).1
    have ev:vs=vs':=I.list_inj hq hq'
    subst ev
    have o1':=(dh hm o1).2
    have o2':=(dh hm' o2).2
    simp only[eqD,hm,hm']
    exact all n ih _ _ _ r r' o1' o2'
theorem mD(I:Inv X pins σ H s)(sm:Sim X.K ρ M H):∀(n:Nat) (A:Around) (x y:D) (vx vy:V) (u v:Value),A.units+n<cLine->Rep X.K ρ H x vx->aU vx u->Rep X.K ρ H y vy->aU vy v->okD M n x=true->okD M n y=true ->
  ACP A s u v (eqD M n x y)/\SeqAt.RcAt A s u v (eqD M n x y)/\SeqAt.RcNeAt A s u v (!eqD M n x y):=by
 intro n
 induction n with
 | zero =>
  intro A x y vx vy u v hu r1 e1 r2 e2 o1 o2
  cases r1 with
  | ty b=>simp[okD]at o1
  | tup b=>simp[okD]at o1
  | ref b=>simp[okD]at o1
  | non =>
   cases e1
   cases r2 with
   | ty b=>simp[okD]at o2
   | tup b=>simp[okD]at o2
   | ref b=>simp[okD]at o2
   | non=>cases e2;exact⟨ADt _,SeqAt.RcAt.none_none,SeqAt.RcNeAt.none_none⟩
   | bl b=>cases e2;exact⟨SeqAt.EqAt.none_bool _,SeqAt.RcAt.none_bool _,SeqAt.RcNeAt.none_bool _⟩
   | int b=>obtain⟨t,rfl⟩:=e2;exact⟨SeqAt.EqAt.none_int _ _,SeqAt.RcAt.none_int _ _,SeqAt.RcNeAt.none_int _ _⟩
   | str b=>obtain⟨t,rfl⟩:=e2;exact⟨SeqAt.EqAt.none_str _ _,SeqAt.RcAt.none_str _ _,SeqAt.RcNeAt.none_str _ _⟩
  | bl a =>
   cases e1
   cases r2 with
   | ty b=>simp[okD]at o2
   | tup b=>simp[okD]at o2
   | ref b=>simp[okD]at o2
   | non=>cases e2;exact⟨SeqAt.EqAt.bool_none _,SeqAt.RcAt.bool_none _,SeqAt.RcNeAt.bool_none _⟩
   | bl b=>cases e2;exact⟨SeqAt.EqAt.bool_bool _ _,SeqAt.RcAt.bool_bool _ _,SeqAt.RcNeAt.bool_bool _ _⟩
   | int b=>obtain⟨t,rfl⟩:=e2;exact⟨SeqAt.EqAt.bool_int _ _ _,SeqAt.RcAt.bool_int _ _ _,SeqAt.RcNeAt.bool_int _ _ _⟩
   | str b=>obtain⟨t,rfl⟩:=e2;exact⟨SeqAt.EqAt.bool_str _ _ _,SeqAt.RcAt.bool_str _ _ _,SeqAt.RcNeAt.bool_str _ _ _⟩
  | int a =>
   obtain⟨t0,rfl⟩:=e1
   cases r2 with
   | ty b=>simp[okD]at o2
   | tup b=>simp[okD]at o2
   | ref b=>simp[okD]at o2
   | non=>cases e2;exact⟨SeqAt.EqAt.int_none _ _,SeqAt.RcAt.int_none _ _,SeqAt.RcNeAt.int_none _ _⟩
   | bl b=>cases e2;exact⟨SeqAt.EqAt.int_bool _ _ _,SeqAt.RcAt.int_bool _ _ _,SeqAt.RcNeAt.int_bool _ _ _⟩
   | int b=>obtain⟨t,rfl⟩:=e2;exact⟨ACf _ _ _ _,SeqAt.RcAt.int_int _ _ _ _,SeqAt.RcNeAt.int_int _ _ _ _⟩
   | str b=>obtain⟨t,rfl⟩:=e2;exact⟨ACd _ _ _ _,SeqAt.RcAt.int_str _ _ _ _,SeqAt.RcNeAt.int_str _ _ _ _⟩
  | str a =>
   obtain⟨t0,rfl⟩:=e1
   cases r2 with
   | ty b=>simp[okD]at o2
   | tup b=>simp[okD]at o2
   | ref b=>simp[okD]at o2
   | non=>cases e2;exact⟨SeqAt.EqAt.str_none _ _,SeqAt.RcAt.str_none _ _,SeqAt.RcNeAt.str_none _ _⟩
   | bl b=>cases e2;exact⟨SeqAt.EqAt.str_bool _ _ _,SeqAt.RcAt.str_bool _ _ _,SeqAt.RcNeAt.str_bool _ _ _⟩
   | int b=>obtain⟨t,rfl⟩:=e2;exact⟨ACe _ _ _ _,SeqAt.RcAt.str_int _ _ _ _,SeqAt.RcNeAt.str_int _ _ _ _⟩
   | str b=>obtain⟨t,rfl⟩:=e2;exact⟨ADA _ _ _ _,SeqAt.RcAt.str_str _ _ _ _,SeqAt.RcNeAt.str_str _ _ _ _⟩
 | succ n ih =>
  intro A x y vx vy u v hu r1 e1 r2 e2 o1 o2
  have hu0:A.units<cLine:=by lia
  have hu1:A.in1.units+n<cLine:=by show A.units+1+n<cLine;lia
  -- what a list or a tuple is,as the heap has it
  have tupAt:∀{a:Addr}{vs:List V}{ds:List D},SqT X.K H a vs->Reps X.K ρ H ds vs->∃its:List Value,az vs its/\s.heap.IsTuple a its.toArray/\ds.length=its.length:=λ{a vs ds} hq r=>by
   obtain⟨its,rr,pl,_⟩:=I.tuple hq
   exact⟨its,rr,pl,r.length.trans rr.length⟩
  have lstAt:∀{i:Nat}{a:Addr},ρ[i]?=some a->okD M (n+1) (.ref i)=true->∃mo,M[i]?=some mo/\∃vs its,Reps X.K ρ H mo.items vs/\az vs its/\s.heap.IsList a its.toArray/\mo.items.length=its.length:=λ{i a} e ok=>by
   have hi:i<M.length:=by rw[<-sm.len];exact(AA3.mp e).1
   have hm:=AA5 hi
   obtain⟨vs,its,hq,r,rr,pl⟩:=jX I sm e hm (dh hm ok).1
   exact⟨_,hm,vs,its,r,rr,pl.isList,r.length.trans rr.length⟩
  have items:∀{xs ys:List D}{vs ws:List V}{its jts:List Value},Reps X.K ρ H xs vs->az vs its->Reps X.K ρ H ys ws->az ws jts->xs.all (okD M n)=true->ys.all (okD M n)=true ->
    ∀(j:Nat) (h1:j<its.toArray.size) (h2:j<jts.toArray.size),ACP A.in1 s its.toArray[j] jts.toArray[j] (eqD M n (xs.getD j .non) (ys.getD j .non)):=λ{xs ys vs ws its jts} r1 q1 r2 q2 o1 o2 j h1 h2=>by
   have l1:j<xs.length:=by rw[r1.length,q1.length];simpa using h1
   have l2:j<ys.length:=by rw[r2.length,q2.length];simpa using h2
   obtain⟨v1,g1,p1⟩:=r1.get (AA5 l1)
   obtain⟨v2,g2,p2⟩:=r2.get (AA5 l2)
   obtain⟨u1,k1,m1⟩:=fZ q1 g1
   obtain⟨u2,k2,m2⟩:=fZ q2 g2
   have z1:its.toArray[j]=u1:=by
    have:=(AA3.mp k1).2
    simpa using this
   have z2:jts.toArray[j]=u2:=by
    have:=(AA3.mp k2).2
    simpa using this
   rw[z1,z2]
   have y1:xs.getD j .non=xs[j]:=by simp[List.getD,AA5 l1]
   have y2:ys.getD j .non=ys[j]:=by simp[List.getD,AA5 l2]
   rw[y1,y2]
   exact(ih A.in1 _ _ _ _ _ _ hu1 p1 m1 p2 m2 (AAO.mp o1 _ (AAf l1)) (AAO.mp o2 _ (AAf l2))).1
  have rng:∀(xs ys:List D),xs.length=ys.length->(AAg xs.length).all (λj=>eqD M n (xs.getD j .non) (ys.getD j .non))=eqL (eqD M n) xs ys:=λxs ys h=>kU h λj x y h1 h2=>by
   simp[List.getD,h1,h2]
  have fin:∀{a b:Addr}{k:Bool},Rep X.K ρ H x (.ref a)->Rep X.K ρ H y (.ref b)->eqD M (n+1) x y=k->SeqAt.RcAt A s (.ref a) (.ref b) k->SeqAt.RcNeAt A s (.ref a) (.ref b) (!k) ->
    ACP A s (.ref a) (.ref b) (eqD M (n+1) x y)/\SeqAt.RcAt A s (.ref a) (.ref b) (eqD M (n+1) x y)/\SeqAt.RcNeAt A s (.ref a) (.ref b) (!eqD M (n+1) x y):=λ{a b k} p1 p2 ek h1 h2=>by
   subst ek
   refine⟨?_,h1,h2⟩
   by_cases hab:a=b
   ·subst hab
    rw[Cc I sm (n+1) x y _ p1 p2 o1 o2]
    exact ADt _
   ·exact SeqAt.EqAt.of_refs hab h1
  cases r1 with
  | ty b=>simp[okD]at o1
  | non =>
   cases e1
   cases r2 with
   | ty b=>simp[okD]at o2
   | tup hq r=>cases e2;obtain⟨its,rr,pl,_⟩:=tupAt hq r;exact⟨SeqAt.EqAt.none_tuple pl hu0,SeqAt.RcAt.none_tuple pl hu0,SeqAt.RcNeAt.none_tuple pl hu0⟩
   | ref e=>cases e2;obtain⟨mo,hm,vs,its,r,rr,pl,_⟩:=lstAt e o2;exact⟨SeqAt.EqAt.none_list pl hu0,SeqAt.RcAt.none_list pl hu0,SeqAt.RcNeAt.none_list pl hu0⟩
   | non=>cases e2;exact⟨ADt _,SeqAt.RcAt.none_none,SeqAt.RcNeAt.none_none⟩
   | bl b=>cases e2;exact⟨SeqAt.EqAt.none_bool _,SeqAt.RcAt.none_bool _,SeqAt.RcNeAt.none_bool _⟩
   | int b=>obtain⟨t,rfl⟩:=e2;exact⟨SeqAt.EqAt.none_int _ _,SeqAt.RcAt.none_int _ _,SeqAt.RcNeAt.none_int _ _⟩
   | str b=>obtain⟨t,rfl⟩:=e2;exact⟨SeqAt.EqAt.none_str _ _,SeqAt.RcAt.none_str _ _,SeqAt.RcNeAt.none_str _ _⟩
  | bl a =>
   cases e1
   cases r2 with
   | ty b=>simp[okD]at o2
   | tup hq r=>cases e2;obtain⟨its,rr,pl,_⟩:=tupAt hq r;exact⟨SeqAt.EqAt.bool_tuple _ pl hu0,SeqAt.RcAt.bool_tuple _ pl hu0,SeqAt.RcNeAt.bool_tuple _ pl hu0⟩
   | ref e=>cases e2;obtain⟨mo,hm,vs,its,r,rr,pl,_⟩:=lstAt e o2;exact⟨SeqAt.EqAt.bool_list _ pl hu0,SeqAt.RcAt.bool_list _ pl hu0,SeqAt.RcNeAt.bool_list _ pl hu0⟩
   | non=>cases e2;exact⟨SeqAt.EqAt.bool_none _,SeqAt.RcAt.bool_none _,SeqAt.RcNeAt.bool_none _⟩
   | bl b=>cases e2;exact⟨SeqAt.EqAt.bool_bool _ _,SeqAt.RcAt.bool_bool _ _,SeqAt.RcNeAt.bool_bool _ _⟩
   | int b=>obtain⟨t,rfl⟩:=e2;exact⟨SeqAt.EqAt.bool_int _ _ _,SeqAt.RcAt.bool_int _ _ _,SeqAt.RcNeAt.bool_int _ _ _⟩
   | str b=>obtain⟨t,rfl⟩:=e2;exact⟨SeqAt.EqAt.bool_str _ _ _,SeqAt.RcAt.bool_str _ _ _,SeqAt.RcNeAt.bool_str _ _ _⟩
  | int a =>
   obtain⟨t0,rfl⟩:=e1
   cases r2 with
   | ty b=>simp[okD]at o2
   | tup hq r=>cases e2;obtain⟨its,rr,pl,_⟩:=tupAt hq r;exact⟨SeqAt.EqAt.int_tuple _ _ pl hu0,SeqAt.RcAt.int_tuple _ _ pl hu0,SeqAt.RcNeAt.int_tuple _ _ pl hu0⟩
   | ref e=>cases e2;obtain⟨mo,hm,vs,its,r,rr,pl,_⟩:=lstAt e o2;exact⟨SeqAt.EqAt.int_list _ _ pl hu0,SeqAt.RcAt.int_list _ _ pl hu0,SeqAt.RcNeAt.int_list _ _ pl hu0⟩
   | non=>cases e2;exact⟨SeqAt.EqAt.int_none _ _,SeqAt.RcAt.int_none _ _,SeqAt.RcNeAt.int_none _ _⟩
   | bl b=>cases e2;exact⟨SeqAt.EqAt.int_bool _ _ _,SeqAt.RcAt.int_bool _ _ _,SeqAt.RcNeAt.int_bool _ _ _⟩
   | int b=>obtain⟨t,rfl⟩:=e2;exact⟨ACf _ _ _ _,SeqAt.RcAt.int_int _ _ _ _,SeqAt.RcNeAt.int_int _ _ _ _⟩
   | str b=>obtain⟨t,rfl⟩:=e2;exact⟨ACd _ _ _ _,SeqAt.RcAt.int_str _ _ _ _,SeqAt.RcNeAt.int_str _ _ _ _⟩
  | str a =>
   obtain⟨t0,rfl⟩:=e1
   cases r2 with
   | ty b=>simp[okD]at o2
   | tup hq r=>cases e2;obtain⟨its,rr,pl,_⟩:=tupAt hq r;exact⟨SeqAt.EqAt.str_tuple _ _ pl hu0,SeqAt.RcAt.str_tuple _ _ pl hu0,SeqAt.RcNeAt.str_tuple _ _ pl hu0⟩
   | ref e=>cases e2;obtain⟨mo,hm,vs,its,r,rr,pl,_⟩:=lstAt e o2;exact⟨SeqAt.EqAt.str_list _ _ pl hu0,SeqAt.RcAt.str_list _ _ pl hu0,SeqAt.RcNeAt.str_list _ _ pl hu0⟩
   | non=>cases e2;exact⟨SeqAt.EqAt.str_none _ _,SeqAt.RcAt.str_none _ _,SeqAt.RcNeAt.str_none _ _⟩
   | bl b=>cases e2;exact⟨SeqAt.EqAt.str_bool _ _ _,SeqAt.RcAt.str_bool _ _ _,SeqAt.RcNeAt.str_bool _ _ _⟩
   | int b=>obtain⟨t,rfl⟩:=e2;exact⟨ACe _ _ _ _,SeqAt.RcAt.str_int _ _ _ _,SeqAt.RcNeAt.str_int _ _ _ _⟩
   | str b=>obtain⟨t,rfl⟩:=e2;exact⟨ADA _ _ _ _,SeqAt.RcAt.str_str _ _ _ _,SeqAt.RcNeAt.str_str _ _ _ _⟩
  | @tup a vs ds hq r =>
   cases e1
   obtain⟨its,rr,pl,ll⟩:=tupAt hq r
   cases r2 with
   | ty b=>simp[okD]at o2
   | non=>cases e2;exact⟨SeqAt.EqAt.tuple_none pl hu0,SeqAt.RcAt.tuple_none pl hu0,SeqAt.RcNeAt.tuple_none pl hu0⟩
   | bl b=>cases e2;exact⟨SeqAt.EqAt.tuple_bool _ pl hu0,SeqAt.RcAt.tuple_bool _ pl hu0,SeqAt.RcNeAt.tuple_bool _ pl hu0⟩
   | int b=>obtain⟨t,rfl⟩:=e2;exact⟨SeqAt.EqAt.tuple_int _ _ pl hu0,SeqAt.RcAt.tuple_int _ _ pl hu0,SeqAt.RcNeAt.tuple_int _ _ pl hu0⟩
   | str b=>obtain⟨t,rfl⟩:=e2;exact⟨SeqAt.EqAt.tuple_str _ _ pl hu0,SeqAt.RcAt.tuple_str _ _ pl hu0,SeqAt.RcNeAt.tuple_str _ _ pl hu0⟩
   | ref e=>cases e2;obtain⟨mo,hm,vs',its',r',rr',pl',_⟩:=lstAt e o2;exact⟨SeqAt.EqAt.tuple_list pl pl' hu0,SeqAt.RcAt.tuple_list pl pl' hu0,SeqAt.RcNeAt.tuple_list pl pl' hu0⟩
   | @tup b ws es hq' r' =>
    cases e2
    obtain⟨jts,rr',pl',ll'⟩:=tupAt hq' r'
    have ok1:ds.all (okD M n)=true:=by simpa [okD]using o1
    have ok2:es.all (okD M n)=true:=by simpa [okD]using o2
    have key:((AAg (min its.toArray.size jts.toArray.size)).all (λj=>eqD M n (ds.getD j .non) (es.getD j .non))&&its.toArray.size==jts.toArray.size)=eqL (eqD M n) ds es:=by
     rw[AAB,AAB]
     by_cases hl:ds.length=es.length
     ·rw[<-ll,<-ll',<-hl,Nat.min_self,rng ds es hl]
      simp
     ·rw[zM hl,<-ll,<-ll']
      simp[hl]
    have h1:=SeqAt.RcAt.tuples pl pl' hu0 (items r rr r' rr' ok1 ok2)
    have h2:=SeqAt.RcNeAt.tuples pl pl' hu0 (items r rr r' rr' ok1 ok2)
    rw[key]at h1 h2
    exact fin (.tup hq r) (.tup hq' r') rfl h1 h2
  | @ref i a e =>
   cases e1
   obtain⟨mo,hm,vs,its,r,rr,pl,ll⟩:=lstAt e o1
   cases r2 with
   | ty b=>simp[okD]at o2
   | non=>cases e2;exact⟨SeqAt.EqAt.list_none pl hu0,SeqAt.RcAt.list_none pl hu0,SeqAt.RcNeAt.list_none pl hu0⟩
   | bl b=>cases e2;exact⟨SeqAt.EqAt.list_bool _ pl hu0,SeqAt.RcAt.list_bool _ pl hu0,SeqAt.RcNeAt.list_bool _ pl hu0⟩
   | int b=>obtain⟨t,rfl⟩:=e2;exact⟨SeqAt.EqAt.list_int _ _ pl hu0,SeqAt.RcAt.list_int _ _ pl hu0,SeqAt.RcNeAt.list_int _ _ pl hu0⟩
   | str b=>obtain⟨t,rfl⟩:=e2;exact⟨SeqAt.EqAt.list_str _ _ pl hu0,SeqAt.RcAt.list_str _ _ pl hu0,SeqAt.RcNeAt.list_str _ _ pl hu0⟩
   | tup hq' r'=>cases e2;obtain⟨its',rr',pl',_⟩:=tupAt hq' r';exact⟨SeqAt.EqAt.list_tuple pl pl' hu0,SeqAt.RcAt.list_tuple pl pl' hu0,SeqAt.RcNeAt.list_tuple pl pl' hu0⟩
   | @ref j b e' =>
    cases e2
    obtain⟨mo',hm',ws,jts,r',rr',pl',ll'⟩:=lstAt e' o2
    have ok1:mo.items.all (okD M n)=true:=(dh hm o1).2
    have ok2:mo'.items.all (okD M n)=true:=(dh hm' o2).2
    have ek:eqD M (n+1) (.ref i) (.ref j)=eqL (eqD M n) mo.items mo'.items:=by simp only[eqD,hm,hm']
    by_cases hl:mo.items.length=mo'.items.length
    ·have hsz:its.toArray.size=jts.toArray.size:=by rw[AAB,AAB,<-ll,<-ll',hl]
     have h1:=SeqAt.RcAt.lists pl pl' hsz hu0 (items r rr r' rr' ok1 ok2)
     have h2:=SeqAt.RcNeAt.lists pl pl' hsz hu0 (items r rr r' rr' ok1 ok2)
     rw[AAB,<-ll,rng _ _ hl]at h1 h2
     exact fin (.ref e) (.ref e') ek h1 h2
    ·have hsz:(its.toArray.size != jts.toArray.size)=true:=by
      rw[AAB,AAB,<-ll,<-ll']
      simpa using hl
     have h1:=SeqAt.RcAt.lists_lengths pl pl' hsz hu0
     have h2:=SeqAt.RcNeAt.lists_lengths pl pl' hsz hu0
     exact fin (.ref e) (.ref e') (ek.trans (zM hl)) h1 h2
noncomputable def eqN:Nat:=30
def qEq:DR2:=λx y M Q=>(okD M eqN x=true/\okD M eqN y=true)/\Q (.bl (eqD M eqN x y)) M
def qNe:DR2:=λx y M Q=>(okD M eqN x=true/\okD M eqN y=true)/\Q (.bl (!eqD M eqN x y)) M
noncomputable def inD(M:Mem)(x:D)(ys:List D):Bool:=ys.any λy=>eqD M eqN y x
def HF(neg:Bool):DR2:=λx y M Q=>match y with
 | .tup ys=>(okD M eqN x=true/\ys.all (okD M eqN)=true)/\Q (.bl (inD M x ys != neg)) M
 | .ref n=>∃ys,ao M n ys/\(okD M eqN x=true/\ys.all (okD M eqN)=true)/\Q (.bl (inD M x ys != neg)) M
 | .str z=>match x with
  | .str p=>Q (.bl ((!(ACZ z p 0 z.length 1).isEmpty) != neg)) M
  | _=>False
 | _=>False
abbrev qIn:DR2:=HF false
abbrev pR:DR2:=HF true
end
theorem mM(hr:Room k A):A.units+eqN<cLine:=by have:=hr.un;unfold eqN;lia
theorem od_eq{X:Cx}(hr:Room k X.A):OpD X (compareOp .Eq) qEq:=by
 rintro pins s σ H vx vy v u R I rx ry ⟨x,y,M,ρ,Q,sm,r1,r2,⟨⟨o1,o2⟩,q⟩,k⟩
 exact(mD I sm eqN X.A x y vx vy v u (mM hr) r1 rx r2 ry o1 o2).2.1 _ _ _ _ (eB I sm k q)
theorem od_ne{X:Cx}(hr:Room k X.A):OpD X (compareOp .NotEq) qNe:=by
 rintro pins s σ H vx vy v u R I rx ry ⟨x,y,M,ρ,Q,sm,r1,r2,⟨⟨o1,o2⟩,q⟩,k⟩
 exact(mD I sm eqN X.A x y vx vy v u (mM hr) r1 rx r2 ry o1 o2).2.2 _ _ _ _ (eB I sm k q)
theorem qI{pins:List (Addr×Obj)}{σ:St}{H:Hp}{s:Shared}{ρ:List Addr}{M:Mem}(I:Inv X pins σ H s)(sm:Sim X.K ρ M H):∀(n:Nat) (x y z:D) (v:V),Rep X.K ρ H x v->Rep X.K ρ H y v->okD M n x=true->okD M n y=true->eqD M n x z=eqD M n y z:=by
 have all:∀(n:Nat),(∀(x y z:D) (v:V),Rep X.K ρ H x v->Rep X.K ρ H y v->okD M n x=true->okD M n y=true->eqD M n x z=eqD M n y z) ->
   ∀(xs ys zs:List D) (vs:List V),Reps X.K ρ H xs vs->Reps X.K ρ H ys vs->xs.all (okD M n)=true->ys.all (okD M n)=true->eqL (eqD M n) xs zs=eqL (eqD M n) ys zs:=by
  intro n ih xs
  induction xs with
  | nil=>intro ys zs vs h1 h2 _ _;cases h1;cases h2;rfl
  | cons x xs hi =>
   intro ys zs vs h1 h2 o1 o2
   cases h1 with
   | cons r1 t1 =>
    cases h2 with
    | cons r2 t2 =>
     cases zs with
     | nil=>rfl
     | cons z zs =>
      rw[AB6,AAN]at o1 o2
      rw[eqL,eqL,ih _ _ z _ r1 r2 o1.1 o2.1,hi _ zs _ t1 t2 o1.2 o2.2]
 intro n
 induction n with
 | zero =>
  intro x y z v h1 h2 o1 o2
  cases h1<;>cases h2<;>first | rfl | (cases z<;>rfl)
 | succ n ih =>
  intro x y z v h1 h2 o1 o2
  cases h1 with
  | non=>cases h2;rfl
  | bl b=>cases h2;rfl
  | int b=>cases h2;rfl
  | str b=>cases h2;rfl
  | ty b=>cases h2;rfl
  | @tup a vs ds hq r =>
   cases h2 with
   | tup hq' r' =>
    have e:=I.tuple_inj hq hq'
    subst e
    cases z with
    | tup zs=>exact all n ih _ _ zs _ r r' o1 o2
    | _=>rfl
   | @ref i _ e =>
    exfalso
    obtain⟨its,_,⟨o,e1,e2,_⟩,_⟩:=I.tuple hq
    have hi:i<M.length:=by rw[<-sm.len];exact(AA3.mp e).1
    obtain⟨vs',its',_,_,_,⟨o',n',f1,f2,_⟩⟩:=jX I sm e (AA5 hi) (dh (AA5 hi) o2).1
    rw[e1]at f1;cases f1
    rw[e2]at f2;injection f2 with f3;exact absurd f3 (by decide)
  | @ref i a e =>
   have hi:i<M.length:=by rw[<-sm.len];exact(AA3.mp e).1
   have hm:=AA5 hi
   obtain⟨vs,its,hq,r,rr,pl⟩:=jX I sm e hm (dh hm o1).1
   cases h2 with
   | tup hq' r' =>
    exfalso
    obtain⟨its',_,⟨o,e1,e2,_⟩,_⟩:=I.tuple hq'
    obtain⟨o',n',f1,f2,_⟩:=pl
    rw[e1]at f1;cases f1
    rw[e2]at f2;injection f2 with f3;exact absurd f3 (by decide)
   | @ref j _ e' =>
    have hj:j<M.length:=by rw[<-sm.len];exact(AA3.mp e').1
    have hm':=AA5 hj
    obtain⟨vs',its',hq',r',rr',pl'⟩:=jX I sm e' hm' (dh hm' o2).1
    have ev:vs=vs':=I.list_inj hq hq'
    subst ev
    cases z with
    | ref k =>
     simp only[eqD,hm,hm']
     cases M[k]? with
     | none=>rfl
     | some mo=>exact all n ih _ _ _ _ r r' (dh hm o1).2 (dh hm' o2).2
    | _=>rfl
theorem zx{k:Nat}(hr:Room k X.A){pins:List (Addr×Obj)}{σ:St}{H:Hp}{s:Shared}{ρ:List Addr}{M:Mem}(I:Inv X pins σ H s)(sm:Sim X.K ρ M H){x:D}{vx:V}{v:Value}(r1:Rep X.K ρ H x vx)(rx:aU vx v)(o1:okD M eqN x=true) :
  ∀{ys:List D}{ws:List V}{its:List Value},Reps X.K ρ H ys ws->az ws its->ys.all (okD M eqN)=true->∃e:Value->Bool,(∀u∈its,ACP X.A.in1 s u v (e u))/\its.any e=inD M x ys:=by
 have hu:X.A.in1.units+eqN<cLine:=by have:=hr.un;show X.A.units+1+eqN<cLine;unfold eqN;lia
 intro ys ws its rs vs ok
 classical
 refine⟨λu=>if h:∃d v',Rep X.K ρ H d v'/\aU v' u/\okD M eqN d=true then eqD M eqN h.choose x else false,λu hm=>?_,?_⟩
 ·obtain⟨j,hj,ej⟩:=ADu hm
  have lj:j<ws.length:=by rw[vs.length];exact hj
  obtain⟨d,hd,rd⟩:=rs.getV (AA5 lj)
  obtain⟨u',hu',ru⟩:=fZ vs (AA5 lj)
  have:u'=u:=by rw[AA5 hj]at hu';cases hu';exact ej
  subst this
  have okd:=AAO.mp ok _ (AB1 hd)
  have h:∃d v',Rep X.K ρ H d v'/\aU v' u'/\okD M eqN d=true:=⟨d,_,rd,ru,okd⟩
  show ACP X.A.in1 s u' v (if h:_ then _ else _)
  rw[dif_pos h]
  obtain⟨v',p1,p2,p3⟩:=h.choose_spec
  have ev:=aU.inj p2 ru
  subst ev
  rw[qI I sm eqN _ d x _ p1 rd p3 okd]
  exact(mD I sm eqN X.A.in1 d x _ vx _ v hu rd ru r1 rx (AAO.mp ok _ (AB1 hd)) o1).1
 ·clear hu o1
  unfold inD
  induction ys generalizing ws its with
  | nil=>cases rs;cases vs;rfl
  | cons d ds ih =>
   cases rs with
   | cons r t =>
   cases vs with
   | cons q t' =>
    rename_i v' vs' u us
    rw[AB6,AAN]at ok
    have h:∃d v',Rep X.K ρ H d v'/\aU v' u/\okD M eqN d=true:=⟨d,_,r,q,ok.1⟩
    rw[ACX,ACX,ih t t' ok.2,dif_pos h]
    obtain⟨v2,p1,p2,p3⟩:=h.choose_spec
    have ev:=aU.inj p2 q
    subst ev
    rw[qI I sm eqN _ d x _ p1 r p3 ok.1]
theorem Db{X:Cx}(neg:Bool)(hr:Room k X.A):OpD X (compareOp (if neg then .NotIn else .In)) (HF neg):=by
 rintro pins s σ H vx vy v u R I rx ry ⟨x,y,M,ρ,Q,sm,r1,r2,q,k⟩
 cases r2 with
 | non=>exact q.elim
 | bl b=>exact q.elim
 | int b=>exact q.elim
 | ty b=>exact q.elim
 | str z =>
  cases r1 with
  | str p =>
   obtain⟨t,rfl⟩:=rx
   obtain⟨t',rfl⟩:=ry
   cases neg with
   | false=>exact in_str (eB I sm k (by simpa [HF]using q))
   | true=>exact notIn_str (eB I sm k (by simpa [HF]using q))
  | _=>exact q.elim
 | @tup a ws ys hq r =>
  cases ry
  obtain⟨⟨o1,o2⟩,q⟩:=(show (okD M eqN x=true/\_)/\_ from q)
  obtain⟨its,rr,pl,hz⟩:=I.tuple hq
  obtain⟨e,he,ee⟩:=zx hr I sm r1 rx o1 r rr o2
  have ea:its.toArray.any e=inD M x ys:=by rw[<-ee];simp
  cases neg with
  | false=>exact SeqAt.in_tupleAt e pl (λw hw=>he w (by simpa using hw)) (by rw[ea];exact eB I sm k (by simpa using q))
  | true=>exact SeqAt.notIn_tupleAt e pl (λw hw=>he w (by simpa using hw)) (by rw[ea];exact eB I sm k (by simpa using q))
 | ref h =>
  cases ry
  obtain⟨ys,hL,⟨o1,o2⟩,q⟩:=(show ∃ys,ao M _ ys/\(okD M eqN x=true/\_)/\_ from q)
  obtain⟨ws,hq,r⟩:=ao.seq sm hL h
  obtain⟨its,rr,pl,hz⟩:=I.list hq
  obtain⟨e,he,ee⟩:=zx hr I sm r1 rx o1 r rr o2
  have ea:its.toArray.any e=inD M x ys:=by rw[<-ee];simp
  cases neg with
  | false=>exact SeqAt.in_listAt e pl.isList (λw hw=>he w (by simpa using hw)) (by rw[ea];exact eB I sm k (by simpa using q))
  | true=>exact SeqAt.notIn_listAt e pl.isList (λw hw=>he w (by simpa using hw)) (by rw[ea];exact eB I sm k (by simpa using q))
theorem od_in(hr:Room k X.A):OpD X (compareOp .In) qIn:=Db false hr
theorem Bj(hr:Room k X.A):OpD X (compareOp .NotIn) pR:=Db true hr
theorem Ku:bootBuiltins "len" = some (.builtin "len"):=by decide +kernel
theorem Kx:bootBuiltins "all" = some (.builtin "all"):=by decide +kernel
theorem Kw:bootBuiltins "any" = some (.builtin "any"):=by decide +kernel
theorem nU:bootBuiltins "isinstance" = some (.builtin "isinstance"):=by decide +kernel
theorem Ks:bootBuiltins "ord" = some (.builtin "ord"):=by decide +kernel
theorem qZ:bootBuiltins "sorted" = some (.builtin "sorted"):=by decide +kernel
theorem Kv:bootBuiltins "int" = some (.type "int"):=by decide +kernel
theorem Kr:bootBuiltins "str" = some (.type "str"):=by decide +kernel
theorem GF:bootBuiltins "bool" = some (.type "bool"):=by decide +kernel
theorem GD:bootBuiltins "list" = some (.type "list"):=by decide +kernel
theorem CC:bootBuiltins "tuple" = some (.type "tuple"):=by decide +kernel
theorem GE:bootBuiltins "dict" = some (.type "dict"):=by decide +kernel
noncomputable def visB(sc:Scope)(x:Str):Bool:=match sc.names.lookup x with
 | some .local=>true
 | some .cell=>true
 | some .free=>true
 | _=>false
theorem CK(h:visB sc x=true):Vis sc x:=by
 unfold visB at h
 unfold Vis
 split at h
 ·rename_i e;exact .inl e
 ·rename_i e;exact .inr (.inl e)
 ·rename_i e;exact .inr (.inr e)
 ·cases h
noncomputable def GN(sc:Scope)(x:Str):Bool:=match sc.names.lookup x with
 | some .local=>true
 | some .cell=>true
 | _=>false
theorem yS(h:GN sc x=true):Loc sc x:=by
 unfold GN at h
 unfold Loc
 split at h
 ·rename_i e;exact .inl e
 ·rename_i e;exact .inr e
 ·cases h
structure HE(X:Cx)(e:Expr)(t:DTE):Prop where
 ok:DE X e t
structure HT(X:Cx)(e:Expr)(t:DTT):Prop where
 ok:DT X e t
structure HW(X:Cx)(e:Expr)(t:DTT):Prop where
 ok:DW X e t
structure HA(X:Cx)(es:List Expr)(t:DTA):Prop where
 ok:DA X es t
structure HS(X:Cx)(e:Stmt)(t:DTS):Prop where
 ok:DS X e t
structure HB(X:Cx)(e:List Stmt)(t:DTS):Prop where
 ok:DSs X e t
structure HG(X:Cx)(e:Expr)(t:DTG):Prop where
 ok:DG X e t
structure HI(X:Cx)(tg e:Expr)(t:DTI):Prop where
 ok:DI X tg e t
structure HTs(X:Cx)(e:List Expr)(t:DTT):Prop where
 ok:PTs X e (lowT X.K t)
structure HO'(X:Cx)(e:Option Expr)(t:DTO):Prop where
 ok:PO X e (IM X.K t)
structure HOp(X:Cx)(f:Value->Value->Sem Value)(r:DR2):Prop where
 ok:OpD X f r
structure HUn(X:Cx)(f:Value->Sem Value)(r:DR1):Prop where
 ok:UnD X f r
structure HC(X:Cx)(f:Value)(r:DRA):Prop where
 ok:hZ X f r
structure HMs(X:Cx)(name:Str)(r:Str->DRA):Prop where
 ok:∃id,Slot "str" name id/\typeOf (.builtin id)=pure (.type "method_descriptor")/\MtR X id (Bs X.K r)
structure HMl(X:Cx)(name:Str)(r:Nat->DRA):Prop where
 ok:∃id,Slot "list" name id/\typeOf (.builtin id)=pure (.type "method_descriptor")/\MtR X id (nu X.K r)
theorem k_var(hN:X.N[i]?=some x:=by kernel_rfl)(hv:visB X.env.scope x=true:=by kernel_rfl)(hd:(x==("__debug__":Str))=false:=by kernel_rfl)
  (hcd:(x==("__classdict__":Str))=false:=by kernel_rfl):HE X (.Name x pos) (ac i):=⟨d_var hN (CK hv) hd hcd⟩
theorem k_int:HE X (.Constant (.int i) j pos) (dC (.int i)):=⟨d_int⟩
theorem k_bl:HE X (.Constant (.bool i) j pos) (dC (.bl i)):=⟨d_bl⟩
theorem k_non:HE X (.Constant .none j pos) (dC .non):=⟨d_non⟩
theorem k_str:HE X (.Constant (.str i) j pos) (dC (.str i)):=⟨d_str⟩
theorem Fy(hm:∃t,X.mg x=some (.int i t))(hg:X.env.kindOf x=some .globalImplicit:=by kernel_rfl)(hb:(x==("__debug__":Str))=false:=by kernel_rfl):HE X (.Name x pos) (dC (.int i)):=⟨Gr hm hg hb⟩
theorem Jk(hm:X.mg x=none)(hv:bootBuiltins x=some (.type T))(hg:X.env.kindOf x=some .globalImplicit:=by kernel_rfl)(hn:(x==("__name__":Str))=false:=by kernel_rfl)(hb:(x==("__debug__":Str))=false:=by kernel_rfl):HE X (.Name x pos) (dC (.ty T)) :=
 ⟨Kg hm hv hg (by simpa using hn) hb⟩
theorem k_op(ho:HOp X (binaryOp op) r)(ha:HE X a ta)(hb:HE X b tb):HE X (.BinOp a op b pos) (dOp r ta tb):=⟨d_op ho.ok ha.ok hb.ok⟩
theorem k_cmp(ho:HOp X (compareOp op) r)(ha:HE X a ta)(hb:HE X b tb)(hm:behindInMarks op b=false:=by kernel_rfl):HE X (.Compare a [op] [b] pos) (dOp r ta tb):=⟨d_cmp ho.ok ha.ok hb.ok hm⟩
theorem IX(ho:HOp X (compareOp op) r)(ha:HE X a ta)(hb:HE X b tb)(hm:behindInMarks op b=false:=by kernel_rfl):HT X (.Compare a [op] [b] pos) (aB (dOp r ta tb)):=⟨JS ho.ok ha.ok hb.ok hm⟩
theorem FA(ho:HOp X (compareOp op) r)(ho':HOp X (compareOp op') r')(ha:HE X a ta)(hb:HE X b tb)(hc:HE X c tc)(hm:lastMarks [op,op'] [b,c]=false:=by kernel_rfl) :
  HE X (.Compare a [op,op'] [b,c] pos) (gY r r' ta tb tc):=⟨Gu ho.ok ho'.ok ha.ok hb.ok hc.ok hm⟩
theorem IU(h:HE X e te)(he:∀whole,isTrue e X.env whole=(do let v <-whole;standAt e.pos;holding [v] (truthy v)):=by intro _;kernel_rfl):HT X e (aB te):=⟨JQ h.ok he⟩
theorem Fd(ha:HT X a tA):HW X (.BoolOp .And [a] pos) tA:=⟨Gc ha.ok⟩
theorem IS(ha:HT X a tA):HW X (.BoolOp .Or [a] pos) tA:=⟨JO ha.ok⟩
theorem De{X:Cx}{a b:Expr}{bm:List Expr}{pos:Pos}{tA tB:DTT}(ha:HT X a tA)(hb:HW X (.BoolOp .And (b::bm) pos) tB):HW X (.BoolOp .And (a::b::bm) pos) (Kl tA tB):=⟨JP ha.ok hb.ok⟩
theorem IT{X:Cx}{a b:Expr}{bm:List Expr}{pos:Pos}{tA tB:DTT}(ha:HT X a tA)(hb:HW X (.BoolOp .Or (b::bm) pos) tB):HW X (.BoolOp .Or (a::b::bm) pos) (dOr tA tB):=⟨dw_or ha.ok hb.ok⟩
theorem kw_t(h:HW X e tA):HT X e tA:=⟨dw_t h.ok⟩
theorem IV(ha:HT X a tA):HT X (.UnaryOp .Not a pos) (qN tA):=⟨JR ha.ok⟩
theorem k_one{op}(h:HE X a ta):HE X (.BoolOp op [a] pos) ta:=⟨d_one h.ok⟩
theorem k_and{X:Cx}{a b:Expr}{bm:List Expr}{ta tb:DTE}{pos:Pos}(ha:HE X a ta)(hb:HE X (.BoolOp .And (b::bm) pos) tb):HE X (.BoolOp .And (a::b::bm) pos) (db ta tb):=⟨d_and ha.ok hb.ok⟩
theorem k_or{X:Cx}{a b:Expr}{bm:List Expr}{ta tb:DTE}{pos:Pos}(ha:HE X a ta)(hb:HE X (.BoolOp .Or (b::bm) pos) tb):HE X (.BoolOp .Or (a::b::bm) pos) (dOrV ta tb):=⟨d_or ha.ok hb.ok⟩
theorem k_not(ha:HE X a ta):HE X (.UnaryOp .Not a pos) (Cp ta):=⟨d_not ha.ok⟩
theorem Jj:HA X [] ag:=⟨Kf⟩
theorem Fs(ha:HE X e te)(hr:HA X es t)(hs:starEach (e::es) X.env=(false,eval e X.env)::starEach es X.env:=by kernel_rfl):HA X (e::es) (aa te t):=⟨Gp ha.ok hr.ok hs⟩
theorem k_tup{x1}(h:HA X es t):HE X (.Tuple es x1 pos) (iJ t):=⟨d_tup h.ok⟩
theorem k_lst(h:HA X es t):HE X (.List es pos) (gW t):=⟨d_lst h.ok⟩
theorem FB{id:String}{r:DRA}(hc:HC X (.builtin id) r)(hm:X.mg x=none)(hv:bootBuiltins x=some (.builtin id))(ha:HA X (e::es) t)(hg:X.env.kindOf x=some .globalImplicit:=by kernel_rfl)(hn:(x==("__name__":Str))=false:=by kernel_rfl)(hdb:(x==("__debug__":Str))=false:=by kernel_rfl)
  (he:starEach (e::es) X.env=(false,eval e X.env)::starEach es X.env:=by kernel_rfl) (hpl:(backTo pos (starEach es X.env)).any (·.1)=false:=by kernel_rfl):HE X (.Call (.Name x p) (e::es) [] pos) (dCB r t):=⟨Gv hc.ok hm hv ha.ok hg (by simpa using hn) hdb he hpl⟩
theorem BK(hc:HC X (.type T) r)(hm:X.mg x=none)(hv:bootBuiltins x=some (.type T))(ha:HA X (e::es) t)(hg:X.env.kindOf x=some .globalImplicit:=by kernel_rfl)(hn:(x==("__name__":Str))=false:=by kernel_rfl)(hdb:(x==("__debug__":Str))=false:=by kernel_rfl)
  (he:starEach (e::es) X.env=(false,eval e X.env)::starEach es X.env:=by kernel_rfl) (hpl:(backTo pos (starEach es X.env)).any (·.1)=false:=by kernel_rfl):HE X (.Call (.Name x p) (e::es) [] pos) (dCB r t):=⟨Co hc.ok hm hv ha.ok hg (by simpa using hn) hdb he hpl⟩
theorem k_cal(C:Cal X.prog X.w X.K X.mg X.base j x ps P)(hr:Room k X.A)(ha:HA X (e::es) t)(hj:Nat.ble j k=true:=by kernel_rfl)
  (hg:X.env.kindOf x=some .globalImplicit:=by kernel_rfl) (hdb:(x==("__debug__":Str))=false:=by kernel_rfl) (he:starEach (e::es) X.env=(false,eval e X.env)::starEach es X.env:=by kernel_rfl) (hpl:(backTo pos (starEach es X.env)).any (·.1)=false:=by kernel_rfl) :
  HE X (.Call (.Name x p) (e::es) [] pos) (dCB P t):=⟨d_cal C hr ha.ok (ACC hj) hg hdb he hpl⟩
theorem k_ix(ha:HE X a ta)(hb:HE X b tb)(hs:nZ b:=by intro _ _;kernel_rfl):HE X (.Subscript a b pos) (dOp qIx ta tb):=⟨d_ix ha.ok hb.ok hs⟩
theorem Fl:HO' X none cI:=⟨Gk⟩
theorem Fj(h:HE X e te):HO' X (some e) (iL te):=⟨Gj h.ok⟩
theorem Fv{lo hi:Option Expr}{tl th:DTO}{p2:Pos}(he:HE X e te)(hl:HO' X lo tl)(hu:HO' X hi th):HE X (.Subscript e (.Slice lo hi none p2) pos) (dSl te tl th):=⟨Gq he.ok hl.ok hu.ok⟩
theorem k_ms(hm:HMs X name r)(ho:HE X o to)(ha:HA X (e::es) t)
  (hbase:attributeBase o name X.env (eval o X.env)=eval o X.env:=by kernel_rfl)
  (hfew:((backTo cpos (starEach (e::es) X.env)).all (λx=>!x.1)&&(backToKw cpos (keywordEach [] X.env)).all (λx=>x.1.isSome)
   && decide ((e::es).length+([]:List Keyword).length+(if ([]:List Keyword).isEmpty then 0 else 1)<30))=true:=by kernel_rfl)
  (hline:(apos.endLine==cpos.line)=true:=by kernel_rfl) (hs:starEach (e::es) X.env=(false,eval e X.env)::starEach es X.env:=by kernel_rfl) (hplain:(backTo cpos (starEach es X.env)).any (·.1)=false:=by kernel_rfl) :
  HE X (.Call (.Attribute o name apos) (e::es) [] cpos) (dMs r to t):=let ⟨_,h1,h2,h3⟩:=hm.ok;⟨d_ms h1 h2 h3 ho.ok ha.ok hbase hfew hline hs hplain⟩
theorem k_ml(hm:HMl X name r)(ho:HE X o to)(ha:HA X (e::es) t)
  (hbase:attributeBase o name X.env (eval o X.env)=eval o X.env:=by kernel_rfl)
  (hfew:((backTo cpos (starEach (e::es) X.env)).all (λx=>!x.1)&&(backToKw cpos (keywordEach [] X.env)).all (λx=>x.1.isSome)
   && decide ((e::es).length+([]:List Keyword).length+(if ([]:List Keyword).isEmpty then 0 else 1)<30))=true:=by kernel_rfl)
  (hline:(apos.endLine==cpos.line)=true:=by kernel_rfl) (hs:starEach (e::es) X.env=(false,eval e X.env)::starEach es X.env:=by kernel_rfl) (hplain:(backTo cpos (starEach es X.env)).any (·.1)=false:=by kernel_rfl) :
  HE X (.Call (.Attribute o name apos) (e::es) [] cpos) (dMl r to t):=let ⟨_,h1,h2,h3⟩:=hm.ok;⟨d_ml h1 h2 h3 ho.ok ha.ok hbase hfew hline hs hplain⟩
theorem IZ:HB X [] aR:=⟨JW⟩
theorem IY{X:Cx}{st:Stmt}{ts:DTS}(h:HS X st ts):HB X [st] ts:=⟨JV h.ok⟩
theorem Fi{X:Cx}{st:Stmt}{sts:List Stmt}{ts us:DTS}(h1:HS X st ts)(h2:HB X sts us):HB X (st::sts) (aF ts us):=⟨Gi h1.ok h2.ok⟩
theorem zf(he:HE X e te)(hs:swapsWith e none pos.line X.env=pure false:=by kernel_rfl):HS X (.Expr e pos) (eU te):=⟨Gg he.ok hs⟩
theorem Dh(he:HE X e te):HS X (.Return (some e) pos) (aX te):=⟨JU he.ok⟩
theorem Ja(hc:HT X c tA)(ha:HB X aS ts)(hb:HB X bS us):HS X (.If c aS bS pos) (dIf tA ts us):=⟨ds_if hc.ok ha.ok hb.ok⟩
theorem Dg(hN:X.N.Nodup)(he:HE X e te)(hi:X.N[i]?=some x:=by kernel_rfl)(hx:GN X.env.scope x=true:=by kernel_rfl)(hs:swapsWith e (some (.Name x pos')) pos.line X.env=pure false:=by kernel_rfl)
  (hf:X.fn x=true:=by kernel_rfl):HS X (.Assign [.Name x pos'] e pos) (bq te i):=⟨JT hN he.ok hi (yS hx) hs (.inl hf)⟩
theorem Fp(hN:X.N.Nodup)(hi:X.N[i]?=some x:=by kernel_rfl)(hx:GN X.env.scope x=true:=by kernel_rfl)(hf:X.fn x=true:=by kernel_rfl):HG X (.Name x pos) (ax i):=⟨tj hN hi (yS hx) (.inl hf)⟩
theorem Jf(hN:X.N.Nodup)(hi:X.N[i]?=some x:=by kernel_rfl)(hf:X.env.scope.names.lookup x=some .local:=by kernel_rfl):HG X (.Name x pos) (ax i):=⟨tj hN hi (.inl hf) (.inr hf)⟩
theorem Jc(h:HE X e te):HI X tg e (bo te):=⟨Kb h.ok⟩
theorem Di{body:List Stmt}{tb:DTS}(hi:HI X tg iter di)(hg:HG X tg g)(hb:HB X body tb)(hp:PassesOwn (model X.prog X.w) X.A X.env X.xe:=by exact PassesOwn.never)(hc:X.calm=true:=by kernel_rfl)
  (hs:∀x,foldedSetIterable iter X.env x=pure x:=by intro _;kernel_rfl):HS X (.For tg iter body [] pos) (oo di g tb):=⟨JX hi.ok hg.ok hb.ok hp hc hs⟩
theorem Fh:HTs X [] jm:=⟨Ge⟩
theorem Fg(h:HT X c tA):HTs X [c] tA:=⟨Gd h.ok⟩
theorem k_lc(hi:HI X tg iter di)
  (hg:∀cl s0 H0 ex,HG (blk X N' scope cl s0 H0 ex) tg g) (ht:∀cl s0 H0 ex,HTs (blk X N' scope cl s0 H0 ex) ifs tt) (he:∀cl s0 H0 ex,HE (blk X N' scope cl s0 H0 ex) elt te) (B:mJ X.env.scope.names X.N N' nt js scope=true:=by kernel_rfl) (hc:X.calm=true:=by kernel_rfl)
  (hs:∀x,foldedSetIterable iter X.env x=pure x:=by intro _;kernel_rfl):HE X (.ListComp elt [⟨tg,iter,ifs,0⟩] scope pos) (dLC nt js di g tt te):=⟨d_lc (BlkSc.chk B) hi.ok (λcl s0 H0 ex=>(hg cl s0 H0 ex).ok) (λcl s0 H0 ex=>(ht cl s0 H0 ex).ok) (λcl s0 H0 ex=>(he cl s0 H0 ex).ok) hc hs⟩
theorem zi(hm:X.mg "range" = none)(ha:HA X [a] t)(hg:X.env.kindOf "range" = some .globalImplicit:=by kernel_rfl)(hs:starEach [a] X.env=[(false,eval a X.env)]:=by kernel_rfl):HI X tg (.Call (.Name "range" p) [a] [] pos) (da t):=⟨zT hm ha.ok hg hs⟩
theorem zh(hm:X.mg "range" = none)(ha:HA X [a,b] t)(hg:X.env.kindOf "range" = some .globalImplicit:=by kernel_rfl)(hs:starEach [a,b] X.env=[(false,eval a X.env),(false,eval b X.env)]:=by kernel_rfl)(hs2:starEach [b] X.env=[(false,eval b X.env)]:=by kernel_rfl) :
  HI X tg (.Call (.Name "range" p) [a,b] [] pos) (iK t):=⟨zS hm ha.ok hg hs hs2⟩
theorem Jw:HOp X (binaryOp .Sub) AN:=⟨IE⟩
theorem Jy:HOp X (binaryOp .Mult) jf:=⟨EM⟩
theorem FK:HOp X (binaryOp .FloorDiv) mV:=⟨EN⟩
theorem Jz:HOp X (binaryOp .Mod) vK:=⟨IG⟩
theorem ho_lt:HOp X (compareOp .Lt) qLt:=⟨II⟩
theorem ho_le:HOp X (compareOp .LtE) qLe:=⟨od_le⟩
theorem ho_gt:HOp X (compareOp .Gt) qGt:=⟨od_gt⟩
theorem ho_ge:HOp X (compareOp .GtE) qGe:=⟨od_ge⟩
theorem ho_is:HOp X (compareOp .Is) qIs:=⟨od_is⟩
theorem ho_eq(hr:Room k X.A):HOp X (compareOp .Eq) qEq:=⟨od_eq hr⟩
theorem ho_ne(hr:Room k X.A):HOp X (compareOp .NotEq) qNe:=⟨od_ne hr⟩
theorem ho_in(hr:Room k X.A):HOp X (compareOp .In) qIn:=⟨od_in hr⟩
theorem BP(hr:Room k X.A):HOp X (compareOp .NotIn) pR:=⟨Bj hr⟩
theorem JD:HC X (.builtin "len") eP:=⟨Kn⟩
theorem JG(hc:X.calm=true:=by kernel_rfl):HC X (.builtin "all") Ao:=⟨Kq hc⟩
theorem JF(hc:X.calm=true:=by kernel_rfl):HC X (.builtin "any") HH:=⟨Kp hc⟩
theorem JE:HC X (.builtin "isinstance") pS:=⟨Ko⟩
theorem JC:HC X (.builtin "ord") Hz:=⟨Km⟩
theorem zD:HMl X "append" dF:=⟨_,PySem.F.slot_list_append,PySem.F.type_list_append,vW⟩
theorem Cal.byH{P:Program}{w:World}{K:AA2}{mg:Str->Option Value}{base:Heap}{x:Str}{st:Stmt}{N ps:List Str}{k:Nat}{Pr:DSp}(F:bV K mg x st ps)(Sc:FnScope N ps (aw st))
  (len:∀ds M R,Pr ds M R->ds.length=ps.length) {t:DTS}
  (der:∀(f:Addr) (cdv:Value) (A:Around) (outer:List Env) (s:Shared) (H:Hp) (E:XK),Room k (A.deeper (envOfC x (aw st) s.heap.objs.size f cdv))->HB (wK CX0 P w K mg base N x (aw st) f cdv A outer s H E).nox (bj st) t)
  (wp:∀ds M R,Pr ds M R->t ⟨λ_ M'=>aI M R .non M',aI M R,λ_ _=>False,λ_ _=>False⟩ (bL N ds) M):Cal P w K mg base (k+1) x ps Pr :=
 Cal.of F Sc len (λf cdv A outer s H E hr=>(der f cdv A outer s H E hr).ok) wp
theorem Ca{P:Program}{w:World}{K:AA2}{mg:Str->Option Value}{base:Heap}{x:Str}{st:Stmt}{N ps:List Str}{k:Nat}{Pr:DSp}{f:Addr}{fd:FuncData}(F:Fun K x x st f fd)(Sc:FnScope N ps (aw st))
  (len:∀ds M R,Pr ds M R->ds.length=ps.length) {t:DTS}
  (der:∀(f:Addr) (cdv:Value) (A:Around) (outer:List Env) (s:Shared) (H:Hp) (E:XK),Room k (A.deeper (envOfC x (aw st) s.heap.objs.size f cdv))->HB (wK CX0 P w K mg base N x (aw st) f cdv A outer s H E).nox (bj st) t)
  (wp:∀ds M R,Pr ds M R->t ⟨λ_ M'=>aI M R .non M',aI M R,λ_ _=>False,λ_ _=>False⟩ (bL N ds) M):FnOk P w K mg base CX0 (k+1) f fd ps (spL K Pr) :=
 FY F Sc len (λf cdv A outer s H E hr=>(der f cdv A outer s H E hr).ok) wp
theorem fi(I:List D->SD->Mem->Prop)(h0:∀S M,I [] S M->ok M/\E.nx S M)
  (h1:∀x xs S M,I (x::xs) S M->∀L:SD->Mem->Prop,(∀S' M',I xs S' M'->L S' M')->ok M/\g x S M λS2 M2=>tb ⟨Fgt k0 L,E.rt,E.nx,Fgt k0 L⟩ S2 M2) :
  ∀xs S M,I xs S M->qP ok g tb E k0 xs S M
 | [],S,M,h=>h0 S M h
 | x::xs,S,M,h=>h1 x xs S M h _ (fi I h0 h1 xs)
theorem bY(I:Nat->SD->Mem->Prop)(h0:∀S M,I xs.length S M->ok M/\E.nx S M)
  (h1:∀i x S M,xs[i]?=some x->I i S M->∀L:SD->Mem->Prop,(∀S' M',I (i+1) S' M'->L S' M')->ok M/\g x S M λS2 M2=>tb ⟨Fgt k0 L,E.rt,E.nx,Fgt k0 L⟩ S2 M2)
 (h:I 0 S M):qP ok g tb E k0 xs S M:=by
 refine fi (λys S M=>∃i,xs.drop i=ys/\i+ys.length=xs.length/\I i S M) ?_ ?_ xs S M ⟨0,rfl,by simp,h⟩
 ·rintro S M ⟨i,_,e,q⟩
  have:i=xs.length:=by simpa using e
  subst this
  exact h0 S M q
 ·rintro x ys S M ⟨i,e,el,q⟩ L hL
  have hx:xs[i]?=some x:=by
   have:(xs.drop i)[0]?=some x:=by rw[e];rfl
   simpa using this
  refine h1 i x S M hx q L λS' M' q'=>hL S' M' ⟨i+1,?_,by simp at el;lia,q'⟩
  rw[<-List.drop_drop,e]
  rfl
theorem Fgt.now(h:P S M):Fgt k0 P S M:=.inl h
theorem gz{lo:Int}{n i:Nat}{x:D}:(mU lo n)[i]?=some x↔i<n/\x=.int (lo+(i:Int)):=by
 unfold mU
 rw[AAU]
 by_cases h:i<n
 ·simp[h,eq_comm]
 ·simp[h]
theorem dD{lo:Int}{n:Nat}:(mU lo n).length=n:=by simp[mU]
theorem bt(p:D->Bool)(f:D->D)(I:SD->Prop)(hok:ok M) :
  ∀(xs acc:List D) (S:SD),(∀x∈xs,∀S,I S->∃S',I S'/\∀(Y:D->SD->Mem->Prop) (Z:SD->Mem->Prop),(if p x=true then Y (f x) S' M else Z S' M) ->
    g x S M λS2 M2=>tt S2 M2 λb M3=>if b=true then te S2 M3 λy M4=>Y y S2 M4 else Z S2 M3) ->
   I S->acc.length+xs.length<=sizeLine->Q (.ref M.length) (M++[.lst (acc++(xs.filter p).map f)])->jo ok g tt te Q xs acc S M
 | [],acc,S,_,_,_,q=>⟨hok,by simpa using q⟩
 | x::xs,acc,S,step,hS,hl,q=>by
  obtain⟨S',hS',k⟩:=step x AAG S hS
  refine⟨hok,k (λy S2 M4=>acc.length<sizeLine/\jo ok g tt te Q xs (acc++[y]) S2 M4) (λS2 M3=>jo ok g tt te Q xs acc S2 M3) ?_⟩
  have step':=λy hy=>step y (AA8 _ hy)
  rw[AAD]at hl
  by_cases hp:p x=true
  ·rw[if_pos hp]
   refine⟨by lia,bt p f I hok xs _ S' step' hS' (by rw[AA9,AAb];lia) ?_⟩
   rw[List.filter_cons_of_pos hp,AAH]at q
   rw[AAs]
   exact q
  ·rw[if_neg hp]
   refine bt p f I hok xs acc S' step' hS' (by lia) ?_
   rw[List.filter_cons_of_neg hp]at q
   exact q
theorem aW(f:D->D)(I:SD->Prop)(hok:ok M)
  (xs acc:List D) (S:SD) (step:∀x∈xs,∀S,I S->∃S',I S'/\∀(Y:D->SD->Mem->Prop),Y (f x) S' M->g x S M λS2 M2=>te S2 M2 λy M4=>Y y S2 M4)
  (hS:I S) (hl:acc.length+xs.length<=sizeLine) (q:Q (.ref M.length) (M++[.lst (acc++xs.map f)])):jo ok g jm te Q xs acc S M:=by
 refine bt (λ_=>true) f I hok xs acc S (λx hx S hS=>?_) hS hl (by rw[List.filter_eq_self.mpr λ_ _=>rfl];exact q)
 obtain⟨S',hS',k⟩:=step x hx S hS
 refine⟨S',hS',λY Z h=>?_⟩
 rw[if_pos rfl]at h
 have:=k Y h
 simp only[jm,if_true]
 exact this
theorem aq:(M++[mo])[M.length]?=some mo:=by simp
theorem ak:ao (M++[.lst xs]) M.length xs:=.inl aq
theorem ao.more(h:ao M n xs)(L:Mem):ao (M++L) n xs:=by
 have key:∀{mo:MO},M[n]?=some mo->(M++L)[n]?=some mo:=λe=>by
  rw[AAJ (AA3.mp e).1];exact e
 rcases h with h | h | h
 ·exact .inl (key h)
 ·exact .inr (.inl (key h))
 ·exact .inr (.inr (key h))
theorem ao.lt(h:ao M n xs):n<M.length:=by
 rcases h with h | h | h<;>exact(AA3.mp h).1
theorem ao.ty(h:ao M n xs):tyD M (.ref n) = "list":=by
 show (match M[n]? with | some mo=>if mo.isL=true then "list" else "?" | none=>"?") = "list"
 rcases h with h | h | h<;>(rw[h];rfl)
theorem aI.keep(h:R d M)(b:Bel M.length d)(p:M <+: M'):aI M R d M':=.inr (.inl ⟨M,.refl,b,p,h⟩)
theorem aI.now(h:R d M):aI M R d M:=.inl h
theorem aI.bl(h:R (.bl b) M)(p:M <+: M'):aI M R (.bl b) M':=.keep h (.bl b) p
theorem aI.non(h:R .non M)(p:M <+: M'):aI M R .non M':=.keep h .non p
theorem pW:M <+: M++[mo]:=AAx _ _
theorem xI{a b:Str}(h:a.cps.toList=b.cps.toList):a=b:=by
 cases a;cases b
 simp only[Array.toList_inj]at h
 simpa using h
theorem aC{a:Str}:a.length=a.cps.toList.length:=by show a.cps.size=_;simp
theorem bz{a b:Str}:(a++b).cps.toList=a.cps.toList++b.cps.toList:=by
 show (a.cps++b.cps).toList=_
 simp
theorem GH{a b:Str}:(a++b).length=a.length+b.length:=by
 rw[aC,aC,aC,bz,AA9]
theorem yw:(⟨#[c]⟩:Str).length=1:=rfl
theorem aA(h:n<=1000):n<=sizeLine:=AE2 (small1000 h)
theorem glob_mk{K:AA2}{h:Heap}{mg:Str->Option Value}{x:Str}{u:Value}{i:Int}(X:K.In h)(G:h.Ns mainGlobals mg)(a:ABC K mainGlobals x=some (some u))(b:∃t,u=Value.int i t):∃t,mg x=some (.int i t):=by
 obtain⟨t,rfl⟩:=b
 exact⟨t,AEF X G a⟩
theorem er{α:Type}{xs:List α}{i:Int}(h0:0<=i)(h1:i<xs.length):∃(j:Nat) (hj:j<xs.length),atI xs i=some xs[j]/\(j:Int)=i:=by
 have hj:i.toNat<xs.length:=by lia
 refine⟨i.toNat,hj,?_,by lia⟩
 have e:i=((i.toNat:Nat):Int):=by lia
 have q:atI xs ((i.toNat:Nat):Int)=some xs[i.toNat]:=aM (AA5 hj)
 rw[<-e]at q
 exact q
def nW(M:Mem)(d:D):Prop:=tyD M d∈lA/\∀x,d=.str x->x.length<=sizeLine
theorem wY:nW M .non:=⟨by simp[tyD,lA],λ_ h=>by cases h⟩
theorem AD:nW M (.bl b):=⟨by simp[tyD,lA],λ_ h=>by cases h⟩
theorem wZ:nW M (.int b):=⟨by simp[tyD,lA],λ_ h=>by cases h⟩
theorem wV:nW M (.tup b):=⟨by simp[tyD,lA],λ_ h=>by cases h⟩
theorem wW(h:x.length<=1000):nW M (.str x):=⟨by simp[tyD,lA],λ_ e=>by cases e;exact aA h⟩
theorem wX(h:ao M n xs):nW M (.ref n):=⟨by rw[h.ty];simp[lA],λ_ e=>by cases e⟩
theorem cx(h:tyD M (.ref n)∈lA):tyD M (.ref n) = "list":=by
 unfold tyD at h ⊢
 try dsimp only at h ⊢
 cases e:M[n]? with
 | some mo =>
  rw[e]at h
  cases q:mo.isL with
  | true=>exact if_pos q
  | false =>
   simp only[q,AAZ,if_false]at h
   exact absurd h (by decide)
 | none=>rw[e]at h;exact absurd h (by decide)
theorem ao.get(h:ao M n xs):∃mo,M[n]?=some mo/\mo.items=xs/\mo.isL=true:=by
 rcases h with h | h | h<;>exact⟨_,h,rfl,rfl⟩
theorem Cd(h1:ao M i xs)(h2:ao M j ys):eqD M (n+1) (.ref i) (.ref j)=eqL (eqD M n) xs ys:=by
 obtain⟨a,ha,rfl,hl1⟩:=h1.get
 obtain⟨b,hb,rfl,hl2⟩:=h2.get
 simp only[eqD,ha,hb]
theorem yG(h1:ao M i xs)(h:∀x∈xs,okD M n x=true):okD M (n+1) (.ref i)=true:=by
 obtain⟨a,ha,rfl,hl1⟩:=h1.get
 simp only[okD,ha,hl1,ABR]
 exact AAO.mpr h
theorem yF(h:∀x∈xs,okD M n x=true):okD M (n+1) (.tup xs)=true:=by
 simp only[okD]
 exact AAO.mpr h
theorem aJ:okD M n (.str x)=true:=by cases n<;>rfl
theorem au:okD M n (.int x)=true:=by cases n<;>rfl
theorem uC:okD M n (.bl x)=true:=by cases n<;>rfl
theorem ni:okD M n .non=true:=by cases n<;>rfl
theorem FZ:eqL f xs []=xs.isEmpty:=by cases xs<;>rfl
theorem bb:eqD M n (.int a) (.int b)=(a==b):=by cases n<;>rfl
theorem bG:eqD M n (.str a) (.str b)=(a==b):=by cases n<;>rfl
noncomputable def chD:D->Nat
 | .str x=>x.cps.toList.headD 0
 | _=>0
def qM:Ds:=λds S M Q=>match ds with
 | []=>Q S M
 | _=>False
def dn(t:DTG)(u:Ds):Ds:=λds S M Q=>match ds with
 | d::r=>t d S M λS' M'=>u r S' M' Q
 | []=>False
def qL(n:Nat)(t:Ds):DTG:=λd S M Q=>match d with
 | .tup ds=>ds.length=n/\t ds S M Q
 | _=>False
theorem Gm:DGs X [] qM:=by
 rintro pins s σ H vs us R I r ⟨ds,S,M,ρ,Q,sm,sr,rr,q,k⟩
 cases rr with
 | nil=>exact Eo pins s σ H _ us R I r ⟨rfl,k σ H ⟨S,M,ρ,sm,.refl,sr,q⟩⟩
 | cons _ _=>exact q.elim
theorem Ck(h1:DG X e t)(h2:DGs X es u)
  (hs:(assignEach (e::es) X.env).map (·.2)=assign e X.env::(assignEach es X.env).map (·.2):=by rfl):DGs X (e::es) (dn t u):=by
 rintro pins s σ H vs us R I r ⟨ds,S,M,ρ,Q,sm,sr,rr,q,k⟩
 cases rr with
 | nil=>exact q.elim
 | cons r1 rr =>
  refine AX h1 h2 hs pins s σ H _ us R I r ⟨_,_,rfl,_,S,M,ρ,_,sm,sr,r1,q,?_⟩
  rintro σ1 H1 ⟨S1,M1,ρ1,s1,g1,sr1,q1⟩
  exact⟨_,S1,M1,ρ1,Q,s1,sr1,rr.grow g1,q1,λσ' H' w=>k σ' H' (SQ.trans g1 w)⟩
theorem Kc(h:DGs X es t)(hc:X.calm=true:=by rfl)
  (hn:(assignEach es X.env).length=n:=by rfl) (hst:(assignEach es X.env).findIdx? (·.1)=none:=by rfl):DG X (.Tuple es j pos) (qL n t):=by
 rintro pins s σ H v u R I r ⟨d,S,M,ρ,Q,sm,sr,rd,q,k⟩
 cases rd with
 | tup hq rr=>exact HV hc h hn hst pins s σ H _ u R I r ⟨_,_,rfl,hq,by rw[<-rr.length];exact q.1,_,S,M,ρ,Q,sm,sr,rr,q.2,k⟩
 | _=>exact q.elim
def dAsg(te:DTE)(g:DTG):DTS:=λE S M=>te S M λd M1=>g d S M1 E.nx
theorem JY(he:DE X e te)(hg:DG X tg g)(hs:swapsWithSole [tg] e pos.line X.env=pure false:=by rfl)(hw:swappedStores [tg] e X.env=pure none:=by rfl)
  (h1:(assignEach [tg] X.env).map (·.2)=[assign tg X.env]:=by rfl):DS X (.Assign [tg] e pos) (dAsg te g):=by
 refine PS.imp (HU he hg hs hw h1) ?_
 rintro E σ H ⟨S,M,ρ,F,s,sr,q,k⟩
 refine⟨S,M,ρ,_,s,sr,q,?_⟩
 rintro v H1 ⟨d,M1,ρ1,s1,g1,r1,q1⟩
 exact⟨d,S,M1,ρ1,_,s1,sr.grow g1,r1,q1,λσ' H' w=>k.nx σ' H' (SQ.trans g1 w)⟩
def qSet:D->D->D->Mem->(Mem->Prop)->Prop:=λo i v M Q=>match o,i with
 | .ref n,.int k=>∃xs j,M[n]?=some (.lst xs)/\ixN xs.length k=some j/\Q (M.set n (.lst (xs.set j v)))
 | _,_=>False
theorem Reps.set{K:AA2}{ρ:List Addr}{H:Hp}{d:D}{v:V}(r:Rep K ρ H d v):∀{ds:List D}{vs:List V} (i:Nat),Reps K ρ H ds vs->Reps K ρ H (ds.set i d) (vs.set i v)
 | _,_,_,.nil=>.nil
 | _,_,0,.cons _ t=>.cons r t
 | _,_,i+1,.cons q t=>.cons q (Reps.set r i t)
def Cl(to ti:DTE):DTG:=λv S M Q=>to S M λo M1=>ti S M1 λi M2=>qSet o i v M2 λM3=>Q S M3
theorem Kd(ho:DE X o to)(hi:DE X i ti)
  (ha:∀v,assign (.Subscript o i pos) X.env v=(do
   let ov <-holding [v] (eval o X.env)
   let iv <-holding [v,ov] (eval i X.env)
   standAt pos
   holding [v,ov,iv] (setItem ov iv v)
   release [v,ov,iv] []):=by intro _;rfl):DG X (.Subscript o i pos) (Cl to ti):=by
 rintro pins s σ H v u R I r ⟨d,S,M,ρ,Q,sm,sr,rd,q,k⟩
 refine HY ho hi AJ ha pins s σ H v u R I r ⟨S,M,ρ,_,sm,sr,q,?_⟩
 rintro vo H1 ⟨o',M1,ρ1,s1,g1,r1,q1⟩
 refine⟨S,M1,ρ1,_,s1,sr.grow g1,q1,?_⟩
 rintro vi H2 ⟨i',M2,ρ2,s2,g2,r2,q2⟩
 have r1':=r1.grow g2
 cases r1' with
 | @ref n a hn =>
  cases r2 with
  | int j =>
   obtain⟨xs,jj,e,hj,q3⟩:=(show ∃xs j',M2[n]?=some (.lst xs)/\ixN xs.length j=some j'/\Q S (M2.set n (.lst (xs.set j' d)))from q2)
   obtain⟨vs,hH,rr⟩:=s2.obj n a _ hn e
   obtain⟨w1,w2⟩:=s2.write hn e hH (Reps.set (rd.grow (g1.trans g2)) jj rr)
   exact⟨a,vs,j,jj,rfl,rfl,hH,by rw[<-rr.length];exact hj,k σ _ ⟨S,_,ρ2,w1,(g1.trans g2).trans w2,sr.grow ((g1.trans g2).trans w2),q3⟩⟩
  | _=>exact q2.elim
 | _=>exact q2.elim
def cy:DRA:=λds M Q=>match ds with
 | [.ref n]=>∃xs,ao M n xs/\Q (.tup xs) M
 | [.tup xs]=>Q (.tup xs) M
 | _=>False
theorem Cz:hZ X (.type "tuple") cy:=by
 refine fb.imp nS ?_
 rintro vs H R ⟨ds,M,ρ,Q,sm,rs,q,k⟩
 unfold cy at q
 split at q
 ·obtain⟨xs,hL,q⟩:=q
  first | have hzz:=Reps.inv_cons rs | have hzz:=az.inv_cons rs
  clear rs
  obtain⟨_,_,rfl,r1,rs⟩:=hzz
  cases rs
  obtain⟨_,rfl,e⟩:=Rep.inv_ref r1
  obtain⟨ws,hq,r⟩:=ao.seq sm hL e
  exact⟨_,ws,rfl,.inl ⟨hq,λl hl=>k _ _ (VQ.laidT sm .refl r hl q)⟩⟩
 ·first | have hzz:=Reps.inv_cons rs | have hzz:=az.inv_cons rs
  clear rs
  obtain⟨_,_,rfl,r1,rs⟩:=hzz
  cases rs
  cases r1 with
  | tup hq r=>exact⟨_,_,rfl,.inr ⟨hq,k _ H (VQ.now sm (.tup hq r) q)⟩⟩
 ·exact q.elim
theorem Bf:OpR X (binaryOp .Add) (λx y H Q=>∃a b ys,x=.ref a/\y=.ref b/\SqT X.K H a []/\SqT X.K H b ys/\Q (.ref b) H):=by
 intro pins s σ H x y v u Q I rx ry h
 obtain⟨a,b,ys,rfl,rfl,ha,hb,q⟩:=h
 cases rx
 cases ry
 obtain⟨its,r1,p1,_⟩:=I.tuple ha
 obtain⟨its2,r2,p2,_⟩:=I.tuple hb
 have e:its=[]:=r1.nil_iff.mpr rfl
 subst e
 obtain⟨⟨cls,dd,data,sl⟩,ho,hc,n,hd⟩:=id p1
 obtain⟨⟨cls2,dd2,data2,sl2⟩,ho2,hc2,n2,hd2⟩:=id p2
 simp only at hc hd hc2 hd2
 subst hc hd hc2 hd2
 exact concat_meets ⟨_,ho,rfl⟩ ⟨_,ho2,rfl⟩ noFill_tuple_add seq_tuple_add ADJ AD8 (AD3 _ _)
  (tuple_addW0 a b _ _ n n2 dd dd2 sl sl2 (by simp)) ⟨ho,ho2,⟨.ref b,H,I,rfl,q⟩⟩
def aP:DR2:=λx y M Q=>match x,y with
 | .tup xs,.tup ys=>xs.length+ys.length<=sizeLine/\Q (.tup (xs++ys)) M
 | _,_=>qAdd x y M Q
theorem EO:OpD X (binaryOp .Add) aP:=by
 rintro pins s σ H vx vy v u R I rx ry ⟨x,y,M,ρ,Q,sm,r1,r2,q,k⟩
 unfold aP at q
 split at q
 ·rename_i xs ys
  obtain⟨a,vs,rfl,h1,t1⟩:=Rep.inv_tup r1
  obtain⟨b,ws,rfl,h2,t2⟩:=Rep.inv_tup r2
  have l1:=t1.length
  have l2:=t2.length
  cases xs with
  | nil =>
   cases t1
   exact Bf pins s σ H _ _ v u R I rx ry ⟨a,b,ws,rfl,rfl,h1,h2,k _ H (VQ.now sm (.tup h2 t2) q.2)⟩
  | cons x0 xs0 =>
   refine EH pins s σ H _ _ v u R I rx ry ⟨a,b,vs,ws,rfl,rfl,h1,h2,?_,by rw[<-l1,<-l2];exact q.1,λz=>?_,λ_ p hp=>k _ _ (VQ.laidT sm .refl (t1.append t2) hp q.2)⟩
   ·intro z
    subst z
    simp at l1
   ·subst z
    have:ys=[]:=by simpa using l2
    subst this
    rw[AB8]at q
    exact k _ H (VQ.now sm (.tup h1 t1) q.2)
 ·exact IJ pins s σ H vx vy v u R I rx ry ⟨x,y,M,ρ,Q,sm,r1,r2,q,k⟩
def kg(n:Nat):DRA:=λds M Q=>match ds with
 | [.ref m]=>∃xs ys,M[n]?=some (.lst xs)/\M[m]?=some (.lst ys)/\n≠m/\xs.length+ys.length<=sizeLine/\Q .non (M.set n (.lst (xs++ys)))
 | _=>False
theorem vV:MtR X "list.extend" (nu X.K kg):=by
 rintro pins s σ H x xs v us R I rx rs ⟨n,a,ds,M,ρ,Q,ez,hn,sm,rr,q,k⟩
 unfold kg at q
 split at q
 ·rename_i m
  obtain⟨ys,zs,e,e2,hne,hl,q⟩:=q
  first | have hzz:=Reps.inv_cons rr | have hzz:=az.inv_cons rr
  clear rr
  obtain⟨_,_,rfl,r1,rr⟩:=hzz
  cases rr
  obtain⟨b,rfl,hm⟩:=Rep.inv_ref r1
  obtain⟨vs,hH,r⟩:=sm.obj n a _ hn e
  obtain⟨ws,hH2,r2⟩:=sm.obj m b _ hm e2
  obtain⟨w1,w2⟩:=sm.write hn e hH (r.append r2)
  exact yJ pins s σ H x _ v us R I rx rs ⟨a,b,vs,ws,ez,rfl,hH,hH2,by rw[<-r.length,<-r2.length];exact hl,k _ _ ⟨.non,_,ρ,w1,w2,.non,q⟩⟩
 ·exact q.elim
end L2
namespace Srt
open PySem PySem.W PyProof.Rows
noncomputable def run{α:Type}(c:Nat->Nat->Bool):KasT α->α
 | .ret a=>a
 | .ask i j k=>run c (k (c i j))
theorem fg{α β:Type}{c:Nat->Nat->Bool}{f:α->KasT β}:∀t:KasT α,run c (t.bind f)=run c (f (run c t))
 | .ret a=>rfl
 | .ask i j k=>fg (k (c i j))
def Bd{α:Type}(n:Nat):KasT α->Prop
 | .ret _=>True
 | .ask i j k=>i<n/\j<n/\∀b,Bd n (k b)
def All{α:Type}(P:α->Prop):KasT α->Prop
 | .ret a=>P a
 | .ask _ _ k=>∀b,All P (k b)
theorem All.mono{α:Type}{P Q:α->Prop}(h:∀a,P a->Q a):∀t:KasT α,All P t->All Q t
 | .ret a,q=>h a q
 | .ask _ _ k,q=>λb=>All.mono h (k b) (q b)
theorem All.bind{α β:Type}{P:β->Prop}{f:α->KasT β}:∀t:KasT α,All (λa=>All P (f a)) t->All P (t.bind f)
 | .ret a,q=>q
 | .ask _ _ k,q=>λb=>All.bind (k b) (q b)
theorem Bd.bindA{α β:Type}{n:Nat}{f:α->KasT β}:∀t:KasT α,Bd n t->All (λa=>Bd n (f a)) t->Bd n (t.bind f)
 | .ret a,_,q=>q
 | .ask _ _ k,b,q=>⟨b.1,b.2.1,λx=>Bd.bindA (k x) (b.2.2 x) (q x)⟩
theorem All.run{α:Type}{P:α->Prop}{c:Nat->Nat->Bool}:∀t:KasT α,All P t->P (Srt.run c t)
 | .ret a,q=>q
 | .ask i j k,q=>All.run (k (c i j)) (q _)
theorem wp_run{α:Type}{cmp:Nat->Nat->(Bool->Shared->Prop)->Shared->Prop}{c:Nat->Nat->Bool}{n:Nat}{s:Shared}{Q:α->Shared->Prop}(hc:∀i j (C:Bool->Shared->Prop),i<n->j<n->C (c i j) s->cmp i j C s) :
  ∀t:KasT α,Bd n t->Q (run c t) s->t.kasWp cmp Q s
 | .ret a,_,q=>q
 | .ask i j k,b,q=>hc i j _ b.1 b.2.1 (wp_run hc (k (c i j)) (b.2.2 _) q)
structure Ord(c:Nat->Nat->Bool):Prop where
 irr:∀a,c a a=false
 tr:∀a b d,c a b=true->c b d=true->c a d=true
 neg:∀a b d,c a d=true->c a b=true\/c b d=true
section
variable{c:Nat->Nat->Bool}(O:Ord c)
def le(c:Nat->Nat->Bool)(a b:Nat):Prop:=c b a=false
theorem le_refl(O:Ord c)(a:Nat):le c a a:=O.irr a
theorem le_trans(O:Ord c)(h1:le c a b)(h2:le c b d):le c a d:=by
 unfold le at *
 cases q:c d a with
 | false=>rfl
 | true =>
  rcases O.neg d b a q with h | h
  ·rw[h2]at h;cases h
  ·rw[h1]at h;cases h
theorem le_of_lt(O:Ord c)(h:c a b=true):le c a b:=by
 unfold le
 cases q:c b a with
 | false=>rfl
 | true=>have:=O.tr a b a h q;rw[O.irr]at this;cases this
noncomputable abbrev at_(p:Array Nat)(k:Nat):Nat:=p.getD k 0
def Up(c:Nat->Nat->Bool)(p:Array Nat)(m:Nat):Prop:=∀i j,i<=j->j<m->le c (at_ p i) (at_ p j)
def Dn(c:Nat->Nat->Bool)(p:Array Nat)(m:Nat):Prop:=∀i j,i<=j->j<m->le c (at_ p j) (at_ p i)
def Eqs(c:Nat->Nat->Bool)(p:Array Nat)(a b:Nat):Prop:=∀i j,a<=i->i<b->a<=j->j<b->le c (at_ p i) (at_ p j)
theorem Up.one(O:Ord c)(p:Array Nat):Up c p 1:=λi j hij hj=>by
 have:i=j:=by lia
 subst this;exact le_refl O _
theorem Up.snoc(O:Ord c)(h:Up c p n)(h1:1<=n)(hl:le c (at_ p (n-1)) (at_ p n)):Up c p (n+1):=λi j hij hj=>by
 by_cases hjn:j<n
 ·exact h i j hij hjn
 ·have:j=n:=by lia
  subst this
  by_cases hi:i=j
  ·subst hi;exact le_refl O _
  ·exact le_trans O (h i (j-1) (by lia) (by lia)) hl
theorem Dn.snoc(O:Ord c)(h:Dn c p n)(h1:1<=n)(hl:le c (at_ p n) (at_ p (n-1))):Dn c p (n+1):=λi j hij hj=>by
 by_cases hjn:j<n
 ·exact h i j hij hjn
 ·have:j=n:=by lia
  subst this
  by_cases hi:i=j
  ·subst hi;exact le_refl O _
  ·exact le_trans O hl (h i (j-1) (by lia) (by lia))
theorem fE(hj:j<=p.size)(k:Nat):at_ (ACr p i j) k=if i<=k/\k<j then at_ p (i+j-1-k)else at_ p k:=by
 have e:=getElem?_mirror_all (xs:=p) (i:=i) hj k
 unfold at_ ACr
 rw[AAv,e]
 by_cases h:i<=k/\k<j
 ·rw[if_pos h,if_pos h,AAv]
 ·rw[if_neg h,if_neg h,AAv]
theorem rh(hk:k<p.size)(hd:d<=k)(i:Nat):at_ (bubble p k d) i=if i=k-d then at_ p k else if k-d<i/\i<=k then at_ p (i-1)else at_ p i:=by
 have e:=getElem?_bubble (xs:=p) hk d hd i
 unfold at_
 rw[AAv,e]
 by_cases h:i=k-d
 ·rw[if_pos h,if_pos h,AAv]
 ·rw[if_neg h,if_neg h]
  by_cases h':k-d<i/\i<=k
  ·rw[if_pos h',if_pos h',AAv]
  ·rw[if_neg h',if_neg h',AAv]
theorem Dn.rev(h:Dn c p n)(hn:n<=p.size):Up c (ACr p 0 n) n:=λi j hij hj=>by
 rw[fE hn,fE hn,if_pos ⟨AAV _,by lia⟩,if_pos ⟨AAV _,hj⟩]
 exact h _ _ (by lia) (by lia)
theorem Dn.revEq(O:Ord c)(h:Dn c p n)(hn:n<=p.size)(he:Eqs c p a n):Dn c (ACr p a n) n:=λi j hij hj=>by
 rw[fE hn,fE hn]
 by_cases h1:a<=i/\i<n
 ·by_cases h2:a<=j/\j<n
  ·rw[if_pos h1,if_pos h2]
   exact he _ _ (by lia) (by lia) (by lia) (by lia)
  ·exact absurd ⟨by lia,hj⟩ h2
 ·by_cases h2:a<=j/\j<n
  ·rw[if_neg h1,if_pos h2]
   exact h _ _ (by lia) (by lia)
  ·rw[if_neg h1,if_neg h2]
   exact h _ _ hij hj
theorem tz(O:Ord c):∀(f n:Nat),1<=n->Up c p n->Up c p (run c (ADP p f n))/\n<=run c (ADP p f n)/\run c (ADP p f n)<=n+f /\
  (run c (ADP p f n)<n+f->c (at_ p (run c (ADP p f n))) (at_ p (run c (ADP p f n)-1))=true)
 | 0,n,_,h=>⟨h,AAC _,AAC _,λz=>absurd z (AAk _)⟩
 | f+1,n,h1,h=>by
  show Up c p (run c (if c (at_ p n) (at_ p (n-1))=true then .ret n else ADP p f (n+1)))/\n<=run c (if c (at_ p n) (at_ p (n-1))=true then .ret n else ADP p f (n+1)) /\
   run c (if c (at_ p n) (at_ p (n-1))=true then .ret n else ADP p f (n+1))<=n+(f+1)/\(run c (if c (at_ p n) (at_ p (n-1))=true then .ret n else ADP p f (n+1))<n+(f+1) ->
    c (at_ p (run c (if c (at_ p n) (at_ p (n-1))=true then .ret n else ADP p f (n+1)))) (at_ p (run c (if c (at_ p n) (at_ p (n-1))=true then .ret n else ADP p f (n+1))-1))=true)
  by_cases q:c (at_ p n) (at_ p (n-1))=true
  ·rw[if_pos q]
   exact⟨h,AAC _,ADc _ _,λ_=>q⟩
  ·rw[if_neg q]
   obtain⟨a1,a2,a3,a4⟩:=tz O f (n+1) (by lia) (h.snoc O h1 (by unfold le;simpa using q))
   exact⟨a1,by lia,by lia,λz=>a4 (by lia)⟩
theorem dE:(ACr p i j).size=p.size:=mirror_size _ _ _ _
def An(c:Nat->Nat->Bool)(z n m:Nat)(r:Array Nat×Nat×Nat):Prop:=r.1.size=z/\Dn c r.1 r.2.1/\n<=r.2.1/\r.2.1<=m/\r.2.2+1<=r.2.1/\Eqs c r.1 (r.2.1-(r.2.2+1)) r.2.1
def og(c:Nat->Nat->Bool)(z nrem:Nat)(r:Nat×Array Nat):Prop:=r.2.size=z/\Up c r.2 r.1/\1<=r.1/\r.1<=nrem
def tD(c:Nat->Nat->Bool)(p:Array Nat)(k m:Nat):Prop:=m<=k/\(∀i,i<m->le c (at_ p i) (at_ p k))/\∀i,m<=i->i<k->c (at_ p k) (at_ p i)=true
theorem jt(O:Ord c):∀(f:Nat) (p:Array Nat) (n q:Nat),q+1<=n->n+f<=p.size->Dn c p n->Eqs c p (n-(q+1)) n ->
  An c p.size n (n+f) (run c (ABn f p n q))
 | 0,p,n,q,h1,h2,hd,he=>⟨rfl,hd,AAC _,AAC _,h1,he⟩
 | f+1,p,n,q,h1,h2,hd,he=>by
  have hn:n<=p.size:=by lia
  show An c p.size n (n+(f+1)) (run c (if c (at_ p n) (at_ p (n-1))=true then(if q > 0 then ABn f (ACr p (n-(q+1)) n) (n+1) 0 else ABn f p (n+1) 0)
   else .ask (at_ p (n-1)) (at_ p n) λd=>if d=true then .ret (p,n,q)else ABn f p (n+1) (q+1)))
  by_cases hc:c (at_ p n) (at_ p (n-1))=true
  ·rw[if_pos hc]
   by_cases hq:q > 0
   ·rw[if_pos hq]
    have hd':Dn c (ACr p (n-(q+1)) n) (n+1):=by
     refine(hd.revEq O hn he).snoc O (by lia) ?_
     rw[fE hn,fE hn,if_neg (by lia),if_pos ⟨by lia,by lia⟩]
     exact le_trans O (le_of_lt O hc) (he _ _ (by lia) (by lia) (by lia) (by lia))
    have r:=jt O f (ACr p (n-(q+1)) n) (n+1) 0 (by lia) (by rw[dE];lia) hd' (λi j a1 a2 a3 a4=>by
     have:i=n:=by lia
     have:j=n:=by lia
     subst_vars
     exact le_refl O _)
    obtain⟨a1,a2,a3,a4,a5,a6⟩:=r
    exact⟨a1.trans dE,a2,by lia,by lia,a5,a6⟩
   ·rw[if_neg hq]
    have r:=jt O f p (n+1) 0 (by lia) (by lia) (hd.snoc O (by lia) (le_of_lt O hc)) (λi j a1 a2 a3 a4=>by
     have:i=n:=by lia
     have:j=n:=by lia
     subst_vars
     exact le_refl O _)
    obtain⟨a1,a2,a3,a4,a5,a6⟩:=r
    exact⟨a1,a2,by lia,by lia,a5,a6⟩
  ·rw[if_neg hc]
   show An c p.size n (n+(f+1)) (run c (if c (at_ p (n-1)) (at_ p n)=true then .ret (p,n,q)else ABn f p (n+1) (q+1)))
   by_cases hc':c (at_ p (n-1)) (at_ p n)=true
   ·rw[if_pos hc']
    exact⟨rfl,hd,AAC _,by show n<=_;lia,h1,he⟩
   ·rw[if_neg hc']
    have l1:le c (at_ p n) (at_ p (n-1)):=by unfold le;simpa using hc'
    have l2:le c (at_ p (n-1)) (at_ p n):=by unfold le;simpa using hc
    have r:=jt O f p (n+1) (q+1) (by lia) (by lia) (hd.snoc O (by lia) l1) (λi j a1 a2 a3 a4=>by
     by_cases hi:i=n
     ·by_cases hj:j=n
      ·subst hi hj;exact le_refl O _
      ·subst hi
       exact le_trans O l1 (he _ _ (by lia) (by lia) (by lia) (by lia))
     ·by_cases hj:j=n
      ·subst hj
       exact le_trans O (he _ _ (by lia) (by lia) (by lia) (by lia)) l2
      ·exact he _ _ (by lia) (by lia) (by lia) (by lia))
    obtain⟨a1,a2,a3,a4,a5,a6⟩:=r
    exact⟨a1,a2,by lia,by lia,a5,a6⟩
theorem oO(O:Ord c)(h1:1<=n)(hn:n<=nrem)(hz:nrem<=p.size)(hd:Dn c p n) :
  og c p.size nrem (run c (kas_tail3 n nrem p)):=by
 unfold kas_tail3
 rw[fg]
 obtain⟨a1,a2,a3,_⟩:=tz O (nrem-n) n h1 (hd.rev (by lia))
 exact⟨dE,a1,AAp h1 a2,AAp a3 (by lia)⟩
theorem iY(O:Ord c)(h1:1<=n)(hn:n+1<=nrem)(hz:nrem<=p.size)(he:Eqs c p 0 n)(hc:c (at_ p n) (at_ p (n-1))=true) :
  og c p.size nrem (run c (ADX n nrem p)):=by
 have hd:Dn c p (n+1):=by
  refine Dn.snoc O (λi j hij hj=>he _ _ (by lia) (by lia) (by lia) (by lia)) h1 (le_of_lt O hc)
 unfold ADX
 rw[fg]
 obtain⟨b1,b2,b3,b4,b5,b6⟩:=jt O (nrem-(n+1)) p (n+1) 0 (by lia) (by lia) hd (λi j a1 a2 a3 a4=>by
  have:i=n:=by lia
  have:j=n:=by lia
  subst_vars
  exact le_refl O _)
 by_cases hq:(run c (ABn (nrem-(n+1)) p (n+1) 0)).2.2 > 0
 ·rw[if_pos hq]
  obtain⟨d1,d2,d3,d4⟩:=oO O (p:=ACr (run c (ABn (nrem-(n+1)) p (n+1) 0)).1 ((run c (ABn (nrem-(n+1)) p (n+1) 0)).2.1-((run c (ABn (nrem-(n+1)) p (n+1) 0)).2.2+1)) (run c (ABn (nrem-(n+1)) p (n+1) 0)).2.1)
   (n:=(run c (ABn (nrem-(n+1)) p (n+1) 0)).2.1) (nrem:=nrem) (by lia) (by lia) (by rw[dE,b1];exact hz) (b2.revEq O (by rw[b1];lia) b6)
  exact⟨d1.trans (dE.trans b1),d2,d3,d4⟩
 ·rw[if_neg hq]
  obtain⟨d1,d2,d3,d4⟩:=oO O (p:=(run c (ABn (nrem-(n+1)) p (n+1) 0)).1) (n:=(run c (ABn (nrem-(n+1)) p (n+1) 0)).2.1) (nrem:=nrem) (by lia) (by lia) (by rw[b1];exact hz) b2
  exact⟨d1.trans b1,d2,d3,d4⟩
theorem zX(O:Ord c)(h1:1<=nrem)(hz:nrem<=p.size) :
  og c p.size nrem (run c (kas_count nrem p)):=by
 unfold kas_count
 rw[fg]
 obtain⟨a1,a2,a3,a4⟩:=tz O (nrem-1) 1 (AAC _) (Up.one O p)
 generalize run c (ADP p (nrem-1) 1)=n at a1 a2 a3 a4
 by_cases hn:(n==nrem)=true
 ·rw[if_pos hn]
  exact⟨rfl,a1,a2,by show n<=nrem;lia⟩
 ·rw[if_neg hn]
  have hn':n≠nrem:=by simpa using hn
  have hlt:c (at_ p n) (at_ p (n-1))=true:=a4 (by lia)
  by_cases h2:n > 1
  ·rw[if_pos h2]
   show og c p.size nrem (run c (if c (at_ p 0) (at_ p (n-1))=true then .ret (n,p)else ADX n nrem (ACr p 0 n)))
   by_cases hc:c (at_ p 0) (at_ p (n-1))=true
   ·rw[if_pos hc]
    exact⟨rfl,a1,a2,by show n<=nrem;lia⟩
   ·rw[if_neg hc]
    have hz':n<=p.size:=by lia
    have l0:le c (at_ p (n-1)) (at_ p 0):=by unfold le;simpa using hc
    have he:Eqs c p 0 n:=λi j b1 b2 b3 b4=>le_trans O (a1 i (n-1) (by lia) (by lia)) (le_trans O l0 (a1 0 j (by lia) b4))
    have he':Eqs c (ACr p 0 n) 0 n:=λi j b1 b2 b3 b4=>by
     rw[fE hz',fE hz',if_pos ⟨b1,b2⟩,if_pos ⟨b3,b4⟩]
     exact he _ _ (by lia) (by lia) (by lia) (by lia)
    have hc':c (at_ (ACr p 0 n) n) (at_ (ACr p 0 n) (n-1))=true:=by
     rw[fE hz',fE hz',if_neg (by lia),if_pos ⟨by lia,by lia⟩]
     rcases O.neg _ (at_ p (0+n-1-(n-1))) _ hlt with z | z
     ·exact z
     ·have:=he (n-1) (0+n-1-(n-1)) (by lia) (by lia) (by lia) (by lia)
      unfold le at this
      rw[this]at z;cases z
    obtain⟨d1,d2,d3,d4⟩:=iY O (p:=ACr p 0 n) (n:=n) (nrem:=nrem) (by lia) (by lia) (by rw[dE];exact hz) he' hc'
    exact⟨d1.trans dE,d2,d3,d4⟩
  ·rw[if_neg h2]
   have:n=1:=by lia
   subst this
   exact iY O (by lia) (by lia) hz (λi j b1 b2 b3 b4=>by
    have:i=0:=by lia
    have:j=0:=by lia
    subst_vars
    exact le_refl O _) hlt
theorem ki(O:Ord c)(hu:Up c p k):∀(f l r:Nat),l<=r->r<=k->r-l<=f->(∀i,i<l->le c (at_ p i) (at_ p k))->(∀i,r<=i->i<k->c (at_ p k) (at_ p i)=true) ->
  tD c p k (run c (ACw p k f l r))
 | 0,l,r,h1,h2,h3,h4,h5=>⟨by show l<=k;lia,h4,λi a1 a2=>h5 i (by have a1':l<=i:=a1;lia) a2⟩
 | f+1,l,r,h1,h2,h3,h4,h5=>by
  show tD c p k (run c (if l ≥ r then .ret l else .ask (at_ p k) (at_ p ((l+r) / 2)) λc=>if c=true then ACw p k f l ((l+r) / 2)else ACw p k f ((l+r) / 2+1) r))
  by_cases hl:l ≥ r
  ·rw[if_pos hl]
   exact⟨by show l<=k;lia,h4,λi a1 a2=>h5 i (by have a1':l<=i:=a1;lia) a2⟩
  ·rw[if_neg hl]
   show tD c p k (run c (if c (at_ p k) (at_ p ((l+r) / 2))=true then ACw p k f l ((l+r) / 2)else ACw p k f ((l+r) / 2+1) r))
   by_cases hc:c (at_ p k) (at_ p ((l+r) / 2))=true
   ·rw[if_pos hc]
    refine ki O hu f l ((l+r) / 2) (by lia) (by lia) (by lia) h4 λi a1 a2=>?_
    rcases O.neg _ (at_ p i) _ hc with z | z
    ·exact z
    ·have:=hu ((l+r) / 2) i a1 a2
     unfold le at this
     rw[this]at z;cases z
   ·rw[if_neg hc]
    have lm:le c (at_ p ((l+r) / 2)) (at_ p k):=by unfold le;simpa using hc
    refine ki O hu f ((l+r) / 2+1) r (by lia) h2 (by lia) (λi hi=>?_) h5
    exact le_trans O (hu i ((l+r) / 2) (by lia) (by lia)) lm
theorem Ae(O:Ord c)(hk:k<p.size)(hu:Up c p k)(hm:m<=k)(h1:∀i,i<m->le c (at_ p i) (at_ p k))(h2:∀i,m<=i->i<k->c (at_ p k) (at_ p i)=true):Up c (bubble p k (k-m)) (k+1):=by
 intro i j hij hj
 have e:k-(k-m)=m:=by lia
 rw[rh hk (by lia),rh hk (by lia),e]
 by_cases hi:i=m
 ·rw[if_pos hi]
  by_cases hjm:j=m
  ·rw[if_pos hjm];exact le_refl O _
  ·rw[if_neg hjm,if_pos ⟨by lia,by lia⟩]
   exact le_of_lt O (h2 _ (by lia) (by lia))
 ·rw[if_neg hi]
  by_cases hi2:m<i/\i<=k
  ·rw[if_pos hi2,if_neg (by lia),if_pos ⟨by lia,by lia⟩]
   exact hu _ _ (by lia) (by lia)
  ·rw[if_neg hi2]
   by_cases hjm:j=m
   ·rw[if_pos hjm];exact h1 i (by lia)
   ·rw[if_neg hjm]
    by_cases hj2:m<j/\j<=k
    ·rw[if_pos hj2]
     exact hu _ _ (by lia) (by lia)
    ·rw[if_neg hj2]
     exact hu _ _ hij (by lia)
theorem Ah(O:Ord c):∀(f:Nat) (p:Array Nat) (k:Nat),k+f<=p.size->Up c p k->(run c (kas_bin f p k)).size=p.size/\Up c (run c (kas_bin f p k)) (k+f)
 | 0,p,k,_,h=>⟨rfl,h⟩
 | f+1,p,k,hz,h=>by
  show (run c ((ACw p k k 0 k).bind λl=>kas_bin f (bubble p k (k-l)) (k+1))).size=p.size/\Up c (run c ((ACw p k k 0 k).bind λl=>kas_bin f (bubble p k (k-l)) (k+1))) (k+(f+1))
  rw[fg]
  obtain⟨a1,a2,a3⟩:=ki O h k 0 k (AAV _) (AAC _) (by lia) (λi hi=>absurd hi (Nat.not_lt_zero _)) λi a1 a2=>absurd a2 (by lia)
  obtain⟨b1,b2⟩:=Ah O f (bubble p k (k-run c (ACw p k k 0 k))) (k+1) (by rw[bubble_size];lia) (Ae O (by lia) h a1 a2 a3)
  exact⟨b1.trans (bubble_size _ _ _),by rw[show k+(f+1)=k+1+f by lia];exact b2⟩
theorem DP(O:Ord c)(h1:1<=n):(run c (ADV n)).size=n/\Up c (run c (ADV n)) n:=by
 have hs:(ABf (AAg n)).size=n:=by simp
 unfold ADV
 rw[fg]
 obtain⟨a1,a2,a3,a4⟩:=zX O (p:=ABf (AAg n)) h1 (by rw[hs];exact AAC _)
 rw[hs]at a1
 generalize run c (kas_count n (ABf (AAg n)))=r at a1 a2 a3 a4
 by_cases hl:r.1<n
 ·rw[if_pos hl]
  obtain⟨b1,b2⟩:=Ah O (n-max r.1 1) r.2 (max r.1 1) (by rw[a1];lia) (by rw[show max r.1 1=r.1 by lia];exact a2)
  exact⟨b1.trans a1,by rw[show n=max r.1 1+(n-max r.1 1) by lia];simpa using b2⟩
 ·rw[if_neg hl]
  have e1:r.1=n:=by lia
  rw[e1]at a2
  exact⟨a1,a2⟩
def Ent(n:Nat)(p:Array Nat):Prop:=p.toList.Perm (AAg n)
theorem Ent.lt(h:Ent n p)(h0:0<n)(k:Nat):at_ p k<n:=by
 unfold at_
 rw[AAv]
 cases e:p[k]? with
 | none=>simpa using h0
 | some x =>
  have:x∈p.toList:=by
   rw[<-ABk]at e
   exact AB1 e
  have:=h.mem_iff.mp this
  simpa using this
theorem Ent.rev(h:Ent n p):Ent n (ACr p i j):=(Array.perm_iff_toList_perm.mp (mirror_perm p i j ((j-i) / 2))).trans h
theorem Ent.bub(h:Ent n p):Ent n (bubble p i j):=(Array.perm_iff_toList_perm.mp (bubble_perm p i j)).trans h
section
variable{n:Nat}(h0:0<n)
theorem Ai(h0:0<n)(h:Ent n p):∀(f k:Nat),Bd n (ADP p f k)
 | 0,_=>trivial
 | f+1,k=>⟨h.lt h0 _,h.lt h0 _,λb=>by cases b with
  | true=>exact trivial
  | false=>exact Ai h0 h f (k+1)⟩
theorem nN(h0:0<n):∀(f:Nat) (p:Array Nat) (k q:Nat),Ent n p->Bd n (ABn f p k q)/\All (λr=>Ent n r.1) (ABn f p k q)
 | 0,p,k,q,h=>⟨trivial,h⟩
 | f+1,p,k,q,h=>by
  have key:∀b,(Bd n (if b=true then(if q > 0 then ABn f (ACr p (k-(q+1)) k) (k+1) 0 else ABn f p (k+1) 0)
    else KasT.ask (p.getD (k-1) 0) (p.getD k 0) λd=>if d=true then KasT.ret (p,k,q)else ABn f p (k+1) (q+1)))/\All (λr=>Ent n r.1) (if b=true then(if q > 0 then ABn f (ACr p (k-(q+1)) k) (k+1) 0 else ABn f p (k+1) 0)
    else KasT.ask (p.getD (k-1) 0) (p.getD k 0) λd=>if d=true then KasT.ret (p,k,q)else ABn f p (k+1) (q+1)):=λb=>by
   cases b with
   | true =>
    rw[if_pos rfl]
    by_cases hq:q > 0
    ·rw[if_pos hq];exact nN h0 f _ _ _ h.rev
    ·rw[if_neg hq];exact nN h0 f _ _ _ h
   | false =>
    rw[if_neg (by simp)]
    have a:=nN h0 f p (k+1) (q+1) h
    refine⟨⟨h.lt h0 _,h.lt h0 _,λb=>?_⟩,λb=>?_⟩
    ·cases b with
     | true=>exact trivial
     | false=>exact a.1
    ·cases b with
     | true=>exact h
     | false=>exact a.2
  exact⟨⟨h.lt h0 _,h.lt h0 _,λb=>(key b).1⟩,λb=>(key b).2⟩
theorem jp(h0:0<n)(h:Ent n p):Bd n (kas_tail3 k m p)/\All (λr=>Ent n r.2) (kas_tail3 k m p):=by
 have triv:∀{t:KasT Nat}{Q:Prop},Q->All (λ_=>Q) t:=λ{t Q} q=>by
  induction t with
  | ret a=>exact q
  | ask i j k ih=>exact λb=>ih b
 unfold kas_tail3
 exact⟨Bd.bindA _ (Ai h0 h.rev _ _) (triv trivial),All.bind _ (triv h.rev)⟩
theorem dN(h0:0<n)(h:Ent n p):Bd n (ADX k m p)/\All (λr=>Ent n r.2) (ADX k m p):=by
 unfold ADX
 obtain⟨b1,b2⟩:=nN h0 (m-(k+1)) p (k+1) 0 h
 refine⟨Bd.bindA _ b1 (b2.mono (λr hr=>?_)),All.bind _ (b2.mono (λr hr=>?_))⟩
 ·by_cases hq:r.2.2 > 0
  ·rw[if_pos hq];exact(jp h0 hr.rev).1
  ·rw[if_neg hq];exact(jp h0 hr).1
 ·by_cases hq:r.2.2 > 0
  ·rw[if_pos hq];exact(jp h0 hr.rev).2
  ·rw[if_neg hq];exact(jp h0 hr).2
theorem Cy(h0:0<n)(h:Ent n p):Bd n (kas_count m p)/\All (λr=>Ent n r.2) (kas_count m p):=by
 have triv:∀{t:KasT Nat}{Q:Nat->Prop},(∀a,Q a)->All Q t:=λ{t Q} q=>by
  induction t with
  | ret a=>exact q a
  | ask i j k ih=>exact λb=>ih b
 unfold kas_count
 refine⟨Bd.bindA _ (Ai h0 h _ _) (triv λk=>?_),All.bind _ (triv λk=>?_)⟩
 ·by_cases h1:(k==m)=true
  ·rw[if_pos h1];exact trivial
  ·rw[if_neg h1]
   by_cases h2:k > 1
   ·rw[if_pos h2]
    refine⟨h.lt h0 _,h.lt h0 _,λb=>?_⟩
    cases b with
    | true=>exact trivial
    | false=>exact(dN h0 h.rev).1
   ·rw[if_neg h2];exact(dN h0 h).1
 ·by_cases h1:(k==m)=true
  ·rw[if_pos h1];exact h
  ·rw[if_neg h1]
   by_cases h2:k > 1
   ·rw[if_pos h2]
    intro b
    cases b with
    | true=>exact h
    | false=>exact(dN h0 h.rev).2
   ·rw[if_neg h2];exact(dN h0 h).2
theorem mW(h0:0<n)(h:Ent n p):∀(f l r:Nat),Bd n (ACw p k f l r)
 | 0,_,_=>trivial
 | f+1,l,r=>by
  show Bd n (if l ≥ r then KasT.ret l else KasT.ask (p.getD k 0) (p.getD ((l+r) / 2) 0) λc=>if c=true then ACw p k f l ((l+r) / 2)else ACw p k f ((l+r) / 2+1) r)
  by_cases hl:l ≥ r
  ·rw[if_pos hl];exact trivial
  ·rw[if_neg hl]
   refine⟨h.lt h0 _,h.lt h0 _,λb=>?_⟩
   cases b with
   | true=>exact mW h0 h f _ _
   | false=>exact mW h0 h f _ _
theorem uT(h0:0<n):∀(f:Nat) (p:Array Nat) (k:Nat),Ent n p->Bd n (kas_bin f p k)/\All (λr=>Ent n r) (kas_bin f p k)
 | 0,p,k,h=>⟨trivial,h⟩
 | f+1,p,k,h=>by
  have triv:∀{t:KasT Nat}{Q:Nat->Prop},(∀a,Q a)->All Q t:=λ{t Q} q=>by
   induction t with
   | ret a=>exact q a
   | ask i j k ih=>exact λb=>ih b
  exact⟨Bd.bindA _ (mW h0 h _ _ _) (triv λl=>(uT h0 f _ _ h.bub).1),All.bind _ (triv λl=>(uT h0 f _ _ h.bub).2)⟩
theorem sort_bd(h0:0<n):Bd n (ADV n)/\All (λr=>Ent n r) (ADV n):=by
 have h:Ent n (ABf (AAg n)):=by unfold Ent;simp
 obtain⟨b1,b2⟩:=Cy h0 (m:=n) h
 unfold ADV
 refine⟨Bd.bindA _ b1 (b2.mono λr hr=>?_),All.bind _ (b2.mono λr hr=>?_)⟩
 ·by_cases hl:r.1<n
  ·rw[if_pos hl];exact(uT h0 _ _ _ hr).1
  ·rw[if_neg hl];exact trivial
 ·by_cases hl:r.1<n
  ·rw[if_pos hl];exact(uT h0 _ _ _ hr).2
  ·rw[if_neg hl];exact hr
end
theorem sort_list{α:Type}[Inhabited α]{lt:α->α->Bool}(xs:List α)(h1:1<=xs.length)(irr:∀a∈xs,lt a a=false)(tr:∀a∈xs,∀b∈xs,∀d∈xs,lt a b=true->lt b d=true->lt a d=true)
  (neg:∀a∈xs,∀b∈xs,∀d∈xs,lt a d=true->lt a b=true\/lt b d=true) :
  let c:=λi j=>if i<xs.length then(if j<xs.length then lt (xs.getD i default) (xs.getD j default)else true)else false
  let p:=run c (ADV xs.length)
  let ys:=p.toList.map λi=>xs.getD i default
  ys.Perm xs/\ys.Pairwise λa b=>lt b a=false:=by
 intro c p ys
 have mem:∀i,i<xs.length->xs.getD i default∈xs:=λi hi=>by
  rw[AAK,AA5 hi]
  exact AAf hi
 have O:Ord c:=by
  refine⟨λa=>?_,λa b d=>?_,λa b d=>?_⟩
  ·show (if a<xs.length then(if a<xs.length then lt _ _ else true)else false)=false
   by_cases ha:a<xs.length
   ·rw[if_pos ha,if_pos ha];exact irr _ (mem a ha)
   ·rw[if_neg ha]
  ·show (if a<xs.length then(if b<xs.length then lt _ _ else true)else false)=true->(if b<xs.length then(if d<xs.length then lt _ _ else true)else false)=true->(if a<xs.length then(if d<xs.length then lt _ _ else true)else false)=true
   by_cases ha:a<xs.length
   ·by_cases hb:b<xs.length
    ·by_cases hd:d<xs.length
     ·rw[if_pos ha,if_pos hb,if_pos hb,if_pos hd,if_pos ha,if_pos hd];exact tr _ (mem a ha) _ (mem b hb) _ (mem d hd)
     ·intro _ _;rw[if_pos ha,if_neg hd]
    ·rw[if_neg (show ¬b<xs.length from hb)]
     intro _ z
     rw[if_neg hb]at z;cases z
   ·intro z;rw[if_neg ha]at z;cases z
  ·show (if a<xs.length then(if d<xs.length then lt _ _ else true)else false)=true->(if a<xs.length then(if b<xs.length then lt _ _ else true)else false)=true\/(if b<xs.length then(if d<xs.length then lt _ _ else true)else false)=true
   by_cases ha:a<xs.length
   ·by_cases hb:b<xs.length
    ·by_cases hd:d<xs.length
     ·rw[if_pos ha,if_pos hd,if_pos ha,if_pos hb,if_pos hb,if_pos hd];exact neg _ (mem a ha) _ (mem b hb) _ (mem d hd)
     ·intro _;right;rw[if_pos hb,if_neg hd]
    ·intro _;left;rw[if_pos ha,if_neg hb]
   ·intro z;rw[if_neg ha]at z;cases z
 have hE:Ent xs.length p:=All.run _ (sort_bd (by lia)).2
 obtain⟨hs,hU⟩:=DP O h1
 refine⟨?_,?_⟩
 ·have e:(AAg xs.length).map (λi=>xs.getD i default)=xs:=by
   apply ADQ
   intro i
   rw[AAU]
   by_cases hi:i<xs.length
   ·rw[List.getElem?_range hi]
    simp[AAK,AA5 hi]
   ·rw[ACB (by simpa using hi),ACB (by simpa using hi)]
    rfl
  have:=hE.map λi=>xs.getD i default
  rw[e]at this
  exact this
 ·show (p.toList.map λi=>xs.getD i default).Pairwise λa b=>lt b a=false
  rw[List.pairwise_iff_getElem]
  intro i j hi hj hij
  rw[AA4,ABy]at hi hj
  have hs':p.size=xs.length:=hs
  have l:=hU i j (by lia) (by lia)
  have hl:∀k,at_ p k<xs.length:=λk=>hE.lt (by lia) k
  unfold le at l
  have l':(if at_ p j<xs.length then(if at_ p i<xs.length then lt (xs.getD (at_ p j) default) (xs.getD (at_ p i) default)else true)else false)=false:=l
  rw[if_pos (hl j),if_pos (hl i)]at l'
  have ai:p.toList[i]=at_ p i:=by unfold at_;simp[Array.getD,hi]
  have aj:p.toList[j]=at_ p j:=by unfold at_;simp[Array.getD,hj]
  rw[AC8,AC8,ai,aj]
  exact l'
end
end Srt
namespace L2
open PySem PySem.Spec PyProof.Rows DL
def wI(A:Around)(s:Shared)(x y:Value)(k:Bool):Prop:=∀(prog:Program) (w:World) (E:Value->Shared->Prop) (Q:Value->Shared->Prop),Q (.bool k) s->wpAny (model prog w) A (richCompare .Lt x y) Q E s
inductive LexAt(A:Around)(s:Shared):List Value->List Value->Bool->Prop
 | nn:LexAt A s [] [] false
 | nc {y:Value}{ys:List Value}:LexAt A s [] (y::ys) true
 | cn {x:Value}{xs:List Value}:LexAt A s (x::xs) [] false
 | eq {x y:Value}{xs ys:List Value}{k:Bool} (h:ACP A s x y true) (t:LexAt A s xs ys k):LexAt A s (x::xs) (y::ys) k
 | ne {x y:Value}{xs ys:List Value}{k:Bool} (h:ACP A s x y false) (t:wI A s x y k):LexAt A s (x::xs) (y::ys) k
section
open PySem.SeqAt
open PySem.AutoSeq1 (wpAny_loadPart')
open PySem.MeetsSeq PySem.MeetsSeq2 PySem.MeetsSeq3
theorem oN(l b:Addr)(items items2:Array Value)(n n2:Nat)(dd dd2:Option Addr)(sl sl2:Array (Option Value))(k:Bool) :
  Meets (Builtin.«tuple.__lt__» ⟨[.ref l,.ref b],[]⟩)
   (λA R s=>s.heap.get? l=some (⟨.type "tuple",dd,.seq items n,sl⟩:Obj)/\s.heap.get? b=some { cls:=.type "tuple",dict:=dd2,data:=.seq items2 n2,slots:=sl2 } /\
    LexAt A.in1 s items.toList items2.toList k/\R (.ok (.ret (.bool k))) s) :=
 .of_wp λprog w A R s h=>by
  obtain⟨hp,g,d,tk,os⟩:=s;obtain⟨hl,hb,hx,h⟩:=h
  have f2:=AutoSeq1.sub_tuple_tuple
  wp_walk using ACi hl,ACi hb,wpAny_forIn_list _ (λbm b s'=>b.1=none/\s'=⟨hp,g,d,tk,os⟩/\∃(vs ws:List Value),bm=vs.zip ws /\
   LexAt A.in1 ⟨hp,g,d,tk,os⟩ vs ws k/\vs.length+items2.size=ws.length+items.size) _
  case turn =>
   rintro⟨y,x⟩ bm b s' ⟨hb',rfl,vs,ws,hz,hlex,hlen⟩
   cases hlex with
   | nn=>cases hz
   | nc=>cases hz
   | cn=>cases hz
   | eq he t =>
    rw[ABN]at hz
    injection hz with hyx hrest
    injection hyx with hy hx
    subst hy hx
    refine AA0 (he prog w _ _ ?_)
    wp_walk
    exact⟨rfl,rfl,_,_,hrest,t,by simp only[AAD]at hlen;lia⟩
   | ne he t =>
    rw[ABN]at hz
    injection hz with hyx hrest
    injection hyx with hy hx
    subst hy hx
    refine AA0 (he prog w _ _ ?_)
    have hri:=t prog w
    wp_walk using hri
    exact⟨_,rfl,by simpa using h⟩
  case fin =>
   rintro⟨b1,b2⟩ s' ⟨hb',rfl,vs,ws,hz,hlex,hlen⟩
   simp only at hb'
   subst hb'
   have hv:k=decide (items.size<items2.size):=by
    cases hlex with
    | nn=>simp only[AAS]at hlen;exact(dF_ (by lia)).symm
    | nc=>simp only[AAS,AAD]at hlen;exact(dT_ (by lia)).symm
    | cn=>simp only[AAS,AAD]at hlen;exact(dF_ (by lia)).symm
    | eq _ _=>rw[ABN]at hz;cases hz
    | ne _ _=>rw[ABN]at hz;cases hz
   rw[hv]at h
   wp_walk
   exact⟨_,rfl,by simpa [Builtin.Tuple.tupleCompareSizes]using h⟩
  case h =>
   exact⟨rfl,rfl,items.toList,items2.toList,rfl,hx,by simp;lia⟩
end
theorem wI.tuples(hl:s.heap.IsTuple l items)(hb:s.heap.IsTuple b items2)(hu:A.units<cLine)(hx:LexAt A.in1 s items.toList items2.toList k):wI A s (.ref l) (.ref b) k:=λprog w E Q h=>by
 obtain⟨⟨cls,dd,data,sl⟩,ho,hc,n,hd⟩:=id hl
 obtain⟨⟨cls2,dd2,data2,sl2⟩,ho2,hc2,n2,hd2⟩:=id hb
 simp only at hc hd hc2 hd2
 subst hc hd hc2 hd2
 exact richCompare_meets_room (op:=.Lt) ⟨_,ho,rfl⟩ ⟨_,ho2,rfl⟩ PySem.F.slot_tuple_lt PySem.F.entry_tuple_lt (PySem.F.args_tuple_lt_2 _ _) (oN l b items items2 n n2 dd dd2 sl sl2 k)
  ⟨ho,ho2,hx,show ADj k≠Value.notImplemented/\Q (.bool k) s from⟨(λx=>nomatch x),h⟩⟩ hu
noncomputable def rB(f g:D->D->Bool):List D->List D->Bool
 | [],[]=>false
 | [],_::_=>true
 | _::_,[]=>false
 | x::xs,y::ys=>if f x y=true then rB f g xs ys else g x y
noncomputable def ltD(M:Mem):Nat->D->D->Bool
 | _,.int a,.int b=>decide (a<b)
 | _,.str a,.str b=>bv a b
 | n+1,.tup xs,.tup ys=>rB (eqD M n) (ltD M n) xs ys
 | _,_,_=>false
noncomputable def Ap(f g:D->D->Bool):List D->List D->Bool
 | x::xs,y::ys=>if f x y=true then Ap f g xs ys else g x y
 | _,_=>true
noncomputable def gZ(M:Mem):Nat->D->D->Bool
 | _,.int _,.int _=>true
 | _,.str _,.str _=>true
 | n+1,.tup xs,.tup ys=>Ap (eqD M n) (gZ M n) xs ys
 | _,_,_=>false
theorem wI.ints(A:Around)(s:Shared)(a:Int)(t:Tok)(c:Int)(u:Tok):wI A s (.int a t) (.int c u) (decide (a<c)):=λprog w E Q h=>HT.rcLt_int A s a t c u prog w E Q h
theorem wI.texts(A:Around)(s:Shared)(a:Str)(t:Tok)(c:Str)(u:Tok):wI A s (.str a t) (.str c u) (bv a c):=λprog w E Q h =>
 (PySem.P.lt_str (show Q (.bool (decide (a.cps.toList<c.cps.toList))) s from h):wpAny (model prog w) A (compareOp .Lt (.str a t) (.str c u)) Q E s)
theorem yM(I:Inv X pins σ H s)(sm:Sim X.K ρ M H):∀(n:Nat) (A:Around) (x y:D) (vx vy:V) (u v:Value),A.units+n<cLine->Rep X.K ρ H x vx->aU vx u->Rep X.K ρ H y vy->aU vy v->okD M n x=true->okD M n y=true->gZ M n x y=true ->
  wI A s u v (ltD M n x y):=by
 intro n
 induction n with
 | zero =>
  intro A x y vx vy u v hu r1 e1 r2 e2 o1 o2 cm
  cases r1 with
  | int a =>
   cases r2 with
   | int b=>obtain⟨t,rfl⟩:=e1;obtain⟨t',rfl⟩:=e2;exact wI.ints A s a t b t'
   | _=>simp[gZ]at cm
  | str a =>
   cases r2 with
   | str b=>obtain⟨t,rfl⟩:=e1;obtain⟨t',rfl⟩:=e2;exact wI.texts A s a t b t'
   | _=>simp[gZ]at cm
  | _=>simp[gZ]at cm
 | succ n ih =>
  intro A x y vx vy u v hu r1 e1 r2 e2 o1 o2 cm
  have hu0:A.units<cLine:=by lia
  have hu1:A.in1.units+n<cLine:=by show A.units+1+n<cLine;lia
  have lex:∀(ds es:List D) (vs ws:List V) (its jts:List Value),Reps X.K ρ H ds vs->az vs its->Reps X.K ρ H es ws->az ws jts->ds.all (okD M n)=true->es.all (okD M n)=true->Ap (eqD M n) (gZ M n) ds es=true ->
    LexAt A.in1 s its jts (rB (eqD M n) (ltD M n) ds es):=by
   intro ds
   induction ds with
   | nil =>
    intro es vs ws its jts p1 q1 p2 q2 _ _ _
    cases p1;cases q1
    cases p2 with
    | nil=>cases q2;exact .nn
    | cons _ _=>cases q2;exact .nc
   | cons d ds hi =>
    intro es vs ws its jts p1 q1 p2 q2 k1 k2 k3
    cases p1 with
    | cons a1 p1 =>
     cases q1 with
     | cons b1 q1 =>
      cases p2 with
      | nil=>cases q2;exact .cn
      | @cons e _ es' _ a2 p2 =>
       cases q2 with
       | cons b2 q2 =>
        rw[AB6,AAN]at k1 k2
        have he:=(mD I sm n A.in1 d _ _ _ _ _ hu1 a1 b1 a2 b2 k1.1 k2.1).1
        rw[rB]
        rw[Ap]at k3
        by_cases hq:eqD M n d e=true
        ·rw[hq]at he
         rw[if_pos hq]at k3 ⊢
         exact .eq he (hi _ _ _ _ _ p1 q1 p2 q2 k1.2 k2.2 k3)
        ·have hq':=ABW.mpr hq
         rw[hq']at he
         rw[if_neg hq]at k3 ⊢
         exact .ne he (ih A.in1 _ _ _ _ _ _ hu1 a1 b1 a2 b2 k1.1 k2.1 k3)
  cases r1 with
  | int a =>
   cases r2 with
   | int b=>obtain⟨t,rfl⟩:=e1;obtain⟨t',rfl⟩:=e2;exact wI.ints A s a t b t'
   | _=>simp[gZ]at cm
  | str a =>
   cases r2 with
   | str b=>obtain⟨t,rfl⟩:=e1;obtain⟨t',rfl⟩:=e2;exact wI.texts A s a t b t'
   | _=>simp[gZ]at cm
  | tup hq r =>
   cases r2 with
   | tup hq' r' =>
    cases e1;cases e2
    obtain⟨its,rr,pl,_⟩:=I.tuple hq
    obtain⟨jts,rr',pl',_⟩:=I.tuple hq'
    refine wI.tuples pl pl' hu0 ?_
    exact lex _ _ _ _ _ _ r rr r' rr' (by simpa [okD]using o1) (by simpa [okD]using o2) cm
   | _=>simp[gZ]at cm
  | _=>simp[gZ]at cm
def HD:DR2:=λx y M Q=>match x,y with
 | .tup xs,.tup ys=>(okD M eqN (.tup xs)=true/\okD M eqN (.tup ys)=true/\gZ M eqN (.tup xs) (.tup ys)=true)/\Q (.bl (ltD M eqN (.tup xs) (.tup ys))) M
 | _,_=>qLt x y M Q
theorem IH(hr:Room k X.A):OpD X (compareOp .Lt) HD:=by
 rintro pins s σ H vx vy v u R I rx ry ⟨x,y,M,ρ,Q,sm,r1,r2,q,k⟩
 unfold HD at q
 split at q
 ·obtain⟨⟨o1,o2,o3⟩,q⟩:=q
  exact yM I sm eqN X.A _ _ vx vy v u (mM hr) r1 rx r2 ry o1 o2 o3 _ _ _ _ (eB I sm k q)
 ·exact II pins s σ H vx vy v u R I rx ry ⟨x,y,M,ρ,Q,sm,r1,r2,q,k⟩
noncomputable def okP:Nat->D->Bool
 | _,.int _=>true
 | _,.str _=>true
 | n+1,.tup xs=>xs.all (okP n)
 | _,_=>false
noncomputable def GO(f:D->List Int):List D->List Int
 | []=>[0]
 | x::xs=>1::(f x++GO f xs)
noncomputable def enc:Nat->D->List Int
 | _,.int i=>[0,i]
 | _,.str x=>1::(x.cps.toList.map (λ(c:Nat)=>(c:Int)+1)++[0])
 | n+1,.tup xs=>2::GO (enc n) xs
 | _,_=>[3]
def bX(x y:List Int):Prop:=∀a b,x++a<y++b
theorem bX.cons(i:Int)(h:bX x y):bX (i::x) (i::y):=λa b=>AAn.mpr (.inr ⟨rfl,h a b⟩)
theorem bX.head(x y:List Int)(h:i<j):bX (i::x) (j::y):=λa b=>AAn.mpr (.inl h)
theorem bX.lt(h:bX x y):x<y:=by have:=h [] [];simpa using this
theorem bX.pre(z:List Int)(h:bX x y):bX (z++x) (z++y):=by
 induction z with
 | nil=>exact h
 | cons i z ih=>exact ih.cons i
theorem bX.more(u v:List Int)(h:bX x y):bX (x++u) (y++v):=λa b=>by
 rw[AAs,AAs]
 exact h _ _
def Tri(x y:D)(n:Nat)(l:Bool)(r:Bool):Prop:=(x=y/\l=false/\r=false)\/(x≠y/\l=true/\r=false/\bX (enc n x) (enc n y))\/(x≠y/\l=false/\r=true/\bX (enc n y) (enc n x))
theorem qR:∀(x y:List Nat),(x=y)\/(x<y/\¬y<x/\bX (x.map (λ(c:Nat)=>(c:Int)+1)++[0]) (y.map (λ(c:Nat)=>(c:Int)+1)++[0]))\/(¬x<y/\y<x/\bX (y.map (λ(c:Nat)=>(c:Int)+1)++[0]) (x.map (λ(c:Nat)=>(c:Int)+1)++[0]))
 | [],[]=>.inl rfl
 | [],c::y=>.inr (.inl ⟨List.nil_lt_cons _ _,List.not_lt_nil _,bX.head _ _ (by dsimp only;lia)⟩)
 | c::x,[]=>.inr (.inr ⟨List.not_lt_nil _,List.nil_lt_cons _ _,bX.head _ _ (by dsimp only;lia)⟩)
 | c::x,e::y=>by
  rcases Nat.lt_trichotomy c e with h | h | h
  ·refine .inr (.inl ⟨AAn.mpr (.inl h),λz=>?_,bX.head _ _ (by dsimp only;lia)⟩)
   rcases AAn.mp z with z | ⟨z,_⟩<;>lia
  ·subst h
   rcases qR x y with q | ⟨q1,q2,q3⟩|⟨q1,q2,q3⟩
   ·exact .inl (by rw[q])
   ·refine .inr (.inl ⟨AAn.mpr (.inr ⟨rfl,q1⟩),λz=>?_,q3.cons _⟩)
    rcases AAn.mp z with z | ⟨_,z⟩
    ·lia
    ·exact q2 z
   ·refine .inr (.inr ⟨λz=>?_,AAn.mpr (.inr ⟨rfl,q2⟩),q3.cons _⟩)
    rcases AAn.mp z with z | ⟨_,z⟩
    ·lia
    ·exact q1 z
  ·refine .inr (.inr ⟨λz=>?_,AAn.mpr (.inl h),bX.head _ _ (by dsimp only;lia)⟩)
   rcases AAn.mp z with z | ⟨z,_⟩<;>lia
theorem JN(M:Mem):∀(n:Nat) (x y:D),okP n x=true->okP n y=true->(eqD M n x y=true↔x=y):=by
 have all:∀(n:Nat),(∀(x y:D),okP n x=true->okP n y=true->(eqD M n x y=true↔x=y))->∀(xs ys:List D),xs.all (okP n)=true->ys.all (okP n)=true->(eqL (eqD M n) xs ys=true↔xs=ys):=by
  intro n ih xs
  induction xs with
  | nil=>intro ys _ _;cases ys<;>simp[eqL]
  | cons x xs hi =>
   intro ys h1 h2
   cases ys with
   | nil=>simp[eqL]
   | cons y ys =>
    rw[AB6,AAN]at h1 h2
    rw[eqL,AAN,ih x y h1.1 h2.1,hi ys h1.2 h2.2,ADB]
 intro n
 induction n with
 | zero =>
  intro x y h1 h2
  cases x<;>simp[okP]at h1<;>cases y<;>simp[okP]at h2<;>simp[eqD]
 | succ n ih =>
  intro x y h1 h2
  cases x with
  | int a=>cases y<;>simp[okP]at h2<;>simp[eqD]
  | str a=>cases y<;>simp[okP]at h2<;>simp[eqD]
  | tup xs =>
   cases y with
   | tup ys =>
    simp only[eqD,D.tup.injEq]
    exact all n ih xs ys (by simpa [okP]using h1) (by simpa [okP]using h2)
   | int a=>simp[eqD]
   | str a=>simp[eqD]
   | _=>simp[okP]at h2
  | _=>simp[okP]at h1
theorem yE(M:Mem):∀(n:Nat) (x:D),okP n x=true->okD M n x=true:=by
 intro n
 induction n with
 | zero=>intro x h;cases x<;>simp[okP]at h<;>rfl
 | succ n ih =>
  intro x h
  cases x with
  | int a=>rfl
  | str a=>rfl
  | tup xs =>
   simp only[okD]
   rw[AAO]
   intro y hy
   exact ih y (AAO.mp (show xs.all (okP n)=true from h) y hy)
  | _=>simp[okP]at h
theorem GZ(M:Mem):∀(n:Nat) (x y:D),okP n x=true->okP n y=true->gZ M n x y=true->Tri x y n (ltD M n x y) (ltD M n y x):=by
 have base:∀(n:Nat) (a b:Int),Tri (.int a) (.int b) n (decide (a<b)) (decide (b<a)):=λn a b=>by
  have e:∀a,enc n (.int a)=[0,a]:=λa=>by cases n<;>rfl
  rcases Int.lt_trichotomy a b with h | h | h
  ·exact .inr (.inl ⟨by simp;lia,dT_ h,dF_ (by lia),by rw[e,e];exact(bX.head [] [] h).cons 0⟩)
  ·subst h;exact .inl ⟨rfl,dF_ (by lia),dF_ (by lia)⟩
  ·exact .inr (.inr ⟨by simp;lia,dF_ (by lia),dT_ h,by rw[e,e];exact(bX.head [] [] h).cons 0⟩)
 have bases:∀(n:Nat) (a b:Str),Tri (.str a) (.str b) n (bv a b) (bv b a):=λn a b=>by
  have e:∀a:Str,enc n (.str a)=1::(a.cps.toList.map (λ(c:Nat)=>(c:Int)+1)++[0]):=λa=>by cases n<;>rfl
  unfold bv
  rcases qR a.cps.toList b.cps.toList with h | ⟨h1,h2,h3⟩|⟨h1,h2,h3⟩
  ·have:a=b:=xI h
   subst this
   exact .inl ⟨rfl,dF_ (ACx _),dF_ (ACx _)⟩
  ·exact .inr (.inl ⟨λz=>by cases z;exact h2 h1,dT_ h1,dF_ h2,by rw[e,e];exact h3.cons 1⟩)
  ·exact .inr (.inr ⟨λz=>by cases z;exact h1 h2,dF_ h1,dT_ h2,by rw[e,e];exact h3.cons 1⟩)
 intro n
 induction n with
 | zero =>
  intro x y h1 h2 h3
  cases x<;>simp[okP]at h1<;>cases y<;>simp[okP]at h2<;>first | exact base 0 _ _ | exact bases 0 _ _ | simp[gZ]at h3
 | succ n ih =>
  intro x y h1 h2 h3
  have lists:∀(xs ys:List D),xs.all (okP n)=true->ys.all (okP n)=true->Ap (eqD M n) (gZ M n) xs ys=true ->
    (xs=ys/\rB (eqD M n) (ltD M n) xs ys=false/\rB (eqD M n) (ltD M n) ys xs=false) \/
    (xs≠ys/\rB (eqD M n) (ltD M n) xs ys=true/\rB (eqD M n) (ltD M n) ys xs=false/\bX (GO (enc n) xs) (GO (enc n) ys)) \/
    (xs≠ys/\rB (eqD M n) (ltD M n) xs ys=false/\rB (eqD M n) (ltD M n) ys xs=true/\bX (GO (enc n) ys) (GO (enc n) xs)):=by
   intro xs
   induction xs with
   | nil =>
    intro ys _ _ _
    cases ys with
    | nil=>exact .inl ⟨rfl,rfl,rfl⟩
    | cons y ys=>exact .inr (.inl ⟨by simp,rfl,rfl,bX.head _ _ (by decide)⟩)
   | cons x xs hi =>
    intro ys h1 h2 h3
    cases ys with
    | nil=>exact .inr (.inr ⟨by simp,rfl,rfl,bX.head _ _ (by decide)⟩)
    | cons y ys =>
     rw[AB6,AAN]at h1 h2
     rw[Ap]at h3
     have qe:=JN M n x y h1.1 h2.1
     have qe':=JN M n y x h2.1 h1.1
     rw[rB,rB]
     by_cases hq:x=y
     ·subst hq
      rw[if_pos (qe.mpr rfl)]at h3
      rw[if_pos (qe.mpr rfl),if_pos (qe.mpr rfl)]
      rcases hi ys h1.2 h2.2 h3 with⟨a1,a2,a3⟩|⟨a1,a2,a3,a4⟩|⟨a1,a2,a3,a4⟩
      ·exact .inl ⟨by rw[a1],a2,a3⟩
      ·exact .inr (.inl ⟨λz=>a1 (AEG z).2,a2,a3,(a4.pre (enc n x)).cons 1⟩)
      ·exact .inr (.inr ⟨λz=>a1 (AEG z).2,a2,a3,(a4.pre (enc n x)).cons 1⟩)
     ·have n1:¬eqD M n x y=true:=λz=>hq (qe.mp z)
      have n2:¬eqD M n y x=true:=λz=>hq (qe'.mp z).symm
      rw[if_neg n1]at h3
      rw[if_neg n1,if_neg n2]
      rcases ih x y h1.1 h2.1 h3 with⟨a1,_⟩|⟨a1,a2,a3,a4⟩|⟨a1,a2,a3,a4⟩
      ·exact absurd a1 hq
      ·exact .inr (.inl ⟨λz=>hq (AEG z).1,a2,a3,(a4.more _ _).cons 1⟩)
      ·exact .inr (.inr ⟨λz=>hq (AEG z).1,a2,a3,(a4.more _ _).cons 1⟩)
  cases x with
  | int a=>cases y<;>simp[okP]at h2<;>first | exact base (n+1) _ _ | simp[gZ]at h3
  | str a=>cases y<;>simp[okP]at h2<;>first | exact bases (n+1) _ _ | simp[gZ]at h3
  | tup xs =>
   cases y with
   | tup ys =>
    rcases lists xs ys (by simpa [okP]using h1) (by simpa [okP]using h2) h3 with⟨a1,a2,a3⟩|⟨a1,a2,a3,a4⟩|⟨a1,a2,a3,a4⟩
    ·exact .inl ⟨by rw[a1],a2,a3⟩
    ·exact .inr (.inl ⟨λz=>a1 (D.tup.inj z),a2,a3,a4.cons 2⟩)
    ·exact .inr (.inr ⟨λz=>a1 (D.tup.inj z),a2,a3,a4.cons 2⟩)
   | _=>simp[gZ]at h3
  | _=>simp[okP]at h1
theorem ES(h1:okP n x=true)(h2:okP n y=true)(h3:gZ M n x y=true):ltD M n x y=decide (enc n x<enc n y):=by
 rcases GZ M n x y h1 h2 h3 with⟨a1,a2,a3⟩|⟨a1,a2,a3,a4⟩|⟨a1,a2,a3,a4⟩
 ·subst a1;rw[a2,dF_ (ACx _)]
 ·rw[a2,dT_ a4.lt]
 ·rw[a2,dF_ (λz=>ACx _ (List.lt_trans z a4.lt))]
end L2
namespace L2
open PySem PySem.Spec PyProof.Rows DL PySem.W
theorem Inv.laidF(I:Inv X pins σ H s)(k:∀b u,b≠X.env.locals->s.heap.get? b=some u->h'.get? b=some u)(hn:s.heap.Ns X.env.locals m)(hn':h'.Ns X.env.locals m)
  (hp:s.heap.get? a=none) (fa:H a=none) (new:bP X.prog X.w (upd H a o) h' a o):Inv X pins σ (upd H a o) { s with heap:=h',toks:=t' }:=by
 have nea:∀b u,s.heap.get? b=some u->b≠a:=λb u e z=>by subst z;rw[hp]at e;cases e
 refine I.step (g':=s.gens) (d':=s.drawn) (ch:=[]) (λ_ z=>nomatch z) (λb u hL _ _ e _=>k b u hL e) (λb u hL _ _ e _=>⟨u.slots,k b u hL e⟩) (λb u _ e n=>by rw[av (nea b u e)];exact n) (λb u _ e=>?_)
  (λb xs q=>by rw[av (ad q fa)];exact q) (λb u xs q=>by rw[av (ad q fa)];exact q) (λb ps q=>⟨#[],by rw[av (ad q fa),q];simp⟩) (λm' hm=>?_) (λb w q=>?_) I.bare
 ·by_cases hb:b=X.env.locals
  ·subst hb
   obtain⟨o',_,_,ho,_⟩:=hn'
   exact⟨o',ho⟩
  ·exact⟨u,k b u hb e⟩
 ·have:m=m':=funext λx=>hn.agree hm x
  subst this
  exact hn'
 ·by_cases hb:b=a
  ·subst hb
   rw[aL]at q
   cases q
   exact new
  ·rw[av hb]at q
   refine(I.hok b w q).stay (λc v hc r=>k c v ?_ r) (λc z=>by rw[av (ad z fa)];exact z) λc xs z=>by rw[av (ad z fa)];exact z
   rcases hc with rfl | hc
   ·exact ad q I.free
   ·exact ad hc I.free
theorem Inv.keptF(I:Inv X pins σ H s)(k:∀b u,b≠X.env.locals->s.heap.get? b=some u->h'.get? b=some u)(hn:s.heap.Ns X.env.locals m)(hn':h'.Ns X.env.locals m):Inv X pins σ H { s with heap:=h',toks:=t' }:=by
 refine I.step (g':=s.gens) (d':=s.drawn) (ch:=[]) (λ_ z=>nomatch z) (λb u hL _ _ e _=>k b u hL e) (λb u hL _ _ e _=>⟨u.slots,k b u hL e⟩) (λb u _ e n=>n) (λb u _ e=>?_)
  (λb xs q=>q) (λb u xs q=>q) (λb ps q=>⟨#[],by rw[q];simp⟩) (λm' hm=>?_) (λb w q=>?_) I.bare
 ·by_cases hb:b=X.env.locals
  ·subst hb
   obtain⟨o',_,_,ho,_⟩:=hn'
   exact⟨o',ho⟩
  ·exact⟨u,k b u hb e⟩
 ·have:m=m':=funext λx=>hn.agree hm x
  subst this
  exact hn'
 ·refine(I.hok b w q).stay (λc v hc r=>k c v ?_ r) (λc z=>z) λc xs z=>z
  rcases hc with rfl | hc
  ·exact ad q I.free
  ·exact ad hc I.free
theorem pJ{prog:Program}{w:World}{A:Around}{E:Value->Shared->Prop}{s:Shared}{l:Addr}{vs:List Value}{Q:Value->Shared->Prop}(hl:s.heap.IsList l vs.toArray)(h2:vs.length<2)
  (h:∀D h' n,s.heap.objs.size<=D->(∀b o,s.heap.get? b=some o->h'.get? b=some o)->h'.get? D=some { cls:=.type "list",data:=.seq vs.toArray n }->Q (.ref D) { s with heap:=h' }) :
  wpAny (model prog w) A (call (.builtin "sorted") ([AB3 l])) Q E s:=by
 have few:vs.length<=sizeLine:=by rw[ABa];lia
 refine Calls.call_function_entry kind_sorted plain_sorted entry_sorted (args_sorted1 (.ref l)) ?_
 unfold Builtin.«sorted»
 refine AA0 (m:=checkCount "sorted" 1 1 _) (AA7 (AA0 (collect_list hl (AA0 (ADC ?_ few)) few)))
 generalize hg:((s.heap.push (seqObj "list" #[] 0)).update s.heap.objs.size (ABF (· ++ vs.toArray)))=g1
 have hsz:g1.objs.size=s.heap.objs.size+1:=by rw[<-hg,Heap.size_update,size_push']
 have k1:∀b o,s.heap.get? b=some o->g1.get? b=some o:=λb o q=>by
  have hlt:=AAM q
  rw[<-hg,ABi _ _ _ _ (AAQ hlt),Heap.get?_push_ne _ _ _ (AAQ hlt)]
  exact q
 show wpAny _ _ _ _ _ { s with heap:=g1.push (seqObj "list" vs.toArray 0) }
 have hoL:(g1.push (seqObj "list" vs.toArray 0)).get? g1.objs.size=some (seqObj "list" vs.toArray 0):=AAE _ rfl
 refine AA0 (AAr (AAo slot_list_sort (⟨_,hoL,rfl⟩) entry_list_sort ?body (args_list_sort (.ref _))))
 case body =>
  rw[list_sort_plain]
  refine AA0 (ADY hoL rfl ?_)
  refine AA0 (ACo hoL rfl ?_ (by rw[AAB,ABa];lia) (AAV _))
  obtain⟨e1,ho1⟩:∃e1,((g1.push (seqObj "list" vs.toArray 0)).update g1.objs.size (ABF λ_=>(#[]:Array Value))).get? g1.objs.size=some (seqObj "list" #[] e1):=⟨_,ACQ hoL λ_=>#[]⟩
  refine AA0 (seqEpoch_at ho1 rfl (AA0 (wpAny_newTuple (AA0 (ADC (AAr ?_) (AAV _))) few)))
  dsimp only
  have hv2:vs.toArray.size<2:=by rw[AAB];exact h2
  rw[if_pos hv2,if_pos hv2]
  refine AA0 (AA7 ?_)
  rw[StateT.run_pure]
  refine AA0 (AA7 ?_)
  dsimp only
  generalize hg3:(((g1.push (seqObj "list" vs.toArray 0)).update g1.objs.size (ABF λ_=>(#[]:Array Value))).push (seqObj "tuple" vs.toArray 0)).push (seqObj "list" #[] 0)=g3
  have ho3:g3.get? g1.objs.size=some (seqObj "list" #[] e1):=by rw[<-hg3];exact AA6 _ (AA6 _ ho1)
  have k3:∀b o,b≠g1.objs.size->s.heap.get? b=some o->g3.get? b=some o:=λb o hb q=>by
   have q1:=k1 b o q
   rw[<-hg3]
   refine AA6 _ (AA6 _ ?_)
   rw[ABi _ _ _ _ hb]
   exact AA6 _ q1
  refine AA0 (seqEpoch_at ho3 rfl ?_)
  have eo:∀us:List Value,us.length<2->(us.toArray.zip us.toArray).map (·.2)=us.toArray:=λus hu=>by
   match us,hu with
   | [],_=>simp
   | [v],_=>simp
   | _::_::_,hu=>simp at hu;lia
  have eout:(arrOf (SortSt.mk' general' (vs.toArray.zip vs.toArray) #[] 7 none)).map (·.2)=vs.toArray:=eo vs h2
  rw[eout]
  refine AA0 (ACo ho3 rfl ?_ (AAV _) (by rw[AAB,ABa];lia))
  simp only[show failedOf (SortSt.mk' general' (vs.toArray.zip vs.toArray) #[] 7 none)=none from rfl,bne_self_eq_false,AAZ,if_false]
  refine AA7 ⟨_,rfl,AA7 ⟨_,rfl,?_⟩⟩
  obtain⟨c2,hc2⟩:∃c2,(g3.update g1.objs.size (ABF λ_=>vs.toArray)).get? g1.objs.size=some (seqObj "list" vs.toArray c2):=⟨_,ACQ ho3 λ_=>vs.toArray⟩
  refine h g1.objs.size _ c2 (by lia) (λb o q=>?_) hc2
  have hb:b≠g1.objs.size:=AAQ (by rw[hsz];exact ACO (AAM q))
  rw[ABi _ _ _ _ hb]
  exact k3 b o hb q
structure SrtOk(M:Mem)(xs:List D):Prop where
 len:xs.length<64
 ok:∀x∈xs,okP eqN x=true
 cm:∀x∈xs,∀y∈xs,gZ M eqN x y=true
 kd:(∀x∈xs,∃z,x=.str z)\/(∀x∈xs,∃i,x=.int i)\/(∀x∈xs,∃z r,x=.tup (.str z::r))\/(∀x∈xs,∃i r,x=.tup (.int i::r))\/(∀x∈xs,∃z r,x=.tup (.tup z::r))
structure SrtG(M:Mem)(xs:List D):Prop where
 len:xs.length<64
 okd:∀x∈xs,okD M eqN x=true
 cm:∀x∈xs,∀y∈xs,gZ M eqN x y=true
 kd:(∀x∈xs,∃z,x=.str z)\/(∀x∈xs,∃i,x=.int i)\/(∀x∈xs,∃z r,x=.tup (.str z::r))\/(∀x∈xs,∃i r,x=.tup (.int i::r))\/(∀x∈xs,∃z r,x=.tup (.tup z::r))
 od:∃en:D->List Int,∀a∈xs,∀b∈xs,ltD M eqN a b=decide (en a<en b)
theorem SrtOk.g(so:SrtOk M xs):SrtG M xs :=
 ⟨so.len,λx hx=>yE M _ _ (so.ok x hx),so.cm,so.kd,enc eqN,λa ha b hb=>ES (so.ok a ha) (so.ok b hb) (so.cm a ha b hb)⟩
def Ar(M:Mem)(ys:List D):Prop:=ys.Pairwise λa b=>ltD M eqN b a=false
def xY:DRA:=λds M Q=>match ds with
 | [.ref n]=>∃xs,ao M n xs/\SrtG M xs/\∀ys,ys.Perm xs->Ar M ys->Q (.ref M.length) (M++[.lst ys])
 | _=>False
theorem Reps.perm{K:AA2}{ρ:List Addr}{H:Hp}{ds:List D}{vs:List V}(r:Reps K ρ H ds vs)(is:List Nat)(hi:∀i∈is,i<ds.length):Reps K ρ H (is.map λi=>ds.getD i .non) (is.map λi=>vs.getD i .non):=by
 induction is with
 | nil=>exact .nil
 | cons i is ih =>
  have h:=hi i AAG
  obtain⟨v,e,rv⟩:=r.get (AA5 h)
  refine .cons ?_ (ih λj hj=>hi j (AA8 _ hj))
  show Rep K ρ H (ds.getD i .non) (vs.getD i .non)
  rw[AAK,AAK,e,AA5 h]
  exact rv
theorem az.perm(r:az vs us)(is:List Nat)(hi:∀i∈is,i<vs.length):az (is.map λi=>vs.getD i .non) (is.map λi=>us.getD i .none):=by
 induction is with
 | nil=>exact .nil
 | cons i is ih =>
  have h:=hi i AAG
  obtain⟨v,e,rv⟩:=fZ r (AA5 h)
  refine .cons ?_ (ih λj hj=>hi j (AA8 _ hj))
  show aU (vs.getD i .non) (us.getD i .none)
  rw[AAK,AAK,e,AA5 h]
  exact rv
instance:Inhabited D:=⟨.non⟩
theorem EQ(o:HO)(x:bP P w H h a o):∃u,h.get? a=some u:=by
 cases o with
 | lst _=>obtain⟨_,_,_,_,e⟩:=x;exact⟨_,e⟩
 | tup _=>obtain⟨_,_,_,o,e,_⟩:=x;exact⟨o,e⟩
 | dK _=>obtain⟨_,_,_,_,_,_,_,e,_⟩:=x;exact⟨_,e⟩
 | dT _=>obtain⟨_,_,_,_,o,_,_,e,_⟩:=x;exact⟨o,e⟩
 | set _ _=>obtain⟨o,_,_,_,e,_⟩:=x;exact⟨_,e⟩
 | ins _ _ _=>obtain⟨_,_,_,e,_⟩:=x;exact⟨_,e⟩
 | own _=>exact x
 | xd _=>obtain⟨_,⟨_,_,_,e,_⟩,_⟩:=x;exact⟨_,e⟩
 | rng _ _=>obtain⟨_,_,_,e⟩:=x;exact⟨_,e⟩
 | frz _ _=>obtain⟨e,_⟩:=x;exact⟨_,e⟩
 | tbl _=>exact⟨_,x⟩
 | met _ _=>exact⟨_,x⟩
 | ext _=>obtain⟨_,e,_⟩:=x;exact e
theorem HOk.none(x:HOk P w H h)(e:h.get? a=none):H a=none:=by
 cases q:H a with
 | none=>rfl
 | some o =>
  exfalso
  obtain⟨u,hu⟩:=EQ o (x a o q)
  rw[e]at hu;cases hu
theorem EW(I:Inv X pins σ H s)(sm:Sim X.K ρ M H)(n:Nat)(A:Around)(hu:A.units+n<cLine):∀(ds es:List D) (vs ws:List V) (its jts:List Value),Reps X.K ρ H ds vs->az vs its->Reps X.K ρ H es ws->az ws jts->ds.all (okD M n)=true->es.all (okD M n)=true ->
  Ap (eqD M n) (gZ M n) ds es=true->LexAt A s its jts (rB (eqD M n) (ltD M n) ds es):=by
 intro ds
 induction ds with
 | nil =>
  intro es vs ws its jts p1 q1 p2 q2 _ _ _
  cases p1;cases q1
  cases p2 with
  | nil=>cases q2;exact .nn
  | cons _ _=>cases q2;exact .nc
 | cons d ds hi =>
  intro es vs ws its jts p1 q1 p2 q2 k1 k2 k3
  cases p1 with
  | cons a1 p1 =>
   cases q1 with
   | cons b1 q1 =>
    cases p2 with
    | nil=>cases q2;exact .cn
    | @cons e _ es' _ a2 p2 =>
     cases q2 with
     | cons b2 q2 =>
      rw[AB6,AAN]at k1 k2
      have he:=(mD I sm n A d _ _ _ _ _ hu a1 b1 a2 b2 k1.1 k2.1).1
      rw[rB]
      rw[Ap]at k3
      by_cases hq:eqD M n d e=true
      ·rw[hq]at he
       rw[if_pos hq]at k3 ⊢
       exact .eq he (hi _ _ _ _ _ p1 q1 p2 q2 k1.2 k2.2 k3)
      ·have hq':=ABW.mpr hq
       rw[hq']at he
       rw[if_neg hq]at k3 ⊢
       exact .ne he (yM I sm n A _ _ _ _ _ _ hu a1 b1 a2 b2 k1.1 k2.1 k3)
theorem BJ(h:LexAt A s its jts k):∀(i:Nat),(b&&i==0)=false->(b&&i+1==0)=false->Q k s->KatLex prog w A b (decide (its.length<jts.length)) Q (its.zip jts) i s:=by
 have un:∀i:Nat,(b&&i+1==0)=false:=λi=>by cases b<;>simp
 induction h with
 | nn=>intro i _ _ q;exact q
 | nc=>intro i _ _ q;exact(show Q (decide (0<_+1)) s by rw[dT_ (Nat.succ_pos _)];exact q)
 | cn=>intro i _ _ q;exact(show Q (decide (_+1<0)) s by rw[dF_ (Nat.not_lt_zero _)];exact q)
 | @eq x y xs ys k he t ih =>
  intro i hb _ q
  refine kat_cons (he prog w _ _ (kat_yes ?_))
  have:=ih (i+1) (un i) (un (i+1)) q
  rw[show decide ((x::xs).length<(y::ys).length)=decide (xs.length<ys.length) by simp]
  exact this
 | @ne x y xs ys k he t =>
  intro i hb _ q
  refine kat_cons (he prog w _ _ (kat_no ?_))
  rw[hb]
  exact kat_one _ _ (t prog w _ _ q)
theorem zo(he:ACP A s p q e)(hl:e=false->∀Q':Bool->Shared->Prop,Q' l s->wpAny (model prog w) A (oneLt' (b&&0==0) p q) Q' (λ_ _=>False) s)(ht:e=true->LexAt A s its jts k)(h:Q (if e=true then k else l) s) :
  KatLex prog w A b (decide ((p::its).length<(q::jts).length)) Q ((p::its).zip (q::jts)) 0 s:=by
 refine kat_cons (he prog w _ _ ?_)
 cases e with
 | true =>
  refine kat_yes ?_
  rw[show decide ((p::its).length<(q::jts).length)=decide (its.length<jts.length) by simp]
  exact BJ (ht rfl) 1 (by cases b<;>rfl) (by cases b<;>rfl) h
 | false=>exact kat_no (hl rfl _ h)
section
variable{X:Cx}{pins:List (Addr×Obj)}{σ:St}{H:Hp}{s:Shared}{ρ:List Addr}{M:Mem}
theorem qo{M:Model}{h:Heap}{x:Str}{t:Tok}:Looks M h (typeOf (.str x t)) (.type "str"):=Looks.of_pure rfl
theorem qp{M:Model}{h:Heap}{x:Int}{t:Tok}:Looks M h (typeOf (.int x t)) (.type "int"):=Looks.of_pure rfl
theorem Reps.getD'(r:Reps X.K ρ H ds vs)(rr:az vs its)(h:i<ds.length):∃v,Rep X.K ρ H (ds.getD i default) v/\aU v (its.getD i .none)/\ds.getD i default∈ds:=by
 obtain⟨v,e,rv⟩:=r.get (AA5 h)
 obtain⟨u,e',ru⟩:=fZ rr e
 refine⟨v,?_,?_,?_⟩
 ·rw[AAK,AA5 h];exact rv
 ·rw[AAK,e'];exact ru
 ·rw[AAK,AA5 h];exact AAf h
theorem Reps.mem(r:Reps X.K ρ H ds vs)(rr:az vs its)(h:u∈its):∃d v,d∈ds/\Rep X.K ρ H d v/\aU v u:=by
 induction ds generalizing vs its with
 | nil=>cases r;cases rr;cases h
 | cons d0 ds ih =>
  cases r with
  | cons r1 r =>
   cases rr with
   | cons q1 q =>
    rcases(AAF (a:=u)).mp h with rfl | h
    ·exact⟨_,_,AAG,r1,q1⟩
    ·obtain⟨d,v,h1,h2,h3⟩:=ih r q h
     exact⟨d,v,AA8 _ h1,h2,h3⟩
theorem sR(I:Inv X pins σ H s)(r:Reps X.K ρ H xs ws)(rr:az ws its)(hx:∀x∈xs,∃f r,x=.tup (f::r)) :
  ∃fs,KatTups s.heap its fs/\fs.length=its.length/\∀u∈fs,∃d v,Rep X.K ρ H d v/\aU v u/\∃r,D.tup (d::r)∈xs:=by
 induction xs generalizing ws its with
 | nil=>cases r;cases rr;exact⟨[],.nil,rfl,λ_ z=>nomatch z⟩
 | cons d ds ih =>
  cases r with
  | cons r1 r =>
   cases rr with
   | cons q1 q =>
    obtain⟨fs,h1,h2,h3⟩:=ih r q λx hx'=>hx x (AA8 _ hx')
    obtain⟨f,bm,rfl⟩:=hx d AAG
    cases r1 with
    | tup hq rs =>
     cases q1
     obtain⟨its,rv,pl,hz⟩:=I.tuple hq
     cases rs with
     | cons a1 rs =>
      cases rv with
      | cons b1 rv =>
       obtain⟨o,ho,hc,n,hd⟩:=pl
       refine⟨_::fs,.cons ho hc hd rfl h1,by simp[h2],λu hu=>?_⟩
       rcases AAF.mp hu with rfl | hu
       ·exact⟨_,_,a1,b1,_,AAG⟩
       ·obtain⟨d,v,e1,e2,r',e3⟩:=h3 u hu
        exact⟨d,v,e1,e2,r',AA8 _ e3⟩
noncomputable def ltc(M:Mem)(xs:List D)(i j:Nat):Bool:=ltD M eqN (xs.getD i default) (xs.getD j default)
theorem jW(I:Inv X pins σ H s)(sm:Sim X.K ρ M H){xs:List D}{ws:List V}{its:List Value}(so:SrtG M xs)(r:Reps X.K ρ H xs ws)(rr:az ws its)(h2:2<=its.length){A:Around}(hu:A.units+eqN<cLine) :
  wpAny (model X.prog X.w) A (keyKind' its.toArray) (λκ s'=>s'=s/\∀i j (C:Bool->Shared->Prop),i<its.length->j<its.length->C (ltc M xs i j) s->kas_ask X.prog X.w A κ its i j C s) (λ_ _=>False) s:=by
 have lw:=r.length
 have li:=rr.length
 have le:xs.length=its.length:=by lia
 have tups:∀(b:Bool),(∀x∈xs,∃f r,x=.tup (f::r))->(∀(f g:D) (vf vg:V) (p q:Value) (r r':List D),D.tup (f::r)∈xs->D.tup (g::r')∈xs->Rep X.K ρ H f vf->aU vf p->Rep X.K ρ H g vg->aU vg q ->
   (eqD M 29 f g=false->∀Q':Bool->Shared->Prop,Q' (ltD M 29 f g) s->wpAny (model X.prog X.w) A (oneLt' (b&&0==0) p q) Q' (λ_ _=>False) s)) ->
   ∀i j (C:Bool->Shared->Prop),i<its.length->j<its.length->C (ltc M xs i j) s->kas_ask X.prog X.w A (tuples' b) its i j C s:=by
  intro b hx hone i j C hi hj hc
  unfold kas_ask
  obtain⟨v1,r1,e1,m1⟩:=r.getD' rr (show i<xs.length by lia)
  obtain⟨v2,r2,e2,m2⟩:=r.getD' rr (show j<xs.length by lia)
  unfold ltc at hc
  have k1:=so.okd _ m1
  have k2:=so.okd _ m2
  have k3:=so.cm _ m1 _ m2
  generalize xs.getD i default=x at *
  generalize xs.getD j default=y at *
  obtain⟨f,rf,rfl⟩:=hx _ m1
  obtain⟨g,rg,rfl⟩:=hx _ m2
  cases r1 with
  | tup hq rs =>
   cases r2 with
   | tup hq' rs' =>
    generalize its.getD i .none=u1 at *
    generalize its.getD j .none=u2 at *
    cases e1;cases e2
    obtain⟨as,ra,pa,_⟩:=I.tuple hq
    obtain⟨bs,rb,pb,_⟩:=I.tuple hq'
    obtain⟨o,ho,_,n,hd⟩:=pa
    obtain⟨o',ho',_,n',hd'⟩:=pb
    refine kat_lt ho hd ho' hd' ?_
    cases rs with
    | cons a1 rs =>
     cases ra with
     | @cons _ p _ la b1 ra =>
      cases rs' with
      | cons a2 rs' =>
       cases rb with
       | @cons _ q _ lb b2 rb =>
        have hu':A.units+29<cLine:=by have:eqN=30:=rfl;lia
        have z1:okD M 29 f=true/\rf.all (okD M 29)=true:=by
         have:(f::rf).all (okD M 29)=true:=k1
         rwa [AB6,AAN]at this
        have z2:okD M 29 g=true/\rg.all (okD M 29)=true:=by
         have:(g::rg).all (okD M 29)=true:=k2
         rwa [AB6,AAN]at this
        have z3:(if eqD M 29 f g=true then Ap (eqD M 29) (gZ M 29) rf rg else gZ M 29 f g)=true:=k3
        have he:=(mD I sm 29 A _ _ _ _ _ _ hu' a1 b1 a2 b2 z1.1 z2.1).1
        have hc':C (if eqD M 29 f g=true then rB (eqD M 29) (ltD M 29) rf rg else ltD M 29 f g) s:=hc
        cases hq3:eqD M 29 f g with
        | true =>
         rw[hq3]at he hc' z3
         have:=zo (prog:=X.prog) (w:=X.w) (b:=b) (Q:=C) (l:=true) he (λz=>nomatch z) (λ_=>EW I sm 29 A hu' _ _ _ _ _ _ rs ra rs' rb z1.2 z2.2 z3) hc'
         simpa using this
        | false =>
         rw[hq3]at he hc'
         have:=zo (prog:=X.prog) (w:=X.w) (b:=b) (Q:=C) (l:=ltD M 29 f g) (its:=la) (jts:=lb) (k:=true) he (λ_=>hone f g _ _ _ _ _ _ m1 m2 a1 b1 a2 b2 hq3) (λz=>nomatch z) hc'
         simpa using this
 have fin:∀(κ:SortKind),(∀i j (C:Bool->Shared->Prop),i<its.length->j<its.length->C (ltc M xs i j) s->kas_ask X.prog X.w A κ its i j C s)->(s=s/\∀i j (C:Bool->Shared->Prop),i<its.length->j<its.length->C (ltc M xs i j) s->kas_ask X.prog X.w A κ its i j C s):=λκ h=>⟨rfl,h⟩
 have eqn:A.units+29<cLine:=by have:eqN=30:=rfl;lia
 rcases so.kd with hk | hk | hk | hk | hk
 ·refine kas_kind (T:=.type "str") h2 (λu hu=>?_) (by decide) (by decide) (fin _ λi j C hi hj hc=>?_)
  ·obtain⟨d,v,m1,r1,e1⟩:=r.mem rr hu
   obtain⟨z,rfl⟩:=hk d m1
   cases r1
   obtain⟨t,rfl⟩:=e1
   exact qo
  ·unfold kas_ask
   obtain⟨v1,r1,e1,m1⟩:=r.getD' rr (show i<xs.length by lia)
   obtain⟨v2,r2,e2,m2⟩:=r.getD' rr (show j<xs.length by lia)
   unfold ltc at hc
   obtain⟨z,hz⟩:=hk _ m1
   obtain⟨z',hz'⟩:=hk _ m2
   rw[hz]at r1 hc
   rw[hz']at r2 hc
   cases r1;cases r2
   obtain⟨t,h1⟩:=e1
   obtain⟨t',h2⟩:=e2
   rw[h1,h2]
   exact kas_lt_str hc
 ·refine kas_kind (T:=.type "int") h2 (λu hu=>?_) (by decide) (by decide) (fin _ λi j C hi hj hc=>?_)
  ·obtain⟨d,v,m1,r1,e1⟩:=r.mem rr hu
   obtain⟨z,rfl⟩:=hk d m1
   cases r1
   obtain⟨t,rfl⟩:=e1
   exact qp
  ·unfold kas_ask
   obtain⟨v1,r1,e1,m1⟩:=r.getD' rr (show i<xs.length by lia)
   obtain⟨v2,r2,e2,m2⟩:=r.getD' rr (show j<xs.length by lia)
   unfold ltc at hc
   obtain⟨z,hz⟩:=hk _ m1
   obtain⟨z',hz'⟩:=hk _ m2
   rw[hz]at r1 hc
   rw[hz']at r2 hc
   cases r1;cases r2
   obtain⟨t,h1⟩:=e1
   obtain⟨t',h2⟩:=e2
   rw[h1,h2]
   exact kat_lt_int hc
 ·obtain⟨fs,t1,t2,t3⟩:=sR I r rr λx hx=>(hk x hx).elim λz ⟨r,e⟩=>⟨_,_,e⟩
  refine kat_kind (T:=.type "str") t1 (by lia) (λu hu=>?_) (by decide) (fin _ (tups _ (λx hx=>(hk x hx).elim λz ⟨r,e⟩=>⟨_,_,e⟩) λf g vf vg p q r r' m1 m2 r1 e1 r2 e2 hq Q' h=>?_))
  ·obtain⟨d,v,r1,e1,r',m1⟩:=t3 u hu
   obtain⟨z,r'',e⟩:=hk _ m1
   cases e
   cases r1
   obtain⟨t,rfl⟩:=e1
   exact qo
  ·obtain⟨z,_,e⟩:=hk _ m1
   cases e
   obtain⟨z',_,e'⟩:=hk _ m2
   cases e'
   cases r1;cases r2
   obtain⟨t,rfl⟩:=e1
   obtain⟨t',rfl⟩:=e2
   exact oneLt_str h
 ·obtain⟨fs,t1,t2,t3⟩:=sR I r rr λx hx=>(hk x hx).elim λz ⟨r,e⟩=>⟨_,_,e⟩
  refine kat_kind (T:=.type "int") t1 (by lia) (λu hu=>?_) (by decide) (fin _ (tups _ (λx hx=>(hk x hx).elim λz ⟨r,e⟩=>⟨_,_,e⟩) λf g vf vg p q r r' m1 m2 r1 e1 r2 e2 hq Q' h=>?_))
  ·obtain⟨d,v,r1,e1,r',m1⟩:=t3 u hu
   obtain⟨z,r'',e⟩:=hk _ m1
   cases e
   cases r1
   obtain⟨t,rfl⟩:=e1
   exact qp
  ·obtain⟨z,_,e⟩:=hk _ m1
   cases e
   obtain⟨z',_,e'⟩:=hk _ m2
   cases e'
   cases r1;cases r2
   obtain⟨t,rfl⟩:=e1
   obtain⟨t',rfl⟩:=e2
   exact oneLt_int h
 ·obtain⟨fs,t1,t2,t3⟩:=sR I r rr λx hx=>(hk x hx).elim λz ⟨r,e⟩=>⟨_,_,e⟩
  refine kat_kind (T:=.type "tuple") t1 (by lia) (λu hu=>?_) (by decide) (fin _ (tups _ (λx hx=>(hk x hx).elim λz ⟨r,e⟩=>⟨_,_,e⟩) λf g vf vg p q r r' m1 m2 r1 e1 r2 e2 hq Q' h=>?_))
  ·obtain⟨d,v,r1,e1,r',m1⟩:=t3 u hu
   obtain⟨z,r'',e⟩:=hk _ m1
   cases e
   cases r1 with
   | tup hq rs =>
    cases e1
    obtain⟨_,_,pl,_⟩:=I.tuple hq
    obtain⟨o,ho,hc,_⟩:=pl
    rw[<-hc]
    exact(show Looks _ s.heap (typeOf (.ref _)) o.cls from(Looks.ld ho).andThen .now)
  ·have k1:okD M 29 f=true:=by
    have:(f::r).all (okD M 29)=true:=so.okd _ m1
    rw[AB6,AAN]at this
    exact this.1
   have k2:okD M 29 g=true:=by
    have:(g::r').all (okD M 29)=true:=so.okd _ m2
    rw[AB6,AAN]at this
    exact this.1
   have k3:(if eqD M 29 f g=true then Ap (eqD M 29) (gZ M 29) r r' else gZ M 29 f g)=true:=so.cm _ m1 _ m2
   rw[hq]at k3
   exact kat_one _ _ (yM I sm 29 A _ _ _ _ _ _ eqn r1 e1 r2 e2 k1 k2 k3 _ _ _ _ h)
end
theorem EF{xs:List D}{lt:D->D->Bool}{en:D->List Int}(e:∀a∈xs,∀b∈xs,lt a b=decide (en a<en b)):(∀a∈xs,lt a a=false)/\(∀a∈xs,∀b∈xs,∀d∈xs,lt a b=true->lt b d=true->lt a d=true)/\∀a∈xs,∀b∈xs,∀d∈xs,lt a d=true->lt a b=true\/lt b d=true:=by
 refine⟨λa ha=>?_,λa ha b hb d hd h1 h2=>?_,λa ha b hb d hd h=>?_⟩
 ·rw[e a ha a ha,dF_ (ACx _)]
 ·rw[e a ha b hb,decide_eq_true_eq]at h1
  rw[e b hb d hd,decide_eq_true_eq]at h2
  rw[e a ha d hd,decide_eq_true_eq]
  exact List.lt_trans h1 h2
 ·rw[e a ha d hd,decide_eq_true_eq]at h
  rw[e a ha b hb,e b hb d hd,decide_eq_true_eq,decide_eq_true_eq]
  by_cases z:en a<en b
  ·exact .inl z
  ·have z':en b<=en a:=z
   exact .inr (List.lt_of_le_of_lt z' h)
theorem EG{xs:List D}(so:SrtG M xs):(∀a∈xs,ltD M eqN a a=false)/\(∀a∈xs,∀b∈xs,∀d∈xs,ltD M eqN a b=true->ltD M eqN b d=true->ltD M eqN a d=true)/\∀a∈xs,∀b∈xs,∀d∈xs,ltD M eqN a d=true->ltD M eqN a b=true\/ltD M eqN b d=true :=
 so.od.elim λ_ e=>EF e
theorem xP{l:Addr}{xs:List D}{ws:List V}{its:List Value}{R:VK}{lt:D->D->Bool}(I:Inv X pins σ H s)(sm:Sim X.K ρ M H)
  (keys:∀h',Inv X pins σ H { s with heap:=h' }->wpAny (model X.prog X.w) X.A.in1.in1 (keyKind' its.toArray) (λκ s'=>s'={ s with heap:=h' }/\∀i j (C:Bool->Shared->Prop),i<its.length->j<its.length->C (lt (xs.getD i default) (xs.getD j default)) { s with heap:=h' }->kas_ask X.prog X.w X.A.in1.in1 κ its i j C { s with heap:=h' }) (λ_ _=>False) { s with heap:=h' })
  (o1:∀a∈xs,lt a a=false) (o2:∀a∈xs,∀b∈xs,∀d∈xs,lt a b=true->lt b d=true->lt a d=true) (o3:∀a∈xs,∀b∈xs,∀d∈xs,lt a d=true->lt a b=true\/lt b d=true) (r:Reps X.K ρ H xs ws) (rr:az ws its) (hl:s.heap.IsList l its.toArray) (hz:ws.length<=sizeLine) (h2:2<=its.length) (h64:its.length<64)
  (hne:l≠X.env.locals) (kk:∀v H',((∀Q:DK,(∀ys,ys.Perm xs->(ys.Pairwise λa b=>lt b a=false)->Q (.ref M.length) (M++[.lst ys]))->VQ X.K ρ H Q v H'))->R v H') :
  wpAny (model X.prog X.w) X.A (call (.builtin "sorted") [.ref l]) (EP X pins σ R) X.xe s:=by
 obtain⟨m,hn,hm⟩:=I.loc
 have lw:=r.length
 have li:=rr.length
 obtain⟨ol,hol,_⟩:=id hl
 have mem:∀a o,(a,o)∈[]++(l,ol)::Att.ledger s.heap X.env.locals l↔a≠X.env.locals/\s.heap.get? a=some o:=λa o=>by
  rw[AAY,AAF,Att.mem_ledger]
  constructor
  ·rintro(h | ⟨h1,_,h3⟩)
   ·cases h;exact⟨hne,hol⟩
   ·exact⟨h1,h3⟩
  ·rintro⟨h1,h2⟩
   by_cases hal:a=l
   ·subst hal
    rw[hol]at h2;cases h2
    exact .inl rfl
   ·exact .inr ⟨h1,hal,h2⟩
 refine kat_sorted (Att.fr_all hn) (Att.news_ledger hne hol) hl h2 h64 λD e1 h' F' N' lw'=>?_
 have kp:∀b u,b≠X.env.locals->s.heap.get? b=some u->h'.get? b=some u:=λb u hb e=>(N' (b,u) (AA8 _ ((mem b u).mpr ⟨hb,e⟩))).1
 have hDL:D≠X.env.locals:=(N' _ AAG).2.1
 have hD:s.heap.get? D=none:=by
  cases q:s.heap.get? D with
  | none=>rfl
  | some o=>exact absurd (lw' (D,o) ((mem D o).mpr ⟨hDL,q⟩)) (AAk _)
 have I':Inv X pins σ H { s with heap:=h' }:=I.keptF (t':=s.toks) kp hn F'.ns
 refine ABc (keys h' I') (λκ s' hk=>?_) λ_ _ x=>x
 obtain⟨rfl,hask⟩:=hk
 refine Srt.wp_run (n:=its.length) (c:=λi j=>if i<xs.length then(if j<xs.length then lt (xs.getD i default) (xs.getD j default)else true)else false) (λi j C hi hj hc=>?_) _ (Srt.sort_bd (by lia)).1 ?_
 ·refine hask i j C hi hj ?_
  rw[if_pos (by lia),if_pos (by lia)]at hc
  exact hc
 ·have hent:=Srt.All.run (c:=λi j=>if i<xs.length then(if j<xs.length then lt (xs.getD i default) (xs.getD j default)else true)else false) _ (Srt.sort_bd (n:=its.length) (by lia)).2
  have hsl:=Srt.sort_list xs (by lia) o1 o2 o3
  try dsimp only at hsl
  rw[show xs.length=its.length by lia]at hsl hent ⊢
  generalize Srt.run _ (ADV its.length)=p at hent hsl ⊢
  have hi:∀i∈p.toList,i<xs.length:=λi h=>by
   have:=hent.mem_iff.mp h
   rw[ABK]at this
   lia
  refine KasFin.intro F' N' (UpdF.head λq hq=>AAQ (lw' q hq)) λh2 c F2 N2=>?_
  have r':=r.perm p.toList hi
  have rr':=rr.perm p.toList (λi h=>by have:=hi i h;lia)
  have hD':H D=none:=HOk.none I.hok hD
  refine⟨.ref D,_,I.laidF (t':=s.toks) (o:=.lst (p.toList.map λi=>ws.getD i .non)) (λb u hb e=>(N2 (b,u) (AA8 _ ((mem b u).mpr ⟨hb,e⟩))).1) hn F2.ns hD hD' ⟨?_,_,c,rr',(N2 _ AAG).1⟩,rfl,
   kk _ _ λQ hQ=>VQ.laidL sm .refl r' hD' (hQ _ hsl.1 hsl.2)⟩
  rw[AA4]
  have:=hsl.1.length_eq
  rw[AA4]at this
  lia
theorem wS{X:Cx}(hr:Room k X.A):X.A.in1.in1.units+eqN<cLine:=by
 have:=hr.un
 have:eqN=30:=rfl
 show X.A.units+1+1+eqN<cLine
 lia
theorem AH{k:Nat}{l:Addr}{xs:List D}{ws:List V}{its:List Value}{R:VK}(hr:Room k X.A)(I:Inv X pins σ H s)(sm:Sim X.K ρ M H)(so:SrtG M xs)(r:Reps X.K ρ H xs ws)(rr:az ws its)(hl:s.heap.IsList l its.toArray)(hz:ws.length<=sizeLine)(h2:2<=its.length)(h64:its.length<64)
  (hne:l≠X.env.locals) (kk:∀v H',((∀Q:DK,(∀ys,ys.Perm xs->Ar M ys->Q (.ref M.length) (M++[.lst ys]))->VQ X.K ρ H Q v H'))->R v H') :
  wpAny (model X.prog X.w) X.A (call (.builtin "sorted") [.ref l]) (EP X pins σ R) X.xe s :=
 have o:=EG so
 xP (lt:=ltD M eqN) I sm (λ_ I'=>jW I' sm so r rr h2 (wS hr)) o.1 o.2.1 o.2.2 r rr hl hz h2 h64 hne kk
theorem Inv.sqL_ne(I:Inv X pins σ H s)(h:SqL X.K H a xs):a≠X.env.locals:=by
 rcases h with h | ⟨o,its,n,hk,_⟩
 ·rcases h with h | ⟨_,h⟩
  ·exact ad h I.free
  ·exact ad h I.free
 ·have:=AAM (I.mod.kin a o hk)
  exact AAQ (AAT this (AAp I.ok.bsz I.ok.above))
theorem Aa(hr:Room k X.A):hZ X (.builtin "sorted") xY:=by
 rintro pins s σ H vs us R I rv ⟨ds,M,ρ,Q,sm,rs,q,kk⟩
 unfold xY at q
 split at q
 ·obtain⟨xs,hL,so,q⟩:=q
  cases rs with
  | cons r1 rs =>
   cases rs
   obtain⟨u,rfl,e1⟩:=az.one rv
   cases r1 with
   | ref e =>
    cases e1
    obtain⟨ws,hq,r⟩:=ao.seq sm hL e
    obtain⟨its,rr,pl,hz⟩:=I.list hq
    have lw:=r.length
    have li:=rr.length
    by_cases h2:its.length<2
    ·refine pJ pl.isList h2 λD h' n hD hk ho=>?_
     refine⟨.ref D,_,I.laid (t':=s.toks) (o:=.lst ws) hk hD ⟨hz,its,n,rr,ho⟩,rfl,kk _ _ (VQ.laidL sm .refl r (I.hok.fresh hD) (q xs (List.Perm.refl _) ?_))⟩
     unfold Ar
     match xs,(show xs.length<2 by lia) with
     | [],_=>exact ADN
     | [x],_=>exact ACa _ _
     | _::_::_,hx=>simp at hx;lia
    ·have h2':2<=its.length:=by lia
     have h64:its.length<64:=by have:=so.len;lia
     exact AH hr I sm so r rr pl.isList hz h2' h64 (I.sqL_ne hq) λv H' x=>kk v H' (x Q q)
 ·exact q.elim
theorem qm(hit:s.heap.IsTupleIter it t i)(ht:s.heap.IsTuple t items)(hx:items[i]?=some x)
  (hQ:∀h',h'.IsTupleIter it t (i+1)->ABt it s.heap h'->Q x { s with heap:=h' }):wpAny (model prog w) A (AAz (.ref it)) Q E s:=by
 obtain⟨o,ho,hc,hd⟩:=id hit
 obtain⟨ol,hol,_,nl,hdl⟩:=ht
 unfold AAz
 refine AA0 (AAl (name:=AA1 "__next__") hit.typeIs F.slot_tuple_iterator_next (AAo F.slot_tuple_iterator_next hit.typeIs F.entry_tuple_iterator_next ?_ (F.args_tuple_iterator_next_1 (.ref it))))
 refine(show wpAny (model prog w) _ (field (.ref it) 0 >>= _) _ _ s from AA0 (ABS ho hd (x:=.ref t) rfl ?_))
 refine(show wpAny (model prog w) _ (if (AB3 t==ABO)=true then _ else field (.ref it) 1 >>= _) _ _ s from ?_)
 rw[if_neg (show ¬(AB3 t==ABO)=true from AAc)]
 refine AA0 (ABS ho hd (x:=.int i 0) rfl (show wpAny (model prog w) _ (seqItems? (.ref t) >>= _) _ _ s from AA0 (ABj hol hdl ?_)))
 simp only[ABw,hx]
 refine AA0 (ACy ho hd (by simp) (AA7 ⟨x,rfl,AA7 (hQ _ ⟨_,ABH _ ho (ADZ (ACD hd _)),(Obj.cls_mapFields ..).trans hc,?_⟩ (AB0 ..))⟩))
 rw[ACD hd];simp[rawInt]
theorem jk(hh:A.handled=none)(hit:s.heap.IsTupleIter it t i)(ht:s.heap.IsTuple t items)(hx:items[i]?=none)
  (hE:∀h' e,Heap.ExtBut it s.heap h'->(∃o,h'.get? e=some o/\o.cls=.type "StopIteration")->E (.ref e) { s with heap:=h' }):wpAny (model prog w) A (AAz (.ref it)) Q E s:=by
 obtain⟨o,ho,hc,hd⟩:=id hit
 obtain⟨ol,hol,_,nl,hdl⟩:=ht
 unfold AAz
 refine AA0 (AAl (name:=AA1 "__next__") hit.typeIs F.slot_tuple_iterator_next (AAo F.slot_tuple_iterator_next hit.typeIs F.entry_tuple_iterator_next ?_ (F.args_tuple_iterator_next_1 (.ref it))))
 refine(show wpAny (model prog w) _ (field (.ref it) 0 >>= _) _ _ s from AA0 (ABS ho hd (x:=.ref t) rfl ?_))
 refine(show wpAny (model prog w) _ (if (AB3 t==ABO)=true then _ else field (.ref it) 1 >>= _) _ _ s from ?_)
 rw[if_neg (show ¬(AB3 t==ABO)=true from AAc)]
 refine AA0 (ABS ho hd (x:=.int i 0) rfl (show wpAny (model prog w) _ (seqItems? (.ref t) >>= _) _ _ s from AA0 (ABj hol hdl ?_)))
 simp only[ABw,hx]
 refine AA0 (ACc (AA0 (ACy ho hd (by simp) (show wpAny (model prog w) _ (newExc (.type "StopIteration") [] >>= _) _ _ _ from AA0 ?_))))
 simp only[newExc,newTuple]
 refine AA0 (AAj (AA0 (m:=firstArgMember _ _) (wpAny_of_eq (a:=ABO) (by first | rfl | (simp only[firstArgMember];rfl)) (AAj ?_ (by size_fits)))) (by size_fits))
 simp only[raiseNew]
 refine AA0 (wpAny_handled ?_)
 first | rw[show A.in1.handled=none from hh] | rw[hh]
 exact AA0 (AA7 (wpAny_throw (hE _ _ (((AB0 ..).extBut.push _).push _) (⟨_,AAE _ rfl,rfl⟩))))
theorem tf(hh:A.handled=none)(it t:Addr)(hne:t≠it)(items:Array Value):Draws prog w A it [it,t] items.size (λi v=>items[i]?=some v) (λi h=>h.IsTupleIter it t i/\h.IsTuple t items) where
 live:=λ_ _ ⟨⟨o,ho,_⟩,_⟩=>⟨o,ho⟩
 frame:=λ_ _ _ ⟨h1,o,e,r⟩ hk=>⟨h1.at λo e=>hk it (AAG) o e,o,hk t (by simp) o e,r⟩
 item:=λi s Q E hi ⟨h1,h2⟩ hQ=>by
  refine qm h1 h2 (x:=items[i]) (AAm hi) λh' hit' hs'=>hQ _ h' s.toks (AAm hi) ⟨hit',?_⟩ hs'
  obtain⟨o,e,r⟩:=h2
  exact⟨o,hs'.extBut _ _ hne e,r⟩
 done:=λs Q E ⟨h1,h2⟩ hE=>jk hh h1 h2 (AC4 (AAC _)) hE
structure ZA(z TI TO i1 i2:Addr)(f1 f2:List Addr):Prop where
 nd:[z,TI,TO,i1,i2].Nodup
 z1:z∉f1
 o1:TO∉f1
 y1:i2∉f1
 z2:z∉f2
 o2:TO∉f2
 x2:i1∉f2
theorem dm{prog:Program}{w:World}{A:Around}{it c:Addr}{fp:List Addr}{n k:Nat}{P:Nat->Value->Prop}{St:Nat->Heap->Prop}{h h':Heap}(D:Draws prog w A it fp n P St)(hc:c∉fp)(hs:Heap.ExtBut c h h')(st:St k h):St k h' :=
 D.frame k h h' st λb hb o e=>hs b o (λq=>hc (q ▸ hb)) e
section
variable{prog:Program}{w:World}{A:Around}{E:Value->Shared->Prop}{s:Shared}{z TI TO i1 i2:Addr}{f1 f2:List Addr}{n1 n2 k:Nat}{P1 P2:Nat->Value->Prop}{S1 S2:Nat->Heap->Prop}{a b:Value}
theorem As{Q:Value->Shared->Prop}(D1:Draws prog w A i1 f1 n1 P1 S1)(D2:Draws prog w A i2 f2 n2 P2 S2)(Z:ZA z TI TO i1 i2 f1 f2)(hz:IsZip s.heap z TI TO .none)(hTI:IsPair s.heap TI (.ref i1) (.ref i2))(hTO:IsPair s.heap TO a b)
  (st1:S1 k s.heap) (st2:S2 k s.heap) (l1:k<n1) (l2:k<n2)
  (hQ:∀h' tk x y T,P1 k x->P2 k y->s.heap.objs.size<=T->IsZip h' z TI TO (rawInt T)->IsPair h' TO x y->S1 (k+1) h'->S2 (k+1) h'->IsPair h' T x y->(∀c o,c≠z->c≠TO->c≠i1->c≠i2->s.heap.get? c=some o->h'.get? c=some o)->Q (.ref T) { s with heap:=h',toks:=tk }) :
  wpAny (model prog w) A (Builtin.«zip.__next__» ⟨[.ref z],[]⟩) (λfin s'=>∃v,fin=.done (.ret v)/\Q v s') E s:=by
 have nd:=Z.nd
 simp only[AB9,AAF,AB2,or_false,not_or]at nd
 obtain⟨⟨zTI,zTO,zi1,zi2⟩,⟨TITO,TIi1,TIi2⟩,⟨TOi1,TOi2⟩,i12,_⟩:=nd
 refine(show wpAny (model prog w) A (field (.ref z) 2 >>= _) _ _ _ from AA0 (ABS hz rfl (x:=.bool false) rfl ?_))
 refine(show wpAny (model prog w) A (field (.ref z) 3 >>= _) _ _ _ from AA0 (ABS hz rfl (x:=.ref TI) rfl (AA0 (ABj hTI rfl ?_))))
 refine(show wpAny (model prog w) A (ABT (.ref z) >>= _) _ _ _ from AA0 ?_)
 unfold ABT
 refine AA0 (ABS hz rfl (x:=ABO) rfl (AA7 ?_))
 simp only[if_true]
 refine AA0 (ACc (AA0 (ABS hz rfl (x:=.ref TO) rfl (AA0 (ACE hz (by simp) λh₁ (hz₁:IsZip h₁ z TI TO .ellipsis) hs₁=>AA0 ?_)))))
 simp only[List.zipIdx_cons,List.zipIdx_nil,ADq,List.forIn_nil]
 refine AA0 (AA0 (wpAny_onRaise (show wpAny (model prog w) A (AAz (.ref i1) >>= _) _ _ _ from AA0 ?_)))
 refine D1.item k _ _ _ l1 (dm D1 Z.z1 hs₁.extBut st1) λx h₂ tk₂ px s1₂ hs₂=>AA7 ?_
 have hTO₂:IsPair h₂ TO a b:=hs₂.extBut _ _ TOi1 (hs₁.extBut _ _ (AAt zTO) hTO)
 refine AA0 (ABj hTO₂ rfl (AA0 (wpAny_updateSeq_pair hTO₂ λh₃ (hTO₃:IsPair h₃ TO x b) hs₃=>AA0 (wpAny_letGo (AA7 ?_)))))
 refine AA0 (AA0 (wpAny_onRaise (show wpAny (model prog w) A (AAz (.ref i2) >>= _) _ _ _ from AA0 ?_)))
 refine D2.item k _ _ _ l2 (dm D2 Z.o2 hs₃.extBut (dm D2 Z.x2 hs₂.extBut (dm D2 Z.z2 hs₁.extBut st2))) λy h₄ tk₄ py s2₄ hs₄=>AA7 ?_
 have hTO₄:IsPair h₄ TO x b:=hs₄.extBut _ _ TOi2 hTO₃
 refine AA0 (ABj hTO₄ rfl (AA0 (wpAny_updateSeq_pair hTO₄ λh₅ (hTO₅:IsPair h₅ TO x y) hs₅=>AA0 (wpAny_letGo (AA7 (AA7 ?_))))))
 refine AA0 (ABj hTO₅ rfl (AA0 (wpAny_newTuple ?_)))
 have hz₅:IsZip h₅ z TI TO .ellipsis:=hs₅.extBut _ _ zTO (hs₄.extBut _ _ zi2 (hs₃.extBut _ _ zTO (hs₂.extBut _ _ zi1 hz₁)))
 have kp:∀c o,c≠z->c≠TO->c≠i1->c≠i2->s.heap.get? c=some o->h₅.get? c=some o:=λc o c1 c2 c3 c4 e=>hs₅.extBut _ _ c2 (hs₄.extBut _ _ c4 (hs₃.extBut _ _ c2 (hs₂.extBut _ _ c3 (hs₁.extBut _ _ c1 e))))
 have sz:h₅.objs.size=s.heap.objs.size:=by rw[hs₅.1,hs₄.1,hs₃.1,hs₂.1];exact hs₁.1
 have t1:=dm D1 Z.o1 hs₅.extBut (dm D1 Z.y1 hs₄.extBut (dm D1 Z.o1 hs₃.extBut s1₂))
 have t2:=dm D2 Z.o2 hs₅.extBut s2₄
 refine(show wpAny (model prog w) A (ACz (.ref z) (.ref h₅.objs.size) >>= _) _ _ _ from AA0 ?_)
 unfold ACz
 have hz₆:IsZip (h₅.push { cls:=.type "tuple",data:=.seq #[x,y] }) z TI TO .ellipsis:=AA6 _ hz₅
 refine AA0 (ACE hz₆ (by simp) λh₇ (hz₇:IsZip h₇ z TI TO (rawInt h₅.objs.size)) hs₇=>ACE hz₇ (by simp) λh₈ (hz₈:IsZip h₈ z TI TO (rawInt h₅.objs.size)) hs₈=>?_)
 have up:∀c o,c≠z->h₅.get? c=some o->h₈.get? c=some o:=λc o c1 e=>hs₈.extBut _ _ c1 (hs₇.extBut _ _ c1 (AA6 _ e))
 have ne:h₅.objs.size≠z:=Nat.ne_of_gt (AAM hz₅)
 refine AA7 ⟨_,rfl,hQ h₈ _ x y h₅.objs.size px py (Nat.le_of_eq sz.symm) hz₈ (up _ _ (AAt zTO) hTO₅) ?_ ?_ (hs₈.extBut _ _ ne (hs₇.extBut _ _ ne (AAE _ rfl))) λc o c1 c2 c3 c4 e=>up c o c1 (kp c o c1 c2 c3 c4 e)⟩
 ·exact D1.frame _ _ _ t1 λc hc o e=>up c o (λq=>Z.z1 (q ▸ hc)) e
 ·exact D2.frame _ _ _ t2 λc hc o e=>up c o (λq=>Z.z2 (q ▸ hc)) e
theorem Au{Q:Fin->Shared->Prop}(D1:Draws prog w A i1 f1 n1 P1 S1)(D2:Draws prog w A i2 f2 n2 P2 S2)(Z:ZA z TI TO i1 i2 f1 f2)(hz:IsZip s.heap z TI TO .none)(hTI:IsPair s.heap TI (.ref i1) (.ref i2))(hTO:IsPair s.heap TO a b)
  (st1:S1 k s.heap) (st2:S2 k s.heap) (hk:k=n1\/(k<n1/\k=n2))
  (hE:∀h' tk e,(∀c o,c≠z->c≠TO->c≠i1->c≠i2->s.heap.get? c=some o->h'.get? c=some o)->(∃o,h'.get? e=some o/\o.cls=.type "StopIteration")->E (.ref e) { s with heap:=h',toks:=tk }) :
  wpAny (model prog w) A (Builtin.«zip.__next__» ⟨[.ref z],[]⟩) Q E s:=by
 have nd:=Z.nd
 simp only[AB9,AAF,AB2,or_false,not_or]at nd
 obtain⟨⟨zTI,zTO,zi1,zi2⟩,⟨TITO,TIi1,TIi2⟩,⟨TOi1,TOi2⟩,i12,_⟩:=nd
 refine(show wpAny (model prog w) A (field (.ref z) 2 >>= _) _ _ _ from AA0 (ABS hz rfl (x:=.bool false) rfl ?_))
 refine(show wpAny (model prog w) A (field (.ref z) 3 >>= _) _ _ _ from AA0 (ABS hz rfl (x:=.ref TI) rfl (AA0 (ABj hTI rfl ?_))))
 refine(show wpAny (model prog w) A (ABT (.ref z) >>= _) _ _ _ from AA0 ?_)
 unfold ABT
 refine AA0 (ABS hz rfl (x:=ABO) rfl (AA7 ?_))
 simp only[if_true]
 refine AA0 (ACc (AA0 (ABS hz rfl (x:=.ref TO) rfl (AA0 (ACE hz (by simp) λh₁ (hz₁:IsZip h₁ z TI TO .ellipsis) hs₁=>AA0 ?_)))))
 simp only[List.zipIdx_cons,List.zipIdx_nil,ADq,List.forIn_nil]
 refine AA0 (AA0 (wpAny_onRaise (show wpAny (model prog w) A (AAz (.ref i1) >>= _) _ _ _ from AA0 ?_)))
 rcases hk with rfl | ⟨l1,rfl⟩
 ·refine D1.done _ _ _ (dm D1 Z.z1 hs₁.extBut st1) ?_
  rintro h₂ e hs₂ ⟨oe,hoe,hce⟩
  have hz₂:IsZip h₂ z TI TO .ellipsis:=hs₂ _ _ zi1 hz₁
  have hez:e≠z:=λq=>by subst q;rw[hz₂]at hoe;cases hoe;simp at hce
  exact ACE hz₂ (by simp) λh₃ _ hs₃=>hE h₃ _ e (λc o c1 _ c3 _ q=>hs₃.extBut _ _ c1 (hs₂ _ _ c3 (hs₁.extBut _ _ c1 q))) ⟨oe,hs₃.extBut _ _ hez hoe,hce⟩
 ·refine D1.item k _ _ _ l1 (dm D1 Z.z1 hs₁.extBut st1) λx h₂ tk₂ px s1₂ hs₂=>AA7 ?_
  have hTO₂:IsPair h₂ TO a b:=hs₂.extBut _ _ TOi1 (hs₁.extBut _ _ (AAt zTO) hTO)
  refine AA0 (ABj hTO₂ rfl (AA0 (wpAny_updateSeq_pair hTO₂ λh₃ (hTO₃:IsPair h₃ TO x b) hs₃=>AA0 (wpAny_letGo (AA7 ?_)))))
  refine AA0 (AA0 (wpAny_onRaise (show wpAny (model prog w) A (AAz (.ref i2) >>= _) _ _ _ from AA0 ?_)))
  refine D2.done _ _ _ (dm D2 Z.o2 hs₃.extBut (dm D2 Z.x2 hs₂.extBut (dm D2 Z.z2 hs₁.extBut st2))) ?_
  rintro h₄ e hs₄ ⟨oe,hoe,hce⟩
  have hz₄:IsZip h₄ z TI TO .ellipsis:=hs₄ _ _ zi2 (hs₃.extBut _ _ zTO (hs₂.extBut _ _ zi1 hz₁))
  have hez:e≠z:=λq=>by subst q;rw[hz₄]at hoe;cases hoe;simp at hce
  exact ACE hz₄ (by simp) λh₅ _ hs₅=>hE h₅ _ e (λc o c1 c2 c3 c4 q=>hs₅.extBut _ _ c1 (hs₄ _ _ c4 (hs₃.extBut _ _ c2 (hs₂.extBut _ _ c3 (hs₁.extBut _ _ c1 q))))) ⟨oe,hs₅.extBut _ _ hez hoe,hce⟩
end
section
variable{X:Cx}{pins:List (Addr×Obj)}{σ:St}{H:Hp}{s:Shared}{h':Heap}
theorem Inv.turnedL{t':Nat}{fp:List Addr}(I:Inv X pins σ H s)(hf:∀b∈fp,rp X pins H b)(k:∀b o,b∉fp->s.heap.get? b=some o->h'.get? b=some o):Inv X pins σ H { s with heap:=h',toks:=t' }:=by
 have nfp:∀b u,H b=some u->b∉fp:=λb u e z=>by rw[(hf b z).1]at e;cases e
 refine I.step (g':=s.gens) (d':=s.drawn) (ch:=fp) (λb hb=>⟨(hf b hb).2.2.2.1,(hf b hb).2.1,(hf b hb).2.2.2.2.1,(hf b hb).2.2.2.2.2⟩) (λb o _ _ hc e _=>k b o hc e) (λb o _ _ hc e _=>⟨o.slots,k b o hc e⟩) (λ_ _ _ _ n=>n)
  (λb o hc e=>⟨o,k b o hc e⟩) (λ_ _ e=>e) (λ_ _ _ e=>e) (λb ps e=>⟨#[],by rw[e];simp⟩) (λm hm=>?_) (λb u e=>?_) I.bare
 ·obtain⟨o,es,ep,ho,r⟩:=hm
  exact⟨o,es,ep,k _ o (λz=>(hf _ z).2.1 rfl) ho,r⟩
 ·refine(I.hok b u e).stay (λc v hc q=>k c v ?_ q) (λ_ q=>q) λ_ _ q=>q
  rcases hc with rfl | z
  ·exact nfp _ u e
  ·exact nfp _ _ z
theorem Inv.turnedT{t':Nat}{fp:List Addr}{T:Addr}{o:HO}(I:Inv X pins σ H s)(hf:∀b∈fp,rp X pins H b)(k:∀b o,b∉fp->s.heap.get? b=some o->h'.get? b=some o)(hT:s.heap.objs.size<=T)(new:bP X.prog X.w (upd H T o) h' T o):Inv X pins σ (upd H T o) { s with heap:=h',toks:=t' }:=by
 have fa:H T=none:=I.hok.fresh hT
 have neT:∀b u,s.heap.get? b=some u->b≠T:=λb u e=>AAQ (AAT (AAM e) hT)
 have nfp:∀b u,H b=some u->b∉fp:=λb u e z=>by rw[(hf b z).1]at e;cases e
 refine I.step (g':=s.gens) (d':=s.drawn) (ch:=fp) (λb hb=>⟨(hf b hb).2.2.2.1,(hf b hb).2.1,(hf b hb).2.2.2.2.1,(hf b hb).2.2.2.2.2⟩) (λb o _ _ hc e _=>k b o hc e) (λb o _ _ hc e _=>⟨o.slots,k b o hc e⟩) (λb u _ e n=>by rw[av (neT b u e)];exact n)
  (λb o hc e=>⟨o,k b o hc e⟩) (λb xs q=>by rw[av (ad q fa)];exact q) (λb u xs q=>by rw[av (ad q fa)];exact q) (λb ps q=>⟨#[],by rw[av (ad q fa),q];simp⟩) (λm hm=>?_) (λb u e=>?_) I.bare
 ·obtain⟨o,es,ep,ho,r⟩:=hm
  exact⟨o,es,ep,k _ o (λz=>(hf _ z).2.1 rfl) ho,r⟩
 ·by_cases hb:b=T
  ·subst hb
   rw[aL]at e
   cases e
   exact new
  ·rw[av hb]at e
   refine(I.hok b u e).stay (λc v hc q=>k c v ?_ q) (λc q=>by rw[av (ad q fa)];exact q) λc xs q=>by rw[av (ad q fa)];exact q
   rcases hc with rfl | z
   ·exact nfp _ u e
   ·exact nfp _ _ z
def Sq(t:Bool)(K:AA2)(H:Hp)(a:Addr)(xs:List V):Prop:=if t=true then SqT K H a xs else SqL K H a xs
def SIt(t:Bool)(h:Heap)(i l:Addr)(k:Nat):Prop:=if t=true then h.IsTupleIter i l k else h.IsListIter i l k
def SIs(t:Bool)(h:Heap)(l:Addr)(xs:Array Value):Prop:=if t=true then h.IsTuple l xs else h.IsList l xs
theorem SIt.at(x:SIt t h i l k)(e:∀o,h.get? i=some o->h'.get? i=some o):SIt t h' i l k:=by
 cases t with
 | true=>exact(show h.IsTupleIter i l k from x).at e
 | false=>exact(show h.IsListIter i l k from x).at e
theorem SIt.obj(x:SIt t h i l k):∃o,h.get? i=some o/\∀v,o.data≠.cell v:=by
 cases t with
 | true =>
  obtain⟨o,e,c,d⟩:=(show h.IsTupleIter i l k from x)
  exact⟨o,e,λv z=>by rw[d]at z;cases z⟩
 | false =>
  obtain⟨o,e,c,d⟩:=(show h.IsListIter i l k from x)
  exact⟨o,e,λv z=>by rw[d]at z;cases z⟩
theorem Sq.is(I:Inv X pins σ H s)(h:Sq t X.K H a xs):∃its,az xs its/\SIs t s.heap a its.toArray/\xs.length<=sizeLine:=by
 cases t with
 | true=>exact I.tuple (show SqT X.K H a xs from h)
 | false =>
  obtain⟨its,rr,pl,hz⟩:=I.list (show SqL X.K H a xs from h)
  exact⟨its,rr,pl.isList,hz⟩
theorem Sq.inj(I:Inv X pins σ H s)(h:Sq t X.K H a xs)(h':Sq t X.K H a ys):xs=ys:=by
 cases t with
 | true=>exact I.tuple_inj h h'
 | false=>exact I.list_inj h h'
theorem Sq.ne(I:Inv X pins σ H s)(h:Sq t X.K H a xs)(f:rp X pins H b):a≠b:=by
 have kc:∀o,X.K.lookup a=some o->a≠b:=λo hk=>by
  have hb:=I.mod.kin a o hk
  rcases f.2.2.2.1 with z | z
  ·intro q;subst q;exact I.ok.noex a o hb z
  ·exact AAQ (AAT (AAM hb) (AAp I.ok.bsz z))
 cases t with
 | true =>
  rcases(show SqT X.K H a xs from h)with(h | ⟨_,h⟩) | ⟨o,its,n,hk,_⟩
  ·exact ad h f.1
  ·exact ad h f.1
  ·exact kc o hk
 | false =>
  rcases(show SqL X.K H a xs from h)with(h | ⟨_,h⟩) | ⟨o,its,n,hk,_⟩
  ·exact ad h f.1
  ·exact ad h f.1
  ·exact kc o hk
theorem gR(hh:A.handled=none)(t:Bool)(it l:Addr)(hne:l≠it)(items:Array Value):Draws prog w A it [it,l] items.size (λi v=>items[i]?=some v) (λi h=>SIt t h it l i/\SIs t h l items):=by
 cases t with
 | true=>exact tf hh it l hne items
 | false=>exact Draws.list hh it l hne items
noncomputable def Itz(K:AA2)(t1 t2:Bool)(l1 l2:Addr):It :=
 ⟨λi H=>∃xs ys x y,Sq t1 K H l1 xs/\Sq t2 K H l2 ys/\xs[i]?=some x/\ys[i]?=some y,
  λi H v H'=>∃T x y,v=.ref T/\H T=none/\H'=upd H T (.tup [x,y])/\(∀xs,Sq t1 K H l1 xs->xs[i]?=some x)/\∀ys,Sq t2 K H l2 ys->ys[i]?=some y,
  λi H=>∃xs ys,Sq t1 K H l1 xs/\Sq t2 K H l2 ys/\(i=xs.length\/(i<xs.length/\i=ys.length))⟩
def ZSt(t1 t2:Bool)(z TI TO i1 i2 l1 l2:Addr)(i:Nat)(h:Heap):Prop:=IsZip h z TI TO .none/\IsPair h TI (.ref i1) (.ref i2)/\(∃a b,IsPair h TO a b)/\SIt t1 h i1 l1 i/\SIt t2 h i2 l2 i
theorem AC{P:Program}{w:World}{K:AA2}{elts:List Expr}{x1:Nat}{pos:Pos}{t1 t2:Bool}{z TI TO i1 i2 l1 l2:Addr}(nd:[z,TI,TO,i1,i2].Nodup) :
  Turn P w K (.Tuple elts x1 pos) (Itz K t1 t2 l1 l2) [z,TI,TO,i1,i2] z (ZSt t1 t2 z TI TO i1 i2 l1 l2) where
 mem:=AAG
 obj:=λi h ⟨hz,hTI,⟨a,b,hTO⟩,h1,h2⟩ c hc=>by
  simp only[AAF,AB2,or_false]at hc
  rcases hc with rfl | rfl | rfl | rfl | rfl
  ·exact⟨_,hz,λv q=>nomatch q⟩
  ·exact⟨_,hTI,λv q=>nomatch q⟩
  ·exact⟨_,hTO,λv q=>nomatch q⟩
  ·exact h1.obj
  ·exact h2.obj
 keep:=λi h h' ⟨hz,hTI,⟨a,b,hTO⟩,h1,h2⟩ k=>⟨k z (by simp) _ hz,k TI (by simp) _ hTI,⟨a,b,k TO (by simp) _ hTO⟩,h1.at λo e=>k i1 (by simp) o e,h2.at λo e=>k i2 (by simp) o e⟩
 item:=by
  rintro X hP hw hK hc i pins s σ H E I hf ⟨hz,hTI,⟨a,b,hTO⟩,h1,h2⟩ ⟨xs,ys,x,y,q1,q2,hx,hy⟩
  subst hP hw hK
  obtain⟨us,ru,iu,hzu⟩:=q1.is I
  obtain⟨vs,rv,iv,hzv⟩:=q2.is I
  have lu:=ru.length
  have lv:=rv.length
  have f:=hf
  have nd':=nd
  simp only[AB9,AAF,AB2,or_false,not_or]at nd'
  obtain⟨⟨zTI,zTO,zi1,zi2⟩,⟨TITO,TIi1,TIi2⟩,⟨TOi1,TOi2⟩,i12,_⟩:=nd'
  have a1:l1≠i1:=q1.ne I (f i1 (by simp))
  have a2:l2≠i2:=q2.ne I (f i2 (by simp))
  have Z:ZA z TI TO i1 i2 [i1,l1] [i2,l2]:=⟨nd,by simp[zi1,AAt (q1.ne I (f z (by simp)))],by simp[TOi1,AAt (q1.ne I (f TO (by simp)))],by simp[AAt i12,AAt (q1.ne I (f i2 (by simp)))],
   by simp[zi2,AAt (q2.ne I (f z (by simp)))],by simp[TOi2,AAt (q2.ne I (f TO (by simp)))],by simp[i12,AAt (q2.ne I (f i1 (by simp)))]⟩
  have ix:i<us.length:=by have:=(AA3.mp hx).1;lia
  have iy:i<vs.length:=by have:=(AA3.mp hy).1;lia
  have hT:s.TypeIs (.ref z) "zip":=⟨_,hz,rfl⟩
  unfold pyNext
  refine AA0 (ACp (AAl (name:=AA1 "__next__") hT F.slot_zip_next (AAo F.slot_zip_next hT F.entry_zip_next ?_ (F.args_zip_next_1 (.ref z)))))
  refine As (k:=i) (gR (show X.A.in1.handled=none from I.ok.hd hc) t1 i1 l1 a1 us.toArray) (gR (show X.A.in1.handled=none from I.ok.hd hc) t2 i2 l2 a2 vs.toArray) Z hz hTI hTO ⟨h1,iu⟩ ⟨h2,iv⟩ (by simpa using ix) (by simpa using iy)
   λh' tk px py T hpx hpy hT' hz' hTO' s1 s2 hp hk=>AA7 ⟨_,rfl,?_⟩
  refine wpAny_letOwnedTupleGo_zip hz' λh2 hz2 hs2=>?_
  have zne:T≠z:=λq=>by subst q;exact absurd (AAM hz) (Nat.not_lt_of_le hT')
  obtain⟨px',epx,rpx⟩:=ru.get hx
  obtain⟨py',epy,rpy⟩:=rv.get hy
  have e1:px'=px:=by rw[ADW,epx]at hpx;exact AAW hpx
  have e2:py'=py:=by rw[ADW,epy]at hpy;exact AAW hpy
  subst e1 e2
  have hp2:IsPair h2 T px' py':=hs2.extBut _ _ zne hp
  refine⟨.ref T,upd H T (.tup [x,y]),?_,rfl,⟨T,x,y,rfl,I.hok.fresh hT',rfl,λzs hq=>by rw[hq.inj I q1];exact hx,λzs hq=>by rw[hq.inj I q2];exact hy⟩,
   ⟨hz2,hs2.extBut _ _ (AAt zTI) (hk _ _ (AAt zTI) TITO TIi1 TIi2 hTI),⟨_,_,hs2.extBut _ _ (AAt zTO) hTO'⟩,s1.1.at λo e=>hs2.extBut _ _ (AAt zi1) e,s2.1.at λo e=>hs2.extBut _ _ (AAt zi2) e⟩,λc hc=>?_⟩
  ·refine I.turnedT (t':=tk) hf (λc o hc e=>?_) hT' ⟨by simp[ABa],[px',py'],.cons rpx (.cons rpy .nil),⟨_,hp2,rfl,⟨0,rfl⟩,rfl⟩⟩
   simp only[AAF,AB2,or_false,not_or]at hc
   exact hs2.extBut _ _ hc.1 (hk _ _ hc.1 hc.2.2.1 hc.2.2.2.1 hc.2.2.2.2 e)
  ·obtain⟨oc,ec⟩:∃o,s.heap.get? c=some o:=by
    simp only[AAF,AB2,or_false]at hc
    rcases hc with rfl | rfl | rfl | rfl | rfl
    ·exact⟨_,hz⟩
    ·exact⟨_,hTI⟩
    ·exact⟨_,hTO⟩
    ·obtain⟨o,e,_⟩:=h1.obj;exact⟨o,e⟩
    ·obtain⟨o,e,_⟩:=SIt.obj ‹SIt t2 s.heap _ l2 i›;exact⟨o,e⟩
   rw[av (AAQ (AAT (AAM ec) hT'))]
   exact(hf c hc).1
 done:=by
  rintro X hP hw hK hc i pins s σ H E I hf ⟨hz,hTI,⟨a,b,hTO⟩,h1,h2⟩ ⟨xs,ys,q1,q2,hend⟩
  subst hP hw hK
  obtain⟨us,ru,iu,hzu⟩:=q1.is I
  obtain⟨vs,rv,iv,hzv⟩:=q2.is I
  have lu:=ru.length
  have lv:=rv.length
  have f:=hf
  have nd':=nd
  simp only[AB9,AAF,AB2,or_false,not_or]at nd'
  obtain⟨⟨zTI,zTO,zi1,zi2⟩,⟨TITO,TIi1,TIi2⟩,⟨TOi1,TOi2⟩,i12,_⟩:=nd'
  have a1:l1≠i1:=q1.ne I (f i1 (by simp))
  have a2:l2≠i2:=q2.ne I (f i2 (by simp))
  have Z:ZA z TI TO i1 i2 [i1,l1] [i2,l2]:=⟨nd,by simp[zi1,AAt (q1.ne I (f z (by simp)))],by simp[TOi1,AAt (q1.ne I (f TO (by simp)))],by simp[AAt i12,AAt (q1.ne I (f i2 (by simp)))],
   by simp[zi2,AAt (q2.ne I (f z (by simp)))],by simp[TOi2,AAt (q2.ne I (f TO (by simp)))],by simp[i12,AAt (q2.ne I (f i1 (by simp)))]⟩
  have hT:s.TypeIs (.ref z) "zip":=⟨_,hz,rfl⟩
  unfold pyNext
  refine AA0 (ACp (AAl (name:=AA1 "__next__") hT F.slot_zip_next (AAo F.slot_zip_next hT F.entry_zip_next ?_ (F.args_zip_next_1 (.ref z)))))
  refine Au (k:=i) (gR (show X.A.in1.handled=none from I.ok.hd hc) t1 i1 l1 a1 us.toArray) (gR (show X.A.in1.handled=none from I.ok.hd hc) t2 i2 l2 a2 vs.toArray) Z hz hTI hTO ⟨h1,iu⟩ ⟨h2,iv⟩ ?_ λh' tk e hk ⟨o,ho,ho'⟩=>?_
  ·rw[AAB,AAB,<-lu,<-lv]
   exact hend
  ·refine AA0 (ADd (T:="StopIteration") (b:=true) ⟨o,ho,ho'⟩ isSubtype_stop (AA7 ⟨rfl,?_⟩))
   refine I.turnedL (t':=tk) hf λc o hc e=>?_
   simp only[AAF,AB2,or_false,not_or]at hc
   exact hk _ _ hc.1 hc.2.2.1 hc.2.2.2.1 hc.2.2.2.2 e
 self:=λ_ _ _ _ _ st h=>wpAny_pyIter_zip st.1 h
end
noncomputable abbrev itO(t:Bool)(l:Addr):Obj:={ cls:=.type (if t=true then "tuple_iterator" else "list_iterator"),data:=.fields #[.ref l,.int 0 0] }
theorem uK(h:SIs t s.heap l xs)(q:Q (.ref s.heap.objs.size) { s with heap:=s.heap.push (itO t l) }):wpAny (model prog w) A (pyIter (.ref l)) Q E s:=by
 cases t with
 | true=>exact wpAny_pyIter_tuple (show s.heap.IsTuple l xs from h) q
 | false=>exact ADO (show s.heap.IsList l xs from h) q
noncomputable abbrev zp1(h:Heap)(t1:Bool)(l1:Addr):Heap:=h.push (itO t1 l1)
noncomputable abbrev zp2(h:Heap)(t1 t2:Bool)(l1 l2:Addr):Heap:=(zp1 h t1 l1).push (itO t2 l2)
noncomputable abbrev zp3(h:Heap)(t1 t2:Bool)(l1 l2:Addr):Heap:=(zp2 h t1 t2 l1 l2).push { cls:=.type "tuple",data:=.seq #[.ref h.objs.size,.ref (zp1 h t1 l1).objs.size] }
noncomputable abbrev zp4(h:Heap)(t1 t2:Bool)(l1 l2:Addr):Heap:=(zp3 h t1 t2 l1 l2).push { cls:=.type "tuple",data:=.seq #[.none,.none] }
noncomputable abbrev zp5(h:Heap)(t1 t2:Bool)(l1 l2:Addr):Heap:=(zp4 h t1 t2 l1 l2).push { cls:=.type "zip",data:=.fields #[.none,.bool false,.bool false,.ref (zp2 h t1 t2 l1 l2).objs.size,.ref (zp3 h t1 t2 l1 l2).objs.size] }
theorem SIs.push(x:SIs t h l xs)(o:Obj):SIs t (h.push o) l xs:=by
 cases t with
 | true=>obtain⟨u,e,r⟩:=(show h.IsTuple l xs from x);exact(show (h.push o).IsTuple l xs from⟨u,AA6 _ e,r⟩)
 | false=>obtain⟨u,e,r⟩:=(show h.IsList l xs from x);exact(show (h.push o).IsList l xs from⟨u,AA6 _ e,r⟩)
theorem At(t1 t2:Bool)(l1 l2:Addr)(xs ys:Array Value):Meets (Builtin.«zip.__new__» ⟨[.type "zip",.ref l1,.ref l2],[]⟩) (λ_ R s=>SIs t1 s.heap l1 xs/\SIs t2 s.heap l2 ys/\R (.ok (.ret (.ref (zp4 s.heap t1 t2 l1 l2).objs.size))) { s with heap:=zp5 s.heap t1 t2 l1 l2 }) :=
 .of_wp λprog w A R s h=>by
  obtain⟨hp,g,d,tk,os⟩:=s;obtain⟨hl1,hl2,h⟩:=h
  have hsub:=sub_zip
  have r1:SIs t1 (Shared.heap ⟨hp,g,d,tk,os⟩) l1 xs:=hl1
  have r2:SIs t2 (Shared.heap ⟨hp.push (itO t1 l1),g,d,tk,os⟩) l2 ys:=hl2.push _
  wp_walk using uK r1,uK r2
  exact⟨_,rfl,h⟩
theorem Ac(h1:SIs t1 s.heap l1 xs)(h2:SIs t2 s.heap l2 ys)
  (h:∀h',ZSt t1 t2 (s.heap.objs.size+4) (s.heap.objs.size+2) (s.heap.objs.size+3) s.heap.objs.size (s.heap.objs.size+1) l1 l2 0 h'->(∀c o,s.heap.get? c=some o->h'.get? c=some o)->Q (.ref (s.heap.objs.size+4)) { s with heap:=h' }) :
  wpAny (model prog w) A (call (.type "zip") [.ref l1,.ref l2]) Q E s:=by
 refine callType_new F.called_zip (by decide) (F.typeCall_zip_2 _ _) (F.newCall_zip_2 _ _) (λobj=>F.args_object_init_3 obj _ _) F.entry_zip_new (At t1 t2 l1 l2 xs ys) ⟨h1,h2,?_⟩
 have z1:(zp1 s.heap t1 l1).objs.size=s.heap.objs.size+1:=ABZ ..
 have z2:(zp2 s.heap t1 t2 l1 l2).objs.size=s.heap.objs.size+2:=by rw[ABZ,z1]
 have z3:(zp3 s.heap t1 t2 l1 l2).objs.size=s.heap.objs.size+3:=by rw[ABZ,z2]
 have z4:(zp4 s.heap t1 t2 l1 l2).objs.size=s.heap.objs.size+4:=by rw[ABZ,z3]
 have up:∀{h:Heap}{c:Addr}{o:Obj} (u:Obj),h.get? c=some o->(h.push u).get? c=some o:=λu e=>AA6 _ e
 have g5:(zp5 s.heap t1 t2 l1 l2).get? (zp4 s.heap t1 t2 l1 l2).objs.size=some _:=AAE _ rfl
 have g4:(zp5 s.heap t1 t2 l1 l2).get? (zp3 s.heap t1 t2 l1 l2).objs.size=some _:=up _ (AAE _ rfl)
 have g3:(zp5 s.heap t1 t2 l1 l2).get? (zp2 s.heap t1 t2 l1 l2).objs.size=some _:=up _ (up _ (AAE _ rfl))
 have g2:(zp5 s.heap t1 t2 l1 l2).get? (zp1 s.heap t1 l1).objs.size=some _:=up _ (up _ (up _ (AAE _ rfl)))
 have g1:(zp5 s.heap t1 t2 l1 l2).get? s.heap.objs.size=some _:=up _ (up _ (up _ (up _ (AAE _ rfl))))
 have si:∀(t:Bool) (h:Heap) (a l:Addr),h.get? a=some (itO t l)->SIt t h a l 0:=λt h a l e=>by cases t<;>exact⟨_,e,rfl,rfl⟩
 show _/\_
 rw[z2,z3,z4]at g5
 rw[z1,z2]at g3
 rw[z3]at g4
 rw[z1]at g2
 rw[z4]
 exact⟨⟨_,g5,rfl⟩,h _ ⟨g5,g3,⟨_,_,g4⟩,si _ _ _ _ g1,si _ _ _ _ g2⟩ λc o q=>up _ (up _ (up _ (up _ (up _ q))))⟩
noncomputable def wJ(xs ys:List D):List D:=(xs.zip ys).map λp=>.tup [p.1,p.2]
def Am(M:Mem)(x:D)(xs:List D)(ok:Mem->Prop):Prop:=match x with
 | .tup ds=>xs=ds/\ok=λ_=>True
 | .ref n=>ao M n xs/\ok=λM=>ao M n xs
 | _=>False
def dZip(ta:DTA):DTI:=λS M R=>ta S M λds M1=>match ds with
 | [x,y]=>∃xs ys o1 o2,Am M1 x xs o1/\Am M1 y ys o2/\R ⟨wJ xs ys,λM=>o1 M/\o2 M⟩ M1
 | _=>False
theorem CB:bootBuiltins "zip" = some (.type "zip"):=by decide +kernel
theorem Am.sq{X:Cx}(sm:Sim X.K ρ M H)(h:Am M x xs ok)(r:Rep X.K ρ H x v)(e:aU v u) :
  ∃(t:Bool) (l:Addr),u=.ref l/\ok M/\∀ρ' M' H',Sim X.K ρ' M' H'->Grow X.K ρ H ρ' H'->ok M'->∃vs,Sq t X.K H' l vs/\Reps X.K ρ' H' xs vs:=by
 unfold Am at h
 split at h
 ·obtain⟨rfl,rfl⟩:=h
  obtain⟨a,vs,rfl,hq,r⟩:=Rep.inv_tup r
  cases e
  exact⟨true,a,rfl,trivial,λρ' M' H' sm' g _=>⟨vs,g.tup a vs hq,r.grow g⟩⟩
 ·obtain⟨h,rfl⟩:=h
  cases r with
  | @ref n a hn =>
   cases e
   exact⟨false,a,rfl,h,λρ' M' H' sm' g ok=>ao.seq sm' ok (aK g.pre hn)⟩
 ·exact h.elim
theorem ItD.zip{ρ:List Addr}{H:Hp}{xs ys:List D}{o1 o2:Mem->Prop}{t1 t2:Bool}{l1 l2:Addr}{K:AA2}
  (h1:∀ρ' M' H',Sim K ρ' M' H'->Grow K ρ H ρ' H'->o1 M'->∃vs,Sq t1 K H' l1 vs/\Reps K ρ' H' xs vs) (h2:∀ρ' M' H',Sim K ρ' M' H'->Grow K ρ H ρ' H'->o2 M'->∃vs,Sq t2 K H' l2 vs/\Reps K ρ' H' ys vs) :
  ItD K ⟨wJ xs ys,λM=>o1 M/\o2 M⟩ ρ H (Itz K t1 t2 l1 l2) where
 go:=λi ρ' M' H' sm g ok hi=>by
  obtain⟨vs,q1,r1⟩:=h1 ρ' M' H' sm g ok.1
  obtain⟨ws,q2,r2⟩:=h2 ρ' M' H' sm g ok.2
  have hi':i<xs.length/\i<ys.length:=by simpa [wJ,Nat.lt_min]using hi
  have e1:=r1.length
  have e2:=r2.length
  exact⟨vs,ws,_,_,q1,q2,AA5 (by lia),AA5 (by lia)⟩
 yld:=λi ρ' M' H' x H2 sm g ok hi y=>by
  obtain⟨vs,q1,r1⟩:=h1 ρ' M' H' sm g ok.1
  obtain⟨ws,q2,r2⟩:=h2 ρ' M' H' sm g ok.2
  obtain⟨T,a,b,rfl,hT,rfl,ha,hb⟩:=y
  obtain⟨d,hd,rd⟩:=r1.getV (ha vs q1)
  obtain⟨e,he,re⟩:=r2.getV (hb ws q2)
  refine⟨.tup [d,e],ρ',?_,sm.laid hT,Grow.laid hT,.tup (SqT.of aL) (.cons (rd.grow (Grow.laid hT)) (.cons (re.grow (Grow.laid hT)) .nil))⟩
  show (wJ xs ys)[i]?=_
  have:(xs.zip ys)[i]?=some (d,e):=List.getElem?_zip_eq_some.mpr ⟨hd,he⟩
  rw[wJ,AAU,this]
  rfl
 stop:=λρ' M' H' sm g ok=>by
  obtain⟨vs,q1,r1⟩:=h1 ρ' M' H' sm g ok.1
  obtain⟨ws,q2,r2⟩:=h2 ρ' M' H' sm g ok.2
  have e1:=r1.length
  have e2:=r2.length
  refine⟨vs,ws,q1,q2,?_⟩
  show (wJ xs ys).length=_\/_
  rw[wJ,AA4,ADv]
  lia
theorem Ka(hm:X.mg "zip" = none)(ha:DA X [a,b] ta)(hg:Gl X "zip":=by rfl)(hs:starEach [a,b] X.env=[(false,eval a X.env),(false,eval b X.env)]:=by rfl)(hs2:starEach [b] X.env=[(false,eval b X.env)]:=by rfl) :
  DI X (.Tuple elts x1 q) (.Call (.Name "zip" p) [a,b] [] pos) (dZip ta):=by
 intro pins s σ H R I h
 obtain⟨S,M,ρ,Q,sm,sr,hq,k⟩:=h
 refine Call_ (gO I hg hm CB (ABz (thn (ha pos pins s σ H _ I ⟨S,M,ρ,_,sm,sr,hq,λv H' w=>w⟩) ?_) (by rw[hs,hs2]) (by rw[hs2];rfl)))
 rintro us s1 ⟨vs,H1,I1,r1,ds,M1,ρ1,sm1,g1,rr,q1⟩
 try dsimp only at q1
 split at q1
 ·obtain⟨xs,ys,o1,o2,w1,w2,q2⟩:=q1
  first | have hzz:=Reps.inv_cons rr | have hzz:=az.inv_cons rr
  clear rr
  obtain⟨_,_,rfl,d1,rr⟩:=hzz
  first | have hzz:=Reps.inv_cons rr | have hzz:=az.inv_cons rr
  clear rr
  obtain⟨_,_,rfl,d2,rr⟩:=hzz
  cases rr
  first | have hzz:=Reps.inv_cons r1 | have hzz:=az.inv_cons r1
  clear r1
  obtain⟨_,_,rfl,b1,r1⟩:=hzz
  first | have hzz:=Reps.inv_cons r1 | have hzz:=az.inv_cons r1
  clear r1
  obtain⟨_,_,rfl,b2,r1⟩:=hzz
  cases r1
  obtain⟨t1,l1,rfl,k1,f1⟩:=w1.sq sm1 d1 b1
  obtain⟨t2,l2,rfl,k2,f2⟩:=w2.sq sm1 d2 b2
  obtain⟨as,qa,_⟩:=f1 ρ1 M1 H1 sm1 .refl k1
  obtain⟨bs,qb,_⟩:=f2 ρ1 M1 H1 sm1 .refl k2
  obtain⟨is,_,ia,_⟩:=qa.is I1
  obtain⟨js,_,ib,_⟩:=qb.is I1
  refine Ac ia ib λh' st kp=>?_
  refine wpAny_pyIter_zip st.1 ?_
  have nd:[s1.heap.objs.size+4,s1.heap.objs.size+2,s1.heap.objs.size+3,s1.heap.objs.size,s1.heap.objs.size+1].Nodup:=by simp
  refine⟨s1.heap.objs.size+4,_,_,_,H1,rfl,I1.kept (t':=s1.toks) kp,AC nd,st,λc hc=>?_,k _ H1 ⟨_,M1,ρ1,sm1,g1,ItD.zip f1 f2,q2⟩⟩
  have hc':s1.heap.objs.size<=c:=by
   simp only[AAF,AB2,or_false]at hc
   rcases hc with rfl | rfl | rfl | rfl | rfl<;>first | exact ADc _ _ | exact AAC _
  exact I1.fpOk hc' (I1.hok.fresh hc')
 ·exact q1.elim
theorem pP{K:AA2}{ρ:List Addr}{H:Hp}:∀xs:List Str,Reps K ρ H (xs.map D.str) (xs.map V.str)
 | []=>.nil
 | x::xs=>.cons (.str x) (pP xs)
theorem sB{D:Addr}{vs:List Value}{n:Nat}{Q:Value->Shared->Prop}(ho:s.heap.get? D=some (seqObj "list" vs.toArray n))(h2:vs.length<2)
  (h:∀h' c,(∀b o,b≠D->s.heap.get? b=some o->h'.get? b=some o)->h'.get? D=some (seqObj "list" vs.toArray c)->Q .none { s with heap:=h' }):wpAny (model prog w) A (call (.builtin "list.sort") [.ref D]) Q E s:=by
 have few:vs.length<=sizeLine:=by rw[ABa];lia
 refine AAo slot_list_sort (⟨_,ho,rfl⟩) entry_list_sort ?_ (args_list_sort (.ref D))
 rw[list_sort_plain]
 refine AA0 (ADY ho rfl (AA0 (ACo ho rfl ?_ (by rw[AAB];exact few) (AAV _))))
 obtain⟨e1,ho1⟩:∃e1,(s.heap.update D (ABF λ_=>(#[]:Array Value))).get? D=some (seqObj "list" #[] e1):=⟨_,ACQ ho λ_=>#[]⟩
 refine AA0 (seqEpoch_at ho1 rfl (AA0 (wpAny_newTuple (AA0 (ADC (AAr ?_) (AAV _))) few)))
 dsimp only
 have hv2:vs.toArray.size<2:=by rw[AAB];exact h2
 rw[if_pos hv2,if_pos hv2]
 refine AA0 (AA7 ?_)
 rw[StateT.run_pure]
 refine AA0 (AA7 ?_)
 dsimp only
 generalize hg3:((s.heap.update D (ABF λ_=>(#[]:Array Value))).push (seqObj "tuple" vs.toArray 0)).push (seqObj "list" #[] 0)=g3
 have ho3:g3.get? D=some (seqObj "list" #[] e1):=by rw[<-hg3];exact AA6 _ (AA6 _ ho1)
 have k3:∀b o,b≠D->s.heap.get? b=some o->g3.get? b=some o:=λb o hb q=>by
  rw[<-hg3]
  refine AA6 _ (AA6 _ ?_)
  rw[ABi _ _ _ _ hb]
  exact q
 refine AA0 (seqEpoch_at ho3 rfl ?_)
 have eo:∀us:List Value,us.length<2->(us.toArray.zip us.toArray).map (·.2)=us.toArray:=λus hu=>by
  match us,hu with
  | [],_=>simp
  | [v],_=>simp
  | _::_::_,hu=>simp at hu;lia
 have eout:(arrOf (SortSt.mk' general' (vs.toArray.zip vs.toArray) #[] 7 none)).map (·.2)=vs.toArray:=eo vs h2
 rw[eout]
 refine AA0 (ACo ho3 rfl ?_ (AAV _) (by rw[AAB];exact Nat.le_succ_of_le few))
 simp only[show failedOf (SortSt.mk' general' (vs.toArray.zip vs.toArray) #[] 7 none)=none from rfl,bne_self_eq_false,AAZ,if_false]
 obtain⟨c2,hc2⟩:∃c2,(g3.update D (ABF λ_=>vs.toArray)).get? D=some (seqObj "list" vs.toArray c2):=⟨_,ACQ ho3 λ_=>vs.toArray⟩
 refine AA7 ⟨_,rfl,h _ c2 (λb o hb q=>?_) hc2⟩
 rw[ABi _ _ _ _ hb]
 exact k3 b o hb q
theorem xQ{k:Nat}{D:Addr}{xs:List L2.D}{ws:List V}{its:List Value}{R:VK}{h1:Heap}{tk n:Nat}{m:Str->Option Value}{A:Around}{E:Value->Shared->Prop}(hr:Room k X.A)(hA:A.units<=X.A.units+4)(I:Inv X pins σ H s)(sm:Sim X.K ρ M H)(so:SrtG M xs)(r:Reps X.K ρ H xs ws)(rr:az ws its)
  (hn:s.heap.Ns X.env.locals m) (hn1:h1.Ns X.env.locals m) (kp1:∀b u,b≠X.env.locals->s.heap.get? b=some u->h1.get? b=some u) (hD:s.heap.get? D=none) (hne:D≠X.env.locals) (ho:h1.get? D=some (seqObj "list" its.toArray n))
  (kk:∀v H',((∀Q:DK,(∀ys,ys.Perm xs->Ar M ys->Q (.ref M.length) (M++[.lst ys]))->VQ X.K ρ H Q v H'))->R v H') :
  wpAny (model X.prog X.w) A (call (.builtin "list.sort") [.ref D]) (λ_ s'=>EP X pins σ R (.ref D) s') E { s with heap:=h1,toks:=tk }:=by
 have lw:=r.length
 have li:=rr.length
 have l64:=so.len
 have hH:H D=none:=HOk.none I.hok hD
 have neD:∀b u,s.heap.get? b=some u->b≠D:=λb u e q=>by subst q;rw[hD]at e;cases e
 by_cases h2:its.length<2
 ·refine sB ho h2 λh' c kp' ho'=>?_
  have hn':h'.Ns X.env.locals m:=by
   obtain⟨o,es,ep,e,bm⟩:=hn1
   exact⟨o,es,ep,kp' _ _ (AAt hne) e,bm⟩
  refine⟨.ref D,_,I.laidF (t':=tk) (o:=.lst ws) (λb u hb e=>kp' b u (neD b u e) (kp1 b u hb e)) hn hn' hD hH ⟨by rw[ABa];lia,its,c,rr,ho'⟩,rfl,kk _ _ λQ hQ=>VQ.laidL sm .refl r hH (hQ xs (List.Perm.refl _) ?_)⟩
  unfold Ar
  match xs,(show xs.length<2 by lia) with
  | [],_=>exact ADN
  | [x],_=>exact ACa _ _
  | _::_::_,hx=>simp at hx;lia
 ·have h2':2<=its.length:=by lia
  have mem:∀a o,(a,o)∈Att.ledger h1 X.env.locals D↔a≠X.env.locals/\a≠D/\h1.get? a=some o:=λa o=>Att.mem_ledger
  have U:UpdF D (seqObj "list" its.toArray n) ([]++(D,seqObj "list" its.toArray n)::Att.ledger h1 X.env.locals D) λo'=>(D,o')::Att.ledger h1 X.env.locals D:=UpdF.head λp hp=>((mem p.1 p.2).mp hp).2.1
  refine kat_lsort (s:={ s with heap:=h1,toks:=tk }) (vs:=its) (Att.fr_all hn1) (Att.news_ledger hne ho) U rfl h2' (by lia) λe1 h' F' N'=>?_
  have kp:∀b u,b≠X.env.locals->s.heap.get? b=some u->h'.get? b=some u:=λb u hb e=>(N' (b,u) (AA8 _ ((mem b u).mpr ⟨hb,neD b u e,kp1 b u hb e⟩))).1
  have I':Inv X pins σ H { s with heap:=h',toks:=tk }:=I.keptF (t':=tk) kp hn F'.ns
  have hu:A.in1.units+eqN<cLine:=by
   have:=hr.un
   have:eqN=30:=rfl
   show A.units+1+eqN<cLine
   lia
  refine ABc (jW I' sm so r rr h2' hu) (λκ s' hk=>?_) λ_ _ x=>x
  obtain⟨rfl,hask⟩:=hk
  refine Srt.wp_run (n:=its.length) (c:=λi j=>if i<xs.length then(if j<xs.length then ltD M eqN (xs.getD i default) (xs.getD j default)else true)else false) (λi j C hi hj hc=>?_) _ (Srt.sort_bd (by lia)).1 ?_
  ·refine hask i j C hi hj ?_
   rw[if_pos (by lia),if_pos (by lia)]at hc
   exact hc
  ·have hent:=Srt.All.run (c:=λi j=>if i<xs.length then(if j<xs.length then ltD M eqN (xs.getD i default) (xs.getD j default)else true)else false) _ (Srt.sort_bd (n:=its.length) (by lia)).2
   obtain⟨o1,o2,o3⟩:=EG so
   have hsl:=Srt.sort_list xs (by lia) o1 o2 o3
   try dsimp only at hsl
   rw[show xs.length=its.length by lia]at hsl hent ⊢
   generalize Srt.run _ (ADV its.length)=p at hent hsl ⊢
   have hi:∀i∈p.toList,i<xs.length:=λi h=>by
    have:=hent.mem_iff.mp h
    rw[ABK]at this
    lia
   refine KasFin.intro F' N' (UpdF.head λq hq=>((mem q.1 q.2).mp hq).2.1) λh2 c F2 N2=>?_
   have r':=r.perm p.toList hi
   have rr':=rr.perm p.toList (λi h=>by have:=hi i h;lia)
   refine⟨.ref D,_,I.laidF (t':=tk) (o:=.lst (p.toList.map λi=>ws.getD i .non)) (λb u hb e=>(N2 (b,u) (AA8 _ ((mem b u).mpr ⟨hb,neD b u e,kp1 b u hb e⟩))).1) hn F2.ns hD hH ⟨?_,_,c,rr',(N2 _ AAG).1⟩,rfl,
    kk _ _ λQ hQ=>VQ.laidL sm .refl r' hH (hQ _ hsl.1 hsl.2)⟩
   rw[AA4]
   have:=hsl.1.length_eq
   rw[AA4]at this
   rw[ABa]
   lia
section
variable{K:AA2}{ρ:List Addr}{H:Hp}{M:Mem}
theorem Sim.writeD(S:Sim K ρ M H)(e1:ρ[n]?=some a)(hM:M[n]?=some (.dct kvs))(hH:H a=some (.dK kv))(r:Reps K ρ H (kvs'.map (·.2)) vs') :
  Sim K ρ (M.set n (.dct kvs')) (upd H a (.dK (np (kvs'.map (·.1)) vs')))/\Grow K ρ H ρ (upd H a (.dK (np (kvs'.map (·.1)) vs'))):=
 S.writeG e1 (λ⟨_,z⟩=>by rw[hM]at z;cases z) hH rfl λg=>⟨vs',aL,r.grow g⟩
noncomputable def uz(kvs:List (Str×D))(k:Str)(d:D):List (Str×D):=if (kvs.any λp=>decide (p.1=k))=true then kvs.map (λp=>if p.1=k then(p.1,d)else p)else kvs++[(k,d)]
theorem FI(a b:Str):decide ((ABs a:Key)=ABs b)=decide (a=b):=Dk a b
theorem uU:∀{kvs:List (Str×D)}{vs:List V},Reps K ρ H (kvs.map (·.2)) vs->((np (kvs.map (·.1)) vs).any λkv=>decide (kv.1=ABs k))=kvs.any λp=>decide (p.1=k)
 | [],_,_=>rfl
 | (k',d')::kvs,_,.cons h t=>by
  have ih:=uU (k:=k) t
  show (decide ((ABs k':Key)=ABs k)||(np (kvs.map (·.1)) _).any _)=(decide (k'=k)||kvs.any _)
  rw[ih,FI]
theorem uH(hd:Rep K ρ H d v):∀{kvs:List (Str×D)}{vs:List V},Reps K ρ H (kvs.map (·.2)) vs->∃vs',(np (kvs.map (·.1)) vs).map (λkv=>if kv.1=ABs k then(kv.1,v)else kv)=np ((kvs.map λp=>if p.1=k then(p.1,d)else p).map (·.1)) vs'/\Reps K ρ H ((kvs.map λp=>if p.1=k then(p.1,d)else p).map (·.2)) vs'
 | [],_,.nil=>⟨[],rfl,.nil⟩
 | (k',d')::kvs,_,.cons (v:=v') h t=>by
  obtain⟨vs',e,r⟩:=uH (k:=k) hd t
  by_cases q:k'=k
  ·subst q
   refine⟨v::vs',?_,?_⟩
   ·simp only[AAH,if_true,np,ABN]at e ⊢
    rw[e]
   ·simp only[AAH,if_true]
    exact .cons hd r
  ·have q':¬(ABs k':Key)=ABs k:=λz=>q (Sum.inr.inj z)
   refine⟨v'::vs',?_,?_⟩
   ·simp only[AAH,if_neg q,if_neg q',np,ABN]at e ⊢
    rw[e]
   ·simp only[AAH,if_neg q]
    exact .cons h r
theorem pK:∀{kvs:List (Str×D)}{vs:List V},Reps K ρ H (kvs.map (·.2)) vs->np (kvs.map (·.1)) vs++[(ABs k,v)]=np (kvs.map (·.1)++[k]) (vs++[v])
 | [],_,.nil=>rfl
 | (k',d')::kvs,_,.cons h t=>by
  have:=pK (k:=k) (v:=v) t
  simp only[AAH,np,ABN,ABp]at this ⊢
  rw[this]
theorem Ed(hd:Rep K ρ H d v)(r:Reps K ρ H (kvs.map (·.2)) vs):∃vs',rA (np (kvs.map (·.1)) vs) (ABs k) v=np ((uz kvs k d).map (·.1)) vs'/\Reps K ρ H ((uz kvs k d).map (·.2)) vs':=by
 unfold rA uz
 rw[uU r]
 by_cases q:(kvs.any λp=>decide (p.1=k))=true
 ·rw[if_pos q,if_pos q]
  exact uH hd r
 ·rw[if_neg q,if_neg q]
  refine⟨vs++[v],?_,?_⟩
  ·rw[pK r,AAh]
   rfl
  ·rw[AAh]
   exact r.append (.cons hd .nil)
end
def wz(td ty tv:DTE):DTS:=λE S M=>tv S M λv M1=>td S M1 λx M2=>ty S M2 λy M3=>match x,y with
 | .ref n,.str k=>∃kvs,M3[n]?=some (.dct kvs)/\kvs.length<sizeLine/\E.nx S (M3.set n (.dct (uz kvs k v)))
 | _,_=>False
theorem Gh{X:Cx}{o i value:Expr}{td ty tv:DTE}{pos pos':Pos}(hu:X.A.units+1<cLine)(ho:DE X o td)(hi:DE X i ty)(hv:DE X value tv)(hs:swapsWith value (some (.Subscript o i pos')) pos.line X.env=pure false):DS X (.Assign [.Subscript o i pos'] value pos) (wz td ty tv):=by
 refine PS.imp (Ej hu ho hi hv hs) ?_
 rintro E σ H ⟨S,M,ρ,F,s,sr,q,k⟩
 refine⟨S,M,ρ,_,s,sr,q,?_⟩
 rintro v H1 ⟨d,M1,ρ1,s1,g1,r1,q1⟩
 refine⟨S,M1,ρ1,_,s1,sr.grow g1,q1,?_⟩
 rintro x H2 ⟨e,M2,ρ2,s2,g2,r2,q2⟩
 refine⟨S,M2,ρ2,_,s2,(sr.grow g1).grow g2,q2,?_⟩
 rintro y H3 ⟨f,M3,ρ3,s3,g3,r3,q3⟩
 try dsimp only at q3
 split at q3
 ·obtain⟨kvs,hM,hl,q4⟩:=q3
  obtain⟨_,rfl,hn⟩:=Rep.inv_ref r2
  cases r3
  obtain⟨vs,hH,rr⟩:=s3.obj _ _ _ (aK g3.pre hn) hM
  obtain⟨vs',e1,rr'⟩:=Ed ((r1.grow g2).grow g3) rr
  obtain⟨w1,w2⟩:=s3.writeD (aK g3.pre hn) hM hH rr'
  refine⟨_,_,rfl,.inl ⟨_,ABs _,hH,rfl,?_,by rw[e1]⟩,k.nx σ _ (SQ.trans ((g1.trans g2).trans g3) ⟨S,_,ρ3,w1,w2,(((sr.grow g1).grow g2).grow g3).grow w2,q4⟩)⟩
  have:=rr.length
  rw[AA4]at this
  rw[np,AA4,ADv,AA4]
  lia
 ·exact q3.elim
def gG:DRA:=λds M Q=>match ds with
 | [.ref n]=>∃xs,(ao M n xs\/∃kvs,M[n]?=some (.dct kvs)/\xs=kvs.map λp=>.str p.1)/\SrtOk M xs/\∀ys,ys.Perm xs->Ar M ys->Q (.ref M.length) (M++[.lst ys])
 | _=>False
theorem zj:∀{kvs:List (Str×D)}{vs:List V}{us:List (Key×Value)},kvs.length=vs.length->KV (np (kvs.map (·.1)) vs) us->us.map (·.1)=kvs.map (λp=>(ABs p.1:Key))
 | [],_,_,_,h=>by cases h;rfl
 | _::_,[],_,e,_=>by simp at e
 | p::kvs,v::vs,_,e,h=>by
  have h':KV ((ABs p.1,v)::np (kvs.map (·.1)) vs) _:=h
  cases h' with
  | cons a t =>
   rw[AAH,AAH,<-a.1,zj (by simpa using e) t]
theorem oM:∀(ks:List Str) (vs:List Value),vs.length=ks.length->(∀(j:Nat) (v:Value),vs[j]?=some v->∃k,ks[j]?=some k/\sO (ABs k) v=true)->az (ks.map V.str) vs
 | [],[],_,_=>.nil
 | [],_::_,e,_=>by simp at e
 | _::_,[],e,_=>by simp at e
 | k::ks,v::vs,e,h=>by
  obtain⟨k',e1,e2⟩:=h 0 v rfl
  have:k=k':=by simpa using e1
  subst this
  rcases aY e2 with⟨i,t,z,_⟩|⟨x,t,z,rfl⟩
  ·cases z
  ·cases z
   exact .cons ⟨t,rfl⟩ (oM ks vs (by simpa using e) λj u hj=>by simpa using h (j+1) u (by simpa using hj))
theorem wD{k:Nat}(hr:Room k X.A)(hc:X.calm=true):hZ X (.builtin "sorted") gG:=by
 rintro pins s σ H vs us R I rv ⟨ds,M,ρ,Q,sm,rs,q,kk⟩
 unfold gG at q
 split at q
 ·obtain⟨xs,hL | ⟨kvs,hM,rfl⟩,so,q⟩:=q
  ·exact Aa hr pins s σ H vs us R I rv ⟨_,M,ρ,Q,sm,rs,⟨xs,hL,so.g,q⟩,kk⟩
  ·first | have hzz:=Reps.inv_cons rs | have hzz:=az.inv_cons rs
   clear rs
   obtain⟨_,_,rfl,r1,rs⟩:=hzz
   cases rs
   obtain⟨u,rfl,e1⟩:=az.one rv
   obtain⟨a,rfl,e⟩:=Rep.inv_ref r1
   cases e1
   obtain⟨ws,hH,r⟩:=sm.obj _ _ _ e hM
   obtain⟨z1,z2,pvs,rel,dd⟩:=(show bP X.prog X.w H s.heap a (.dK _)from I.hok a _ hH)
   obtain⟨ep,hat⟩:=dd.dictAt
   obtain⟨m,hn,hm⟩:=I.loc
   have hne:a≠X.env.locals:=ad hH I.free
   obtain⟨oa,_,hoa,_⟩:=id hat
   have lk:kvs.length=ws.length:=by have:=r.length;rwa [AA4]at this
   have kk':=zj lk rel
   have lp:pvs.length=kvs.length:=by have:=congrArg ACV kk';simpa using this
   have mem:∀b o,(b,o)∈[]++(a,oa)::Att.ledger s.heap X.env.locals a↔b≠X.env.locals/\s.heap.get? b=some o:=λb o=>by
    rw[AAY,AAF,Att.mem_ledger]
    constructor
    ·rintro(h | ⟨h1,_,h3⟩)
     ·cases h;exact⟨hne,hoa⟩
     ·exact⟨h1,h3⟩
    ·rintro⟨h1,h2⟩
     by_cases hal:b=a
     ·subst hal
      rw[hoa]at h2;cases h2
      exact .inl rfl
     ·exact .inr ⟨h1,hal,h2⟩
   refine kdu_sorted (kdl_dict (knd:=bw X.prog X.w) (kvs:=pvs) (ep:=ep) z2) (I.ok.hd hc) (Att.fr_all hn) (Att.news_ledger hne hoa) hat (by rw[lp,ABa];have:=so.len;rw[AA4]at this;lia) λD h' tk vs F' N' lt hl hP=>?_
   have kp:∀b u,b≠X.env.locals->s.heap.get? b=some u->h'.get? b=some u:=λb u hb e=>(N' (b,u) (AA8 _ ((mem b u).mpr ⟨hb,e⟩))).1
   have hDL:D≠X.env.locals:=(N' _ AAG).2.1
   have hD:s.heap.get? D=none:=by
    cases q:s.heap.get? D with
    | none=>rfl
    | some o=>exact absurd (lt (D,o) ((mem D o).mpr ⟨hDL,q⟩)) (AAk _)
   have rvs:az ((kvs.map (·.1)).map V.str) vs:=by
    refine oM _ _ (by rw[AA4];lia) λj v hj=>?_
    obtain⟨key,x,e1,e2⟩:=hP j v hj
    have e3:(pvs.map (·.1))[j]?=some key:=by rw[AAU,e1];rfl
    rw[kk',AAU]at e3
    cases e4:kvs[j]? with
    | none=>rw[e4]at e3;cases e3
    | some p =>
     rw[e4]at e3
     have:key=ABs p.1:=(AAW e3).symm
     subst this
     exact⟨p.1,by rw[AAU,e4];rfl,e2⟩
   have rps:Reps X.K ρ H (kvs.map λp=>L2.D.str p.1) ((kvs.map (·.1)).map V.str):=by
    have:=pP (K:=X.K) (ρ:=ρ) (H:=H) (kvs.map (·.1))
    rw[AAd]at this
    exact this
   exact xQ (n:=0) hr (by show X.A.units+1<=X.A.units+4;lia) I sm so.g rps rvs hn F'.ns kp hD hDL (N' _ AAG).1 λv H' x=>kk v H' (x Q q)
 ·exact q.elim
structure HGs(X:Cx)(es:List Expr)(t:Ds):Prop where
 ok:DGs X es t
section
variable{X:Cx}{e a b c o i tg:Expr}{es bm:List Expr}{te ta tb tc to ti:DTE}{t:DTA}{pos p p2 pos':Pos}{x:Str}{k:Nat}{g:DTG}{u:Ds}{name:Str}{apos cpos:Pos}
theorem Fo:HGs X [] qM:=⟨Gm⟩
theorem BF(h1:HG X e g)(h2:HGs X es u)(hs:(assignEach (e::es) X.env).map (·.2)=assign e X.env::(assignEach es X.env).map (·.2):=by kernel_rfl):HGs X (e::es) (dn g u):=⟨Ck h1.ok h2.ok hs⟩
theorem Jd(h:HGs X es u)(hc:X.calm=true:=by kernel_rfl)(hn:(assignEach es X.env).length=n:=by kernel_rfl)(hst:(assignEach es X.env).findIdx? (·.1)=none:=by kernel_rfl):HG X (.Tuple es j pos) (qL n u):=⟨Kc h.ok hc hn hst⟩
theorem Je(ho:HE X o to)(hi:HE X i ti)
  (ha:∀v,assign (.Subscript o i pos) X.env v=(do
   let ov <-holding [v] (eval o X.env)
   let iv <-holding [v,ov] (eval i X.env)
   standAt pos
   holding [v,ov,iv] (setItem ov iv v)
   release [v,ov,iv] []):=by intro _;kernel_rfl):HG X (.Subscript o i pos) (Cl to ti):=⟨Kd ho.ok hi.ok ha⟩
theorem Dj(he:HE X e te)(hg:HG X tg g)(hs:swapsWithSole [tg] e pos.line X.env=pure false:=by kernel_rfl)(hw:swappedStores [tg] e X.env=pure none:=by kernel_rfl)
  (h1:(assignEach [tg] X.env).map (·.2)=[assign tg X.env]:=by kernel_rfl):HS X (.Assign [tg] e pos) (dAsg te g):=⟨JY he.ok hg.ok hs hw h1⟩
theorem Jb(hm:X.mg "zip" = none)(ha:HA X [a,b] t)(hg:X.env.kindOf "zip" = some .globalImplicit:=by kernel_rfl)(hs:starEach [a,b] X.env=[(false,eval a X.env),(false,eval b X.env)]:=by kernel_rfl)(hs2:starEach [b] X.env=[(false,eval b X.env)]:=by kernel_rfl) :
  HI X (.Tuple es x1 q) (.Call (.Name "zip" p) [a,b] [] pos) (dZip t):=⟨Ka hm ha.ok hg hs hs2⟩
theorem FL:HOp X (binaryOp .Add) aP:=⟨EO⟩
theorem JA(hr:Room k X.A):HOp X (compareOp .Lt) HD:=⟨IH hr⟩
theorem BV:HC X (.type "tuple") cy:=⟨Cz⟩
theorem zH(hr:Room k X.A)(hc:X.calm=true:=by kernel_rfl):HC X (.builtin "sorted") gG:=⟨wD hr hc⟩
theorem zC:HMl X "extend" kg:=⟨_,PySem.F.slot_list_extend,PySem.F.type_list_extend,vV⟩
def dMl0(r:Nat->DRA)(to:DTE):DTE:=λS M Q=>to S M λx M1=>match x with
 | .ref n=>(∃xs,ao M1 n xs)/\r n [] M1 Q
 | _=>False
theorem k_ml0(hm:HMl X name r)(ho:HE X o to)(hbase:attributeBase o name X.env (eval o X.env)=eval o X.env:=by kernel_rfl)(hline:(apos.endLine==cpos.line)=true:=by kernel_rfl) :
  HE X (.Call (.Attribute o name apos) [] [] cpos) (dMl0 r to):=by
 obtain⟨id,h1,h2,h3⟩:=hm.ok
 refine⟨PE.imp (Il PySem.F.plainAttrs_list h1 h2 h3 ho.ok hbase hline) ?_⟩
 rintro σ H R ⟨S,M,ρ,Q,s,sr,q,k⟩
 refine⟨S,M,ρ,_,s,sr,q,?_⟩
 rintro v H1 ⟨d,M1,ρ1,s1,g1,r1,q1⟩
 cases r1 with
 | @ref n a hn =>
  obtain⟨⟨xs,hL⟩,q1⟩:=(show (∃xs,ao M1 n xs)/\r n [] M1 _ from q1)
  obtain⟨vs,hq,_⟩:=ao.seq s1 hL hn
  exact⟨.inl ⟨rfl,vs,hq⟩,n,a,[],M1,ρ1,Q,rfl,hn,s1,.nil,q1,λv H' w=>k v H' (VQ.trans g1 w)⟩
 | _=>exact q1.elim
theorem AM(hr:Room k X.A):X.A.units+1<cLine:=by have:=hr.un;lia
theorem zg(hr:Room k X.A)(ho:HE X o to)(hi:HE X i ti)(hv:HE X e te)(hs:swapsWith e (some (.Subscript o i pos')) pos.line X.env=pure false:=by kernel_rfl):HS X (.Assign [.Subscript o i pos'] e pos) (wz to ti te):=⟨Gh (AM hr) ho.ok hi.ok hv.ok hs⟩
end
def Hg(nt:Nat)(js:List Nat)(wi:TI)(g:TG)(tt:TT)(te:TE)(gN:TG):TS:=λD σ H=>tLC nt js wi g tt te σ H λv H1=>gN v σ H1 D.nx
theorem AU(B:BlkSc X N' nt js scope)(hc:X.calm=true)(hi:PI X tg iter wi)
  (hg:∀cl s0 H0 ex,PG (blk X N' scope cl s0 H0 ex) tg g) (ht:∀cl s0 H0 ex,PTs (blk X N' scope cl s0 H0 ex) ifs tt) (he:∀cl s0 H0 ex,PE (blk X N' scope cl s0 H0 ex) elt te) (hn:PG X (.Name x pos') gN)
  (hs:∀x,foldedSetIterable iter X.env x=pure x) (hsw:swapsWith (.ListComp elt [⟨tg,iter,ifs,0⟩] scope pos) (some (.Name x pos')) pos2.line X.env=pure true) :
  PS X (.Assign [.Name x pos'] (.ListComp elt [⟨tg,iter,ifs,0⟩] scope pos) pos2) (Hg nt js wi g tt te gN):=by
 intro pins s σ H Dn I h
 rw[exec_Assign_Name_used _ _ _ _ hsw]
 refine AA0 (wpAny_standAt ?_)
 obtain⟨cl,ecl,hcl1,hcl2⟩:=ja (scope:=scope) (env:=X.env) λp hp hf=>I.ok.has p.1 (B.free p hp hf)
 refine AA0 (show wpAny (model X.prog X.w) X.A (comprehension (.ListComp elt [⟨tg,iter,ifs,0⟩] scope pos) scope X.env _ (newList []) false (eval iter X.env) (some (assign (.Name x pos') X.env)) >>= λ_=>pure ()) _ _ _ from AA0 ?_)
 refine wpAny_comprehension_free (use:=some (assign (.Name x pos') X.env)) (Q:=λ_ s''=>wpAny (model X.prog X.w) X.A (pure ()) (λ_ s3=>wpAny (model X.prog X.w) X.A (pure Flow.next) (SP X pins Dn) X.xe s3) X.xe s'') rfl hs ecl B.kind B.loc ?_
 refine thn (hi pins s σ H _ I h) λv s1 h1=>thn h1 λitv s2 h2=>?_
 obtain⟨it,fp,tn,J,H2,e,I2,T,st2,f2,W,⟨m0,w0⟩,turn⟩:=h2
 subst e
 refine AAj (wpAny_newFunctionEnv B.nocell (by intro y hy;simp at hy) (λh1 hns1 hsb1=>?_) B.kind)
 have hfs:∀b∈fp,b<s2.heap.objs.size:=λb hb=>by
  obtain⟨o,e,_⟩:=T.obj _ _ st2 b hb
  exact AAM e
 have hC:(s2.heap.push (cj [] 0)).objs.size=s2.heap.objs.size+1:=ABZ ..
 have old:∀b o,(s2.heap.push (cj [] 0)).get? b=some o->h1.get? b=some o:=λb o e=>(hsb1.2 b (AAQ (AAM e))).trans (AA6 _ e)
 have I3:=I2.blkStart (tk:=s2.toks+([]:List (Str×Value)).length) B hcl1 hcl2 f2 hfs old hns1
 have st3:tn 0 h1:=T.keep _ _ _ st2 λb _ o e=>old b o (AA6 _ e)
 have hDf:s2.heap.objs.size∉fp:=λz=>AAk _ (hfs _ z)
 have hDs:s2.heap.objs.size∉frs X.stack:=λz=>by
  rcases AAF.mp (I2.stkSub _ z)with q | q
  ·exact absurd I2.lt (by rw[<-q];exact AAk _)
  ·exact I2.nofs (AAC _) q
 have hDC:s2.heap.objs.size≠(s2.heap.push (cj [] 0)).objs.size:=by rw[hC];exact AAQ (AC7 _)
 have ltc:∀z c,cl.lookup z=some c->c<s2.heap.objs.size:=λz c e=>by
  obtain⟨v,q⟩:=I2.cell z c (hcl1 z c e)
  exact q.lt
 have hstat:∀b∈fp,b≠(s2.heap.push (cj [] 0)).objs.size/\b∉frs X.stack/\∀x c,cl.lookup x=some c->c≠b:=λb hb=>by
  refine⟨by rw[hC];exact AAQ (ACO (hfs b hb)),λz=>?_,λx c e=>(f2 b hb).2.2.2.2.1 x c (hcl1 x c e)⟩
  rcases AAF.mp (I2.stkSub b z)with q | q
  ·exact(f2 b hb).2.1 q
  ·exact(f2 b hb).2.2.1 q
 have leC:s2.heap.objs.size<=(s2.heap.push (cj [] 0)).objs.size:=by rw[hC];exact Nat.le_succ _
 have loop:codeAny (model X.prog X.w) X.A (.compLoop (.ListComp elt [⟨tg,iter,ifs,0⟩] scope pos) 0 (.ref it) (.ref s2.heap.objs.size) (compEnvC scope cl (s2.heap.push (cj [] 0)).objs.size X.env))
   (compPost (model X.prog X.w) X.A X.xe (some (assign (.Name x pos') X.env)) (λ_ s''=>wpAny (model X.prog X.w) X.A (pure ()) (λ_ s3=>wpAny (model X.prog X.w) X.A (pure Flow.next) (SP X pins Dn) X.xe s3) X.xe s'') (.ref s2.heap.objs.size) (s2.heap.push (cj [] 0)).objs.size) { s2 with heap:=h1,toks:=s2.toks+([]:List (Str×Value)).length }:=by
  refine yZ (s0:={ s2 with heap:=s2.heap.push (cj [] 0) }) (H0:=H2) (N':=N') (Q:=λv H1=>gN v σ H1 Dn.nx) (Turn.at T hc) (hg _ _ _ _) (ht _ _ _ _) (he _ _ _ _) T hDf turn hstat hDC hDs (λx c e=>AAQ (ltc x c e)) ?_ m0 I3 st3 (λb hb=>(f2 b hb).1) w0
  intro τ H' s' vs its k I4 rv hl q
  obtain⟨mm,hn4,_⟩:=id I4.loc
  obtain⟨oC,es,ep,eC,bm⟩:=id hn4
  have I5:Inv X pins σ (upd H' s2.heap.objs.size (.lst vs)) s':=I2.blkEnd f2 I4 rv hl ⟨rfl,λ_ _=>rfl⟩
  have fC:upd H' s2.heap.objs.size (.lst vs) (s2.heap.push (cj [] 0)).objs.size=none:=by rw[av (AAt hDC)];exact I4.free
  have fk:∀Hx:Hp,Hx (s2.heap.push (cj [] 0)).objs.size=none->rp X pins Hx (s2.heap.push (cj [] 0)).objs.size:=λHx hx=>I2.fpOk leC hx
  have dC:∀v,oC.data≠.cell v:=λv z=>by
   have:∃es ep,oC.data=.dict es ep:=by
    first
     | (obtain⟨d,_⟩:=bm;exact⟨_,_,d⟩)
     | (obtain⟨_,d,_⟩:=bm;exact⟨_,_,d⟩)
     | (obtain⟨_,_,d,_⟩:=bm;exact⟨_,_,d⟩)
   obtain⟨_,_,d⟩:=this
   rw[d]at z;cases z
  have I6:Inv X (pins++[((s2.heap.push (cj [] 0)).objs.size,oC)]) σ (upd H' s2.heap.objs.size (.lst vs)) s':=I5.pins_of λp hp=>by
   rcases AAL.mp hp with hp | hp
   ·exact I5.pin p (AAR _ hp)
   ·have:p=((s2.heap.push (cj [] 0)).objs.size,oC):=by simpa using hp
    subst this
    exact⟨eC,fC,(fk _ fC).2.1,(fk _ fC).2.2.1,dC⟩
  refine thn (hn _ s' σ _ (.ref s2.heap.objs.size) (.ref s2.heap.objs.size) _ I6 rfl q) ?_
  rintro _ s7 ⟨σ7,H7,I7,q7⟩
  obtain⟨p1,p2,_⟩:=I7.pin ((s2.heap.push (cj [] 0)).objs.size,oC) (AAR _ (AAR _ AAG))
  refine⟨mm,⟨oC,es,ep,p1,bm⟩,λh' sb=>AA7 (AA7 ⟨σ7,H7,?_,q7⟩)⟩
  have I8:Inv X pins σ7 H7 s7:=I7.pins_of λp hp=>I7.pin p (AAR _ (ABb _ hp))
  refine I8.turnedL (t':=s7.toks) (fp:=[(s2.heap.push (cj [] 0)).objs.size]) (λb hb=>?_) λb o hb e=>(sb.2 b (by simpa using hb)).trans e
  have:b=(s2.heap.push (cj [] 0)).objs.size:=by simpa using hb
  subst this
  exact fk H7 p2
 exact codeAny_compStart_list loop (T.self _ 0 _ _ _ st3 loop)
def kX(nt:Nat)(js:List Nat)(di:DTI)(g:DTG)(tt:DTT)(te:DTE)(i:Nat):DTS:=λE S M=>dLC nt js di g tt te S M λd M1=>ax i d S M1 E.nx
theorem Ci(B:BlkSc X N' nt js scope)(hc:X.calm=true)(hi:DI X tg iter di)
  (hg:∀cl s0 H0 ex,DG (blk X N' scope cl s0 H0 ex) tg g) (ht:∀cl s0 H0 ex,PTs (blk X N' scope cl s0 H0 ex) ifs (lowT X.K tt)) (he:∀cl s0 H0 ex,DE (blk X N' scope cl s0 H0 ex) elt te) (hn:DG X (.Name x pos') (ax i))
  (hs:∀x,foldedSetIterable iter X.env x=pure x) (hsw:swapsWith (.ListComp elt [⟨tg,iter,ifs,0⟩] scope pos) (some (.Name x pos')) pos2.line X.env=pure true) :
  DS X (.Assign [.Name x pos'] (.ListComp elt [⟨tg,iter,ifs,0⟩] scope pos) pos2) (kX nt js di g tt te i) :=
 PS.imp (AU (g:=lowG X.K g) (tt:=lowT X.K tt) (te:=lowE X.K te) B hc hi (λcl s0 H0 ex=>hg cl s0 H0 ex) ht (λcl s0 H0 ex=>he cl s0 H0 ex) hn hs hsw) λE σ H ⟨S,M,ρ,F,s,sr,q,k⟩ =>
  yP σ H _ ⟨S,M,ρ,_,s,sr,q,λv H1 ⟨d,M1,ρ1,s1,g1,r1,q1⟩=>⟨d,S,M1,ρ1,_,s1,sr.grow g1,r1,q1,λσ' H' w=>k.nx σ' H' (SQ.trans g1 w)⟩⟩
theorem BE(hN:X.N.Nodup)(hi:HI X tg iter di)
  (hg:∀cl s0 H0 ex,HG (blk X N' scope cl s0 H0 ex) tg g) (ht:∀cl s0 H0 ex,HTs (blk X N' scope cl s0 H0 ex) ifs tt) (he:∀cl s0 H0 ex,HE (blk X N' scope cl s0 H0 ex) elt te) (B:mJ X.env.scope.names X.N N' nt js scope=true:=by kernel_rfl) (hc:X.calm=true:=by kernel_rfl)
  (hs:∀x,foldedSetIterable iter X.env x=pure x:=by intro _;kernel_rfl) (hsw:swapsWith (.ListComp elt [⟨tg,iter,ifs,0⟩] scope pos) (some (.Name x pos')) pos2.line X.env=pure true:=by kernel_rfl)
  (hix:X.N[i]?=some x:=by kernel_rfl) (hx:GN X.env.scope x=true:=by kernel_rfl) (hf:X.fn x=true:=by kernel_rfl):HS X (.Assign [.Name x pos'] (.ListComp elt [⟨tg,iter,ifs,0⟩] scope pos) pos2) (kX nt js di g tt te i) :=
 ⟨Ci (BlkSc.chk B) hc hi.ok (λcl s0 H0 ex=>(hg cl s0 H0 ex).ok) (λcl s0 H0 ex=>(ht cl s0 H0 ex).ok) (λcl s0 H0 ex=>(he cl s0 H0 ex).ok) (tj hN hix (yS hx) (.inl hf)) hs hsw⟩
theorem at0:atI (a::r) 0=some a:=by
 have:=aM (xs:=a::r) (j:=0) (v:=a) rfl
 simpa using this
theorem at1:atI (a::b::r) 1=some b:=by
 have:=aM (xs:=a::b::r) (j:=1) (v:=b) rfl
 simpa using this
theorem at2:atI (a::b::c::r) 2=some c:=by
 have:=aM (xs:=a::b::c::r) (j:=2) (v:=c) rfl
 simpa using this
theorem aI.lst(h:R (.ref M.length) (M++[.lst xs]))(hn:M.length<=n)(e:(M++L)[n]?=some (.lst xs))(b:Bels M.length xs):aI M R (.ref n) (M++L) :=
 .inr (.inr ⟨M,n,xs,.refl,rfl,hn,e,AAx _ _,b,h⟩)
theorem aI.chgL(c:Chg M M1)(h:R (.ref M.length) (M1++[.lst xs]))(hn:M.length<=n)(e:M'[n]?=some (.lst xs))(p:M1 <+: M')(b:Bels M.length xs):aI M R (.ref n) M':=.inr (.inr ⟨M1,n,xs,c,rfl,hn,e,p,b,h⟩)
theorem mT:(M++a::L).set M.length b=M++b::L:=by
 rw[List.set_append_right _ _ (AAC _)]
 simp
theorem iI:(M++a::L)[M.length]?=some a:=by simp
theorem cq(I:List D->List D->SD->Mem->Prop)(h0:∀acc S M,I [] acc S M->ok M/\Q (.ref M.length) (M++[.lst acc]))
  (h1:∀x xs acc S M,I (x::xs) acc S M->∀K:List D->SD->Mem->Prop,(∀acc S M,I xs acc S M->K acc S M)->ok M/\g x S M λS2 M2=>tt S2 M2 λb M3=>if b=true then te S2 M3 λy M4=>acc.length<sizeLine/\K (acc++[y]) S2 M4 else K acc S2 M3) :
  ∀xs acc S M,I xs acc S M->jo ok g tt te Q xs acc S M
 | [],acc,S,M,h=>h0 acc S M h
 | x::xs,acc,S,M,h=>h1 x xs acc S M h _ (cq I h0 h1 xs)
noncomputable def unS:D->Str
 | .str x=>x
 | _=>Str.empty
theorem yg{ys:List D}{ks:List Str}(h:ys.Perm (ks.map D.str)):∃ns:List Str,ys=ns.map D.str/\ns.Perm ks:=by
 refine⟨ys.map unS,?_,?_⟩
 ·rw[AAd]
  have:∀y∈ys,(D.str ∘ unS) y=y:=λy hy=>by
   obtain⟨x,_,rfl⟩:=AAI.mp (h.mem_iff.mp hy)
   rfl
  exact(AC1 this ▸ (List.map_id' ys).symm:ys=ys.map (D.str ∘ unS))
 ·have:=h.map unS
  rw[AAd]at this
  have e:(unS ∘ D.str)=id:=rfl
  rwa [e,ADR]at this
theorem vG{M:Mem}{ks:List Str}(h:ks.length<64):SrtOk M (ks.map D.str):=by
 refine⟨by rw[AA4];exact h,λx hx=>?_,λx hx y hy=>?_,.inl λx hx=>?_⟩
 ·obtain⟨z,_,rfl⟩:=AAI.mp hx;rfl
 ·obtain⟨z,_,rfl⟩:=AAI.mp hx
  obtain⟨z',_,rfl⟩:=AAI.mp hy
  rfl
 ·obtain⟨z,_,rfl⟩:=AAI.mp hx;exact⟨z,rfl⟩
theorem yb(h:(kvs.map (·.1)).Nodup):((uz kvs k d).map (·.1)).Nodup:=by
 unfold uz
 by_cases q:(kvs.any λp=>decide (p.1=k))=true
 ·rw[if_pos q,AAd]
  have:((λx:Str×D=>x.1) ∘ λp:Str×D=>if p.1=k then(p.1,d)else p)=λx=>x.1:=by
   funext p
   show (if p.1=k then(p.1,d)else p).1=p.1
   split<;>rfl
  rw[this];exact h
 ·rw[if_neg q,AAh,List.nodup_append]
  refine⟨h,by simp,λa ha b hb e=>?_⟩
  simp at hb
  subst hb e
  obtain⟨p,hp,e⟩:=AAI.mp ha
  exact q (ABo.mpr ⟨p,hp,by simpa using e⟩)
theorem AR:(uz kvs k d).length<=kvs.length+1/\1<=(uz kvs k d).length:=by
 unfold uz
 by_cases q:(kvs.any λp=>decide (p.1=k))=true
 ·rw[if_pos q,AA4]
  obtain⟨p,hp,_⟩:=ABo.mp q
  have:0<kvs.length:=List.length_pos_of_mem hp
  lia
 ·rw[if_neg q,AA9,AAb]
  lia
theorem AS{P:Str×D->Prop}{kvs:List (Str×D)}{k:Str}{d:D}(h:∀p∈kvs,P p)(hk:P (k,d)):∀p∈uz kvs k d,P p:=by
 unfold uz
 intro p hp
 by_cases q:(kvs.any λp=>decide (p.1=k))=true
 ·rw[if_pos q]at hp
  obtain⟨p',hp',rfl⟩:=AAI.mp hp
  by_cases e:p'.1=k
  ·rw[if_pos e,e];exact hk
  ·rw[if_neg e];exact h p' hp'
 ·rw[if_neg q]at hp
  rcases AAL.mp hp with hp | hp
  ·exact h p hp
  ·rw[AAP.mp hp];exact hk
structure TxSrc(prog:Program)(w:World)(h:Heap)(l:Addr)(T:String)(n:Nat)(P:Nat->Value->Prop):Prop where
 obj:∃o,h.get? l=some o/\o.cls=.type T
 ns:isSubtype (.type T) (.type "set")=pure false
 nf:isSubtype (.type T) (.type "frozenset")=pure false
 nd:(AEC T==AEC "dict")=false
 iter:∀(A:Around) (s':Shared),A.handled=none->(∀o,h.get? l=some o->s'.heap.get? l=some o)->∃(oI:Obj) (St:Nat->Heap->Prop),
  (∀(E:Value->Shared->Prop) (Q:Value->Shared->Prop),Q (.ref s'.heap.objs.size) { s' with heap:=s'.heap.push oI }->wpAny (model prog w) A (pyIter (.ref l)) Q E s') /\
  Walks prog w A s'.heap.objs.size [s'.heap.objs.size,l] [s'.heap.objs.size] n P St/\St 0 (s'.heap.push oI)
theorem TxSrc.list(hl:h.IsList l its):TxSrc prog w h l "list" its.size (λi v=>its[i]?=some v):=by
 refine⟨let ⟨o,e,c,_⟩:=hl;⟨o,e,c⟩,F.sub_list_set,F.sub_list_frozenset,by decide,λA s' hh hk=>?_⟩
 have hl':s'.heap.IsList l its:=hl.at hk
 have lt:l<s'.heap.objs.size:=let ⟨o,e,_⟩:=hl';AAM e
 exact⟨_,_,λE Q q=>ADO hl' q,Walks.list hh _ l (AAQ lt) its,⟨_,AAE _ rfl,rfl,rfl⟩,hl'.push _⟩
structure SetAt(h:Heap)(a:Addr)(o:Obj)(es:Array (Int×Value))(ep:Nat)(t:SetTable):Prop where
 ob:h.get? a=some o
 dt:o.data=.set es ep t
 ft:t.fits es.size=true
end L2
namespace L2
end L2
namespace Ht
open PySem
noncomputable def adv(m:Nat)(p:AD0):AD0 :=
 if p.more > 0 then { p with j:=p.j+1,more:=p.more-1 } else
 { p with j:=(ADD m p.i p.perturb).1,more:=SetTable.runEnd m (ADD m p.i p.perturb).1-(ADD m p.i p.perturb).1,i:=(ADD m p.i p.perturb).1,perturb:=(ADD m p.i p.perturb).2 }
noncomputable def DO(m i pt:Nat):AD0:={ j:=i,more:=SetTable.runEnd m i-i,i,perturb:=pt,dummy:=none }
noncomputable def Hj(m:Nat)(p:AD0):Nat->AD0
 | 0=>p
 | n+1=>adv m (Hj m p n)
noncomputable def sq(m:Nat)(h:Int)(n:Nat):AD0:=Hj m (DO m (AEH h % (m+1)) (AEH h)) n
noncomputable def runs(m:Nat)(h:Int):Nat->Nat×Nat
 | 0=>(AEH h % (m+1),AEH h)
 | k+1=>ADD m (runs m h k).1 (runs m h k).2
noncomputable def Kz(m:Nat)(h:Int):Nat->Nat
 | 0=>0
 | k+1=>Kz m h k+(SetTable.runEnd m (runs m h k).1-(runs m h k).1+1)
def KB(m:Nat):Prop:=m=7\/m=31\/m=127
structure TOk(t:SetTable)(hs:List Int):Prop where
 msk:KB t.mask
 len:t.place.size=hs.length
 nod:t.dummies = #[]
 ris:t.place.toList.Pairwise (· < ·)
 rng:∀j∈t.place.toList,j<=t.mask
 few:t.place.size*5<t.mask*3
 path:∀(i:Nat) (h:Int) (j:Nat),hs[i]?=some h->t.place[i]?=some j->∃n,(sq t.mask h n).j=j/\∀n',n' < n->(sq t.mask h n').j∈t.place.toList
end Ht
namespace L2
open PySem PySem.Spec PyProof.Rows DL PySem.W
end L2
namespace L2
open PySem PySem.Spec PyProof.Rows DL PySem.W PySem.Calls PyProof.V
end L2
namespace L2
open PySem PySem.Spec PyProof.Rows DL PySem.W
end L2
namespace L2
open PySem PySem.Spec PyProof.Rows DL PySem.Builtin PySem.Builtin.Str PySem.StrLaws
theorem zZ(a b len:Nat):strSliceIndices (some (a:Int)) (some (b:Int)) 1 len=strSliceIndices (some ((min a len:Nat):Int)) (some ((min b len:Nat):Int)) 1 len:=by
 have e:∀i:Nat,max (0:Int) (min (i:Int) (len:Int))=max (0:Int) (min ((min i len:Nat):Int) (len:Int)):=λi=>by lia
 have n:∀i:Nat,¬((i:Int)<0):=λi=>by lia
 simp only[strSliceIndices,n,if_false,show ((1:Int) > 0)=True by simp,if_true]
 rw[e a,e b]
theorem dB(x:Str)(l u:Option Int):(ABP x l u).cps.toList=if (strSliceIndices l u 1 x.length).length=x.length then x.cps.toList else(strSliceIndices l u 1 x.length).filterMap (x.cps[·]?):=by
 unfold ABP
 by_cases h:(strSliceIndices l u 1 x.length).length=x.length
 ·rw[if_pos (by simp[h]),if_pos h]
 ·rw[if_neg (by simp[h]),if_neg h]
theorem pL(x:Str){a b:Nat}(hab:a<=b):(ABP x (some (a:Int)) (some (b:Int))).cps.toList=(x.cps.toList.drop a).take (b-a):=by
 have hm:min a x.length<=min b x.length:=by lia
 have key:(strSliceIndices (some ((min a x.length:Nat):Int)) (some ((min b x.length:Nat):Int)) 1 x.length).filterMap (x.cps[·]?)=(x.cps.toList.drop (min a x.length)).take (min b x.length-min a x.length):=sliced_plain x hm (Nat.min_le_right ..)
 have ll:=aC (a:=x)
 have fin:(x.cps.toList.drop (min a x.length)).take (min b x.length-min a x.length)=(x.cps.toList.drop a).take (b-a):=by
  by_cases ha:a<=x.length
  ·rw[ADE ha]
   by_cases hb:b<=x.length
   ·rw[ADE hb]
   ·rw[Nat.min_eq_right (by lia),ABh (by rw[ABe];lia),ABh (by rw[ABe];lia)]
  ·rw[ADK (i:=a) (by lia),ADK (i:=min a x.length) (by lia)]
   simp
 rw[dB,zZ,key,fin]
 split
 ·rename_i h
  rw[strSliceIndices_plain hm (Nat.min_le_right ..)]at h
  simp only[AA4,List.length_range]at h
  have h0:min a x.length=0:=by lia
  by_cases hx:x.length=0
  ·have:x.cps.toList=[]:=ACb (by lia)
   rw[this];simp
  ·have:a=0:=by lia
   subst this
   rw[List.drop_zero,ABh (by lia)]
 ·rfl
end L2
namespace L2
open PySem PySem.Spec PyProof.Rows DL PySem.W
def Hy:DR2:=λx y M Q=>match x,y with
 | .int i,.int j=>CPow i j/\Q (.int (i ^ j.toNat)) M
 | _,_=>False
theorem IF:OpD X (binaryOp .Pow) Hy:=by
 refine OpR.imp Iv ?_
 rintro vx vy H R ⟨x,y,M,ρ,Q,sm,r1,r2,q,k⟩
 unfold Hy at q
 split at q
 ·cases r1
  cases r2
  exact⟨_,_,rfl,rfl,q.1,k _ H (VQ.now sm (.int _) q.2)⟩
 ·exact q.elim
theorem Jx:HOp X (binaryOp .Pow) Hy:=⟨IF⟩
def rU(z:Str):DRA:=λds M Q=>match ds with
 | [.ref n]=>∃xs:List Str,ao M n (xs.map .str)/\(xs.map (·.length)).sum+xs.length*z.length<=16777216/\Q (.str (AEI z xs)) M
 | _=>False
theorem pH:∀{xs:List Str}{us:List Value},az (xs.map V.str) us->StrsAre us xs
 | [],_,h=>by cases h;exact .nil
 | x::xs,_,h=>by
  cases h with
  | cons a t =>
   obtain⟨t',rfl⟩:=a
   exact .cons x t' (pH t)
theorem mj{K:AA2}{ρ:List Addr}{H:Hp}:∀{xs:List Str}{vs:List V},Reps K ρ H (xs.map D.str) vs->vs=xs.map V.str
 | [],_,h=>by cases h;rfl
 | x::xs,_,h=>by
  cases h with
  | cons a t=>cases a;rw[AAH,mj t]
theorem ER:MtR X "str.join" (Bs X.K rU):=by
 rintro pins s σ H x xs v us R I rx rs ⟨z,ds,M,ρ,Q,ez,sm,rr,q,k⟩
 subst ez
 obtain⟨t,rfl⟩:=rx
 unfold rU at q
 split at q
 ·obtain⟨ys,hL,hok,q⟩:=q
  first | have hzz:=Reps.inv_cons rr | have hzz:=az.inv_cons rr
  clear rr
  obtain⟨_,_,rfl,r1,rr⟩:=hzz
  cases rr
  obtain⟨_,rfl,hn⟩:=Rep.inv_ref r1
  obtain⟨u,rfl,rfl⟩:=az.one rs
  obtain⟨vs,hs,r⟩:=hL.seq sm hn
  obtain rfl:=mj r
  obtain⟨its,r2,p,_⟩:=I.list hs
  exact join_list p.isList (by simpa using pH r2) hok λt' k'=>⟨.str _,H,I.tok k',⟨t',rfl⟩,k _ H (VQ.now sm (.str _) q)⟩
 ·exact q.elim
theorem FM:HMs X "join" rU:=⟨_,PySem.F.slot_str_join,PySem.F.type_str_join,ER⟩
def ka(z:Str):DRA:=λds M Q=>match ds with
 | [.str y]=>∃i bm,ACZ z y 0 z.length 1=i::bm/\Q (.int (i:Nat)) M
 | _=>False
theorem Bo:MtR X "str.index" (Bs X.K ka):=by
 rintro pins s σ H x xs v us R I rx rs ⟨z,ds,M,ρ,Q,ez,sm,rr,q,k⟩
 subst ez
 obtain⟨t,rfl⟩:=rx
 unfold ka at q
 split at q
 ·obtain⟨i,bm,ho,q⟩:=q
  first | have hzz:=Reps.inv_cons rr | have hzz:=az.inv_cons rr
  clear rr
  obtain⟨_,_,rfl,r1,rr⟩:=hzz
  cases rr
  cases r1
  obtain⟨u,rfl,t',rfl⟩:=az.one rs
  exact call_gives F.slot_str_index (typeIs_str _ _ _) F.entry_str_index (F.args_str_index_2 _ _) (gives_str_index _ _ _ _ i bm ho) ⟨.int _,H,I.tok _,⟨_,rfl⟩,k _ H (VQ.now sm (.int _) q)⟩
 ·exact q.elim
theorem BR:HMs X "index" ka:=⟨_,PySem.F.slot_str_index,PySem.F.type_str_index,Bo⟩
def qQ(i:Nat)(b:Bool):DTE:=λS M Q=>match S[i]? with
 | some (some (.str z))=>Q (.ref M.length) (M++[.dct [(z,.bl b)]])
 | _=>False
theorem Gs(hk:PE X (.Name x p) (tVar i)):DE X (.Dict [some (.Name x p)] [.Constant (.bool b) j p'] pos) (qQ i b):=by
 refine PE.imp (Es (AV hk Io Ek) rfl rfl (by simp) (Nat.succ_le_succ (AAV _))) ?_
 rintro σ H R ⟨S,M,ρ,Q,sm,sr,q,k⟩
 unfold qQ at q
 split at q
 ·rename_i z hS
  obtain⟨v,hv,rv⟩:=sr.get i _ hS
  cases rv
  intro a ha
  refine⟨_,hv,aL,[(ABs z,.bl b)],rfl,Nat.succ_le_succ (AAV _),k _ _ ?_⟩
  have e:upd (upd H a (.dK [])) a (.dK (my [] [(ABs z,V.bl b)]))=upd H a (.dK (np [z] [V.bl b])):=by
   funext c
   by_cases hc:c=a
   ·subst hc;rw[aL,aL];rfl
   ·rw[av hc,av hc,av hc]
  rw[e]
  exact⟨.ref M.length,M++[.dct [(z,.bl b)]],ρ++[a],sm.laidM (mo:=.dct [(z,.bl b)]) ha ⟨[.bl b],aL,.cons (.bl b) .nil⟩,Grow.laidR ha,.ref sm.last,q⟩
 ·exact q.elim
theorem Fz(hN:X.N[i]?=some x:=by kernel_rfl)(hv:visB X.env.scope x=true:=by kernel_rfl)(hd:(x==("__debug__":Str))=false:=by kernel_rfl)(hcd:(x==("__classdict__":Str))=false:=by kernel_rfl) :
  HE X (.Dict [some (.Name x p)] [.Constant (.bool b) j p'] pos) (qQ i b):=⟨Gs (Da hN (CK hv) hd hcd)⟩
end L2
namespace Ht
open PySem
def Occ(ow:Array (Option Nat))(s:Nat):Prop:=∃i,ow[s]?=some (some i)
structure Laid(m:Nat)(hs:List Int)(ow:Array (Option Nat))(k:Nat):Prop where
 sz:ow.size=m+1
 lt:∀s i:Nat,ow[s]?=some (some i)->i<k
 inj:∀s s' i:Nat,ow[s]?=some (some i)->ow[s']?=some (some i)->s=s'
 all:∀i:Nat,i<k->∃s:Nat,ow[s]?=some (some i)
 path:∀(s i:Nat) (h:Int),ow[s]?=some (some i)->hs[i]?=some h->∃n,(sq m h n).j=s/\∀n',n' < n->Occ ow (sq m h n').j
structure TPre(t:SetTable)(hs:List Int):Prop where
 msk:KB t.mask
 len:t.place.size=hs.length
 nod:t.dummies = #[]
 ris:t.place.toList.Pairwise (· < ·)
 rng:∀j∈t.place.toList,j<=t.mask
 path:∀(i:Nat) (h:Int) (j:Nat),hs[i]?=some h->t.place[i]?=some j->∃n,(sq t.mask h n).j=j/\∀n',n' < n->(sq t.mask h n').j∈t.place.toList
end Ht
namespace L2
open PySem PySem.Spec PyProof.Rows DL PySem.W
theorem zn:∀(n:Nat) (x y:D),kP n x=true->kP n y=true->(eqD M n x y=true↔x=y):=by
 intro n
 induction n with
 | zero =>
  intro x y h1 h2
  cases x with
  | str a =>
   cases y with
   | str b=>simp[eqD]
   | int b=>simp[eqD]
   | _=>cases h2
  | int a =>
   cases y with
   | str b=>simp[eqD]
   | int b=>simp[eqD]
   | _=>cases h2
  | _=>cases h1
 | succ n ih =>
  have go:∀xs ys:List D,xs.all (kP n)=true->ys.all (kP n)=true->(eqL (eqD M n) xs ys=true↔xs=ys):=by
   intro xs
   induction xs with
   | nil=>intro ys _ _;cases ys<;>simp[eqL]
   | cons x xs ih2 =>
    intro ys a1 a2
    cases ys with
    | nil=>simp[eqL]
    | cons y ys =>
     rw[AB6,AAN]at a1 a2
     show (eqD M n x y&&eqL (eqD M n) xs ys)=true↔_
     rw[AAN,ih x y a1.1 a2.1,ih2 ys a1.2 a2.2,ADB]
  intro x y h1 h2
  cases x with
  | str a =>
   cases y with
   | str b=>simp[eqD]
   | int b=>simp[eqD]
   | tup ys=>simp[eqD]
   | _=>cases h2
  | int a =>
   cases y with
   | str b=>simp[eqD]
   | int b=>simp[eqD]
   | tup ys=>simp[eqD]
   | _=>cases h2
  | tup xs =>
   cases y with
   | str b=>simp[eqD]
   | int b=>simp[eqD]
   | tup ys=>rw[D.tup.injEq];exact go _ _ h1 h2
   | _=>cases h2
  | _=>cases h1
noncomputable def uL:D->Bool
 | .tup _=>true
 | _=>false
def Ent(X:Cx)(ρ:List Addr)(H:Hp)(n:Nat)(d:D)(e:Int×Value):Prop:=(∃v,Rep X.K ρ H d v/\aU v e.2)/\e.1=hkD X.w n d/\kP n d=true/\uL d=true
structure KSet(X:Cx)(ρ:List Addr)(H:Hp)(h:Heap)(a:Addr)(n:Nat)(ds:List D)(o:Obj)(es:Array (Int×Value))(ep:Nat)(t:SetTable):Prop where
 ob:h.get? a=some o
 ex:o.ExactSet
 dt:o.data=.set es ep t
 en:Paired (Ent X ρ H n) ds es.toList
 nd:ds.Nodup
 tk:Ht.TOk t (es.toList.map (·.1))
 ld:t.led = !X.w.params.followText "set-order"
theorem kj{α β:Type}{R:α->β->Prop}:∀{xs:List α}{ys:List β}{i:Nat}{y:β},Paired R xs ys->ys[i]?=some y->∃x,xs[i]?=some x/\R x y
 | _,_,i,y,.nil,e=>by simp at e
 | _,_,0,y,.cons r _,e=>by simp at e;subst e;exact⟨_,rfl,r⟩
 | _,_,i+1,y,.cons _ t,e=>by
  obtain⟨x,h1,h2⟩:=kj (i:=i) t (by simpa using e)
  exact⟨x,by simpa using h1,h2⟩
def CI(M:Mem)(d:D)(xs:List D):Prop:=(∃n,d=.ref n/\ao M n xs)\/d=.tup xs
theorem wR{X:Cx}:∀{ds:List D}{vs:List V}{its:List Value}{i:Nat}{u:Value}{ρ:List Addr}{H:Hp},Reps X.K ρ H ds vs->az vs its->its[i]?=some u->∃d v,ds[i]?=some d/\Rep X.K ρ H d v/\aU v u
 | _,_,_,i,u,_,_,.nil,h,e=>by cases h;simp at e
 | _,_,_,0,u,_,_,.cons r _,h,e=>by
  cases h with
  | cons a _=>simp at e;subst e;exact⟨_,_,rfl,r,a⟩
 | _,_,_,i+1,u,_,_,.cons _ t,h,e=>by
  cases h with
  | cons _ b =>
   obtain⟨d,v,e1,r,rv⟩:=wR (i:=i) t b (by simpa using e)
   exact⟨d,v,by simpa using e1,r,rv⟩
def eZ(h:Heap):Nat->D->Value->Prop
 | _,.str x,v=>∃t,v=.str x t
 | _,.int i,v=>∃t,v=.int i t
 | n+1,.tup ds,v=>∃a its,v=.ref a/\h.IsTuple a its/\Paired (eZ h n) ds its.toList
 | _,_,_=>False
noncomputable def drD:Nat->D->Nat
 | n+1,.tup ds=>(ds.map (drD n)).sum+1
 | _,_=>1
theorem gP:∀(n:Nat) (d:D) (v:Value),eZ h n d v->kP n d=true:=by
 intro n
 induction n with
 | zero=>intro d v k;cases d<;>first | rfl | exact k.elim
 | succ n ih =>
  intro d v k
  cases d with
  | str x=>rfl
  | int x=>rfl
  | tup ds =>
   obtain⟨a,its,_,_,p⟩:=k
   show ds.all (kP n)=true
   generalize its.toList=l at p
   induction p with
   | nil=>rfl
   | cons r _ i2=>rw[AB6,ih _ _ r,i2];rfl
  | _=>exact k.elim
theorem sS{h:Heap}{a:Addr}{xs ys:Array Value}(h1:h.IsTuple a xs)(h2:h.IsTuple a ys):xs=ys:=by
 obtain⟨o,e1,_,n,d1⟩:=h1
 obtain⟨o',e2,_,n',d2⟩:=h2
 obtain rfl:o=o':=AAW (e1.symm.trans e2)
 rw[d1]at d2
 injection d2
theorem qA{h:Heap}:∀(n:Nat) (x y:D) (v:Value),eZ h n x v->eZ h n y v->x=y:=by
 intro n
 induction n with
 | zero =>
  intro x y v k1 k2
  cases x with
  | str a =>
   obtain⟨t,rfl⟩:=k1
   cases y with
   | str b=>obtain⟨t',e⟩:=k2;injection e with e;rw[e]
   | int b=>obtain⟨t',e⟩:=k2;cases e
   | _=>exact k2.elim
  | int a =>
   obtain⟨t,rfl⟩:=k1
   cases y with
   | str b=>obtain⟨t',e⟩:=k2;cases e
   | int b=>obtain⟨t',e⟩:=k2;injection e with e;rw[e]
   | _=>exact k2.elim
  | _=>exact k1.elim
 | succ n ih =>
  intro x y v k1 k2
  cases x with
  | str a =>
   obtain⟨t,rfl⟩:=k1
   cases y with
   | str b=>obtain⟨t',e⟩:=k2;injection e with e;rw[e]
   | int b=>obtain⟨t',e⟩:=k2;cases e
   | tup b=>obtain⟨_,_,e,_⟩:=k2;cases e
   | _=>exact k2.elim
  | int a =>
   obtain⟨t,rfl⟩:=k1
   cases y with
   | str b=>obtain⟨t',e⟩:=k2;cases e
   | int b=>obtain⟨t',e⟩:=k2;injection e with e;rw[e]
   | tup b=>obtain⟨_,_,e,_⟩:=k2;cases e
   | _=>exact k2.elim
  | tup xs =>
   obtain⟨a,its,rfl,t1,p1⟩:=k1
   cases y with
   | str b=>obtain⟨t',e⟩:=k2;cases e
   | int b=>obtain⟨t',e⟩:=k2;cases e
   | tup ys =>
    obtain⟨_,its',e,t2,p2⟩:=k2
    cases e
    obtain rfl:=sS t1 t2
    congr 1
    generalize its.toList=l at p1 p2
    induction p1 generalizing ys with
    | nil=>cases p2;rfl
    | cons r _ i2=>cases p2 with
     | cons r' t'=>rw[ih _ _ _ r r',i2 _ t']
   | _=>exact k2.elim
  | _=>exact k1.elim
theorem wg(k:∀a its,h.IsTuple a its->h'.IsTuple a its):∀(n:Nat) (d:D) (v:Value),eZ h n d v->eZ h' n d v:=by
 intro n
 induction n with
 | zero=>intro d v q;cases d<;>first | exact q | exact q.elim
 | succ n ih =>
  intro d v q
  cases d with
  | str x=>exact q
  | int x=>exact q
  | tup ds =>
   obtain⟨a,its,e,t,p⟩:=q
   exact⟨a,its,e,k _ _ t,Paired.mapP p λx y r=>ih x y r⟩
  | _=>exact q.elim
theorem sQ{es ep}(q:eZ h n k v)(ho:h.get? d=some o)(hd:o.data=.dict es ep)(hs:ABt d h h'):eZ h' n k v:=by
 refine wg (λa its ⟨o',e,c,m,t⟩=>?_) n k v q
 have hne:a≠d:=by
  rintro rfl
  obtain rfl:o'=o:=AAW (e.symm.trans ho)
  rw[hd]at t;cases t
 exact⟨o',(hs.2 a hne).trans e,c,m,t⟩
theorem wj:∀(n:Nat) (A:Around) (s:Shared) (d:D) (u:Value) (E:Value->Shared->Prop) (Q:Int->Shared->Prop),A.units+n<cLine->eZ s.heap n d u ->
  Q (hkD w n d) { s with toks:=s.toks+drD n d }->wpAny (model prog w) A (pyHash u) Q E s:=by
 intro n
 induction n with
 | zero =>
  intro A s d u E Q hu k h
  cases d with
  | str x=>obtain⟨t,rfl⟩:=k;exact wpAny_pyHash_str h
  | int x=>obtain⟨t,rfl⟩:=k;exact wpAny_pyHash_int h
  | _=>exact k.elim
 | succ n ih =>
  intro A s d u E Q hu k h
  cases d with
  | str x=>obtain⟨t,rfl⟩:=k;exact wpAny_pyHash_str h
  | int x=>obtain⟨t,rfl⟩:=k;exact wpAny_pyHash_int h
  | tup ds =>
   obtain⟨a,its,rfl,⟨o,ho,hc,nn,hd⟩,p⟩:=k
   have hT:s.TypeIs (.ref a) "tuple":=⟨o,ho,hc⟩
   unfold pyHash
   first | unfold pyHashByItsType | skip
   first | refine AA0 (wpAny_cRoomFor_or (.inr (by lia)) ?_) | skip
   refine AA0 (ADo hT F.slot_tuple_hash.lookup ?_)
   refine(show wpAny (model prog w) _ (if (some (Value.builtin "tuple.__hash__")==some ABO)=true then _ else _) Q E s from ?_)
   rw[if_neg (by rw[beq_builtin_none];exact AAc)]
   refine AA0 (ADo hT F.slot_tuple_hash.lookup ?_)
   refine(show wpAny (model prog w) _ (callSpecialIfBoundUnlessNone? (.ref a) "__hash__" _ >>= _) Q E s from AA0 (wpAny_callSpecialIfBoundUnlessNone?_slot hT F.slot_tuple_hash (AAo F.slot_tuple_hash hT F.entry_tuple_hash ?_ (F.args_tuple_hash_1 _))))
   refine(show wpAny (model prog w) _ (ACq (.ref a) >>= _) _ _ s from AA0 (wpAny_tupleItemsOf ho hd (AA0 ?_)))
   rw[<-ADF]
   refine wpAny_forIn_list _ (λbm (b:Array Int) s'=>∃done left,ds=done++left/\Paired (eZ s.heap n) left bm/\b.toList=done.map (hkD w n)/\s'={ s with toks:=s.toks+(done.map (drD n)).sum }) _ ?_ ?_ _ _ ⟨[],ds,rfl,p,rfl,rfl⟩
   ·rintro x bm b s' ⟨done,left,e,h1,hb,rfl⟩
    cases h1 with
    | @cons d0 _ left' _ r0 t0 =>
     refine AA0 (ih _ _ d0 x _ _ (by show A.units+1+n<cLine;lia) r0 ?_)
     first
      | exact AA7 ⟨done++[d0],left',by rw[e];simp,t0,by simp[hb],by simp[Nat.add_assoc]⟩
      | exact AA0 (AA7 (AA7 ⟨done++[d0],left',by rw[e];simp,t0,by simp[hb],by simp[Nat.add_assoc]⟩))
   ·rintro b s' ⟨done,left,e,h1,hb,rfl⟩
    cases h1
    rw[AB8]at e
    subst e
    refine(show wpAny (model prog w) _ (retInt (ACG b.toList)) _ _ _ from ?_)
    rw[hb]
    refine wpAny_ret_mkInt ?_
    have key:hkD w (n+1) (.tup ds)=reduceHash (ACG (ds.map (hkD w n))):=rfl
    have h':Q (hkD w (n+1) (.tup ds)) { s with toks:=s.toks+(ds.map (drD n)).sum+1 }:=h
    generalize ACG (ds.map (hkD w n))=z at key
    refine(show wpAny (model prog w) _ (if (decide (-(2:Int) ^ 63<=z)&&decide (z<2 ^ 63))=true then _ else _) Q E _ from ?_)
    unfold reduceHash at key
    by_cases hr:(decide (-(2:Int) ^ 63<=z)&&decide (z<2 ^ 63))=true
    ·rw[if_pos hr]at key ⊢
     exact AA7 (by rw[<-key];exact h')
    ·rw[if_neg hr]at key ⊢
     exact AA0 (ACc (AA7 (by rw[<-key];exact h')))
  | _=>exact k.elim
theorem sP:∀(n k:Nat) (A:Around) (s:Shared) (d:D) (u:Value) (E:Value->Shared->Prop) (Q:Bool->Shared->Prop),n<=k->eZ s.heap n d u->Q true s->wpAny (model prog w) A (eqIsQuiet k u) Q E s:=by
 intro n
 induction n with
 | zero =>
  intro k A s d u E Q hk q h
  cases d with
  | str x=>obtain⟨t,rfl⟩:=q;rw[ADS k (v:=.str x t) rfl];exact AA7 h
  | int x=>obtain⟨t,rfl⟩:=q;rw[ADS k (v:=.int x t) rfl];exact AA7 h
  | _=>exact q.elim
 | succ n ih =>
  intro k A s d u E Q hk q h
  cases d with
  | str x=>obtain⟨t,rfl⟩:=q;rw[ADS k (v:=.str x t) rfl];exact AA7 h
  | int x=>obtain⟨t,rfl⟩:=q;rw[ADS k (v:=.int x t) rfl];exact AA7 h
  | tup ds =>
   obtain⟨a,its,rfl,⟨o,ho,hc,nn,hd⟩,p⟩:=q
   obtain⟨k,rfl⟩:∃k',k=k'+1:=⟨k-1,by lia⟩
   have hT:s.TypeIs (.ref a) "tuple":=⟨o,ho,hc⟩
   unfold eqIsQuiet
   refine AA0 (ADo hT F.slot_tuple_eq.lookup ?_)
   refine(show wpAny (model prog w) A (isInstance (.ref a) (.type "tuple") >>= _) _ _ s from AA0 (ADd hT isSubtype_tuple_tuple ?_))
   simp only[Bool.not_true,AAZ,if_false]
   refine AA0 (ABj ho hd ?_)
   simp only[Option.getD_some]
   refine AA0 ?_
   refine(show wpAny (model prog w) A (forIn its _ _) _ _ s from ?_)
   rw[<-ADF]
   refine wpAny_forIn_list _ (λbm r s'=>r.1=none/\s'=s/\∃left,Paired (eZ s.heap n) left bm) _ ?_ ?_ _ _ ⟨rfl,rfl,ds,p⟩
   ·rintro x bm r s' ⟨hr,rfl,left,h1⟩
    cases h1 with
    | cons r0 t0 =>
     refine AA0 (ih k _ _ _ x _ _ (by lia) r0 ?_)
     simp only[Bool.not_true,AAZ,if_false]
     exact AA7 ⟨rfl,rfl,_,t0⟩
   ·rintro⟨r1,r2⟩ s' ⟨hr,rfl,_⟩
    simp only at hr
    subst hr
    exact AA7 h
  | _=>exact q.elim
theorem iX{h:Heap}{n:Nat}{ds:List D}{its:Array Value}(p:Paired (eZ h n) ds its.toList):ds.length=its.size:=by
 rw[<-ABy]
 generalize its.toList=l at p
 induction p with
 | nil=>rfl
 | cons _ _ ih=>rw[AAD,AAD,ih]
theorem BI:∀(n:Nat) (A:Around) (s:Shared) (x y:D) (u v:Value),A.units+n<cLine->eZ s.heap n x u->eZ s.heap n y v->ACP A s u v (eqD [] n x y):=by
 intro n
 induction n with
 | zero =>
  intro A s x y u v hu k1 k2
  cases x with
  | str a =>
   obtain⟨t,rfl⟩:=k1
   cases y with
   | str b=>obtain⟨t',rfl⟩:=k2;exact ADA _ _ _ _
   | int b=>obtain⟨t',rfl⟩:=k2;exact ACe _ _ _ _
   | _=>exact k2.elim
  | int a =>
   obtain⟨t,rfl⟩:=k1
   cases y with
   | str b=>obtain⟨t',rfl⟩:=k2;exact ACd _ _ _ _
   | int b=>obtain⟨t',rfl⟩:=k2;exact ACf _ _ _ _
   | _=>exact k2.elim
  | _=>exact k1.elim
 | succ n ih =>
  intro A s x y u v hu k1 k2
  have hu0:A.units<cLine:=by lia
  have hu1:A.in1.units+n<cLine:=by show A.units+1+n<cLine;lia
  cases x with
  | str a =>
   obtain⟨t,rfl⟩:=k1
   cases y with
   | str b=>obtain⟨t',rfl⟩:=k2;exact ADA _ _ _ _
   | int b=>obtain⟨t',rfl⟩:=k2;exact ACe _ _ _ _
   | tup b=>obtain⟨_,_,rfl,pl,_⟩:=k2;exact SeqAt.EqAt.str_tuple _ _ pl hu0
   | _=>exact k2.elim
  | int a =>
   obtain⟨t,rfl⟩:=k1
   cases y with
   | str b=>obtain⟨t',rfl⟩:=k2;exact ACd _ _ _ _
   | int b=>obtain⟨t',rfl⟩:=k2;exact ACf _ _ _ _
   | tup b=>obtain⟨_,_,rfl,pl,_⟩:=k2;exact SeqAt.EqAt.int_tuple _ _ pl hu0
   | _=>exact k2.elim
  | tup xs =>
   obtain⟨a,its,rfl,pl,p1⟩:=id k1
   cases y with
   | str b=>obtain⟨t',rfl⟩:=k2;exact SeqAt.EqAt.tuple_str _ _ pl hu0
   | int b=>obtain⟨t',rfl⟩:=k2;exact SeqAt.EqAt.tuple_int _ _ pl hu0
   | tup ys =>
    obtain⟨b,jts,rfl,pl',p2⟩:=id k2
    by_cases hab:a=b
    ·subst hab
     have e:=qA (n+1) _ _ _ k1 k2
     rw[e,(zn (M:=[]) (n+1) _ _ (gP _ _ _ k2) (gP _ _ _ k2)).mpr rfl]
     exact ADt _
    ·have ll:=iX p1
     have ll':=iX p2
     have items:∀(j:Nat) (h1:j<its.size) (h2:j<jts.size),ACP A.in1 s its[j] jts[j] (eqD [] n (xs.getD j .non) (ys.getD j .non)):=λj h1 h2=>by
      obtain⟨x0,e1,r1⟩:=kj p1 (i:=j) (y:=its[j]) (by rw[ABk];exact AAm h1)
      obtain⟨y0,e2,r2⟩:=kj p2 (i:=j) (y:=jts[j]) (by rw[ABk];exact AAm h2)
      have z1:xs.getD j .non=x0:=by rw[AAK,e1];rfl
      have z2:ys.getD j .non=y0:=by rw[AAK,e2];rfl
      rw[z1,z2]
      exact ih A.in1 s x0 y0 _ _ hu1 r1 r2
     have key:((AAg (min its.size jts.size)).all (λj=>eqD [] n (xs.getD j .non) (ys.getD j .non))&&its.size==jts.size)=eqL (eqD [] n) xs ys:=by
      by_cases hl:xs.length=ys.length
      ·have rng:(AAg xs.length).all (λj=>eqD [] n (xs.getD j .non) (ys.getD j .non))=eqL (eqD [] n) xs ys:=kU hl λj x y h1 h2=>by simp[List.getD,h1,h2]
       rw[<-ll,<-ll',<-hl,Nat.min_self,rng]
       simp
      ·rw[zM hl,<-ll,<-ll']
       simp[hl]
     have h1:=SeqAt.RcAt.tuples pl pl' hu0 items
     rw[key]at h1
     exact SeqAt.EqAt.of_refs hab h1
   | _=>exact k2.elim
  | _=>exact k1.elim
noncomputable instance decD:DecidableEq D:=λa b=>Classical.propDecidable (a=b)
noncomputable def bR(prog:Program)(w:World):HeapKind prog w D where
 is:=λh d a=>eZ h 8 d (.ref a)
 hash:=hkD w 8
 draws:=drD 8
 room:=λA=>A.units+8<cLine
 inj:=λx y=>qA 8 _ _ _ x y
 keeps:=λx ho hd hs=>sQ x ho hd hs
 pyHash:=λhu k h=>wj 8 _ _ _ _ _ _ hu k h
 eqBool:=λ{A E s x y a b Q} hu k1 k2 h=>by
  refine BI 8 A s x y _ _ hu k1 k2 _ _ _ _ ?_
  have e:eqD [] 8 x y=decide (x=y):=by
   rw[AC0,zn 8 x y (gP _ _ _ k1) (gP _ _ _ k2),decide_eq_true_eq]
  rw[e]
  exact h
 quiet:=λk h=>sP 8 8 _ _ _ _ _ _ (AAC _) k h
noncomputable def cY(kvs:List (D×D))(k:D):Option D:=(kvs.find? λp=>decide (p.1=k)).map (·.2)
noncomputable def fy(kvs:List (D×D))(k d:D):List (D×D):=if (cY kvs k).isSome then kvs.map (λp=>if p.1=k then(p.1,d)else p)else kvs++[(k,d)]
section
variable{K:AA2}{ρ:List Addr}{H:Hp}{M:Mem}{kvs:List (D×D)}{xs:List (D×Addr×Value)}
theorem zc(r:Paired (rC K ρ H) kvs xs)(k:D):(cY kvs k=none/\atKey xs k=none)\/∃d p v,cY kvs k=some d/\atKey xs k=some p/\Rep K ρ H d v/\aU v p.2:=by
 unfold cY atKey
 induction r with
 | nil=>exact .inl ⟨rfl,rfl⟩
 | @cons p q ps qs h t ih =>
  obtain⟨h1,_,_,v,h4,h5⟩:=h
  rw[AAu,AAu]
  by_cases e:p.1=k
  ·rw[dT_ e,dT_ (h1.symm.trans e)]
   exact .inr ⟨_,_,v,rfl,rfl,h4,h5⟩
  ·rw[dF_ e,dF_ (λz=>e (h1.trans z))]
   exact ih
theorem Df(r:Paired (rC K ρ H) kvs xs)(kd:kP 8 k=true)(rk:Rep K ρ H k (.ref b))(rd:Rep K ρ H d v)(rv:aU v u):Paired (rC K ρ H) (fy kvs k d) (storedH xs k b u):=by
 unfold fy storedH
 have is:(cY kvs k).isSome=(atKey xs k).isSome:=by
  rcases zc r k with⟨e1,e2⟩|⟨_,_,_,e1,e2,_⟩<;>rw[e1,e2]<;>rfl
 rw[is]
 by_cases q:(atKey xs k).isSome=true
 ·rw[if_pos q,if_pos q]
  clear is q
  induction r with
  | nil=>exact .nil
  | @cons p q ps qs h t ih =>
   rw[AAH,AAH]
   refine .cons ?_ ih
   obtain⟨h1,h2,h3,w,h4,h5⟩:=h
   by_cases e:p.1=k
   ·rw[if_pos e,putAt,if_pos (h1.symm.trans e)]
    exact⟨h1,h2,h3,v,rd,rv⟩
   ·rw[if_neg e,putAt,if_neg (λz=>e (h1.trans z))]
    exact⟨h1,h2,h3,w,h4,h5⟩
 ·rw[if_neg q,if_neg q]
  clear is q
  induction r with
  | nil=>exact .cons ⟨rfl,kd,rk,v,rd,rv⟩ .nil
  | cons h t ih=>exact .cons h ih
theorem sN(r:Paired (rC K ρ H) kvs xs):xs.map (·.1)=kvs.map (·.1):=by
 induction r with
 | nil=>rfl
 | cons h t ih=>rw[AAH,AAH,ih,h.1]
theorem dG:(fy kvs k d).length<=kvs.length+1:=by
 unfold fy
 split
 ·rw[AA4];lia
 ·rw[AA9];exact AAC _
theorem Sim.writeT(S:Sim K ρ M H)(e1:ρ[n]?=some a)(hM:M[n]?=some (.dkt kvs))(hH:H a=some (.ext (dX a xs)))(hl:kvs'.length<=sizeLine)(hs:(a==sysModules)=false)(nd:(kvs'.map (·.1)).Nodup)(r:Paired (rC K ρ H) kvs' xs') :
  Sim K ρ (M.set n (.dkt kvs')) (upd H a (.ext (dX a xs')))/\Grow K ρ H ρ (upd H a (.ext (dX a xs'))):=
 S.writeG e1 (λ⟨_,z⟩=>by rw[hM]at z;cases z) hH rfl λg=>⟨hl,hs,nd,xs',aL,Paired.mapP r λ_ _ ⟨q1,q2,q3,v,q4,q5⟩=>⟨q1,q2,q3.grow g,v,q4.grow g,q5⟩⟩
end
theorem ik(I:Inv X pins σ H s):∀(n:Nat) (d:D) (v:V) (u:Value),Rep X.K ρ H d v->aU v u->kP n d=true->eZ s.heap n d u:=by
 intro n
 induction n with
 | zero =>
  intro d v u r rv k
  cases r with
  | str x=>exact rv
  | int x=>exact rv
  | _=>cases k
 | succ n ih =>
  intro d v u r rv k
  cases r with
  | str x=>exact rv
  | int x=>exact rv
  | @tup a vs ds hq rr =>
   cases rv
   obtain⟨its,r2,p,hz⟩:=I.tuple hq
   have hk:∀x∈ds,kP n x=true:=AAO.mp (show ds.all (kP n)=true from k)
   refine⟨a,its.toArray,rfl,p,?_⟩
   rw[List.toList_toArray]
   clear p hq k hz
   induction r2 generalizing ds with
   | nil=>cases rr;exact .nil
   | cons q1 q2 i2 =>
    cases rr with
    | cons h1 t1=>exact .cons (ih _ _ _ h1 q1 (hk _ AAG)) (i2 t1 λx hx=>hk x (AA8 _ hx))
  | _=>cases k
theorem kW{X:Cx}{pins:List (Addr×Obj)}{σ:St}{H:Hp}{s:Shared}{ρ:List Addr}{M:Mem}(I:Inv X pins σ H s)(sm:Sim X.K ρ M H){n:Nat}{a:Addr}{kvs:List (D×D)}(e:ρ[n]?=some a)(hM:M[n]?=some (.dkt kvs)) :
  ∃xs,H a=some (.ext (dX a xs))/\Paired (rC X.K ρ H) kvs xs/\s.heap.DictOfH (bR X.prog X.w) a xs/\(a==sysModules)=false/\kvs.length<=sizeLine/\xs.length=kvs.length/\(kvs.map (·.1)).Nodup:=by
 obtain⟨h1,h2,h3,xs,hH,r⟩:=sm.obj _ _ _ e hM
 obtain⟨⟨o,es,e1,e2,e3,e4⟩,_⟩:=(show bP X.prog X.w H s.heap a (.ext (dX a xs))from I.hok a _ hH)
 have ek:=sN r
 refine⟨xs,hH,r,⟨o,es,_,e1,e2,e3,e4,λx hx=>?_,by rw[ek];exact h3⟩,h2,h1,?_,h3⟩
 ·obtain⟨i,hi⟩:=ACJ hx
  obtain⟨p,_,q1,q2,q3,_⟩:=kj r hi
  rw[<-q1]
  exact ik I 8 _ _ _ q3 rfl q2
 ·have:=congrArg ACV ek
  rwa [AA4,AA4]at this
theorem sY(d:dX a xs P w h'):bP P w H' h' a (.ext (dX a xs)):=by
 obtain⟨o,es,e1,e2,e3,e4⟩:=d
 refine⟨⟨o,es,e1,e2,e3,e4⟩,⟨o,e1⟩,?_⟩
 rintro h1 h2 ⟨o,es,e1,e2,e3,e4⟩ k
 exact⟨o,es,k _ e1,e2,e3,e4⟩
theorem Do(I:Inv X pins σ H s)(hH:H a=some (.ext (dX a xs))):dX a xs X.prog X.w s.heap :=
 (show bP X.prog X.w H s.heap a (.ext (dX a xs))from I.hok a _ hH).1
theorem setE(hu:(bR prog w).room A.in1)(kat:(bR prog w).is s.heap k b)
  (hm:s.heap.DictOfH (bR prog w) d xs) (hx:dX d xs prog w s.heap) (hz:xs.length<=sizeLine)
  (hQ:∀h',dX d (storedH xs k b v) prog w h'->ABt d s.heap h'->Q () { s with heap:=h',toks:=s.toks+(bR prog w).draws k }):wpAny (model prog w) A (setItem (.ref d) (.ref b) v) Q E s:=by
 have hT:=hm.typeIs
 obtain⟨_,_,_,_,_,_,_,his,hn⟩:=hm
 obtain⟨o,es,ho,hc,hd,he'⟩:=hx
 have he:es.toList=xs.map (entryOfKey (bR prog w)):=he'
 unfold setItem
 try with_reducible refine AAr ?_
 refine AA0 (wpAny_sequenceKey hT (by decide) (AA0 (AAl (name:=AA1 "__setitem__") hT slot_dict_setitem (AAo slot_dict_setitem hT entry_dict_setitem ?_ (args_dict_setitem _ _ _)))))
 refine(show wpAny (model prog w) _ (Builtin.Dict.notOrdered "__setitem__" ⟨[.ref d,.ref b,v],[]⟩ >>= _) _ _ s from AA0 (ACj hT ?_))
 refine(show wpAny (model prog w) _ (dictSet d (.ref b) v >>= _) _ _ s from AA0 ?_)
 unfold dictSet
 try with_reducible refine AAr ?_
 refine AA0 ((bR prog w).pyHash hu kat ?_)
 unfold dictSetHashed
 try with_reducible refine AAr ?_
 have hl:es.size=xs.length:=size_of_entries he
 refine AA0 (wpAny_dictFind_heap (s:={ s with toks:=s.toks+(bR prog w).draws k }) hu kat ho hd he his hn (λhno=>?_) λj p hj=>?_)
 ·refine AA0 (ACc (wpAny_updateDictKeys (hz:=by lia) (s:={ s with toks:=s.toks+(bR prog w).draws k }) ho hd (AA7 ⟨.none,rfl,AA7 (hQ _ ⟨_,es.push ⟨(bR prog w).hash k,.ref b,v⟩,ABH _ ho (AD1 (ACs hd _)),hc.mapDictKeys _,?_,?_⟩ (AB0 ..))⟩)))
  ·rw[ACs hd,storedH_new (ADT hno),AA9];rfl
  ·rw[storedH_new (ADT hno)]
   rw[Array.toList_push,he,AAh]
   rfl
 ·refine AA0 (ACc (AA0 (wpAny_updateDict (s:={ s with toks:=s.toks+(bR prog w).draws k }) ho hd (wpAny_point (AA7 ⟨.none,rfl,AA7 (hQ _ ⟨_,es.modify j λe=>{ e with val:=v },ABH _ ho (AD1 (ADe hd _)),hc.mapDict _,?_,?_⟩ (AB0 ..))⟩)))))
  ·rw[ADe hd,storedH_old (atKey_of_get hn hj),AA4]
  ·rw[storedH_old (atKey_of_get hn hj)]
   have q:=modify_map_putAt (entryOfKey (bR prog w)) (λe:DictEntry=>{ e with val:=v }) k v (λ_ _=>rfl) hn hj
   rw[<-he]at q
   obtain⟨l⟩:=es
   have q2:(Array.modify ⟨l⟩ j λe:DictEntry=>{ e with val:=v }).toList=(xs.map (putAt k v)).map (entryOfKey (bR prog w)):=by simpa using q
   exact q2
section
variable{X:Cx}{o i value:Expr}{td ty tv:DTE}{pos pos':Pos}{k:Nat}
def nR:DTE:=λ_ M Q=>Q (.ref M.length) (M++[.dkt []])
theorem Kh:DE X (.Dict [] [] pos) nR:=by
 rintro pins s σ H R I ⟨S,M,ρ,Q,sm,sr,q,kk⟩
 have hf:H s.heap.objs.size=none:=I.hok.fresh (AAC _)
 have hb:(s.heap.objs.size==sysModules)=false:=beq_eq_false_iff_ne.mpr (AAt (AAQ I.big))
 refine wpAny_Dict_empty ⟨.ref s.heap.objs.size,_,I.laid (a:=s.heap.objs.size) (o:=.ext (dX s.heap.objs.size [])) (t':=s.toks) (λ_ _ q=>AA6 _ q) (AAC _) (sY ⟨_,#[],AAE _ rfl,⟨rfl,rfl,rfl⟩,rfl,rfl⟩),rfl,?_⟩
 exact kk _ _ ⟨.ref M.length,M++[.dkt []],ρ++[s.heap.objs.size],sm.laidM (mo:=.dkt []) hf ⟨AAV _,hb,AEB,[],aL,.nil⟩,Grow.laidR hf,.ref sm.last,(show Q (.ref M.length) (M++[.dkt []])from q)⟩
def zW(td ty:DTE):DTE:=λS M Q=>td S M λx M1=>ty S M1 λy M2=>match x,y with
 | .ref n,.tup ks=>∃kvs d,M2[n]?=some (.dkt kvs)/\kP 8 (.tup ks)=true/\cY kvs (.tup ks)=some d/\Q d M2
 | _,_=>False
theorem Ki(hr:Room k X.A)(ho:DE X o td)(hi:DE X i ty)(hs:NoSl i):DE X (.Subscript o i pos) (zW td ty):=by
 rintro pins s σ H R I ⟨S,M,ρ,Q,sm,sr,q,kk⟩
 have un:=hr.un
 refine DJ PySem.F.slot_dict_getitem.lookup hs (thn (ho pins s σ H _ I ⟨S,M,ρ,_,sm,sr,q,λv H' z=>z⟩) ?_)
 rintro u s1 ⟨v,H1,I1,rv,x,M1,ρ1,sm1,g1,r1,q1⟩
 refine thn (hi pins s1 σ H1 _ I1 ⟨S,M1,ρ1,_,sm1,sr.grow g1,q1,λv H' z=>z⟩) ?_
 rintro iv s2 ⟨w,H2,I2,rw',y,M2,ρ2,sm2,g2,r2,q2⟩
 cases x with
 | ref n =>
  cases y with
  | tup ks =>
   obtain⟨kvs,d,hM,kd,hg,q3⟩:=q2
   obtain⟨a,rfl,hn⟩:=Rep.inv_ref r1
   obtain rfl:u=AB3 a:=rv
   obtain⟨xs,hH,r,dd,hsm,hl,hx,_⟩:=kW I2 sm2 (aK g2.pre hn) hM
   have kat:=ik I2 8 _ _ _ r2 rw' kd
   rcases zc r (.tup ks)with⟨z,_⟩|⟨d',p,v',e1,e2,e3,e4⟩
   ·rw[hg]at z;cases z
   ·rw[hg]at e1
    cases e1
    obtain⟨b,_,rfl,_⟩:=id kat
    refine⟨dd.typeIs,wpAny_getItem_heap (knd:=bR X.prog X.w) (k:=.tup ks) (by show X.A.units+1+8<cLine;lia) kat dd e2 ⟨v',H2,I2.tok _,e4,kk _ _ ⟨d,M2,ρ2,sm2,g1.trans g2,e3,q3⟩⟩⟩
  | _=>exact q2.elim
 | _=>exact q2.elim
def nQ(td ty tv:DTE):DTS:=λE S M=>tv S M λv M1=>td S M1 λx M2=>ty S M2 λy M3=>match x,y with
 | .ref n,.tup ks=>∃kvs,M3[n]?=some (.dkt kvs)/\kP 8 (.tup ks)=true/\kvs.length<sizeLine/\E.nx S (M3.set n (.dkt (fy kvs (.tup ks) v)))
 | _,_=>False
theorem rV(h:(kvs.map (·.1)).Nodup):((fy kvs y v).map (·.1)).Nodup:=by
 unfold fy
 split
 ·rw[AAd]
  have:((λx:D×D=>x.1) ∘ λp:D×D=>if p.1=y then(p.1,v)else p)=λx=>x.1:=by
   funext p
   show (if p.1=y then(p.1,v)else p).1=p.1
   split<;>rfl
  rw[this];exact h
 ·rename_i q
  rw[AAh,List.map_singleton,List.nodup_append]
  refine⟨h,by simp,λa ha b hb=>?_⟩
  rw[AAP.mp hb]
  rintro rfl
  obtain⟨p,hp,e⟩:=AAI.mp ha
  refine q ?_
  unfold cY
  rw[ACN,List.find?_isSome]
  exact⟨p,hp,by simpa using e⟩
theorem Gf(hr:Room k X.A)(ho:DE X o td)(hi:DE X i ty)(hv:DE X value tv)(hs:swapsWith value (some (.Subscript o i pos')) pos.line X.env=pure false):DS X (.Assign [.Subscript o i pos'] value pos) (nQ td ty tv):=by
 rintro pins s σ H E I ⟨S,M,ρ,F,sm,sr,q,kk⟩
 have un:=hr.un
 refine wpAny_Assign_Subscript (thn (hv pins s σ H _ I ⟨S,M,ρ,_,sm,sr,q,λv H' z=>z⟩) λr s1 ⟨v,H1,I1,rv,dv,M1,ρ1,sm1,g1,r1,q1⟩=>thn (ho pins s1 σ H1 _ I1 ⟨S,M1,ρ1,_,sm1,sr.grow g1,q1,λv H' z=>z⟩) λu s2 ⟨vx,H2,I2,rx,x,M2,ρ2,sm2,g2,r2,q2⟩=>thn (hi pins s2 σ H2 _ I2 ⟨S,M2,ρ2,_,sm2,(sr.grow g1).grow g2,q2,λv H' z=>z⟩) ?_) hs
 rintro iv s3 ⟨vy,H3,I3,ry,y,M3,ρ3,sm3,g3,r3,q3⟩
 cases x with
 | ref n =>
  cases y with
  | tup ks =>
   obtain⟨kvs,hM,kd,hl,q4⟩:=q3
   obtain⟨a,rfl,hn⟩:=Rep.inv_ref r2
   obtain rfl:u=AB3 a:=rx
   have hn3:=aK g3.pre hn
   obtain⟨xs,hH,r,dd,hsm,_,hx,nd⟩:=kW I3 sm3 hn3 hM
   have kat:=ik I3 8 _ _ _ r3 ry kd
   obtain⟨b,_,rfl,_⟩:=id kat
   obtain⟨_,_,rfl,hq,rr⟩:=Rep.inv_tup r3
   cases ry
   have r':=Df r kd (.tup hq rr) ((r1.grow g2).grow g3) rv
   have pl:=dG (kvs:=kvs) (k:=.tup ks) (d:=dv)
   obtain⟨w1,w2⟩:=sm3.writeT hn3 hM hH (by have:=pl;lia) hsm (rV nd) r'
   refine setE (k:=.tup ks) (by show X.A.units+1+8<cLine;lia) kat dd (Do I3 hH) (by lia) λh' dd' hsb=>?_
   have he:∃q,h'.get? a=some q:=let ⟨q,_,hq,_⟩:=dd';⟨q,hq⟩
   exact⟨σ,_,nO I3 (by rw[hH];exact ACL) hsb he (sY dd'),kk.nx σ _ (SQ.trans ((g1.trans g2).trans g3) ⟨S,_,ρ3,w1,w2,(((sr.grow g1).grow g2).grow g3).grow w2,q4⟩)⟩
  | _=>exact q3.elim
 | _=>exact q3.elim
def dMt(r:Nat->DRA)(to:DTE)(t:DTA):DTE:=λS M Q=>to S M λx M1=>match x with
 | .ref n=>(∃kvs,M1[n]?=some (.dkt kvs))/\t S M1 λds M2=>r n ds M2 Q
 | _=>False
variable{name:Str}{id:String}{e:Expr}{es:List Expr}{to:DTE}{t:DTA}{apos cpos:Pos}
theorem d_mt{r:Nat->DRA}(slot:Slot "dict" name id)(hty:typeOf (.builtin id)=pure (.type "method_descriptor"))(hm:MtR X id (nu X.K r))(ho:DE X o to)(ha:DA X (e::es) t)
  (hbase:attributeBase o name X.env (eval o X.env)=eval o X.env:=by rfl)
  (hfew:((backTo cpos (starEach (e::es) X.env)).all (λx=>!x.1)&&(backToKw cpos (keywordEach [] X.env)).all (λx=>x.1.isSome)
   && decide ((e::es).length+([]:List Keyword).length+(if ([]:List Keyword).isEmpty then 0 else 1)<30))=true:=by rfl)
  (hline:(apos.endLine==cpos.line)=true:=by rfl) (hs:starEach (e::es) X.env=(false,eval e X.env)::starEach es X.env:=by rfl) (hplain:(backTo cpos (starEach es X.env)).any (·.1)=false:=by rfl) :
  DE X (.Call (.Attribute o name apos) (e::es) [] cpos) (dMt r to t):=by
 rintro pins s σ H R I ⟨S,M,ρ,Q,sm,sr,q,kk⟩
 refine wpAny_Call_method_late hbase hfew hline rfl (thn (ho pins s σ H _ I ⟨S,M,ρ,_,sm,sr,q,λv H' z=>z⟩) ?_)
 rintro u s1 ⟨v,H1,I1,rv,x,M1,ρ1,sm1,g1,r1,q1⟩
 cases r1 with
 | @ref n a hn =>
  cases rv
  obtain⟨⟨kvs,hM⟩,q1⟩:=(show (∃kvs,M1[n]?=some (.dkt kvs))/\t S M1 _ from q1)
  obtain⟨xs,hH,r,dd,hsm,hl,hx,nd⟩:=kW I1 sm1 hn hM
  refine⟨"dict",id,ADG,slot,hty,dd.typeIs,λb z=>?_,?_⟩
  ·cases z
   obtain⟨ob,_,_,h1,h2,_⟩:=dd
   exact⟨ob,h1,h2.2.1⟩
  ·have hA:=ha cpos pins s1 σ H1 _ I1 ⟨S,M1,ρ1,_,sm1,sr.grow g1,q1,λvs H' z=>z⟩
   rw[hs]at hA ⊢
   refine AC3 (by show (false||(backTo cpos (starEach es X.env)).any (·.1))=false;rw[hplain]<;>rfl) (Calls.evalArgs_plain ?_)
   refine thn hA ?_
   rintro us s2 ⟨vs,H2,I2,rvs,ds,M2,ρ2,sm2,g2,rr,q2⟩
   exact hm pins s2 σ H2 (.ref a) vs (.ref a) us R I2 rfl rvs ⟨n,a,ds,M2,ρ2,Q,rfl,aK g2.pre hn,sm2,rr,q2,λv H' w=>kk v H' (VQ.trans (g1.trans g2) w)⟩
 | _=>exact q1.elim
def gD(n:Nat):DRA:=λds M Q=>match ds with
 | [.tup ks,d]=>∃kvs,M[n]?=some (.dkt kvs)/\kP 8 (.tup ks)=true/\Q ((cY kvs (.tup ks)).getD d) M
 | _=>False
theorem Bn(hr:Room k X.A):MtR X "dict.get" (nu X.K gD):=by
 rintro pins s σ H x xs v us R I rx rs ⟨n,a,ds,M,ρ,Q,ez,hn,sm,rr,q,kk⟩
 have un:=hr.un
 unfold gD at q
 split at q
 ·rename_i ks d
  obtain⟨kvs,hM,kd,q⟩:=q
  first | have hzz:=Reps.inv_cons rr | have hzz:=az.inv_cons rr
  clear rr
  obtain⟨_,_,rfl,r1,rr⟩:=hzz
  first | have hzz:=Reps.inv_cons rr | have hzz:=az.inv_cons rr
  clear rr
  obtain⟨_,_,rfl,r2,rr⟩:=hzz
  cases rr
  obtain⟨u1,u2,rfl,e1,e2⟩:=az.two rs
  subst ez
  cases rx
  obtain⟨ys,hH,r,dd,hsm,hl,hx,nd⟩:=kW I sm hn hM
  have kat:=ik I 8 _ _ _ r1 e1 kd
  obtain⟨b,_,rfl,_⟩:=id kat
  refine call_meetsIn PySem.F.slot_dict_get dd.typeIs PySem.F.entry_dict_get (PySem.F.args_dict_get_3 _ _ _) (meetsH_dict_get_default (bR X.prog X.w) a b hsm u2) ⟨by show X.A.units+1+8<cLine;lia,.tup ks,ys,kat,dd,?_⟩
  rcases zc r (.tup ks)with⟨z1,z2⟩|⟨d',p,v',z1,z2,z3,z4⟩
  ·rw[z2]
   rw[z1]at q
   exact⟨_,H,I.tok _,e2,kk _ _ ⟨d,M,ρ,sm,.refl,r2,q⟩⟩
  ·rw[z2]
   rw[z1]at q
   exact⟨_,H,I.tok _,z4,kk _ _ ⟨d',M,ρ,sm,.refl,z3,q⟩⟩
 ·exact q.elim
end
def dc(h:Heap)(d:Addr)(es:Array DictEntry)(ep:Nat):Prop:=∃o,h.get? d=some o/\o.ExactDict/\o.data=.dict es ep
theorem dc.ty{s:Shared}{d:Addr}{es:Array DictEntry}{ep:Nat}(x:dc s.heap d es ep):s.TypeIs (.ref d) "dict":=by
 obtain⟨o,h1,h2,_⟩:=x
 exact⟨o,h1,h2.1⟩
theorem dc.lt(x:dc h d es ep):d<h.objs.size:=by
 obtain⟨o,h1,_⟩:=x
 exact AAM h1
theorem dc.to(x:dc h d es ep)(k:∀o,h.get? d=some o->h'.get? d=some o):dc h' d es ep:=by
 obtain⟨o,h1,h2⟩:=x
 exact⟨o,k o h1,h2⟩
theorem Cg{Q:Value->Shared->Prop}(hd:(d==sysModules)=false)(hm:dc s.heap d es ep)
  (hQ:Q (.ref s.heap.objs.size) { s with heap:=s.heap.push { cls:=.type "dict_keyiterator",data:=.fields #[.ref d,.int 0 0,.int es.size 0,.int ep 0] } }) :
  wpAny (model prog w) A (pyIter (.ref d)) Q E s:=by
 have hT:=hm.ty
 obtain⟨o,h1,h2,h3⟩:=hm
 refine wpAny_pyIter_slot hT F.slot_dict_iter (AAo F.slot_dict_iter hT F.entry_dict_iter ?_ (F.args_dict_iter_1 _))
 unfold Builtin.«dict.__iter__»
 refine AA0 ?_
 unfold Builtin.Dict.dictSlotNone
 refine AA0 (ACj hT (AA7 ?_))
 refine(show wpAny (model prog w) _ (ACk d >>= _) _ _ s from ?_)
 unfold ACk
 rw[hd]
 refine AA0 (AA7 (AA0 (ACR h1 h3 (AA0 (ACl h1 h3 ?_)))))
 exact AA0 (AAj (AA7 ⟨_,rfl,"dict_keyiterator",_,⟨_,AAE _ rfl,rfl⟩,F.slot_dict_keyiterator_next.lookup,by simpa [rawInt]using hQ⟩))
theorem Cf(hit:s.heap.IsKeyIter it d i es.size ep)(hm:dc s.heap d es ep)(hi:i<es.size)
  (hQ:∀h',h'.IsKeyIter it d (i+1) es.size ep->ABt it s.heap h'->Q (some es[i].key) { s with heap:=h' }):wpAny (model prog w) A (pyNext (.ref it)) Q E s:=by
 obtain⟨o,ho,hc,hd⟩:=id hit
 obtain⟨od,k1,k2,k3⟩:=id hm
 unfold pyNext
 refine AA0 (ACp (AAl (name:=AA1 "__next__") hit.typeIs F.slot_dict_keyiterator_next (AAo F.slot_dict_keyiterator_next hit.typeIs F.entry_dict_keyiterator_next ?_ (F.args_dict_keyiterator_next_1 _))))
 refine AA0 (AA7 (AA0 (AA0 ?_)))
 first | refine AA0 (ABq hit.typeIs (AA7 (AA0 (ACH ho hd ?_)))) | refine AA0 (ACS hit.typeIs (AA7 (AA0 (ACH ho hd ?_))))
 rw[show ABX "dict_keyiterator" = false by decide]
 refine(show wpAny (model prog w) _ (if (AB3 d==ABO)=true then _ else _) _ _ s from ?_)
 rw[if_neg (by exact AAc)]
 refine AA0 (AA7 (AA0 (ACR k1 k3 ?_)))
 rw[if_neg (by simp)]
 refine AA0 (AA7 (AA0 (ACl k1 k3 ?_)))
 rw[if_neg (by simp)]
 refine AA7 ?_
 dsimp only
 rw[if_neg (show ¬((i:Int)<0)from by lia),ABw,AAm hi]
 dsimp only
 refine AA0 ?_
 first | refine AA0 (ABq hit.typeIs (AA7 ?_)) | refine AA0 (ACS hit.typeIs (AA7 ?_))
 refine AA0 (wpAny_isOneOf_keyiter hit.typeIs ?_)
 refine(show wpAny (model prog w) _ (setField (.ref it) 1 (rawInt ((i:Int)+1)) >>= _) _ _ s from AA0 (ACy ho hd (by simp) ?_))
 have hit':(s.heap.update it (ADh (·.setIfInBounds 1 (rawInt ((i:Int)+1))))).IsKeyIter it d (i+1) es.size ep:=by
  refine⟨_,ABH _ ho (ADZ (ACD hd _)),(Obj.cls_mapFields ..).trans hc,?_⟩
  rw[ACD hd];simp[rawInt]
 refine AA0 (AAr (AA0 (wpAny_isOneOf_keyiter (s:={ s with heap:=s.heap.update it (ADh (·.setIfInBounds 1 (rawInt ((i:Int)+1)))) }) hit'.typeIs ?_)))
 refine(show wpAny (model prog w) _ (pure es[i].key) _ _ _ from ?_)
 exact AA7 (AA7 ⟨_,rfl,AA7 (hQ _ hit' (AB0 ..))⟩)
theorem Gb(hh:A.handled=none)(hit:s.heap.IsKeyIter it d es.size es.size ep)(hm:dc s.heap d es ep)
  (hQ:∀h',Heap.ExtBut it s.heap h'->Q none { s with heap:=h' }):wpAny (model prog w) A (pyNext (.ref it)) Q E s:=by
 obtain⟨o,ho,hc,hd⟩:=id hit
 obtain⟨od,k1,k2,k3⟩:=id hm
 unfold pyNext
 refine AA0 (ACp (AAl (name:=AA1 "__next__") hit.typeIs F.slot_dict_keyiterator_next (AAo F.slot_dict_keyiterator_next hit.typeIs F.entry_dict_keyiterator_next ?_ (F.args_dict_keyiterator_next_1 _))))
 refine AA0 (AA7 (AA0 (AA0 ?_)))
 first | refine AA0 (ABq hit.typeIs (AA7 (AA0 (ACH ho hd ?_)))) | refine AA0 (ACS hit.typeIs (AA7 (AA0 (ACH ho hd ?_))))
 rw[show ABX "dict_keyiterator" = false by decide]
 refine(show wpAny (model prog w) _ (if (AB3 d==ABO)=true then _ else _) _ _ s from ?_)
 rw[if_neg (by exact AAc)]
 refine AA0 (AA7 (AA0 (ACR k1 k3 ?_)))
 rw[if_neg (by simp)]
 refine AA0 (AA7 (AA0 (ACl k1 k3 ?_)))
 rw[if_neg (by simp)]
 refine AA7 ?_
 dsimp only
 rw[if_neg (show ¬((es.size:Int)<0)from by lia),ABw,AC4 (AAC es.size)]
 dsimp only
 refine AA0 ?_
 first | refine AA0 (ABq hit.typeIs (AA7 ?_)) | refine AA0 (ACS hit.typeIs (AA7 ?_))
 refine(show wpAny (model prog w) _ (setField (.ref it) 0 .none >>= _) _ _ s from AA0 (ACy ho hd (by simp) ?_))
 refine(show wpAny (model prog w) _ (newExc (.type "StopIteration") [] >>= _) _ _ _ from AA0 ?_)
 simp only[newExc,newTuple]
 refine AA0 (AAj ?_ (by size_fits))
 refine AA0 (m:=firstArgMember _ _) (wpAny_of_eq (a:=ABO) (by first | rfl | (simp only[firstArgMember];rfl)) ?_)
 refine AAj ?_ (by size_fits)
 simp only[raiseNew]
 refine AA0 (wpAny_handled ?_)
 rw[show A.in1.handled=none from hh]
 refine AA0 (AA7 (wpAny_throw ?_))
 refine AA0 (ADd (b:=true) (T:="StopIteration") ⟨_,AAE _ rfl,rfl⟩ isSubtype_stop ?_)
 exact AA7 (hQ _ (((AB0 ..).extBut.push _).push _))
theorem zO(hh:A.handled=none)(I:Addr)(hne:d≠I):Walks prog w A I [I,d] [I] es.size (λi v=>∃e,es[i]?=some e/\v=e.key) (λi h=>h.IsKeyIter I d i es.size ep/\dc h d es ep) where
 sub:=λb hb=>by simp at hb;simp[hb]
 frame:=λ_ _ _ st hk=>⟨st.1.at λo e=>hk I (by simp) o e,st.2.to λo e=>hk d (by simp) o e⟩
 item:=λi s Q E hi st hQ=>Cf st.1 st.2 hi λh' hit' hs'=>hQ _ h' s.toks ⟨es[i],by simp[hi],rfl⟩ ⟨hit',st.2.to λo e=>hs'.extBut d o hne e⟩ λb o hb e=>hs'.extBut b o (λh=>hb (by simp[h])) e
 done:=λs Q E st hQ=>Gb hh st.1 st.2 λh' he'=>hQ h' s.toks λb o hb e=>he' b o (λh=>hb (by simp[h])) e
 self:=λ_ _ _ _ st hQ=>wpAny_pyIter_keyiter st.1 hQ
theorem Ga(lo:(d==sysModules)=false):KdlSrc prog w "dict" d d es.size (λi v=>∃e,es[i]?=some e/\v=e.key) (λh=>dc h d es ep) where
 type:=λ_ hm=>hm.ty
 there:=λ_ hm=>⟨hm.lt,hm.lt⟩
 keep:=λ_ _ hm hk=>hm.to λo e=>hk d (.inl rfl) o e
 notList:=by decide
 notTuple:=by decide
 hint:=λ_ _ _ _ hm hq=>kdl_hint_dict hm.ty hq
 iter:=λ_ _ hh hm=>⟨_,_,(λ_ _ hq=>Cg lo hm hq),zO hh _ (AAQ hm.lt),⟨⟨_,AAE _ rfl,rfl,rfl⟩,hm.to λo e=>AA6 _ e⟩⟩
theorem zR(I:Inv X pins σ H s)(hH:H a=some (.ext (dX a xs))):∃es,dc s.heap a es xs.length/\es.size=xs.length/\∀(i:Nat) x,xs[i]?=some x->∃e,es[i]?=some e/\e.key=.ref x.2.1/\e.val=x.2.2:=by
 obtain⟨o,es,h1,h2,h3,h4⟩:=Do I hH
 refine⟨es,⟨o,h1,h2,h3⟩,?_,λi x hx=>?_⟩
 ·have:=congrArg ACV h4
  rwa [ABy,AA4]at this
 ·refine⟨⟨hkD X.w 8 x.1,.ref x.2.1,x.2.2⟩,?_,rfl,rfl⟩
  rw[<-ABk,h4,AAU,hx]
  rfl
theorem vJ{K:AA2}{ρ:List Addr}{H:Hp}{kvs:List (D×D)}{xs:List (D×Addr×Value)}(r:Paired (rC K ρ H) kvs xs):Reps K ρ H (kvs.map (·.1)) (xs.map λx=>V.ref x.2.1):=by
 induction r with
 | nil=>exact .nil
 | cons h t ih=>exact .cons h.2.2.1 ih
theorem oK:∀(xs:List (D×Addr×Value)) (vs:List Value),vs.length=xs.length->(∀(j:Nat) (v:Value) x,vs[j]?=some v->xs[j]?=some x->v=.ref x.2.1)->az (xs.map λx=>V.ref x.2.1) vs
 | [],[],_,_=>.nil
 | [],_::_,e,_=>by simp at e
 | _::_,[],e,_=>by simp at e
 | x::xs,v::vs,e,h=>.cons (h 0 v x rfl rfl) (oK xs vs (by simpa using e) λj u y h1 h2=>h (j+1) u y (by simpa using h1) (by simpa using h2))
def gF:DRA:=λds M Q=>match ds with
 | [.ref n]=>∃kvs,M[n]?=some (.dkt kvs)/\SrtOk M (kvs.map (·.1))/\∀ys,ys.Perm (kvs.map (·.1))->Ar M ys->Q (.ref M.length) (M++[.lst ys])
 | _=>False
theorem wC{k:Nat}(hr:Room k X.A)(hc:X.calm=true):hZ X (.builtin "sorted") gF:=by
 rintro pins s σ H vs us R I rv ⟨ds,M,ρ,Q,sm,rs,q,kk⟩
 unfold gF at q
 split at q
 ·obtain⟨kvs,hM,so,q⟩:=q
  first | have hzz:=Reps.inv_cons rs | have hzz:=az.inv_cons rs
  clear rs
  obtain⟨_,_,rfl,r1,rs⟩:=hzz
  cases rs
  obtain⟨u,rfl,e1⟩:=az.one rv
  obtain⟨a,rfl,e⟩:=Rep.inv_ref r1
  cases e1
  obtain⟨xs,hH,r,dd,z2,hz,hx,nd⟩:=kW I sm e hM
  obtain⟨es,em,el,eg⟩:=zR I hH
  obtain⟨m,hn,hm⟩:=I.loc
  have hne:a≠X.env.locals:=ad hH I.free
  obtain⟨oa,hoa,_⟩:=id em
  have mem:∀b o,(b,o)∈[]++(a,oa)::Att.ledger s.heap X.env.locals a↔b≠X.env.locals/\s.heap.get? b=some o:=λb o=>by
   rw[AAY,AAF,Att.mem_ledger]
   constructor
   ·rintro(h | ⟨h1,_,h3⟩)
    ·cases h;exact⟨hne,hoa⟩
    ·exact⟨h1,h3⟩
   ·rintro⟨h1,h2⟩
    by_cases hal:b=a
    ·subst hal
     rw[hoa]at h2;cases h2
     exact .inl rfl
    ·exact .inr ⟨h1,hal,h2⟩
  have sl:=so.len
  rw[AA4]at sl
  refine kdu_sorted (Ga (es:=es) (ep:=xs.length) z2) (I.ok.hd hc) (Att.fr_all hn) (Att.news_ledger hne hoa) em (by rw[ABa];lia) λD h' tk vs F' N' lt hl hP=>?_
  have kp:∀b u,b≠X.env.locals->s.heap.get? b=some u->h'.get? b=some u:=λb u hb e=>(N' (b,u) (AA8 _ ((mem b u).mpr ⟨hb,e⟩))).1
  have hDL:D≠X.env.locals:=(N' _ AAG).2.1
  have hD:s.heap.get? D=none:=by
   cases q:s.heap.get? D with
   | none=>rfl
   | some o=>exact absurd (lt (D,o) ((mem D o).mpr ⟨hDL,q⟩)) (AAk _)
  have rvs:az (xs.map λx=>V.ref x.2.1) vs:=by
   refine oK xs vs (by lia) λj v x hj hx'=>?_
   obtain⟨e0,g1,rfl⟩:=hP j v hj
   obtain⟨e2,g2,g3,_⟩:=eg j x hx'
   rw[g1]at g2
   obtain rfl:=AAW g2
   exact g3
  have rps:=vJ r
  exact xQ (n:=0) hr (by show X.A.units+1<=X.A.units+4;lia) I sm so.g rps rvs hn F'.ns kp hD hDL (N' _ AAG).1 λv H' x=>kk v H' (x Q q)
 ·exact q.elim
theorem mE(hd:(d==sysModules)=false)(hm:dc s.heap d es ep)(hQ:Q (.ref s.heap.objs.size) { s with heap:=s.heap.push { cls:=.type "dict_values",data:=.fields #[.ref d] } }) :
  wpAny (model prog w) A (call (.builtin "dict.values") [.ref d]) Q E s:=by
 refine call_meetsIn AD6 hm.ty PySem.F.entry_dict_values (PySem.F.args_dict_values_1 _) (S:=λ_ R s'=>s'=s/\R (.ok (.ret (.ref s.heap.objs.size))) { s with heap:=s.heap.push { cls:=.type "dict_values",data:=.fields #[.ref d] } }) (.of_wp ?_) ⟨rfl,hQ⟩
 rintro A R s' ⟨rfl,h⟩
 refine AA0 ?_
 unfold Builtin.Dict.noArgs
 refine AA0 (ACj hm.ty (AA7 ?_))
 refine(show wpAny (model prog w) _ (ACk d >>= _) _ _ s' from ?_)
 unfold ACk
 rw[hd]
 exact AA0 (AA7 (AA0 (AAj (AA7 ⟨_,rfl,h⟩))))
theorem zQ(hv:s.heap.IsValuesView v d)(hm:dc s.heap d es ep)
  (hQ:Q (.ref s.heap.objs.size) { s with heap:=s.heap.push { cls:=.type "dict_valueiterator",data:=.fields #[.ref d,.int 0 0,.int es.size 0,.int ep 0] } }):wpAny (model prog w) A (pyIter (.ref v)) Q E s:=by
 obtain⟨ov,v1,v2,v3⟩:=id hv
 obtain⟨o,h1,h2,h3⟩:=hm
 refine wpAny_pyIter_slot hv.typeIs F.slot_dict_values_iter (AAo F.slot_dict_values_iter hv.typeIs F.entry_dict_values_iter ?_ (F.args_dict_values_iter_1 _))
 unfold Builtin.«dict_values.__iter__»
 refine AA0 (AA7 (AA0 ?_))
 unfold Builtin.Dict_items.dictOf
 refine AA0 (ABS v1 v3 (x:=.ref d) rfl (AA7 (AA0 ?_)))
 unfold Builtin.Dict_items.newIterator
 refine AA0 (ACR h1 h3 (AA0 (ACl h1 h3 ?_)))
 simp only[show ABX "dict_valueiterator" = false by decide,AAZ,if_false]
 exact AAj (AA7 ⟨_,rfl,"dict_valueiterator",_,⟨_,AAE _ rfl,rfl⟩,F.slot_dict_valueiterator_next.lookup,by simpa [rawInt]using hQ⟩)
theorem zP(hit:s.heap.IsValIter it d i es.size ep)(hm:dc s.heap d es ep)(hi:i<es.size)
  (hQ:∀h',h'.IsValIter it d (i+1) es.size ep->ABt it s.heap h'->Q (some es[i].val) { s with heap:=h' }):wpAny (model prog w) A (pyNext (.ref it)) Q E s:=by
 obtain⟨o,ho,hc,hd⟩:=id hit
 obtain⟨od,k1,k2,k3⟩:=id hm
 unfold pyNext
 refine AA0 (ACp (AAl (name:=AA1 "__next__") hit.typeIs F.slot_dict_valueiterator_next (AAo F.slot_dict_valueiterator_next hit.typeIs F.entry_dict_valueiterator_next ?_ (F.args_dict_valueiterator_next_1 _))))
 refine AA0 (AA7 (AA0 (AA0 ?_)))
 first | refine AA0 (ABr hit.typeIs (AA7 (AA0 (ACH ho hd ?_)))) | refine AA0 (ACT hit.typeIs (AA7 (AA0 (ACH ho hd ?_))))
 rw[show ABX "dict_valueiterator" = false by decide]
 refine(show wpAny (model prog w) _ (if (AB3 d==ABO)=true then _ else _) _ _ s from ?_)
 rw[if_neg (by exact AAc)]
 refine AA0 (AA7 (AA0 (ACR k1 k3 ?_)))
 rw[if_neg (by simp)]
 refine AA0 (AA7 (AA0 (ACl k1 k3 ?_)))
 rw[if_neg (by simp)]
 refine AA7 ?_
 dsimp only
 rw[if_neg (show ¬((i:Int)<0)from by lia),ABw,AAm hi]
 dsimp only
 refine AA0 ?_
 first | refine AA0 (ABr hit.typeIs (AA7 ?_)) | refine AA0 (ACT hit.typeIs (AA7 ?_))
 refine AA0 (ADa hit.typeIs ?_)
 refine(show wpAny (model prog w) _ (setField (.ref it) 1 (rawInt ((i:Int)+1)) >>= _) _ _ s from AA0 (ACy ho hd (by simp) ?_))
 have hit':(s.heap.update it (ADh (·.setIfInBounds 1 (rawInt ((i:Int)+1))))).IsValIter it d (i+1) es.size ep:=by
  refine⟨_,ABH _ ho (ADZ (ACD hd _)),(Obj.cls_mapFields ..).trans hc,?_⟩
  rw[ACD hd];simp[rawInt]
 refine AA0 (AAr (AA0 (ADa (s:={ s with heap:=s.heap.update it (ADh (·.setIfInBounds 1 (rawInt ((i:Int)+1)))) }) hit'.typeIs (AA0 (ADa (s:={ s with heap:=s.heap.update it (ADh (·.setIfInBounds 1 (rawInt ((i:Int)+1)))) }) hit'.typeIs ?_)))))
 refine(show wpAny (model prog w) _ (pure es[i].val) _ _ _ from ?_)
 exact AA7 (AA7 ⟨_,rfl,AA7 (hQ _ hit' (AB0 ..))⟩)
theorem Ce(hh:A.handled=none)(hit:s.heap.IsValIter it d es.size es.size ep)(hm:dc s.heap d es ep)
  (hQ:∀h',Heap.ExtBut it s.heap h'->Q none { s with heap:=h' }):wpAny (model prog w) A (pyNext (.ref it)) Q E s:=by
 obtain⟨o,ho,hc,hd⟩:=id hit
 obtain⟨od,k1,k2,k3⟩:=id hm
 unfold pyNext
 refine AA0 (ACp (AAl (name:=AA1 "__next__") hit.typeIs F.slot_dict_valueiterator_next (AAo F.slot_dict_valueiterator_next hit.typeIs F.entry_dict_valueiterator_next ?_ (F.args_dict_valueiterator_next_1 _))))
 refine AA0 (AA7 (AA0 (AA0 ?_)))
 first | refine AA0 (ABr hit.typeIs (AA7 (AA0 (ACH ho hd ?_)))) | refine AA0 (ACT hit.typeIs (AA7 (AA0 (ACH ho hd ?_))))
 rw[show ABX "dict_valueiterator" = false by decide]
 refine(show wpAny (model prog w) _ (if (AB3 d==ABO)=true then _ else _) _ _ s from ?_)
 rw[if_neg (by exact AAc)]
 refine AA0 (AA7 (AA0 (ACR k1 k3 ?_)))
 rw[if_neg (by simp)]
 refine AA0 (AA7 (AA0 (ACl k1 k3 ?_)))
 rw[if_neg (by simp)]
 refine AA7 ?_
 dsimp only
 rw[if_neg (show ¬((es.size:Int)<0)from by lia),ABw,AC4 (AAC es.size)]
 dsimp only
 refine AA0 ?_
 first | refine AA0 (ABr hit.typeIs (AA7 ?_)) | refine AA0 (ACT hit.typeIs (AA7 ?_))
 refine(show wpAny (model prog w) _ (setField (.ref it) 0 .none >>= _) _ _ s from AA0 (ACy ho hd (by simp) ?_))
 refine(show wpAny (model prog w) _ (newExc (.type "StopIteration") [] >>= _) _ _ _ from AA0 ?_)
 simp only[newExc,newTuple]
 refine AA0 (AAj ?_ (by size_fits))
 refine AA0 (m:=firstArgMember _ _) (wpAny_of_eq (a:=ABO) (by first | rfl | (simp only[firstArgMember];rfl)) ?_)
 refine AAj ?_ (by size_fits)
 simp only[raiseNew]
 refine AA0 (wpAny_handled ?_)
 rw[show A.in1.handled=none from hh]
 refine AA0 (AA7 (wpAny_throw ?_))
 refine AA0 (ADd (b:=true) (T:="StopIteration") ⟨_,AAE _ rfl,rfl⟩ isSubtype_stop ?_)
 exact AA7 (hQ _ (((AB0 ..).extBut.push _).push _))
theorem ww(hh:A.handled=none)(I:Addr)(hne:d≠I):Walks prog w A I [I,d] [I] es.size (λi v=>∃e,es[i]?=some e/\v=e.val) (λi h=>h.IsValIter I d i es.size ep/\dc h d es ep) where
 sub:=λb hb=>by simp at hb;simp[hb]
 frame:=λ_ _ _ st hk=>⟨st.1.at λo e=>hk I (by simp) o e,st.2.to λo e=>hk d (by simp) o e⟩
 item:=λi s Q E hi st hQ=>zP st.1 st.2 hi λh' hit' hs'=>hQ _ h' s.toks ⟨es[i],by simp[hi],rfl⟩ ⟨hit',st.2.to λo e=>hs'.extBut d o hne e⟩ λb o hb e=>hs'.extBut b o (λh=>hb (by simp[h])) e
 done:=λs Q E st hQ=>Ce hh st.1 st.2 λh' he'=>hQ h' s.toks λb o hb e=>he' b o (λh=>hb (by simp[h])) e
 self:=λ_ _ _ _ st hQ=>wpAny_pyIter_valiter st.1 hQ
theorem uP:KdlSrc prog w "dict_values" r d es.size (λi v=>∃e,es[i]?=some e/\v=e.val) (λh=>h.IsValuesView r d/\dc h d es ep) where
 type:=λ_ hm=>hm.1.typeIs
 there:=λ_ hm=>⟨let ⟨_,ho,_⟩:=hm.1;AAM ho,hm.2.lt⟩
 keep:=λ_ _ hm hk=>⟨let ⟨o,ho,x⟩:=hm.1;⟨o,hk r (.inl rfl) o ho,x⟩,hm.2.to λo e=>hk d (.inr rfl) o e⟩
 notList:=by decide
 notTuple:=by decide
 hint:=λ_ _ _ _ hm hq=>kdl_hint_values hm.1.typeIs hq
 iter:=λ_ _ hh hm=>⟨_,_,(λ_ _ hq=>zQ hm.1 hm.2 hq),ww hh _ (AAQ hm.2.lt),⟨⟨_,AAE _ rfl,rfl,rfl⟩,hm.2.to λo e=>AA6 _ e⟩⟩
theorem oJ{K:AA2}{ρ:List Addr}{H:Hp}{kvs:List (D×D)}{xs:List (D×Addr×Value)}(r:Paired (rC K ρ H) kvs xs):∃ws,Reps K ρ H (kvs.map (·.2)) ws/\az ws (xs.map λx=>x.2.2):=by
 induction r with
 | nil=>exact⟨[],.nil,.nil⟩
 | cons h t ih =>
  obtain⟨_,_,_,v,q1,q2⟩:=h
  obtain⟨ws,h1,h2⟩:=ih
  exact⟨v::ws,.cons q1 h1,.cons q2 h2⟩
def gX(to:DTE):DTE:=λS M Q=>to S M λd M1=>match d with
 | .ref n=>∃kvs,M1[n]?=some (.dkt kvs)/\Q (.ref M1.length) (M1++[.lst (kvs.map (·.2))])
 | _=>False
theorem wy(hc:X.calm=true)(ho:DE X o to)(hm:X.mg "list" = none)(hg:X.env.kindOf "list" = some .globalImplicit)
  (hs:starEach [Expr.Call (.Attribute o "values" apos) [] [] cpos] X.env=[(false,eval (Expr.Call (.Attribute o "values" apos) [] [] cpos) X.env)])
  (hbase:attributeBase o "values" X.env (eval o X.env)=eval o X.env) (hline:(apos.endLine==cpos.line)=true) :
  DE X (.Call (.Name "list" p) [.Call (.Attribute o "values" apos) [] [] cpos] [] pos) (gX to):=by
 rintro pins s σ H R I ⟨S,M,ρ,Q,sm,sr,q,kk⟩
 refine ABm (gO I hg hm (by rfl) ?_)
 refine callWith_type1 ?_ (by rw[hs];rfl) rfl
 rw[hs]
 refine AE4 (AD9 hbase hline (thn (ho pins s σ H _ I ⟨S,M,ρ,_,sm,sr,q,λv H' w=>w⟩) ?_))
 rintro u s1 ⟨v,H1,I1,rv,x,M1,ρ1,sm1,g1,r1,q1⟩
 cases r1 with
 | @ref n a hn =>
  cases rv
  obtain⟨kvs,hM,q2⟩:=(show ∃kvs,M1[n]?=some (.dkt kvs)/\Q (.ref M1.length) (M1++[.lst (kvs.map (·.2))])from q1)
  obtain⟨xs,hH,r,dd,hsm,hz,hx,nd⟩:=kW I1 sm1 hn hM
  obtain⟨es,em,el,eg⟩:=zR I1 hH
  refine⟨"dict","dict.values",ADG,AD6,PySem.F.type_dict_values,dd.typeIs,λb z=>?_,AC3 rfl (ADn (mE hsm em ?_))⟩
  ·cases z
   obtain⟨ob,_,_,h1,h2,_⟩:=dd
   exact⟨ob,h1,h2.2.1⟩
  refine Calls.spliced_nil ?_
  have I2:Inv X pins σ H1 { s1 with heap:=s1.heap.push { cls:=.type "dict_values",data:=.fields #[.ref a] } }:=I1.kept (t':=s1.toks) λb o e=>AA6 _ e
  have em2:dc ({ s1 with heap:=s1.heap.push { cls:=.type "dict_values",data:=.fields #[.ref a] } }:Shared).heap a es xs.length:=em.to λo e=>AA6 _ e
  have vw:({ s1 with heap:=s1.heap.push { cls:=.type "dict_values",data:=.fields #[.ref a] } }:Shared).heap.IsValuesView s1.heap.objs.size a:=⟨_,AAE _ rfl,rfl,rfl⟩
  generalize ({ s1 with heap:=s1.heap.push { cls:=.type "dict_values",data:=.fields #[.ref a] } }:Shared)=s2 at I2 em2 vw ⊢
  refine kdl_call (uP (es:=es) (ep:=xs.length)) (I2.ok.hd hc) ⟨vw,em2⟩ (by lia) λh' tk acc' c' hk hD hacc=>?_
  obtain⟨ws,w1,w2⟩:=oJ r
  have ea:acc'.toList=xs.map λx=>x.2.2:=by
   refine ADQ λj=>?_
   rw[ABk,AAU]
   cases hj:xs[j]? with
   | none =>
    have:xs.length<=j:=by rw[List.getElem?_eq_none_iff]at hj;exact hj
    rw[AC4 (by have:=hacc.1;lia)];rfl
   | some x =>
    have hlt:=(AA3.mp hj).1
    have hlt':j<acc'.size:=by have:=hacc.1;lia
    obtain⟨e,g1,g2⟩:=hacc.2 j acc'[j] (AAm hlt')
    obtain⟨e',z1,_,z2⟩:=eg j x hj
    rw[g1]at z1
    obtain rfl:=AAW z1
    rw[AAm hlt',g2,z2];rfl
  have hf:H1 s2.heap.objs.size=none:=I2.hok.fresh (AAC _)
  refine⟨.ref s2.heap.objs.size,_,I2.laid (a:=s2.heap.objs.size) (o:=.lst ws) (t':=tk) hk (AAC _) ⟨by rw[<-w1.length,AA4];exact hz,acc'.toList,c',by rw[ea];exact w2,by simpa using hD⟩,rfl,kk _ _ (VQ.laidL sm1 g1 w1 hf q2)⟩
 | _=>exact q1.elim
def iZ:DTS:=λ_ _ _=>False
theorem Ch{st:Stmt}:DS X st iZ:=λpins s σ H E I ⟨S,M,ρ,F,sm,sr,q,kk⟩=>q.elim
theorem Jl:HE X (.Dict [] [] pos) nR:=⟨Kh⟩
theorem Jm(hr:Room k X.A)(ho:HE X o to)(hi:HE X i ti)(hs:NoSl i:=by intro _ _;kernel_rfl):HE X (.Subscript o i pos) (zW to ti):=⟨Ki hr ho.ok hi.ok hs⟩
theorem ze(hr:Room k X.A)(ho:HE X o to)(hi:HE X i ti)(hv:HE X e te)(hs:swapsWith e (some (.Subscript o i pos')) pos.line X.env=pure false:=by kernel_rfl):HS X (.Assign [.Subscript o i pos'] e pos) (nQ to ti te):=⟨Gf hr ho.ok hi.ok hv.ok hs⟩
theorem Ft(hr:Room k X.A)(ho:HE X o to)(ha:HA X (e::es) t)(hbase:attributeBase o "get" X.env (eval o X.env)=eval o X.env:=by kernel_rfl)
  (hfew:((backTo cpos (starEach (e::es) X.env)).all (λx=>!x.1)&&(backToKw cpos (keywordEach [] X.env)).all (λx=>x.1.isSome)
   && decide ((e::es).length+([]:List Keyword).length+(if ([]:List Keyword).isEmpty then 0 else 1)<30))=true:=by kernel_rfl)
  (hline:(apos.endLine==cpos.line)=true:=by kernel_rfl) (hs:starEach (e::es) X.env=(false,eval e X.env)::starEach es X.env:=by kernel_rfl) (hplain:(backTo cpos (starEach es X.env)).any (·.1)=false:=by kernel_rfl) :
  HE X (.Call (.Attribute o "get" apos) (e::es) [] cpos) (dMt gD to t):=⟨d_mt PySem.F.slot_dict_get PySem.F.type_dict_get (Bn hr) ho.ok ha.ok hbase hfew hline hs hplain⟩
theorem wk(ho:HE X o to)(hm:X.mg "list" = none)(hc:X.calm=true:=by kernel_rfl)(hg:X.env.kindOf "list" = some .globalImplicit:=by kernel_rfl)
  (hs:starEach [Expr.Call (.Attribute o "values" apos) [] [] cpos] X.env=[(false,eval (Expr.Call (.Attribute o "values" apos) [] [] cpos) X.env)]:=by kernel_rfl)
  (hbase:attributeBase o "values" X.env (eval o X.env)=eval o X.env:=by kernel_rfl) (hline:(apos.endLine==cpos.line)=true:=by kernel_rfl) :
  HE X (.Call (.Name "list" p) [.Call (.Attribute o "values" apos) [] [] cpos] [] pos) (gX to):=⟨wy hc ho.ok hm hg hs hbase hline⟩
theorem wo(hr:Room k X.A)(hc:X.calm=true:=by kernel_rfl):HC X (.builtin "sorted") gF:=⟨wC hr hc⟩
theorem uI{X:Cx}{st:Stmt}:HS X st iZ:=⟨Ch⟩
theorem nK{K:AA2}{ρ:List Addr}{H:Hp}:∀{ns:List Int}{ws:List V}{its:List Value},Reps K ρ H (ns.map D.int) ws->az ws its->IntsAre its ns
 | [],_,_,r,v=>by cases r;cases v;exact .nil
 | n::ns,_,_,r,v=>by
  rw[AAH]at r
  first | have hzz:=Reps.inv_cons r | have hzz:=az.inv_cons r
  clear r
  obtain⟨_,_,rfl,h,t⟩:=hzz
  cases h
  cases v with
  | cons q q' =>
   obtain⟨tk,rfl⟩:=q
   exact .cons _ _ (nK t q')
theorem FH(h:IntsAre vs ns):∀(m:Nat) (v:Value),vs[m]?=some v->∃i t,v=.int i t/\ns[m]?=some i:=by
 induction h with
 | nil=>intro m v e;simp at e
 | cons n t _ ih =>
  intro m v e
  cases m with
  | zero=>simp at e;subst e;exact⟨n,t,rfl,rfl⟩
  | succ m=>exact ih m v (by simpa using e)
theorem BL(h:IntsAre vs ns):vs.length=ns.length:=by
 induction h with
 | nil=>rfl
 | cons n t _ ih=>rw[AAD,AAD,ih]
def xZ:DRA:=λds M Q=>match ds with
 | [.ref n]=>∃ns:List Int,ao M n (ns.map D.int)/\ns≠[]/\∀m,m∈ns->(∀a∈ns,a<=m)->Q (.int m) M
 | _=>False
theorem GA(hc:X.calm=true):hZ X (.builtin "max") xZ:=by
 rintro pins s σ H vs us R I rv ⟨ds,M,ρ,Q,sm,rs,q,kk⟩
 unfold xZ at q
 split at q
 ·obtain⟨ns,hL,hne0,q⟩:=q
  first | have hzz:=Reps.inv_cons rs | have hzz:=az.inv_cons rs
  clear rs
  obtain⟨_,_,rfl,r1,rs⟩:=hzz
  cases rs
  obtain⟨u,rfl,e1⟩:=az.one rv
  obtain⟨a,rfl,e⟩:=Rep.inv_ref r1
  cases e1
  obtain⟨ws,hq,r⟩:=ao.seq sm hL e
  obtain⟨its,rr,pl,hz⟩:=I.list hq
  obtain⟨m,hn,hm⟩:=I.loc
  obtain⟨oa,nn,hoa,hca,hdict,hdata⟩:=id pl
  have hne:a≠X.env.locals:=λz=>by
   subst z
   obtain⟨o,es,ep,e,hd,_⟩:=hn
   rw[hoa]at e
   cases e
   rw[hd]at hdata
   cases hdata
  have mem:∀b o,b≠X.env.locals->s.heap.get? b=some o->(b,o)∈[]++(a,oa)::Att.ledger s.heap X.env.locals a:=λb o h1 h2=>by
   rw[AAY,AAF,Att.mem_ledger]
   by_cases hal:b=a
   ·subst hal
    rw[hoa]at h2;cases h2
    exact .inl rfl
   ·exact .inr ⟨h1,hal,h2⟩
  refine max_list_N (I.ok.hd hc) (Att.fr_all hn) (Att.news_ledger hne hoa) pl.isList (nK r rr) (List.length_pos_iff.mpr hne0) λh' mm t tk F' N' h1 h2=>?_
  have kp:∀b u,b≠X.env.locals->s.heap.get? b=some u->h'.get? b=some u:=λb u hb e=>(N' (b,u) (mem b u hb e)).1
  exact⟨.int mm,H,I.keptF (t':=tk) kp hn F'.ns,⟨t,rfl⟩,kk _ _ ⟨.int mm,M,ρ,sm,.refl,.int mm,q mm h1 h2⟩⟩
 ·exact q.elim
def ke(n:Nat):DRA:=λds M Q=>match ds with
 | [.int v]=>∃(ns:List Int) (j:Nat),ao M n (ns.map D.int)/\ns.length<=1000/\ns[j]?=some v/\(∀m,m<j->ns[m]?≠some v)/\Q (.int j) M
 | _=>False
noncomputable def isNum(v:Int):Value->Bool
 | .int i _=>i==v
 | _=>false
theorem yI:MtR X "list.index" (nu X.K ke):=by
 rintro pins s σ H x xs v us R I rx rs ⟨n,a,ds,M,ρ,Q,ez,hn,sm,rr,q,kk⟩
 unfold ke at q
 split at q
 ·rename_i num
  obtain⟨ns,j,hL,hl,hj,hno,q⟩:=q
  first | have hzz:=Reps.inv_cons rr | have hzz:=az.inv_cons rr
  clear rr
  obtain⟨_,_,rfl,r1,rr⟩:=hzz
  cases rr
  obtain⟨u,rfl,e1⟩:=az.one rs
  cases r1
  obtain⟨tk,rfl⟩:=e1
  subst ez
  cases rx
  obtain⟨ws,hq,r⟩:=ao.seq sm hL hn
  obtain⟨its,rv,pl,hz⟩:=I.list hq
  have ia:=nK r rv
  have len:=BL ia
  have at_:∀(m:Nat) (hm:m<its.toArray.size),∃i t,its.toArray[m]=.int i t/\ns[m]?=some i:=λm hm =>
   FH ia m _ (by rw[AAB]at hm;rw[AA5 hm];rfl)
  obtain⟨⟨oc,od,odt,os⟩,nn,hoa,hca,hdict,hdata⟩:=id pl
  obtain rfl:oc=.type "list":=hca
  obtain rfl:odt=.seq its.toArray nn:=hdata
  have hjl:j<its.toArray.size:=by
   have:=(AA3.mp hj).1
   rw[AAB];lia
  refine call_meetsIn PySem.F.slot_list_index pl.isList.typeIs PySem.F.entry_list_index (PySem.F.args_list_index_2 _ _) ((SeqAt.list_indexAt a its.toArray nn od os (.int num tk) (isNum num) j hjl (by rw[AAB]at hjl;lia) ?_ λm hm hlt=>?_).inModel X.prog X.w) ⟨hoa,λy hy=>?_,?_⟩
  ·obtain⟨i,t,e1,e2⟩:=at_ j hjl
   rw[hj]at e2
   obtain rfl:=AAW e2
   rw[e1]
   exact beq_self_eq_true _
  ·obtain⟨i,t,e1,e2⟩:=at_ m hm
   rw[e1]
   refine ABW.mpr λz=>hno m hlt ?_
   rw[e2,eq_of_beq (show (i==num)=true from z)]
  ·obtain⟨m,hm,rfl⟩:=Array.getElem_of_mem hy
   obtain⟨i,t,e1,e2⟩:=at_ m hm
   rw[e1]
   exact ACf _ _ _ _
  ·exact⟨.int j,H,I.tok _,⟨_,rfl⟩,kk _ _ ⟨.int j,M,ρ,sm,.refl,.int _,q⟩⟩
 ·exact q.elim
theorem zB:HMl X "index" ke:=⟨_,PySem.F.slot_list_index,PySem.F.type_list_index,yI⟩
theorem Kt:bootBuiltins "max" = some (.builtin "max"):=by decide +kernel
theorem FO(hc:X.calm=true:=by kernel_rfl):HC X (.builtin "max") xZ:=⟨GA hc⟩
end L2
namespace L2
open PySem PySem.Spec PyProof.Rows DL PySem.W PySem.Calls PyProof.V
structure PairsAt(es:Array DictEntry)(lo:Addr)(h:Heap)(as:List Addr):Prop where
 nd:as.Nodup
 above:∀a∈as,lo<a
 tup:∀(j:Nat) (a:Addr),as[j]?=some a->∃e,es[j]?=some e/\h.get? a=some { cls:=.type "tuple",data:=.seq #[e.key,e.val] }
end L2
namespace L2
open PySem PySem.Spec PyProof.Rows DL PySem.W
noncomputable def dictOf(ps:List (D×D)):List (D×D):=ps.foldl (λkvs p=>fy kvs p.1 p.2) []
theorem cG:dictOf (ps++[p])=fy (dictOf ps) p.1 p.2:=by
 unfold dictOf
 rw[List.foldl_append];rfl
theorem qH:∀(ps kvs:List (D×D)),(ps.foldl (λkvs p=>fy kvs p.1 p.2) kvs).length<=kvs.length+ps.length
 | [],_=>AAC _
 | p::ps,kvs=>by
  have h1:=qH ps (fy kvs p.1 p.2)
  have h2:=dG (kvs:=kvs) (k:=p.1) (d:=p.2)
  rw[List.foldl_cons,AAD];lia
theorem mF:(dictOf ps).length<=ps.length:=by
 have:=qH ps []
 rw[AAS,Nat.zero_add]at this
 exact this
theorem qJ:entryFor table "dict.update.loop" = some Builtin.«dict.update.loop»:=entryFor_of_tree (by kernel_rfl)
theorem gH:plainId "dict.update.loop" = true:=by decide +kernel
theorem iD:typeLookup (.type "list") "__getattr__" = pure none:=by rw[typeLookup_type,builtinLookup_eq_fast];kernel_rfl
theorem lC:typeLookup (.type "list") "keys" = pure none:=by rw[typeLookup_type,builtinLookup_eq_fast];kernel_rfl
section
variable{prog:Program}{w:World}{A:Around}{E:Value->Shared->Prop}{h:Heap}{g:Array GenState}{d:Drawn}{t:Nat}{os:OsState}{a:Addr}{o:Obj}
theorem yT(hx:h.get? a=some o)(hc:o.cls=.type "list")(hdict:o.dict=none)(hdat:o.data=.seq its nn)(hA:A.handled=none)(hq:∀h' tk e,Heap.NewAttrErr h h' e (.ref a) "keys"->R (.error (.ref e)) ⟨h',g,d,tk,os⟩) :
  codeAny (model prog w) A (.call (.builtin "list.__getattribute__") ⟨[.ref a,.str "keys" u],[]⟩) R ⟨h,g,d,t,os⟩:=by
 obtain⟨oc,od,odt,osl⟩:=o
 obtain rfl:oc=.type "list":=hc
 obtain rfl:od=none:=hdict
 obtain rfl:odt=.seq its nn:=hdat
 have hT:(⟨h,g,d,t,os⟩:Shared).TypeIs (.ref a) "list":=⟨_,hx,rfl⟩
 have f4:=lC
 refine codeAny_call_builtin ABl.plain PySem.F.entry_list_ga (ABl.check _ _ _ _ _ _ _ _ hT (PySem.F.args_list_getattribute_2 _ _) ?_)
 unfold Builtin.«object.__getattribute__»
 repeat (any_goals (first | assumption | wp_step))
 refine wpAny_raiseAttrError (o:=.ref a) (name:="keys") (by first | exact hA | simpa using hA) hq ?_
 exact attrMsg_fits (by decide +kernel) (by size_fits)
theorem sD(hx:h.get? a=some o)(hc:o.cls=.type "list")(hdict:o.dict=none)(hdat:o.data=.seq its nn)(hA:A.handled=none)(hq:∀h' tk,(∀b ob,h.get? b=some ob->h'.get? b=some ob)->Q none ⟨h',g,d,tk,os⟩) :
  wpAny (model prog w) A (getAttr? (.ref a) "keys") Q E ⟨h,g,d,t,os⟩:=by
 obtain⟨oc,od,odt,osl⟩:=o
 obtain rfl:oc=.type "list":=hc
 obtain rfl:od=none:=hdict
 obtain rfl:odt=.seq its nn:=hdat
 have hT:∀tk,(⟨h,g,d,tk,os⟩:Shared).TypeIs (.ref a) "list":=λ_=>⟨_,hx,rfl⟩
 have f1:=sub_AttributeError
 have f2:=ABl.lookup
 have f3:=ABl.bind (.ref a)
 have f5:=iD
 unfold getAttr? getAttrBy? getAttrBy
 repeat (any_goals (first | assumption | exact hT _ | wp_step))
 refine yT hx rfl rfl rfl (by first | exact hA | simpa using hA) λh' tk e hx'=>?_
 obtain⟨t',u',he⟩:=hx'.there
 unfold getattributeRaised
 repeat (any_goals (first | assumption | wp_step))
 exact hq _ _ hx'.keeps
end
theorem dsetE(hu:(bR prog w).room A)(kat:(bR prog w).is s.heap k b)
  (hm:s.heap.DictOfH (bR prog w) d xs) (hx:dX d xs prog w s.heap) (hz:xs.length<=sizeLine)
  (hQ:∀h',dX d (storedH xs k b v) prog w h'->ABt d s.heap h'->Q () { s with heap:=h',toks:=s.toks+(bR prog w).draws k }):wpAny (model prog w) A (dictSet d (.ref b) v) Q E s:=by
 obtain⟨_,_,_,_,_,_,_,his,hn⟩:=hm
 obtain⟨o,es,ho,hc,hd,he'⟩:=hx
 have he:es.toList=xs.map (entryOfKey (bR prog w)):=he'
 unfold dictSet
 try with_reducible refine AAr ?_
 refine AA0 ((bR prog w).pyHash hu kat ?_)
 unfold dictSetHashed
 try with_reducible refine AAr ?_
 have hl:es.size=xs.length:=size_of_entries he
 refine AA0 (wpAny_dictFind_heap (s:={ s with toks:=s.toks+(bR prog w).draws k }) hu kat ho hd he his hn (λhno=>?_) λj p hj=>?_)
 ·refine AA0 (ACc (wpAny_updateDictKeys (hz:=by lia) (s:={ s with toks:=s.toks+(bR prog w).draws k }) ho hd (hQ _ ⟨_,es.push ⟨(bR prog w).hash k,.ref b,v⟩,ABH _ ho (AD1 (ACs hd _)),hc.mapDictKeys _,?_,?_⟩ (AB0 ..))))
  ·rw[ACs hd,storedH_new (ADT hno),AA9];rfl
  ·rw[storedH_new (ADT hno)]
   rw[Array.toList_push,he,AAh]
   rfl
 ·refine AA0 (ACc (AA0 (wpAny_updateDict (s:={ s with toks:=s.toks+(bR prog w).draws k }) ho hd (wpAny_point (hQ _ ⟨_,es.modify j λe=>{ e with val:=v },ABH _ ho (AD1 (ADe hd _)),hc.mapDict _,?_,?_⟩ (AB0 ..))))))
  ·rw[ADe hd,storedH_old (atKey_of_get hn hj),AA4]
  ·rw[storedH_old (atKey_of_get hn hj)]
   have q:=modify_map_putAt (entryOfKey (bR prog w)) (λe:DictEntry=>{ e with val:=v }) k v (λ_ _=>rfl) hn hj
   rw[<-he]at q
   obtain⟨l⟩:=es
   have q2:(Array.modify ⟨l⟩ j λe:DictEntry=>{ e with val:=v }).toList=(xs.map (putAt k v)).map (entryOfKey (bR prog w)):=by simpa using q
   exact q2
structure DD(X:Cx)(ρ:List Addr)(H:Hp)(h:Heap)(a:Addr)(kvs:List (D×D))(xs:List (D×Addr×Value)):Prop where
 dx:dX a xs X.prog X.w h
 kv:Paired (rC X.K ρ H) kvs xs
 nd:(kvs.map (·.1)).Nodup
theorem DD.at(x:DD X ρ H h a kvs xs)(k:∀o,h.get? a=some o->h'.get? a=some o):DD X ρ H h' a kvs xs:=by
 obtain⟨⟨o,es,e1,e2,e3,e4⟩,kv,nd⟩:=x
 exact⟨⟨o,es,k _ e1,e2,e3,e4⟩,kv,nd⟩
theorem DD.len(x:DD X ρ H h a kvs xs):xs.length=kvs.length:=by
 have:=congrArg ACV (sN x.kv)
 rwa [AA4,AA4]at this
theorem DD.of(I:Inv X pins σ H s)(x:DD X ρ H s.heap a kvs xs):s.heap.DictOfH (bR X.prog X.w) a xs:=by
 obtain⟨o,es,e1,e2,e3,e4⟩:=x.dx
 have ek:=sN x.kv
 refine⟨o,es,_,e1,e2,e3,e4,λy hy=>?_,by rw[ek];exact x.nd⟩
 obtain⟨i,hi⟩:=ACJ hy
 obtain⟨p,_,q1,q2,q3,_⟩:=kj x.kv hi
 rw[<-q1]
 exact ik I 8 _ _ _ q3 rfl q2
theorem Go(I:Inv X pins σ H s)(hu:A.units+20<cLine)(W:Walks X.prog X.w A.in1 J fp wr m P Sx)(S:Addr)(hSf:S∉fp)
  (hS0:s.heap.get? S=none) (hw0:∀b∈wr,s.heap.get? b=none) (ps:List (D×D)) (hm:ps.length=m) (hval:∀i v,P i v->∃p,ps[i]?=some p/\(∃vv,Rep X.K ρ H (.tup [p.1,p.2]) vv/\aU vv v)/\kP 8 p.1=true/\uL p.1=true) (hb:m<=1000) :
  ∀(k i:Nat) (h:Heap) (tk:Nat) (xs:List (D×Addr×Value)) (j:Int) (t:Tok),m-i=k->i<=m->Sx i h->DD X ρ H h S (dictOf (ps.take i)) xs->(∀b u,s.heap.get? b=some u->h.get? b=some u) ->
   (∀h' tk xs',(∀b u,s.heap.get? b=some u->h'.get? b=some u)->DD X ρ H h' S (dictOf ps) xs'->R (.ok (.ret .none)) { s with heap:=h',toks:=tk }) ->
   codeAny (model X.prog X.w) A (.builtin "dict.update.loop" ⟨[.ref S,.ref J,.int j t,.none],[]⟩) R { s with heap:=h,toks:=tk }:=by
 have hSw:S∉wr:=λh=>hSf (W.sub _ h)
 intro k
 induction k with
 | zero =>
  intro i h tk xs j t hk hi hst hS hold hR
  obtain rfl:i=m:=by lia
  refine ADw qJ ?_
  rw[Around.under_plainId gH _]
  refine(show wpAny (model X.prog X.w) A.in1 (pyNext (.ref J) >>= _) _ _ _ from AA0 (W.done _ _ _ hst λh' tk hk'=>?_))
  rw[<-hm,ABQ]at hS
  refine(show wpAny (model X.prog X.w) A.in1 (Builtin.Dict.addKeywords S [] >>= _) _ _ _ from AA0 (AA7 (AA7 ?_)))
  exact hR h' tk xs (λb u e=>hk' b u (λz=>by rw[hw0 b z]at e;cases e) (hold b u e)) (hS.at λo e=>hk' S o hSw e)
 | succ k ih =>
  intro i h tk xs j t hk hi hst hS hold hR
  refine ADw qJ ?_
  rw[Around.under_plainId gH _]
  refine(show wpAny (model X.prog X.w) A.in1 (pyNext (.ref J) >>= _) _ _ _ from AA0 (W.item i _ _ _ (by lia) hst λv h' tk hP hst' hk'=>?_))
  obtain⟨p,hp,⟨vv,r,rv⟩,kd,it⟩:=hval i v hP
  have old':∀b u,s.heap.get? b=some u->h'.get? b=some u:=λb u e=>hk' b u (λz=>by rw[hw0 b z]at e;cases e) (hold b u e)
  have I':Inv X pins σ H { s with heap:=h',toks:=tk }:=I.kept old'
  have hS':=hS.at λo e=>hk' S o hSw e
  have hl:=hS'.len
  have dl:=mF (ps:=ps.take i)
  have dd:=hS'.of (s:={ s with heap:=h',toks:=tk }) I'
  obtain⟨a,vs,rfl,hq,rr⟩:=Rep.inv_tup r
  cases rv
  first | have hzz:=Reps.inv_cons rr | have hzz:=az.inv_cons rr
  clear rr
  obtain⟨_,_,rfl,r1,rr⟩:=hzz
  first | have hzz:=Reps.inv_cons rr | have hzz:=az.inv_cons rr
  clear rr
  obtain⟨_,_,rfl,r2,rr⟩:=hzz
  cases rr
  obtain⟨its,r2',pl,hz⟩:=I'.tuple hq
  obtain⟨u1,u2,rfl,e1,e2⟩:=az.two r2'
  obtain⟨k0,d0⟩:=p
  cases k0 with
  | tup ks =>
   have kat:=ik I' 8 _ _ _ r1 e1 kd
   obtain⟨b,_,rfl,_⟩:=id kat
   obtain⟨_,_,rfl,hq1,rr1⟩:=Rep.inv_tup r1
   cases e1
   obtain⟨o,ho,hc,nn,hd⟩:=pl
   have hT:({ s with heap:=h',toks:=tk }:Shared).TypeIs (.ref a) "tuple":=⟨o,ho,hc⟩
   refine AA0 (AAr (AA0 (wpAny_tryCatch ?_)))
   unfold Builtin.Dict.pairItems
   refine AA0 (AD4 hT ?_)
   rw[if_pos (by decide)]
   refine AA0 (ABj ho hd (AA7 ?_))
   refine(show wpAny (model X.prog X.w) _ (holding [.ref b,u2] (dictSet S (.ref b) u2)) _ _ _ from AAr ?_)
   refine dsetE (k:=.tup ks) (s:={ s with heap:=h',toks:=tk }) (by show A.units+1+8<cLine;lia) kat dd hS'.dx (aA (by rw[hl];rw[AAe]at dl;lia)) λh2 dx2 sb=>?_
   have k2:∀b u,b≠S->h'.get? b=some u->h2.get? b=some u:=λb u hb e=>(sb.2 b hb).trans e
   have kv2:=Df hS'.kv kd (.tup hq1 rr1) r2 e2
   have et:ps.take (i+1)=ps.take i++[(.tup ks,d0)]:=by rw[ABA,hp];rfl
   refine AA7 ⟨plainId_quiet gH _,ih (i+1) h2 _ _ _ _ (by lia) (by lia) (W.frame _ h' h2 hst' λb' hb' o e=>k2 b' o (λz=>hSf (z ▸ hb')) e) ⟨dx2,?_,?_⟩ (λb u e=>k2 b u (λz=>by rw[z,hS0]at e;cases e) (old' b u e)) hR⟩
   ·rw[et,cG];exact kv2
   ·rw[et,cG];exact rV hS'.nd
  | _=>cases it
theorem GB(I:Inv X pins σ H s)(hu:A.units+30<cLine)(hh:A.handled=none)(hl:s.heap.IsList l its)(hol:s.heap.get? l=some ol)(hdict:ol.dict=none)(ps:List (D×D))(hm:ps.length=its.size)
  (hval:∀(i:Nat) v,its[i]?=some v->∃p:D×D,ps[i]?=some p/\(∃vv,Rep X.K ρ H (.tup [p.1,p.2]) vv/\aU vv v)/\kP 8 p.1=true/\uL p.1=true) (hb:its.size<=1000)
  (h:∀h' tk xs,(∀b u,s.heap.get? b=some u->h'.get? b=some u)->DD X ρ H h' s.heap.objs.size (dictOf ps) xs->Q (.ref s.heap.objs.size) { s with heap:=h',toks:=tk }) :
  wpAny (model X.prog X.w) A (call (.type "dict") [.ref l]) Q E s:=by
 refine callType_codes (Q₁:=λobj s₁=>obj=.ref s.heap.objs.size/\s₁={ s with heap:=s.heap.push { cls:=.type "dict",data:=.dict #[] } }) PySem.F.kt_called_dict (PySem.F.kt_typeCall_dict_1 _) PySem.F.entry_dict_init (kt_code_dict_new _ ⟨rfl,rfl⟩) ?_
 rintro obj s₁ ⟨rfl,rfl⟩
 have hS:(s.heap.push { cls:=.type "dict",data:=.dict #[] }).get? s.heap.objs.size=some { cls:=.type "dict",data:=.dict #[] }:=AAE _ rfl
 have hT:Shared.TypeIs { s with heap:=s.heap.push { cls:=.type "dict",data:=.dict #[] } } (.ref s.heap.objs.size) "dict":=⟨_,hS,rfl⟩
 obtain⟨ol',e1,hcl,nn,hdd⟩:=id hl
 obtain rfl:ol'=ol:=AAW (e1.symm.trans hol)
 have hol':(s.heap.push { cls:=.type "dict",data:=.dict #[] }).get? l=some ol':=AA6 _ hol
 have hTl:Shared.TypeIs { s with heap:=s.heap.push { cls:=.type "dict",data:=.dict #[] } } (.ref l) "list":=⟨ol',hol',hcl⟩
 have ll:l<s.heap.objs.size:=AAM hol
 refine⟨hT,PySem.F.args_dict_init_2 _ _,?_⟩
 unfold Builtin.«dict.__init__»
 refine AA0 ?_
 unfold Builtin.Dict.selfAndRest
 refine AA0 (ACj hT ?_)
 refine(show wpAny _ _ (pure (s.heap.objs.size,[AB3 l])) _ _ _ from AA7 ?_)
 refine(show wpAny _ _ (Builtin.Dict.updateFrom "dict.__init__" s.heap.objs.size (.ref l) [] .none) _ _ _ from ?_)
 unfold Builtin.Dict.updateFrom
 refine AA0 (AD4 hTl ?_)
 rw[if_pos (by decide)]
 refine AA0 (sD hol' hcl hdict hdd (by simpa using hh) λh1 tk1 k1=>?_)
 have kp1:∀b u,s.heap.get? b=some u->h1.get? b=some u:=λb u e=>k1 b u (AA6 _ e)
 rw[if_pos (show (none:Option Value).isNone=true from rfl)]
 refine AA0 (ACc ?_)
 obtain⟨oI,St,hit,W,st⟩:=(TxSrc.list (prog:=X.prog) (w:=X.w) hl).iter A.in1.in1 { s with heap:=h1,toks:=tk1 } (by simpa using hh) λo e=>kp1 _ _ e
 refine AA0 (hit _ _ ?_)
 have hS1:=k1 _ _ hS
 have lS:s.heap.objs.size<h1.objs.size:=AAM hS1
 have hS0:s.heap.get? s.heap.objs.size=none:=by
  cases q:s.heap.get? s.heap.objs.size with
  | none=>rfl
  | some o=>exact absurd (AAM q) (AAk _)
 refine AA7 ⟨plainId_quiet gH _,Go (A:=A.in1) (s:=s) I (by show A.units+1+20<cLine;lia) W s.heap.objs.size ?_ hS0 ?_ ps hm hval hb its.size 0 _ _ [] _ _ rfl (AAV _) st ⟨⟨_,#[],AA6 _ hS1,⟨rfl,rfl,rfl⟩,rfl,rfl⟩,.nil,AEB⟩ (λb u e=>AA6 _ (kp1 b u e)) λh2 tk2 xs k2 dd=>⟨rfl,h h2 tk2 xs k2 dd⟩⟩
 ·simp only[AAF,AB2,or_false,not_or]
  exact⟨AAQ lS,Nat.ne_of_gt ll⟩
 ·intro b hb'
  rw[AAP.mp hb']
  cases q:s.heap.get? h1.objs.size with
  | none=>rfl
  | some o=>exact absurd (Nat.lt_trans (AAM q) lS) (AAk _)
def im:DRA:=λds M Q=>match ds with
 | [.ref n]=>∃ps:List (D×D),ao M n (ps.map λp=>.tup [p.1,p.2])/\(∀p∈ps,kP 8 p.1=true/\uL p.1=true)/\ps.length<=1000/\Q (.ref M.length) (M++[.dkt (dictOf ps)])
 | _=>False
theorem Ab(hr:Room k X.A)(hc:X.calm=true):hZ X (.type "dict") im:=by
 rintro pins s σ H vs us R I rv ⟨ds,M,ρ,Q,sm,rs,q,kk⟩
 have un:=hr.un
 unfold im at q
 split at q
 ·obtain⟨ps,hL,hk,hl,q⟩:=q
  first | have hzz:=Reps.inv_cons rs | have hzz:=az.inv_cons rs
  clear rs
  obtain⟨_,_,rfl,r1,rs⟩:=hzz
  cases rs
  obtain⟨u,rfl,e1⟩:=az.one rv
  obtain⟨a,rfl,e⟩:=Rep.inv_ref r1
  cases e1
  obtain⟨ws,hq,r⟩:=ao.seq sm hL e
  obtain⟨its,rr,pl,hz⟩:=I.list hq
  obtain⟨oa,nn,hoa,hca,hdict,hdata⟩:=id pl
  have lw:=r.length
  have li:=rr.length
  rw[AA4]at lw
  have hf:H s.heap.objs.size=none:=I.hok.fresh (AAC _)
  have hb:(s.heap.objs.size==sysModules)=false:=beq_eq_false_iff_ne.mpr (AAt (AAQ I.big))
  refine GB (A:=X.A) (ρ:=ρ) I (by lia) (I.ok.hd hc) pl.isList hoa hdict ps (by rw[AAB];lia) (λi v hv=>?_) (by rw[AAB];lia) λh' tk xs kp dd=>?_
  ·obtain⟨d,vv,e1,r1,rv1⟩:=wR r rr (i:=i) (u:=v) (by simpa using hv)
   rw[AAU]at e1
   obtain⟨p,hp,rfl⟩:=ABg.mp e1
   exact⟨p,hp,⟨vv,r1,rv1⟩,hk p (AB1 hp)⟩
  ·have dl:=mF (ps:=ps)
   refine⟨.ref s.heap.objs.size,_,I.laid (a:=s.heap.objs.size) (o:=.ext (dX s.heap.objs.size xs)) (t':=tk) kp (AAC _) (sY dd.dx),rfl,?_⟩
   exact kk _ _ ⟨.ref M.length,M++[.dkt (dictOf ps)],ρ++[s.heap.objs.size],sm.laidM (mo:=.dkt (dictOf ps)) hf ⟨aA (by lia),hb,dd.nd,xs,aL,Paired.mapP dd.kv λ_ _ ⟨q1,q2,q3,v,q4,q5⟩=>⟨q1,q2,q3.grow (Grow.laidR hf),v,q4.grow (Grow.laidR hf),q5⟩⟩,Grow.laidR hf,.ref sm.last,q⟩
 ·exact q.elim
theorem zI(hr:Room k X.A)(hc:X.calm=true:=by kernel_rfl):HC X (.type "dict") im:=⟨Ab hr hc⟩
def ot(P:Params)(K:AA2):List DictEntry->List (Str×List Str)->Prop
 | [],[]=>True
 | e::r,p::kr=>(∃(t:Tok) (b:Addr) (o:Obj) (its:Array Value) (m:Nat),e=⟨PyData.keyHash P p.1,.str p.1 t,.ref b⟩/\K.lookup b=some o/\o.cls=.type "tuple"/\o.dict=none/\o.data=.seq its m/\its.size<=sizeLine/\az (p.2.map V.str) its.toList)/\ot P K r kr
 | _,_=>False
def CJ(w:World)(K:AA2)(mg:Str->Option Value)(x:Str)(kvs:List (Str×List Str)):Prop :=
 ∃(a:Addr) (es:Array DictEntry) (n:Nat),mg x=some (.ref a)/\(a==sysModules)=false/\K.lookup a=some ⟨.type "dict",none,.dict es n,#[]⟩/\ot w.params K es.toList kvs
theorem gdict_mk{w:World}{K:AA2}{h:Heap}{mg:Str->Option Value}{x:Str}{a:Addr}{es:Array DictEntry}{n:Nat}{kvs:List (Str×List Str)}(X:K.In h)(G:h.Ns mainGlobals mg)(ha:ABC K mainGlobals x=some (some (.ref a)))
  (hs:(a==sysModules)=false) (hl:K.lookup a=some ⟨.type "dict",none,.dict es n,#[]⟩) (he:ot w.params K es.toList kvs):CJ w K mg x kvs:=⟨a,es,n,AEF X G ha,hs,hl,he⟩
theorem ents_cons{P:Params}{K:AA2}{r:List DictEntry}{k:Str}{ks:List Str}{kr:List (Str×List Str)}{t:Tok}{b:Addr}{its:Array Value}{m:Nat}{sl:Array (Option Value)}(l:K.lookup b=some ⟨.type "tuple",none,.seq its m,sl⟩)(s:its.size<=sizeLine)(v:az (ks.map V.str) its.toList)(h:ot P K r kr) :
  ot P K (⟨PyData.keyHash P k,.str k t,.ref b⟩::r) ((k,ks)::kr):=⟨⟨t,b,_,its,m,rfl,l,rfl,rfl,rfl,s,v⟩,h⟩
section
variable{P:Params}{K:AA2}{z:Str}
theorem ot.lit:∀{l:List DictEntry}{kvs:List (Str×List Str)},ot P K l kvs->KeysLit P l
 | [],[],_=>trivial
 | _::_,p::_,⟨⟨t,_,_,_,_,he,_⟩,h⟩=>⟨⟨p.1,t,by rw[he],by rw[he]⟩,ot.lit h⟩
 | [],_::_,h=>h.elim
 | _::_,[],h=>h.elim
theorem ot.miss:∀{l:List DictEntry}{kvs:List (Str×List Str)},ot P K l kvs->kvs.find? (λp=>p.1==z)=none->l.find? (λe=>e.key.isStr z)=none/\l.any (λe=>e.refKey)=false
 | [],[],_,_=>⟨rfl,rfl⟩
 | _::_,p::_,⟨⟨t,b,o,its,m,he,_⟩,h⟩,hz=>by
  subst he
  rw[AAu]at hz
  cases hp:(p.1==z) with
  | true=>rw[hp]at hz;cases hz
  | false =>
   rw[hp]at hz
   obtain⟨h1,h2⟩:=ot.miss h hz
   refine⟨?_,?_⟩
   ·simp only[AAu,Value.isStr,hp];exact h1
   ·rw[ACX,h2];rfl
 | [],_::_,h,_=>h.elim
 | _::_,[],h,_=>h.elim
theorem ot.hit:∀{l:List DictEntry}{kvs:List (Str×List Str)},ot P K l kvs->kvs.find? (λp=>p.1==z)=some p ->
  ∃(en:DictEntry) (b:Addr) (o:Obj) (its:Array Value) (m:Nat),l.find? (λe=>e.key.isStr z)=some en/\en.val=.ref b/\K.lookup b=some o/\o.cls=.type "tuple"/\o.dict=none/\o.data=.seq its m/\its.size<=sizeLine/\az (p.2.map V.str) its.toList
 | [],[],_,hz=>nomatch hz
 | _::_,q::_,⟨⟨t,b,o,its,m,he,hx⟩,h⟩,hz=>by
  subst he
  rw[AAu]at hz
  cases hp:(q.1==z) with
  | true =>
   rw[hp]at hz
   obtain rfl:=AAW hz
   exact⟨⟨PyData.keyHash P q.1,.str q.1 t,.ref b⟩,b,o,its,m,by simp only[AAu,Value.isStr,hp],rfl,hx⟩
  | false =>
   rw[hp]at hz
   obtain⟨en,b',o',its',m',e,r⟩:=ot.hit h hz
   exact⟨en,b',o',its',m',by simp only[AAu,Value.isStr,hp];exact e,r⟩
 | [],_::_,h,_=>h.elim
 | _::_,[],h,_=>h.elim
theorem nV{α:Type}(p:α->Bool):∀l:List α,l.any p=(l.find? p).isSome
 | []=>rfl
 | a::l=>by
  rw[ACX,AAu]
  cases p a with
  | true=>rfl
  | false=>exact(Bool.false_or _).trans (nV p l)
variable{a:Addr}{es:Array DictEntry}{n:Nat}{kvs:List (Str×List Str)}
theorem ns_in(hl:K.lookup a=some ⟨.type "dict",none,.dict es n,#[]⟩)(he:ot P K es.toList kvs):∃r,ABC K a z=some r/\r.isSome=kvs.any λp=>p.1==z:=by
 rw[nV]
 cases hz:kvs.find? (λp=>p.1==z) with
 | none =>
  obtain⟨h1,h2⟩:=he.miss hz
  refine⟨none,?_,rfl⟩
  simp only[ABC,hl,h1,h2,AAZ,↓reduceIte]
 | some p =>
  obtain⟨en,b,o,its,m,h1,h2,_⟩:=he.hit hz
  refine⟨some en.val,?_,rfl⟩
  simp only[ABC,hl,h1]
theorem ns_at(hl:K.lookup a=some ⟨.type "dict",none,.dict es n,#[]⟩)(he:ot P K es.toList kvs)(hz:kvs.find? (λp=>p.1==z)=some p):∃b,ABC K a z=some (some (.ref b))/\∀H,SqT K H b (p.2.map V.str):=by
 obtain⟨en,b,o,its,m,h1,h2,h3,h4,h5,h6,h7,h8⟩:=he.hit hz
 refine⟨b,?_,λH=>.inr ⟨o,its,m,h3,h4,h5,h6,h7,h8⟩⟩
 simp only[ABC,hl,h1,h2]
end
theorem xX{K:AA2}{ρ:List Addr}{H:Hp}:∀xs:List Str,Reps K ρ H (xs.map D.str) (xs.map V.str)
 | []=>.nil
 | x::xs=>.cons (.str x) (xX xs)
def dGIn(neg:Bool)(kvs:List (Str×List Str))(te:DTE):DTE:=λS M Q=>te S M λd M1=>match d with
 | .str z=>Q (.bl ((kvs.any λp=>p.1==z) != neg)) M1
 | _=>False
def Cq(kvs:List (Str×List Str))(te:DTE):DTE:=λS M Q=>te S M λd M1=>match d with
 | .str z=>∃p,kvs.find? (λp=>p.1==z)=some p/\Q (.tup (p.2.map .str)) M1
 | _=>False
def rGIn(neg:Bool)(a:Addr)(kvs:List (Str×List Str)):R2:=λx y H R=>∃z,x=.str z/\y=.ref a/\R (.bl ((kvs.any λp=>p.1==z) != neg)) H
def Hv(K:AA2)(a:Addr)(kvs:List (Str×List Str)):R2:=λx y H R=>∃z p,x=.ref a/\y=.str z/\kvs.find? (λp=>p.1==z)=some p/\∀b,SqT K H b (p.2.map V.str)->R (.ref b) H
theorem Bu{K:AA2}{neg:Bool}(σ:St)(H:Hp)(R:VK)(h:lowE K (dGIn neg kvs te) σ H R):tOp (rGIn neg a kvs) (lowE K te) (tC (.ref a)) σ H R:=by
 obtain⟨S,M,ρ,Q,s,sr,q,k⟩:=h
 refine⟨S,M,ρ,_,s,sr,q,?_⟩
 rintro v H' ⟨d,M1,ρ1,s1,g1,r1,q1⟩
 cases d with
 | str z =>
  obtain rfl:=Rep.inv_str r1
  exact⟨z,rfl,rfl,k _ _ ⟨.bl _,M1,ρ1,s1,g1,.bl _,q1⟩⟩
 | _=>exact q1.elim
theorem yN{K:AA2}(σ:St)(H:Hp)(R:VK)(h:lowE K (Cq kvs te) σ H R):tOp (Hv K a kvs) (tC (.ref a)) (lowE K te) σ H R:=by
 obtain⟨S,M,ρ,Q,s,sr,q,k⟩:=h
 refine⟨S,M,ρ,_,s,sr,q,?_⟩
 rintro v H' ⟨d,M1,ρ1,s1,g1,r1,q1⟩
 cases d with
 | str z =>
  obtain⟨p,hp,q2⟩:=q1
  obtain rfl:=Rep.inv_str r1
  exact⟨z,p,rfl,rfl,hp,λb hb=>k _ _ ⟨.tup (p.2.map .str),M1,ρ1,s1,g1,.tup hb (xX p.2),q2⟩⟩
 | _=>exact q1.elim
theorem yu{X:Cx}{a:Addr}{es:Array DictEntry}{n:Nat}{kvs:List (Str×List Str)}(lo:(a==sysModules)=false)(hl:X.K.lookup a=some ⟨.type "dict",none,.dict es n,#[]⟩)(he:ot X.w.params X.K es.toList kvs):OpR X (compareOp .NotIn) (rGIn true a kvs):=by
 rintro pins s σ H x y v u R I r1 r2 ⟨z,e1,e2,q⟩
 subst e1;subst e2
 obtain⟨t,rfl⟩:=r1
 obtain rfl:u=AB3 a:=r2
 obtain⟨r,hr,e⟩:=ns_in (z:=z) hl he
 refine wpAny_notIn_of (strKind_is X.prog X.w z t) lo (mapOf_K (prog:=X.prog) (w:=X.w) I.kIn hl he.lit) ?_
 show EP X pins σ R (.bool (!(findBy Value.isStrOf es z).isSome)) _
 rw[find_K hl hr,e]
 rw[show ∀b:Bool,(b != true) = !b from λb=>by cases b<;>rfl]at q
 exact⟨.bl _,H,I.tok _,rfl,q⟩
theorem FG{X:Cx}{a:Addr}{es:Array DictEntry}{n:Nat}{kvs:List (Str×List Str)}(hl:X.K.lookup a=some ⟨.type "dict",none,.dict es n,#[]⟩)(he:ot X.w.params X.K es.toList kvs):IxR X (Hv X.K a kvs):=by
 rintro value slice pins s σ H x y v u R I r1 r2 ⟨z,p,e1,e2,hp,q⟩ hs
 subst e1;subst e2
 obtain⟨t,rfl⟩:=r2
 obtain rfl:v=AB3 a:=r1
 obtain⟨b,hb,hq⟩:=ns_at hl he hp
 have hm:=mapOf_K (prog:=X.prog) (w:=X.w) I.kIn hl he.lit
 exact tail_any hm.typeIs slot_dict_getitem.lookup (wpAny_getItem_of (strKind_is X.prog X.w z t) hm (find_K hl hb) ⟨.ref b,H,I.tok _,rfl,q b (hq H)⟩) hs
theorem IW(G:CJ X.w X.K X.mg x kvs)(h:HE X e te)(hg:X.env.kindOf x=some .globalImplicit:=by kernel_rfl)(hb:(x==("__debug__":Str))=false:=by kernel_rfl)(hm:behindInMarks .NotIn (.Name x p)=false:=by kernel_rfl):HT X (.Compare e [.NotIn] [.Name x p] pos) (aB (dGIn true kvs te)):=by
 obtain⟨a,es,n,h1,lo,hl,he⟩:=G
 exact⟨PT.imp (yc (yu lo hl he) h.ok (rW (v:=.ref a) hg h1 rfl hb) hm) λσ H R h=>by
  obtain⟨S,M,ρ,Q,s,sr,q,k⟩:=kI σ H R h
  exact Bu σ H _ ⟨S,M,ρ,Q,s,sr,q,k⟩⟩
theorem Jp(G:CJ X.w X.K X.mg x kvs)(h:HE X e te)(hg:X.env.kindOf x=some .globalImplicit:=by kernel_rfl)(hb:(x==("__debug__":Str))=false:=by kernel_rfl)(hs:nZ e:=by intro _ _;kernel_rfl):HE X (.Subscript (.Name x p) e pos) (Cq kvs te):=by
 obtain⟨a,es,n,h1,lo,hl,he⟩:=G
 exact⟨PE.imp (Ii (FG hl he) (rW (v:=.ref a) hg h1 rfl hb) h.ok hs) yN⟩
noncomputable abbrev EE(M:Mem)(R:DK):DEnds:=⟨λ_ M'=>aI M R .non M',aI M R,λ_ _=>False,λ_ _=>False⟩
noncomputable def dst(n:Nat)(ds:List D):SD:=ds.map some++ADU (n-ds.length) none
abbrev WpT(Pr:DSp)(n:Nat)(t:DTS):Prop:=∀ds M R,Pr ds M R->t (EE M R) (dst n ds) M
abbrev bQ(Pr:DSp)(p:List Str):Prop:=∀ds M R,Pr ds M R->ds.length=p.length
abbrev DerT(P:Program)(w:World)(K:AA2)(mg:Str->Option Value)(base:Heap)(k:Nat)(x:Str)(N:List Str)(st:Stmt)(t:DTS):Prop :=
 ∀(f:Addr) (cdv:Value) (A:Around) (outer:List Env) (s:Shared) (H:Hp) (E:XK),Room k (A.deeper (PyProof.Rows.envOfC x (aw st) s.heap.objs.size f cdv))->HB (wK CX0 P w K mg base N x (aw st) f cdv A outer s H E).nox (bj st) t
inductive TopB(mg:Str->Option Value):List Str->List (Str×Int)->Prop
 | nil:TopB mg [] []
 | b {x:Str}{B:List Str}{C:List (Str×Int)} (h:mg x=none) (t:TopB mg B C):TopB mg (x::B) C
 | c {x:Str}{i:Int}{C:List (Str×Int)} (h:∃t,mg x=some (.int i t)) (t:TopB mg [] C):TopB mg [] ((x,i)::C)
theorem TopB.no(h:TopB mg B C)(c:B.contains x=true):mg x=none:=by
 induction h with
 | nil=>simp at c
 | b h _ ih =>
  simp only[List.contains_cons,Bool.or_eq_true,beq_iff_eq]at c
  rcases c with rfl | c
  ·exact h
  ·exact ih c
 | c _ _ _=>simp at c
theorem TopB.gi(h:TopB mg B C)(c:C.lookup x=some i):∃t,mg x=some (.int i t):=by
 induction h with
 | nil=>simp at c
 | b _ _ ih=>exact ih c
 | @c y _ _ h _ ih =>
  rw[ABL]at c
  split at c
  ·rename_i e
   cases c
   rw[beq_iff_eq.mp e]
   exact h
  ·exact ih c
noncomputable def nodB:List Str->Bool
 | []=>true
 | x::xs=>!xs.contains x&&nodB xs
theorem IK:∀{l:List Str},nodB l=true->l.Nodup
 | [],_=>AEB
 | x::xs,h=>by
  simp only[nodB,AAN,Bool.not_eq_true',List.contains_eq_mem,decide_eq_false_iff_not]at h
  exact List.nodup_cons.mpr ⟨h.1,IK h.2⟩
noncomputable def tgN:Expr->List Str
 | .Name x _=>[x]
 | .Tuple es _ _=>es.filterMap fun | .Name x _=>some x | _=>none
 | _=>[]
noncomputable abbrev lcN(N:List Str)(js:List Nat)(tg:Expr):List Str:=tgN tg++js.map λj=>N.getD j ""
theorem k_lcN(hi:HI X tg iter di)(hg:∀cl s0 H0 ex,HG (blk X (lcN X.N js tg) scope cl s0 H0 ex) tg g)(ht:∀cl s0 H0 ex,HTs (blk X (lcN X.N js tg) scope cl s0 H0 ex) ifs tt)(he:∀cl s0 H0 ex,HE (blk X (lcN X.N js tg) scope cl s0 H0 ex) elt te)
  (B:mJ X.env.scope.names X.N (lcN X.N js tg) nt js scope=true:=by kernel_rfl) (hc:X.calm=true:=by kernel_rfl) (hs:∀x,foldedSetIterable iter X.env x=pure x:=by intro _;kernel_rfl):HE X (.ListComp elt [⟨tg,iter,ifs,0⟩] scope pos) (dLC nt js di g tt te):=k_lc hi hg ht he B hc hs
theorem qy(hN:X.N.Nodup)(hi:HI X tg iter di)(hg:∀cl s0 H0 ex,HG (blk X (lcN X.N js tg) scope cl s0 H0 ex) tg g)(ht:∀cl s0 H0 ex,HTs (blk X (lcN X.N js tg) scope cl s0 H0 ex) ifs tt)(he:∀cl s0 H0 ex,HE (blk X (lcN X.N js tg) scope cl s0 H0 ex) elt te)
  (B:mJ X.env.scope.names X.N (lcN X.N js tg) nt js scope=true:=by kernel_rfl) (hc:X.calm=true:=by kernel_rfl) (hs:∀x,foldedSetIterable iter X.env x=pure x:=by intro _;kernel_rfl) (hsw:swapsWith (.ListComp elt [⟨tg,iter,ifs,0⟩] scope pos) (some (.Name x pos')) pos2.line X.env=pure true:=by kernel_rfl)
  (hix:X.N[i]?=some x:=by kernel_rfl) (hx:GN X.env.scope x=true:=by kernel_rfl) (hf:X.fn x=true:=by kernel_rfl):HS X (.Assign [.Name x pos'] (.ListComp elt [⟨tg,iter,ifs,0⟩] scope pos) pos2) (kX nt js di g tt te i):=BE hN hi hg ht he B hc hs hsw hix hx hf
theorem gA(h:HA X es t):HA X es t:=h
theorem gE(h:HE X e te):HE X e te:=h
theorem gCall(h:HE X (.Call a b c pos) te):HE X (.Call a b c pos) te:=h
theorem gIx(h:HE X (.Subscript a b pos) te):HE X (.Subscript a b pos) te:=h
theorem JM(h:HE X (.Constant a b pos) te):HE X (.Constant a b pos) te:=h
theorem gT(h:HT X e tt):HT X e tt:=h
theorem gS{st:Stmt}{t:DTS}(h:HS X st t):HS X st t:=h
theorem gOp(h:HOp X f r):HOp X f r:=h
theorem gC(h:HC X f r):HC X f r:=h
theorem FP{b:List Stmt}{st:Stmt}{sts:List Stmt}{t:DTS}(h:b=st::sts)(q:HB X (st::sts) t):HB X b t:=h ▸ q
section
variable{P:Program}{w:World}{K:AA2}{mg:Str->Option Value}{base:Heap}{x:Str}{st:Stmt}{N ps:List Str}{k:Nat}{Pr:DSp}{B:List Str}{C:List (Str×Int)}{t:DTS}
theorem Cal.byD(T:TopB mg B C)(F:bV K mg x st ps)(Sc:FnScope N ps (aw st))(len:bQ Pr ps)(der:TopB mg B C->N.Nodup->DerT P w K mg base k x N st t)(wp:∀ds M R,Pr ds M R->t (EE M R) (bL N ds) M):Cal P w K mg base (k+1) x ps Pr :=
 Cal.byH F Sc len (der T Sc.nd) wp
theorem Cb(T:TopB mg B C)(F:Fun K x x st f fd)(Sc:FnScope N ps (aw st))(len:bQ Pr ps)(der:TopB mg B C->N.Nodup->DerT P w K mg base k x N st t)(wp:∀ds M R,Pr ds M R->t (EE M R) (bL N ds) M):FnOk P w K mg base CX0 (k+1) f fd ps (spL K Pr) :=
 Ca F Sc len (der T Sc.nd) wp
end
theorem tq(ho:s.heap.get? l=some o)(hc:o.cls=.type "list"\/o.cls=.type "tuple")(hd:o.data=.seq vs.toArray n)
  (h:Q vs { s with heap:=(s.heap.push (seqObj "list" #[] 0)).update s.heap.objs.size (ABF (· ++ vs.toArray)) }) (hsz:vs.length<=sizeLine):wpAny (model prog w) A (collect (.ref l)) Q E s:=by
 rcases hc with hc | hc
 ·exact collect_list ⟨o,ho,hc,n,hd⟩ h hsz
 unfold collect
 refine AA0 (wpAny_runValue (ADw entry_proto_collect' ?_))
 show wpAny _ _ (do again (.builtin "list.__iadd__" ⟨[<-newList [],.ref l],[]⟩)) _ _ s
 refine AA0 (ADC (AA7 ⟨Code.quiet_builtin _ (by decide +kernel),ADw entry_list_iadd' ?_⟩) (AAV _))
 show wpAny _ _ (ADx (.ref s.heap.objs.size) (.ref l) (.ref s.heap.objs.size)) _ _ { s with heap:=s.heap.push (seqObj "list" #[] 0) }
 unfold ADx
 have ho':(s.heap.push (seqObj "list" #[] 0)).get? l=some o:=AA6 _ ho
 refine AA0 (AD4 (T:="tuple") ⟨o,ho',hc⟩ ?_)
 have ht:(AEC "tuple" == AEC "tuple")=true:=by rfl
 rw[if_pos (by rw[ht];simp)]
 refine AA0 (ADY ho' hd ?_)
 refine AA0 (ADY (xs:=#[]) (n:=0) (AAE _ rfl) rfl ?_)
 rw[if_neg (by simp)]
 refine AA0 (ACo (xs:=#[]) (n:=0) (AAE _ rfl) rfl ?_ (AAV _) (by show (#[]++vs.toArray).size<=sizeLine+1;simp only[Array.size_append,AAB,AAS];lia))
 refine AA7 ?_
 show wpAny (model prog w) A (do
   let o <-load s.heap.objs.size
   match o.data with
   | .seq xs _=>pure xs.toList
   | _=>unsupported "internal:collect") Q E { s with heap:=(s.heap.push (seqObj "list" #[] 0)).update s.heap.objs.size (ABF (· ++ vs.toArray)) }
 refine AA0 (wpAny_load (ACQ (AAE _ rfl) _) ?_)
 show wpAny _ _ (pure ((#[]:Array Value)++vs.toArray).toList) Q E _
 rw[show ((#[]:Array Value)++vs.toArray).toList=vs by simp]
 exact AA7 h
theorem DV(hl:ks.length=vs.length)(h2:vs.length<2)(h:KatFin h₀ L m kS a ks e e1 vs (λs3=>P (.done (.ret .none)) s3) s) :
  wpAny (model prog w) A (ksk_end a false vs.toArray e1 (.ref kS) (ABf ks)) P E s:=by
 have hn2:vs.toArray.size<2:=by rw[AAB];exact h2
 unfold ksk_end
 dsimp only
 simp only[AAZ,if_false]
 rw[if_pos hn2,if_pos hn2]
 refine AA0 (AA7 ?_)
 rw[StateT.run_pure]
 refine AA0 (AA7 ?_)
 dsimp only
 refine kat_tail (out:=vs) ?_ (by lia) (by lia) rfl h
 show ((ABf ks).zip vs.toArray).map (·.2)=vs.toArray
 match ks,vs,hl,h2 with
 | [],[],_,_=>simp
 | [k],[v],_,_=>simp
 | [],_::_,hl,_=>simp at hl
 | _::_,[],hl,_=>simp at hl
 | _::_::_,[_],hl,_=>simp at hl
 | _,_::_::_,_,h2=>simp at h2;lia
theorem DR{f:Value}{e1:Nat}{P:PySem.Fin->Shared->Prop}{Fin:List Value->Nat->Shared->Prop}(hk:s.heap.get? kS=some (seqObj "list" #[] 0))(h64:vs.length<64)
  (hend:∀ks e s',ks.length=vs.length->Fin ks e s'->wpAny (model prog w) A (ksk_end a false vs.toArray e1 (.ref kS) (ABf ks)) P E s') (h:KatKeys prog w A h₀ L m kS f Fin vs [] 0 s) :
  wpAny (model prog w) A (ksk_rest a f false vs.toArray e1 (.ref kS)) P E s:=by
 unfold ksk_rest
 refine AA0 (ACc ?_)
 first
  | rw[List.forIn_toArray]
  | (rw[<-ADF];simp only[List.toList_toArray])
  | rw[<-ADF]
 refine AA0 (ABc (kat_fold h64 (λx ks e s' C hz hx=>?_) vs [] 0 s (by simp) hk h) (λ_ s' hd=>?_) λ_ _ x=>x)
 ·refine AA0 (ACp (ABc hx (λk s'' hk=>?_) λ_ _ hF=>hF.elim))
  obtain⟨news',g,F',N',U,c⟩:=hk
  obtain⟨pre,post,e0,hg,x1,x2⟩:=U.split
  rw[e0]at N'
  have nk:=N' (kS,seqObj "list" (ABf ks) e) (AAR _ (.head _))
  have s1:=AB0 s''.heap kS (ABF (·.push k))
  have ea:(ABf ks).push k=ABf (ks++[k]):=by simp
  obtain⟨c2,hc2⟩:∃c2,(s''.heap.update kS (ABF (·.push k))).get? kS=some (seqObj "list" (ABf (ks++[k])) c2):=⟨_,by rw[<-ea];exact ACQ nk.1 (·.push k)⟩
  try dsimp only
  refine AA0 (ACo nk.1 rfl ?_ (by rw[AAB,ABa];lia) (AAp (Nat.le_of_eq (Array.size_push ..)) (by rw[AAB,ABa];lia)))
  exact AA7 ⟨rfl,k,c2,hc2,c _ c2 (kas_fr F' s1 nk.2.1 nk.2.2) (by rw[hg];exact news_set N' x1 x2 s1 hc2)⟩
 ·obtain⟨ks,e,hk',hl,fin⟩:=hd
  try dsimp only
  exact AA0 (ADY hk' rfl (hend ks e s' hl fin))
structure Own(X:Cx)(pins:List (Addr×Obj))(H:Hp)(a:Addr):Prop where
 un:H a=none
 ne:a≠X.env.locals
 fs:a∉X.fs
 s0:X.s₀.heap.objs.size<=a
 cl:∀x c,X.env.cells.lookup x=some c->c≠a
 pn:∀p∈X.pn++pins,p.1≠a
theorem Inv.own(I:Inv X pins σ H s)(h:s.heap.objs.size<=a):Own X pins H a :=
 ⟨I.hok.fresh h,λe=>by rw[e]at h;exact absurd (AAT I.lt h) (AAk _),I.nofs h,AAp I.sz h,λx c e z=>by
  obtain⟨v,o,ho,_⟩:=I.cell x c e
  rw[z]at ho
  exact absurd (AAT (AAM ho) h) (AAk _),λp hp e=>by
  have:=AAM (I.pin p hp).1
  rw[e]at this
  exact absurd (AAT this h) (AAk _)⟩
theorem Inv.turnF(I:Inv X pins σ H s)(w:Own X pins H a)(k:∀b u,b≠X.env.locals->b≠a->s.heap.get? b=some u->h'.get? b=some u)(hn:s.heap.Ns X.env.locals m)(hn':h'.Ns X.env.locals m):Inv X pins σ H { s with heap:=h' }:=by
 have na:∀b u,H b=some u->b≠a:=λb u e=>ad e w.un
 refine I.step (g':=s.gens) (d':=s.drawn) (t':=s.toks) (ch:=[a]) (λb hb=>?_) (λb u hL _ hc e _=>k b u hL (by simpa using hc) e) (λb u hL _ hc e _=>⟨u.slots,k b u hL (by simpa using hc) e⟩) (λb u _ e n=>n) (λb u hc e=>?_)
  (λb xs q=>q) (λb u xs q=>q) (λb ps q=>⟨#[],by rw[q];simp⟩) (λm' hm=>?_) (λb u q=>?_) I.bare
 ·obtain rfl:b=a:=by simpa using hb
  exact⟨.inr w.s0,w.ne,w.cl,w.pn⟩
 ·by_cases hb:b=X.env.locals
  ·subst hb
   obtain⟨o',_,_,ho,_⟩:=hn'
   exact⟨o',ho⟩
  ·exact⟨u,k b u hb (by simpa using hc) e⟩
 ·have:m=m':=funext λx=>hn.agree hm x
  subst this
  exact hn'
 ·refine(I.hok b u q).stay (λc v hc r=>k c v ?_ ?_ r) (λc z=>z) λc xs z=>z
  ·rcases hc with rfl | hc
   ·exact ad q I.free
   ·exact ad hc I.free
  ·rcases hc with rfl | hc
   ·exact na _ _ q
   ·exact na _ _ hc
theorem Inv.adoptF(I:Inv X pins σ H s)(w:Own X pins H a)(k:∀b u,b≠X.env.locals->b≠a->s.heap.get? b=some u->h'.get? b=some u)(hn:s.heap.Ns X.env.locals m)(hn':h'.Ns X.env.locals m)
  (new:bP X.prog X.w (upd H a o) h' a o):Inv X pins σ (upd H a o) { s with heap:=h' }:=by
 have fa:=w.un
 refine I.step (g':=s.gens) (d':=s.drawn) (t':=s.toks) (ch:=[a]) (λb hb=>?_) (λb u hL _ hc e _=>k b u hL (by simpa using hc) e) (λb u hL _ hc e _=>⟨u.slots,k b u hL (by simpa using hc) e⟩) (λb u hc e n=>by rw[av (by simpa using hc)];exact n) (λb u hc e=>?_)
  (λb xs q=>by rw[av (ad q fa)];exact q) (λb u xs q=>by rw[av (ad q fa)];exact q) (λb ps q=>⟨#[],by rw[av (ad q fa),q];simp⟩) (λm' hm=>?_) (λb u q=>?_) I.bare
 ·obtain rfl:b=a:=by simpa using hb
  exact⟨.inr w.s0,w.ne,w.cl,w.pn⟩
 ·by_cases hb:b=X.env.locals
  ·subst hb
   obtain⟨o',_,_,ho,_⟩:=hn'
   exact⟨o',ho⟩
  ·exact⟨u,k b u hb (by simpa using hc) e⟩
 ·have:m=m':=funext λx=>hn.agree hm x
  subst this
  exact hn'
 ·by_cases hb:b=a
  ·subst hb
   rw[aL]at q
   cases q
   exact new
  ·rw[av hb]at q
   refine(I.hok b u q).stay (λc v hc r=>k c v ?_ ?_ r) (λc z=>by rw[av (ad z fa)];exact z) λc xs z=>by rw[av (ad z fa)];exact z
   ·rcases hc with rfl | hc
    ·exact ad q I.free
    ·exact ad hc I.free
   ·rcases hc with rfl | hc
    ·exact ad q fa
    ·exact ad hc fa
structure KySt(X:Cx)(pins:List (Addr×Obj))(σ:St)(ρ:List Addr)(M:Mem)(m:Str->Option Value)(kS aD:Addr)(e1:Nat)(H0 H:Hp)(s:Shared)(ks:List Value)(e:Nat):Prop where
 inv:Inv X pins σ H s
 ns:s.heap.Ns X.env.locals m
 sm:Sim X.K ρ M H
 gr:Grow X.K ρ H0 ρ H
 hk:s.heap.get? kS=some (seqObj "list" (ABf ks) e)
 hd:s.heap.get? aD=some (seqObj "list" #[] e1)
 ok:Own X pins H kS
 od:Own X pins H aD
 ne:aD≠kS
theorem FW(n:h.Ns L m):Fr (Att.noObjs h0) L h m :=
 ⟨n,λb o e=>(by rw[Att.noObjs_get]at e;cases e),AAV _⟩
theorem sn(hne:d≠L)(ho:h.get? d=some od):News (Att.noObjs h0) L h ((d,od)::Att.ledger h L d):=by
 rintro⟨a,o⟩ hp
 rcases AAF.mp hp with e | hp
 ·cases e
  exact⟨ho,hne,Att.noObjs_get _ _⟩
 ·obtain⟨n1,n2,e⟩:=Att.mem_ledger.mp hp
  exact⟨e,n1,Att.noObjs_get _ _⟩
theorem kF(N:News (Att.noObjs h0) L h' ((d,o)::Att.ledger h L d)):∀b u,b≠L->b≠d->h.get? b=some u->h'.get? b=some u :=
 λb u h1 h2 e=>(N (b,u) (AA8 _ (Att.mem_ledger.mpr ⟨h1,h2,e⟩))).1
abbrev KeyG(X:Cx)(pins:List (Addr×Obj))(σ:St)(ρ:List Addr)(M:Mem)(f:Addr)(key:D->D)(xs:List D):Prop:=∀(s:Shared) (H:Hp) (d:D) (v:V) (u:Value),d∈xs->Inv X pins σ H s->Sim X.K ρ M H->Rep X.K ρ H d v->aU v u ->
 codeAny (model X.prog X.w) X.A.in1.in1 (.call (.ref f) ⟨[u],[]⟩) (CR CX0 X.stack X.prog X.w H s (λv' H'=>VQ X.K ρ H (λx M'=>x=key d/\M'=M) v' H') E0) s
theorem DU{f:Addr}{key:D->D}{xs:List D}(G:KeyG X pins σ ρ M f key xs){h0:Heap}{m:Str->Option Value}{aD kS:Addr}{e1:Nat}{H0:Hp}
  {Fin:List Value->Nat->Shared->Prop}{keys:List D} (fin:∀H s kvs ks e,KySt X pins σ ρ M m kS aD e1 H0 H s ks e->Reps X.K ρ H keys kvs->az kvs ks->Fin ks e s) :
  ∀(r:List D) (ws:List V) (its:List Value) (done:List D) (kvs:List V) (ks:List Value) (e:Nat) (H:Hp) (s:Shared),KySt X pins σ ρ M m kS aD e1 H0 H s ks e->Reps X.K ρ H r ws->az ws its->Reps X.K ρ H done kvs->az kvs ks ->
   done++r.map key=keys->(∀d∈r,d∈xs)->KatKeys X.prog X.w X.A.in1.in1 (Att.noObjs h0) X.env.locals m kS (.ref f) Fin its ks e s:=by
 intro r
 induction r with
 | nil =>
  intro ws its done kvs ks e H s g r v rd vd hk _
  obtain rfl:=Reps.inv_nil r
  obtain rfl:=az.inv_nil v
  refine KatKeys.nil (fin H s kvs ks e g ?_ vd)
  rw[<-hk,ACA,AB8]
  exact rd
 | cons d r ih =>
  intro ws its done kvs ks e H s g rr v rd vd hk hP
  obtain⟨vd1,ws,rfl,r1,rr⟩:=Reps.inv_cons rr
  obtain⟨u,its,rfl,ru,v⟩:=az.inv_cons v
  have I:=g.inv
  refine KatKeys.cons (wpAny_call (AE5 (G s H d vd1 u (hP d AAG) I g.sm r1 ru) λres s' hq=>?_))
  cases res with
  | error e=>exact hq.elim
  | ok fl =>
   cases fl with
   | next=>exact hq.elim
   | brk=>exact hq.elim
   | cont=>exact hq.elim
   | ret u' =>
    obtain⟨v',H',os,bare,un,hok,rv,q⟩:=hq
    obtain⟨hh,gg,dr,tk,os'⟩:=s'
    obtain rfl:os'=s.os:=os
    obtain⟨_,_,ρ',s1,g1,r1',rfl,rfl⟩:=q
    have eρ:ρ'=ρ:=by
     obtain⟨t,rfl⟩:=g1.pre
     have h1:=s1.len
     have h2:=g.sm.len
     rw[AA9]at h1
     rw[ACb (show t.length=0 by lia),AB8]
    subst eρ
    have J:Inv X ((kS,seqObj "list" (ABf ks) e)::(aD,seqObj "list" #[] e1)::pins) σ H s:=I.pins_of λp hp=>by
     rcases AAF.mp hp with rfl | hp
     ·exact⟨g.hk,g.ok.un,g.ok.ne,g.ok.fs,λ_ z=>nomatch z⟩
     ·rcases AAF.mp hp with rfl | hp
      ·exact⟨g.hd,g.od.un,g.od.ne,g.od.fs,λ_ z=>nomatch z⟩
      ·exact I.pin p (AAR _ hp)
    have J':=J.call (h':=hh) (g':=gg) (d':=dr) (t':=tk) (ch:=[]) un hok bare (λb z=>absurd z (by simp))
    have pk:=J'.pin (kS,_) (AAR _ AAG)
    have pd:=J'.pin (aD,_) (AAR _ (AA8 _ AAG))
    have I':Inv X pins σ H' ⟨hh,gg,dr,tk,s.os⟩:=J'.pins_of λp hp=>J'.pin p (AAR _ (AA8 _ (AA8 _ hp)))
    have ns':hh.Ns X.env.locals m:=by
     obtain⟨o,es,ep,ho,bm⟩:=g.ns
     obtain⟨sl,hL⟩:=un.any ho I.free (by simp)
     exact⟨_,es,ep,hL,bm⟩
    have ok':Own X pins H' kS:=⟨pk.2.1,g.ok.ne,g.ok.fs,g.ok.s0,g.ok.cl,g.ok.pn⟩
    have od':Own X pins H' aD:=⟨pd.2.1,g.od.ne,g.od.fs,g.od.s0,g.od.cl,g.od.pn⟩
    refine KatBack.intro (s:=⟨hh,gg,dr,tk,s.os⟩) (FW ns') (sn ok'.ne pk.1) (UpdF.head λp hp=>(Att.mem_ledger.mp hp).2.1) λh2 c F2 N2=>?_
    have kp:=kF N2
    refine ih ws its (done++[key d]) (kvs++[v']) (ks++[u']) c H' _ ⟨I'.turnF ok' kp ns' F2.ns,F2.ns,s1,⟨g.gr.pre,λx xs h=>g1.tup x xs (g.gr.tup x xs h),λx o h=>g1.fr x o (g.gr.fr x o h)⟩,(N2 _ AAG).1,kp aD _ od'.ne g.ne pd.1,ok',od',g.ne⟩ (rr.grow g1) v
     ((rd.grow g1).append (.cons r1' .nil)) (vd.append (.cons rv .nil)) (by rw[<-hk,AAH,AAs];rfl) λx hx=>hP x (AA8 _ hx)
theorem uu{k n:Nat}{f l:Addr}{o:Obj}{s:Shared}{H:Hp}{xs:List D}{ws:List V}{its:List Value}{key:D->D}{R:VK}(G:KeyG X pins σ ρ M f key xs)(hr:Room (k+2) X.A)
  (I:Inv X pins σ H s) (sm:Sim X.K ρ M H) (r:Reps X.K ρ H xs ws) (rr:az ws its) (ho:s.heap.get? l=some o) (hc:o.cls=.type "list"\/o.cls=.type "tuple") (hd:o.data=.seq its.toArray n) (h64:its.length<64) (so:SrtG M (xs.map key)) (kk:∀v H',(∀Q:DK,(∀ys,ys.Perm xs->ys.Pairwise (λa b=>ltD M eqN (key b) (key a)=false)->Q (.ref M.length) (M++[.lst ys]))->VQ X.K ρ H Q v H')->R v H') :
  wpAny (model X.prog X.w) X.A (call (.builtin "sorted") [.ref l] [(AA1 "key",.ref f)]) (EP X pins σ R) X.xe s:=by
 have lw:=r.length
 have li:=rr.length
 have few:its.length<=sizeLine:=by rw[ABa];lia
 refine call_function_entry_kw kind_sorted plain_sorted entry_sorted (ksk_s1 _ _) ?_
 unfold Builtin.«sorted»
 refine AA0 (m:=checkCount "sorted" 1 1 _) (AA7 (AA0 (tq ho hc hd (AA0 (ADC ?_ few)) few)))
 generalize hg:((s.heap.push (seqObj "list" #[] 0)).update s.heap.objs.size (ABF (· ++ its.toArray)))=g1
 have hsz:g1.objs.size=s.heap.objs.size+1:=by rw[<-hg,Heap.size_update,size_push']
 have k1:∀b o,s.heap.get? b=some o->g1.get? b=some o:=λb o q=>by
  have hlt:=AAM q
  rw[<-hg,ABi _ _ _ _ (AAQ hlt),Heap.get?_push_ne _ _ _ (AAQ hlt)]
  exact q
 show wpAny _ _ _ _ _ { s with heap:=g1.push (seqObj "list" its.toArray 0) }
 have hoL:(g1.push (seqObj "list" its.toArray 0)).get? g1.objs.size=some (seqObj "list" its.toArray 0):=AAE _ rfl
 refine AA0 (AAr (wpAny_call_entry_kw slot_list_sort (⟨_,hoL,rfl⟩) entry_list_sort ?body (ksk_l1 _ _)))
 case body =>
  show wpAny (model X.prog X.w) X.A.in1.in1 (Builtin.«list.sort» ⟨[.ref g1.objs.size],[(AA1 "key",.ref f)]⟩) _ _ _
  rw[ksk_t1]
  unfold ksk_tree
  refine AA0 (ADY hoL rfl (AA0 (ACo hoL rfl ?_ (by rw[AAB];exact few) (AAV _))))
  obtain⟨e1,ho1⟩:∃e1,((g1.push (seqObj "list" its.toArray 0)).update g1.objs.size (ABF λ_=>(#[]:Array Value))).get? g1.objs.size=some (seqObj "list" #[] e1):=⟨_,ACQ hoL λ_=>#[]⟩
  refine AA0 (seqEpoch_at ho1 rfl (AA0 (wpAny_newTuple (AA0 (ADC (AAr ?_) (AAV _))) few)))
  have k2:∀b o,s.heap.get? b=some o->((g1.push (seqObj "list" its.toArray 0)).update g1.objs.size (ABF λ_=>(#[]:Array Value))).get? b=some o:=λb o q=>by
   rw[ABi _ _ _ _ (AAQ (by rw[hsz];exact ACO (AAM q)))]
   exact AA6 _ (k1 b o q)
  have hsz2:((g1.push (seqObj "list" its.toArray 0)).update g1.objs.size (ABF λ_=>(#[]:Array Value))).objs.size=g1.objs.size+1:=by rw[Heap.size_update,size_push']
  generalize ((g1.push (seqObj "list" its.toArray 0)).update g1.objs.size (ABF λ_=>(#[]:Array Value)))=g2 at ho1 k2 hsz2 ⊢
  dsimp only
  have k3:∀b o,g2.get? b=some o->((g2.push (seqObj "tuple" its.toArray 0)).push (seqObj "list" #[] 0)).get? b=some o:=λb o q=>AA6 _ (AA6 _ q)
  have hk3:((g2.push (seqObj "tuple" its.toArray 0)).push (seqObj "list" #[] 0)).get? (g2.push (seqObj "tuple" its.toArray 0)).objs.size=some (seqObj "list" #[] 0):=AAE _ rfl
  have hsz3:(g2.push (seqObj "tuple" its.toArray 0)).objs.size=g2.objs.size+1:=size_push' _ _
  generalize (g2.push (seqObj "tuple" its.toArray 0)).objs.size=kS at hk3 hsz3 ⊢
  generalize ((g2.push (seqObj "tuple" its.toArray 0)).push (seqObj "list" #[] 0))=g3 at hk3 k3 ⊢
  generalize g1.objs.size=aD at ho1 hsz hsz2 ⊢
  obtain⟨m,hn,_⟩:=I.loc
  have st:KySt X pins σ ρ M m kS aD e1 H H { s with heap:=g3 } [] 0 :=
   ⟨I.kept (t':=s.toks) λb o q=>k3 b o (k2 b o q),(by obtain⟨o',es,ep,ho',bm⟩:=hn;exact⟨o',es,ep,k3 _ _ (k2 _ _ ho'),bm⟩),sm,.refl,hk3,k3 _ _ ho1,I.own (by rw[hsz3,hsz2,hsz];exact ADc _ 3),I.own (by rw[hsz];exact ADc _ 1),by rw[hsz3,hsz2];exact AAQ (Nat.lt_add_of_pos_right (by decide:0<2))⟩
  have hr2:Room k X.A.in1.in1:=(Room.in1 (k:=k+1) hr).in1
  refine DR (h₀:=Att.noObjs s.heap) (L:=X.env.locals) (m:=m) (Fin:=λks e s'=>∃H' kvs,KySt X pins σ ρ M m kS aD e1 H H' s' ks e/\Reps X.K ρ H' (xs.map key) kvs/\az kvs ks) hk3 h64 (λks e s' hl ⟨H',kvs,g,rk,vk⟩=>?_)
   (DU G (λH' s' kvs ks e g r v=>⟨H',kvs,g,r,v⟩) xs ws its [] [] [] 0 H _ st r rr .nil .nil rfl λ_ q=>q)
  have fin:∀ys zs out,Reps X.K ρ H' ys zs->az zs out->ys.Perm xs->ys.Pairwise (λa b=>ltD M eqN (key b) (key a)=false)->KatFin (Att.noObjs s.heap) X.env.locals m kS aD ks e e1 out (λs4=>EP X pins σ R (.ref aD) s4) s':=λys zs out ry vy hp hw=>by
   refine KatFin.intro (FW g.ns) (sn g.ok.ne g.hk) (UpdF.head λp hp=>(Att.mem_ledger.mp hp).2.1) λh2 c F2 N2=>?_
   have kp:=kF N2
   refine KasFin.intro (s:={ s' with heap:=h2 }) (FW F2.ns) (sn g.od.ne (kp aD _ g.od.ne g.ne g.hd)) (UpdF.head λp hp=>(Att.mem_ledger.mp hp).2.1) λh3 c3 F3 N3=>?_
   refine⟨.ref aD,_,(g.inv.turnF g.ok kp g.ns F2.ns).adoptF (o:=.lst zs) g.od (kF N3) F2.ns F3.ns ⟨?_,out,c3,vy,(N3 _ AAG).1⟩,rfl,kk _ _ λQ hQ=>VQ.laidL g.sm g.gr ry g.od.un (hQ ys hp hw)⟩
   rw[<-ry.length,hp.length_eq,lw,li]
   exact few
  by_cases h2:its.length<2
  ·refine DV (hl) h2 ((fin xs ws its (r.grow g.gr) rr (List.Perm.refl _) ?_).mono λs4 hq=>⟨_,rfl,AA7 ⟨_,rfl,hq⟩⟩)
   match xs,(show xs.length<2 by lia) with
   | [],_=>exact ADN
   | [x],_=>exact ACa _ _
   | _::_::_,hx=>simp at hx;lia
  ·have h2':2<=its.length:=by lia
   refine kat_end (b:=false) (h₀:=Att.noObjs s.heap) (L:=X.env.locals) (m:=m) (e:=e) hl h2' h64 ?_
   have hu:X.A.in1.in1.units+eqN<cLine:=by
    have:=hr.un
    have:eqN=30:=rfl
    show X.A.units+1+1+eqN<cLine
    lia
   have kl:ks.length=xs.length:=by lia
   refine ABc (jW g.inv g.sm so rk vk (by lia) hu) (λκ s'' hk=>?_) λ_ _ x=>x
   obtain⟨rfl,hask⟩:=hk
   show (ADV its.length).kasWp (kas_ask X.prog X.w X.A.in1.in1 κ ks) (λp s3=>KatFin (Att.noObjs s.heap) X.env.locals m kS aD ks e e1 (p.toList.map λi=>its.getD i ABO) _ s3) _
   have kget:∀i,i<xs.length->(xs.map key).getD i default=key (xs.getD i default):=λi hi=>by
    rw[AAK,AAK,AAU,AA5 hi]
    rfl
   refine Srt.wp_run (n:=its.length) (c:=λi j=>if i<xs.length then(if j<xs.length then ltD M eqN (key (xs.getD i default)) (key (xs.getD j default))else true)else false) (λi j C hi hj hc=>?_) _ (Srt.sort_bd (by lia)).1 ?_
   ·refine hask i j C (by lia) (by lia) ?_
    rw[if_pos (by lia),if_pos (by lia)]at hc
    unfold ltc
    rw[kget i (by lia),kget j (by lia)]
    exact hc
   ·have hent:=Srt.All.run (c:=λi j=>if i<xs.length then(if j<xs.length then ltD M eqN (key (xs.getD i default)) (key (xs.getD j default))else true)else false) _ (Srt.sort_bd (n:=its.length) (by lia)).2
    obtain⟨o1,o2,o3⟩:=EG so
    have hm:∀x∈xs,key x∈xs.map key:=λx hx=>ABI hx
    have hsl:=Srt.sort_list (lt:=λa b=>ltD M eqN (key a) (key b)) xs (by lia) (λa ha=>o1 _ (hm a ha)) (λa ha b hb d hd=>o2 _ (hm a ha) _ (hm b hb) _ (hm d hd)) (λa ha b hb d hd=>o3 _ (hm a ha) _ (hm b hb) _ (hm d hd))
    try dsimp only at hsl
    rw[show xs.length=its.length by lia]at hsl hent ⊢
    generalize Srt.run _ (ADV its.length)=p at hent hsl ⊢
    have hi:∀i∈p.toList,i<xs.length:=λi h=>by
     have:=hent.mem_iff.mp h
     rw[ABK]at this
     lia
    exact(fin _ _ _ ((r.grow g.gr).perm p.toList hi) (rr.perm p.toList λi h=>by have:=hi i h;lia) hsl.1 hsl.2).mono λs4 hq=>⟨_,rfl,AA7 ⟨_,rfl,hq⟩⟩
def jZ(P:DSp):DRA:=λds M1 Q=>match ds with
 | [x]=>∃xs key,(x=.tup xs\/∃n,x=.ref n/\ao M1 n xs)/\(∀d∈xs,P [d] M1 λy M'=>y=key d/\M'=M1)/\SrtG M1 (xs.map key)/\∀ys,ys.Perm xs->ys.Pairwise (λa b=>ltD M1 eqN (key b) (key a)=false)->Q (.ref M1.length) (M1++[.lst ys])
 | _=>False
theorem Fu(C:Cal X.prog X.w X.K X.mg X.base j x ps P)(hr:Room k X.A)(he:HA X [e] t)(hm:X.mg "sorted" = none)(hj:Nat.ble (j+2) k=true:=by kernel_rfl)
  (hg:X.env.kindOf x=some .globalImplicit:=by kernel_rfl) (hdb:(x==("__debug__":Str))=false:=by kernel_rfl) (hg1:X.env.kindOf "sorted" = some .globalImplicit:=by kernel_rfl) (hs:starEach [e] X.env=[(false,eval e X.env)]:=by kernel_rfl) :
  HE X (.Call (.Name "sorted" p) [e] [⟨some "key",.Name x p2,kpos⟩] pos) (dCB (jZ P) t):=by
 obtain⟨f,fd,F,hmx,hk,hb⟩:=C
 refine⟨λpins s σ H R I h=>?_⟩
 obtain⟨S,M,ρ,Q,sm,sr,q,kk⟩:=h
 have hr2:=hr.mono (ACC hj)
 refine ABm (gO I hg1 hm qZ ?_ (by decide) (by decide))
 refine callWith_kw (thn (he.ok pos pins s σ H (λvs H1=>AQ X.K ρ H (λds M1=>jZ P ds M1 Q) vs H1) I ⟨S,M,ρ,_,sm,sr,q,λ_ _ z=>z⟩) ?_) (by rw[hs];rfl) (by rw[hs];rfl)
 rintro us s1 ⟨vs,H1,I1,r1,q1⟩
 refine kws_cons (nJ I1 hg hmx (kws_nil ?_) hdb)
 obtain⟨ds,M1,ρ1,sm1,g1,rs,q1⟩:=q1
 unfold jZ at q1
 split at q1
 ·obtain⟨xs,key,hx,hP,so,fin⟩:=q1
  obtain⟨v1,_,rfl,rx,rs⟩:=Reps.inv_cons rs
  obtain rfl:=Reps.inv_nil rs
  obtain⟨u,rfl,ru⟩:=az.one r1
  show wpAny _ _ (call (.builtin "sorted") [u] [(AA1 "key",.ref f)]) _ _ _
  have l64:=so.len
  rw[AA4]at l64
  have G:KeyG X pins σ ρ1 M1 f key xs:=λs H d v u hm I sm r ru=>by
   have hsp:spL X.K P ([v]++[]) H (λv' H'=>VQ X.K ρ1 H (λx M'=>x=key d/\M'=M1) v' H') E0:=⟨[d],M1,ρ1,_,sm,.cons r .nil,hP d hm,λ_ _ q=>q⟩
   have r2:az ([v]++[]) ([u]++[]):=.cons ru .nil
   have hl:([u]++[]).length=ps.length:=by rw[<-r2.length];exact F.len _ _ _ _ hsp
   exact F.run _ X.stack s H ⟨[u],[]⟩ _ _ _ E0 (Room.in1 (k:=j+1) hr2).in1 I.env0.in1.in1 (hb s [u] I.kIn hl) r2 hsp
  rcases hx with rfl | ⟨n,rfl,hL⟩
  ·obtain⟨a,vs,rfl,hq,r⟩:=Rep.inv_tup rx
   cases ru
   obtain⟨its,rr,⟨o,ho,hc,n,hd⟩,_⟩:=I1.tuple hq
   have h1:=r.length
   have h2:=rr.length
   exact uu G hr2 I1 sm1 r rr ho (.inr hc) hd (by lia) so λv H' z=>kk v H' (VQ.trans g1 (z Q fin))
  ·obtain⟨a,rfl,en⟩:=Rep.inv_ref rx
   cases ru
   obtain⟨vs,hq,r⟩:=ao.seq sm1 hL en
   obtain⟨its,rr,⟨o,n,ho,hc,_,hd⟩,_⟩:=I1.list hq
   have h1:=r.length
   have h2:=rr.length
   exact uu G hr2 I1 sm1 r rr ho (.inl hc) hd (by lia) so λv H' z=>kk v H' (VQ.trans g1 (z Q fin))
 ·exact q1.elim
def Gw:DTE:=λ_ _ _=>False
theorem Fw:HE X e Gw:=⟨λ_ _ _ _ _ _ h=>by obtain⟨_,_,_,_,_,_,q,_⟩:=h;exact q.elim⟩
structure BlkScC(X:Cx)(N':List Str)(nt:Nat)(js:List Nat)(scope:Scope):Prop where
 kind:scope.kind=.function
 kinds:∀y∈scope.names,scope.names.lookup y.1=some y.2
 free:∀y∈scope.names,y.2=.free->(X.env.kindOf y.1=some .cell\/X.env.kindOf y.1=some .free)
 len:N'.length=nt+js.length
 fr:∀(k j:Nat),js[k]?=some j->∃x,N'[nt+k]?=some x/\X.N[j]?=some x/\scope.names.lookup x=some .free/\(X.env.kindOf x=some .cell\/X.env.kindOf x=some .free)
structure CfOk(h:Heap)(k:Nat)(names:List (Str×NameKind))(acc cs:List (Str×Addr)):Prop where
 look:∀z c,cs.lookup z=some c->(acc.lookup z=some c/\(z,ACY)∉names)\/((z,ACY)∈names/\k<=c/\h.IsCell c none)
 inj:∀y z c,cs.lookup y=some c->cs.lookup z=some c->y=z
 old:∀z c,acc.lookup z=some c->∃c',cs.lookup z=some c'
 new:∀z,(z,ACY)∈names->∃c,cs.lookup z=some c
def Gn(i:Nat):DTG:=ax i
end L2
namespace L2
open PySem PySem.Spec PyProof.Rows DL
def GtAt(A:Around)(s:Shared)(x y:Value)(k:Bool):Prop:=∀(prog:Program) (w:World) (E:Value->Shared->Prop) (Q:Value->Shared->Prop),Q (.bool k) s->wpAny (model prog w) A (richCompare .Gt x y) Q E s
inductive GexAt(A:Around)(s:Shared):List Value->List Value->Bool->Prop
 | nn:GexAt A s [] [] false
 | nc {y:Value}{ys:List Value}:GexAt A s [] (y::ys) false
 | cn {x:Value}{xs:List Value}:GexAt A s (x::xs) [] true
 | eq {x y:Value}{xs ys:List Value}{k:Bool} (h:ACP A s x y true) (t:GexAt A s xs ys k):GexAt A s (x::xs) (y::ys) k
 | ne {x y:Value}{xs ys:List Value}{k:Bool} (h:ACP A s x y false) (t:GtAt A s x y k):GexAt A s (x::xs) (y::ys) k
section
open PySem.W
structure ExcK(K:Frag)(D:Addr):Prop where
 ga:findIn K (.ref D) "__getattribute__" = some (some (.builtin "BaseException.__getattribute__"))
 gt:findIn K (.ref D) "__getattr__" = some none
 mb:mroIn K D (.type "BaseException")=some true
 mo:mroIn K D (.type "object")=some true
 cl:findIn K (.ref D) "__class__" = some (some (.builtin "object.__class__"))
end
noncomputable def trO(o:Obj)(T:Addr):Obj:=o.mapFields (·.setIfInBounds 1 (.ref T))
inductive TrX(h base:Heap)(l:List Env)(e:Addr)(o:Obj)(fl:Value):Prop
 | mk (T:Addr) (oT:Obj) (vs ts:Array Value) (st:base.StaysIn h) (nw:base.get? e=none) (ff:h.FunFrames base l) (d:o.data=.fields vs) (sz:1<vs.size) (at_:h.get? e=some (trO o T))
  (nT:base.get? T=none) (ne:T≠e) (aT:h.get? T=some oT) (dT:oT.data=.fields ts) (h3:ts[3]?=some fl)
inductive Fly(P:Program)(w:World)(stk:List Env)(H:Hp)(h0:Heap)(a:Addr)(C:Value)(H1:Hp)(h:Heap):Prop
 | mk (B:Heap) (o:Obj) (ix:IsX o C) (fly:TrX h B stk a o .none) (un:Un (frs stk) [] H H1 h0 h) (hok:HOk P w H1 h)
  (old:∀b o,h0.get? b=some o->b∉frs stk->∃o',B.get? b=some o'/\(H b=none->o'=o)) (trk:∀b u,H1 b=some u->∃o,B.get? b=some o)
structure DefX(X:Cx):Prop where
 stk:X.stack=X.env::X.outer
 fr:X.env.frame=some X.env.locals
 ex:X.ex=[]
def CXe(P:Program)(w:World):CXT:=λstk H s E e s'=>∃a C H1,e=.ref a/\s'.os=s.os/\AllBare s'.gens/\Fly P w stk H s.heap a C H1 s'.heap/\E C none H1
noncomputable abbrev vE:List Value:=[.type "ValueError",.type "Exception",.type "BaseException",.type "object"]
abbrev DX:=Str->Mem->Prop
abbrev DTX:=DX->DTS
abbrev DTEX:=DX->DTE
abbrev DSpX:=List D->Mem->DK->DX->Prop
inductive XQ(K:AA2)(ρ:List Addr)(H:Hp)(R:DX)(C:Value)(dx:Option Addr)(H':Hp):Prop
 | mk (x:Str) (c:Addr) (M':Mem) (ρ':List Addr) (e:C=.ref c) (hx:ABC K mainGlobals x=some (some (.ref c))) (s:Sim K ρ' M' H') (g:Grow K ρ H ρ' H') (q:R x M')
inductive lowX(K:AA2)(E:XK)(t:DTX)(D:Ends)(σ:St)(H:Hp):Prop
 | mk (S:SD) (M:Mem) (ρ:List Addr) (F:DEnds) (R:DX) (s:Sim K ρ M H) (sr:SRep K ρ H S σ) (q:t R F S M) (k:Ups K ρ H F D) (x:∀C dx H',XQ K ρ H R C dx H'->E C dx H')
inductive lowXE(K:AA2)(E:XK)(t:DTEX)(σ:St)(H:Hp)(Q:VK):Prop
 | mk (S:SD) (M:Mem) (ρ:List Addr) (F:DK) (R:DX) (s:Sim K ρ M H) (sr:SRep K ρ H S σ) (q:t R S M F) (k:∀v H',VQ K ρ H F v H'->Q v H') (x:∀C dx H',XQ K ρ H R C dx H'->E C dx H')
structure XA(b:Bool)(X:Cx)(pins:List (Addr×Obj))(E:XK)(P:St->Prop)(Ex:Value->Shared->Prop):Prop where
 on:∀σ H1 s1 e s',P σ->Inv X pins σ H1 s1->CXe X.prog X.w X.stack H1 s1 E e s'->Ex e s'
 all:b=true->∀σ,P σ
 made:b=true->∀σ H1 s1 h' e C vs,Inv X pins σ H1 s1->Heap.MadeExcOf s1.heap h' e C vs->E C none H1->Ex (.ref e) { s1 with heap:=h' }
structure HX(b:Bool)(X:Cx)(st:Stmt)(t:DTX):Prop where
 ok:∀(pins:List (Addr×Obj)) (s:Shared) (σ:St) (H:Hp) (D:Ends) (E:XK) (P:St->Prop) (Ex:Value->Shared->Prop),XA b X pins E P Ex->P σ->Inv X pins σ H s->lowX X.K E t D σ H->wpAny (model X.prog X.w) X.A (exec st X.env) (SP X pins D) Ex s
structure HXs(b:Bool)(X:Cx)(st:List Stmt)(t:DTX):Prop where
 ok:∀(pins:List (Addr×Obj)) (s:Shared) (σ:St) (H:Hp) (D:Ends) (E:XK) (P:St->Prop) (Ex:Value->Shared->Prop),XA b X pins E P Ex->P σ->Inv X pins σ H s->lowX X.K E t D σ H->wpAny (model X.prog X.w) X.A (execs st X.env) (SP X pins D) Ex s
structure HXE(b:Bool)(X:Cx)(e:Expr)(t:DTEX):Prop where
 ok:∀(pins:List (Addr×Obj)) (s:Shared) (σ:St) (H:Hp) (Q:VK) (E:XK) (P:St->Prop) (Ex:Value->Shared->Prop),XA b X pins E P Ex->P σ->Inv X pins σ H s->lowXE X.K E t σ H Q->wpAny (model X.prog X.w) X.A (eval e X.env) (EP X pins σ Q) Ex s
structure ClsX(K:AA2)(x:Str)(C:Addr):Prop where
 at_:ABC K mainGlobals x=some (some (.ref C))
 exc:PySem.W.excIn K C vE "ValueError.__new__" = true
 own:ExcK K C
 val:AEA K (.ref C) (.type "ValueError")=some true
structure RoomH(k:Nat)(A:Around):Prop where
 dp:A.depth+3*k+5<recursionLimit
 un:A.units+16*k+200<cLine
def KD(A:Around)(H:Hp):Prop:=∃a o C,A.handled=some (.ref a)/\H a=some (.frz o (.own a))/\IsX o C
structure FnH(P:Program)(w:World)(K:AA2)(mg:Str->Option Value)(base:Heap)(k:Nat)(f:Addr)(fd:FuncData)(ps:List Str)(sp:Sp):Prop where
 len:∀vs H Q E,sp vs H Q E->vs.length=ps.length
 run:∀(A:Around) (outer:List Env) (s:Shared) (H:Hp) (args:Args) (us:List Value) (vs:List V) (Q:VK) (E:XK),RoomH k A->KD A H->Env0 P w K mg base A outer s H->BindsTo s fd args (ps.zip us)->az vs us->sp vs H Q E ->
  codeAny (model P w) A (.call (.ref f) args) (CR CX0 outer P w H s Q E) s
end L2
namespace L2
open PySem PySem.Spec PyProof.Rows DL PySem.W
end L2
namespace L2
open PySem PySem.Spec PyProof.Rows DL
def pT(n:Nat):DRA:=λds M Q=>match ds with
 | []=>∃xs,M[n]?=some (.lst xs)/\Q .non (M.set n (.lst []))
 | _=>False
theorem yK:MtR X "list.clear" (nu X.K pT):=by
 rintro pins s σ H x xs v us R I rx rs ⟨n,a,ds,M,ρ,Q,ez,hn,sm,rr,q,k⟩
 unfold pT at q
 split at q
 ·obtain⟨ys,e,q⟩:=q
  obtain rfl:=Reps.inv_nil rr
  obtain⟨vs,hH,r⟩:=sm.obj n a _ hn e
  obtain⟨w1,w2⟩:=sm.write hn e hH (ds':=[]) .nil
  exact Bp pins s σ H x _ v us R I rx rs ⟨a,vs,ez,rfl,hH,k _ _ ⟨.non,_,ρ,w1,w2,.non,q⟩⟩
 ·exact q.elim
theorem BS:HMl X "clear" pT:=⟨_,PySem.F.slot_list_clear,PySem.F.type_list_clear,yK⟩
abbrev DTAX:=DX->DTA
inductive lowXA(K:AA2)(E:XK)(t:DTAX)(σ:St)(H:Hp)(Q:List V->Hp->Prop):Prop
 | mk (S:SD) (M:Mem) (ρ:List Addr) (F:List D->Mem->Prop) (R:DX) (s:Sim K ρ M H) (sr:SRep K ρ H S σ) (q:t R S M F) (k:∀v H',AQ K ρ H F v H'->Q v H') (x:∀C dx H',XQ K ρ H R C dx H'->E C dx H')
structure HXA(b:Bool)(X:Cx)(es:List Expr)(t:DTAX):Prop where
 ok:∀(pos:Pos) (pins:List (Addr×Obj)) (s:Shared) (σ:St) (H:Hp) (Q:List V->Hp->Prop) (E:XK) (P:St->Prop) (Ex:Value->Shared->Prop),XA b X pins E P Ex->P σ->Inv X pins σ H s->lowXA X.K E t σ H Q->wpAny (model X.prog X.w) X.A (spliced (backTo pos (starEach es X.env))) (AP X pins σ Q) Ex s
end L2
namespace L2
open PySem PySem.Spec PyProof.Rows DL PySem.W
end L2
namespace L2
open PySem PySem.Spec PyProof.Rows DL
noncomputable def asT(M:Mem):D->D
 | .ref i=>match M[i]? with
  | some a=>.tup a.items
  | none=>.non
 | _=>.non
structure SrtR(M:Mem)(xs:List D):Prop where
 len:xs.length<64
 ls:∀x∈xs,∃n a,x=.ref n/\M[n]?=some a/\a.isL=true
 ok:∀x∈xs,okP eqN (asT M x)=true
 cm:∀x∈xs,∀y∈xs,gZ M eqN (asT M x) (asT M y)=true
def KC(K:AA2)(c:Str)(C:Addr):Prop:=ABC K mainGlobals c=some (some (.ref C))/\Cls K C
def tE(K:AA2)(c f:Str):Prop:=∃C,KC K c C/\ln K C f
def Dt(P:Program)(w:World)(K:AA2)(mg:Str->Option Value)(base:Heap)(k:Nat)(c m:Str)(ps:List Str)(Pr:DSp):Prop :=
 ∃C f fd,KC K c C/\Meth K C m f/\FnOk P w K mg base CX0 k f fd ps (spL K Pr)/\ic K fd ps []
def KF(P:Program)(w:World)(K:AA2)(mg:Str->Option Value)(base:Heap)(k:Nat)(c:Str)(ps:List Str)(Pr:DSp):Prop :=
 ∃C f fd,KC K c C/\mg c=some (.ref C)/\Mk K C f/\FnOk P w K mg base CX0 k f fd ps (spL K Pr)/\ic K fd ps []
def MtAt(K:AA2)(c m q:Str)(st:Stmt)(ps:List Str):Prop :=
 ∃C f fd,KC K c C/\Meth K C m f/\Fun K m q st f fd/\ic K fd ps []
def InAt(K:AA2)(mg:Str->Option Value)(c q:Str)(st:Stmt)(ps:List Str):Prop :=
 ∃C f fd,KC K c C/\mg c=some (.ref C)/\Mk K C f/\Fun K "__init__" q st f fd/\ic K fd ps []
section
variable{P:Program}{w:World}{K:AA2}{mg:Str->Option Value}{base:Heap}{k:Nat}{c m q:Str}{st:Stmt}{N ps:List Str}{Pr:DSp}{t:DTS}{B:List Str}{C:List (Str×Int)}
theorem Dt.byD(T:TopB mg B C)(F:MtAt K c m q st ps)(Sc:FnScope N ps (aw st))(len:bQ Pr ps)(der:TopB mg B C->N.Nodup->DerT P w K mg base k q N st t)(wp:∀ds M R,Pr ds M R->t (EE M R) (bL N ds) M):Dt P w K mg base (k+1) c m ps Pr:=by
 obtain⟨C',f,fd,i,h,F,b⟩:=F
 exact⟨C',f,fd,i,h,d_fn Pr F Sc len (λcdv A outer s H E hr=>⟨t,(der T Sc.nd f cdv A outer s H E hr).ok,wp⟩),b⟩
theorem KF.byD(T:TopB mg B C)(F:InAt K mg c q st ps)(Sc:FnScope N ps (aw st))(len:bQ Pr ps)(der:TopB mg B C->N.Nodup->DerT P w K mg base k q N st t)(wp:∀ds M R,Pr ds M R->t (EE M R) (bL N ds) M):KF P w K mg base (k+1) c ps Pr:=by
 obtain⟨C',f,fd,i,g,h,F,b⟩:=F
 exact⟨C',f,fd,i,g,h,d_fn Pr F Sc len (λcdv A outer s H E hr=>⟨t,(der T Sc.nd f cdv A outer s H E hr).ok,wp⟩),b⟩
variable{h:Heap}{D f:Addr}{oc:Value}{od an:Option Addr}{osl:Array (Option Value)}{kV doc pm cdv ct:Value}
theorem fld_mk(X:K.In h)(a:ABC K mainGlobals c=some (some (.ref D)))(p:AC6 K D Str.empty=true)(hd:ACK K D=true)(po:ACn K D=true)(sa:AAw K (.ref D) "__setattr__" = some (some (.builtin "object.__setattr__")))
  (n:AAw K (.ref D) m=some none):tE K c m:=⟨D,⟨a,p,hd,po,sa⟩,n⟩
theorem mtat_mk(X:K.In h)(a:ABC K mainGlobals c=some (some (.ref D)))(p:AC6 K D Str.empty=true)(hd:ACK K D=true)(po:ACn K D=true)(sa:AAw K (.ref D) "__setattr__" = some (some (.builtin "object.__setattr__")))
  (n:AAw K (.ref D) m=some (some (.ref f))) (i:AE3 K (.ref f)=true) (l:K.lookup f=some ⟨oc,od,.func (ABd m q (cH st) (bj st) (aw st) .none kV doc pm an cdv ct),osl⟩) (cd:ACu K cdv q=true) (kp:ABY K (.ref f)=true)
  (b:∀(kV doc pm:Value) (an:Option Addr) (cdv ct:Value) (us:List Value),us.length=ps.length->bindArgs (ABd m q (cH st) (bj st) (aw st) .none kV doc pm an cdv ct) ⟨us,[]⟩=pure (ps.zip us)):MtAt K c m q st ps :=
 have F:=zK (st:=st) l cd kp
 ⟨D,f,_,⟨a,p,hd,po,sa⟩,⟨n,i,kp⟩,F,F.binds b⟩
theorem inat_mk(X:K.In h)(G:h.Ns mainGlobals mg)(a:ABC K mainGlobals c=some (some (.ref D)))(p:AC6 K D Str.empty=true)(hd:ACK K D=true)(po:ACn K D=true)(sa:AAw K (.ref D) "__setattr__" = some (some (.builtin "object.__setattr__")))
  (mk:PySem.W.makesIn K D=true) (kc:ABY K (.ref D)=true) (n:AAw K (.ref D) "__init__" = some (some (.ref f))) (i:AE3 K (.ref f)=true) (l:K.lookup f=some ⟨oc,od,.func (ABd "__init__" q (cH st) (bj st) (aw st) .none kV doc pm an cdv ct),osl⟩) (cd:ACu K cdv q=true) (kp:ABY K (.ref f)=true)
  (b:∀(kV doc pm:Value) (an:Option Addr) (cdv ct:Value) (us:List Value),us.length=ps.length->bindArgs (ABd "__init__" q (cH st) (bj st) (aw st) .none kV doc pm an cdv ct) ⟨us,[]⟩=pure (ps.zip us)):InAt K mg c q st ps :=
 have F:=zK (st:=st) l cd kp
 ⟨D,f,_,⟨a,p,hd,po,sa⟩,AEF X G a,⟨mk,n,i,kc⟩,F,F.binds b⟩
end
noncomputable def putI(f:Str)(v:D):List (Str×D)->List (Str×D)
 | []=>[(f,v)]
 | (g,x)::r=>if g=f then(g,v)::r else(g,x)::putI f v r
theorem uy{K:AA2}{ρ:List Addr}{H:Hp}{f:Str}{d:D}{v:V}(h:Rep K ρ H d v):∀{fs:List (Str×D)}{vs:List V},Reps K ρ H (fs.map (·.2)) vs->∃us,oh f v ((fs.map (·.1)).zip vs)=((putI f d fs).map (·.1)).zip us/\Reps K ρ H ((putI f d fs).map (·.2)) us
 | [],vs,r=>by
  obtain rfl:=Reps.inv_nil r
  exact⟨[v],rfl,.cons h .nil⟩
 | (g,x)::fs,vs,r=>by
  obtain⟨u,us,rfl,r1,r2⟩:=Reps.inv_cons r
  by_cases e:g=f
  ·refine⟨v::us,?_,?_⟩
   ·show (if g=f then _ else _)=_
    rw[if_pos e]
    show _=((if g=f then _ else _:List (Str×D)).map (·.1)).zip _
    rw[if_pos e];rfl
   ·show Reps K ρ H ((if g=f then _ else _:List (Str×D)).map (·.2)) _
    rw[if_pos e];exact .cons h r2
  ·obtain⟨us',e1,r'⟩:=uy (f:=f) h (fs:=fs) r2
   refine⟨u::us',?_,?_⟩
   ·show (if g=f then _ else(g,u)::oh f v ((fs.map (·.1)).zip us))=_
    rw[if_neg e,e1]
    show _=((if g=f then _ else _:List (Str×D)).map (·.1)).zip _
    rw[if_neg e];rfl
   ·show Reps K ρ H ((if g=f then _ else _:List (Str×D)).map (·.2)) _
    rw[if_neg e];exact .cons r1 r'
theorem fc{K:AA2}{ρ:List Addr}{H:Hp}{f:Str}:∀{fs:List (Str×D)}{vs:List V},Reps K ρ H (fs.map (·.2)) vs->(∀d,fs.lookup f=some d->∃v,((fs.map (·.1)).zip vs).lookup f=some v/\Rep K ρ H d v)/\(fs.lookup f=none->((fs.map (·.1)).zip vs).lookup f=none)
 | [],_,r=>⟨(λ_ z=>nomatch z),λ_=>by obtain rfl:=Reps.inv_nil r;rfl⟩
 | (g,x)::fs,vs,r=>by
  obtain⟨u,us,rfl,r1,r2⟩:=Reps.inv_cons r
  have ih:=fc (f:=f) r2
  show (∀d,((g,x)::fs).lookup f=some d->∃v,((g,u)::(fs.map (·.1)).zip us).lookup f=some v/\_)/\(((g,x)::fs).lookup f=none->((g,u)::(fs.map (·.1)).zip us).lookup f=none)
  rw[ABL,ABL]
  cases f==g with
  | true=>exact⟨λd e=>⟨u,rfl,by cases e;exact r1⟩,λe=>nomatch e⟩
  | false=>exact ih
theorem Sim.writeI{K:AA2}{ρ:List Addr}{M:Mem}{H:Hp}(S:Sim K ρ M H)(e1:ρ[n]?=some a)(hM:M[n]?=some (.ins c fs))(hC:ABC K mainGlobals c=some (some (.ref C)))(hH:H a=some (.ins C dx us))(r:Reps K ρ H (fs'.map (·.2)) vs') :
  Sim K ρ (M.set n (.ins c fs')) (upd H a (.ins C dx ((fs'.map (·.1)).zip vs')))/\Grow K ρ H ρ (upd H a (.ins C dx ((fs'.map (·.1)).zip vs'))) :=
 S.writeG e1 (λ⟨_,z⟩=>by rw[hM]at z;cases z) hH rfl λg=>⟨C,dx,vs',hC,aL,r.grow g⟩
def Gy(c f:Str)(te:DTE):DTE:=λS M Q=>te S M λd M1=>match d with
 | .ref n=>∃fs v,M1[n]?=some (.ins c fs)/\fs.lookup f=some v/\Q v M1
 | _=>False
def fW(c f:Str)(te tv:DTE):DTS:=λE S M=>tv S M λv M1=>te S M1 λd M2=>match d with
 | .ref n=>∃fs,M2[n]?=some (.ins c fs)/\fs.length<1000/\E.nx S (M2.set n (.ins c (putI f v fs)))
 | _=>False
def qO(c m:Str)(P:DSp)(te:DTE)(t:DTA):DTE:=λS M Q=>te S M λd M1=>match d with
 | .ref n=>(∃fs,M1[n]?=some (.ins c fs)/\fs.lookup m=none)/\t S M1 λds M2=>P (.ref n::ds) M2 Q
 | _=>False
def Gx(c:Str)(P:DSp)(t:DTA):DTE:=λS M Q=>t S M λds M1=>P (.ref M1.length::ds) (M1++[.ins c []]) λv M2=>v=.non/\Q (.ref M1.length) M2
theorem k_fld(F:tE X.K c f)(he:HE X e te)(hb:attributeBase e f X.env (eval e X.env)=eval e X.env:=by kernel_rfl):HE X (.Attribute e f pos) (Gy c f te):=⟨by
 obtain⟨C,⟨hC,cl⟩,na⟩:=F
 refine PE.imp (Ik he.ok hb) ?_
 rintro σ H R ⟨S,M,ρ,Q,s,sr,q,k⟩
 refine⟨S,M,ρ,_,s,sr,q,?_⟩
 rintro v H1 ⟨d,M1,ρ1,s1,g1,r1,q1⟩
 cases d with
 | ref n =>
  obtain⟨fs,d,hn,hf,q1⟩:=q1
  obtain⟨a,rfl,ea⟩:=Rep.inv_ref r1
  obtain⟨C',dx,vs,hC',hH,rr⟩:=s1.obj n a _ ea hn
  obtain rfl:C'=C:=by rw[hC]at hC';cases hC';rfl
  obtain⟨v,hv,rv⟩:=(fc (f:=f) rr).1 d hf
  exact⟨a,C',dx,_,v,rfl,hH,cl,na,hv,k v H1 ⟨d,M1,ρ1,s1,g1,rv,q1⟩⟩
 | _=>exact q1.elim⟩
theorem qz{X:Cx}{o value:Expr}{tv to:DTE}{pos pos':Pos}{c f:Str}(F:tE X.K c f)(ho:HE X o to)(hv:HE X value tv)(hs:swapsWith value (some (.Attribute o f pos')) pos.line X.env=pure false:=by kernel_rfl):HS X (.Assign [.Attribute o f pos'] value pos) (fW c f to tv):=⟨by
 obtain⟨C,⟨hC,cl⟩,na⟩:=F
 refine PS.imp (HR ho.ok hv.ok hs) ?_
 rintro E σ H ⟨S,M,ρ,F,s,sr,q,k⟩
 refine⟨S,M,ρ,_,s,sr,q,?_⟩
 rintro v H1 ⟨d,M1,ρ1,s1,g1,r1,q1⟩
 refine⟨S,M1,ρ1,_,s1,sr.grow g1,q1,?_⟩
 rintro v2 H2 ⟨d2,M2,ρ2,s2,g2,r2,q2⟩
 cases d2 with
 | ref n =>
  obtain⟨fs,hn,hl,q2⟩:=q2
  obtain⟨a,rfl,ea⟩:=Rep.inv_ref r2
  obtain⟨C',dx,vs,hC',hH,rr⟩:=s2.obj n a _ ea hn
  obtain rfl:C'=C:=by rw[hC]at hC';cases hC';rfl
  obtain⟨us,e1,r'⟩:=uy (f:=f) (r1.grow g2) rr
  have w:=s2.writeI ea hn hC hH r'
  refine⟨a,C',dx,_,rfl,hH,cl,na,?_,?_⟩
  ·rw[ADv,AA4];lia
  ·rw[e1]
   exact k.nx _ _ ⟨S,_,ρ2,w.1,(g1.trans g2).trans w.2,sr.grow ((g1.trans g2).trans w.2),q2⟩
 | _=>exact q2.elim⟩
theorem uF{args:List Expr}{pins:List (Addr×Obj)}{s:Shared}{σ:St}{H:Hp}{Q:Value->Shared->Prop}{C f:Addr}{ta:TE}(he:PE X o ta)(hm:Meth X.K C m f)(cl:Cls X.K C)(I:Inv X pins σ H s)
  (hbase:attributeBase o m X.env (eval o X.env)=eval o X.env) (hfew:methodCallForm (args.length+([]:List Keyword).length) (backTo cpos (starEach args X.env)) (backToKw cpos (keywordEach [] X.env))=true) (hline:(apos.endLine==cpos.line)=true)
  (h:ta σ H λx H1=>∃a dx fs,x=.ref a/\H1 a=some (.ins C dx fs)/\fs.lookup m=none/\∀s1,Inv X pins σ H1 s1->wpAny (model X.prog X.w) X.A (callWith cpos (.ref f) [.ref a] (backTo cpos (starEach args X.env)) (backToKw cpos (keywordEach [] X.env))) Q X.xe s1) :
  wpAny (model X.prog X.w) X.A (eval (.Call (.Attribute o m apos) args [] cpos) X.env) Q X.xe s:=by
 have hpos:methodCallPos true o X.env apos cpos=pure cpos:=by unfold methodCallPos;simp[hline]
 rw[arm_eval_Call,hbase]
 refine AA0 (thn (he pins s σ H _ I h) ?_)
 rintro u s1 ⟨x,H1,I1,rx,a,dx,fs,ex,ea,l,q⟩
 refine AA0 (wpAny_standAt ?_)
 subst ex
 obtain rfl:u=AB3 a:=rx
 unfold methodCall
 rw[hfew]
 exact AA0 (AAr (wu I1 ea cl hm l (AA0 (wpAny_of_eq hpos (q s1 I1)))))
theorem Jn(C:Dt X.prog X.w X.K X.mg X.base j c m ps P)(hr:Room k X.A)(ho:HE X o to)(ha:HA X (e::es) t)(hj:Nat.ble j k=true:=by kernel_rfl)
  (hbase:attributeBase o m X.env (eval o X.env)=eval o X.env:=by kernel_rfl) (hfew:methodCallForm ((e::es).length+([]:List Keyword).length) (backTo cpos (starEach (e::es) X.env)) (backToKw cpos (keywordEach [] X.env))=true:=by kernel_rfl) (hline:(apos.endLine==cpos.line)=true:=by kernel_rfl)
  (hs:starEach (e::es) X.env=(false,eval e X.env)::starEach es X.env:=by kernel_rfl) (hpl:(backTo cpos (starEach es X.env)).any (·.1)=false:=by kernel_rfl):HE X (.Call (.Attribute o m apos) (e::es) [] cpos) (qO c m P to t):=⟨by
 rintro pins s σ H Q I ⟨S,M,ρ,F,sm,sr,q,kk⟩
 obtain⟨C,f,fd,⟨hC,cl⟩,hm,Fk,hb⟩:=C
 refine uF ho.ok hm cl I hbase hfew hline ⟨S,M,ρ,_,sm,sr,q,?_⟩
 rintro v H1 ⟨d,M1,ρ1,s1,g1,r1,q1⟩
 cases d with
 | ref n =>
  obtain⟨⟨fs,hn,hf⟩,q1⟩:=q1
  obtain⟨a,rfl,ea⟩:=Rep.inv_ref r1
  obtain⟨C',dx,vs,hC',hH,rr⟩:=s1.obj n a _ ea hn
  obtain rfl:C'=C:=by rw[hC]at hC';cases hC';rfl
  refine⟨a,dx,_,rfl,hH,(fc (f:=m) rr).2 hf,λs2 I2=>?_⟩
  refine AE6 (first:=[.ref a]) (h₀:=X.base) I.ok.mod.kin hm.kp (thn (ha.ok cpos pins s2 σ H1 _ I2 ⟨S,M1,ρ1,_,s1,sr.grow g1,q1,λ_ _ z=>z⟩) λus s3 z=>?_) hs hpl
  obtain⟨vs',H3,I3,rv,ds,M3,ρ3,s3',g3,r3,q3⟩:=z
  refine⟨I3.kIn,xV (us:=.ref a::us) (vs:=.ref a::vs') (dvs:=[]) (ds:=[]) (E:=E0) Fk (hr.mono (ACC hj)) hb .nil Bc I3 (.cons rfl rv) ?_⟩
  rw[AB8]
  exact⟨_,M3,ρ3,F,s3',.cons (.ref (aK g3.pre ea)) r3,q3,λv H' w=>kk v H' (VQ.trans (g1.trans g3) w)⟩
 | _=>exact q1.elim⟩
theorem Fx(C:Dt X.prog X.w X.K X.mg X.base j c m ps P)(hr:Room k X.A)(ho:HE X o to)(hj:Nat.ble j k=true:=by kernel_rfl)
  (hbase:attributeBase o m X.env (eval o X.env)=eval o X.env:=by kernel_rfl) (hfew:methodCallForm (([]:List Expr).length+([]:List Keyword).length) (backTo cpos (starEach [] X.env)) (backToKw cpos (keywordEach [] X.env))=true:=by kernel_rfl) (hline:(apos.endLine==cpos.line)=true:=by kernel_rfl) :
  HE X (.Call (.Attribute o m apos) [] [] cpos) (qO c m P to ag):=⟨by
 rintro pins s σ H Q I ⟨S,M,ρ,F,sm,sr,q,kk⟩
 obtain⟨C,f,fd,⟨hC,cl⟩,hm,Fk,hb⟩:=C
 refine uF ho.ok hm cl I hbase hfew hline ⟨S,M,ρ,_,sm,sr,q,?_⟩
 rintro v H1 ⟨d,M1,ρ1,s1,g1,r1,q1⟩
 cases d with
 | ref n =>
  obtain⟨⟨fs,hn,hf⟩,q1⟩:=q1
  obtain⟨a,rfl,ea⟩:=Rep.inv_ref r1
  obtain⟨C',dx,vs,hC',hH,rr⟩:=s1.obj n a _ ea hn
  obtain rfl:C'=C:=by rw[hC]at hC';cases hC';rfl
  refine⟨a,dx,_,rfl,hH,(fc (f:=m) rr).2 hf,λs2 I2=>?_⟩
  refine PySem.W.callWith_K0 (first:=[.ref a]) I2.kIn hm.kp (xV (us:=[.ref a]) (vs:=[.ref a]) (dvs:=[]) (ds:=[]) (E:=E0) Fk (hr.mono (ACC hj)) hb .nil Bc I2 (.cons rfl .nil) ?_)
  exact⟨_,M1,ρ1,F,s1,.cons (.ref ea) .nil,q1,λv H' w=>kk v H' (VQ.trans g1 w)⟩
 | _=>exact q1.elim⟩
theorem Jo(C:KF X.prog X.w X.K X.mg X.base j c ps P)(hr:Room k X.A)(ha:HA X (e::es) t)(hj:Nat.ble (j+1) k=true:=by kernel_rfl)(hg:X.env.kindOf c=some .globalImplicit:=by kernel_rfl)(hdb:(c==("__debug__":Str))=false:=by kernel_rfl)
  (he:starEach (e::es) X.env=(false,eval e X.env)::starEach es X.env:=by kernel_rfl) (hpl:(backTo pos (starEach es X.env)).any (·.1)=false:=by kernel_rfl):HE X (.Call (.Name c p) (e::es) [] pos) (Gx c P t):=⟨by
 obtain⟨C,f,fd,⟨hC,cl⟩,hm,mk,Fk,hb⟩:=C
 refine PE.imp (Er mk Fk (hr.mono (ACC hj)) hg hm hb .nil Bc ha.ok hdb he hpl) ?_
 rintro σ H R ⟨S,M,ρ,Q,s,sr,q,kk⟩
 refine⟨S,M,ρ,_,s,sr,q,?_⟩
 rintro vs H1 ⟨ds,M1,ρ1,s1,g1,r1,q1⟩ x dx hx hdx ne
 have s2:=s1.laid (o:=.own x) hdx
 have hx':upd H1 dx (.own x) x=none:=by rw[av (AAt ne)];exact hx
 have g2:Grow X.K ρ1 H1 (ρ1++[x]) (upd (upd H1 dx (.own x)) x (.ins C dx [])):=(Grow.laid hdx).trans (Grow.laidR hx')
 have s3:=s2.laidM (o:=.ins C dx []) (mo:=.ins c []) hx' ⟨C,dx,[],hC,aL,.nil⟩
 rw[AB8]
 refine⟨_,_,_,_,s3,.cons (.ref s1.last) (r1.grow g2),q1,?_⟩
 rintro v H2 ⟨d,M',ρ',s',g',r',ed,q'⟩
 subst ed
 refine⟨Rep.inv_non r',kk _ _ ⟨.ref M1.length,M',ρ',s',(g1.trans g2).trans g',.ref (aK g'.pre s1.last),q'⟩⟩⟩
end L2
namespace L2
open PySem PySem.Spec PyProof.Rows DL PySem.W
theorem kG(K:∀(prog:Program) (w:World),KdlSrc prog w T r d n P OK)(hn:n<=sizeLine) :
  Meets (Builtin.«tuple.__new__» ⟨[.type "tuple",.ref r],[]⟩)
   (λA R s=>A.handled=none/\OK s.heap/\∀(h':Heap) (tk:Nat) (acc:Array Value),(∀b o',s.heap.get? b=some o'->h'.get? b=some o')->ItemsOf P acc n->R (.ok (.ret (.ref h'.objs.size))) { s with heap:=h'.push { cls:=.type "tuple",data:=.seq acc },toks:=tk }) :=
 .of_wp λprog w A R s h=>by
  obtain⟨hp,g,d',tk,os⟩:=s
  obtain⟨hh,hok,h⟩:=h
  have hsub:=sub_tuple_self
  have hinit:=init_tuple_lookup
  have hmh:=madeHere_tuple
  have hT:=(K prog w).type _ hok
  have nt:=(K prog w).notTuple
  wp_walk using AD4 hT,kdu_collect (A:=A.in1) (K prog w) hh hok hn
  intro h' tk' acc hk hacc
  show wpAny _ _ (ABV acc.toList.toArray >>= λv=>ret v) _ _ _
  unfold ABV
  have e:acc.toList.toArray=acc:=by simp
  rw[e]
  refine AA0 (AAj ?_ (by show acc.size<=sizeLine;rw[hacc.1];exact hn))
  exact AA7 ⟨_,rfl,h h' tk' acc hk hacc⟩
theorem lF(K:∀(prog:Program) (w:World),KdlSrc prog w T r d n P OK)(hn:n<=sizeLine)(hh:A.handled=none)(hok:OK s.heap)
  (h:∀(h':Heap) (tk:Nat) (acc:Array Value),(∀b o',s.heap.get? b=some o'->h'.get? b=some o')->ItemsOf P acc n->Q (.ref h'.objs.size) { s with heap:=h'.push { cls:=.type "tuple",data:=.seq acc },toks:=tk }) :
  wpAny (model prog w) A (call (.type "tuple") [.ref r]) Q E s :=
 callType_new F.called_tuple (by decide) (F.typeCall_tuple_1 _) (F.newCall_tuple_1 _) (λobj=>F.args_object_init_2 obj _) F.entry_tuple_new
  (kG K hn) ⟨hh,hok,λh' tk acc hk ha=>⟨⟨_,AAE _ rfl,rfl⟩,h h' tk acc hk ha⟩⟩
def nP(to:DTE):DTE:=λS M Q=>to S M λd M1=>match d with
 | .ref n=>∃kvs,M1[n]?=some (.dkt kvs)/\Q (.tup (kvs.map (·.2))) M1
 | _=>False
theorem zq(ho:HE X o to)(hm:X.mg "tuple" = none)(hc:X.calm=true:=by kernel_rfl)(hg:X.env.kindOf "tuple" = some .globalImplicit:=by kernel_rfl)
  (hs:starEach [Expr.Call (.Attribute o "values" apos) [] [] cpos] X.env=[(false,eval (Expr.Call (.Attribute o "values" apos) [] [] cpos) X.env)]:=by kernel_rfl)
  (hbase:attributeBase o "values" X.env (eval o X.env)=eval o X.env:=by kernel_rfl) (hline:(apos.endLine==cpos.line)=true:=by kernel_rfl) :
  HE X (.Call (.Name "tuple" p) [.Call (.Attribute o "values" apos) [] [] cpos] [] pos) (nP to):=⟨by
 rintro pins s σ H R I ⟨S,M,ρ,Q,sm,sr,q,kk⟩
 refine ABm (gO I hg hm (by rfl) ?_)
 refine callWith_type1 ?_ (by rw[hs];rfl) rfl
 rw[hs]
 refine AE4 (AD9 hbase hline (thn (ho.ok pins s σ H _ I ⟨S,M,ρ,_,sm,sr,q,λv H' w=>w⟩) ?_))
 rintro u s1 ⟨v,H1,I1,rv,x,M1,ρ1,sm1,g1,r1,q1⟩
 cases r1 with
 | @ref n a hn =>
  cases rv
  obtain⟨kvs,hM,q2⟩:=(show ∃kvs,M1[n]?=some (.dkt kvs)/\Q (.tup (kvs.map (·.2))) M1 from q1)
  obtain⟨xs,hH,r,dd,hsm,hz,hx,nd⟩:=kW I1 sm1 hn hM
  obtain⟨es,em,el,eg⟩:=zR I1 hH
  refine⟨"dict","dict.values",ADG,AD6,PySem.F.type_dict_values,dd.typeIs,λb z=>?_,AC3 rfl (ADn (mE hsm em ?_))⟩
  ·cases z
   obtain⟨ob,_,_,h1,h2,_⟩:=dd
   exact⟨ob,h1,h2.2.1⟩
  refine Calls.spliced_nil ?_
  have I2:Inv X pins σ H1 { s1 with heap:=s1.heap.push { cls:=.type "dict_values",data:=.fields #[.ref a] } }:=I1.kept (t':=s1.toks) λb o e=>AA6 _ e
  have em2:dc ({ s1 with heap:=s1.heap.push { cls:=.type "dict_values",data:=.fields #[.ref a] } }:Shared).heap a es xs.length:=em.to λo e=>AA6 _ e
  have vw:({ s1 with heap:=s1.heap.push { cls:=.type "dict_values",data:=.fields #[.ref a] } }:Shared).heap.IsValuesView s1.heap.objs.size a:=⟨_,AAE _ rfl,rfl,rfl⟩
  generalize ({ s1 with heap:=s1.heap.push { cls:=.type "dict_values",data:=.fields #[.ref a] } }:Shared)=s2 at I2 em2 vw ⊢
  refine lF (λprog w=>uP (es:=es) (ep:=xs.length)) (by lia) (I2.ok.hd hc) ⟨vw,em2⟩ λh' tk acc' hk hacc=>?_
  obtain⟨ws,w1,w2⟩:=oJ r
  have ea:acc'.toList=xs.map λx=>x.2.2:=by
   refine ADQ λj=>?_
   rw[ABk,AAU]
   cases hj:xs[j]? with
   | none =>
    have:xs.length<=j:=by rw[List.getElem?_eq_none_iff]at hj;exact hj
    rw[AC4 (by have:=hacc.1;lia)];rfl
   | some x =>
    have hlt:=(AA3.mp hj).1
    have hlt':j<acc'.size:=by have:=hacc.1;lia
    obtain⟨e,g1,g2⟩:=hacc.2 j acc'[j] (AAm hlt')
    obtain⟨e',z1,_,z2⟩:=eg j x hj
    rw[g1]at z1
    obtain rfl:=AAW z1
    rw[AAm hlt',g2,z2];rfl
  have I3:Inv X pins σ H1 { s2 with heap:=h',toks:=tk }:=I2.kept (t':=tk) hk
  have I4:=I3.laid (a:=h'.objs.size) (o:=.tup ws) (t':=tk) (λb o e=>AA6 { cls:=.type "tuple",data:=.seq acc' } e) (AAC _) ⟨by rw[<-w1.length,AA4];exact hz,acc'.toList,by rw[ea];exact w2,by simpa using CH.new h' acc'⟩
  exact⟨.ref h'.objs.size,_,I4,rfl,kk _ _ (VQ.laidT sm1 g1 w1 (I3.hok.fresh (AAC _)) q2)⟩
 | _=>exact q1.elim⟩
def il(n:Nat):DRA:=λds M Q=>match ds with
 | [.int i,d]=>∃xs j,M[n]?=some (.lst xs)/\i=((j:Nat):Int)/\j<=xs.length/\xs.length<1000/\Q .non (M.set n (.lst (xs.take j++d::xs.drop j)))
 | _=>False
theorem vU:MtR X "list.insert" (nu X.K il):=by
 rintro pins s σ H x xs v us R I rx rs ⟨n,a,ds,M,ρ,Q,ez,hn,sm,rr,q,k⟩
 unfold il at q
 split at q
 ·rename_i i d
  obtain⟨ys,j,e,hij,hj,hl,q⟩:=q
  obtain⟨v1,_,rfl,r1,rr⟩:=Reps.inv_cons rr
  obtain⟨v2,_,rfl,r2,rr⟩:=Reps.inv_cons rr
  obtain rfl:=Reps.inv_nil rr
  obtain rfl:=Rep.inv_int r1
  obtain⟨vs,hH,r⟩:=sm.obj n a _ hn e
  obtain⟨w1,w2⟩:=sm.write hn e hH ((r.take j).append (.cons r2 (r.drop j)))
  subst ez
  cases rx
  obtain⟨u1,u2,rfl,ru1,ru2⟩:=az.two rs
  obtain⟨t,rfl⟩:∃t,u1=.int i t:=ru1
  obtain⟨z,its,m,ri,hli,ei⟩:=I.lstM hH
  have l1:=r.length
  have l2:=ri.length
  have hs1:its.length<=sizeLine:=AE2 (small1000 (by lia))
  have hs2:its.length+1<=sizeLine:=small1000 (by lia)
  have hsz:its.toArray.size<=sizeLine:=by rw[AAB];exact hs1
  have fit:¬(!AE1 i)=true:=by
   have j1:j<1000:=by lia
   clear hs1 hs2 hsz
   have h1:(-(2 ^ 63:Int)<=i):=by lia
   have h2:(i<2 ^ 63):=by lia
   intro z
   unfold AE1 at z
   rw[dT_ h1,dT_ h2]at z
   cases z
  have mt:=@PySem.AutoListH.list_insert_list_int_val_1 a its.toArray m i t u2 fit hsz
  refine call_meets F.slot_list_insert ⟨_,ei,rfl⟩ F.entry_list_insert (F.args_list_insert_3 _ _ _) mt ⟨ei,?_⟩
  refine⟨.non,_,I.lset (its':=its.take j++u2::its.drop j) hH ei ?_ ((ri.take j).append (.cons ru2 (ri.drop j))) ?_,rfl,k _ _ ⟨.non,_,ρ,w1,w2,.non,q⟩⟩
  ·have ek:(if i<0 then(i+((its.toArray.size:Nat):Int)).toNat else min i.toNat its.toArray.size)=j:=by
    rw[if_neg (by lia),AAB]
    lia
   show ((its.toArray.extract 0 (if i<0 then(i+((its.toArray.size:Nat):Int)).toNat else min i.toNat its.toArray.size)).push u2++its.toArray.extract (if i<0 then(i+((its.toArray.size:Nat):Int)).toNat else min i.toNat its.toArray.size))=_
   rw[ek]
   apply Array.ext'
   simp
   exact ABh (by rw[ABe];lia)
  ·rw[AA9,AAD,AAe,ABe]
   lia
 ·exact q.elim
theorem zA:HMl X "insert" il:=⟨_,PySem.F.slot_list_insert,PySem.F.type_list_insert,vU⟩
end L2
namespace LW
open PySem L2
local macro_rules | `(tactic| walk_at "sc")=>`(tactic| exact⟨rfl,rfl,rfl,by decide +kernel,rfl,by decide +kernel,by decide +kernel⟩)
local macro_rules | `(tactic| walk_at "dl")=>`(tactic| simp only[EE,Gy,fW,qO,Gx,aF,dIf,qN,Kl,dOr,aB,dCB,aa,ag,aR,db,dOrV,Cp,dLC,jm,bo,ax,aX,bq,eU,oo,dOp,gY,dC,ac,iJ,gW,dSl,iL,cI,dMs,dMl,da,iK,pY,qAdd,aP,AN,jf,mV,vK,qLt,HD,qLe,qGt,qGe,qIs,qEq,qNe,pS,eP,Ao,HH,Hz,qIx,qSl,dF,dAsg,Cl,qL,dn,qM,dZip,dMl0,pT,kg,cy,wz,nR,zW,nQ,dMt,gD,gX,gF,iZ,dGIn,Cq,xZ,jZ,nP,il,Gw,Gn,im,ke,CI,qQ,Hy,rU,ka,kX,at0,at1,at2,tyD,dst,bL,GP,AAH,ACA,ABp,AAY,AB7,ABM,AAD,AAS,AC2,List.replicate_succ,List.set_cons_zero,List.set_cons_succ,ABu,Nat.reduceAdd,Nat.reduceSub,AC9,if_true,if_false,AAZ])
noncomputable def top(i:Nat):Stmt:=PySem.Challenge.pw_talkmarks_k72_deeds_heard.main.body.getD i (.Pass ⟨0,0,0,0⟩)
noncomputable abbrev B_:List Str:=["int","isinstance","bool","tuple","len","list","range","all","ord","str","zip","dict","any","sorted","max"]
noncomputable abbrev C_:List (Str×Int):=[("LONGEST_NAME",8),("LONGEST_SAYING",60),("FIRST_SIGN",32),("LAST_SIGN",126)]
noncomputable def meth(i j:Nat):Stmt:=match top i with
 | .ClassDef _ _ _ b ..=>b.getD j (.Pass ⟨0,0,0,0⟩)
 | s=>s
noncomputable def bh:List (Str×List Str):=[(AA1 "say",[AA1 "room",AA1 "under",AA1 "saying"]),(AA1 "change",[AA1 "message",AA1 "saying"]),(AA1 "back",[AA1 "message"]),(AA1 "like",[AA1 "message",AA1 "sort",AA1 "on"]),(AA1 "read",[AA1 "room",AA1 "vector"]),(AA1 "seen",[AA1 "message"]),(AA1 "hush",[AA1 "what",AA1 "on"]),(AA1 "rung",[AA1 "message"])]
noncomputable abbrev iA:List Str:=["thing"]
noncomputable abbrev cC:List Str:=["least","thing"]
noncomputable abbrev dI:List Str:=["many","thing"]
noncomputable abbrev bK:List Str:=["thing"]
noncomputable abbrev fJ:List Str:=["things"]
noncomputable abbrev fL:List Str:=["sign"]
noncomputable abbrev kt:List Str:=["sign"]
noncomputable abbrev kz:List Str:=["thing"]
noncomputable abbrev fI:List Str:=["thing"]
noncomputable abbrev fM:List Str:=["pairs"]
noncomputable abbrev km:List Str:=["house","name"]
noncomputable abbrev fK:List Str:=["house","thing"]
noncomputable abbrev ku:List Str:=["house","thing"]
noncomputable abbrev kA:List Str:=["house","thing"]
noncomputable abbrev iq:List Str:=["house","name"]
noncomputable abbrev iB:List Str:=["house","thing"]
noncomputable abbrev cD:List Str:=["house","thing"]
noncomputable abbrev fH:List Str:=["house","thing"]
noncomputable abbrev ko:List Str:=["house","thing"]
noncomputable abbrev ky:List Str:=["house","part","thing"]
noncomputable abbrev mZ:List Str:=["house","thing"]
noncomputable abbrev kB:List Str:=["house","thing"]
noncomputable abbrev ip:List Str:=["deed"]
noncomputable abbrev iw:List Str:=["deed"]
noncomputable abbrev cA:List Str:=["one","other"]
noncomputable abbrev cB:List Str:=["one","other"]
noncomputable abbrev bW:List Str:=["house","things"]
noncomputable abbrev eQ:List Str:=["hand","deeds"]
noncomputable abbrev dH:List Str:=["deeds"]
noncomputable abbrev cX:List Str:=["deeds"]
noncomputable abbrev fN:List Str:=["deeds"]
noncomputable abbrev iz:List Str:=["house","hand","log","things"]
noncomputable abbrev fO:List Str:=["self","house","name","k"]
noncomputable abbrev eR:List Str:=["self"]
noncomputable abbrev fP:List Str:=["self","deeds"]
noncomputable abbrev kC:List Str:=["_law_script","_law_k"]
noncomputable abbrev yq:List Str:=["_law_well_here","_law_many"]
noncomputable abbrev EA:List Str:=["_law_cell","_law_k"]
noncomputable abbrev yr:List Str:=["_law_cell","_law_k"]
noncomputable abbrev yp:List Str:=["_law_cell","_law_k"]
noncomputable abbrev rY:List Str:=["_law_script","_law_start","_law_most"]
noncomputable abbrev ym:List Str:=["_law_well_here"]
noncomputable abbrev rX:List Str:=["_law_well_here","_law_many"]
noncomputable abbrev se:List Str:=["_law_well_here"]
noncomputable abbrev sf:List Str:=["_law_house_here"]
noncomputable abbrev mY:List Str:=["_law_well_here","_law_house_here"]
noncomputable abbrev rZ:List Str:=["_law_well_here","_law_house_here","_law_stamps"]
noncomputable abbrev mX:List Str:=["_law_well_here","_law_house_here"]
noncomputable abbrev yo:List Str:=["_law_well_here","_law_house_here","_law_stamps"]
noncomputable abbrev ED:List Str:=["_law_well_here","_law_house_here","_law_stamps"]
noncomputable abbrev EB:List Str:=["_law_wells_here","_law_house_here"]
noncomputable abbrev yt:List Str:=["_law_well_here","_law_house_here","_law_log_here"]
noncomputable abbrev nb:List Str:=["_law_well_here","_law_house_here","_law_log_here","_law_there"]
noncomputable abbrev EC:List Str:=["_law_script"]
structure Tops(P:Program)(w:World)(K:AA2)(mg:Str->Option Value)(base:Heap):Prop where
 f_is_whole:bV K mg "is_whole" (top 14) iA
 f_is_whole_from:bV K mg "is_whole_from" (top 15) cC
 f_is_tuple_of:bV K mg "is_tuple_of" (top 16) dI
 f_is_list_or_tuple:bV K mg "is_list_or_tuple" (top 17) bK
 f_is_rising:bV K mg "is_rising" (top 18) fJ
 f_is_letter:bV K mg "is_letter" (top 24) fL
 f_is_sign:bV K mg "is_sign" (top 25) kt
 f_is_name:bV K mg "is_name" (top 26) kz
 f_is_saying:bV K mg "is_saying" (top 27) fI
 f_firsts_of:bV K mg "firsts_of" (top 29) fM
 f_many_of:bV K mg "many_of" (top 30) km
 f_is_person:bV K mg "is_person" (top 31) fK
 f_is_room:bV K mg "is_room" (top 32) ku
 f_is_hand:bV K mg "is_hand" (top 33) kA
 f_rooms_of:bV K mg "rooms_of" (top 34) iq
 f_is_stamp:bV K mg "is_stamp" (top 38) iB
 f_is_hand_count:bV K mg "is_hand_count" (top 39) cD
 f_is_vector:bV K mg "is_vector" (top 40) fH
 f_is_what:bV K mg "is_what" (top 41) ko
 f_is_part:bV K mg "is_part" (top 42) ky
 f_is_act:bV K mg "is_act" (top 43) mZ
 f_is_deed:bV K mg "is_deed" (top 44) kB
 f_stamp_of:bV K mg "stamp_of" (top 45) ip
 f_place_of:bV K mg "place_of" (top 50) iw
 f_unlike_places:bV K mg "unlike_places" (top 51) cA
 f_refuse_unlike:bV K mg "refuse_unlike" (top 52) cB
 f_refuse_no_deeds:bV K mg "refuse_no_deeds" (top 68) bW
 f_refuse_own:bV K mg "refuse_own" (top 69) eQ
 f_refuse_gaps:bV K mg "refuse_gaps" (top 70) dH
 f_refuse_times:bV K mg "refuse_times" (top 71) cX
 f_each_once:bV K mg "each_once" (top 72) fN
 f_log_with:bV K mg "log_with" (top 73) iz
 f_Hand_init:InAt K mg "Hand" "Hand.__init__" (meth 74 0) fO
 f_Hand_heard:MtAt K "Hand" "heard" "Hand.heard" (meth 74 1) eR
 f_Hand_hear:MtAt K "Hand" "hear" "Hand.hear" (meth 74 13) fP
 f_cell_at:bV K mg "_law_cell_at" (top 76) kC
 f_take:bV K mg "_law_take" (top 77) yq
 f_mix:bV K mg "_law_mix" (top 78) EA
 f_rich:bV K mg "_law_rich" (top 79) yr
 f_well:bV K mg "_law_well" (top 80) yp
 f_wells:bV K mg "_law_wells" (top 81) rY
 f_word:bV K mg "_law_word" (top 82) ym
 f_words:bV K mg "_law_words" (top 83) rX
 f_house:bV K mg "_law_house" (top 84) se
 f_hands:bV K mg "_law_hands" (top 85) sf
 f_saying:bV K mg "_law_saying" (top 86) mY
 f_stamp:bV K mg "_law_stamp" (top 87) rZ
 f_vector:bV K mg "_law_vector" (top 88) mX
 f_what:bV K mg "_law_what" (top 89) yo
 f_act:bV K mg "_law_act" (top 90) ED
 f_log:bV K mg "_law_log" (top 91) EB
 f_part:bV K mg "_law_part" (top 92) yt
 f_bundle:bV K mg "_law_bundle" (top 93) nb
 f_law:bV K mg "law" (top 94) EC
 a_house:tE K "Hand" "house"
 a_hand:tE K "Hand" "hand"
 a_rooms_here:tE K "Hand" "rooms_here"
 a_log:tE K "Hand" "log"
 g_ACT_PARTS:CJ w K mg "ACT_PARTS" bh
 b:TopB mg B_ C_
local macro_rules | `(tactic| walk_at "bb")=>`(tactic| first | exact Kx | exact Kw | exact GF | exact GE | exact Kv | exact nU | exact Ku | exact GD | exact Kt | exact Ks | exact qZ | exact Kr | exact CC)
local macro_rules | `(tactic| walk_at "tb")=>`(tactic| exact TopB.no (by k_dflt assumption) (by kernel_rfl))
local macro_rules | `(tactic| walk_at "dvr")=>`(tactic| (repeat' (first | (with_reducible first | (refine gA ?_;first | exact Jj | refine Fs ?_ ?_) | exact k_var | (refine JM ?_;first | exact k_int | exact k_bl | exact k_non | exact k_str) | (refine gCall ?_;first | refine wk ?_ (by walk_at "tb") | refine zq ?_ (by walk_at "tb") | refine Fu (by k_dflt assumption) (by k_dflt assumption) ?_ (by walk_at "tb") | refine FB ?_ (by walk_at "tb") (by walk_at "bb") ?_ | refine BK ?_ (by walk_at "tb") (by walk_at "bb") ?_ | refine k_cal (by k_dflt assumption) (by k_dflt assumption) ?_ | refine Jn (by k_dflt assumption) (by k_dflt assumption) ?_ ?_ | refine Fx (by k_dflt assumption) (by k_dflt assumption) ?_ | refine Jo (by k_dflt assumption) (by k_dflt assumption) ?_ | refine Ft (by k_dflt assumption) ?_ ?_ | refine k_ms ?_ ?_ ?_ | refine k_ml ?_ ?_ ?_ | refine k_ml0 ?_ ?_) | (refine gIx ?_;first | refine Jp (by k_dflt assumption) ?_ (hs:=by k_dflt (intro _ _;kernel_rfl)) | refine Fv ?_ ?_ ?_ | refine Jm (by k_dflt assumption) ?_ ?_ (hs:=by k_dflt (intro _ _;kernel_rfl)) | refine k_ix ?_ ?_ (hs:=by k_dflt (intro _ _;kernel_rfl))) | (refine gT ?_;first | refine IW (by k_dflt assumption) ?_ | refine IX ?_ ?_ ?_ | refine IV ?_ | refine kw_t (De ?_ ?_) | refine kw_t (IT ?_ ?_) | refine IU ?_) | (refine gE ?_;first | exact Jl | exact Fz | exact Fy (TopB.gi (by k_dflt assumption) (by kernel_rfl)) | exact Jk (by walk_at "tb") (by walk_at "bb") | refine k_op ?_ ?_ ?_ | refine k_not ?_ | refine k_cmp ?_ ?_ ?_ | refine FA ?_ ?_ ?_ ?_ ?_ | refine k_one ?_ | refine k_and ?_ ?_ | refine k_or ?_ ?_ | refine k_tup ?_ | refine k_lst ?_ | exact Fw | refine k_fld (by k_dflt assumption) ?_ | refine k_lcN ?_ (λ_ _ _ _=>?_) (λ_ _ _ _=>?_) (λ_ _ _ _=>?_)) | (refine gS ?_;first | exact uI | refine qz (by k_dflt assumption) ?_ ?_ | refine zf ?_ | refine Dh ?_ | refine Ja ?_ ?_ ?_ | refine qy (by k_dflt assumption) ?_ (λ_ _ _ _=>?_) (λ_ _ _ _=>?_) (λ_ _ _ _=>?_) | refine Dg (by k_dflt assumption) ?_ | refine Dj ?_ ?_ | refine ze (by k_dflt assumption) ?_ ?_ ?_ | refine zg (by k_dflt assumption) ?_ ?_ ?_ | refine Di ?_ ?_ ?_) | (refine gOp ?_;first | exact FL | exact ho_eq (by k_dflt assumption) | exact FK | exact ho_ge | exact ho_gt | exact ho_in (by k_dflt assumption) | exact ho_is | exact ho_le | exact ho_lt | exact JA (by k_dflt assumption) | exact Jz | exact Jy | exact ho_ne (by k_dflt assumption) | exact BP (by k_dflt assumption) | exact Jx | exact Jw) | (refine gC ?_;first | exact JG | exact JF | exact zI (by k_dflt assumption) | exact JE | exact JD | exact FO | exact JC | exact zH (by k_dflt assumption) | exact wo (by k_dflt assumption) | exact BV) | exact IZ | exact Fh | exact Fl | exact Fo | refine IY ?_ | refine De ?_ ?_ | refine IT ?_ ?_ | refine Fd ?_ | refine IS ?_ | refine Fg ?_ | refine Fj ?_ | refine zi (by walk_at "tb") ?_ | refine zh (by walk_at "tb") ?_ | refine Jb (by walk_at "tb") ?_ | refine Jc ?_ | exact Fp (by k_dflt assumption) | exact Jf (IK (by kernel_rfl)) | refine BF ?_ ?_ | refine Jd ?_ | refine Je ?_ ?_ | exact zD | exact BS | exact zC | exact BR | exact zB | exact zA | exact FM) | refine Fi ?_ ?_ | refine qz (by k_dflt assumption) ?_ ?_ | refine zf ?_ | refine Dh ?_ | refine Ja ?_ ?_ ?_ | refine qy (by k_dflt assumption) ?_ (λ_ _ _ _=>?_) (λ_ _ _ _=>?_) (λ_ _ _ _=>?_) | refine Dg (by k_dflt assumption) ?_ | refine Dj ?_ ?_ | refine ze (by k_dflt assumption) ?_ ?_ ?_ | refine zg (by k_dflt assumption) ?_ ?_ ?_ | refine Di ?_ ?_ ?_ | exact uI)))
local macro_rules | `(tactic| walk_at "dv")=>`(tactic| (intro _ _ _ _ _ _ _ _ _ _;refine FP rfl ?_;walk_at "dvr"))
section
variable{P:Program}{w:World}{K:AA2}{mg:Str->Option Value}{base:Heap}
local macro_rules | `(tactic| walk_at "ifs")=>`(tactic| simp only[pY,AAZ,↓reduceIte,Bool.not_true,Bool.not_false])
noncomputable def gdD(M:Mem):Nat->D->Bool
 | _,.str x=>decide (x.length<=1000)
 | _,.ty _=>false
 | n+1,.tup xs=>decide (xs.length<=40)&&xs.all (gdD M n)
 | n+1,.ref i=>match M[i]? with
  | some a=>a.isL&&a.items.all (gdD M n)
  | none=>false
 | 0,.tup _=>false
 | 0,.ref _=>false
 | _,_=>true
theorem gd_ok:∀(n m:Nat) (d:D),n<=m->gdD M n d=true->okD M m d=true:=by
 intro n
 induction n with
 | zero =>
  intro m d _ h
  cases d with
  | tup xs=>cases h
  | ref i=>cases h
  | ty t=>cases h
  | non=>exact ni
  | bl b=>exact uC
  | int i=>exact au
  | str x=>exact aJ
 | succ n ih =>
  intro m d hm h
  cases m with
  | zero=>lia
  | succ m =>
   cases d with
   | tup xs =>
    have h':(decide (xs.length<=40)&&xs.all (gdD M n))=true:=h
    rw[AAN,AAO]at h'
    exact yF λx hx=>ih m x (by lia) (h'.2 x hx)
   | ref i =>
    simp only[gdD]at h
    cases e:M[i]? with
    | none=>rw[e]at h;cases h
    | some a =>
     rw[e]at h
     simp only[AAN,AAO]at h
     show (match M[i]? with | some a=>a.isL&&a.items.all (okD M m) | none=>false)=true
     rw[e]
     simp only[AAN,AAO]
     exact⟨h.1,λx hx=>ih m x (by lia) (h.2 x hx)⟩
   | ty t=>cases h
   | non=>exact ni
   | bl b=>exact uC
   | int i=>exact au
   | str x=>exact aJ
theorem FV(p:M <+: M'):∀(n:Nat) (d:D),gdD M n d=true->gdD M' n d=true:=by
 intro n
 induction n with
 | zero =>
  intro d h
  cases d<;>first | exact h | cases h
 | succ n ih =>
  intro d h
  cases d with
  | tup xs =>
   have h':(decide (xs.length<=40)&&xs.all (gdD M n))=true:=h
   rw[AAN,AAO]at h'
   show (decide (xs.length<=40)&&xs.all (gdD M' n))=true
   rw[AAN,AAO]
   exact⟨h'.1,λx hx=>ih x (h'.2 x hx)⟩
  | ref i =>
   simp only[gdD]at h ⊢
   cases e:M[i]? with
   | none=>rw[e]at h;cases h
   | some a =>
    rw[e]at h
    obtain⟨t,rfl⟩:=p
    rw[AAJ (AA3.mp e).1,e]
    simp only[AAN,AAO]at h ⊢
    exact⟨h.1,λx hx=>ih x (h.2 x hx)⟩
  | _=>exact h
def Gdn(M:Mem)(n:Nat)(d:D):Prop:=n<=30/\gdD M n d=true
theorem Gdn.ok(h:Gdn M n d):okD M eqN d=true:=gd_ok n eqN d h.1 h.2
theorem Gdn.grow(h:Gdn M n d)(p:M <+: M'):Gdn M' n d:=⟨h.1,FV p n d h.2⟩
theorem Gdn.tup(h:Gdn M n (.tup xs)):xs.length<=40/\∃m,n=m+1/\∀x∈xs,Gdn M m x:=by
 obtain⟨h0,h⟩:=h
 cases n with
 | zero=>cases h
 | succ n =>
  have h':(decide (xs.length<=40)&&xs.all (gdD M n))=true:=h
  rw[AAN,AAO,decide_eq_true_eq]at h'
  exact⟨h'.1,n,rfl,λx hx=>⟨by lia,h'.2 x hx⟩⟩
theorem Gdn.mk(h:xs.length<=40)(hn:n+1<=30)(hx:∀x∈xs,Gdn M n x):Gdn M (n+1) (.tup xs):=by
 refine⟨hn,?_⟩
 show (decide (xs.length<=40)&&xs.all (gdD M n))=true
 rw[AAN,AAO,decide_eq_true_eq]
 exact⟨h,λx m=>(hx x m).2⟩
theorem Gdn.thing(h:Gdn M n d):nW M d:=by
 obtain⟨h0,h⟩:=h
 cases d with
 | non=>exact wY
 | bl b=>exact AD
 | int i=>exact wZ
 | str x=>exact wW (by cases n<;>simpa [gdD]using h)
 | ty t=>cases n<;>cases h
 | tup xs=>exact wV
 | ref i =>
  cases n with
  | zero=>cases h
  | succ n =>
   simp only[gdD]at h
   cases e:M[i]? with
   | none=>rw[e]at h;cases h
   | some a =>
    rw[e]at h
    simp only[AAN]at h
    exact wX (kH e h.1)
theorem mC(h:x.length<=1000)(hn:n<=30):Gdn M n (.str x):=⟨hn,by cases n<;>simp[gdD,h]⟩
theorem qF(hn:n<=30):Gdn M n (.int x):=⟨hn,by cases n<;>rfl⟩
theorem JK(hn:n<=30):Gdn M n (.bl x):=⟨hn,by cases n<;>rfl⟩
theorem JJ(hn:n<=30):Gdn M n .non:=⟨hn,by cases n<;>rfl⟩
theorem BZ(h:n+1<=30)(ha:Gdn M n a)(hb:Gdn M n b):Gdn M (n+1) (.tup [a,b]):=Gdn.mk (by simp) h λx hx=>by
 rcases AAF.mp hx with rfl | hx
 ·exact ha
 ·rw[AAP.mp hx];exact hb
theorem ae{B:Mem}{q:Nat}{x a:MO}(h:B[q]?=some x):(B++[a])[q]?=some x:=by
 rw[AAJ (AA3.mp h).1];exact h
theorem qG(h:Gdn M n x)(t:∀y∈xs,Gdn M n y):∀y∈x::xs,Gdn M n y:=λy hy=>by
 rcases AAF.mp hy with rfl | hy
 ·exact h
 ·exact t y hy
theorem FU:∀y∈([]:List D),Gdn M n y:=λ_ z=>nomatch z
noncomputable def aG(p:Str×Int):D:=.tup [.str p.1,.int p.2]
def Hd(d:D):Prop:=∃(x:Str) (k:Int),d=.tup [.str x,.int k]
theorem zG(ha:Hd a)(hb:Hd b):eqD M (n+1) a b=true↔a=b:=by
 obtain⟨x,k,rfl⟩:=ha
 obtain⟨y,l,rfl⟩:=hb
 show (eqD M n (.str x) (.str y)&&(eqD M n (.int k) (.int l)&&true))=true↔_
 rw[bG,bb]
 simp
theorem wn(ha:Hd a):okD M eqN a=true:=by
 obtain⟨x,k,rfl⟩:=ha
 rfl
noncomputable def GW(hs:List (D×Int))(hd:D)(num:Int):Bool:=match hs.find? λp=>decide (p.1=hd) with
 | some p=>decide (num<p.2)
 | none=>false
noncomputable def plD:Nat->D->Bool
 | n+1,.tup xs=>xs.all (plD n)
 | 0,.tup _=>false
 | _,.ref _=>false
 | _,.ty _=>false
 | _,_=>true
def Pln(n:Nat)(d:D):Prop:=plD n d=true
def va(n:Nat)(ds:List D):Prop:=ds.all (plD n)=true
theorem Pln.non:Pln n .non:=by cases n<;>rfl
theorem Pln.bl(b:Bool):Pln n (.bl b):=by cases n<;>rfl
theorem Pln.int(i:Int):Pln n (.int i):=by cases n<;>rfl
theorem Pln.str(x:Str):Pln n (.str x):=by cases n<;>rfl
theorem va.nil:va n []:=rfl
theorem va.cons(h:Pln n d)(t:va n ds):va n (d::ds):=by
 unfold va Pln at *
 rw[AB6,h,t];rfl
theorem Pln.tup(h:va n ds):Pln (n+1) (.tup ds):=h
theorem va.of(h:∀d∈ds,Pln n d):va n ds:=AAO.mpr h
theorem En:∀(n:Nat) (d:D),Pln n d->Bel k d:=by
 intro n
 induction n with
 | zero =>
  intro d h
  cases d with
  | tup xs=>cases h
  | ref i=>cases h
  | ty t=>cases h
  | non=>exact .non
  | bl b=>exact .bl b
  | int i=>exact .int i
  | str x=>exact .str x
 | succ n ih =>
  intro d h
  cases d with
  | tup xs=>exact .tup (Bels.of λx hx=>ih x (AAO.mp h x hx))
  | ref i=>cases h
  | ty t=>cases h
  | non=>exact .non
  | bl b=>exact .bl b
  | int i=>exact .int i
  | str x=>exact .str x
theorem uO:∀{xs:List D},(∀x∈xs,f x x=true)->eqL f xs xs=true
 | [],_=>rfl
 | x::xs,h=>by
  show (f x x&&eqL f xs xs)=true
  rw[h x (by simp),uO λy hy=>h y (AA8 _ hy)];rfl
theorem kh:∀(n m:Nat) (d:D),n<=m->Pln n d->okD M m d=true/\eqD M m d d=true:=by
 intro n
 induction n with
 | zero =>
  intro m d _ h
  cases d with
  | tup xs=>cases h
  | ref i=>cases h
  | ty t=>cases h
  | non=>exact⟨ni,by cases m<;>rfl⟩
  | bl b=>exact⟨uC,by cases m<;>cases b<;>rfl⟩
  | int i=>exact⟨au,by rw[bb];exact beq_self_eq_true i⟩
  | str x=>exact⟨aJ,by rw[bG];exact beq_self_eq_true x⟩
 | succ n ih =>
  intro m d hm h
  cases m with
  | zero=>lia
  | succ m =>
   cases d with
   | tup xs=>exact⟨yF λx hx=>(ih m x (by lia) (AAO.mp h x hx)).1,uO λx hx=>(ih m x (by lia) (AAO.mp h x hx)).2⟩
   | ref i=>cases h
   | ty t=>cases h
   | non=>exact⟨ni,rfl⟩
   | bl b=>exact⟨uC,by cases b<;>rfl⟩
   | int i=>exact⟨au,by rw[bb];exact beq_self_eq_true i⟩
   | str x=>exact⟨aJ,by rw[bG];exact beq_self_eq_true x⟩
theorem FN(h:Hd d):Pln (n+1) d:=by
 obtain⟨x,i,rfl⟩:=h
 exact .tup (.cons (.str _) (.cons (.int _) .nil))
def rz(d:D):Prop:=∃(t:Int) (hd:D) (num:Int) (act:D),d=.tup [.int t,hd,.int num,act]/\Hd hd/\Pln 5 act
theorem eT(h:rz d):Pln 6 d:=by
 obtain⟨t,hd,num,act,rfl,hh,ha⟩:=h
 exact .tup (.cons (.int _) (.cons (FN hh) (.cons (.int _) (.cons ha .nil))))
theorem Cm(h:rz d):Bel k d:=En 6 d (eT h)
theorem gU(h:∀d∈ds,rz d):Bels k ds:=Bels.of λd hd=>Cm (h d hd)
noncomputable def ay:D->D
 | .tup (_::h::_)=>h
 | _=>.non
noncomputable def cu:D->Int
 | .tup (_::_::.int n::_)=>n
 | _=>0
noncomputable def many(log:List D)(hd:D):Nat:=(log.filter λd=>decide (ay d=hd)).length
noncomputable def eA:D->Int
 | .tup (.int t::_)=>t
 | _=>0
noncomputable def stD:D->D
 | .tup (t::h::_)=>.tup [t,h]
 | _=>.non
def StH(d:D):Prop:=∃(t:Int) (h:D),d=.tup [.int t,h]/\Hd h
theorem ij(h:StH x):∃z i j,x=.tup [.int j,.tup [.str z,.int i]]:=by
 obtain⟨t,h,rfl,z,i,rfl⟩:=h
 exact⟨z,i,t,rfl⟩
theorem pI(h:StH x):okP eqN x=true:=by
 obtain⟨z,i,j,rfl⟩:=ij h;rfl
theorem xO(hx:StH x)(hy:StH y):gZ M eqN x y=true:=by
 obtain⟨z,i,j,rfl⟩:=ij hx
 obtain⟨z',i',j',rfl⟩:=ij hy
 show (if eqD M 29 (.int j) (.int j')=true then(if eqD M 29 (.tup [.str z,.int i]) (.tup [.str z',.int i'])=true then true else(if eqD M 28 (.str z) (.str z')=true then(if eqD M 28 (.int i) (.int i')=true then true else true)else true))else true)=true
 repeat' split
 all_goals rfl
theorem ut(M:Mem)(hx:StH x)(hy:StH y):Tri x y eqN (ltD M eqN x y) (ltD M eqN y x):=GZ M eqN x y (pI hx) (pI hy) (xO hx hy)
theorem CZ(hx:StH x)(hy:StH y):ltD M eqN x y=ltD M' eqN x y:=by
 obtain⟨z,i,j,rfl⟩:=ij hx
 obtain⟨z',i',j',rfl⟩:=ij hy
 rfl
theorem CW(h:∀d∈xs,StH d)(l:xs.length<64):SrtOk M xs :=
 ⟨l,λx hx=>pI (h x hx),λx hx y hy=>xO (h x hx) (h y hy),.inr (.inr (.inr (.inl λx hx=>by
  obtain⟨z,i,j,rfl⟩:=ij (h x hx)
  exact⟨_,_,rfl⟩)))⟩
theorem cZ(h:rz d):StH (stD d):=by
 obtain⟨t,hd,num,act,rfl,hh,_⟩:=h
 exact⟨t,hd,rfl,hh⟩
theorem eS:∀{kvs:List (D×D)},cY (fy kvs k d) k=some d
 | []=>by unfold fy cY;simp
 | p::kvs=>by
  unfold fy
  split
  ·rename_i hs
   unfold cY at hs ⊢
   rw[ACN]at hs
   obtain⟨q,hq⟩:=ACM.mp hs
   rw[List.find?_map]
   have e:((λp:D×D=>decide (p.1=k)) ∘ λp:D×D=>if p.1=k then(p.1,d)else p)=λp=>decide (p.1=k):=by
    funext p
    show decide ((if p.1=k then(p.1,d)else p).1=k)=decide (p.1=k)
    split<;>rfl
   rw[e,hq]
   have hk:q.1=k:=by
    have:=ADy hq
    exact oT_ this
   show some (if q.1=k then(q.1,d)else q).2=_
   rw[if_pos hk]
  ·rename_i hs
   unfold cY at hs ⊢
   rw[ACN,Option.not_isSome_iff_eq_none]at hs
   rw[List.find?_append,hs]
   simp
theorem kR(h:j≠k):cY (fy kvs k d) j=cY kvs j:=by
 unfold fy
 split
 ·unfold cY
  rw[List.find?_map]
  have e:((λp:D×D=>decide (p.1=j)) ∘ λp:D×D=>if p.1=k then(p.1,d)else p)=λp=>decide (p.1=j):=by
   funext p
   show decide ((if p.1=k then(p.1,d)else p).1=j)=decide (p.1=j)
   split<;>rfl
  rw[e]
  cases hf:kvs.find? λp=>decide (p.1=j) with
  | none=>rfl
  | some q =>
   have hq:q.1=j:=by
    have:=ADy hf
    exact oT_ this
   show some (if q.1=k then(q.1,d)else q).2=some q.2
   rw[if_neg (by rw[hq];exact h)]
 ·unfold cY
  rw[List.find?_append]
  cases hf:kvs.find? λp=>decide (p.1=j) with
  | none=>simp[AAt h]
  | some q=>rfl
theorem pV(h:∀p∈kvs,∃t:Int,p.2=.int t):∀p∈fy kvs k (.int i),∃t:Int,p.2=.int t:=by
 unfold fy
 split
 ·intro p hp
  obtain⟨q,hq,rfl⟩:=AAI.mp hp
  split
  ·exact⟨i,rfl⟩
  ·exact h q hq
 ·intro p hp
  rcases AAL.mp hp with hp | hp
  ·exact h p hp
  ·rw[AAP.mp hp];exact⟨i,rfl⟩
structure LogN(log:List D):Prop where
 deed:∀d∈log,rz d
 len:log.length<=40
 nums:∀h,(log.filter λd=>decide (ay d=h)).map cu=(AAg (many log h)).map Int.ofNat
 up:log.Pairwise λa b=>ltD [] eqN (stD a) (stD b)=true
noncomputable def aN(c:D->Int)(log:List D):List D:=log.filter λd=>decide (cu d<c (ay d))
theorem ci(h:d∈aN c log):d∈log:=(AAX.mp h).1
theorem pQ(k:Int):∀n:Nat,(AAg n).filter (λi:Nat=>decide ((i:Int)<k))=AAg (min n k.toNat)
 | 0=>by simp
 | n+1=>by
  rw[List.range_succ,ADH,pQ k n,ADf]
  by_cases h:(n:Int)<k
  ·rw[dT_ h,if_pos rfl,ADE (show n<=k.toNat by lia),ADE (show n+1<=k.toNat by lia),List.range_succ];rfl
  ·rw[dF_ h,if_neg (by decide),Nat.min_eq_right (show k.toNat<=n by lia),Nat.min_eq_right (show k.toNat<=n+1 by lia)];simp
theorem Cv(h:D):(aN c log).filter (λd=>decide (ay d=h))=(log.filter λd=>decide (ay d=h)).filter λd=>decide (cu d<c h):=by
 unfold aN
 rw[List.filter_filter,List.filter_filter]
 refine List.filter_congr λd _=>?_
 by_cases e:ay d=h
 ·rw[e,Bool.and_comm]
 ·rw[dF_ e,ACt,Bool.and_false]
theorem uR(ok:LogN log)(h:D):((aN c log).filter λd=>decide (ay d=h)).map cu=(AAg (min (many log h) (c h).toNat)).map Int.ofNat:=by
 have e:∀l:List D,(l.filter λd=>decide (cu d<c h)).map cu=(l.map cu).filter λi=>decide (i<c h):=λl=>by
  rw[List.filter_map];rfl
 rw[Cv,e,ok.nums,List.filter_map,<-pQ];rfl
theorem Cu(ok:LogN log)(h:D):many (aN c log) h=min (many log h) (c h).toNat:=by
 have:=congrArg ACV (uR (c:=c) ok h)
 rw[AA4,AA4,List.length_range]at this
 exact this
theorem cN(ok:LogN log):LogN (aN c log) :=
 ⟨λd hd=>ok.deed d (ci hd),AAp (ACm _ _) ok.len,λh=>by rw[uR ok,Cu ok],ok.up.filter _⟩
theorem Dc(ok:LogN log)(h:d∈log):∃i:Nat,cu d=i/\i<many log (ay d):=by
 have hm:cu d∈(log.filter λx=>decide (ay x=ay d)).map cu:=AAI.mpr ⟨d,AAX.mpr ⟨h,dT_ rfl⟩,rfl⟩
 rw[ok.nums]at hm
 obtain⟨i,hi,e⟩:=AAI.mp hm
 exact⟨i,e.symm,ABK.mp hi⟩
theorem ql:∀{l:List D},(l.map f).Nodup->∀{a b:D},a∈l->b∈l->f a=f b->a=b
 | [],_,_,_,h,_,_=>nomatch h
 | x::l,nd,a,b,ha,hb,e=>by
  rw[AAH,AB9]at nd
  rcases AAF.mp ha with ea | ha
  ·rcases AAF.mp hb with eb | hb
   ·rw[ea,eb]
   ·exact absurd (AAI.mpr ⟨b,hb,by rw[<-e,ea]⟩) nd.1
  ·rcases AAF.mp hb with eb | hb
   ·exact absurd (AAI.mpr ⟨a,ha,by rw[e,eb]⟩) nd.1
   ·exact ql nd.2 ha hb e
theorem gI(ok:LogN log)(ha:a∈log)(hb:b∈log)(h1:ay a=ay b)(h2:cu a=cu b):a=b:=by
 refine ql (f:=cu) (l:=log.filter λd=>decide (ay d=ay b)) ?_ (AAX.mpr ⟨ha,dT_ h1⟩) (AAX.mpr ⟨hb,dT_ rfl⟩) h2
 rw[ok.nums]
 unfold List.Nodup
 rw[ABB]
 exact List.nodup_range.imp λh e=>h (by injection e)
theorem EU(ok:LogN log)(hp:ys.Perm log)(r:ys.Pairwise λa b=>ltD M eqN (stD b) (stD a)=false):ys=log:=by
 refine List.Perm.eq_of_pairwise (le:=λa b=>ltD M eqN (stD b) (stD a)=false) (λa b ha hb h1 h2=>?_) r ?_ hp
 ·have ma:=hp.mem_iff.mp ha
  have es:stD a=stD b:=by
   rcases ut M (cZ (ok.deed a ma)) (cZ (ok.deed b hb))with t | t | t
   ·exact t.1
   ·rw[t.2.1]at h2;cases h2
   ·rw[t.2.2.1]at h1;cases h1
  by_cases e:a=b
  ·exact e
  ·exfalso
   have ir:ltD [] eqN (stD a) (stD a)=true:=by
    obtain⟨i,hi,ei⟩:=ADu ma
    obtain⟨j,hj,ej⟩:=ADu hb
    have ne:i≠j:=λz=>e (by subst z;rw[<-ei,<-ej])
    have up:=List.pairwise_iff_getElem.mp ok.up
    rcases Nat.lt_or_gt_of_ne ne with h | h
    ·have:=up i j hi hj h
     rw[ei,ej,<-es]at this
     exact this
    ·have:=up j i hj hi h
     rw[ei,ej,<-es]at this
     exact this
   rcases ut [] (cZ (ok.deed a ma)) (cZ (ok.deed a ma))with t | t | t
   ·rw[t.2.1]at ir;cases ir
   ·exact t.1 rfl
   ·exact t.1 rfl
 ·refine(AAy.mp ok.up).imp λ{a b} ⟨ha,hb,h⟩=>?_
  have sa:=cZ (ok.deed a ha)
  have sb:=cZ (ok.deed b hb)
  rw[CZ (M':=[]) sb sa]
  rcases ut [] sa sb with t | t | t
  ·exact t.2.2
  ·exact t.2.2.1
  ·rw[t.2.1]at h;cases h
theorem Hs{α:Type}{lt:α->α->Prop}:∀{xs ys:List α},(∀a∈xs,∀b∈xs,lt a b->¬lt b a)->xs.Pairwise lt->ys.Pairwise lt->(∀x,x∈ys↔x∈xs)->xs=ys
 | [],[],_,_,_,_=>rfl
 | [],y::ys,_,_,_,h=>absurd ((h y).mp AAG) (by simp)
 | x::xs,[],_,_,_,h=>absurd ((h x).mpr AAG) (by simp)
 | x::xs,y::ys,as,hx,hy,h=>by
  rw[ACg]at hx hy
  have e:x=y:=by
   rcases AAF.mp ((h x).mpr AAG)with e | m1
   ·exact e
   ·rcases AAF.mp ((h y).mp AAG)with e | m2
    ·exact e.symm
    ·exact absurd (hx.1 y m2) (as _ (AA8 _ m2) _ AAG (hy.1 x m1))
  subst e
  rw[Hs (λa ha b hb=>as a (AA8 _ ha) b (AA8 _ hb)) hx.2 hy.2 λz=>⟨λm=>by
   rcases AAF.mp ((h z).mp (AA8 _ m))with e | m'
   ·subst e;exact absurd (hy.1 z m) (λq=>as z AAG z AAG q q)
   ·exact m',λm=>by
   rcases AAF.mp ((h z).mpr (AA8 _ m))with e | m'
   ·subst e;exact absurd (hx.1 z m) (λq=>as z AAG z AAG q q)
   ·exact m'⟩]
theorem Dr{α:Type}{P Q:α->α->Prop}:∀{l:List α},l.Pairwise P->l.Pairwise Q->(∀a b,Q a b->¬Q b a)->∀{a b:α},a∈l->b∈l->Q a b->P a b
 | [],_,_,_,_,_,ha,_,_=>nomatch ha
 | x::l,hp,hq,as,a,b,ha,hb,q=>by
  rw[ACg]at hp hq
  rcases AAF.mp ha with ea | ha'
  ·rcases AAF.mp hb with eb | hb'
   ·rw[ea,eb]at q;exact absurd q (as _ _ q)
   ·rw[ea];exact hp.1 b hb'
  ·rcases AAF.mp hb with eb | hb'
   ·rw[eb]at q;exact absurd q (as _ _ (hq.1 a ha'))
   ·exact Dr hp.2 hq.2 as ha' hb' q
theorem yh:∀{l l':List D},l.Nodup->l'.Nodup->(∀x,x∈l↔x∈l')->l.Perm l'
 | [],l',_,_,h=>by
  cases l' with
  | nil=>exact .refl _
  | cons y l'=>exact absurd ((h y).mpr AAG) (by simp)
 | x::l,l',nd,nd',h=>by
  obtain⟨s,t,rfl⟩:=List.append_of_mem ((h x).mp AAG)
  have p:(s++x::t).Perm (x::(s++t)):=List.perm_middle
  have n2:=p.nodup_iff.mp nd'
  rw[AB9]at nd n2
  refine((yh nd.2 n2.2 λy=>⟨λhy=>?_,λhy=>?_⟩).cons x).trans p.symm
  ·rcases AAF.mp (p.mem_iff.mp ((h y).mp (AA8 _ hy)))with rfl | z
   ·exact absurd hy nd.1
   ·exact z
  ·rcases AAF.mp ((h y).mpr (p.mem_iff.mpr (AA8 _ hy)))with rfl | z
   ·exact absurd hy n2.1
   ·exact z
theorem zF(hh:Hd h):eqD M (n+1) h h=true:=by obtain⟨z,k,rfl⟩:=hh;show (eqD M n (.str z) (.str z)&&(eqD M n (.int k) (.int k)&&true))=true;rw[bG,bb,beq_self_eq_true,beq_self_eq_true];rfl
theorem xN(hh:Hd h)(q:ltD [] eqN (.tup [.int t,h]) (.tup [.int t',h])=true):t<t':=by
 have q:(if eqD [] 29 (.int t) (.int t')=true then(if eqD [] 29 h h=true then false else ltD [] 29 h h)else decide (t<t'))=true:=q
 rw[bb,zF hh]at q
 by_cases e:t=t'
 ·rw[beq_iff_eq.mpr e]at q;cases q
 ·rw[beq_eq_false_iff_ne.mpr e]at q;exact oT_ q
theorem yH{l:List D}{n:Nat}(h:l.map cu=(AAg n).map Int.ofNat):l.Pairwise λa b=>cu a<cu b:=by
 have:(l.map cu).Pairwise (· < ·):=by
  rw[h,ABB]
  exact List.pairwise_lt_range.imp λq=>Int.ofNat_lt.mpr q
 exact ABB.mp this
theorem Dd(ok:LogN log):log.Nodup:=(AAy.mp ok.up).imp λ{a b} ⟨ha,_,q⟩ e=>by
 subst e
 obtain⟨t,hd',num,act,rfl,hh,_⟩:=ok.deed a ha
 exact absurd (xN hh q) (Int.lt_irrefl _)
theorem wU{log:List D}(ok:LogN log){a b:D}(ha:a∈log)(hb:b∈log)(eh:ay a=ay b)(q:cu a<cu b):eA a<eA b:=by
 have key:=Dr (l:=log.filter λd=>decide (ay d=ay b)) (P:=λa b=>ltD [] eqN (stD a) (stD b)=true) (Q:=λa b=>cu a<cu b) (ok.up.filter _) (yH (ok.nums _)) (λa b h h'=>by lia) (AAX.mpr ⟨ha,dT_ eh⟩) (AAX.mpr ⟨hb,dT_ rfl⟩) q
 obtain⟨t,h,num,act,rfl,hh,_⟩:=ok.deed a ha
 obtain⟨t',h',num',act',rfl,hh',_⟩:=ok.deed b hb
 have eh:h=h':=eh
 subst eh
 exact xN hh key
noncomputable def aH(d:D):D:=.tup [ay d,.int (cu d)]
theorem uQ{f:D->D}{k v:D}:∀{ds:List D},cY (dictOf (ds.map λd=>(f d,d))) k=some v->v∈ds/\f v=k:=by
 intro ds
 generalize hn:ds.length=n
 induction n generalizing ds with
 | zero =>
  intro h
  obtain rfl:=ACb hn
  cases h
 | succ n ih =>
  intro h
  have ne:ds≠[]:=λz=>by subst z;cases hn
  rw[<-List.dropLast_concat_getLast ne]at h ⊢
  rw[AAh,List.map_singleton,cG]at h
  by_cases e:k=f (ds.getLast ne)
  ·subst e
   rw[eS]at h
   injection h with h
   subst h
   exact⟨by simp,rfl⟩
  ·rw[kR e]at h
   obtain⟨h1,h2⟩:=ih (by rw[List.length_dropLast,hn];rfl) h
   exact⟨ABb _ h1,h2⟩
theorem uG:∀{kvs:List (D×D)}{p:D×D},(kvs.map (·.1)).Nodup->p∈kvs->cY kvs p.1=some p.2
 | [],_,_,h=>nomatch h
 | q::kvs,p,nd,h=>by
  rw[AAH,AB9]at nd
  unfold cY
  rw[AAu]
  rcases AAF.mp h with rfl | h
  ·rw[dT_ rfl];rfl
  ·have:q.1≠p.1:=λz=>nd.1 (by rw[z];exact ABI h)
   rw[dF_ this]
   exact uG nd.2 h
theorem BG(h:x∈kvs.map (·.1)\/x=k):x∈(fy kvs k v).map (·.1):=by
 unfold fy
 split
 ·have e:(kvs.map λp=>if p.1=k then(p.1,v)else p).map (·.1)=kvs.map (·.1):=by
   rw[AAd]
   refine AC1 λp _=>?_
   show (if p.1=k then(p.1,v)else p).1=p.1
   split<;>rfl
  rw[e]
  rename_i hs
  refine h.elim id λz=>?_
  subst z
  unfold cY at hs
  rw[ACN]at hs
  obtain⟨q,hq⟩:=ACM.mp hs
  have:=ADy hq
  exact AAI.mpr ⟨q,ACI hq,oT_ this⟩
 ·rw[AAh,AAL]
  exact h.imp id λz=>by subst z;simp
theorem Fq{f:D->D}{x:D}:∀{ds:List D},x∈ds->f x∈(dictOf (ds.map λd=>(f d,d))).map (·.1):=by
 intro ds
 rw[<-List.reverse_reverse ds]
 induction ds.reverse with
 | nil=>intro h;exact nomatch h
 | cons y l ih =>
  intro h
  rw[List.reverse_cons,AAh,List.map_singleton,cG]
  rw[List.reverse_cons]at h
  exact BG ((AAL.mp h).imp ih λz=>by rw[AAP.mp z])
theorem uA{M:Mem}{log ys:List D}{c:D->Int}(ok:LogN log)(p:ys.Perm (aN c log))(r:ys.Pairwise λa b=>ltD M eqN (aH b) (aH a)=false):ys.Pairwise λa b=>ay a=ay b->cu a<cu b:=by
 have nd:ys.Nodup:=p.nodup_iff.mpr (Dd (cN ok))
 refine(AAy.mp (r.and nd)).imp λ{a b} ⟨ha,hb,q,ne⟩ eh=>?_
 have ma:=ci (p.mem_iff.mp ha)
 have mb:=ci (p.mem_iff.mp hb)
 by_cases c1:cu a<cu b
 ·exact c1
 by_cases c2:cu b<cu a
 ·obtain⟨t,h,num,act,rfl,hh,_⟩:=ok.deed a ma
  obtain⟨t',h',num',act',rfl,hh',_⟩:=ok.deed b mb
  have eh:h=h':=eh
  subst eh
  have c2:num' < num:=c2
  have q:(if eqD M 29 h h=true then(if eqD M 29 (.int num') (.int num)=true then false else decide (num' < num))else ltD M 29 h h)=false:=q
  rw[zF hh,bb,beq_eq_false_iff_ne.mpr (by lia),dT_ c2]at q
  cases q
 ·exact absurd (gI ok ma mb eh (by lia)) ne
theorem vM{M:Mem}{log ys:List D}{c:D->Int}(ok:LogN log)(p:ys.Perm (aN c log))(r:ys.Pairwise λa b=>ltD M eqN (aH b) (aH a)=false)(h:D):(ys.filter λd=>decide (ay d=h)).map cu=(AAg (many ys h)).map Int.ofNat:=by
 have up:=uA ok p r
 have e:(aN c log).filter (λd=>decide (ay d=h))=ys.filter λd=>decide (ay d=h):=by
  refine Hs (lt:=λa b=>cu a<cu b) (λa _ b _ h h'=>by lia) (yH ((cN ok).nums h)) ?_ λx=>by rw[AAX,AAX,p.mem_iff]
  refine(AAy.mp (up.filter _)).imp λ{a b} ⟨ha,hb,q⟩=>q ?_
  rw[oT_ (AAX.mp ha).2,oT_ (AAX.mp hb).2]
 have n:=(cN (c:=c) ok).nums h
 unfold many at n ⊢
 rw[<-e];exact n
theorem Bl(hn:∀h,(ys.filter λd=>decide (ay d=h)).map cu=(AAg (many ys h)).map Int.ofNat)(e:ys=done++x::xs):cu x=(many done (ay x):Int):=by
 have q:=hn (ay x)
 rw[e,ADH,AAh,ADf,dT_ rfl,if_pos rfl,AAH]at q
 have:=congrArg (λl=>l[(many done (ay x))]?) q
 have hl:((done.filter λd=>decide (ay d=ay x)).map cu).length=many done (ay x):=by rw[AA4];rfl
 rw[AAi (by rw[hl];exact AAC _),hl,ABu,AB7,AAU]at this
 cases g:(AAg (many (done++x::xs) (ay x)))[many done (ay x)]? with
 | none=>rw[g]at this;cases this
 | some i =>
  rw[g]at this
  obtain⟨_,ei⟩:=AA3.mp g
  rw[List.getElem_range]at ei
  injection this with this
  rw[this,<-ei];rfl
theorem nr:many (ds++[d]) h=many ds h+if ay d=h then 1 else 0:=by
 unfold many
 rw[ADH,AA9]
 congr 1
 rw[ADf]
 by_cases e:ay d=h
 ·rw[dT_ e,if_pos e];rfl
 ·rw[dF_ e,if_neg e];rfl
theorem mn{M:Mem}{xs:List D}(h:∀d∈xs,rz d)(l:xs.length<64):SrtOk M (xs.map aH):=by
 have at_:∀x∈xs.map aH,∃z k n,x=.tup [.tup [.str z,.int k],.int n]:=λx hx=>by
  obtain⟨d,hd,rfl⟩:=AAI.mp hx
  obtain⟨t,h',num,act,rfl,⟨z,k,rfl⟩,_⟩:=h d hd
  exact⟨z,k,num,rfl⟩
 refine⟨by rw[AA4];exact l,λx hx=>?_,λx hx y hy=>?_,.inr (.inr (.inr (.inr λx hx=>?_)))⟩
 ·obtain⟨z,k,n,rfl⟩:=at_ x hx;rfl
 ·obtain⟨z,k,n,rfl⟩:=at_ x hx
  obtain⟨z',k',n',rfl⟩:=at_ y hy
  show (if eqD M 29 (.tup [.str z,.int k]) (.tup [.str z',.int k'])=true then(if eqD M 29 (.int n) (.int n')=true then true else true)else(if eqD M 28 (.str z) (.str z')=true then(if eqD M 28 (.int k) (.int k')=true then true else true)else true))=true
  repeat' split
  all_goals rfl
 ·obtain⟨z,k,n,rfl⟩:=at_ x hx;exact⟨_,_,rfl⟩
theorem yx{log told:List D}{c:D->Int}(ok:LogN log)(h:∀d,d∈told↔d∈aN c log):((dictOf (told.map λd=>(aH d,d))).map (·.2)).Perm (aN c log):=by
 have nd:((dictOf (told.map λd=>(aH d,d))).map (·.1)).Nodup:=by
  have:∀ps:List (D×D),((dictOf ps).map (·.1)).Nodup:=λps=>by
   rw[<-List.reverse_reverse ps]
   induction ps.reverse with
   | nil=>exact AEB
   | cons p ps ih=>rw[List.reverse_cons,cG];exact rV ih
  exact this _
 have is_:∀p∈dictOf (told.map λd=>(aH d,d)),p.2∈told/\aH p.2=p.1:=λp hp=>uQ (f:=aH) (uG nd hp)
 have sub:∀d∈told,d∈log:=λd hd=>ci ((h d).mp hd)
 have inj:∀a∈told,∀b∈told,aH a=aH b->a=b:=λa ha b hb e=>by
  simp only[aH,D.tup.injEq,ADB,D.int.injEq,and_true]at e
  exact gI ok (sub a ha) (sub b hb) e.1 e.2
 refine yh ?_ (Dd (cN ok)) λx=>⟨λhx=>?_,λhx=>?_⟩
 ·unfold List.Nodup at nd ⊢
  rw[ABB]at nd ⊢
  refine(AAy.mp nd).imp λ{a b} ⟨ha,hb,ne⟩ e=>ne ?_
  rw[<-(is_ a ha).2,<-(is_ b hb).2,e]
 ·obtain⟨p,hp,rfl⟩:=AAI.mp hx
  exact(h _).mp (is_ p hp).1
 ·have hx:=(h x).mpr hx
  have kx:aH x∈(dictOf (told.map λd=>(aH d,d))).map (·.1):=Fq (f:=aH) hx
  obtain⟨p,hp,e⟩:=AAI.mp kx
  obtain⟨q1,q2⟩:=is_ p hp
  exact AAI.mpr ⟨p,hp,inj _ q1 _ hx (q2.trans e)⟩
noncomputable def oH:D->Bool
 | .int _=>true
 | _=>false
def cJ:DSp:=λds M R=>∃d,ds=[d]/\tyD M d∈lA/\R (.bl (oH d)) M
theorem qv:bQ cJ iA:=by rintro ds M R ⟨d,rfl,_⟩;rfl
def lR:DTS:=aX (db (dCB pS (aa (ac 0) (aa (dC (.ty "int")) ag))) (Cp (dCB pS (aa (ac 0) (aa (dC (.ty "bool")) ag)))))
theorem rH:WpT cJ 1 lR:=by
 rintro ds M R ⟨d,rfl,ht,h⟩
 unfold lR
 cases d with
 | ref n =>
  have e:=cx ht
  simp only[tyD]at e
  walk_at "dl"
  simp only[e]
  exact⟨by decide,bp (aI.now h)⟩
 | ty n=>simp only[tyD]at ht;exact absurd ht (by decide)
 | int i=>walk_at "dl";exact⟨by decide,bu ⟨by decide,aI.now h⟩⟩
 | bl i=>walk_at "dl";exact⟨by decide,bu ⟨by decide,aI.now h⟩⟩
 | _=>walk_at "dl";exact⟨by decide,bp (aI.now h)⟩
theorem kE(T:Tops P w K mg base):Cal P w K mg base 1 "is_whole" iA cJ :=
 Cal.byD (N:=["thing"]) T.b T.f_is_whole (by walk_at "sc") qv (by walk_at "dv") rH
noncomputable def bA(k:Int):D->Bool
 | .int i=>decide (k<=i)
 | _=>false
def aV:DSp:=λds M R=>∃(k:Int) (d:D),ds=[.int k,d]/\tyD M d∈lA/\R (.bl (bA k d)) M
theorem iG:bQ aV cC:=by rintro ds M R ⟨k,d,rfl,_⟩;rfl
def eM:DTS:=aX (db (dCB cJ (aa (ac 1) ag)) (dOp qGe (ac 1) (ac 0)))
theorem jd:WpT aV 2 eM:=by
 rintro ds M R ⟨k,d,rfl,ht,h⟩
 unfold eM
 walk_at "dl"
 refine⟨d,rfl,ht,?_⟩
 cases d with
 | int i=>simp only[oH,↓reduceIte];exact aI.now h
 | _=>simp only[oH,AAZ,↓reduceIte];exact aI.now h
theorem cg(T:Tops P w K mg base):Cal P w K mg base 2 "is_whole_from" cC aV :=
 Cal.byD (N:=["least","thing"]) T.b T.f_is_whole_from (by walk_at "sc") iG (by have:=kE T;walk_at "dv") jd
noncomputable def mN(k:Int):D->Bool
 | .tup xs=>(xs.length:Int)==k
 | _=>false
def aO:DSp:=λds M R=>∃(k:Int) (d:D),ds=[.int k,d]/\tyD M d∈lA/\R (.bl (mN k d)) M
theorem kN:bQ aO dI:=by rintro ds M R ⟨k,d,rfl,_⟩;rfl
def gk:DTS:=aX (db (dCB pS (aa (ac 1) (aa (dC (.ty "tuple")) ag))) (dOp qEq (dCB eP (aa (ac 1) ag)) (ac 0)))
theorem lz:WpT aO 2 gk:=by
 rintro ds M R ⟨k,d,rfl,ht,h⟩
 unfold gk
 cases d with
 | ref n =>
  have e:=cx ht
  simp only[tyD]at e
  walk_at "dl"
  simp only[e]
  exact⟨by decide,bp (aI.now h)⟩
 | ty n=>simp only[tyD]at ht;exact absurd ht (by decide)
 | tup xs=>walk_at "dl";exact⟨by decide,bu ⟨⟨rfl,rfl⟩,aI.now h⟩⟩
 | _=>walk_at "dl";exact⟨by decide,bp (aI.now h)⟩
theorem bC(T:Tops P w K mg base):Cal P w K mg base 1 "is_tuple_of" dI aO :=
 Cal.byD (N:=["many","thing"]) T.b T.f_is_tuple_of (by walk_at "sc") kN (by walk_at "dv") lz
def bg:DSp:=λds M R=>∃(d:D) (xs:List D),ds=[d]/\CI M d xs/\R (.bl true) M
theorem fw:bQ bg bK:=by rintro ds M R ⟨d,xs,rfl,_⟩;rfl
def cL:DTS:=aX (dCB pS (aa (ac 0) (aa (iJ (aa (dC (.ty "list")) (aa (dC (.ty "tuple")) ag))) ag)))
theorem fF:WpT bg 1 cL:=by
 rintro ds M R ⟨d,xs,rfl,hs,h⟩
 simp only[cL]
 rcases hs with⟨n,rfl,hL⟩ | rfl
 ·have e:=hL.ty
  simp only[tyD]at e
  walk_at "dl"
  rw[e]
  exact⟨aA (by decide),⟨by decide,by decide,by decide⟩,aI.now h⟩
 ·walk_at "dl"
  exact⟨aA (by decide),⟨by decide,by decide,by decide⟩,aI.now h⟩
theorem fR(T:Tops P w K mg base):Cal P w K mg base 1 "is_list_or_tuple" bK bg :=
 Cal.byD (N:=["thing"]) T.b T.f_is_list_or_tuple (by walk_at "sc") fw (by walk_at "dv") fF
noncomputable def ef(M:Mem):List D->Bool
 | a::b::r=>ltD M eqN a b&&ef M (b::r)
 | _=>true
theorem uw(M:Mem):∀xs:List D,((AAg (xs.length-1)).map λi=>ltD M eqN (xs.getD i .non) (xs.getD (i+1) .non)).all id=ef M xs
 | []=>rfl
 | [a]=>rfl
 | a::b::r=>by
  have ih:=uw M (b::r)
  have e:(a::b::r).length-1=(b::r).length-1+1:=by simp
  rw[e,List.range_succ_eq_map,AAH,AAd,AB6]
  show (ltD M eqN a b&&_)=(ltD M eqN a b&&ef M (b::r))
  rw[<-ih]
  rfl
theorem Hk(h:CI M d xs)(q:Q (.int (xs.length:Int)) M):eP [d] M Q:=by
 rcases h with⟨n,rfl,hL⟩ | rfl
 ·exact⟨_,hL,q⟩
 ·exact q
theorem Hl{M:Mem}{d:D}{xs:List D}(h:CI M d xs){Q:DK}{i:Int}(h0:0<=i)(h1:i<xs.length)(q:Q (xs.getD i.toNat .non) M):qIx d (.int i) M Q:=by
 have hj:i.toNat<xs.length:=by lia
 have e:atI xs i=some (xs.getD i.toNat .non):=by
  have e0:i=((i.toNat:Nat):Int):=by lia
  have:=aM (j:=i.toNat) (show xs[i.toNat]?=some (xs.getD i.toNat .non) by simp[hj,AAK])
  rwa [<-e0]at this
 rcases h with⟨n,rfl,hL⟩ | rfl
 ·refine⟨_,hL,?_⟩
  rw[e];exact q
 ·show match atI xs i with | some d=>Q d M | none=>False
  rw[e];exact q
theorem JB(ha:Hd a)(hb:Hd b):okD M eqN a=true/\okD M eqN b=true/\gZ M eqN a b=true:=by
 obtain⟨x,k,rfl⟩:=ha
 obtain⟨y,l,rfl⟩:=hb
 refine⟨rfl,rfl,?_⟩
 show (if eqD M 29 (.str x) (.str y)=true then(if eqD M 29 (.int k) (.int l)=true then true else true)else true)=true
 split
 ·split<;>rfl
 ·rfl
def cQ:DSp:=λds M R=>∃(d:D) (xs:List D),ds=[d]/\CI M d xs/\((∀x∈xs,Hd x)\/∀x∈xs,StH x)/\xs.length<=1000/\R (.bl (ef M xs)) M
theorem nC:bQ cQ fJ:=by rintro ds M R ⟨d,xs,rfl,_⟩;rfl
def jD:DTS:=aX (dCB Ao (aa (dLC 1 [0] (iK (aa (dC (.int 1)) (aa (dCB eP (aa (ac 0) ag)) ag))) (ax 0) jm (dOp HD (dOp qIx (ac 1) (dOp AN (ac 0) (dC (.int 1)))) (dOp qIx (ac 1) (ac 0)))) ag))
theorem oy:WpT cQ 1 jD:=by
 rintro ds M R ⟨d,xs,rfl,tx,hx,hl,h⟩
 simp only[jD,aX,dCB,aa,ag,dLC,iK,dC,ac,bL,GP,AAH,ACA,ABp,AAY,AB7,ABM,AAD,AAS,AC2,List.replicate_succ,ABu,AC9]
 refine Hk tx ⟨⟨by lia,by lia,by lia,by lia⟩,?_⟩
 have en:(((xs.length:Int)-1).toNat)=xs.length-1:=by lia
 rw[en]
 have hmem:∀i,i<xs.length->xs.getD i .non∈xs:=λi hi=>by
  rw[AAK,AA5 hi]
  exact AAf hi
 have hcm:∀a∈xs,∀b∈xs,∃as bs,a=.tup as/\b=.tup bs/\okD M eqN a=true/\okD M eqN b=true/\gZ M eqN a b=true:=λa ha b hb=>by
  rcases hx with hx | hx
  ·have c:=JB (M:=M) (hx a ha) (hx b hb)
   obtain⟨_,_,ea⟩:=hx a ha
   obtain⟨_,_,eb⟩:=hx b hb
   exact⟨_,_,ea,eb,c⟩
  ·have c:=xO (M:=M) (hx a ha) (hx b hb)
   obtain⟨_,_,ea,_⟩:=id (hx a ha)
   obtain⟨_,_,eb,_⟩:=id (hx b hb)
   exact⟨_,_,ea,eb,yE M _ _ (pI (hx a ha)),yE M _ _ (pI (hx b hb)),c⟩
 refine aW (λk=>match k with | .int i=>.bl (ltD M eqN (xs.getD (i-1).toNat .non) (xs.getD i.toNat .non)) | _=>.non) (λS=>∃a,S=[a,some d]) trivial _ _ _ ?_ ⟨_,rfl⟩ ?_ ?_
 ·rintro y hy S ⟨a,rfl⟩
  obtain⟨i,hi⟩:=ACJ hy
  obtain⟨h1,rfl⟩:=gz.mp hi
  refine⟨[some (.int (1+(i:Int))),some d],⟨_,rfl⟩,λY hY=>?_⟩
  simp only[ax,dOp,ac,dC,AN,List.set_cons_zero,AB7,ABM,AC9]
  refine Hl tx (by lia) (by lia) (Hl tx (by lia) (by lia) ?_)
  obtain⟨xa,xb,ea,eb,cm⟩:=hcm _ (hmem ((1+(i:Int)-1).toNat) (by lia)) _ (hmem ((1+(i:Int)).toNat) (by lia))
  have hY':Y (.bl (ltD M eqN (xs.getD (1+(i:Int)-1).toNat .non) (xs.getD (1+(i:Int)).toNat .non))) [some (.int (1+(i:Int))),some d] M:=hY
  rw[ea,eb]at cm hY' ⊢
  exact⟨cm,hY'⟩
 ·simp only[AAS,dD]
  exact aA (by lia)
 ·refine⟨(AAg (xs.length-1)).map λi=>ltD M eqN (xs.getD i .non) (xs.getD (i+1) .non),?_,?_⟩
  ·rw[AAY]
   have:(mU 1 (xs.length-1)).map (λk=>match k with | .int i=>D.bl (ltD M eqN (xs.getD (i-1).toNat .non) (xs.getD i.toNat .non)) | _=>.non)=bls ((AAg (xs.length-1)).map λi=>ltD M eqN (xs.getD i .non) (xs.getD (i+1) .non)):=by
    unfold mU bls
    rw[AAd,AAd]
    refine AC1 λi _=>?_
    show D.bl _=D.bl _
    rw[show ((1:Int)+(i:Int)-1).toNat=i by lia,show ((1:Int)+(i:Int)).toNat=i+1 by lia]
   rw[this]
   exact ak
  ·rw[uw]
   exact aI.bl h pW
theorem qd(T:Tops P w K mg base):Cal P w K mg base 1 "is_rising" fJ cQ :=
 Cal.byD (N:=["things"]) T.b T.f_is_rising (by walk_at "sc") nC (by walk_at "dv") oy
noncomputable def dL(x:Str):Bool:=!bv x "a" && !bv "z" x
def cS:DSp:=λds M R=>∃x:Str,ds=[.str x]/\R (.bl (dL x)) M
theorem nE:bQ cS fL:=by rintro ds M R ⟨x,rfl,_⟩;rfl
def jN:DTS:=aX (gY qLe qLe (dC (.str "a")) (ac 0) (dC (.str "z")))
theorem oA:WpT cS 1 jN:=by
 rintro ds M R ⟨x,rfl,h⟩
 unfold jN
 walk_at "dl"
 unfold dL at h
 cases e:bv x "a" with
 | true=>rw[e]at h;exact bp (aI.now h)
 | false=>rw[e]at h;exact bu (aI.now h)
theorem qg(T:Tops P w K mg base):Cal P w K mg base 1 "is_letter" fL cS :=
 Cal.byD (N:=["sign"]) T.b T.f_is_letter (by walk_at "sc") nE (by walk_at "dv") oA
noncomputable def rT(c:Nat):Bool:=decide (32<=c)&&decide (c<=126)
def fq:DSp:=λds M R=>∃c:Nat,ds=[.str ⟨#[c]⟩]/\R (.bl (rT c)) M
theorem sG:bQ fq kt:=by rintro ds M R ⟨x,rfl,_⟩;rfl
def pf:DTS:=aX (gY qLe qLe (dC (.int 32)) (dCB Hz (aa (ac 0) ag)) (dC (.int 126)))
theorem vh:WpT fq 1 pf:=by
 rintro ds M R ⟨c,rfl,h⟩
 unfold pf
 walk_at "dl"
 refine⟨rfl,?_⟩
 rw[show (#[c]:Array Nat).getD 0 0=c from rfl]
 unfold rT at h
 by_cases h1:32<=c
 ·rw[dT_ h1]at h
  rw[dT_ (show (32:Int)<=(c:Int) by lia)]
  refine bu (aI.now ?_)
  rw[show decide ((c:Int)<=126)=decide (c<=126) by rw[AC0];simp;lia]
  simpa using h
 ·rw[dF_ h1]at h
  rw[dF_ (show ¬(32:Int)<=(c:Int) by lia)]
  exact bp (aI.now (by simpa using h))
theorem vQ(T:Tops P w K mg base):Cal P w K mg base 1 "is_sign" kt fq :=
 Cal.byD (N:=["sign"]) T.b T.f_is_sign (by walk_at "sc") sG (by walk_at "dv") vh
noncomputable def fS(c:Nat):Bool:=decide (97<=c)&&decide (c<=122)
noncomputable def qC:D->Bool
 | .str x=>decide (1<=x.length)&&decide (x.length<=8)&&x.cps.toList.all fS
 | _=>false
theorem qD(c:Nat):dL ⟨#[c]⟩=fS c:=by
 have e1:bv ⟨#[c]⟩ "a" = decide (c<97):=by
  unfold bv
  rw[show (AA1 "a").cps.toList=[97]from by decide +kernel,AC0]
  simp[AAn]
 have e2:bv "z" ⟨#[c]⟩=decide (122<c):=by
  unfold bv
  rw[show (AA1 "z").cps.toList=[122]from by decide +kernel,AC0]
  simp[AAn]
 unfold dL fS
 rw[e1,e2,AC0]
 simp
def fv:DSp:=λds M R=>∃d,ds=[d]/\nW M d/\R (.bl (qC d)) M
theorem sJ:bQ fv kz:=by rintro ds M R ⟨x,rfl,_⟩;rfl
theorem xS(x:Str):((signs x).map λd=>match d with | .str y=>D.bl (dL y) | _=>.bl false)=bls (x.cps.toList.map fS):=by
 unfold signs bls
 rw[AAd,AAd]
 refine AC1 λc _=>?_
 show D.bl (dL ⟨#[c]⟩)=D.bl (fS c)
 rw[qD]
def jM:DTS:=aX (db (gY qLe qLe (dC (.int 1)) (dCB eP (aa (ac 0) ag)) (dC (.int 8))) (dCB Ao (aa (dLC 1 [] (bo (ac 0)) (ax 0) jm (dCB cS (aa (ac 0) ag))) ag)))
def pj:DTS:=aF (dIf (qN (aB (dCB pS (aa (ac 0) (aa (dC (.ty "str")) ag))))) (aX (dC (.bl false))) aR) (jM)
theorem vn:WpT fv 1 pj:=by
 rintro ds M R ⟨d,rfl,⟨hty,hl⟩,h⟩
 simp only[pj,jM]
 cases d with
 | str x =>
  have hx:=hl x rfl
  walk_at "dl"
  refine⟨by decide,?_⟩
  rw[show oj "str" "str" = true from rfl]
  refine bp ⟨hx,?_⟩
  simp only[qC]at h
  by_cases h1:1<=x.length
  ·rw[dT_ h1]at h
   rw[dT_ (show (1:Int)<=(x.length:Int) by lia)]
   refine bu ?_
   by_cases h8:x.length<=8
   ·rw[dT_ h8]at h
    rw[dT_ (show (x.length:Int)<=8 by lia)]
    refine bu ?_
    refine aW (λd=>match d with | .str y=>D.bl (dL y) | _=>.bl false) (λS=>∃a,S=[a]) trivial _ _ _ ?_ ⟨_,rfl⟩ ?_ ?_
    ·rintro y hy S ⟨a,rfl⟩
     obtain⟨c,_,rfl⟩:=AAI.mp hy
     exact⟨_,⟨_,rfl⟩,λY hY=>⟨_,rfl,hY⟩⟩
    ·simp only[signs,AA4,AAS,Nat.zero_add,<-aC]
     exact aA (by lia)
    ·refine⟨x.cps.toList.map fS,?_,?_⟩
     ·rw[AAY,xS]
      exact ak
     ·refine aI.bl ?_ pW
      simpa using h
   ·rw[dF_ h8]at h
    rw[dF_ (show ¬(x.length:Int)<=8 by lia)]
    refine bp (aI.now ?_)
    simpa using h
  ·rw[dF_ h1]at h
   rw[dF_ (show ¬(1:Int)<=(x.length:Int) by lia)]
   exact bp (aI.now (by simpa using h))
 | non=>walk_at "dl";exact⟨by decide,bu (aI.now h)⟩
 | bl b=>walk_at "dl";exact⟨by decide,bu (aI.now h)⟩
 | int b=>walk_at "dl";exact⟨by decide,bu (aI.now h)⟩
 | tup b=>walk_at "dl";exact⟨by decide,bu (aI.now h)⟩
 | ty b=>exact absurd hty (by simp only[tyD];decide)
 | ref n =>
  have e:=cx hty
  simp only[tyD]at e
  walk_at "dl"
  rw[e]
  exact⟨by decide,bu (aI.now h)⟩
theorem vS(T:Tops P w K mg base):Cal P w K mg base 2 "is_name" kz fv :=
 Cal.byD (N:=["thing"]) T.b T.f_is_name (by walk_at "sc") sJ (by have:=qg T;walk_at "dv") vn
noncomputable def gQ:D->Bool
 | .str x=>decide (1<=x.length)&&decide (x.length<=60)&&x.cps.toList.all rT
 | _=>false
def cP:DSp:=λds M R=>∃d,ds=[d]/\nW M d/\R (.bl (gQ d)) M
theorem nB:bQ cP fI:=by rintro ds M R ⟨x,rfl,_⟩;rfl
noncomputable def Ho(d:D):D:=.bl (rT (chD d))
theorem xR(x:Str):(L2.signs x).map Ho=bls (x.cps.toList.map rT):=by
 unfold L2.signs bls
 rw[AAd,AAd]
 rfl
def gm:DTS:=aX (db (gY qLe qLe (dC (.int 1)) (dCB eP (aa (ac 0) ag)) (dC (.int 60))) (dCB Ao (aa (dLC 1 [] (bo (ac 0)) (ax 0) jm (dCB fq (aa (ac 0) ag))) ag)))
def jC:DTS:=aF (dIf (qN (aB (dCB pS (aa (ac 0) (aa (dC (.ty "str")) ag))))) (aX (dC (.bl false))) aR) (gm)
theorem ox:WpT cP 1 jC:=by
 rintro ds M R ⟨d,rfl,⟨hty,hl⟩,h⟩
 simp only[jC,gm]
 cases d with
 | str x =>
  have hx:=hl x rfl
  walk_at "dl"
  refine⟨by decide,bp ⟨hx,?_⟩⟩
  simp only[gQ]at h
  by_cases h1:1<=x.length
  ·rw[dT_ h1]at h
   rw[dT_ (show (1:Int)<=(x.length:Int) by lia)]
   refine bu ?_
   by_cases h8:x.length<=60
   ·rw[dT_ h8]at h
    rw[dT_ (show (x.length:Int)<=60 by lia)]
    refine bu ?_
    refine aW Ho (λS=>∃a,S=[a]) trivial _ _ _ ?_ ⟨_,rfl⟩ ?_ ?_
    ·rintro y hy S ⟨a,rfl⟩
     obtain⟨c,_,rfl⟩:=AAI.mp hy
     exact⟨_,⟨_,rfl⟩,λY hY=>⟨c,rfl,hY⟩⟩
    ·simp only[L2.signs,AA4,AAS,Nat.zero_add,<-aC]
     exact aA (by lia)
    ·refine⟨x.cps.toList.map rT,?_,?_⟩
     ·rw[AAY,xR]
      exact ak
     ·refine aI.bl ?_ pW
      simpa using h
   ·rw[dF_ h8]at h
    rw[dF_ (show ¬(x.length:Int)<=60 by lia)]
    refine bp (aI.now ?_)
    simpa using h
  ·rw[dF_ h1]at h
   rw[dF_ (show ¬(1:Int)<=(x.length:Int) by lia)]
   exact bp (aI.now (by simpa using h))
 | non=>walk_at "dl";exact⟨by decide,bu (aI.now h)⟩
 | bl b=>walk_at "dl";exact⟨by decide,bu (aI.now h)⟩
 | int b=>walk_at "dl";exact⟨by decide,bu (aI.now h)⟩
 | tup b=>walk_at "dl";exact⟨by decide,bu (aI.now h)⟩
 | ty b=>exact absurd hty (by simp only[tyD];decide)
 | ref n =>
  have e:=cx hty
  simp only[tyD]at e
  walk_at "dl"
  rw[e]
  exact⟨by decide,bu (aI.now h)⟩
theorem qc(T:Tops P w K mg base):Cal P w K mg base 2 "is_saying" fI cP :=
 Cal.byD (N:=["thing"]) T.b T.f_is_saying (by walk_at "sc") nB (by have:=vQ T;walk_at "dv") ox
noncomputable def fB:D->D
 | .tup (a::_)=>a
 | _=>.non
def cb:DSp:=λds M R=>∃xs:List D,ds=[.tup xs]/\(∀x∈xs,∃a r,x=.tup (a::r))/\R (.ref M.length) (M++[.lst (xs.map fB)])
theorem nF:bQ cb fM:=by rintro ds M R ⟨xs,rfl,_⟩;rfl
def jR:DTS:=aX (dLC 1 [] (bo (ac 0)) (ax 0) jm (dOp qIx (ac 0) (dC (.int 0))))
theorem oB:WpT cb 1 jR:=by
 rintro ds M R ⟨xs,rfl,hx,h⟩
 simp only[jR]
 walk_at "dl"
 intro hl
 refine aW fB (λS=>∃a,S=[a]) trivial _ _ _ ?_ ⟨_,rfl⟩ ?_ ?_
 ·rintro y hy S ⟨a,rfl⟩
  obtain⟨b,r,rfl⟩:=hx y hy
  refine⟨[some (.tup (b::r))],⟨_,rfl⟩,λY hY=>?_⟩
  walk_at "dl"
  exact hY
 ·simpa using hl
 ·exact .inl h
theorem iV(T:Tops P w K mg base):Cal P w K mg base 1 "firsts_of" fM cb :=
 Cal.byD (N:=["pairs"]) T.b T.f_firsts_of (by walk_at "sc") nF (by walk_at "dv") oB
noncomputable def fA(ps:List (Str×Int)):D->Int
 | .str x=>((ps.find? λp=>decide (p.1=x)).map (·.2)).getD 0
 | _=>0
def fm:DSp:=λds M R=>∃(ps:List (Str×Int)) (r:List D) (d:D),ds=[.tup (.tup (ps.map aG)::r),d]/\okD M eqN d=true/\R (.int (fA ps d)) M
theorem sE:bQ fm km:=by rintro ds M R ⟨ps,r,d,rfl,_⟩;rfl
theorem sA(p:Str×Int)(ps:List (Str×Int))(d:D)(M:Mem):fA (p::ps) d=if eqD M eqN (.str p.1) d=true then p.2 else fA ps d:=by
 cases d with
 | str x =>
  show ((List.find? _ (p::ps)).map _).getD 0=if (p.1==x)=true then _ else _
  by_cases h:p.1=x
  ·subst h;simp
  ·rw[if_neg (by simpa using h)]
   simp[fA,AAu,h]
 | _=>rfl
def jx:DTS:=aX (dC (.int 0))
def pc:DTS:=aF (oo (bo (dOp qIx (ac 0) (dC (.int 0)))) (qL 2 (dn (ax 2) (dn (ax 3) qM))) (dIf (aB (dOp qEq (ac 2) (ac 1))) (aX (ac 3)) aR)) (jx)
theorem vc:WpT fm 4 pc:=by
 rintro ds M R ⟨ps,r,d,rfl,ok,h⟩
 simp only[pc,jx]
 walk_at "dl"
 intro _
 refine fi (λys S M'=>∃qs a b,ys=qs.map aG/\M'=M/\S=[some (.tup (.tup (ps.map aG)::r)),some d,a,b]/\fA ps d=fA qs d) ?_ ?_ _ _ _ ⟨ps,_,_,rfl,rfl,rfl,rfl⟩
 ·rintro S M' ⟨qs,a,b,hq,rfl,rfl,e⟩
  have:qs=[]:=by cases qs<;>simp_all
  subst this
  rw[e]at h
  exact⟨trivial,aI.now (by cases d<;>exact h)⟩
 ·rintro x xs S M' ⟨qs,a,b,hq,rfl,rfl,e⟩ L hL
  cases qs with
  | nil=>cases hq
  | cons p qs =>
   rw[AAH]at hq
   injection hq with h1 h2
   subst h1
   refine⟨trivial,?_⟩
   unfold aG
   walk_at "dl"
   refine⟨trivial,⟨rfl,ok⟩,?_⟩
   rw[sA p qs d M']at e
   by_cases hq:eqD M' eqN (.str p.1) d=true
   ·rw[if_pos hq]at e
    rw[hq]
    refine bu (aI.now ?_)
    rw[<-e];exact h
   ·rw[if_neg hq]at e
    rw[ABW.mpr hq]
    exact bp (Fgt.now (hL _ _ ⟨qs,_,_,h2,rfl,rfl,e⟩))
theorem vO(T:Tops P w K mg base):Cal P w K mg base 1 "many_of" km fm :=
 Cal.byD (N:=["house","name","person","many"]) T.b T.f_many_of (by walk_at "sc") sE (by walk_at "dv") vc
noncomputable def sw(xs:List Str):D->Bool
 | .str x=>xs.any λy=>y==x
 | _=>false
theorem Ky{α:Type}(xs:List α):(xs.any λ_=>false)=false:=by
 induction xs with
 | nil=>rfl
 | cons a l ih=>rw[ACX,ih];rfl
theorem FJ(xs:List Str):inD M d (xs.map D.str)=sw xs d:=by
 unfold inD
 rw[List.any_map]
 cases d with
 | str x =>
  show (xs.any λy=>eqD M eqN (.str y) (.str x))=xs.any λy=>y==x
  congr 1
 | _=>exact Ky xs
theorem bne_f(b:Bool):(b != false)=b:=by cases b<;>rfl
theorem DM{M:Mem}{n:Nat}(xs:List Str):(xs.map D.str).all (okD M n)=true:=by
 rw[AE7,AAO]
 intro x _
 exact aJ
theorem zz(g:Gdn M n d)(p:M <+: B)(h:R (.bl (sw xs d)) M):qIn d (.ref B.length) (B++[.lst (xs.map D.str)]) (aI M R):=by
 show ∃ys,ao (B++[MO.lst (xs.map D.str)]) B.length ys/\(okD (B++[MO.lst (xs.map D.str)]) eqN d=true/\ys.all (okD (B++[MO.lst (xs.map D.str)]) eqN)=true)/\aI M R (.bl (inD (B++[MO.lst (xs.map D.str)]) d ys != false)) (B++[MO.lst (xs.map D.str)])
 refine⟨xs.map D.str,ak,⟨(g.grow (p.trans pW)).ok,DM xs⟩,?_⟩
 rw[FJ,bne_f]
 exact aI.bl h (p.trans pW)
theorem sX(ps:List (Str×Int)):(ps.map aG).map fB=(ps.map (·.1)).map D.str:=by rw[AAd,AAd];rfl
def cR:DSp:=λds M R=>∃(n:Nat) (ps:List (Str×Int)) (r:List D) (d:D),ds=[.tup (.tup (ps.map aG)::r),d]/\Gdn M n d/\R (.bl (sw (ps.map (·.1)) d)) M
theorem nD:bQ cR fK:=by rintro ds M R ⟨n,ps,r,d,rfl,_⟩;rfl
def jE:DTS:=aX (dOp qIn (ac 1) (dCB cb (aa (dOp qIx (ac 0) (dC (.int 0))) ag)))
theorem oz:WpT cR 2 jE:=by
 rintro ds M R ⟨n,ps,r,d,rfl,g,h⟩
 simp only[jE]
 walk_at "dl"
 refine⟨ps.map aG,rfl,λx hx=>?_,?_⟩
 ·obtain⟨p,_,rfl⟩:=AAI.mp hx
  exact⟨_,_,rfl⟩
 ·rw[sX]
  exact zz g (List.prefix_refl M) h
theorem qf(T:Tops P w K mg base):Cal P w K mg base 2 "is_person" fK cR :=
 Cal.byD (N:=["house","thing"]) T.b T.f_is_person (by walk_at "sc") nD (by have:=iV T;walk_at "dv") oz
noncomputable def bB(p:Str×List Str):D:=.tup [.str p.1,.tup (p.2.map .str)]
theorem sW(rs:List (Str×List Str)):(rs.map bB).map fB=(rs.map (·.1)).map D.str:=by rw[AAd,AAd];rfl
def du:DSp:=λds M R=>∃(n:Nat) (p0:D) (rs:List (Str×List Str)) (r:List D) (d:D),ds=[.tup (p0::.tup (rs.map bB)::r),d]/\Gdn M n d/\R (.bl (sw (rs.map (·.1)) d)) M
theorem sH:bQ du ku:=by rintro ds M R ⟨n,p0,rs,r,d,rfl,_⟩;rfl
def ph:DTS:=aX (dOp qIn (ac 1) (dCB cb (aa (dOp qIx (ac 0) (dC (.int 1))) ag)))
theorem vj:WpT du 2 ph:=by
 rintro ds M R ⟨n,p0,rs,r,d,rfl,g,h⟩
 simp only[ph]
 walk_at "dl"
 refine⟨rs.map bB,rfl,λx hx=>?_,?_⟩
 ·obtain⟨p,_,rfl⟩:=AAI.mp hx
  exact⟨_,_,rfl⟩
 ·rw[sW]
  exact zz g (List.prefix_refl M) h
theorem mv(T:Tops P w K mg base):Cal P w K mg base 2 "is_room" ku du :=
 Cal.byD (N:=["house","thing"]) T.b T.f_is_room (by walk_at "sc") sH (by have:=iV T;walk_at "dv") vj
noncomputable def bx(ps:List (Str×Int)):D->Bool
 | .tup [a,.int k]=>decide (0<=k)&&decide (k<fA ps a)
 | _=>false
def dw:DSp:=λds M R=>∃(ps:List (Str×Int)) (r:List D) (d:D),ds=[.tup (.tup (ps.map aG)::r),d]/\tyD M d∈lA/\(∀a b,d=.tup [a,b]->okD M eqN a=true/\tyD M b∈lA)/\R (.bl (bx ps d)) M
theorem sK:bQ dw kA:=by rintro ds M R ⟨ps,r,d,rfl,_⟩;rfl
def pp:DTS:=aX (db (dCB aO (aa (dC (.int 2)) (aa (ac 1) ag))) (db (dCB cJ (aa (dOp qIx (ac 1) (dC (.int 1))) ag)) (gY qLe qLt (dC (.int 0)) (dOp qIx (ac 1) (dC (.int 1))) (dCB fm (aa (ac 0) (aa (dOp qIx (ac 1) (dC (.int 0))) ag))))))
theorem vp:WpT dw 2 pp:=by
 rintro ds M R ⟨ps,r,d,rfl,ht,hab,h⟩
 simp only[pp]
 simp only[aX,db,dCB,aa,ag,dC,ac,bL,AAH,ACA,ABp,AAY,AB7,ABM,AAD,AAS,AC2,ABu,AC9]
 refine⟨2,d,rfl,ht,?_⟩
 by_cases ht2:∃a b,d=.tup [a,b]
 ·obtain⟨a,b,rfl⟩:=ht2
  obtain⟨oka,tyb⟩:=hab a b rfl
  walk_at "dl"
  refine bu ⟨b,rfl,tyb,?_⟩
  cases b with
  | int k =>
   simp only[oH,if_true]
   by_cases h0:0<=k
   ·rw[dT_ h0]
    simp only[pY,↓reduceIte]
    refine⟨ps,r,a,rfl,oka,aI.now ?_⟩
    have e:bx ps (.tup [a,.int k])=decide (k<fA ps a):=by simp[bx,h0]
    rw[e]at h
    exact h
   ·rw[dF_ h0]
    have e:bx ps (.tup [a,.int k])=false:=by simp[bx,h0]
    rw[e]at h
    simp only[pY,↓reduceIte,AAZ]
    exact aI.now h
  | _=>simp only[oH,AAZ,↓reduceIte];exact aI.now h
 ·have e1:mN 2 d=false:=by
   cases d with
   | tup xs =>
    match xs with
    | []=>rfl
    | [_]=>rfl
    | [a,b]=>exact absurd ⟨a,b,rfl⟩ ht2
    | _::_::_::_=>simp[mN];lia
   | _=>rfl
  have e2:bx ps d=false:=by
   unfold bx
   split
   ·exact absurd ⟨_,_,rfl⟩ ht2
   ·rfl
  rw[e1]
  rw[e2]at h
  simp only[pY,AAZ,↓reduceIte]
  exact aI.now h
theorem mw(T:Tops P w K mg base):Cal P w K mg base 2 "is_hand" kA dw :=
 Cal.byD (N:=["house","thing"]) T.b T.f_is_hand (by walk_at "sc") sK (by have:=kE T;have:=bC T;have:=vO T;walk_at "dv") vp
noncomputable def aZ(ps:List (Str×Int))(rs:List (Str×List Str)):D:=.tup [.tup (ps.map aG),.tup (rs.map bB)]
def dS:DSp:=λds M R=>∃(ps:List (Str×Int)) (rs:List (Str×List Str)) (name:Str),ds=[aZ ps rs,.str name]/\rs.length<=1000/\∀xs:List Str,R (.ref M.length) (M++[.lst (xs.map .str)])
theorem qr:bQ dS iq:=by rintro ds M R ⟨ps,rs,name,rfl,_⟩;rfl
def lO:DTS:=aX (dLC 1 [1] (bo (dOp qIx (ac 0) (dC (.int 1)))) (ax 0) (aB (dOp qIn (ac 1) (dOp qIx (ac 0) (dC (.int 1))))) (dOp qIx (ac 0) (dC (.int 0))))
theorem rE:WpT dS 2 lO:=by
 rintro ds M R ⟨ps,rs,name,rfl,hl,h⟩
 simp only[lO,aZ]
 walk_at "dl"
 intro _
 refine cq (λys acc S B=>B=M/\(∃xs:List Str,acc=xs.map .str/\xs.length+ys.length<=rs.length)/\(∀y∈ys,∃p,y=bB p)/\∃a,S=[a,some (.str name)]) ?_ ?_ _ _ _ _ ⟨rfl,⟨[],rfl,by rw[AA4];simp⟩,λy hy=>?_,_,rfl⟩
 ·rintro acc S B ⟨rfl,⟨xs,rfl,_⟩,_,a,rfl⟩
  exact⟨trivial,aI.lst (h xs) (AAC _) aq (Bels.of λd hd=>by obtain⟨x,_,rfl⟩:=AAI.mp hd;exact .str _)⟩
 ·rintro x ys acc S B ⟨rfl,⟨xs,rfl,xl⟩,hy,a,rfl⟩ K hK
  obtain⟨p,rfl⟩:=hy x (by simp)
  rw[AAD]at xl
  refine⟨trivial,?_⟩
  unfold bB
  walk_at "dl"
  have sok:(p.2.map D.str).all (okD B eqN)=true:=AAO.mpr λd hd=>by obtain⟨x,_,rfl⟩:=AAI.mp hd;exact aJ
  refine⟨⟨aJ,sok⟩,?_⟩
  show if (inD B (D.str name) (AEJ D.str p.2) != false)=true then _ else _
  split
  ·exact⟨small1000 (by rw[AA4];lia),hK _ _ _ ⟨rfl,⟨xs++[p.1],by rw[AAh];rfl,by rw[AA9,AAb];lia⟩,λy q=>hy y (AA8 _ q),_,rfl⟩⟩
  ·exact hK _ _ _ ⟨rfl,⟨xs,rfl,by lia⟩,λy q=>hy y (AA8 _ q),_,rfl⟩
 ·obtain⟨p,_,rfl⟩:=AAI.mp hy
  exact⟨p,rfl⟩
theorem sj(T:Tops P w K mg base):Cal P w K mg base 1 "rooms_of" iq dS :=
 Cal.byD (N:=["house","name"]) T.b T.f_rooms_of (by walk_at "sc") qr (by walk_at "dv") rE
theorem tJ(d:D):(∃a b,d=.tup [a,b])\/(mN 2 d=false/\∀a b,d≠.tup [a,b]):=by
 cases d with
 | tup xs =>
  match xs with
  | []=>exact .inr ⟨rfl,λ_ _ z=>by simp at z⟩
  | [_]=>exact .inr ⟨rfl,λ_ _ z=>by simp at z⟩
  | [a,b]=>exact .inl ⟨a,b,rfl⟩
  | _::_::_::_=>exact .inr ⟨by simp[mN];lia,λ_ _ z=>by simp at z⟩
 | _=>exact .inr ⟨rfl,λ_ _ z=>by cases z⟩
theorem jq(g:Gdn M n d):tyD M d∈lA/\∀a b,d=.tup [a,b]->okD M eqN a=true/\tyD M b∈lA:=by
 refine⟨g.thing.1,λa b e=>?_⟩
 subst e
 obtain⟨_,m,rfl,gx⟩:=g.tup
 exact⟨(gx a (by simp)).ok,(gx b (by simp)).thing.1⟩
noncomputable def bT(ps:List (Str×Int)):D->Bool
 | .tup [a,b]=>bA 1 a&&bx ps b
 | _=>false
theorem xM(h:∀a b,d≠.tup [a,b]):bT ps d=false:=by
 unfold bT
 split
 ·exact absurd rfl (h _ _)
 ·rfl
def br:DSp:=λds M R=>∃(n:Nat) (ps:List (Str×Int)) (r:List D) (d:D),ds=[.tup (.tup (ps.map aG)::r),d]/\Gdn M n d/\R (.bl (bT ps d)) M
theorem qx:bQ br iB:=by rintro ds M R ⟨n,ps,r,d,rfl,_⟩;rfl
def lT:DTS:=aX (db (dCB aO (aa (dC (.int 2)) (aa (ac 1) ag))) (db (dCB aV (aa (dC (.int 1)) (aa (dOp qIx (ac 1) (dC (.int 0))) ag))) (dCB dw (aa (ac 0) (aa (dOp qIx (ac 1) (dC (.int 1))) ag)))))
theorem rJ:WpT br 2 lT:=by
 rintro ds M R ⟨n,ps,r,d,rfl,g,h⟩
 simp only[lT]
 simp only[aX,db,dCB,aa,ag,dC,ac,bL,AAH,ACA,ABp,AAY,AB7,ABM,AAD,AAS,AC2,ABu,AC9]
 refine⟨2,d,rfl,g.thing.1,?_⟩
 rcases tJ d with⟨a,b,rfl⟩|⟨e1,e2⟩
 ·obtain⟨_,m,rfl,gx⟩:=g.tup
  have ga:=gx a (by simp)
  have gb:=gx b (by simp)
  walk_at "dl"
  refine bu ⟨1,a,rfl,ga.thing.1,?_⟩
  simp only[bT]at h
  cases ea:bA 1 a with
  | false =>
   rw[ea]at h
   walk_at "ifs"
   exact aI.now h
  | true =>
   rw[ea]at h
   walk_at "ifs"
   exact⟨ps,r,b,rfl,(jq gb).1,(jq gb).2,aI.now h⟩
 ·rw[xM e2]at h
  rw[e1]
  walk_at "ifs"
  exact aI.now h
theorem fQ(T:Tops P w K mg base):Cal P w K mg base 3 "is_stamp" iB br :=
 Cal.byD (N:=["house","thing"]) T.b T.f_is_stamp (by walk_at "sc") qx (by have:=cg T;have:=bC T;have:=mw T;walk_at "dv") rJ
noncomputable def dq(ps:List (Str×Int)):D->Bool
 | .tup [a,b]=>bx ps a&&bA 1 b
 | _=>false
theorem qS(h:∀a b,d≠.tup [a,b]):dq ps d=false:=by
 unfold dq
 split
 ·exact absurd rfl (h _ _)
 ·rfl
def bF:DSp:=λds M R=>∃(n:Nat) (ps:List (Str×Int)) (r:List D) (d:D),ds=[.tup (.tup (ps.map aG)::r),d]/\Gdn M n d/\R (.bl (dq ps d)) M
theorem iH:bQ bF cD:=by rintro ds M R ⟨n,ps,r,d,rfl,_⟩;rfl
def eN:DTS:=aX (db (dCB aO (aa (dC (.int 2)) (aa (ac 1) ag))) (db (dCB dw (aa (ac 0) (aa (dOp qIx (ac 1) (dC (.int 0))) ag))) (dCB aV (aa (dC (.int 1)) (aa (dOp qIx (ac 1) (dC (.int 1))) ag)))))
theorem je:WpT bF 2 eN:=by
 rintro ds M R ⟨n,ps,r,d,rfl,g,h⟩
 simp only[eN]
 simp only[aX,db,dCB,aa,ag,dC,ac,bL,AAH,ACA,ABp,AAY,AB7,ABM,AAD,AAS,AC2,ABu,AC9]
 refine⟨2,d,rfl,g.thing.1,?_⟩
 rcases tJ d with⟨a,b,rfl⟩|⟨e1,e2⟩
 ·obtain⟨_,m,rfl,gx⟩:=g.tup
  have ga:=gx a (by simp)
  have gb:=gx b (by simp)
  walk_at "dl"
  refine bu ⟨ps,r,a,rfl,(jq ga).1,(jq ga).2,?_⟩
  simp only[dq]at h
  cases ea:bx ps a with
  | false =>
   rw[ea]at h
   walk_at "ifs"
   exact aI.now h
  | true =>
   rw[ea]at h
   walk_at "ifs"
   exact⟨1,b,rfl,gb.thing.1,aI.now h⟩
 ·rw[qS e2]at h
  rw[e1]
  walk_at "ifs"
  exact aI.now h
theorem ji(T:Tops P w K mg base):Cal P w K mg base 3 "is_hand_count" cD bF :=
 Cal.byD (N:=["house","thing"]) T.b T.f_is_hand_count (by walk_at "sc") iH (by have:=cg T;have:=bC T;have:=mw T;walk_at "dv") je
theorem CM(M:Mem)(g:Gdn M n d):(∃xs,d=.tup xs)\/((oj (tyD M d) "tuple")=false/\∀xs,d≠.tup xs):=by
 cases d with
 | tup xs=>exact .inl ⟨xs,rfl⟩
 | ref i=>exact .inr ⟨by rw[cx g.thing.1];decide,λ_ z=>by cases z⟩
 | ty t=>exact .inr ⟨by simp only[tyD];decide,λ_ z=>by cases z⟩
 | _=>exact .inr ⟨by simp only[tyD];decide,λ_ z=>by cases z⟩
theorem FQ(h:bx ps d=true):Hd d:=by
 unfold bx at h
 split at h
 ·rename_i a k
  cases a with
  | str x=>exact⟨x,k,rfl⟩
  | _ =>
   have h':(decide (0<=k)&&decide (k<0))=true:=h
   rw[AAN,decide_eq_true_eq,decide_eq_true_eq]at h'
   lia
 ·cases h
theorem Cw(h:dq ps d=true):∃a b,d=.tup [a,b]/\bx ps a=true/\bA 1 b=true:=by
 rcases tJ d with⟨a,b,rfl⟩|⟨_,e⟩
 ·simp only[dq,AAN]at h
  exact⟨a,b,rfl,h.1,h.2⟩
 ·rw[qS e]at h;cases h
noncomputable def fG(M:Mem)(ps:List (Str×Int)):D->Bool
 | .tup xs=>xs.all (dq ps)&&ef M (xs.map fB)
 | _=>false
theorem vB(h:∀xs,d≠.tup xs):fG M ps d=false:=by
 unfold fG
 split
 ·exact absurd rfl (h _)
 ·rfl
theorem hd_lt(ha:Hd a)(hb:Hd b):ltD M eqN a b=ltD M' eqN a b:=by
 obtain⟨x,k,rfl⟩:=ha
 obtain⟨y,l,rfl⟩:=hb
 rfl
theorem pO:∀{xs:List D},(∀x∈xs,Hd x)->ef M xs=ef M' xs
 | [],_=>rfl
 | [_],_=>rfl
 | a::b::r,h=>by
  show (ltD M eqN a b&&ef M (b::r))=(ltD M' eqN a b&&ef M' (b::r))
  rw[hd_lt (M':=M') (h a (by simp)) (h b (by simp)),pO (M':=M') λx hx=>h x (AA8 _ hx)]
theorem Ag{C:Mem}{k:Nat}{xs:List D}{p:D->Bool}(h:ao C k (xs.map λd=>.bl (p d))):ao C k (bls (xs.map p)):=by unfold bls;rw[AAd];exact h
def cO:DSp:=λds M R=>∃(n:Nat) (ps:List (Str×Int)) (r:List D) (d:D),ds=[.tup (.tup (ps.map aG)::r),d]/\Gdn M n d/\R (.bl (fG M ps d)) M
theorem nA:bQ cO fH:=by rintro ds M R ⟨n,ps,r,d,rfl,_⟩;rfl
def gj:DTS:=aX (dCB cQ (aa (dLC 1 [] (bo (ac 1)) (ax 0) jm (dOp qIx (ac 0) (dC (.int 0)))) ag))
def jB:DTS:=aF (dIf (dOr (qN (aB (dCB pS (aa (ac 1) (aa (dC (.ty "tuple")) ag))))) (qN (aB (dCB Ao (aa (dLC 1 [0] (bo (ac 1)) (ax 0) jm (dCB bF (aa (ac 1) (aa (ac 0) ag)))) ag))))) (aX (dC (.bl false))) aR) (gj)
theorem ou:WpT cO 2 jB:=by
 rintro ds M R ⟨n,ps,r,d,rfl,g,h⟩
 simp only[jB,gj]
 rcases CM M g with⟨xs,rfl⟩|⟨e1,e2⟩
 ·obtain⟨hl,m,rfl,gx⟩:=g.tup
  walk_at "dl"
  refine⟨by decide,?_⟩
  rw[show oj "tuple" "tuple" = true from rfl]
  walk_at "ifs"
  intro hz
  refine aW (λd=>.bl (dq ps d)) (λS=>∃a,S=[a,some (.tup (.tup (ps.map aG)::r))]) trivial _ _ _ ?_ ⟨_,rfl⟩ (by simpa using hz) ?_
  ·rintro y hy S ⟨a,rfl⟩
   exact⟨[some y,some (.tup (.tup (ps.map aG)::r))],⟨_,rfl⟩,λY hY=>⟨m,ps,r,y,rfl,gx y hy,hY⟩⟩
  ·refine⟨xs.map (dq ps),Ag (by rw[AAY];exact ak),?_⟩
   simp only[fG]at h
   cases ha:(xs.map (dq ps)).all id with
   | false =>
    rw[AE7]at ha
    rw[show xs.all (dq ps)=false from ha]at h
    walk_at "ifs"
    exact aI.bl h pW
   | true =>
    walk_at "ifs"
    rw[AE7]at ha
    rw[show xs.all (dq ps)=true from ha,ABR]at h
    have hp:∀x∈xs,∃a b,x=.tup [a,b]/\Hd a:=λx hx=>by
     obtain⟨a,b,e,ha',_⟩:=Cw (AAO.mp ha x hx)
     exact⟨a,b,e,FQ ha'⟩
    have hh:∀x∈xs.map fB,Hd x:=λx hx=>by
     obtain⟨y,hy,rfl⟩:=AAI.mp hx
     obtain⟨a,b,rfl,ha'⟩:=hp y hy
     exact ha'
    intro _
    refine aW fB (λS=>∃a,S=[a]) trivial _ _ _ ?_ ⟨_,rfl⟩ (by simpa using hz) ?_
    ·rintro y hy S ⟨a,rfl⟩
     obtain⟨a,b,rfl,_⟩:=hp y hy
     refine⟨[some (.tup [a,b])],⟨_,rfl⟩,λY hY=>?_⟩
     walk_at "dl"
     exact hY
    ·rw[AAY]
     refine⟨_,xs.map fB,rfl,.inl ⟨_,rfl,ak⟩,.inl hh,by rw[AA4];lia,?_⟩
     rw[pO (M':=M) hh]
     exact aI.bl h (by rw[AAs];exact AAx _ _)
 ·rw[vB e2]at h
  walk_at "dl"
  refine⟨⟨g.thing.1,by decide⟩,?_⟩
  simp only[tyD]at e1
  rw[e1]
  walk_at "ifs"
  exact aI.now h
theorem pZ(T:Tops P w K mg base):Cal P w K mg base 4 "is_vector" fH cO :=
 Cal.byD (N:=["house","thing"]) T.b T.f_is_vector (by walk_at "sc") nA (by have:=qd T;have:=ji T;walk_at "dv") ou
noncomputable def isS(z:Str):D->Bool
 | .str x=>x==z
 | _=>false
theorem sZ:eqD M eqN d (.str z)=isS z d:=by
 cases d with
 | str x=>exact bG
 | _=>rfl
noncomputable def rK(ps:List (Str×Int))(rs:List (Str×List Str)):D->Bool
 | .tup [a,b]=>if isS (AA1 "room") a=true then sw (rs.map (·.1)) b else if isS (AA1 "person") a=true then sw (ps.map (·.1)) b else isS (AA1 "under") a&&bT ps b
 | _=>false
theorem AA(h:∀a b,d≠.tup [a,b]):rK ps rs d=false:=by
 unfold rK
 split
 ·exact absurd rfl (h _ _)
 ·rfl
def fo:DSp:=λds M R=>∃(n:Nat) (ps:List (Str×Int)) (rs:List (Str×List Str)) (r:List D) (d:D),ds=[.tup (.tup (ps.map aG)::.tup (rs.map bB)::r),d]/\Gdn M n d/\R (.bl (rK ps rs d)) M
theorem sF:bQ fo ko:=by rintro ds M R ⟨n,ps,rs,r,d,rfl,_⟩;rfl
def jy:DTS:=aX (db (dOp qEq (dOp qIx (ac 1) (dC (.int 0))) (dC (.str "under"))) (dCB br (aa (ac 0) (aa (dOp qIx (ac 1) (dC (.int 1))) ag))))
def jz:DTS:=aF (dIf (aB (dOp qEq (dOp qIx (ac 1) (dC (.int 0))) (dC (.str "person")))) (aX (dCB cR (aa (ac 0) (aa (dOp qIx (ac 1) (dC (.int 1))) ag)))) aR) (jy)
def jA:DTS:=aF (dIf (aB (dOp qEq (dOp qIx (ac 1) (dC (.int 0))) (dC (.str "room")))) (aX (dCB du (aa (ac 0) (aa (dOp qIx (ac 1) (dC (.int 1))) ag)))) aR) (jz)
def pe:DTS:=aF (dIf (qN (aB (dCB aO (aa (dC (.int 2)) (aa (ac 1) ag))))) (aX (dC (.bl false))) aR) (jA)
theorem ve:WpT fo 2 pe:=by
 rintro ds M R ⟨n,ps,rs,r,d,rfl,g,h⟩
 simp only[pe]
 walk_at "dl"
 refine⟨2,d,rfl,g.thing.1,?_⟩
 rcases tJ d with⟨a,b,rfl⟩|⟨e1,e2⟩
 ·obtain⟨_,m,rfl,gx⟩:=g.tup
  have ga:=gx a (by simp)
  have gb:=gx b (by simp)
  rw[show mN 2 (.tup [a,b])=true from rfl]
  walk_at "ifs"
  simp only[jA]
  walk_at "dl"
  refine⟨⟨ga.ok,aJ⟩,?_⟩
  rw[sZ]
  simp only[rK]at h
  cases e1:isS (AA1 "room") a with
  | true =>
   rw[e1,if_pos rfl]at h
   exact bu ⟨m,_,rs,r,b,rfl,gb,aI.now h⟩
  | false =>
   rw[e1,if_neg AAc]at h
   refine bp ?_
   simp only[jz]
   walk_at "dl"
   refine⟨⟨ga.ok,aJ⟩,?_⟩
   rw[sZ]
   cases e2:isS (AA1 "person") a with
   | true =>
    rw[e2,if_pos rfl]at h
    exact bu ⟨m,ps,_,b,rfl,gb,aI.now h⟩
   | false =>
    rw[e2,if_neg AAc]at h
    refine bp ?_
    simp only[jy]
    walk_at "dl"
    refine⟨⟨ga.ok,aJ⟩,?_⟩
    rw[sZ]
    cases e3:isS (AA1 "under") a with
    | true =>
     rw[e3,ABR]at h
     walk_at "ifs"
     exact⟨m,ps,_,b,rfl,gb,aI.now h⟩
    | false =>
     rw[e3,ACt]at h
     walk_at "ifs"
     exact aI.now h
 ·rw[e1]
  walk_at "ifs"
  rw[AA e2]at h
  exact aI.now h
theorem vP(T:Tops P w K mg base):Cal P w K mg base 4 "is_what" ko fo :=
 Cal.byD (N:=["house","thing"]) T.b T.f_is_what (by walk_at "sc") sF (by have:=bC T;have:=qf T;have:=mv T;have:=fQ T;walk_at "dv") ve
noncomputable def zt:D->Bool
 | .non=>true
 | _=>false
noncomputable def isBl:D->Bool
 | .bl _=>true
 | _=>false
theorem Jt(g:Gdn M n d):oj (tyD M d) "bool" = isBl d:=by
 cases d with
 | ref i=>rw[cx g.thing.1];rfl
 | _=>rfl
theorem Hi(M:Mem)(g:Gdn M n d):(∃x,d=.str x)\/((oj (tyD M d) "str")=false/\∀x,d≠.str x):=by
 cases d with
 | str x=>exact .inl ⟨x,rfl⟩
 | ref i=>exact .inr ⟨by rw[cx g.thing.1];rfl,λ_ z=>by cases z⟩
 | _=>exact .inr ⟨rfl,λ_ z=>by cases z⟩
noncomputable def cz(M:Mem)(ps:List (Str×Int))(rs:List (Str×List Str))(part:Str)(d:D):Bool :=
 if (part==AA1 "room")=true then sw (rs.map (·.1)) d
 else if (part==AA1 "under")=true then zt d||bT ps d
 else if (part==AA1 "message")=true then bT ps d
 else if (part==AA1 "saying")=true then gQ d
 else if (part==AA1 "sort")=true then qC d
 else if (part==AA1 "vector")=true then fG M ps d
 else if (part==AA1 "what")=true then rK ps rs d
 else(part==AA1 "on")&&isBl d
def fu:DSp:=λds M R=>∃(n:Nat) (ps:List (Str×Int)) (rs:List (Str×List Str)) (r:List D) (part:Str) (d:D),ds=[.tup (.tup (ps.map aG)::.tup (rs.map bB)::r),.str part,d]/\Gdn M n d/\R (.bl (cz M ps rs part d)) M
theorem sI:bQ fu ky:=by rintro ds M R ⟨n,ps,rs,r,part,d,rfl,_⟩;rfl
def jF:DTS:=aX (db (dOp qEq (ac 1) (dC (.str "on"))) (dCB pS (aa (ac 2) (aa (dC (.ty "bool")) ag))))
def jG:DTS:=aF (dIf (aB (dOp qEq (ac 1) (dC (.str "what")))) (aX (dCB fo (aa (ac 0) (aa (ac 2) ag)))) aR) (jF)
def jH:DTS:=aF (dIf (aB (dOp qEq (ac 1) (dC (.str "vector")))) (aX (dCB cO (aa (ac 0) (aa (ac 2) ag)))) aR) (jG)
def jI:DTS:=aF (dIf (aB (dOp qEq (ac 1) (dC (.str "sort")))) (aX (dCB fv (aa (ac 2) ag))) aR) (jH)
def jJ:DTS:=aF (dIf (aB (dOp qEq (ac 1) (dC (.str "saying")))) (aX (dCB cP (aa (ac 2) ag))) aR) (jI)
def jK:DTS:=aF (dIf (aB (dOp qEq (ac 1) (dC (.str "message")))) (aX (dCB br (aa (ac 0) (aa (ac 2) ag)))) aR) (jJ)
def jL:DTS:=aF (dIf (aB (dOp qEq (ac 1) (dC (.str "under")))) (aX (dOrV (dOp qIs (ac 2) (dC .non)) (dCB br (aa (ac 0) (aa (ac 2) ag))))) aR) (jK)
def pi:DTS:=aF (dIf (aB (dOp qEq (ac 1) (dC (.str "room")))) (aX (dCB du (aa (ac 0) (aa (ac 2) ag)))) aR) (jL)
theorem vm:WpT fu 3 pi:=by
 rintro ds M R ⟨n,ps,rs,r,part,d,rfl,g,h⟩
 unfold cz at h
 simp only[pi]
 walk_at "dl"
 refine⟨⟨aJ,aJ⟩,?_⟩
 rw[bG]
 cases e1:(part==AA1 "room") with
 | true=>rw[e1,if_pos rfl]at h;exact bu ⟨n,_,rs,r,d,rfl,g,aI.now h⟩
 | false =>
 rw[e1,if_neg AAc]at h
 refine bp ?_
 simp only[jL]
 walk_at "dl"
 refine⟨⟨aJ,aJ⟩,?_⟩
 rw[bG]
 cases e2:(part==AA1 "under") with
 | true =>
  rw[e2,if_pos rfl]at h
  refine bu ?_
  have h1:zt d=true->aI M R (.bl true) M:=λe=>by rw[e,Bool.true_or]at h;exact aI.now h
  have h2:zt d=false->br [.tup (.tup (ps.map aG)::.tup (rs.map bB)::r),d] M (aI M R):=λe=>by rw[e,Bool.false_or]at h;exact⟨n,ps,_,d,rfl,g,aI.now h⟩
  cases d<;>first | exact h1 rfl | exact h2 rfl | exact bu (h1 rfl) | exact bp (h2 rfl)
 | false =>
 rw[e2,if_neg AAc]at h
 refine bp ?_
 simp only[jK]
 walk_at "dl"
 refine⟨⟨aJ,aJ⟩,?_⟩
 rw[bG]
 cases e3:(part==AA1 "message") with
 | true=>rw[e3,if_pos rfl]at h;exact bu ⟨n,ps,_,d,rfl,g,aI.now h⟩
 | false =>
 rw[e3,if_neg AAc]at h
 refine bp ?_
 simp only[jJ]
 walk_at "dl"
 refine⟨⟨aJ,aJ⟩,?_⟩
 rw[bG]
 cases e4:(part==AA1 "saying") with
 | true=>rw[e4,if_pos rfl]at h;exact bu ⟨d,rfl,g.thing,aI.now h⟩
 | false =>
 rw[e4,if_neg AAc]at h
 refine bp ?_
 simp only[jI]
 walk_at "dl"
 refine⟨⟨aJ,aJ⟩,?_⟩
 rw[bG]
 cases e5:(part==AA1 "sort") with
 | true=>rw[e5,if_pos rfl]at h;exact bu ⟨d,rfl,g.thing,aI.now h⟩
 | false =>
 rw[e5,if_neg AAc]at h
 refine bp ?_
 simp only[jH]
 walk_at "dl"
 refine⟨⟨aJ,aJ⟩,?_⟩
 rw[bG]
 cases e6:(part==AA1 "vector") with
 | true=>rw[e6,if_pos rfl]at h;exact bu ⟨n,ps,_,d,rfl,g,aI.now h⟩
 | false =>
 rw[e6,if_neg AAc]at h
 refine bp ?_
 simp only[jG]
 walk_at "dl"
 refine⟨⟨aJ,aJ⟩,?_⟩
 rw[bG]
 cases e7:(part==AA1 "what") with
 | true=>rw[e7,if_pos rfl]at h;exact bu ⟨n,ps,rs,r,d,rfl,g,aI.now h⟩
 | false =>
 rw[e7,if_neg AAc]at h
 refine bp ?_
 simp only[jF]
 walk_at "dl"
 refine⟨⟨aJ,aJ⟩,?_⟩
 rw[bG]
 cases e8:(part==AA1 "on") with
 | true =>
  rw[e8,ABR]at h
  walk_at "ifs"
  refine⟨⟨g.thing.1,by decide⟩,?_⟩
  have e:=Jt g
  simp only[tyD]at e
  rw[e]
  exact aI.now h
 | false =>
  rw[e8,ACt]at h
  walk_at "ifs"
  exact aI.now h
theorem vR(T:Tops P w K mg base):Cal P w K mg base 5 "is_part" ky fu :=
 Cal.byD (N:=["house","part","thing"]) T.b T.f_is_part (by walk_at "sc") sI (by have:=vS T;have:=qc T;have:=mv T;have:=fQ T;have:=pZ T;have:=vP T;walk_at "dv") vm
theorem Cr:cutD (a::xs) (some 1) none=xs:=by
 unfold cutD
 rw[show (some (1:Int))=some ((1:Nat):Int)from rfl,HT.sIx_nat,HT.sIx_none,AAD,ADE (by lia),List.drop_one,List.tail_cons,Nat.add_sub_cancel,ABQ]
noncomputable def Aq(M:Mem)(ps:List (Str×Int))(rs:List (Str×List Str)):D->Bool
 | .tup (.str z::xs)=>match bh.find? (λp=>p.1==z) with
  | some p=>(xs.length==p.2.length)&&(p.2.zip xs).all λq=>cz M ps rs q.1 q.2
  | none=>false
 | _=>false
section
variable{M:Mem}{ps:List (Str×Int)}{rs:List (Str×List Str)}{z:Str}{xs:List D}
theorem uW(h:bh.find? (λp=>p.1==z)=some p):Aq M ps rs (.tup (.str z::xs))=((xs.length==p.2.length)&&(p.2.zip xs).all λq=>cz M ps rs q.1 q.2):=by
 simp only[Aq,h]
theorem CD(h:bh.find? (λp=>p.1==z)=none):Aq M ps rs (.tup (.str z::xs))=false:=by
 simp only[Aq,h]
theorem CF(h:∀x,a≠.str x):Aq M ps rs (.tup (a::xs))=false:=by
 cases a with
 | str x=>exact absurd rfl (h x)
 | _=>rfl
theorem CG(h:∀xs,d≠.tup xs):Aq M ps rs d=false:=by
 cases d with
 | tup x=>exact absurd rfl (h x)
 | _=>rfl
end
theorem Du{ks:List Str}{xs:List D}{y:D}(h:y∈wJ (ks.map .str) xs):∃q x,x∈xs/\y=.tup [.str q,x]:=by
 unfold wJ at h
 obtain⟨p,hp,rfl⟩:=AAI.mp h
 have h1:=ADm hp
 obtain⟨q,_,e⟩:=AAI.mp h1.1
 exact⟨q,p.2,h1.2,by rw[<-e]⟩
theorem wL{f:Str->D->Bool}:∀(ks:List Str) (xs:List D),(wJ (ks.map .str) xs).map (λd=>match d with | .tup [.str q,x]=>.bl (f q x) | _=>.bl false)=bls ((ks.zip xs).map λq=>f q.1 q.2)
 | [],_=>rfl
 | _::_,[]=>rfl
 | k::ks,x::xs=>by
  have:=wL (f:=f) ks xs
  unfold wJ bls at this ⊢
  rw[AAH,ABN,ABN,AAH,AAH,AAH,AAH,this]
def hX:DSp:=λds M R=>∃(n:Nat) (ps:List (Str×Int)) (rs:List (Str×List Str)) (r:List D) (d:D),ds=[.tup (.tup (ps.map aG)::.tup (rs.map bB)::r),d]/\Gdn M n d/\R (.bl (Aq M ps rs d)) M
theorem wd:bQ hX mZ:=by rintro ds M R ⟨n,ps,rs,r,d,rfl,_⟩;rfl
def lU:DTS:=aX (dCB Ao (aa (dLC 2 [0] (dZip (aa (ac 2) (aa (dSl (ac 1) (iL (dC (.int 1))) cI) ag))) (qL 2 (dn (ax 0) (dn (ax 1) qM))) jm (dCB fu (aa (ac 2) (aa (ac 0) (aa (ac 1) ag))))) ag))
def lV:DTS:=aF (dIf (aB (dOp qNe (dCB eP (aa (ac 1) ag)) (dOp aP (dCB eP (aa (ac 2) ag)) (dC (.int 1))))) (aX (dC (.bl false))) aR) (lU)
def lW:DTS:=aF (bq (Cq bh (dOp qIx (ac 1) (dC (.int 0)))) 2) (lV)
def lX:DTS:=aF (dIf (dOr (qN (aB (dCB pS (aa (dOp qIx (ac 1) (dC (.int 0))) (aa (dC (.ty "str")) ag))))) (aB (dGIn true bh (dOp qIx (ac 1) (dC (.int 0)))))) (aX (dC (.bl false))) aR) (lW)
def um:DTS:=aF (dIf (dOr (qN (aB (dCB pS (aa (ac 1) (aa (dC (.ty "tuple")) ag))))) (aB (dOp qEq (dCB eP (aa (ac 1) ag)) (dC (.int 0))))) (aX (dC (.bl false))) aR) (lX)
theorem wP:WpT hX 3 um:=by
 rintro ds M R ⟨n,ps,rs,r,d,rfl,g,h⟩
 simp only[um]
 rcases CM M g with⟨xs,rfl⟩|⟨e1,e2⟩
 ·obtain⟨hl,m,rfl,gx⟩:=g.tup
  walk_at "dl"
  refine⟨by decide,?_⟩
  rw[show oj "tuple" "tuple" = true from rfl]
  walk_at "ifs"
  refine⟨⟨au,au⟩,?_⟩
  rw[bb]
  cases xs with
  | nil=>exact bu (aI.now h)
  | cons a xs =>
   rw[show ((((a::xs).length:Nat):Int)==0)=false from beq_eq_false_iff_ne.mpr (by rw[AAD];lia)]
   refine bp ?_
   have ga:=gx a (by simp)
   simp only[lX]
   rcases Hi M ga with⟨z,rfl⟩|⟨f1,f2⟩
   ·walk_at "dl"
    refine⟨by decide,?_⟩
    rw[show oj "str" "str" = true from rfl]
    walk_at "ifs"
    rw[nV]
    cases hf:bh.find? (λp=>p.1==z) with
    | none =>
     rw[CD hf]at h
     exact bu (aI.now h)
    | some p =>
     refine bp ?_
     rw[uW hf]at h
     simp only[lW]
     walk_at "dl"
     refine⟨p,hf,?_⟩
     simp only[lV]
     walk_at "dl"
     refine⟨⟨au,au⟩,?_⟩
     have el:eqD M eqN (D.int ((xs.length+1:Nat):Int)) (D.int (((p.2.map D.str).length:Int)+1))=(xs.length==p.2.length):=by
      rw[bb,AA4,AC0,beq_iff_eq,beq_iff_eq];lia
     simp only[el]
     cases hq:(xs.length==p.2.length) with
     | false =>
      rw[hq,ACt]at h
      exact bu (aI.now h)
     | true =>
      rw[hq,ABR]at h
      refine bp ?_
      simp only[lU]
      walk_at "dl"
      refine⟨p.2.map D.str,xs,_,_,⟨rfl,rfl⟩,⟨Cr.symm,rfl⟩,?_⟩
      refine aW (λd=>match d with | .tup [.str q,x]=>.bl (cz M ps rs q x) | _=>.bl false) (λS=>∃a b,S=[a,b,some (.tup (.tup (ps.map aG)::.tup (rs.map bB)::r))]) ⟨trivial,trivial⟩ _ _ _ (λy hy S hS=>?_) ⟨_,_,rfl⟩ ?_ ?_
      ·obtain⟨a,b,rfl⟩:=hS
       obtain⟨q,x,hx,rfl⟩:=Du hy
       refine⟨[some (.str q),some x,some (.tup (.tup (ps.map aG)::.tup (rs.map bB)::r))],⟨_,_,rfl⟩,λY hY=>?_⟩
       walk_at "dl"
       exact⟨trivial,m,ps,rs,r,q,x,rfl,gx x (AA8 _ hx),hY⟩
      ·rw[AAS]
       unfold wJ
       rw[AA4,ADv]
       rw[AAD]at hl
       exact aA (by lia)
      ·rw[AAY,wL]
       refine⟨(p.2.zip xs).map λq=>cz M ps rs q.1 q.2,ak,?_⟩
       rw[AE7]
       exact aI.bl h pW
   ·walk_at "dl"
    refine⟨⟨ga.thing.1,by decide⟩,?_⟩
    simp only[tyD]at f1
    rw[f1]
    walk_at "ifs"
    rw[CF f2]at h
    exact aI.now h
 ·rw[CG e2]at h
  walk_at "dl"
  refine⟨⟨g.thing.1,by decide⟩,?_⟩
  simp only[tyD]at e1
  rw[e1]
  walk_at "ifs"
  exact aI.now h
theorem yC(T:Tops P w K mg base):Cal P w K mg base 6 "is_act" mZ hX :=
 Cal.byD (N:=["house","thing","parts"]) T.b T.f_is_act (by walk_at "sc") wd (by have:=T.g_ACT_PARTS;have:=vR T;walk_at "dv") wP
noncomputable def wx(M:Mem)(ps:List (Str×Int))(rs:List (Str×List Str)):D->Bool
 | .tup [a,b,c,e]=>bT ps (.tup [a,b])&&(bA 0 c&&Aq M ps rs e)
 | _=>false
theorem FX(d:D):(∃a b c e,d=.tup [a,b,c,e])\/(mN 4 d=false/\∀a b c e,d≠.tup [a,b,c,e]):=by
 cases d with
 | tup xs =>
  match xs with
  | []=>exact .inr ⟨rfl,λ_ _ _ _ z=>by simp at z⟩
  | [_]=>exact .inr ⟨rfl,λ_ _ _ _ z=>by simp at z⟩
  | [_,_]=>exact .inr ⟨rfl,λ_ _ _ _ z=>by simp at z⟩
  | [_,_,_]=>exact .inr ⟨rfl,λ_ _ _ _ z=>by simp at z⟩
  | [a,b,c,e]=>exact .inl ⟨a,b,c,e,rfl⟩
  | _::_::_::_::_::_=>exact .inr ⟨by simp[mN];lia,λ_ _ _ _ z=>by simp at z⟩
 | _=>exact .inr ⟨rfl,λ_ _ _ _ z=>by cases z⟩
theorem Cn(h:∀a b c e,d≠.tup [a,b,c,e]):wx M ps rs d=false:=by
 unfold wx
 split
 ·exact absurd rfl (h _ _ _ _)
 ·rfl
theorem JI(g:Gdn M (m+1) (.tup xs))(ga:Gdn M m a)(gb:Gdn M m b):Gdn M (m+1) (.tup [a,b]) :=
 Gdn.mk (by simp) g.1 λx hx=>by
  simp only[AAF,AB2,or_false]at hx
  rcases hx with rfl | rfl
  ·exact ga
  ·exact gb
def dz:DSp:=λds M R=>∃(n:Nat) (ps:List (Str×Int)) (rs:List (Str×List Str)) (r:List D) (d:D),ds=[.tup (.tup (ps.map aG)::.tup (rs.map bB)::r),d]/\Gdn M n d/\R (.bl (wx M ps rs d)) M
theorem sL:bQ dz kB:=by rintro ds M R ⟨n,ps,rs,r,d,rfl,_⟩;rfl
def jO:DTS:=aX (db (dCB aV (aa (dC (.int 0)) (aa (dOp qIx (ac 1) (dC (.int 2))) ag))) (dCB hX (aa (ac 0) (aa (dOp qIx (ac 1) (dC (.int 3))) ag))))
def pq:DTS:=aF (dIf (dOr (qN (aB (dCB aO (aa (dC (.int 4)) (aa (ac 1) ag))))) (qN (aB (dCB br (aa (ac 0) (aa (dSl (ac 1) cI (iL (dC (.int 2)))) ag)))))) (aX (dC (.bl false))) aR) (jO)
theorem vq:WpT dz 2 pq:=by
 rintro ds M R ⟨n,ps,rs,r,d,rfl,g,h⟩
 simp only[pq]
 rcases FX d with⟨a,b,c,e,rfl⟩|⟨e1,e2⟩
 ·obtain⟨hl,m,rfl,gx⟩:=g.tup
  have ga:=gx a (by simp)
  have gb:=gx b (by simp)
  have gc:=gx c (by simp)
  have ge:=gx e (by simp)
  walk_at "dl"
  refine⟨4,_,rfl,g.thing.1,?_⟩
  rw[show mN 4 (.tup [a,b,c,e])=true from rfl]
  walk_at "ifs"
  refine⟨m+1,ps,_,_,rfl,JI g ga gb,?_⟩
  simp only[wx]at h
  simp only[show cutD [a,b,c,e] none (some 2)=[a,b]from rfl]
  cases es:bT ps (.tup [a,b]) with
  | false =>
   rw[es]at h
   walk_at "ifs"
   exact aI.now h
  | true =>
   rw[es]at h
   walk_at "ifs"
   simp only[jO]
   walk_at "dl"
   refine⟨0,c,rfl,gc.thing.1,?_⟩
   cases ec:bA 0 c with
   | false =>
    rw[ec]at h
    walk_at "ifs"
    exact aI.now h
   | true =>
    rw[ec]at h
    walk_at "ifs"
    exact⟨m,ps,rs,r,e,rfl,ge,aI.now h⟩
 ·rw[Cn e2]at h
  simp only[aF,dIf,qN,dOr,aB,dCB,aa,ag,dC,ac,EE,dst,bL,AAH,ACA,ABp,AAY,AB7,ABM,AAD,AAS,AC2,ABu,AC9]
  refine⟨4,d,rfl,g.thing.1,?_⟩
  rw[e1]
  walk_at "dl"
  exact aI.now h
theorem vT(T:Tops P w K mg base):Cal P w K mg base 7 "is_deed" kB dz :=
 Cal.byD (N:=["house","thing"]) T.b T.f_is_deed (by walk_at "sc") sL (by have:=cg T;have:=bC T;have:=fQ T;have:=yC T;walk_at "dv") vq
def dR:DSp:=λds M R=>∃(a b:D) (r:List D),ds=[.tup (a::b::r)]/\R (.tup [a,b]) M
theorem qq:bQ dR ip:=by rintro ds M R ⟨a,b,r,rfl,_⟩;rfl
def lI:DTS:=aX (iJ (aa (dOp qIx (ac 0) (dC (.int 0))) (aa (dOp qIx (ac 0) (dC (.int 1))) ag)))
theorem rD:WpT dR 1 lI:=by
 rintro ds M R ⟨a,b,r,rfl,h⟩
 simp only[lI]
 walk_at "dl"
 exact⟨aA (by lia),aI.now h⟩
theorem sh(T:Tops P w K mg base):Cal P w K mg base 1 "stamp_of" ip dR :=
 Cal.byD (N:=["deed"]) T.b T.f_stamp_of (by walk_at "sc") qq (by walk_at "dv") rD
def bc:DSp:=λds M R=>∃d:D,ds=[d]/\rz d/\R (aH d) M
theorem qt:bQ bc iw:=by rintro ds M R ⟨d,rfl,_⟩;rfl
def lP:DTS:=aX (iJ (aa (dOp qIx (ac 0) (dC (.int 1))) (aa (dOp qIx (ac 0) (dC (.int 2))) ag)))
theorem rF:WpT bc 1 lP:=by
 rintro ds M R ⟨d,rfl,⟨t,hd,num,act,rfl,_⟩,h⟩
 simp only[lP]
 walk_at "dl"
 exact⟨aA (by lia),aI.now h⟩
theorem dJ(T:Tops P w K mg base):Cal P w K mg base 1 "place_of" iw bc :=
 Cal.byD (N:=["deed"]) T.b T.f_place_of (by walk_at "sc") qt (by walk_at "dv") rF
theorem tp(h:rz d):okD M eqN d=true/\eqD M eqN d d=true:=kh 6 eqN d (by decide) (eT h)
def bD:DSp:=λds M R=>∃log one other:List D,ds=[.tup one,.tup other]/\LogN log/\(∀d∈one,d∈log)/\(∀d∈other,d∈log)/\one.length<=300/\other.length<=300/\R (.ref M.length) (M++[.lst []])
theorem iE:bQ bD cA:=by rintro ds M R ⟨log,one,other,rfl,_⟩;rfl
def de:DTS:=aX (dLC 1 [2] (bo (ac 0)) (ax 0) (aB (dOp qNe (dMt gD (ac 1) (aa (dCB bc (aa (ac 0) ag)) (aa (ac 0) ag))) (ac 0))) (dCB bc (aa (ac 0) ag)))
def eE:DTS:=aF (bq (dCB im (aa (dLC 1 [] (bo (ac 1)) (ax 0) jm (iJ (aa (dCB bc (aa (ac 0) ag)) (aa (ac 0) ag)))) ag)) 2) (de)
theorem jb:WpT bD 3 eE:=by
 rintro ds M R ⟨log,one,other,rfl,ok,h1,h2,l1,l2,h⟩
 simp only[eE]
 walk_at "dl"
 intro hz
 refine aW (λd=>.tup [aH d,d]) (λS=>∃a,S=[a]) trivial _ _ _ ?_ ⟨_,rfl⟩ (by simpa using hz) ?_
 ·rintro y hy S ⟨a,rfl⟩
  exact⟨[some y],⟨_,rfl⟩,λY hY=>⟨y,rfl,ok.deed y (h2 y hy),aA (show 2<=1000 by decide),hY⟩⟩
 ·rw[AAY]
  refine⟨other.map λd=>(aH d,d),by rw[AAd];exact ak,λp hp=>?_,by rw[AA4];lia,?_⟩
  ·obtain⟨d,hd,rfl⟩:=AAI.mp hp
   obtain⟨t,hd',num,act,rfl,⟨z,i,rfl⟩,_⟩:=ok.deed d (h2 d hd)
   exact⟨rfl,rfl⟩
  ·have hg:(M++[MO.lst (other.map λd=>D.tup [aH d,d])]++[MO.dkt (dictOf (other.map λd=>(aH d,d)))])[(M++[MO.lst (other.map λd=>D.tup [aH d,d])]).length]?=some (MO.dkt (dictOf (other.map λd=>(aH d,d)))):=aq
   have hp:M <+: M++[MO.lst (other.map λd=>D.tup [aH d,d])]++[MO.dkt (dictOf (other.map λd=>(aH d,d)))]:=by rw[AAs];exact AAx _ _
   simp only[de]
   generalize M++[MO.lst (other.map λd=>D.tup [aH d,d])]++[MO.dkt (dictOf (other.map λd=>(aH d,d)))]=B at hg hp
   generalize (M++[MO.lst (other.map λd=>D.tup [aH d,d])]).length=q at hg
   walk_at "dl"
   intro hz
   refine bt (λ_=>false) id (λS=>∃a,S=[a,some (.ref q)]) trivial _ _ _ ?_ ⟨_,rfl⟩ (by simpa using hz) ?_
   ·rintro y hy S ⟨a,rfl⟩
    refine⟨[some y,some (.ref q)],⟨_,rfl⟩,λY Z hYZ=>?_⟩
    rw[if_neg (by decide)]at hYZ
    have dy:=ok.deed y (h1 y hy)
    have eg:(cY (dictOf (other.map λd=>(aH d,d))) (aH y)).getD y=y:=by
     cases e:cY (dictOf (other.map λd=>(aH d,d))) (aH y) with
     | none=>rfl
     | some v =>
      obtain⟨hv,ev⟩:=uQ (f:=aH) e
      simp only[aH,D.tup.injEq,ADB,D.int.injEq,and_true]at ev
      exact gI ok (h2 v hv) (h1 y hy) ev.1 ev.2
    have pk:kP 8 (aH y)=true:=by
     obtain⟨t,hd',num,act,rfl,⟨z,i,rfl⟩,_⟩:=id dy
     rfl
    walk_at "dl"
    refine⟨⟨_,hg⟩,y,rfl,dy,_,hg,pk,?_⟩
    have eg':(cY (dictOf (other.map λd=>(aH d,d))) (D.tup [ay y,.int (cu y)])).getD y=y:=eg
    rw[eg']
    refine⟨⟨(tp dy).1,(tp dy).1⟩,?_⟩
    rw[(tp dy).2]
    exact hYZ
   ·rw[AAY,ADL.mpr λ_ _ z=>by cases z]
    obtain⟨L,rfl⟩:=hp
    rw[AAs]
    exact aI.lst h (by simp) (by rw[<-AAs];exact aq) .nil
theorem jg(T:Tops P w K mg base):Cal P w K mg base 2 "unlike_places" cA bD :=
 Cal.byD (N:=["one","other","others"]) T.b T.f_unlike_places (by walk_at "sc") iE (by have:=dJ T;walk_at "dv") jb
def bE:DSp:=λds M R=>∃log one other:List D,ds=[.tup one,.tup other]/\LogN log/\(∀d∈one,d∈log)/\(∀d∈other,d∈log)/\one.length<=300/\other.length<=300/\R .non M
theorem iF:bQ bE cB:=by rintro ds M R ⟨log,one,other,rfl,_⟩;rfl
def ig:DTS:=iZ
def df:DTS:=dIf (aB (dOp qGt (dCB eP (aa (ac 2) ag)) (dC (.int 0)))) (aF (bq (Gw) 3) (ig)) aR
def eF:DTS:=aF (bq (dCB bD (aa (ac 0) (aa (ac 1) ag))) 2) (df)
theorem jc:WpT bE 4 eF:=by
 rintro ds M R ⟨log,one,other,rfl,ok,h1,h2,l1,l2,h⟩
 simp only[eF]
 walk_at "dl"
 refine⟨log,one,other,rfl,ok,h1,h2,l1,l2,?_⟩
 simp only[df]
 walk_at "dl"
 refine⟨[],ak,?_⟩
 rw[show decide ((0:Int)<(([]:List D).length:Int))=false from rfl]
 exact bp (aI.non h pW)
theorem jh(T:Tops P w K mg base):Cal P w K mg base 3 "refuse_unlike" cB bE :=
 Cal.byD (N:=["one","other","unlike","first"]) T.b T.f_refuse_unlike (by walk_at "sc") iF (by have:=jg T;walk_at "dv") jc
structure DeedV(ps:List (Str×Int))(rs:List (Str×List Str))(d:D):Prop where
 ok:∀M:Mem,wx M ps rs d=true
 gd:∀M:Mem,Gdn M 6 d
def bn:DSp:=λds M R=>∃(ps:List (Str×Int)) (rs:List (Str×List Str)) (d:D) (xs:List D),ds=[aZ ps rs,d]/\CI M d xs/\(∀x∈xs,DeedV ps rs x)/\xs.length<=200/\R .non M
theorem fU:bQ bn bW:=by rintro ds M R ⟨ps,rs,d,xs,rfl,_⟩;rfl
def dg:DTS:=dIf (dOr (qN (aB (dCB bg (aa (ac 1) ag)))) (qN (aB (dCB Ao (aa (dLC 1 [0] (bo (ac 1)) (ax 0) jm (dCB dz (aa (ac 1) (aa (ac 0) ag)))) ag))))) (iZ) aR
theorem fY:WpT bn 2 dg:=by
 rintro ds M R ⟨ps,rs,d,xs,rfl,hs,hv,hl,h⟩
 have main:∀(o:Mem->Prop) (Q:DK),o M->Q (.ref M.length) (M++[.lst (xs.map λ_=>.bl true)])->jo o (ax 0) jm (dCB dz (aa (ac 1) (aa (ac 0) ag))) Q xs [] [none,some (aZ ps rs)] M:=λo Q ho hQ=>by
  refine aW (λ_=>.bl true) (λS=>∃a,S=[a,some (aZ ps rs)]) ho _ _ _ ?_ ⟨_,rfl⟩ (by rw[AAS];exact aA (by lia)) hQ
  rintro y hy S ⟨a,rfl⟩
  refine⟨[some y,some (aZ ps rs)],⟨_,rfl⟩,λY hY=>⟨6,ps,rs,[],y,rfl,(hv y hy).gd M,?_⟩⟩
  rw[(hv y hy).ok]
  exact hY
 have fin:∃bs,ao (M++[MO.lst (xs.map λ_=>D.bl true)]) M.length (bls bs)/\if (!bs.all id)=true then False else aI M R .non (M++[MO.lst (xs.map λ_=>D.bl true)]):=by
  refine⟨xs.map λ_=>true,Ag ak,?_⟩
  rw[show (xs.map λ_=>true).all id=true from AAO.mpr λb hb=>by obtain⟨_,_,rfl⟩:=AAI.mp hb;rfl]
  exact bp (aI.non h pW)
 simp only[dg]
 walk_at "dl"
 refine⟨d,xs,rfl,hs,bp ?_⟩
 rcases hs with⟨n,rfl,hL⟩ | rfl
 ·exact⟨xs,hL,λ_=>main _ _ hL fin⟩
 ·exact λ_=>main _ _ trivial fin
theorem gK(T:Tops P w K mg base):Cal P w K mg base 8 "refuse_no_deeds" bW bn :=
 Cal.byD (N:=["house","things"]) T.b T.f_refuse_no_deeds (by walk_at "sc") fU (by have:=fR T;have:=vT T;walk_at "dv") fY
def bN:DSp:=λds M R=>∃(own:D) (n:Nat) (xs:List D),ds=[own,.ref n]/\Hd own/\ao M n xs/\(∀x∈xs,rz x/\ay x≠own)/\xs.length<=200/\R .non M
theorem lD:bQ bN eQ:=by rintro ds M R ⟨own,n,xs,rfl,_⟩;rfl
def iN:DTS:=dIf (aB (dCB HH (aa (dLC 1 [0] (bo (ac 1)) (ax 0) jm (dOp qEq (dOp qIx (ac 0) (dC (.int 1))) (ac 1))) ag))) (iZ) aR
theorem mK:WpT bN 2 iN:=by
 rintro ds M R ⟨own,n,xs,rfl,ho,hL,hx,hl,h⟩
 simp only[iN]
 walk_at "dl"
 refine⟨xs,hL,λ_=>?_⟩
 refine aW (λ_=>.bl false) (λS=>∃a,S=[a,some own]) hL _ _ _ ?_ ⟨_,rfl⟩ (by rw[AAS];exact aA (by lia)) ?_
 ·rintro y hy S ⟨a,rfl⟩
  refine⟨[some y,some own],⟨_,rfl⟩,λY hY=>?_⟩
  obtain⟨⟨t,hd',num,act,rfl,hhd,_⟩,ne⟩:=hx y hy
  walk_at "dl"
  refine⟨⟨wn hhd,wn ho⟩,?_⟩
  rw[show eqD M eqN hd' own=false from ABW.mpr λz=>ne ((zG (n:=29) hhd ho).mp z)]
  exact hY
 ·refine⟨xs.map λ_=>false,Ag (by rw[AAY];exact ak),?_⟩
  rw[show (xs.map λ_=>false).any id=false from ABW.mpr λz=>by obtain⟨b,hb,e⟩:=ABo.mp z;obtain⟨_,_,rfl⟩:=AAI.mp hb;cases e]
  exact bp (aI.non h pW)
theorem ng(T:Tops P w K mg base):Cal P w K mg base 1 "refuse_own" eQ bN :=
 Cal.byD (N:=["hand","deeds"]) T.b T.f_refuse_own (by walk_at "sc") lD (by walk_at "dv") mK
def bZ:DSp:=λds M R=>∃(log xs:List D) (c:D->Int),ds=[.tup xs]/\LogN log/\xs.Perm (aN c log)/\R .non M
theorem kL:bQ bZ dH:=by rintro ds M R ⟨log,xs,c,rfl,_⟩;rfl
def eG:DTS:=nQ (ac 1) (dOp qIx (ac 2) (dC (.int 1))) (dOp aP (ac 3) (dC (.int 1)))
def eI:DTS:=aF (dIf (aB (dOp qNe (dOp qIx (ac 2) (dC (.int 2))) (ac 3))) (iZ) aR) (eG)
def eJ:DTS:=oo (bo (dCB (jZ bc) (aa (ac 0) ag))) (ax 2) (aF (bq (dMt gD (ac 1) (aa (dOp qIx (ac 2) (dC (.int 1))) (aa (dC (.int 0)) ag))) 3) (eI))
def gf:DTS:=aF (bq (nR) 1) (eJ)
theorem lr:WpT bZ 4 gf:=by
 rintro ds M R ⟨log,xs,c,rfl,ok,px,h⟩
 have lc:=(cN (c:=c) ok).len
 have ll:=px.length_eq
 have xd:∀d∈xs,rz d:=λd hd=>ok.deed d (ci (px.mem_iff.mp hd))
 simp only[gf,eJ]
 walk_at "dl"
 refine⟨xs,aH,.inl rfl,λd hd=>⟨d,rfl,xd d hd,rfl,rfl⟩,(mn xd (by lia)).g,λys hy hr=>⟨_,ak,λ_=>?_⟩⟩
 have py:=hy.trans px
 have hn:=vM ok py hr
 have yl:=py.length_eq
 have e1:(M++[MO.dkt []]).length=M.length+1:=by simp
 rw[e1]
 refine fi (λzs S M'=>∃done kvs a b,M'=M++MO.dkt kvs::[MO.lst ys]/\ys=done++zs/\(∀x,(cY kvs x).getD (.int 0)=.int (many done x))/\kvs.length+zs.length<=ys.length/\S=[some (.tup xs),some (.ref M.length),a,b]) ?_ ?_ _ _ _ ⟨[],[],_,_,by simp,rfl,λ_=>rfl,by simp,rfl⟩
 ·rintro S M' ⟨done,kvs,a,b,rfl,_,_,_,rfl⟩
  refine⟨.inl (by rw[<-e1,show M++MO.dkt kvs::[MO.lst ys]=(M++[MO.dkt kvs])++[MO.lst ys] by simp,show (M++[MO.dkt []]).length=(M++[MO.dkt kvs]).length by simp];exact aq),aI.non h (AAx _ _)⟩
 ·rintro x zs S M' ⟨done,kvs,a,b,rfl,el,hc,hl,rfl⟩ G hG
  have hm:x∈ys:=by rw[el];simp
  have hn':=Bl hn el
  obtain⟨t,hd',num,act,rfl,⟨z,i,rfl⟩,_⟩:=xd x (hy.mem_iff.mp hm)
  have hn':num=(many done (.tup [.str z,.int i]):Int):=hn'
  rw[AAD]at hl
  refine⟨.inl (by rw[<-e1,show M++MO.dkt kvs::[MO.lst ys]=(M++[MO.dkt kvs])++[MO.lst ys] by simp,show (M++[MO.dkt []]).length=(M++[MO.dkt kvs]).length by simp];exact aq),?_⟩
  walk_at "dl"
  refine⟨⟨kvs,iI⟩,kvs,iI,rfl,?_⟩
  rw[hc]
  simp only[eI]
  walk_at "dl"
  refine⟨⟨au,au⟩,?_⟩
  rw[bb,hn',beq_self_eq_true]
  refine bp ?_
  simp only[eG]
  walk_at "dl"
  have pl:=dG (kvs:=kvs) (k:=.tup [.str z,.int i]) (d:=.int ((many done (.tup [.str z,.int i]):Int)+1))
  refine⟨kvs,iI,rfl,small1000 (by lia),Fgt.now (hG _ _ ⟨done++[_],fy kvs (.tup [.str z,.int i]) (.int ((many done (.tup [.str z,.int i]):Int)+1)),_,_,mT,by rw[el,AAs];rfl,λy=>?_,by lia,rfl⟩)⟩
  rw[nr]
  by_cases e:y=.tup [.str z,.int i]
  ·subst e
   rw[eS,if_pos (show ay (.tup [.int t,.tup [.str z,.int i],.int num,act])=.tup [.str z,.int i]from rfl)];rfl
  ·rw[kR e,hc,if_neg (λq=>e (show y=_ from q.symm))];rfl
theorem lB(T:Tops P w K mg base):Cal P w K mg base 4 "refuse_gaps" dH bZ :=
 Cal.byD (N:=["deeds","counts","deed","due"]) T.b T.f_refuse_gaps (by walk_at "sc") kL (by have:=dJ T;walk_at "dv") lr
def bM:DSp:=λds M R=>∃(log xs:List D) (c:D->Int),ds=[.tup xs]/\LogN log/\(∀d∈log,1<=eA d)/\xs.Perm (aN c log)/\R .non M
theorem jl:bQ bM cX:=by rintro ds M R ⟨log,xs,c,rfl,_⟩;rfl
def dW:DTS:=nQ (ac 1) (dOp qIx (ac 2) (dC (.int 1))) (dOp qIx (ac 2) (dC (.int 0)))
def dY:DTS:=oo (bo (dCB (jZ bc) (aa (ac 0) ag))) (ax 2) (aF (dIf (aB (dOp qLe (dOp qIx (ac 2) (dC (.int 0))) (dMt gD (ac 1) (aa (dOp qIx (ac 2) (dC (.int 1))) (aa (dC (.int 0)) ag))))) (iZ) aR) (dW))
def fx:DTS:=aF (bq (nR) 1) (dY)
theorem jv:WpT bM 3 fx:=by
 rintro ds M R ⟨log,xs,c,rfl,ok,t1,px,h⟩
 have lc:=(cN (c:=c) ok).len
 have ll:=px.length_eq
 have xl:∀d∈xs,d∈log:=λd hd=>ci (px.mem_iff.mp hd)
 have xd:∀d∈xs,rz d:=λd hd=>ok.deed d (xl d hd)
 simp only[fx,dY]
 walk_at "dl"
 refine⟨xs,aH,.inl rfl,λd hd=>⟨d,rfl,xd d hd,rfl,rfl⟩,(mn xd (by lia)).g,λys hy hr=>⟨_,ak,λ_=>?_⟩⟩
 have py:=hy.trans px
 have up:=uA ok py hr
 have yl:=py.length_eq
 have e1:(M++[MO.dkt []]).length=M.length+1:=by simp
 rw[e1]
 refine fi (λzs S M'=>∃kvs a,M'=M++MO.dkt kvs::[MO.lst ys]/\(∀z∈zs,z∈ys)/\zs.Pairwise (λa b=>ay a=ay b->cu a<cu b)/\(∀d∈zs,∃v:Int,(cY kvs (ay d)).getD (.int 0)=.int v/\v<eA d)/\kvs.length+zs.length<=ys.length/\S=[some (.tup xs),some (.ref M.length),a]) ?_ ?_ _ _ _ ⟨[],_,by simp,λ_ z=>z,up,λd hd=>⟨0,rfl,by have:=t1 d (xl d (hy.mem_iff.mp hd));lia⟩,by simp,rfl⟩
 ·rintro S M' ⟨kvs,a,rfl,_,_,_,_,rfl⟩
  refine⟨.inl (by rw[<-e1,show M++MO.dkt kvs::[MO.lst ys]=(M++[MO.dkt kvs])++[MO.lst ys] by simp,show (M++[MO.dkt []]).length=(M++[MO.dkt kvs]).length by simp];exact aq),aI.non h (AAx _ _)⟩
 ·rintro x zs S M' ⟨kvs,a,rfl,zy,pw,hv,hl,rfl⟩ G hG
  have hm:x∈ys:=zy x (by simp)
  have hxl:=xl x (hy.mem_iff.mp hm)
  obtain⟨v,gv,vt⟩:=hv x (by simp)
  rw[ACg]at pw
  rw[AAD]at hl
  have later:∀d∈zs,ay d=ay x->eA x<eA d:=λd hd e=>wU ok hxl (xl d (hy.mem_iff.mp (zy d (AA8 _ hd)))) e.symm (pw.1 d hd e.symm)
  obtain⟨t,hd',num,act,rfl,⟨z,i,rfl⟩,_⟩:=ok.deed x hxl
  have vt:v<t:=vt
  have gv:(cY kvs (.tup [.str z,.int i])).getD (.int 0)=.int v:=gv
  refine⟨.inl (by rw[<-e1,show M++MO.dkt kvs::[MO.lst ys]=(M++[MO.dkt kvs])++[MO.lst ys] by simp,show (M++[MO.dkt []]).length=(M++[MO.dkt kvs]).length by simp];exact aq),?_⟩
  walk_at "dl"
  refine⟨⟨kvs,iI⟩,kvs,iI,rfl,?_⟩
  rw[gv]
  show if decide (t<=v)=true then _ else _
  rw[dF_ (by lia)]
  refine bp ?_
  simp only[dW]
  walk_at "dl"
  have pl:=dG (kvs:=kvs) (k:=.tup [.str z,.int i]) (d:=.int t)
  refine⟨kvs,iI,rfl,small1000 (by lia),Fgt.now (hG _ _ ⟨fy kvs (.tup [.str z,.int i]) (.int t),_,mT,λq hq=>zy q (AA8 _ hq),pw.2,λd hd=>?_,by lia,rfl⟩)⟩
  by_cases e:ay d=.tup [.str z,.int i]
  ·rw[e,eS];exact⟨t,rfl,later d hd e⟩
  ·rw[kR e];exact hv d (AA8 _ hd)
theorem kD(T:Tops P w K mg base):Cal P w K mg base 4 "refuse_times" cX bM :=
 Cal.byD (N:=["deeds","times","deed"]) T.b T.f_refuse_times (by walk_at "sc") jl (by have:=dJ T;walk_at "dv") jv
def cT:DSp:=λds M R=>∃(log told:List D) (c:D->Int),ds=[.tup told]/\LogN log/\(∀d,d∈told↔d∈aN c log)/\told.length<=300/\∀xs,xs.Perm (aN c log)->R (.tup xs) M
theorem nG:bQ cT fN:=by rintro ds M R ⟨log,told,c,rfl,_⟩;rfl
def jS:DTS:=aX (nP (dCB im (aa (dLC 1 [] (bo (ac 0)) (ax 0) jm (iJ (aa (dCB bc (aa (ac 0) ag)) (aa (ac 0) ag)))) ag)))
theorem oE:WpT cT 1 jS:=by
 rintro ds M R ⟨log,told,c,rfl,ok,ht,tl,h⟩
 have sub:∀d∈told,rz d:=λd hd=>ok.deed d (ci ((ht d).mp hd))
 have pm:=yx ok ht
 simp only[jS]
 walk_at "dl"
 intro hz
 refine aW (λd=>.tup [aH d,d]) (λS=>∃a,S=[a]) trivial _ _ _ ?_ ⟨_,rfl⟩ (by simpa using hz) ?_
 ·rintro y hy S ⟨a,rfl⟩
  exact⟨[some y],⟨_,rfl⟩,λY hY=>⟨y,rfl,sub y hy,aA (show 2<=1000 by decide),hY⟩⟩
 ·rw[AAY]
  refine⟨told.map λd=>(aH d,d),by rw[AAd];exact ak,λp hp=>?_,by rw[AA4];lia,?_⟩
  ·obtain⟨d,hd,rfl⟩:=AAI.mp hp
   obtain⟨t,hd',num,act,rfl,⟨z,i,rfl⟩,_⟩:=sub d hd
   exact⟨rfl,rfl⟩
  ·refine⟨_,aq,aI.keep (h _ pm) (.tup (gU λd hd=>(cN ok).deed d (pm.mem_iff.mp hd))) (pW.trans pW)⟩
theorem qh(T:Tops P w K mg base):Cal P w K mg base 2 "each_once" fN cT :=
 Cal.byD (N:=["deeds"]) T.b T.f_each_once (by walk_at "sc") nG (by have:=dJ T;walk_at "dv") oE
def dU:DSp:=λds M R=>∃(ps:List (Str×Int)) (rs:List (Str×List Str)) (own d:D) (log xs:List D) (a c:D->Int),ds=[aZ ps rs,own,.tup (aN a log),d]/\Hd own/\LogN log/\(∀x∈log,DeedV ps rs x/\1<=eA x/\ay x≠own)/\CI M d xs/\(∀x∈xs,x∈log)/\(∀x,x∈aN a log++xs↔x∈aN c log)/\xs.length<=200/\R (.tup (aN c log)) M
theorem qu:bQ dU iz:=by rintro ds M R ⟨ps,rs,own,d,log,xs,a,c,rfl,_⟩;rfl
theorem BN{M:Mem}{x:D}{xs:List D}(hx:rz x)(h:∀y∈xs,rz y):okD M eqN x=true/\xs.all (okD M eqN)=true:=⟨(kh 6 eqN x (by decide) (eT hx)).1,AAO.mpr λy hy=>(kh 6 eqN y (by decide) (eT (h y hy))).1⟩
theorem IP(ok:LogN log)(ha:a∈log)(hb:b∈log)(e:eqD M eqN a b=true):a=b:=by
 have key:ay a=ay b/\cu a=cu b:=by
  obtain⟨t,_,num,act,rfl,⟨z,k,rfl⟩,_⟩:=ok.deed a ha
  obtain⟨t',_,num',act',rfl,⟨z',k',rfl⟩,_⟩:=ok.deed b hb
  have e:(eqD M 29 (.int t) (.int t')&&((eqD M 28 (.str z) (.str z')&&(eqD M 28 (.int k) (.int k')&&true))&&(eqD M 29 (.int num) (.int num')&&(eqD M 29 act act'&&true))))=true:=e
  simp only[AAN,bb,bG,beq_iff_eq]at e
  obtain⟨e1,⟨e2,e3,_⟩,e4,_⟩:=e
  rw[e2,e3,e4];exact⟨rfl,rfl⟩
 exact gI ok ha hb key.1 key.2
theorem uM(ok:LogN log)(h:∀y∈xs,y∈log)(hx:x∈log):inD M x xs=decide (x∈xs):=by
 unfold inD
 by_cases c:x∈xs
 ·rw[dT_ c]
  exact ABo.mpr ⟨x,c,(kh 6 eqN x (by decide) (eT (ok.deed x hx))).2⟩
 ·rw[dF_ c]
  refine ABW.mpr λz=>?_
  obtain⟨y,hy,e⟩:=ABo.mp z
  exact c (IP ok (h y hy) hx e ▸ hy)
def iO:DTS:=aX (dCB cy (aa (dCB (jZ dR) (aa (ac 5) ag)) ag))
def iP:DTS:=aF (eU (dCB bM (aa (ac 5) ag))) (iO)
def iQ:DTS:=aF (eU (dCB bZ (aa (ac 5) ag))) (iP)
def cK:DTS:=aF (bq (dCB cT (aa (ac 4) ag)) 5) (iQ)
def iR:DTS:=aF (eU (dCB bN (aa (ac 1) (aa (dLC 1 [2] (bo (ac 3)) (ax 0) (aB (dOp pR (ac 0) (ac 1))) (ac 0)) ag)))) (cK)
def eK:DTS:=aF (eU (dCB bE (aa (ac 4) (aa (ac 4) ag)))) (iR)
def iS:DTS:=aF (bq (dOp aP (ac 2) (dCB cy (aa (ac 3) ag))) 4) (eK)
def lQ:DTS:=aF (eU (dCB bn (aa (ac 0) (aa (ac 3) ag)))) (iS)
theorem rG:WpT dU 6 lQ:=by
 rintro ds M R ⟨ps,rs,own,d,log,xs,a,c,rfl,ho,ok,hv,hs,hx,hc,xl,h⟩
 have la:=(cN (c:=a) ok).len
 have lc:=(cN (c:=c) ok).len
 have ca:∀x∈aN a log,x∈log:=λx hx=>ci hx
 have told:∀x∈aN a log++xs,x∈log:=λx hm=>(AAL.mp hm).elim (ca x) (hx x)
 have tl:(aN a log++xs).length<=300:=by rw[AA9];lia
 have tail:∀(B:Mem),M <+: B->cK (EE M R) [some (aZ ps rs),some own,some (.tup (aN a log)),some d,some (.tup (aN a log++xs)),none] B:=λB pB=>by
  simp only[cK]
  walk_at "dl"
  refine⟨log,_,c,rfl,ok,hc,tl,λzs pz=>?_⟩
  have zd:∀d∈zs,rz d:=λd hd=>(cN ok).deed d (pz.mem_iff.mp hd)
  have zl:=pz.length_eq
  simp only[iQ]
  walk_at "dl"
  refine⟨log,zs,c,rfl,ok,pz,?_⟩
  simp only[iP]
  walk_at "dl"
  refine⟨log,zs,c,rfl,ok,λd hd=>(hv d hd).2.1,pz,?_⟩
  simp only[iO]
  walk_at "dl"
  refine⟨zs,stD,.inl rfl,λd hd=>?_,(CW (λx hx=>?_) (by rw[AA4];lia)).g,λys hy hr=>?_⟩
  ·obtain⟨t,hd',num,act,rfl,_⟩:=zd d hd
   exact⟨_,_,_,rfl,rfl,rfl⟩
  ·obtain⟨d,hd,rfl⟩:=AAI.mp hx
   exact cZ (zd d hd)
  ·obtain rfl:=EU (cN ok) (hy.trans pz) hr
   exact⟨_,ak,aI.keep h (.tup (gU (cN ok).deed)) (pB.trans pW)⟩
 simp only[lQ]
 walk_at "dl"
 refine⟨ps,rs,d,xs,rfl,hs,λx hm=>(hv x (hx x hm)).1,xl,?_⟩
 have comp:∀(o:Mem->Prop) (Q:DK),o M->Q (.ref M.length) (M++[.lst (xs.filter λx=>!decide (x∈aN a log))])->jo o (ax 0) (aB (dOp pR (ac 0) (ac 1))) (ac 0) Q xs [] [none,some (.tup (aN a log))] M:=λo Q ho hQ=>by
  refine bt (λx=>!decide (x∈aN a log)) id (λS=>∃y,S=[y,some (.tup (aN a log))]) ho _ _ _ (λx hm S hS=>?_) ⟨_,rfl⟩ (by rw[AAS];exact aA (by lia)) (by rw[AAY,ADR];exact hQ)
  obtain⟨y,rfl⟩:=hS
  refine⟨[some x,some (.tup (aN a log))],⟨_,rfl⟩,λY Z hYZ=>?_⟩
  walk_at "dl"
  refine⟨BN (ok.deed x (hx x hm)) λy hy=>ok.deed y (ca y hy),?_⟩
  show if (inD M x (aN a log) != true)=true then _ else _
  rw[uM ok ca (hx x hm),show (decide (x∈aN a log) != true) = !decide (x∈aN a log) by cases decide (x∈aN a log)<;>rfl]
  exact hYZ
 have fin:bN [own,.ref M.length] (M++[.lst (xs.filter λx=>!decide (x∈aN a log))]) λ_ B=>cK (EE M R) [some (aZ ps rs),some own,some (.tup (aN a log)),some d,some (.tup (aN a log++xs)),none] B :=
  ⟨own,_,_,rfl,ho,ak,λx hm=>⟨ok.deed x (hx x (AAX.mp hm).1),(hv x (hx x (AAX.mp hm).1)).2.2⟩,AAp (ACm _ _) xl,tail _ pW⟩
 have mid:eK (EE M R) [some (aZ ps rs),some own,some (.tup (aN a log)),some d,some (.tup (aN a log++xs)),none] M:=by
  simp only[eK]
  walk_at "dl"
  refine⟨log,_,_,rfl,ok,told,told,tl,tl,?_⟩
  simp only[iR]
  walk_at "dl"
  rcases hs with⟨n,rfl,hL⟩ | rfl
  ·exact⟨xs,hL,λ_=>comp _ _ hL fin⟩
  ·exact λ_=>comp _ _ trivial fin
 have al:(aN a log).length+xs.length<=sizeLine:=aA (by lia)
 simp only[iS]
 walk_at "dl"
 rcases hs with⟨n,rfl,hL⟩ | rfl
 ·exact⟨xs,hL,al,mid⟩
 ·exact⟨al,mid⟩
theorem sk(T:Tops P w K mg base):Cal P w K mg base 9 "log_with" iz dU :=
 Cal.byD (N:=["house","hand","log","things","told","whole"]) T.b T.f_log_with (by walk_at "sc") qu (by have:=sh T;have:=jh T;have:=gK T;have:=ng T;have:=lB T;have:=kD T;have:=qh T;walk_at "dv") rG
theorem am{M:Mem}{m n:Nat}{x y:MO}(h:m≠n)(l:M[m]?=some y):(M.set n x)[m]?=some y:=by rw[AAq (AAt h)];exact l
theorem aE{M:Mem}{m:Nat}{y:MO}(l:M[m]?=some y):m<M.length:=(AA3.mp l).1
theorem aQ{M:Mem}{n:Nat}{a b:MO}(h:M[n]?=some b):(M.set n a)[n]?=some a:=ABD (AA3.mp h).1
noncomputable def qE(hd own:D)(k:Nat)(log:List D):List (Str×D):=[(AA1 "house",hd),(AA1 "hand",own),(AA1 "rooms_here",.ref k),(AA1 "log",.tup log)]
def cU:DSp:=λds M R=>∃(n:Nat) (ps:List (Str×Int)) (rs:List (Str×List Str)) (z:Str) (k:Int),ds=[.ref n,aZ ps rs,.str z,.int k]/\M[n]?=some (.ins (AA1 "Hand") [])/\rs.length<=1000/\∀B r,r≠n->M.length<=r->r<B.length->(∀i x,i≠n->M[i]?=some x->B[i]?=some x)->B[n]?=some (.ins (AA1 "Hand") (qE (aZ ps rs) (.tup [.str z,.int k]) r []))->R .non B
theorem nH:bQ cU fO:=by rintro ds M R ⟨n,ps,rs,z,k,rfl,_⟩;rfl
def gn:DTS:=fW "Hand" "log" (ac 0) (iJ ag)
def gq:DTS:=aF (fW "Hand" "rooms_here" (ac 0) (dCB dS (aa (ac 1) (aa (ac 2) ag)))) (gn)
def gs:DTS:=aF (fW "Hand" "hand" (ac 0) (iJ (aa (ac 2) (aa (ac 3) ag)))) (gq)
def jU:DTS:=aF (fW "Hand" "house" (ac 0) (ac 1)) (gs)
theorem oF:WpT cU 4 jU:=by
 rintro ds M R ⟨n,ps,rs,z,k,rfl,hn,hl,h⟩
 have nM:=aE hn
 simp only[jU]
 walk_at "dl"
 refine⟨_,hn,by decide,?_⟩
 simp only[gs]
 walk_at "dl"
 refine⟨aA (by decide),_,aQ hn,by show 1<1000;decide,?_⟩
 simp only[gq]
 walk_at "dl"
 rw[List.set_set]
 refine⟨ps,rs,z,rfl,hl,λxs=>⟨_,ae (aQ hn),by show 2<1000;decide,?_⟩⟩
 simp only[gn]
 walk_at "dl"
 refine⟨AAV _,_,aQ (ae (aQ hn)),by show 3<1000;decide,.inl (h _ M.length (by lia) (AAC _) (by simp) (λi x hi hx=>am hi (am hi (ae (am hi hx)))) ((aQ (aQ (ae (aQ hn)))).trans ?_))⟩
 rw[AAa];rfl
theorem qi(T:Tops P w K mg base):KF P w K mg base 2 "Hand" fO cU :=
 KF.byD (N:=["self","house","name","k"]) T.b T.f_Hand_init (by walk_at "sc") nH (by have:=T.a_house;have:=T.a_hand;have:=T.a_rooms_here;have:=T.a_log;have:=sj T;walk_at "dv") oF
def bO:DSp:=λds M R=>∃(n:Nat) (fs:List (Str×D)) (v:D),ds=[.ref n]/\M[n]?=some (.ins (AA1 "Hand") fs)/\fs.lookup (AA1 "log")=some v/\R v M
theorem lE:bQ bO eR:=by rintro ds M R ⟨n,fs,v,rfl,_⟩;rfl
def iT:DTS:=aX (Gy "Hand" "log" (ac 0))
theorem mL:WpT bO 1 iT:=by
 rintro ds M R ⟨n,fs,v,rfl,hn,hv,h⟩
 simp only[iT]
 walk_at "dl"
 exact⟨fs,v,hn,hv,aI.now h⟩
theorem nh(T:Tops P w K mg base):Dt P w K mg base 1 "Hand" "heard" eR bO :=
 Dt.byD (N:=["self"]) T.b T.f_Hand_heard (by walk_at "sc") lE (by have:=T.a_log;walk_at "dv") mL
def bJ:DSp:=λds M R=>∃(n k:Nat) (ps:List (Str×Int)) (rs:List (Str×List Str)) (own d:D) (log xs:List D) (a c:D->Int),ds=[.ref n,d]/\M[n]?=some (.ins (AA1 "Hand") (qE (aZ ps rs) own k (aN a log)))/\k<M.length/\Hd own/\LogN log/\(∀x∈log,DeedV ps rs x/\1<=eA x/\ay x≠own)/\CI M d xs/\(∀x∈xs,x∈log)/\(∀x,x∈aN a log++xs↔x∈aN c log)/\xs.length<=200 /\
 R (.int ((aN c log).length-(aN a log).length:Int)) (M.set n (.ins (AA1 "Hand") (qE (aZ ps rs) own k (aN c log))))
theorem nI:bQ bJ fP:=by rintro ds M R ⟨n,k,ps,rs,own,d,log,xs,a,c,rfl,_⟩;rfl
def gu:DTS:=aX (ac 3)
def dA:DTS:=aF (fW "Hand" "log" (ac 0) (ac 2)) (gu)
def gy:DTS:=aF (bq (dOp AN (dCB eP (aa (ac 2) ag)) (dCB eP (aa (Gy "Hand" "log" (ac 0)) ag))) 3) (dA)
def jV:DTS:=aF (bq (dCB dU (aa (Gy "Hand" "house" (ac 0)) (aa (Gy "Hand" "hand" (ac 0)) (aa (Gy "Hand" "log" (ac 0)) (aa (ac 1) ag))))) 2) (gy)
theorem oG:WpT bJ 4 jV:=by
 rintro ds M R ⟨n,k,ps,rs,own,d,log,xs,a,c,rfl,hn,kM,ho,ok,hv,hs,hx,hc,xl,h⟩
 simp only[jV]
 walk_at "dl"
 refine⟨_,_,hn,rfl,_,_,hn,rfl,_,_,hn,rfl,ps,rs,own,d,log,xs,a,c,rfl,ho,ok,hv,hs,hx,hc,xl,?_⟩
 simp only[gy]
 walk_at "dl"
 refine⟨_,_,hn,rfl,?_⟩
 show dA _ [some (.ref n),some d,some (.tup (aN c log)),some (.int (((aN c log).length:Int)-((aN a log).length:Int)))] M
 simp only[dA]
 walk_at "dl"
 refine⟨_,hn,by show 4<1000;decide,?_⟩
 simp only[gu]
 walk_at "dl"
 exact .inl h
theorem qj(T:Tops P w K mg base):Dt P w K mg base 10 "Hand" "hear" fP bJ :=
 Dt.byD (N:=["self","deeds","log","new"]) T.b T.f_Hand_hear (by walk_at "sc") nI (by have:=T.a_house;have:=T.a_hand;have:=T.a_log;have:=sk T;walk_at "dv") oG
noncomputable def mG(ns:List Int)(k:Nat):Int:=ns.getD k 0
def cw:DSp:=λds M R=>∃(n:Nat) (ns:List Int) (k:Nat),ds=[.ref n,.int k]/\ao M n (ns.map D.int)/\R (.int (mG ns k)) M
theorem sM:bQ cw kC:=by rintro ds M R ⟨n,ns,k,rfl,_⟩;rfl
def jT:DTS:=aX (dC (.int 0))
def pG:DTS:=aF (dIf (aB (dOp qLt (ac 1) (dCB eP (aa (ac 0) ag)))) (aX (dOp qIx (ac 0) (ac 1))) aR) (jT)
theorem vA:WpT cw 2 pG:=by
 rintro ds M R ⟨n,ns,k,rfl,hL,h⟩
 simp only[pG,jT]
 walk_at "dl"
 refine⟨_,hL,?_⟩
 unfold mG at h
 by_cases hk:k<ns.length
 ·rw[dT_ (by simpa using hk)]
  refine bu ⟨_,hL,?_⟩
  rw[aM (v:=.int ns[k]) (by rw[AAU,AA5 hk];rfl)]
  rw[AAK,AA5 hk]at h
  exact aI.now h
 ·rw[dF_ (by simpa using hk)]
  rw[AAK,ACB (by lia)]at h
  exact bp (aI.now h)
theorem mx(T:Tops P w K mg base):Cal P w K mg base 1 "_law_cell_at" kC cw :=
 Cal.byD (N:=["_law_script","_law_k"]) T.b T.f_cell_at (by walk_at "sc") sM (by walk_at "dv") vA
noncomputable def ah(c:Int):MO:=.lst [.int c]
def ar:DSp:=λds M R=>∃(n:Nat) (c m:Int),ds=[.ref n,.int m]/\M[n]?=some (ah c)/\0<m/\m<1000000000000000/\∀i c':Int,0<=i->i<m->R (.int i) (M.set n (ah c'))
theorem Bz:bQ ar yq:=by rintro ds M R ⟨n,c,m,rfl,_⟩;rfl
theorem set_set{M:Mem}{n:Nat}{a b:MO}:(M.set n a).set n b=M.set n b:=List.set_set ..
def WM(M:Mem)(n:Nat)(B:Mem):Prop:=∃c L,B=M.set n (ah c)++L
section
variable{M B C:Mem}{n:Nat}{c0:Int}
theorem WM.drawn:WM M n (M.set n (ah c)):=⟨c,[],by simp⟩
theorem WM.now(h:M[n]?=some (ah c0)):WM M n M:=⟨c0,[],by
 rw[AB8]
 refine(ADQ λi=>?_).symm
 by_cases e:n=i
 ·subst e;rw[aQ h,h]
 ·rw[AAq e]⟩
theorem WM.get(w:WM M n B)(h:M[n]?=some (ah c0)):∃c,B[n]?=some (ah c):=by
 obtain⟨c,L,rfl⟩:=w
 have hl:=(AA3.mp h).1
 exact⟨c,by rw[AAJ (by rw[AAa];exact hl),aQ h]⟩
theorem WM.set(w:WM M n B)(h:M[n]?=some (ah c0))(c:Int):WM M n (B.set n (ah c)):=by
 obtain⟨c',L,rfl⟩:=w
 have hl:=(AA3.mp h).1
 refine⟨c,L,?_⟩
 rw[List.set_append_left _ _ (by rw[AAa];exact hl),set_set]
theorem WM.app(w:WM M n B)(L:Mem):WM M n (B++L):=by
 obtain⟨c',L',rfl⟩:=w
 exact⟨c',L'++L,by rw[AAs]⟩
theorem WM.trans(w:WM M n B)(h:M[n]?=some (ah c0))(v:WM B n C):WM M n C:=by
 obtain⟨c,L,rfl⟩:=v
 exact(w.set h c).app L
theorem WM.len(w:WM M n B):M.length<=B.length:=by
 obtain⟨c,L,rfl⟩:=w
 rw[AA9,AAa];lia
theorem WM.other(w:WM M n B)(hm:m≠n)(h:M[m]?=some x):B[m]?=some x:=by
 obtain⟨c,L,rfl⟩:=w
 rw[AAJ (by rw[AAa];exact(AA3.mp h).1),AAq (AAt hm)]
 exact h
end
def tQ:DTS:=aX (ac 2)
def tR:DTS:=aF (dAsg (dOp mV (dOp qIx (ac 0) (dC (.int 0))) (ac 1)) (Cl (ac 0) (dC (.int 0)))) (tQ)
def CQ:DTS:=aF (bq (dOp vK (dOp qIx (ac 0) (dC (.int 0))) (ac 1)) 2) (tR)
theorem Dy:WpT ar 3 CQ:=by
 rintro ds M R ⟨n,c,m,rfl,hn,h0,h1,h⟩
 simp only[CQ,tR,tQ]
 walk_at "dl"
 refine⟨_,.inl hn,?_⟩
 rw[at0]
 refine⟨h0,_,.inl hn,?_⟩
 rw[at0]
 exact⟨⟨h0,by lia⟩,_,0,hn,rfl,.inl (h _ _ (ADz _ (by lia)) (ADI _ h0))⟩
theorem cf(T:Tops P w K mg base):Cal P w K mg base 1 "_law_take" yq ar :=
 Cal.byD (N:=["_law_well_here","_law_many","_law_found"]) T.b T.f_take (by walk_at "sc") Bz (by walk_at "dv") Dy
def uX:DSp:=λds M R=>∃(c:Int) (k:Int),ds=[.int c,.int k]/\0<=k/\k<100000/\∀i:Int,R (.int i) M
theorem EX:bQ uX EA:=by rintro ds M R ⟨c,k,rfl,_⟩;rfl
def xh:DTS:=aX (dOp vK (dOp aP (dOp aP (dOp jf (ac 2) (ac 2)) (dOp jf (dC (.int 69621)) (ac 2))) (dC (.int 7))) (dC (.int 2147483629)))
def xi:DTS:=aF (bq (dOp vK (dOp aP (dOp aP (dOp aP (dOp jf (ac 2) (ac 2)) (dOp jf (dC (.int 48271)) (ac 2))) (dC (.int 13))) (ac 1)) (dC (.int 2147483647))) 2) (xh)
def Ha:DTS:=aF (bq (dOp vK (dOp aP (dOp aP (dOp vK (ac 0) (dC (.int 2147483647))) (dOp jf (dC (.int 7919)) (ac 1))) (dC (.int 11))) (dC (.int 2147483647))) 2) (xi)
theorem GR:WpT uX 3 Ha:=by
 rintro ds M R ⟨c,k,rfl,h0,h1,h⟩
 simp only[Ha,xi,xh]
 walk_at "dl"
 have p:∀z:Int,0<=z % 2147483647/\z % 2147483647<2147483647:=λz=>⟨ADz _ (by decide),ADI _ (by decide)⟩
 refine⟨by decide,.inl ⟨by decide,by decide⟩,by decide,?_⟩
 have pa:=p (c % 2147483647+7919*k+11)
 generalize (c % 2147483647+7919*k+11) % 2147483647=a at pa
 refine⟨.inl ⟨by lia,by lia⟩,.inl ⟨by decide,by decide⟩,by decide,?_⟩
 have pb:=p (a*a+48271*a+13+k)
 generalize (a*a+48271*a+13+k) % 2147483647=b at pb
 exact⟨.inl ⟨by lia,by lia⟩,.inl ⟨by decide,by decide⟩,by decide,aI.now (h _)⟩
theorem IB(T:Tops P w K mg base):Cal P w K mg base 1 "_law_mix" EA uX :=
 Cal.byD (N:=["_law_cell","_law_k","_law_number"]) T.b T.f_mix (by walk_at "sc") EX (by walk_at "dv") GR
def lg:DSp:=λds M R=>∃(c:Int) (k:Int),ds=[.int c,.int k]/\0<=k/\k<1000/\∀i:Int,R (.int i) M
theorem BA:bQ lg yr:=by rintro ds M R ⟨c,k,rfl,_⟩;rfl
def tU:DTS:=aX (ac 2)
def tV:DTS:=aF (oo (da (aa (dC (.int 8)) ag)) (ax 3) (bq (dOp aP (dOp jf (ac 2) (dC (.int 2147483629))) (dCB uX (aa (ac 0) (aa (dOp aP (dOp jf (dC (.int 8)) (ac 1)) (ac 3)) ag)))) 2)) (tU)
def CS:DTS:=aF (bq (dC (.int 0)) 2) (tV)
theorem Dz:WpT lg 4 CS:=by
 rintro ds M R ⟨c,k,rfl,h0,h1,h⟩
 simp only[CS,tV]
 walk_at "dl"
 refine⟨⟨by decide,by decide⟩,?_⟩
 refine bY (λi S M'=>M'=M/\∃(f:Int) (a:Option D),S=[some (.int c),some (.int k),some (.int f),a]) ?_ ?_ ⟨rfl,_,_,rfl⟩
 ·rintro S M' ⟨rfl,f,a,rfl⟩
  refine⟨trivial,?_⟩
  simp only[tU]
  walk_at "dl"
  exact aI.now (h _)
 ·rintro i y S M' hy ⟨rfl,f,a,rfl⟩ G hG
  obtain⟨hi,rfl⟩:=gz.mp hy
  have hi8:i<8:=hi
  refine⟨trivial,?_⟩
  walk_at "dl"
  exact⟨.inr ⟨by decide,by decide⟩,.inl ⟨by decide,by decide⟩,c,_,rfl,by lia,by lia,λz=>Fgt.now (hG _ _ ⟨rfl,_,_,rfl⟩)⟩
theorem yB(T:Tops P w K mg base):Cal P w K mg base 2 "_law_rich" yr lg :=
 Cal.byD (N:=["_law_cell","_law_k","_law_found","_law_j"]) T.b T.f_rich (by walk_at "sc") BA (by have:=IB T;walk_at "dv") Dz
def kZ:DSp:=λds M R=>∃(c:Int) (k:Int),ds=[.int c,.int k]/\0<=k/\k<1000/\∀i:Int,R (.ref M.length) (M++[ah i])
theorem By:bQ kZ yp:=by rintro ds M R ⟨c,k,rfl,_⟩;rfl
def tO:DTS:=aX (gW (aa (dCB lg (aa (dOp mV (ac 0) (dC (.int 2))) (aa (ac 1) ag))) ag))
def CP:DTS:=aF (dIf (aB (dOp qEq (dOp vK (ac 0) (dC (.int 2))) (dC (.int 0)))) (aX (gW (aa (dOp mV (ac 0) (dC (.int 2))) ag))) aR) (tO)
theorem Dx:WpT kZ 2 CP:=by
 rintro ds M R ⟨c,k,rfl,h0,h1,h⟩
 simp only[CP,tO]
 walk_at "dl"
 refine⟨by decide,⟨rfl,rfl⟩,?_⟩
 cases eqD M eqN (.int (c % 2)) (.int 0) with
 | true=>exact bu ⟨⟨by decide,by decide⟩,aA (by lia),.inl (h _)⟩
 | false=>exact bp ⟨⟨by decide,by decide⟩,_,k,rfl,h0,h1,λz=>⟨aA (by lia),.inl (h _)⟩⟩
theorem EJ(T:Tops P w K mg base):Cal P w K mg base 3 "_law_well" yp kZ :=
 Cal.byD (N:=["_law_cell","_law_k"]) T.b T.f_well (by walk_at "sc") By (by have:=yB T;walk_at "dv") Dx
def hI:DSp:=λds M R=>∃(p:Nat) (ns:List Int) (s m:Nat),ds=[.ref p,.int s,.int m]/\ao M p (ns.map D.int)/\ns.length<=100/\m<=100/\s<=100 /\
 ∀(ws:List Nat) (B:Mem),M <+: B->ws.length<=m->(∀w∈ws,M.length<=w/\∃c,B[w]?=some (ah c))->R (.ref B.length) (B++[.lst (ws.map .ref)])
theorem yV:bQ hI rY:=by rintro ds M R ⟨p,ns,s,m,rfl,_⟩;rfl
theorem BM{ns:List Int}{lo hi:Option Int}:∃l:List Int,cutD (ns.map D.int) lo hi=l.map D.int:=by
 unfold cutD
 rw[<-List.map_drop,<-List.map_take]
 exact⟨_,rfl⟩
theorem Ct{xs:List D}{s m:Nat}:(cutD xs (some ((s:Int)+1)) (some ((s:Int)+1+(m:Int)))).length<=m:=by
 unfold cutD
 rw[AAe,show ((s:Int)+1)=((s+1:Nat):Int) by lia,show (((s+1:Nat):Int)+(m:Int))=((s+1+m:Nat):Int) by lia,HT.sIx_nat,HT.sIx_nat]
 lia
def GK(M M':Mem)(acc:List D):Prop:=∃ws:List Nat,acc=ws.map .ref/\M <+: M'/\∀w∈ws,M.length<=w/\∃c,M'[w]?=some (ah c)
theorem GK.nil:GK M M []:=⟨[],rfl,List.prefix_refl _,λ_ z=>nomatch z⟩
theorem GK.more{M M':Mem}{acc:List D}{c:Int}(h:GK M M' acc):GK M (M'++[ah c]) (acc++[.ref M'.length]):=by
 obtain⟨ws,rfl,p,hw⟩:=h
 refine⟨ws++[M'.length],by simp,p.trans pW,λw m=>?_⟩
 rcases AAL.mp m with m | m
 ·obtain⟨h1,c',h2⟩:=hw w m
  exact⟨h1,c',ae h2⟩
 ·rw[AAP.mp m]
  exact⟨p.length_le,c,aq⟩
def oX:DTS:=aX (dLC 1 [] (bo (dSl (ac 0) (iL (dOp aP (ac 1) (dC (.int 1)))) (iL (dOp aP (dOp aP (ac 1) (dC (.int 1))) (ac 2))))) (ax 0) jm (gW (aa (ac 0) ag)))
def oY:DTS:=aF (dIf (aB (dOp qEq (dOp vK (ac 3) (dC (.int 2))) (dC (.int 1)))) (aX (dLC 1 [3] (da (aa (dOp vK (dOp mV (ac 3) (dC (.int 2))) (dOp aP (ac 2) (dC (.int 1)))) ag)) (ax 0) jm (gW (aa (dCB lg (aa (dOp mV (ac 1) (dC (.int 2))) (aa (ac 0) ag))) ag)))) aR) (oX)
def xf:DTS:=aF (bq (dCB cw (aa (ac 0) (aa (ac 1) ag))) 3) (oY)
theorem Aw:WpT hI 4 xf:=by
 rintro ds M R ⟨p,ns,s,m,rfl,hL,n100,m100,s10,h⟩
 simp only[xf,oY]
 walk_at "dl"
 refine⟨p,ns,s,rfl,hL,by decide,⟨au,au⟩,?_⟩
 cases eqD M eqN (.int (mG ns s % 2)) (.int 1) with
 | true =>
  have e0:0<=mG ns s / 2 % ((m:Int)+1):=ADz _ (by lia)
  have e1:mG ns s / 2 % ((m:Int)+1)<(m:Int)+1:=ADI _ (by lia)
  refine bu ⟨⟨by decide,by decide⟩,by lia,⟨by lia,by lia⟩,?_⟩
  refine cq (λxs acc S M'=>∃a,S=[a,some (.int (mG ns s))]/\GK M M' acc/\acc.length+xs.length<=m/\∀x∈xs,∃i:Int,x=.int i/\0<=i/\i<1000) ?_ ?_ _ _ _ _ ⟨_,rfl,.nil,?_,?_⟩
  ·rintro acc S M' ⟨a,rfl,⟨ws,rfl,p,hw⟩,hl,_⟩
   exact⟨trivial,.inl (h ws M' p (by simpa using hl) hw)⟩
  ·rintro y xs acc S M' ⟨a,rfl,hw,hl,hx'⟩ K hK
   obtain⟨i,rfl,i0,i1⟩:=hx' y (by simp)
   refine⟨trivial,?_⟩
   walk_at "dl"
   rw[AAD]at hl
   refine⟨⟨by decide,by decide⟩,_,i,rfl,i0,i1,λz=>⟨aA (by lia),small1000 (by lia),hK _ _ _ ⟨_,rfl,hw.more,?_,λx hx=>hx' x (AA8 _ hx)⟩⟩⟩
   rw[AA9,AAb];lia
  ·rw[dD,AAS];lia
  ·intro x hx
   obtain⟨i,hi⟩:=ACJ hx
   obtain⟨h1,rfl⟩:=gz.mp hi
   exact⟨_,rfl,by lia,by lia⟩
 | false =>
  refine bp ?_
  simp only[oX]
  walk_at "dl"
  obtain⟨cs,hcs⟩:=BM (ns:=ns) (lo:=some ((s:Int)+1)) (hi:=some ((s:Int)+1+(m:Int)))
  have cl:cs.length<=m:=by
   have:=Ct (xs:=ns.map D.int) (s:=s) (m:=m)
   rw[hcs,AA4]at this
   exact this
  refine⟨_,hL,?_⟩
  rw[hcs]
  refine⟨_,ak,λ_=>?_⟩
  refine cq (λxs acc S M'=>∃a,S=[a]/\GK M M' acc/\ao M' M.length (cs.map D.int)/\acc.length+xs.length<=m/\∀x∈xs,∃i:Int,x=.int i) ?_ ?_ _ _ _ _ ⟨_,rfl,⟨[],rfl,pW,λ_ z=>nomatch z⟩,ak,?_,?_⟩
  ·rintro acc S M' ⟨a,rfl,⟨ws,rfl,p,hw⟩,l,hl,_⟩
   exact⟨l,.inl (h ws M' p (by simpa using hl) hw)⟩
  ·rintro y xs acc S M' ⟨a,rfl,hw,l,hl,hx⟩ K hK
   obtain⟨i,rfl⟩:=hx y (by simp)
   refine⟨l,?_⟩
   walk_at "dl"
   rw[AAD]at hl
   refine⟨aA (by lia),small1000 (by lia),hK _ _ _ ⟨_,rfl,hw.more,l.more _,?_,λx hx'=>hx x (AA8 _ hx')⟩⟩
   rw[AA9,AAb];lia
  ·rw[AA4,AAS];lia
  ·intro x hx
   obtain⟨i,_,rfl⟩:=AAI.mp hx
   exact⟨i,rfl⟩
theorem Bh(T:Tops P w K mg base):Cal P w K mg base 3 "_law_wells" rY hI :=
 Cal.byD (N:=["_law_script","_law_start","_law_most","_law_head"]) T.b T.f_wells (by walk_at "sc") yV (by have:=mx T;have:=yB T;walk_at "dv") Aw
def GM(x:Str):Prop:=∀c∈x.cps.toList,97<=c/\c<=122
def eY(x:Str):Prop:=1<=x.length/\x.length<=8/\GM x
def iM:DSp:=λds M R=>∃(n:Nat) (c:Int),ds=[.ref n]/\M[n]?=some (ah c)/\∀(x:Str) (B:Mem),eY x->WM M n B->R (.str x) B
theorem Bw:bQ iM ym:=by rintro ds M R ⟨n,c,rfl,_⟩;rfl
noncomputable def one(c:Nat):Str:=⟨#[c]⟩
theorem mi:∀cs:List Nat,(AE8 (AA1 "") (cs.map one)).cps.toList=cs
 | []=>by decide +kernel
 | [c]=>rfl
 | c::d::r=>by
  have ih:=mi (d::r)
  show ((one c++AA1 "")++AE8 (AA1 "") ((d::r).map one)).cps.toList=_
  rw[bz,bz,ih]
  rfl
theorem dj(cs:List Nat):(AEI (AA1 "") (cs.map one)).cps.toList=cs:=by
 unfold AEI
 rw[ADb]
 exact mi cs
theorem mQ:∀cs:List Nat,((cs.map one).map (λx=>x.length)).sum=cs.length
 | []=>rfl
 | c::r=>by
  rw[AAH,AAH,List.sum_cons,mQ r,AAD]
  show 1+r.length=r.length+1
  lia
theorem uV(h0:0<=i)(h1:i<26):∃c:Nat,atI (AA1 "abcdefghijklmnopqrstuvwxyz").cps.toList i=some c/\97<=c/\c<=122:=by
 have hl:(AA1 "abcdefghijklmnopqrstuvwxyz").cps.toList=(AAg 26).map (· + 97):=by decide +kernel
 obtain⟨j,hj,e,ej⟩:=er (xs:=(AA1 "abcdefghijklmnopqrstuvwxyz").cps.toList) h0 (by rw[hl];simpa using h1)
 have hm:=AAf hj
 refine⟨_,e,?_⟩
 generalize (AA1 "abcdefghijklmnopqrstuvwxyz").cps.toList[j]=c at hm
 rw[hl]at hm
 obtain⟨k,hk,rfl⟩:=AAI.mp hm
 have:=ABK.mp hk
 lia
def tK:DTS:=aX (dMs rU (dC (.str "")) (aa (dLC 1 [1,0] (da (aa (dOp aP (dC (.int 1)) (dCB ar (aa (ac 0) (aa (dC (.int 8)) ag)))) ag)) (ax 0) jm (dOp qIx (ac 1) (dCB ar (aa (ac 2) (aa (dC (.int 26)) ag))))) ag))
def CN:DTS:=aF (bq (dC (.str "abcdefghijklmnopqrstuvwxyz")) 1) (tK)
theorem Dv:WpT iM 2 CN:=by
 rintro ds M R ⟨n,c,rfl,hn,h⟩
 simp only[CN,tK]
 walk_at "dl"
 refine⟨n,c,8,rfl,hn,by decide,by decide,λi c' i0 i8=>⟨⟨by lia,by lia⟩,?_⟩⟩
 refine cq (λxs acc S M'=>∃(cs:List Nat) (a:Option D),acc=(cs.map one).map .str/\(∀c∈cs,97<=c/\c<=122)/\cs.length+xs.length=(1+i).toNat/\WM M n M'/\S=[a,some (.str (AA1 "abcdefghijklmnopqrstuvwxyz")),some (.ref n)]) ?_ ?_ _ _ _ _ ⟨[],_,rfl,(λ_ z=>nomatch z),by rw[dD];simp,WM.drawn,rfl⟩
 ·rintro acc S M' ⟨cs,a,rfl,hc,hl,wm,rfl⟩
  simp only[AAS,Nat.add_zero]at hl
  refine⟨trivial,cs.map one,ak,?_,.inl (h _ _ ⟨?_,?_,?_⟩ (wm.app _))⟩
  ·rw[mQ,AA4,show (AA1 "").length=0 by decide +kernel];lia
  ·rw[aC,dj];lia
  ·rw[aC,dj];lia
  ·intro c hcm
   rw[dj]at hcm
   exact hc c hcm
 ·rintro y xs acc S M' ⟨cs,a,rfl,hc,hl,wm,rfl⟩ K hK
  refine⟨trivial,?_⟩
  obtain⟨w,hw⟩:=wm.get hn
  walk_at "dl"
  refine⟨n,w,26,rfl,hw,by decide,by decide,λj c2 j0 j26=>⟨by decide +kernel,?_⟩⟩
  obtain⟨ch,ech,hch⟩:=uV j0 j26
  rw[ech]
  rw[AAD]at hl
  refine⟨by rw[AA4,AA4];exact small1000 (by lia),hK _ _ _ ⟨cs++[ch],_,by simp[one],λc hcm=>?_,by rw[AA9,AAb];lia,wm.set hn _,rfl⟩⟩
  rcases AAL.mp hcm with hcm | hcm
  ·exact hc c hcm
  ·rw[AAP.mp hcm];exact hch
theorem yy(T:Tops P w K mg base):Cal P w K mg base 2 "_law_word" ym iM :=
 Cal.byD (N:=["_law_well_here","_law_letters"]) T.b T.f_word (by walk_at "sc") Bw (by have:=cf T;walk_at "dv") Dv
theorem BO(u:Option Int)(n:Nat):ABJ none u 1 n=ABJ (some ((0:Nat):Int)) u 1 n:=by
 unfold ABJ
 simp only[show (1:Int) > 0 by decide,if_true]
 congr 1
theorem Ju(l:Option Int)(n:Nat):ABJ l none 1 n=ABJ l (some ((n:Nat):Int)) 1 n:=by
 unfold ABJ
 simp only[show (1:Int) > 0 by decide,if_true]
 congr 1
 rw[if_neg (by lia)]
 lia
theorem mR(x:Str)(b:Nat):(ABP x none (some (b:Int))).cps.toList=x.cps.toList.take b:=by
 have e:=pL x (a:=0) (b:=b) (AAV _)
 rw[dB]at e ⊢
 rw[BO]
 rw[e];simp
theorem vH(x:Str)(a:Nat)(h:a<=x.length):(ABP x (some (a:Int)) none).cps.toList=x.cps.toList.drop a:=by
 have e:=pL x (a:=a) (b:=x.length) h
 rw[dB]at e ⊢
 rw[Ju]
 rw[e]
 rw[ABh]
 rw[ABe,aC];lia
theorem iW(e:x.cps.toList=l)(h1:1<=l.length)(h8:l.length<=8)(h:∀c∈l,97<=c/\c<=122):eY x:=by
 subst e
 refine⟨by rw[aC];exact h1,by rw[aC];exact h8,h⟩
theorem WM.hi(w:WM M n B)(h:M.length<=q):WM M n (B.set q x):=by
 obtain⟨c,L,rfl⟩:=w
 refine⟨c,L.set (q-M.length) x,?_⟩
 rw[List.set_append_right _ _ (by rw[AAa];exact h),AAa]
theorem xW{M:Mem}{xs:List Str}(h:Ar M (xs.map .str)):xs.Pairwise (λa b=>bv b a=false):=by
 unfold Ar at h
 exact ABB.mp h
def dP:DSp:=λds M R=>∃(n m:Nat) (c:Int),ds=[.ref n,.int m]/\1<=m/\m<=4/\M[n]?=some (ah c)/\∀(xs:List Str) (B:Mem),1<=xs.length->xs.length<=4->(∀x∈xs,eY x)->(xs.Nodup/\xs.Pairwise λa b=>bv b a=false)->WM M n B->R (.ref B.length) (B++[.lst (xs.map .str)])
theorem yU:bQ dP rX:=by rintro ds M R ⟨n,m,c,rfl,_⟩;rfl
structure WdOk(kvs:List (Str×D)):Prop where
 nd:(kvs.map (·.1)).Nodup
 ok:∀p∈kvs,eY p.1
def oP:DTS:=aX (dCB gG (aa (ac 6) ag))
def oQ:DTS:=dIf (aB (dOp qEq (ac 3) (dC (.int 0)))) (wz (ac 6) (dCB iM (aa (ac 0) ag)) (dC (.bl true))) (dIf (Kl (aB (dOp qEq (ac 3) (dC (.int 1)))) (aB (dOp qLt (dOp aP (dCB eP (aa (ac 4) ag)) (ac 7)) (dC (.int 9))))) (wz (ac 6) (dOp aP (ac 4) (dSl (dC (.str "abc")) cI (iL (ac 7)))) (dC (.bl true))) (wz (ac 6) (dOp aP (dOp aP (dSl (ac 4) cI (iL (ac 5))) (ac 8)) (dSl (ac 4) (iL (dOp aP (ac 5) (dC (.int 1)))) cI)) (dC (.bl true))))
def oR:DTS:=aF (oo (iK (aa (dC (.int 1)) (aa (ac 1) ag))) (ax 7) (aF (bq (dOp qIx (ac 2) (dOp vK (dOp aP (dMs ka (ac 2) (aa (dOp qIx (ac 4) (ac 5)) ag)) (ac 7)) (dC (.int 26)))) 8) (oQ))) (oP)
def oS:DTS:=aF (bq (qQ 4 true) 6) (oR)
def oU:DTS:=aF (bq (dCB ar (aa (ac 0) (aa (dCB eP (aa (ac 4) ag)) ag))) 5) (oS)
def oV:DTS:=aF (bq (dCB iM (aa (ac 0) ag)) 4) (oU)
def oW:DTS:=aF (bq (dCB ar (aa (ac 0) (aa (dC (.int 3)) ag))) 3) (oV)
def xc:DTS:=aF (bq (dC (.str "abcdefghijklmnopqrstuvwxyz")) 2) (oW)
theorem Av:WpT dP 9 xc:=by
 rintro ds M R ⟨n,m,c,rfl,m1,m4,hn,h⟩
 have nM:n<M.length:=(AA3.mp hn).1
 have hz:(AA1 "abcdefghijklmnopqrstuvwxyz").length<=sizeLine:=by decide +kernel
 simp only[xc,oW,oV,oU,oS]
 walk_at "dl"
 refine⟨n,c,3,rfl,hn,by decide,by decide,λway c1 w0 w3=>?_⟩
 refine⟨n,c1,rfl,aQ hn,λbase B1 hbase wm1=>?_⟩
 obtain⟨b1,b8,bs⟩:=id hbase
 have wm1:WM M n B1:=WM.drawn.trans hn wm1
 obtain⟨c2,hc2⟩:=wm1.get hn
 refine⟨aA (by lia),n,c2,base.length,rfl,hc2,by lia,by lia,λat_ c3 a0 a1=>?_⟩
 have wm2:WM M n (B1.set n (ah c3)):=wm1.set hn _
 generalize B1.set n (ah c3)=B2 at wm2
 have q0:M.length<=B2.length:=wm2.len
 obtain⟨at',rfl⟩:∃k:Nat,at_=(k:Int):=⟨at_.toNat,by lia⟩
 have ha:at' < base.length:=by lia
 have hac:at' < base.cps.toList.length:=by rw[<-aC];exact ha
 simp only[oR]
 walk_at "dl"
 refine⟨⟨by lia,by lia,by lia,by lia⟩,?_⟩
 generalize hq:B2.length=q at q0
 refine bY (λi S M'=>∃(kvs:List (Str×D)) (a b:Option D),WdOk kvs/\1<=kvs.length/\kvs.length<=i+1/\WM M n M'/\M'[q]?=some (.dct kvs)/\S=[some (.ref n),some (.int m),some (.str (AA1 "abcdefghijklmnopqrstuvwxyz")),some (.int way),some (.str base),some (.int (at':Int)),some (.ref q),a,b]) ?_ ?_ ⟨[(base,.bl true)],_,_,⟨by simp,by simp[hbase]⟩,by simp,by simp,wm2.app _,by rw[<-hq];simp,rfl⟩
 ·rintro S M' ⟨kvs,a,b,ok,k1,k4,wm,hk,rfl⟩
  rw[dD]at k4
  refine⟨trivial,?_⟩
  simp only[oP]
  walk_at "dl"
  unfold gG
  refine⟨(kvs.map (·.1)).map .str,.inr ⟨kvs,hk,by rw[AAd];rfl⟩,vG (by rw[AA4];lia),λys hys hrise=>?_⟩
  obtain⟨xs,rfl,hxs⟩:=yg hys
  have xl:xs.length=kvs.length:=by rw[hxs.length_eq,AA4]
  refine .inl (h xs M' (by lia) (by lia) (λx hx=>?_) ⟨hxs.nodup_iff.mpr ok.nd,xW hrise⟩ wm)
  obtain⟨p,hp,rfl⟩:=AAI.mp (hxs.mem_iff.mp hx)
  exact ok.ok p hp
 ·rintro i y S M' hy ⟨kvs,a,b,ok,k1,k4,wm,hk,rfl⟩ G hG
  obtain⟨hi,rfl⟩:=gz.mp hy
  have hi3:i<3:=by lia
  refine⟨trivial,?_⟩
  walk_at "dl"
  have hch:=bs _ (AAf hac)
  have e1:atI base.cps.toList (at':Int)=some base.cps.toList[at']:=aM (AA5 hac)
  refine⟨aA (by lia),?_⟩
  rw[e1]
  generalize base.cps.toList[at']=ch at hch
  obtain⟨oi,orest,ho⟩:∃(i:Nat) (bm:List Nat),ACZ (AA1 "abcdefghijklmnopqrstuvwxyz") ⟨#[ch]⟩ 0 (AA1 "abcdefghijklmnopqrstuvwxyz").length 1=i::bm:=by
   have f:=StrLaws.found_one (AA1 "abcdefghijklmnopqrstuvwxyz") ch
   have hl:(AA1 "abcdefghijklmnopqrstuvwxyz").cps.toList=(AAg 26).map (· + 97):=by decide +kernel
   have hm:ch∈(AA1 "abcdefghijklmnopqrstuvwxyz").cps.toList:=by
    rw[hl]
    exact AAI.mpr ⟨ch-97,ABK.mpr (by lia),by lia⟩
   rw[dT_ hm]at f
   cases e:ACZ (AA1 "abcdefghijklmnopqrstuvwxyz") ⟨#[ch]⟩ 0 (AA1 "abcdefghijklmnopqrstuvwxyz").length 1 with
   | nil=>rw[e]at f;cases f
   | cons i r=>exact⟨i,r,rfl⟩
  refine⟨oi,orest,ho,by decide,hz,?_⟩
  obtain⟨c4,e4,hc4⟩:=uV (i:=((oi:Int)+(1+(i:Int))) % 26) (ADz _ (by decide)) (ADI _ (by decide))
  rw[e4]
  have put:∀(x:Str) (B:Mem) (a b:Option D),eY x->WM M n B->B[q]?=some (.dct kvs)->G [some (.ref n),some (.int m),some (.str (AA1 "abcdefghijklmnopqrstuvwxyz")),some (.int way),some (.str base),some (.int (at':Int)),some (.ref q),a,b] (B.set q (.dct (uz kvs x (.bl true)))):=λx B a b hx w hk=>by
   have pl:=AR (kvs:=kvs) (k:=x) (d:=.bl true)
   exact hG _ _ ⟨uz kvs x (.bl true),a,b,⟨yb ok.nd,AS ok.ok hx⟩,pl.2,by lia,w.hi q0,ABD (AA3.mp hk).1,rfl⟩
  simp only[oQ]
  walk_at "dl"
  refine⟨⟨au,au⟩,?_⟩
  cases eqD M' eqN (.int way) (.int 0) with
  | true =>
   refine bu ?_
   obtain⟨c5,hc5⟩:=wm.get hn
   refine⟨n,c5,rfl,hc5,λx B hx w=>?_⟩
   have hkB:B[q]?=some (.dct kvs):=w.other (by lia) hk
   exact⟨kvs,hkB,small1000 (by lia),Fgt.now (put x B _ _ hx (wm.trans hn w) hkB)⟩
  | false =>
   refine bp ⟨⟨au,au⟩,?_⟩
   have s1:(ABP base none (some (at':Int))).length<=8:=by have:=Txt.slice_le base none (some (at':Int));lia
   have s2:(ABP base (some ((at':Int)+1)) none).length<=8:=by have:=Txt.slice_le base (some ((at':Int)+1)) none;lia
   have hbl:=aC (a:=base)
   have nm3:eY (ABP base none (some (at':Int))++⟨#[c4]⟩++ABP base (some ((at':Int)+1)) none):=by
    have e:(ABP base none (some (at':Int))++⟨#[c4]⟩++ABP base (some ((at':Int)+1)) none).cps.toList=base.cps.toList.take at'++[c4]++base.cps.toList.drop (at'+1):=by
     have e2:=vH base (at'+1) (by lia)
     rw[show ((at'+1:Nat):Int)=(at':Int)+1 by lia]at e2
     rw[bz,bz,mR,e2]
    refine iW e (by simp;lia) (by rw[AA9,AA9,AAe,ABe,AAb];lia) λc hc=>?_
    rcases AAL.mp hc with hc | hc
    ·rcases AAL.mp hc with hc | hc
     ·exact bs c (ADg hc)
     ·rw[AAP.mp hc];exact hc4
    ·exact bs c (List.mem_of_mem_drop hc)
   have third:base.length<=sizeLine/\(ABP base none (some (at':Int))).length+(⟨#[c4]⟩:Str).length<=sizeLine/\base.length<=sizeLine/\(ABP base none (some (at':Int))++⟨#[c4]⟩).length+(ABP base (some ((at':Int)+1)) none).length<=sizeLine /\
     ∃kvs,M'[q]?=some (MO.dct kvs)/\kvs.length<sizeLine/\Fgt (B2++[MO.dct [(base,D.bl true)]]) G [some (D.ref n),some (D.int m),some (D.str (AA1 "abcdefghijklmnopqrstuvwxyz")),some (D.int way),some (D.str base),some (D.int (at':Int)),some (D.ref q),some (D.int (1+(i:Int))),some (D.str ⟨#[c4]⟩)] (List.set M' q (MO.dct (uz kvs (ABP base none (some (at':Int))++⟨#[c4]⟩++ABP base (some ((at':Int)+1)) none) (D.bl true)))) :=
    ⟨aA (by lia),by rw[yw];exact aA (by lia),aA (by lia),by rw[GH,yw];exact aA (by lia),kvs,hk,small1000 (by lia),Fgt.now (put _ M' _ _ nm3 wm hk)⟩
   cases eqD M' eqN (.int way) (.int 1) with
   | false=>exact bp third
   | true =>
    refine bu ⟨aA (by lia),?_⟩
    by_cases h9:(base.length:Int)+(1+(i:Int))<9
    ·rw[dT_ h9]
     have e3:(ABP (AA1 "abc") none (some (1+(i:Int)))).cps.toList=(AA1 "abc").cps.toList.take (1+i):=by
      have:=mR (AA1 "abc") (1+i)
      rwa [show ((1+i:Nat):Int)=1+(i:Int) by lia]at this
     have habc:(AA1 "abc").cps.toList=[97,98,99]:=by decide +kernel
     rw[habc]at e3
     have l3:(ABP (AA1 "abc") none (some (1+(i:Int)))).length=1+i:=by
      rw[aC,e3,AAe];simp;lia
     refine bu ⟨by decide +kernel,aA (by lia),kvs,hk,small1000 (by lia),Fgt.now (put _ M' _ _ ?_ wm hk)⟩
     refine iW (l:=base.cps.toList++[97,98,99].take (1+i)) (by rw[bz,e3]) (by rw[AA9];lia) (by rw[AA9,AAe,<-hbl];have:min (1+i) ([97,98,99]:List Nat).length<=1+i:=Nat.min_le_left ..;lia) λc hc=>?_
     rcases AAL.mp hc with hc | hc
     ·exact bs c hc
     ·have:=ADg hc
      simp at this
      lia
    ·rw[dF_ h9]
     exact bp third
theorem Bg(T:Tops P w K mg base):Cal P w K mg base 3 "_law_words" rX dP :=
 Cal.byD (N:=["_law_well_here","_law_many","_law_letters","_law_way","_law_base","_law_at","_law_words_here","_law_k","_law_sign"]) T.b T.f_words (by walk_at "sc") yU (by have:=cf T;have:=yy T;walk_at "dv") Av
structure HouseW(ps:List (Str×Int))(rs:List (Str×List Str)):Prop where
 nd:(ps.map (·.1)).Nodup
 len:1<=ps.length/\ps.length<=4
 many:∀p∈ps,1<=p.2/\p.2<=3
 nm:∀p∈ps,eY p.1
 up:(ps.map (·.1)).Pairwise λa b=>bv b a=false
 rl:1<=rs.length/\rs.length<=4
 rn:∀r∈rs,eY r.1
 rnd:(rs.map (·.1)).Nodup
 rup:(rs.map (·.1)).Pairwise λa b=>bv b a=false
 mem:∀r∈rs,r.2≠[]/\r.2.Sublist (ps.map (·.1))
def ju:DSp:=λds M R=>∃(n:Nat) (c:Int),ds=[.ref n]/\M[n]?=some (ah c)/\∀ps rs B,HouseW ps rs->WM M n B->R (aZ ps rs) B
theorem yX:bQ ju se:=by rintro ds M R ⟨n,c,rfl,_⟩;rfl
theorem uE(hL:ao M n xs)(ok:∀x∈xs,okD (M++[MO.lst []]) 29 x=true):(okD (M++[MO.lst []]) eqN (.ref n)=true/\okD (M++[MO.lst []]) eqN (.ref M.length)=true)/\eqD (M++[MO.lst []]) eqN (.ref n) (.ref M.length)=xs.isEmpty:=by
 have h1:ao (M++[MO.lst []]) n xs:=hL.more _
 have h2:ao (M++[MO.lst []]) M.length []:=ak
 refine⟨⟨yG (n:=29) h1 ok,yG (n:=29) h2 λ_ z=>nomatch z⟩,?_⟩
 exact(Cd (n:=29) h1 h2).trans FZ
theorem bi(h:m≠n)(l:ao M m xs):ao (M.set n x) m xs:=by
 rcases l with l | l | l
 ·exact .inl (by rw[AAq (AAt h)];exact l)
 ·exact .inr (.inl (by rw[AAq (AAt h)];exact l))
 ·exact .inr (.inr (by rw[AAq (AAt h)];exact l))
theorem bU{B:Mem}{q:Nat}{x a:MO}(h:B[q]?=some x):(B++[a])[q]?=some x:=by
 rw[AAJ (AA3.mp h).1];exact h
def pr:DTS:=aX (iJ (aa (dCB cy (aa (ac 1) ag)) (aa (dCB cy (aa (ac 3) ag)) ag)))
def jP:DTS:=eU (dMl dF (ac 3) (aa (iJ (aa (ac 4) (aa (dCB cy (aa (ac 5) ag)) ag))) ag))
def pv:DTS:=aF (dIf (aB (dOp qEq (ac 5) (gW ag))) (bq (gW (aa (dOp qIx (dOp qIx (ac 1) (dCB ar (aa (ac 0) (aa (dCB eP (aa (ac 1) ag)) ag)))) (dC (.int 0))) ag)) 5) aR) (jP)
def pA:DTS:=aF (oo (bo (dCB dP (aa (ac 0) (aa (dOp aP (dC (.int 1)) (dCB ar (aa (ac 0) (aa (dC (.int 4)) ag)))) ag)))) (ax 4) (aF (kX 2 [0] (bo (ac 1)) (qL 2 (dn (ax 0) (dn (ax 1) qM))) (aB (dOp qGt (dCB ar (aa (ac 2) (aa (dC (.int 4)) ag))) (dC (.int 0)))) (ac 0) 5) (pv))) (pr)
def jQ:DTS:=aF (bq (gW ag) 3) (pA)
def pD:DTS:=aF (oo (bo (dCB dP (aa (ac 0) (aa (dOp aP (dC (.int 1)) (dCB ar (aa (ac 0) (aa (dC (.int 4)) ag)))) ag)))) (ax 2) (eU (dMl dF (ac 1) (aa (iJ (aa (ac 2) (aa (dOp aP (dC (.int 1)) (dCB ar (aa (ac 0) (aa (dC (.int 3)) ag)))) ag))) ag)))) (jQ)
def xA:DTS:=aF (bq (gW ag) 1) (pD)
theorem sU{M M':Mem}{R:DK}{n:Nat}{c:Int}{xs:List Str}{ps:List (Str×Int)}{a:Option D}(hn:M[n]?=some (ah c))(h:∀ps rs B,HouseW ps rs->WM M n B->R (aZ ps rs) B)(wm:WM M n M')(gp:M'[M.length]?=some (.lst (ps.map aG)))(hps:ps.map (·.1)=xs)(hmany:∀p∈ps,1<=p.2/\p.2<=3)(x1:1<=xs.length)(x4:xs.length<=4)(xn:∀x∈xs,eY x)(xnd:xs.Nodup)(xup:xs.Pairwise λa b=>bv b a=false) :
  jQ (EE M R) [some (.ref n),some (.ref M.length),a,none,none,none] M':=by
 have nM:n<M.length:=(AA3.mp hn).1
 have pl:ps.length=xs.length:=by rw[<-hps,AA4]
 have mq:=aE gp
 simp only[jQ,pA]
 walk_at "dl"
 obtain⟨c1,hc1⟩:=(wm.app [MO.lst []]).get hn
 refine⟨AAV _,n,c1,4,rfl,hc1,by decide,by decide,λi c2 i0 i4=>?_⟩
 obtain⟨m,hm⟩:∃k:Nat,(k:Int)=1+i:=⟨(1+i).toNat,by lia⟩
 have wm0:WM M n ((M'++[MO.lst []]).set n (ah c2)):=(wm.app _).set hn _
 have gr0:((M'++[MO.lst []]).set n (ah c2))[M'.length]?=some (.lst []):=am (by lia) aq
 have gp0:((M'++[MO.lst []]).set n (ah c2))[M.length]?=some (.lst (ps.map aG)):=am (by lia) (bU gp)
 generalize (M'++[MO.lst []]).set n (ah c2)=B0 at wm0 gr0 gp0
 generalize M'.length=rq at gr0 mq
 obtain⟨c3,hc3⟩:=wm0.get hn
 show dP [D.ref n,D.int (1+i)] B0 _
 rw[<-hm]
 refine⟨n,m,c3,rfl,by lia,by lia,hc3,?_⟩
 rintro ys B1 y1 y4 yn ⟨ynd,yup⟩ w1
 have wm1:WM M n (B1++[.lst (ys.map .str)]):=(wm0.trans hn w1).app _
 have gr1:(B1++[.lst (ys.map .str)])[rq]?=some (.lst []):=bU (w1.other (by lia) gr0)
 have gp1:(B1++[.lst (ys.map .str)])[M.length]?=some (.lst (ps.map aG)):=bU (w1.other (by lia) gp0)
 have ly1:ao (B1++[.lst (ys.map .str)]) B1.length (ys.map .str):=ak
 have wl:rq<B1.length:=aE (w1.other (by lia) gr0)
 generalize B1++[MO.lst (ys.map .str)]=C1 at wm1 gr1 gp1 ly1
 generalize B1.length=wq at ly1 wl
 refine⟨_,ly1,λ_=>?_⟩
 refine bY (λi S M'=>∃(rs:List (Str×List Str)) (a b d:Option D),rs.map (·.1)=ys.take i/\(∀r∈rs,r.2≠[]/\r.2.Sublist xs)/\WM M n M'/\M'[M.length]?=some (.lst (ps.map aG))/\M'[rq]?=some (.lst (rs.map bB))/\ao M' wq (ys.map .str)/\S=[some (.ref n),some (.ref M.length),a,some (.ref rq),b,d]) ?_ ?_ ⟨[],_,_,_,rfl,(λ_ z=>nomatch z),wm1,gp1,gr1,ly1,rfl⟩
 ·rintro S M2 ⟨rs,a,b,d,hrs,hmem,wm,gp,gr,ly,rfl⟩
  rw[AA4,ABQ]at hrs
  have rl:rs.length=ys.length:=by rw[<-hrs,AA4]
  refine⟨ly,?_⟩
  simp only[pr]
  walk_at "dl"
  refine⟨_,.inl gp,_,.inl gr,aA (by lia),.inl (h ps rs M2 ⟨by rw[hps];exact xnd,by lia,hmany,λp hp=>xn _ (by rw[<-hps];exact ABI hp),by rw[hps];exact xup,by lia,λr hr=>yn _ (by rw[<-hrs];exact ABI hr),by rw[hrs];exact ynd,by rw[hrs];exact yup,λr hr=>by rw[hps];exact hmem r hr⟩ wm)⟩
 ·rintro i y S M2 hy ⟨rs,a,b,d,hrs,hmem,wm,gp,gr,ly,rfl⟩ G hG
  rw[AAU]at hy
  obtain⟨x,hx,rfl⟩:=ABg.mp hy
  refine⟨ly,?_⟩
  have hil:i<ys.length:=(AA3.mp hx).1
  have rl:rs.length=i:=by
   have:=congrArg ACV hrs
   rw[AA4,AAe]at this
   lia
  have fin:∀(E:DEnds) (B:Mem) (k:Nat) (ms:List Str) (a:Option D),E.nx=Fgt C1 G->ms≠[]->ms.Sublist xs->WM M n B->B[M.length]?=some (.lst (ps.map aG))->B[rq]?=some (.lst (rs.map bB))->ao B wq (ys.map .str)->ao B k (ms.map .str) ->
    jP E [some (.ref n),some (.ref M.length),a,some (.ref rq),some (.str x),some (.ref k)] B:=λE B k ms a hE m0 ms1 wm gp gr ly lm=>by
   simp only[jP]
   walk_at "dl"
   refine⟨⟨_,.inl gr⟩,_,lm,aA (by lia),_,gr,by rw[AA4];exact small1000 (by lia),?_⟩
   rw[hE]
   refine Fgt.now (hG _ _ ⟨rs++[(x,ms)],_,_,_,?_,λr hr=>?_,wm.hi (by lia),am (by lia) gp,?_,bi (by lia) ly,rfl⟩)
   ·rw[AAh,hrs,ABA,hx];rfl
   ·rcases AAL.mp hr with hr | hr
    ·exact hmem r hr
    ·rw[AAP.mp hr];exact⟨m0,ms1⟩
   ·rw[aQ gr]
    simp[bB]
  walk_at "dl"
  refine⟨_,.inl gp,λ_=>?_⟩
  refine cq (λzs acc S M3=>∃(j:Nat) (ms:List Str) (a b:Option D),zs=(ps.map aG).drop j/\acc=ms.map .str/\ms.Sublist (xs.take j)/\WM M n M3/\M3[M.length]?=some (.lst (ps.map aG))/\M3[rq]?=some (.lst (rs.map bB))/\ao M3 wq (ys.map .str)/\S=[a,b,some (.ref n)]) ?_ ?_ _ _ _ _ ⟨0,[],_,_,rfl,rfl,List.nil_sublist _,wm,gp,gr,ly,rfl⟩
  ·rintro acc S M3 ⟨j,ms,a,b,_,rfl,hsub0,wm,gp,gr,ly,rfl⟩
   have hsub:ms.Sublist xs:=hsub0.trans (ADM _ _)
   refine⟨.inl gp,?_⟩
   have l4:ao (M3++[MO.lst (ms.map .str)]) M3.length (ms.map .str):=ak
   have gp4:=bU (a:=MO.lst (ms.map .str)) gp
   have gr4:=bU (a:=MO.lst (ms.map .str)) gr
   have ly4:=ly.more [MO.lst (ms.map .str)]
   have wm4:=wm.app [MO.lst (ms.map .str)]
   generalize M3++[MO.lst (ms.map .str)]=M4 at l4 gp4 gr4 ly4 wm4
   generalize M3.length=k at l4
   simp only[pv]
   walk_at "dl"
   obtain⟨okk,enil⟩:=uE (M:=M4) l4 λy hy=>by obtain⟨z,_,rfl⟩:=AAI.mp hy;exact aJ
   refine⟨AAV _,okk,?_⟩
   rw[enil]
   cases hms:(ms.map D.str).isEmpty with
   | false =>
    refine bp (fin _ _ k ms _ rfl (λz=>by rw[z]at hms;cases hms) hsub (wm4.app _) (bU gp4) (bU gr4) (ly4.more _) (l4.more _))
   | true =>
    refine bu ?_
    obtain⟨c5,hc5⟩:=(wm4.app [MO.lst []]).get hn
    refine⟨_,.inl (bU gp4),n,c5,_,rfl,hc5,by rw[AA4];lia,by rw[AA4];lia,λv c6 v0 v1=>⟨_,.inl (am (by lia) (bU gp4)),?_⟩⟩
    obtain⟨j,hj,ej,_⟩:=er (xs:=ps.map aG) v0 v1
    rw[ej,AC8]
    rw[AA4]at hj
    simp only[aG]
    walk_at "dl"
    have hxm:(ps[j]).1∈xs:=by rw[<-hps];exact ABI (AAf hj)
    refine⟨aA (by lia),?_⟩
    refine fin _ _ _ [(ps[j]).1] _ rfl (by simp) (List.singleton_sublist.mpr hxm) (((wm4.app _).set hn _).app _) (bU (am (by lia) (bU gp4))) (bU (am (by lia) (bU gr4))) ((bi (by lia) (ly4.more _)).more _) ak
  ·rintro y zs acc S M3 ⟨j,ms,a,b,hz,rfl,hsub,wm,gp,gr,ly,rfl⟩ K hK
   have hj:j<(ps.map aG).length:=by
    refine Classical.byContradiction λz=>?_
    rw[ADK (by lia)]at hz
    cases hz
   rw[List.drop_eq_getElem_cons hj]at hz
   injection hz with e1 e2
   subst e1
   refine⟨.inl gp,?_⟩
   rw[AC8]
   have hj2:j<ps.length:=by rw[AA4]at hj;exact hj
   have hjx:j<xs.length:=by lia
   have ex:(ps[j]).1=xs[j]:=by
    have e:(ps.map (·.1))[j]?=xs[j]?:=by rw[hps]
    rw[AAU,AA5 hj2,AA5 hjx]at e
    exact AAW e
   simp only[aG]
   obtain⟨c5,hc5⟩:=wm.get hn
   walk_at "dl"
   refine⟨trivial,n,c5,4,rfl,hc5,by decide,by decide,λv c6 v0 v4=>?_⟩
   have ml:=hsub.length_le
   rw[AAe]at ml
   dsimp only
   by_cases hv:0<v
   ·rw[dT_ hv]
    refine bu ⟨by rw[AA4];exact small1000 (by lia),hK _ _ _ ⟨j+1,ms++[(ps[j]).1],_,_,e2,by simp,?_,wm.set hn _,am (by lia) gp,am (by lia) gr,bi (by lia) ly,rfl⟩⟩
    rw[ex,ABA,AA5 hjx]
    exact hsub.append (List.Sublist.refl _)
   ·rw[dF_ hv]
    refine bp (hK _ _ _ ⟨j+1,ms,_,_,e2,rfl,?_,wm.set hn _,am (by lia) gp,am (by lia) gr,bi (by lia) ly,rfl⟩)
    rw[ABA]
    exact hsub.trans (List.sublist_append_left _ _)
theorem Ay:WpT ju 6 xA:=by
 rintro ds M R ⟨n,c,rfl,hn,h⟩
 have nM:n<M.length:=(AA3.mp hn).1
 simp only[xA,pD]
 walk_at "dl"
 have hn1:(M++[MO.lst []])[n]?=some (ah c):=by rw[AAJ nM];exact hn
 have wmA:WM M n (M++[MO.lst []]):=(WM.now hn).app _
 refine⟨AAV _,n,c,4,rfl,hn1,by decide,by decide,λi c1 i0 i4=>?_⟩
 obtain⟨m,hm⟩:∃k:Nat,(k:Int)=1+i:=⟨(1+i).toNat,by lia⟩
 have wm0:WM M n ((M++[MO.lst []]).set n (ah c1)):=wmA.set hn _
 have g0:((M++[MO.lst []]).set n (ah c1))[M.length]?=some (.lst []):=am (by lia) aq
 generalize (M++[MO.lst []]).set n (ah c1)=B0 at wm0 g0
 obtain⟨c2,hc2⟩:=wm0.get hn
 show dP [D.ref n,D.int (1+i)] B0 _
 rw[<-hm]
 refine⟨n,m,c2,rfl,by lia,by lia,hc2,?_⟩
 rintro xs B1 x1 x4 xn ⟨xnd,xup⟩ w1
 have wm1:WM M n (B1++[.lst (xs.map .str)]):=(wm0.trans hn w1).app _
 have g1:(B1++[.lst (xs.map .str)])[M.length]?=some (.lst []):=bU (w1.other (by lia) g0)
 have l1:ao (B1++[.lst (xs.map .str)]) B1.length (xs.map .str):=ak
 have wl:M.length<B1.length:=aE (w1.other (by lia) g0)
 generalize B1++[MO.lst (xs.map .str)]=C1 at wm1 g1 l1
 generalize B1.length=wq at l1 wl
 refine⟨_,l1,λ_=>?_⟩
 refine bY (λi S M'=>∃(ps:List (Str×Int)) (a:Option D),ps.map (·.1)=xs.take i/\(∀p∈ps,1<=p.2/\p.2<=3)/\WM M n M'/\M'[M.length]?=some (.lst (ps.map aG))/\ao M' wq (xs.map .str)/\S=[some (.ref n),some (.ref M.length),a,none,none,none]) ?_ ?_ ⟨[],_,rfl,(λ_ z=>nomatch z),wm1,g1,l1,rfl⟩
 ·rintro S M' ⟨ps,a,hps,hmany,wm,gp,lx,rfl⟩
  rw[AA4,ABQ]at hps
  refine⟨lx,?_⟩
  exact sU hn h wm gp hps hmany x1 x4 xn xnd xup
 ·rintro i y S M' hy ⟨ps,a,hps,hmany,wm,gp,lx,rfl⟩ G hG
  rw[AAU]at hy
  obtain⟨x,hx,rfl⟩:=ABg.mp hy
  refine⟨lx,?_⟩
  obtain⟨c3,hc3⟩:=wm.get hn
  walk_at "dl"
  refine⟨⟨_,.inl gp⟩,n,c3,3,rfl,hc3,by decide,by decide,λv c4 v0 v3=>⟨aA (by lia),_,am (by lia) gp,?_,?_⟩⟩
  ·have:=congrArg ACV hps
   rw[AA4,AAe]at this
   rw[AA4];exact small1000 (by lia)
  ·refine Fgt.now (hG _ _ ⟨ps++[(x,1+v)],_,?_,λp hp=>?_,(wm.set hn _).hi (AAC _),?_,bi (by lia) (bi (by lia) lx),rfl⟩)
   ·rw[AAh,hps,ABA,hx];rfl
   ·rcases AAL.mp hp with hp | hp
    ·exact hmany p hp
    ·rw[AAP.mp hp];dsimp only;lia
   ·rw[aQ (am (by lia) gp)]
    simp[aG]
theorem Bi(T:Tops P w K mg base):Cal P w K mg base 4 "_law_house" se ju :=
 Cal.byD (N:=["_law_well_here","_law_people","_law_name","_law_rooms","_law_room","_law_members"]) T.b T.f_house (by walk_at "sc") yX (by have:=cf T;have:=Bg T;walk_at "dv") Ay
noncomputable def cE(p:Str×Int):List D:=(mU 0 p.2.toNat).map λk=>.tup [.str p.1,k]
noncomputable def af(ps:List (Str×Int)):List D:=ps.flatMap cE
def Few(ps:List (Str×Int)):Prop:=ps.length<=4/\∀p∈ps,0<=p.2/\p.2<=3
def cr:DSp:=λds M R=>∃(ps:List (Str×Int)) (r:List D),ds=[.tup (.tup (ps.map aG)::r)]/\Few ps/\R (.ref M.length) (M++[.lst (af ps)])
theorem yY:bQ cr sf:=by rintro ds M R ⟨ps,r,rfl,_⟩;rfl
theorem fV:(cE p).length=p.2.toNat:=by simp[cE,mU]
theorem bI(h:∀p∈ps,0<=p.2/\p.2<=3):(af ps).length<=3*ps.length:=by
 induction ps with
 | nil=>simp[af]
 | cons p ps ih =>
  have:=ih λq hq=>h q (AA8 _ hq)
  have h1:=h p AAG
  have e:(af (p::ps)).length=p.2.toNat+(af ps).length:=by
   rw[af,List.flatMap_cons,AA9,fV];rfl
  rw[e,AAD]
  lia
theorem wt:Bels k (af ps):=Bels.of λd hd=>by
 unfold af at hd
 obtain⟨p,_,hp⟩:=List.mem_flatMap.mp hd
 unfold cE mU at hp
 simp only[AAd,List.mem_map]at hp
 obtain⟨i,_,rfl⟩:=hp
 exact .tup (.cons (.str _) (.cons (.int _) .nil))
theorem jr(h:d∈af ps):∃p∈ps,∃k:Nat,d=.tup [.str p.1,.int (k:Int)]/\k<p.2.toNat:=by
 unfold af at h
 obtain⟨p,hp,hd⟩:=List.mem_flatMap.mp h
 unfold cE at hd
 obtain⟨q,hq,rfl⟩:=AAI.mp hd
 obtain⟨i,hi⟩:=ACJ hq
 obtain⟨h1,rfl⟩:=gz.mp hi
 exact⟨p,hp,i,by rw[Int.zero_add],h1⟩
def pE:DTS:=aX (ac 1)
def pF:DTS:=aF (oo (bo (dOp qIx (ac 0) (dC (.int 0)))) (qL 2 (dn (ax 2) (dn (ax 3) qM))) (eU (dMl kg (ac 1) (aa (dLC 1 [2] (da (aa (ac 3) ag)) (ax 0) jm (iJ (aa (ac 1) (aa (ac 0) ag)))) ag)))) (pE)
def xB:DTS:=aF (bq (gW ag) 1) (pF)
theorem Az:WpT cr 4 xB:=by
 rintro ds M R ⟨ps,r,rfl,⟨h4,h3⟩,h⟩
 simp only[xB,pF]
 walk_at "dl"
 refine⟨AAV _,λ_=>?_⟩
 have hb:∀qs:List (Str×Int),(∀p∈qs,p∈ps)->qs.length<=4->(af qs).length<=12:=λqs h1 h2=>by
  have:=bI (ps:=qs) λp hp=>h3 p (h1 p hp)
  lia
 refine fi (λys S M'=>∃qs rs a b L,ps=qs++rs/\ys=rs.map aG/\M'=M++(.lst (af qs)::L)/\S=[some (.tup (.tup (ps.map aG)::r)),some (.ref M.length),a,b]) ?_ ?_ _ _ _ ⟨[],ps,_,_,[],rfl,rfl,rfl,rfl⟩
 ·rintro S M' ⟨qs,rs,a,b,L,e,hq,rfl,rfl⟩
  have:rs=[]:=by cases rs<;>simp_all
  subst this
  rw[AB8]at e
  subst e
  refine⟨trivial,?_⟩
  simp only[pE]
  walk_at "dl"
  exact aI.lst h (AAC _) (by simp) wt
 ·rintro x xs S M' ⟨qs,rs,a,b,L,e,hq,rfl,rfl⟩ G hG
  cases rs with
  | nil=>cases hq
  | cons p rs =>
   rw[AAH]at hq
   injection hq with e1 e2
   subst e1
   have hp:=h3 p (by rw[e];simp)
   refine⟨trivial,?_⟩
   unfold aG
   walk_at "dl"
   refine⟨trivial,⟨af qs,.inl (by simp)⟩,⟨by lia,by lia⟩,?_⟩
   refine aW (λk=>.tup [.str p.1,k]) (λS=>∃a,S=[a,some (.str p.1)]) trivial _ _ _ (λk hk S hS=>?_) ⟨_,rfl⟩ ?_ ?_
   ·obtain⟨a,rfl⟩:=hS
    refine⟨[some k,some (.str p.1)],⟨_,rfl⟩,λY hY=>?_⟩
    walk_at "dl"
    exact⟨aA (by lia),hY⟩
   ·simp only[AAS,dD]
    exact aA (by lia)
   ·have l0:ps.length=qs.length+(rs.length+1):=by rw[e];simp
    have l1:=hb qs (λq hq=>by rw[e];simp[hq]) (by lia)
    refine⟨af qs,cE p,by simp,by simp[cE],by simp,?_,?_⟩
    ·rw[fV];exact aA (by lia)
    ·refine Fgt.now (hG _ _ ⟨qs++[p],rs,_,_,L++[.lst (cE p)],by rw[e];simp,e2,?_,rfl⟩)
     have:af (qs++[p])=af qs++cE p:=by simp[af]
     rw[this,AAs,ABp,mT]
     rfl
theorem gL(T:Tops P w K mg base):Cal P w K mg base 1 "_law_hands" sf cr :=
 Cal.byD (N:=["_law_house_here","_law_hands_here","_law_name","_law_many"]) T.b T.f_hands (by walk_at "sc") yY (by walk_at "dv") Az
def oq(c:Nat):Prop:=32<=c/\c<=126
def SayS(x:Str):Prop:=1<=x.length/\x.length<=60/\∀c∈x.cps.toList,oq c
def PcS(x:Str):Prop:=1<=x.length/\x.length<=10/\∀c∈x.cps.toList,oq c
theorem AI(z:Str):∀{xs:List Str},(∀x∈xs,1<=x.length)->1<=xs.length->1<=(AE8 z xs).length
 | [],_,h=>by simp at h
 | [x],h,_=>h x (by simp)
 | x::y::r,h,_=>by
  have:=h x (by simp)
  show 1<=((x++z)++AE8 z (y::r)).length
  rw[aC,bz,bz,AA9,AA9,<-aC]
  lia
theorem pN(z:Str):∀{xs:List Str},c∈(AE8 z xs).cps.toList->c∈z.cps.toList\/∃x∈xs,c∈x.cps.toList
 | [],h=>nomatch h
 | [x],h=>.inr ⟨x,by simp,h⟩
 | x::y::r,h=>by
  have h:c∈((x++z)++AE8 z (y::r)).cps.toList:=h
  rw[bz,bz,AAL,AAL]at h
  rcases h with(h | h) | h
  ·exact .inr ⟨x,by simp,h⟩
  ·exact .inl h
  ·rcases pN z h with h | ⟨w,hw,h⟩
   ·exact .inl h
   ·exact .inr ⟨w,AA8 _ hw,h⟩
theorem Hq(h1:1<=xs.length)(hz:∀c∈z.cps.toList,oq c)(hx:∀x∈xs,PcS x):SayS (ABP (AEI z xs) none (some 60)):=by
 have e:(ABP (AEI z xs) none (some 60)).cps.toList=(AE8 z xs).cps.toList.take 60:=by
  rw[show (some (60:Int))=some ((60:Nat):Int)from rfl,mR]
  unfold AEI
  rw[ADb]
 have g:=AI z (λx hx'=>(hx x hx').1) h1
 rw[aC]at g
 refine⟨by rw[aC,e,AAe];lia,by rw[aC,e,AAe];lia,λc hc=>?_⟩
 rw[e]at hc
 rcases pN z (ADg hc)with h | ⟨x,hx',h⟩
 ·exact hz c h
 ·exact(hx x hx').2.2 c h
def eV:DSp:=λds M R=>∃(n:Nat) (c:Int) (p:Str×Int) (ps:List (Str×Int)) (r:List D),ds=[.ref n,.tup (.tup ((p::ps).map aG)::r)]/\M[n]?=some (ah c)/\Few (p::ps)/\(∀q∈p::ps,eY q.1)/\∀(x:Str) (B:Mem),SayS x->WM M n B->R (.str x) B
theorem wc:bQ eV mY:=by rintro ds M R ⟨n,c,p,ps,r,rfl,_⟩;rfl
theorem CV:∀xs:List Str,(∀x∈xs,x.length<=k)->(xs.map (λx=>x.length)).sum<=k*xs.length
 | [],_=>AAV _
 | x::r,h=>by
  have ih:=CV r λy hy=>h y (AA8 _ hy)
  have h0:=h x (by simp)
  rw[AAH,List.sum_cons,AAD,Nat.mul_succ]
  lia
theorem uv(z:Str):∀xs:List Str,(AE8 z xs).length<=(xs.map (λx=>x.length)).sum+xs.length*z.length
 | []=>AAV _
 | [x]=>by
  show x.length<=x.length+0+1*z.length
  lia
 | x::y::r=>by
  have ih:=uv z (y::r)
  show ((x++z)++AE8 z (y::r)).length<=_
  rw[aC,bz,bz,AA9,AA9,<-aC,<-aC,<-aC,AAH,List.sum_cons,AAD,Nat.succ_mul]
  lia
theorem FD(z:Str)(xs:List Str):(AEI z xs).length<=(xs.map (λx=>x.length)).sum+xs.length*z.length:=by
 unfold AEI
 rw[ADb]
 exact uv z xs
def lJ:DTS:=aX (dSl (dMs rU (dOp qIx (ac 2) (dCB ar (aa (ac 0) (aa (dC (.int 12)) ag)))) (aa (ac 5) ag)) cI (iL (dC (.int 60))))
def lK:DTS:=aF (kX 1 [4,0] (da (aa (dOp aP (dC (.int 1)) (dCB ar (aa (ac 0) (aa (dC (.int 4)) ag)))) ag)) (ax 0) jm (dOp qIx (ac 1) (dCB ar (aa (ac 2) (aa (dCB eP (aa (ac 1) ag)) ag)))) 5) (lJ)
def ie:DTS:=aF (dIf (aB (dOp qEq (dCB ar (aa (ac 0) (aa (dC (.int 3)) ag))) (dC (.int 0)))) (aX (dMs rU (dC (.str "")) (aa (dLC 1 [3,0] (da (aa (dOp aP (dC (.int 1)) (dCB ar (aa (ac 0) (aa (dC (.int 60)) ag)))) ag)) (ax 0) jm (dOp qIx (ac 1) (dCB ar (aa (ac 2) (aa (dC (.int 94)) ag))))) ag))) aR) (lK)
def lM:DTS:=aF (bq (dOp aP (dLC 2 [] (bo (dOp qIx (ac 1) (dC (.int 0)))) (qL 2 (dn (ax 0) (dn (ax 1) qM))) jm (dOp aP (dC (.str "@")) (ac 0))) (gW (aa (dC (.str "hi")) (aa (dC (.str "a")) (aa (dOp aP (dOp aP (dC (.str "@")) (dOp qIx (dOp qIx (dOp qIx (ac 1) (dC (.int 0))) (dC (.int 0))) (dC (.int 0)))) (dC (.str "x"))) ag))))) 4) (ie)
def lN:DTS:=aF (bq (dC (.str " !\"#$&'()*+,-./0123456789:;<=>?@ABCDEFGHIJKLMNOPQRSTUVWXYZ[\\]^_`abcdefghijklmnopqrstuvwxyz{|}~")) 3) (lM)
def tS:DTS:=aF (bq (dC (.str " @abz.,Z0~!-")) 2) (lN)
theorem AK{M B:Mem}{R:DK}{n k:Nat}{c:Int}{sg ev:Str}{y1:Option D}{xs:List Str}(hn:M[n]?=some (ah c))(hs:sg.cps.toList.length=12)(he:ev.cps.toList.length=94)(hsp:∀c∈sg.cps.toList,oq c)(hep:∀c∈ev.cps.toList,oq c)(hx:∀x∈xs,PcS x)(x1:1<=xs.length)(x9:xs.length<=9)(wm:WM M n B)(hk:B[k]?=some (.lst (xs.map .str)))(kn:k≠n)(h:∀(x:Str) (B:Mem),SayS x->WM M n B->R (.str x) B) :
  ie (EE M R) [some (.ref n),y1,some (.str sg),some (.str ev),some (.ref k),none] B:=by
 have sl:sg.length=12:=by rw[aC];exact hs
 have el:ev.length=94:=by rw[aC];exact he
 simp only[ie]
 walk_at "dl"
 obtain⟨c1,hc1⟩:=wm.get hn
 refine⟨n,c1,3,rfl,hc1,by decide,by decide,λi c2 i0 i3=>⟨⟨au,au⟩,?_⟩⟩
 have wm2:WM M n (B.set n (ah c2)):=wm.set hn _
 have hk2:(B.set n (ah c2))[k]?=some (.lst (xs.map .str)):=am kn hk
 generalize B.set n (ah c2)=B2 at wm2 hk2
 obtain⟨c3,hc3⟩:=wm2.get hn
 cases eqD B2 eqN (.int i) (.int 0) with
 | true =>
  refine bu ⟨n,c3,60,rfl,hc3,by decide,by decide,λj c4 j0 j60=>⟨⟨by lia,by lia⟩,?_⟩⟩
  have wm4:WM M n (B2.set n (ah c4)):=wm2.set hn _
  refine cq (λys acc S M'=>∃(cs:List Nat) (a:Option D),acc=(cs.map one).map .str/\(∀c∈cs,oq c)/\cs.length+ys.length=(1+j).toNat/\WM M n M'/\S=[a,some (.str ev),some (.ref n)]) ?_ ?_ _ _ _ _ ⟨[],_,rfl,(λ_ z=>nomatch z),by rw[dD];simp,wm4,rfl⟩
  ·rintro acc S M' ⟨cs,a,rfl,hcs,hl,wm,rfl⟩
   simp only[AAS,Nat.add_zero]at hl
   refine⟨trivial,cs.map one,ak,?_,.inl (h _ _ ⟨by rw[aC,dj];lia,by rw[aC,dj];lia,by rw[dj];exact hcs⟩ (wm.app _))⟩
   rw[mQ,AA4,show (AA1 "").length=0 by decide +kernel];lia
  ·rintro y ys acc S M' ⟨cs,a,rfl,hcs,hl,wm,rfl⟩ K hK
   refine⟨trivial,?_⟩
   obtain⟨w,hw⟩:=wm.get hn
   walk_at "dl"
   refine⟨n,w,94,rfl,hw,by decide,by decide,λv c5 v0 v94=>⟨aA (by lia),?_⟩⟩
   obtain⟨jn,hj,ej,_⟩:=er (xs:=ev.cps.toList) v0 (by rw[he];exact v94)
   rw[ej]
   rw[AAD]at hl
   exact⟨by rw[AA4,AA4];exact small1000 (by lia),hK _ _ _ ⟨cs++[ev.cps.toList[jn]],_,by simp[one],λc hc=>(AAL.mp hc).elim (hcs c) λq=>by rw[AAP.mp q];exact hep _ (AAf hj),by rw[AA9,AAb];lia,wm.set hn _,rfl⟩⟩
 | false =>
  refine bp ?_
  simp only[lK]
  walk_at "dl"
  refine⟨n,c3,4,rfl,hc3,by decide,by decide,λj c4 j0 j4=>⟨⟨by lia,by lia⟩,?_⟩⟩
  have wm4:WM M n (B2.set n (ah c4)):=wm2.set hn _
  have hk4:(B2.set n (ah c4))[k]?=some (.lst (xs.map .str)):=am kn hk2
  refine cq (λys acc S M'=>∃(zs:List Str) (a:Option D),acc=zs.map .str/\(∀z∈zs,PcS z)/\zs.length+ys.length=(1+j).toNat/\WM M n M'/\M'[k]?=some (.lst (xs.map .str))/\S=[a,some (.ref k),some (.ref n)]) ?_ ?_ _ _ _ _ ⟨[],_,rfl,(λ_ z=>nomatch z),by rw[dD];simp,wm4,hk4,rfl⟩
  ·rintro acc S M' ⟨zs,a,rfl,hz,hl,wm,hk,rfl⟩
   simp only[AAS,Nat.add_zero]at hl
   refine⟨trivial,?_⟩
   simp only[lJ]
   walk_at "dl"
   have wm5:=wm.app [MO.lst (zs.map D.str)]
   have l5:ao (M'++[MO.lst (zs.map D.str)]) M'.length (zs.map D.str):=ak
   have ml:=wm.len
   obtain⟨c5,hc5⟩:=wm5.get hn
   have nM:n<M.length:=(AA3.mp hn).1
   generalize M'++[MO.lst (zs.map D.str)]=B5 at wm5 l5 hc5
   generalize M'.length=q at l5 ml
   refine⟨n,c5,12,rfl,hc5,by decide,by decide,λv c6 v0 v12=>⟨aA (by lia),?_⟩⟩
   obtain⟨jn,hj,ej,_⟩:=er (xs:=sg.cps.toList) v0 (by rw[hs];exact v12)
   rw[ej]
   have s1:=CV zs λz hz'=>(hz z hz').2.1
   have e1:({ cps:=#[sg.cps.toList[jn]] }:Str).length=1:=rfl
   have j1:=FD { cps:=#[sg.cps.toList[jn]] } zs
   rw[e1]at j1
   refine⟨zs,bi (by lia) l5,by rw[e1];lia,aA (by lia),.inl (h _ _ (Hq (by lia) (λc hc=>by rw[show ({ cps:=#[sg.cps.toList[jn]] }:Str).cps.toList=[sg.cps.toList[jn]]from rfl,AAP]at hc;rw[hc];exact hsp _ (AAf hj)) hz) (wm5.set hn _))⟩
  ·rintro y ys acc S M' ⟨zs,a,rfl,hz,hl,wm,hk,rfl⟩ K hK
   refine⟨trivial,?_⟩
   obtain⟨w,hw⟩:=wm.get hn
   walk_at "dl"
   refine⟨_,.inl hk,?_⟩
   rw[AA4]
   refine⟨n,w,xs.length,rfl,hw,by lia,by lia,λv c5 v0 v1=>⟨_,.inl (am kn hk),?_⟩⟩
   obtain⟨jn,hj,ej,_⟩:=er (xs:=xs.map D.str) v0 (by rw[AA4];exact v1)
   rw[ej]
   rw[AA4]at hj
   rw[AAD]at hl
   refine⟨by rw[AA4];exact small1000 (by lia),hK _ _ _ ⟨zs++[xs[jn]],_,by simp,λz hzm=>?_,by rw[AA9,AAb];lia,wm.set hn _,am kn hk,rfl⟩⟩
   rcases AAL.mp hzm with hzm | hzm
   ·exact hz z hzm
   ·rw[AAP.mp hzm];exact hx _ (AAf hj)
theorem wO:WpT eV 6 tS:=by
 rintro ds M R ⟨n,c,⟨z,m⟩,ps,r,rfl,hn,few,hnm,h⟩
 have h8:∀q∈(z,m)::ps,q.1.length<=8:=λq hq=>(hnm q hq).2.1
 have nM:n<M.length:=(AA3.mp hn).1
 have f4:=few.1
 have z8:z.length<=8:=h8 (z,m) (by simp)
 rw[AAD]at f4
 rw[AAH,show aG (z,m)=.tup [.str z,.int m]from rfl]
 simp only[tS,lN,lM]
 walk_at "dl"
 intro _
 refine aW (λd=>match d with | .tup (.str x::_)=>.str (AA1 "@" ++ x) | _=>.non) (λS=>∃a b,S=[a,b]) trivial _ _ _ (λk hk S hS=>?_) ⟨_,_,rfl⟩ ?_ ?_
 ·obtain⟨a,b,rfl⟩:=hS
  have:∃q∈(z,m)::ps,k=.tup [.str q.1,.int q.2]:=by
   rcases AAF.mp hk with rfl | hk
   ·exact⟨(z,m),by simp,rfl⟩
   ·obtain⟨q,hq,rfl⟩:=AAI.mp hk
    exact⟨q,AA8 _ hq,rfl⟩
  obtain⟨q,hq,rfl⟩:=this
  have:=h8 q hq
  refine⟨[some (.str q.1),some (.int q.2)],⟨_,_,rfl⟩,λY hY=>?_⟩
  walk_at "dl"
  refine⟨trivial,?_,hY⟩
  rw[show (AA1 "@").length=1 by decide +kernel];exact aA (by lia)
 ·rw[AAS,AAD,AA4];exact aA (by lia)
 ·have e:∀q:List (Str×Int),(q.map aG).map (λd=>match d with | .tup (.str x::_)=>.str (AA1 "@" ++ x) | _=>.non)=(q.map λy=>AA1 "@" ++ y.1).map D.str:=λq=>by
   rw[AAd,AAd];rfl
  have a1:(AA1 "@").length=1:=by decide +kernel
  have x1:(AA1 "x").length=1:=by decide +kernel
  have zl:(AA1 "@" ++ z).length=1+z.length:=by rw[aC,bz,AA9,<-aC,<-aC,a1]
  have sm:∀{x:Str},eY x->∀c∈x.cps.toList,oq c:=λhx c hc=>by have:=hx.2.2 c hc;exact⟨by lia,by lia⟩
  have at1:∀c∈(AA1 "@").cps.toList,oq c:=by unfold oq;decide +kernel
  have ap:∀{x y:Str},(∀c∈x.cps.toList,oq c)->(∀c∈y.cps.toList,oq c)->∀c∈(x++y).cps.toList,oq c:=λhx hy c hc=>by rw[bz,AAL]at hc;exact hc.elim (hx c) (hy c)
  have bl:∀y∈((z,m)::ps).map (λy=>AA1 "@" ++ y.1),PcS y:=λy hy=>by
   obtain⟨q,hq,rfl⟩:=AAI.mp hy
   have:=h8 q hq
   have e:(AA1 "@" ++ q.1).length=1+q.1.length:=by rw[aC,bz,AA9,<-aC,<-aC,a1]
   exact⟨by lia,by lia,ap at1 (sm (hnm q hq))⟩
  have zp:∀c∈(AA1 "@" ++ z).cps.toList,oq c:=ap at1 (sm (hnm (z,m) (by simp)))
  rw[show (D.tup [.str z,.int m])=aG (z,m)from rfl,<-AAH,e ((z,m)::ps),AAY]
  have nl:(((z,m)::ps).map (λy=>AA1 "@" ++ y.1)).length=ps.length+1:=by rw[AA4,AAD]
  generalize ((z,m)::ps).map (λy=>AA1 "@" ++ y.1)=ns at bl nl
  generalize AA1 "@" ++ z=w at zl zp
  refine⟨aA (by lia),aA (by lia),aA (by lia),_,_,ae aq,aq,?_,?_⟩
  ·rw[AA4];exact aA (by simp only[AAD,AAS];lia)
  ·rw[show [D.str (AA1 "hi"),D.str (AA1 "a"),D.str (w++AA1 "x")]=[AA1 "hi",AA1 "a",w++AA1 "x"].map D.str from rfl,<-AAh]
   have b2:∀y∈ns++[AA1 "hi",AA1 "a",w++AA1 "x"],PcS y:=λy hy=>by
    rcases AAL.mp hy with hy | hy
    ·exact bl y hy
    ·simp only[AAF,AB2,or_false]at hy
     rcases hy with rfl | rfl | rfl
     ·unfold PcS oq;decide +kernel
     ·unfold PcS oq;decide +kernel
     ·have e:(w++AA1 "x").length=w.length+1:=by rw[aC,bz,AA9,<-aC,<-aC,x1]
      exact⟨by lia,by lia,ap zp (by unfold oq;decide +kernel)⟩
   have wl:(ns++[AA1 "hi",AA1 "a",w++AA1 "x"]).length=ps.length+4:=by rw[AA9,nl];rfl
   generalize ns++[AA1 "hi",AA1 "a",w++AA1 "x"]=all at b2 wl
   refine AK hn (by decide +kernel) (by decide +kernel) (by unfold oq;decide +kernel) (by unfold oq;decide +kernel) b2 (by lia) (by lia) ((((WM.now hn).app _).app _).app _) aq ?_ h
   simp only[AA9,AAb]
   lia
theorem yA(T:Tops P w K mg base):Cal P w K mg base 2 "_law_saying" mY eV :=
 Cal.byD (N:=["_law_well_here","_law_house_here","_law_signs","_law_every","_law_some","_law_parts"]) T.b T.f_saying (by walk_at "sc") wc (by have:=cf T;walk_at "dv") wO
def fj:DSp:=λds M R=>∃(n q:Nat) (c:Int) (ps:List (Str×Int)) (r sts:List D),ds=[.ref n,.tup (.tup (ps.map aG)::r),.ref q]/\M[n]?=some (ah c)/\ao M q sts/\q≠n/\(∀x∈sts,∀B:Mem,okD B 29 x=true)/\sts.length<=1000/\Few ps/\1<=(af ps).length /\
 (∀(d:D) (B:Mem),d∈sts->WM M n B->R d B)/\∀(t:Int) (d:D) (B:Mem),1<=t->d∈af ps->WM M n B->R (.tup [.int t,d]) B
theorem yW:bQ fj rZ:=by rintro ds M R ⟨n,q,c,ps,r,sts,rfl,_⟩;rfl
def oZ:DTS:=aX (iJ (aa (dOp aP (dC (.int 1)) (dCB ar (aa (ac 0) (aa (dOp qIx (gW (aa (dC (.int 4)) (aa (dOp Hy (dC (.int 10)) (dC (.int 9))) ag))) (dCB ar (aa (ac 0) (aa (dC (.int 2)) ag)))) ag)))) (aa (dOp qIx (ac 3) (dCB ar (aa (ac 0) (aa (dCB eP (aa (ac 3) ag)) ag)))) ag)))
def jw:DTS:=aF (bq (dCB cr (aa (ac 1) ag)) 3) (oZ)
def xg:DTS:=aF (dIf (Kl (aB (dOp qNe (ac 2) (gW ag))) (aB (dOp qGt (dCB ar (aa (ac 0) (aa (dC (.int 8)) ag))) (dC (.int 0))))) (aX (dOp qIx (ac 2) (dCB ar (aa (ac 0) (aa (dCB eP (aa (ac 2) ag)) ag))))) aR) (jw)
theorem xL{M B:Mem}{R:DK}{n:Nat}{c:Int}{ps:List (Str×Int)}{r:List D}{y2:Option D}(hn:M[n]?=some (ah c))(few:Few ps)(h1:1<=(af ps).length)(wm:WM M n B)(h:∀(t:Int) (d:D) (B:Mem),1<=t->d∈af ps->WM M n B->R (.tup [.int t,d]) B) :
  jw (EE M R) [some (.ref n),some (.tup (.tup (ps.map aG)::r)),y2,none] B:=by
 have nM:n<M.length:=(AA3.mp hn).1
 have hl:=bI few.2
 have f4:=few.1
 simp only[jw]
 walk_at "dl"
 refine⟨ps,r,rfl,few,?_⟩
 have wm1:=wm.app [MO.lst (af ps)]
 have l1:(B++[MO.lst (af ps)])[B.length]?=some (.lst (af ps)):=aq
 have bl:=wm.len
 generalize B++[MO.lst (af ps)]=B1 at wm1 l1
 generalize B.length=k at l1 bl
 simp only[oZ]
 walk_at "dl"
 have wm2:=wm1.app [MO.lst [D.int 4,D.int (10 ^ AEE 9)]]
 have l2:(B1++[MO.lst [D.int 4,D.int (10 ^ AEE 9)]])[k]?=some (.lst (af ps)):=bU l1
 have t2:ao (B1++[MO.lst [D.int 4,D.int (10 ^ AEE 9)]]) B1.length [D.int 4,D.int (10 ^ AEE 9)]:=ak
 have b1:=wm1.len
 obtain⟨c2,hc2⟩:=wm2.get hn
 generalize B1++[MO.lst [D.int 4,D.int (10 ^ AEE 9)]]=B2 at wm2 l2 t2 hc2
 generalize B1.length=k2 at t2 b1
 refine⟨by unfold CPow;decide,aA (by lia),n,c2,2,rfl,hc2,by decide,by decide,λi c3 i0 i2=>⟨_,bi (by lia) t2,?_⟩⟩
 have wm3:WM M n (B2.set n (ah c3)):=wm2.set hn _
 have l3:(B2.set n (ah c3))[k]?=some (.lst (af ps)):=am (by lia) l2
 obtain⟨c4,hc4⟩:=wm3.get hn
 generalize B2.set n (ah c3)=B3 at wm3 l3 hc4
 obtain⟨w,hw,w0,w15⟩:∃w:Int,atI [D.int 4,D.int (10 ^ AEE 9)] i=some (.int w)/\0<w/\w<1000000000000000:=by
  have:i=0\/i=1:=by lia
  rcases this with rfl | rfl
  ·exact⟨4,aM (j:=0) rfl,by decide,by decide⟩
  ·exact⟨10 ^ AEE 9,aM (j:=1) rfl,by decide,by decide⟩
 rw[hw]
 refine⟨n,c4,w,rfl,hc4,w0,w15,λv c5 v0 v1=>?_⟩
 have wm4:WM M n (B3.set n (ah c5)):=wm3.set hn _
 have l4:(B3.set n (ah c5))[k]?=some (.lst (af ps)):=am (by lia) l3
 obtain⟨c6,hc6⟩:=wm4.get hn
 generalize B3.set n (ah c5)=B4 at wm4 l4 hc6
 refine⟨_,.inl l4,n,c6,_,rfl,hc6,by lia,by lia,λj c7 j0 j1=>⟨_,.inl (am (by lia) l4),?_⟩⟩
 obtain⟨jn,hj,ej,_⟩:=er j0 j1
 rw[ej]
 exact⟨aA (by lia),.inl (h _ _ _ (by lia) (AAf hj) (wm4.set hn _))⟩
theorem Ax:WpT fj 4 xg:=by
 rintro ds M R ⟨n,q,c,ps,r,sts,rfl,hn,hq,qn,ok,l1000,few,h1,h0,h⟩
 simp only[xg]
 walk_at "dl"
 obtain⟨okk,enil⟩:=uE hq λx hx=>ok x hx _
 refine⟨AAV _,okk,?_⟩
 rw[enil]
 have wm1:WM M n (M++[MO.lst []]):=(WM.now hn).app _
 obtain⟨c1,hc1⟩:=wm1.get hn
 cases hs:sts.isEmpty with
 | true =>
  exact bp (xL hn few h1 wm1 h)
 | false =>
  refine bu ⟨n,c1,8,rfl,hc1,by decide,by decide,λv c2 v0 v8=>?_⟩
  have wm2:WM M n ((M++[MO.lst []]).set n (ah c2)):=wm1.set hn _
  have lq:ao ((M++[MO.lst []]).set n (ah c2)) q sts:=bi qn (hq.more _)
  generalize (M++[MO.lst []]).set n (ah c2)=B2 at wm2 lq
  dsimp only
  by_cases hv:0<v
  ·rw[dT_ hv]
   have sl:1<=sts.length:=by cases sts<;>simp_all
   obtain⟨c3,hc3⟩:=wm2.get hn
   refine bu ⟨sts,lq,n,c3,_,rfl,hc3,by lia,by lia,λi c4 i0 i1=>⟨sts,bi qn lq,?_⟩⟩
   obtain⟨j,hj,ej,_⟩:=er i0 i1
   rw[ej]
   exact .inl (h0 _ _ (AAf hj) (wm2.set hn _))
  ·rw[dF_ hv]
   exact bp (xL hn few h1 wm2 h)
theorem uB(T:Tops P w K mg base):Cal P w K mg base 2 "_law_stamp" rZ fj :=
 Cal.byD (N:=["_law_well_here","_law_house_here","_law_stamps","_law_hands_here"]) T.b T.f_stamp (by walk_at "sc") yW (by have:=cf T;have:=gL T;walk_at "dv") Ax
def GL(ps:List (Str×Int))(vs:List D):Prop:=∃hs:List (D×Int),vs=hs.map (λp=>.tup [p.1,.int p.2])/\(hs.map (·.1)).Sublist (af ps)/\∀p∈hs,1<=p.2
def hV:DSp:=λds M R=>∃(n:Nat) (c:Int) (ps:List (Str×Int)) (r:List D),ds=[.ref n,.tup (.tup (ps.map aG)::r)]/\M[n]?=some (ah c)/\Few ps/\∀(vs:List D) (B:Mem),GL ps vs->WM M n B->R (.tup vs) B
theorem wb:bQ hV mX:=by rintro ds M R ⟨n,c,ps,r,rfl,_⟩;rfl
def lG:DTS:=aX (dCB cy (aa (ac 2) ag))
def lH:DTS:=aF (oo (bo (dCB cr (aa (ac 1) ag))) (ax 3) (dIf (aB (dOp qGt (dCB ar (aa (ac 0) (aa (dC (.int 3)) ag))) (dC (.int 0)))) (eU (dMl dF (ac 2) (aa (iJ (aa (ac 3) (aa (dOp aP (dC (.int 1)) (dCB ar (aa (ac 0) (aa (dOp qIx (gW (aa (dC (.int 4)) (aa (dC (.int 200)) ag))) (dCB ar (aa (ac 0) (aa (dC (.int 2)) ag)))) ag)))) ag))) ag))) aR)) (lG)
def tP:DTS:=aF (bq (gW ag) 2) (lH)
theorem wN:WpT hV 4 tP:=by
 rintro ds M R ⟨n,c,ps,r,rfl,hn,few,h⟩
 have nM:n<M.length:=(AA3.mp hn).1
 have hl:=bI few.2
 have f4:=few.1
 simp only[tP,lH]
 walk_at "dl"
 refine⟨AAV _,ps,r,rfl,few,?_⟩
 dsimp only
 have wm1:WM M n (M++[MO.lst []]++[MO.lst (af ps)]):=((WM.now hn).app _).app _
 have l1:ao (M++[MO.lst []]++[MO.lst (af ps)]) (M++[MO.lst []]).length (af ps):=ak
 have g1:(M++[MO.lst []]++[MO.lst (af ps)])[M.length]?=some (.lst ([]:List D)):=bU aq
 have kq:M.length<(M++[MO.lst []]).length:=by simp
 generalize M++[MO.lst []]++[MO.lst (af ps)]=C1 at wm1 l1 g1
 generalize (M++[MO.lst []]).length=k at l1 kq
 refine⟨_,l1,λ_=>?_⟩
 refine bY (λi S M'=>∃(hs:List (D×Int)) (a:Option D),(hs.map (·.1)).Sublist ((af ps).take i)/\(∀p∈hs,1<=p.2)/\WM M n M'/\M'[M.length]?=some (.lst (hs.map λp=>.tup [p.1,.int p.2]))/\ao M' k (af ps)/\S=[some (.ref n),some (.tup (.tup (ps.map aG)::r)),some (.ref M.length),a]) ?_ ?_ ⟨[],_,List.nil_sublist _,(λ_ z=>nomatch z),wm1,g1,l1,rfl⟩
 ·rintro S M' ⟨hs,a,hsub,hpos,wm,g,l,rfl⟩
  refine⟨l,?_⟩
  simp only[lG]
  walk_at "dl"
  exact⟨_,.inl g,.inl (h _ _ ⟨hs,rfl,hsub.trans (ADM _ _),hpos⟩ wm)⟩
 ·rintro i y S M' hy ⟨hs,a,hsub,hpos,wm,g,l,rfl⟩ G hG
  refine⟨l,?_⟩
  have hil:=(AA3.mp hy).1
  have hsl:=hsub.length_le
  rw[AA4,AAe]at hsl
  have skip:(hs.map (·.1)).Sublist ((af ps).take (i+1)):=by
   rw[ABA]
   exact hsub.trans (List.sublist_append_left _ _)
  obtain⟨c2,hc2⟩:=wm.get hn
  walk_at "dl"
  refine⟨n,c2,3,rfl,hc2,by decide,by decide,λv c3 v0 v3=>?_⟩
  have wm2:WM M n (M'.set n (ah c3)):=wm.set hn _
  have g2:(M'.set n (ah c3))[M.length]?=some (.lst (hs.map λp=>.tup [p.1,.int p.2])):=am (by lia) g
  have l2:ao (M'.set n (ah c3)) k (af ps):=bi (by lia) l
  generalize M'.set n (ah c3)=B2 at wm2 g2 l2
  dsimp only
  by_cases hv:0<v
  ·rw[dT_ hv]
   refine bu ⟨⟨_,.inl g2⟩,aA (by lia),?_⟩
   have wm3:=wm2.app [MO.lst [D.int 4,D.int 200]]
   have g3:=bU (a:=MO.lst [D.int 4,D.int 200]) g2
   have l3:=l2.more [MO.lst [D.int 4,D.int 200]]
   have t3:ao (B2++[MO.lst [D.int 4,D.int 200]]) B2.length [D.int 4,D.int 200]:=ak
   have b2:=wm2.len
   obtain⟨c4,hc4⟩:=wm3.get hn
   generalize B2++[MO.lst [D.int 4,D.int 200]]=B3 at wm3 g3 l3 t3 hc4
   generalize B2.length=k3 at t3 b2
   refine⟨n,c4,2,rfl,hc4,by decide,by decide,λw c5 w0 w2=>⟨_,bi (by lia) t3,?_⟩⟩
   obtain⟨z,hz,z0,z15⟩:∃z:Int,atI [D.int 4,D.int 200] w=some (.int z)/\0<z/\z<1000000000000000:=by
    have:w=0\/w=1:=by lia
    rcases this with rfl | rfl
    ·exact⟨4,aM (j:=0) rfl,by decide,by decide⟩
    ·exact⟨200,aM (j:=1) rfl,by decide,by decide⟩
   rw[hz]
   have wm4:WM M n (B3.set n (ah c5)):=wm3.set hn _
   have g4:(B3.set n (ah c5))[M.length]?=some (.lst (hs.map λp=>.tup [p.1,.int p.2])):=am (by lia) g3
   have l4:ao (B3.set n (ah c5)) k (af ps):=bi (by lia) l3
   obtain⟨c6,hc6⟩:=wm4.get hn
   generalize B3.set n (ah c5)=B4 at wm4 g4 l4 hc6
   refine⟨n,c6,z,rfl,hc6,z0,z15,λu c7 u0 u1=>⟨aA (by lia),_,am (by lia) g4,by rw[AA4];exact small1000 (by lia),?_⟩⟩
   refine Fgt.now (hG _ _ ⟨hs++[(y,1+u)],_,?_,λp hp=>?_,(wm4.set hn _).hi (AAC _),?_,bi (by lia) (bi (by lia) l4),rfl⟩)
   ·rw[AAh,ABA,hy]
    exact hsub.append (List.Sublist.refl _)
   ·rcases AAL.mp hp with hp | hp
    ·exact hpos p hp
    ·rw[AAP.mp hp];dsimp only;lia
   ·rw[aQ (am (by lia) g4)]
    simp
  ·rw[dF_ hv]
   exact bp (Fgt.now (hG _ _ ⟨hs,_,skip,hpos,wm2,g2,l2,rfl⟩))
theorem yz(T:Tops P w K mg base):Cal P w K mg base 2 "_law_vector" mX hV :=
 Cal.byD (N:=["_law_well_here","_law_house_here","_law_vector_here","_law_hand"]) T.b T.f_vector (by walk_at "sc") wb (by have:=cf T;have:=gL T;walk_at "dv") wN
theorem dk(h:d∈af ps):Hd d:=by
 obtain⟨p,_,k,rfl,_⟩:=jr h
 exact⟨_,_,rfl⟩
theorem DN(h1:bv x y=false)(h2:bv y x=false):x=y:=by
 unfold bv at h1 h2
 rw[decide_eq_false_iff_not]at h1 h2
 exact xI (List.le_antisymm (List.not_lt.mp h2) (List.not_lt.mp h1))
theorem xJ:bv a a=false:=by
 unfold bv
 exact dF_ (ACx _)
theorem AF(h:bv a b=true):bv b a=false:=by
 unfold bv at *
 rw[decide_eq_true_eq]at h
 exact dF_ (List.not_lt.mpr (List.le_of_lt h))
def ltH:D->D->Prop
 | .tup [.str x,.int k],.tup [.str y,.int l]=>bv x y=true\/x=y/\k<l
 | _,_=>False
theorem IL(h:ltH a b):ltD M (n+1) a b=true/\ltD M (n+1) b a=false:=by
 unfold ltH at h
 split at h
 ·rename_i x k y l
  have e:∀(x y:Str) (k l:Int),ltD M (n+1) (.tup [.str x,.int k]) (.tup [.str y,.int l])=if (x==y)=true then(if (k==l)=true then false else decide (k<l))else bv x y:=λx y k l=>by
   rw[<-bG (M:=M) (n:=n),<-bb (M:=M) (n:=n)]
   cases n<;>rfl
  rw[e,e]
  rcases h with h | ⟨rfl,h⟩
  ·have ne:x≠y:=λz=>by rw[z,xJ]at h;cases h
   rw[beq_eq_false_iff_ne.mpr ne,beq_eq_false_iff_ne.mpr (AAt ne)]
   exact⟨h,AF h⟩
  ·rw[beq_self_eq_true,beq_eq_false_iff_ne.mpr (show k≠l by lia),beq_eq_false_iff_ne.mpr (show l≠k by lia)]
   exact⟨dT_ h,dF_ (by lia)⟩
 ·exact h.elim
theorem BW(nd:(ps.map (·.1)).Nodup)(up:(ps.map (·.1)).Pairwise λa b=>bv b a=false):(af ps).Pairwise ltH:=by
 unfold af
 rw[List.pairwise_flatMap]
 refine⟨λp _=>?_,?_⟩
 ·unfold cE mU
  rw[AAd,ABB]
  refine List.pairwise_lt_range.imp λ{i j} h=>?_
  exact .inr ⟨rfl,by lia⟩
 ·rw[List.nodup_iff_pairwise_ne,ABB]at nd
  rw[ABB]at up
  refine(up.and nd).imp λ{p q} ⟨h1,h2⟩ x hx y hy=>?_
  unfold cE mU at hx hy
  simp only[AAd,List.mem_map]at hx hy
  obtain⟨i,_,rfl⟩:=hx
  obtain⟨j,_,rfl⟩:=hy
  refine .inl ?_
  cases e:bv p.1 q.1 with
  | true=>rfl
  | false=>exact absurd (DN e h1) h2
structure PV(d:D):Prop where
 gd:∀M:Mem,Gdn M 4 d
 pl:Pln 4 d
def StV(ps:List (Str×Int))(x:D):Prop:=∃(t:Int) (h:D),x=.tup [.int t,h]/\1<=t/\h∈af ps
theorem pU(h:x.length<=1000):PV (.str x):=⟨λ_=>mC h (by decide),.str _⟩
theorem ya(h:x.length<=1000)(hd:(∀M:Mem,Gdn M 3 d)/\Pln 3 d):PV (.tup [.str x,d]):=⟨λM=>BZ (by decide) (mC h (by decide)) (hd.1 M),.tup (.cons (.str _) (.cons hd.2 .nil))⟩
theorem sV(h8:∀p∈ps,p.1.length<=8)(hh:h∈af ps)(hn:n+1<=30):Gdn M (n+1) h:=by
 obtain⟨p,hp,k,rfl,_⟩:=jr hh
 have:=h8 p hp
 exact BZ hn (mC (by lia) (by lia)) (qF (by lia))
theorem AG(h8:∀p∈ps,p.1.length<=8)(h:StV ps x):(∀n,2<=n->n<=30->∀M:Mem,Gdn M n x)/\∀k,Pln (k+2) x:=by
 obtain⟨t,h,rfl,_,hh⟩:=h
 refine⟨λn h2 h30 M=>?_,λk=>.tup (.cons (.int _) (.cons (FN (dk hh)) .nil))⟩
 obtain⟨m,rfl⟩:∃m,n=m+2:=⟨n-2,by lia⟩
 exact BZ (by lia) (qF (by lia)) (sV h8 hh (by lia))
theorem uN(nd:(ps.map (·.1)).Nodup)(hh:h∈af ps):bx ps h=true:=by
 obtain⟨p,hp,k,rfl,hk⟩:=jr hh
 have e:fA ps (.str p.1)=p.2:=by
  show ((ps.find? λq=>decide (q.1=p.1)).map (·.2)).getD 0=p.2
  have:∀{l:List (Str×Int)},(l.map (·.1)).Nodup->p∈l->l.find? (λq=>decide (q.1=p.1))=some p:=by
   intro l
   induction l with
   | nil=>intro _ z;nomatch z
   | cons q l ih =>
    intro nd hp
    rw[AAH,AB9]at nd
    rw[AAu]
    rcases AAF.mp hp with rfl | hp
    ·rw[dT_ rfl]
    ·rw[dF_ (λz=>nd.1 (by rw[z];exact ABI hp))]
     exact ih nd.2 hp
  rw[this nd hp];rfl
 show (decide (0<=(k:Int))&&decide ((k:Int)<fA ps (.str p.1)))=true
 rw[e,dT_ (show (0:Int)<=k by lia),dT_ (show (k:Int)<p.2 by lia)];rfl
theorem mf(nd:(ps.map (·.1)).Nodup)(h:StV ps x):bT ps x=true:=by
 obtain⟨t,h,rfl,h1,hh⟩:=h
 show (bA 1 (.int t)&&bx ps h)=true
 rw[uN nd hh,ADi]
 exact dT_ h1
theorem nq(h:x∈xs):sw xs (.str x)=true:=by
 show (xs.any λy=>y==x)=true
 exact ABo.mpr ⟨x,h,beq_self_eq_true x⟩
def KA(ps:List (Str×Int))(rs:List (Str×List Str))(d:D):Prop:=rK ps rs d=true/\PV d
def nX:DSp:=λds M R=>∃(n q:Nat) (c:Int) (ps:List (Str×Int)) (rs:List (Str×List Str)) (r sts:List D),ds=[.ref n,.tup (.tup (ps.map aG)::.tup (rs.map bB)::r),.ref q]/\M[n]?=some (ah c)/\ao M q sts/\q≠n/\(∀x∈sts,∀B:Mem,okD B 29 x=true)/\(∀x∈sts,StV ps x)/\sts.length<=1000/\Few ps/\1<=(af ps).length/\HouseW ps rs /\
 ∀(d:D) (B:Mem),KA ps rs d->WM M n B->R d B
theorem Bx:bQ nX yo:=by rintro ds M R ⟨n,q,c,ps,rs,r,sts,rfl,_⟩;rfl
def tL:DTS:=aX (iJ (aa (dC (.str "under")) (aa (dCB fj (aa (ac 0) (aa (ac 1) (aa (ac 2) ag)))) ag)))
def tM:DTS:=aF (dIf (aB (dOp qEq (ac 3) (dC (.int 1)))) (aX (iJ (aa (dC (.str "person")) (aa (dOp qIx (dOp qIx (dOp qIx (ac 1) (dC (.int 0))) (dCB ar (aa (ac 0) (aa (dCB eP (aa (dOp qIx (ac 1) (dC (.int 0))) ag)) ag)))) (dC (.int 0))) ag)))) aR) (tL)
def tN:DTS:=aF (dIf (aB (dOp qEq (ac 3) (dC (.int 0)))) (aX (iJ (aa (dC (.str "room")) (aa (dOp qIx (dOp qIx (dOp qIx (ac 1) (dC (.int 1))) (dCB ar (aa (ac 0) (aa (dCB eP (aa (dOp qIx (ac 1) (dC (.int 1))) ag)) ag)))) (dC (.int 0))) ag)))) aR) (tM)
def CO:DTS:=aF (bq (dCB ar (aa (ac 0) (aa (dC (.int 3)) ag))) 3) (tN)
theorem Dw:WpT nX 4 CO:=by
 rintro ds M R ⟨n,q,c,ps,rs,r,sts,rfl,hn,hq,qn,ok,bel,l1000,few,h1,hW,h⟩
 obtain⟨p1,_⟩:=hW.len
 obtain⟨r1,r4⟩:=hW.rl
 have h8:∀q∈ps,q.1.length<=8:=λq hq=>(hW.nm q hq).2.1
 have f4:=few.1
 simp only[CO,tN]
 walk_at "dl"
 refine⟨n,c,3,rfl,hn,by decide,by decide,λi c1 i0 i3=>⟨⟨au,au⟩,?_⟩⟩
 have wm1:WM M n (M.set n (ah c1)):=WM.drawn
 have q1:=bi (x:=ah c1) qn hq
 generalize M.set n (ah c1)=B1 at wm1 q1
 obtain⟨c2,hc2⟩:=wm1.get hn
 cases eqD B1 eqN (.int i) (.int 0) with
 | true =>
  refine bu ?_
  rw[AA4]
  refine⟨n,c2,rs.length,rfl,hc2,by lia,by lia,λj c3 j0 j1=>?_⟩
  obtain⟨jn,hj,ej,_⟩:=er (xs:=rs.map bB) j0 (by rw[AA4];exact j1)
  dsimp only
  rw[ej,AC8]
  have mr:=AAf (l:=rs) (by rw[AA4]at hj;exact hj)
  generalize rs[jn]'(by rw[AA4]at hj;exact hj)=rm at mr
  have l8:=(hW.rn rm mr).2.1
  unfold bB
  walk_at "dl"
  refine⟨aA (by lia),.inl (h _ _ ⟨?_,ya (by decide +kernel) ⟨λ_=>mC (by lia) (by decide),.str _⟩⟩ (wm1.set hn _))⟩
  show (if isS (AA1 "room") (.str (AA1 "room"))=true then sw (rs.map (·.1)) (.str rm.1)else if isS (AA1 "person") (.str (AA1 "room"))=true then sw (ps.map (·.1)) (.str rm.1)else isS (AA1 "under") (.str (AA1 "room"))&&bT ps (.str rm.1))=true
  rw[if_pos (by decide +kernel)]
  exact nq (ABI mr)
 | false =>
  refine bp ?_
  simp only[tM]
  walk_at "dl"
  refine⟨⟨au,au⟩,?_⟩
  cases eqD B1 eqN (.int i) (.int 1) with
  | true =>
   refine bu ?_
   rw[AA4]
   refine⟨n,c2,ps.length,rfl,hc2,by lia,by lia,λj c3 j0 j1=>?_⟩
   obtain⟨jn,hj,ej,_⟩:=er (xs:=ps.map aG) j0 (by rw[AA4];exact j1)
   dsimp only
   rw[ej,AC8]
   have mr:=AAf (l:=ps) (by rw[AA4]at hj;exact hj)
   generalize ps[jn]'(by rw[AA4]at hj;exact hj)=rm at mr
   have l8:=h8 rm mr
   unfold aG
   walk_at "dl"
   refine⟨aA (by lia),.inl (h _ _ ⟨?_,ya (by decide +kernel) ⟨λ_=>mC (by lia) (by decide),.str _⟩⟩ (wm1.set hn _))⟩
   show (if isS (AA1 "room") (.str (AA1 "person"))=true then sw (rs.map (·.1)) (.str rm.1)else if isS (AA1 "person") (.str (AA1 "person"))=true then sw (ps.map (·.1)) (.str rm.1)else isS (AA1 "under") (.str (AA1 "person"))&&bT ps (.str rm.1))=true
   rw[if_neg (by decide +kernel),if_pos (by decide +kernel)]
   exact nq (ABI mr)
  | false =>
   refine bp ?_
   simp only[tL]
   walk_at "dl"
   have under:∀d:D,StV ps d->KA ps rs (.tup [.str (AA1 "under"),d]):=λd hd=>by
    have sp:=AG h8 hd
    refine⟨?_,ya (by decide +kernel) ⟨λM=>sp.1 3 (by decide) (by decide) M,sp.2 1⟩⟩
    show (if isS (AA1 "room") (.str (AA1 "under"))=true then sw (rs.map (·.1)) d else if isS (AA1 "person") (.str (AA1 "under"))=true then sw (ps.map (·.1)) d else isS (AA1 "under") (.str (AA1 "under"))&&bT ps d)=true
    rw[if_neg (by decide +kernel),if_neg (by decide +kernel),mf hW.nd hd,ADi]
    decide +kernel
   refine⟨n,q,c2,ps,_,sts,rfl,hc2,q1,qn,ok,l1000,few,h1,λd B hd w=>⟨aA (by lia),.inl (h _ _ ?_ (wm1.trans hn w))⟩,λt d B t1 hd w=>⟨aA (by lia),.inl (h _ _ ?_ (wm1.trans hn w))⟩⟩
   ·exact under d (bel d hd)
   ·exact under _ ⟨t,d,rfl,t1,hd⟩
theorem EI(T:Tops P w K mg base):Cal P w K mg base 3 "_law_what" yo nX :=
 Cal.byD (N:=["_law_well_here","_law_house_here","_law_stamps","_law_way"]) T.b T.f_what (by walk_at "sc") Bx (by have:=cf T;have:=uB T;walk_at "dv") Dw
theorem xU(h:SayS x):gQ (.str x)=true:=by
 obtain⟨h1,h2,h3⟩:=h
 show (decide (1<=x.length)&&decide (x.length<=60)&&x.cps.toList.all rT)=true
 rw[dT_ h1,dT_ h2,ABR,ABR,AAO]
 intro c hc
 have:=h3 c hc
 show (decide (32<=c)&&decide (c<=126))=true
 rw[dT_ this.1,dT_ this.2];rfl
theorem Bm(h:eY x):qC (.str x)=true:=by
 obtain⟨h1,h2,h3⟩:=h
 show (decide (1<=x.length)&&decide (x.length<=8)&&x.cps.toList.all fS)=true
 rw[dT_ h1,dT_ h2,ABR,ABR,AAO]
 intro c hc
 have:=h3 c hc
 show (decide (97<=c)&&decide (c<=122))=true
 rw[dT_ this.1,dT_ this.2];rfl
theorem jY:∀{xs:List D},xs.Pairwise ltH->ef M xs=true
 | [],_=>rfl
 | [_],_=>rfl
 | a::b::r,p=>by
  show (ltD M eqN a b&&ef M (b::r))=true
  rw[show ltD M eqN a b=true from(IL (M:=M) (n:=29) ((ACg.mp p).1 b (by simp))).1,ABR]
  exact jY (ACg.mp p).2
theorem DC(hW:HouseW ps rs)(h:GL ps vs):fG M ps (.tup vs)=true:=by
 obtain⟨hs,rfl,hsub,h1⟩:=h
 show ((hs.map λp=>D.tup [p.1,.int p.2]).all (dq ps)&&ef M ((hs.map λp=>D.tup [p.1,.int p.2]).map fB))=true
 rw[AAd,show (fB ∘ λp:D×Int=>D.tup [p.1,.int p.2])=(·.1)from rfl,jY ((BW hW.nd hW.up).sublist hsub),ADi,AAO]
 intro d hd
 obtain⟨p,hp,rfl⟩:=AAI.mp hd
 show (bx ps p.1&&bA 1 (.int p.2))=true
 rw[uN hW.nd (hsub.subset (AAI.mpr ⟨p,hp,rfl⟩)),ABR]
 exact dT_ (h1 p hp)
theorem GX(h8:∀p∈ps,p.1.length<=8)(few:Few ps)(h:GL ps vs):PV (.tup vs):=by
 obtain⟨hs,rfl,hsub,_⟩:=h
 have hl:=bI few.2
 have f4:=few.1
 have hsl:=hsub.length_le
 rw[AA4]at hsl
 refine⟨λM=>Gdn.mk (by rw[AA4];lia) (by decide) λx hx=>?_,.tup (va.of λd hd=>?_)⟩
 ·obtain⟨p,hp,rfl⟩:=AAI.mp hx
  exact BZ (by decide) (sV (n:=1) h8 (hsub.subset (AAI.mpr ⟨p,hp,rfl⟩)) (by decide)) (qF (by decide))
 ·obtain⟨p,hp,rfl⟩:=AAI.mp hd
  exact .tup (.cons (FN (dk (hsub.subset (AAI.mpr ⟨p,hp,rfl⟩)))) (.cons (.int _) .nil))
structure ActV(ps:List (Str×Int))(rs:List (Str×List Str))(a:D):Prop where
 ok:∀M:Mem,Aq M ps rs a=true
 gd:∀M:Mem,Gdn M 5 a
 pl:Pln 5 a
theorem wE(hk:bh.find? (λp=>p.1==k)=some (k,ks))(kl:k.length<=1000)(hl:(xs.length==ks.length)=true)(h40:xs.length<=39)(hx:∀x∈xs,PV x)(h:∀M:Mem,∀q∈ks.zip xs,cz M ps rs q.1 q.2=true):ActV ps rs (.tup (.str k::xs)):=by
 refine⟨λM=>?_,λM=>Gdn.mk (by rw[AAD];lia) (by decide) (qG (mC kl (by decide)) λx hx'=>(hx x hx').gd M),.tup (.cons (.str _) (va.of λx hx'=>(hx x hx').pl))⟩
 rw[uW hk,hl,ABR,AAO]
 exact h M
section
variable{M:Mem}{ps:List (Str×Int)}{rs:List (Str×List Str)}{d:D}
theorem yk:cz M ps rs (AA1 "room") d=sw (rs.map (·.1)) d:=by unfold cz;rw[if_pos (by decide +kernel)]
theorem Bb:cz M ps rs (AA1 "under") d=(zt d||bT ps d):=by unfold cz;rw[if_neg (by decide +kernel),if_pos (by decide +kernel)]
theorem io:cz M ps rs (AA1 "message") d=bT ps d:=by unfold cz;rw[if_neg (by decide +kernel),if_neg (by decide +kernel),if_pos (by decide +kernel)]
theorem pX:cz M ps rs (AA1 "saying") d=gQ d:=by unfold cz;rw[if_neg (by decide +kernel),if_neg (by decide +kernel),if_neg (by decide +kernel),if_pos (by decide +kernel)]
theorem Ey:cz M ps rs (AA1 "sort") d=qC d:=by unfold cz;rw[if_neg (by decide +kernel),if_neg (by decide +kernel),if_neg (by decide +kernel),if_neg (by decide +kernel),if_pos (by decide +kernel)]
theorem yj:cz M ps rs (AA1 "vector") d=fG M ps d:=by unfold cz;rw[if_neg (by decide +kernel),if_neg (by decide +kernel),if_neg (by decide +kernel),if_neg (by decide +kernel),if_neg (by decide +kernel),if_pos (by decide +kernel)]
theorem Ew:cz M ps rs (AA1 "what") d=rK ps rs d:=by unfold cz;rw[if_neg (by decide +kernel),if_neg (by decide +kernel),if_neg (by decide +kernel),if_neg (by decide +kernel),if_neg (by decide +kernel),if_neg (by decide +kernel),if_pos (by decide +kernel)]
theorem Iq:cz M ps rs (AA1 "on") (.bl b)=true:=by unfold cz;rw[if_neg (by decide +kernel),if_neg (by decide +kernel),if_neg (by decide +kernel),if_neg (by decide +kernel),if_neg (by decide +kernel),if_neg (by decide +kernel),if_neg (by decide +kernel)];exact(ADi _).trans (by decide +kernel)
end
theorem all1{α:Type}{P:α->Prop}{a:α}(ha:P a):∀x∈[a],P x:=λx hx=>by rw[AAP.mp hx];exact ha
theorem GJ{α:Type}{P:α->Prop}{a b:α}(ha:P a)(hb:P b):∀x∈[a,b],P x:=λx hx=>(AAF.mp hx).elim (λe=>by rw[e];exact ha) (all1 hb x)
theorem all3{α:Type}{P:α->Prop}{a b c:α}(ha:P a)(hb:P b)(hc:P c):∀x∈[a,b,c],P x:=λx hx=>(AAF.mp hx).elim (λe=>by rw[e];exact ha) (GJ hb hc x)
def uZ:DSp:=λds M R=>∃(n q:Nat) (c:Int) (p:Str×Int) (ps:List (Str×Int)) (rs:List (Str×List Str)) (r sts:List D),ds=[.ref n,.tup (.tup ((p::ps).map aG)::.tup (rs.map bB)::r),.ref q]/\M[n]?=some (ah c)/\ao M q sts/\q≠n/\(∀x∈sts,∀B:Mem,okD B 29 x=true)/\(∀x∈sts,StV (p::ps) x)/\sts.length<=1000/\Few (p::ps)/\1<=(af (p::ps)).length/\HouseW (p::ps) rs /\
 ∀(x:Str) (ds:List D) (B:Mem),ActV (p::ps) rs (.tup (.str x::ds))->WM M n B->R (.tup (.str x::ds)) B
theorem Fa:bQ uZ ED:=by rintro ds M R ⟨n,q,c,p,ps,rs,r,sts,rfl,_⟩;rfl
def uq:DTS:=aX (iJ (aa (dOp qIx (gW (aa (dC (.str "back")) (aa (dC (.str "seen")) (aa (dC (.str "rung")) ag)))) (dMl ke (gW (aa (dC (.int 7)) (aa (dC (.int 8)) (aa (dC (.int 11)) ag)))) (aa (ac 3) ag))) (aa (ac 6) ag)))
def xC:DTS:=aF (dIf (dOr (aB (dOp qEq (ac 3) (dC (.int 5)))) (aB (dOp qEq (ac 3) (dC (.int 6))))) (aX (iJ (aa (dC (.str "like")) (aa (ac 6) (aa (dOp qIx (gW (aa (dC (.str "a")) (aa (dC (.str "ab")) (aa (dCB iM (aa (ac 0) ag)) ag)))) (dCB ar (aa (ac 0) (aa (dC (.int 3)) ag)))) (aa (dOp qGt (dCB ar (aa (ac 0) (aa (dC (.int 3)) ag))) (dC (.int 0))) ag)))))) aR) (uq)
def rP:DTS:=aF (dIf (aB (dOp qEq (ac 3) (dC (.int 4)))) (aX (iJ (aa (dC (.str "change")) (aa (ac 6) (aa (dCB eV (aa (ac 0) (aa (ac 1) ag))) ag))))) aR) (xC)
def rQ:DTS:=aF (bq (dCB fj (aa (ac 0) (aa (ac 1) (aa (ac 2) ag)))) 6) (rP)
def xD:DTS:=aF (dIf (aB (dOp qEq (ac 3) (dC (.int 10)))) (aX (iJ (aa (dC (.str "hush")) (aa (dCB nX (aa (ac 0) (aa (ac 1) (aa (ac 2) ag)))) (aa (dOp qEq (dCB ar (aa (ac 0) (aa (dC (.int 2)) ag))) (dC (.int 1))) ag))))) aR) (rQ)
def rR:DTS:=aF (dIf (aB (dOp qEq (ac 3) (dC (.int 9)))) (aX (iJ (aa (dC (.str "read")) (aa (ac 4) (aa (dCB hV (aa (ac 0) (aa (ac 1) ag))) ag))))) aR) (xD)
def rS:DTS:=aX (iJ (aa (dC (.str "say")) (aa (ac 4) (aa (ac 5) (aa (dCB eV (aa (ac 0) (aa (ac 1) ag))) ag)))))
def xE:DTS:=aF (dIf (aB (dOp qEq (dCB ar (aa (ac 0) (aa (dC (.int 2)) ag))) (dC (.int 1)))) (bq (dCB fj (aa (ac 0) (aa (ac 1) (aa (ac 2) ag)))) 5) aR) (rS)
def xF:DTS:=aF (dIf (aB (dOp qLt (ac 3) (dC (.int 4)))) (aF (bq (dC .non) 5) (xE)) aR) (rR)
def xG:DTS:=aF (bq (dOp qIx (dOp qIx (dOp qIx (ac 1) (dC (.int 1))) (dCB ar (aa (ac 0) (aa (dCB eP (aa (dOp qIx (ac 1) (dC (.int 1))) ag)) ag)))) (dC (.int 0))) 4) (xF)
def He:DTS:=aF (bq (dCB ar (aa (ac 0) (aa (dC (.int 12)) ag))) 3) (xG)
theorem act_7{M B:Mem}{R:DK}{n q:Nat}{c way:Int}{p:Str×Int}{ps:List (Str×Int)}{rs:List (Str×List Str)}{r sts:List D}{y4 y5:Option D}(hn:M[n]?=some (ah c))(wm:WM M n B)(hq:ao B q sts)(qn:q≠n)(ok:∀x∈sts,∀B:Mem,okD B 29 x=true)(bel:∀x∈sts,StV (p::ps) x)(l1000:sts.length<=1000)(few:Few (p::ps))(h1:1<=(af (p::ps)).length)(hW:HouseW (p::ps) rs)
  (hw:way=4\/way=5\/way=6\/way=7\/way=8\/way=11) (h:∀(x:Str) (ds:List D) (B:Mem),ActV (p::ps) rs (.tup (.str x::ds))->WM M n B->R (.tup (.str x::ds)) B) :
  rQ (EE M R) [some (.ref n),some (.tup (.tup ((p::ps).map aG)::.tup (rs.map bB)::r)),some (.ref q),some (.int way),y4,y5,none] B:=by
 have nM:n<M.length:=(AA3.mp hn).1
 obtain⟨c1,hc1⟩:=wm.get hn
 have h8:∀q∈p::ps,q.1.length<=8:=λq hq=>(hW.nm q hq).2.1
 have go:∀(d:D) (B1:Mem),StV (p::ps) d->WM B n B1->rP (EE M R) [some (.ref n),some (.tup (.tup ((p::ps).map aG)::.tup (rs.map bB)::r)),some (.ref q),some (.int way),y4,y5,some d] B1:=λd B1 bd w1=>by
  have wm1:=wm.trans hn w1
  have sp:=AG h8 bd
  have dv:PV d:=⟨λM=>sp.1 4 (by decide) (by decide) M,sp.2 2⟩
  obtain⟨c2,hc2⟩:=wm1.get hn
  simp only[rP]
  walk_at "dl"
  refine⟨⟨au,au⟩,?_⟩
  rw[bb]
  by_cases e4:way=4
  ·rw[beq_iff_eq.mpr e4]
   exact bu ⟨n,c2,p,ps,_,rfl,hc2,few,hW.nm,λx B2 hx w2=>⟨aA (by lia),.inl (h _ _ _ (wE (ks:=[AA1 "message",AA1 "saying"]) (by decide +kernel) (by decide +kernel) rfl (by simp) (GJ dv (pU (by have:=hx.2.1;lia))) λM=>GJ (io.trans (mf hW.nd bd)) (pX.trans (xU hx))) (wm1.trans hn w2))⟩⟩
  rw[beq_eq_false_iff_ne.mpr e4]
  refine bp ?_
  simp only[xC]
  walk_at "dl"
  refine⟨⟨au,au⟩,?_⟩
  rw[bb,bb]
  by_cases e56:way=5\/way=6
  ·have like:∀z B2 (v:Int),eY z->WM M n B2->aI M R (.tup [.str (AA1 "like"),d,.str z,.bl (decide (0<v))]) B2:=λz B2 v hz wm2=>.inl (h _ _ _ (wE (ks:=[AA1 "message",AA1 "sort",AA1 "on"]) (by decide +kernel) (by decide +kernel) rfl (by simp) (all3 dv (pU (by have:=hz.2.1;lia)) ⟨λ_=>JK (by decide),.bl _⟩) λM=>all3 (io.trans (mf hW.nd bd)) (Ey.trans (Bm hz)) Iq) wm2)
   have gets:∀(z:Str) (v:Int),eY z->0<=v->v<3->∃y:Str,atI [D.str (AA1 "a"),D.str (AA1 "ab"),D.str z] v=some (.str y)/\eY y:=λz v nz v0 v3=>by
    have:v=0\/v=1\/v=2:=by lia
    rcases this with rfl | rfl | rfl
    ·exact⟨_,aM (j:=0) rfl,by unfold eY GM;decide +kernel⟩
    ·exact⟨_,aM (j:=1) rfl,by unfold eY GM;decide +kernel⟩
    ·exact⟨_,aM (j:=2) rfl,nz⟩
   rcases e56 with e5 | e6
   ·rw[beq_iff_eq.mpr e5]
    refine bu ⟨n,c2,rfl,hc2,λz B2 nz w2=>⟨aA (by lia),?_⟩⟩
    have wm2:=wm1.trans hn w2
    have b2:=wm2.len
    have wm3:=wm2.app [MO.lst [D.str (AA1 "a"),D.str (AA1 "ab"),D.str z]]
    have t3:ao (B2++[MO.lst [D.str (AA1 "a"),D.str (AA1 "ab"),D.str z]]) B2.length [D.str (AA1 "a"),D.str (AA1 "ab"),D.str z]:=ak
    generalize B2++[MO.lst [D.str (AA1 "a"),D.str (AA1 "ab"),D.str z]]=B3 at wm3 t3
    generalize B2.length=k at t3 b2
    obtain⟨c3,hc3⟩:=wm3.get hn
    refine⟨n,c3,3,rfl,hc3,by decide,by decide,λv c4 v0 v3=>⟨_,bi (by lia) t3,?_⟩⟩
    obtain⟨y,ey,hy⟩:=gets z v nz v0 v3
    rw[ey]
    have wm4:WM M n (B3.set n (ah c4)):=wm3.set hn _
    obtain⟨c5,hc5⟩:=wm4.get hn
    exact⟨n,c5,3,rfl,hc5,by decide,by decide,λu c6 u0 u3=>⟨aA (by lia),like _ _ _ hy (wm4.set hn _)⟩⟩
   ·rw[beq_eq_false_iff_ne.mpr (show way≠5 by lia),beq_iff_eq.mpr e6]
    refine bp ⟨⟨au,au⟩,bu ⟨n,c2,rfl,hc2,λz B2 nz w2=>⟨aA (by lia),?_⟩⟩⟩
    have wm2:=wm1.trans hn w2
    have b2:=wm2.len
    have wm3:=wm2.app [MO.lst [D.str (AA1 "a"),D.str (AA1 "ab"),D.str z]]
    have t3:ao (B2++[MO.lst [D.str (AA1 "a"),D.str (AA1 "ab"),D.str z]]) B2.length [D.str (AA1 "a"),D.str (AA1 "ab"),D.str z]:=ak
    generalize B2++[MO.lst [D.str (AA1 "a"),D.str (AA1 "ab"),D.str z]]=B3 at wm3 t3
    generalize B2.length=k at t3 b2
    obtain⟨c3,hc3⟩:=wm3.get hn
    refine⟨n,c3,3,rfl,hc3,by decide,by decide,λv c4 v0 v3=>⟨_,bi (by lia) t3,?_⟩⟩
    obtain⟨y,ey,hy⟩:=gets z v nz v0 v3
    rw[ey]
    have wm4:WM M n (B3.set n (ah c4)):=wm3.set hn _
    obtain⟨c5,hc5⟩:=wm4.get hn
    exact⟨n,c5,3,rfl,hc5,by decide,by decide,λu c6 u0 u3=>⟨aA (by lia),like _ _ _ hy (wm4.set hn _)⟩⟩
  ·rw[beq_eq_false_iff_ne.mpr (show way≠5 by lia),beq_eq_false_iff_ne.mpr (show way≠6 by lia)]
   refine bp ⟨⟨au,au⟩,bp ?_⟩
   simp only[uq]
   walk_at "dl"
   obtain⟨j,x,ej,nj,ex,kx,kl⟩:∃(j:Nat) (x:Str),[(7:Int),8,11][j]?=some way/\(∀m,m<j->[(7:Int),8,11][m]?≠some way)/\atI [D.str (AA1 "back"),D.str (AA1 "seen"),D.str (AA1 "rung")] (j:Int)=some (.str x)/\bh.find? (λp=>p.1==x)=some (x,[AA1 "message"])/\x.length<=1000:=by
    have:way=7\/way=8\/way=11:=by lia
    rcases this with rfl | rfl | rfl
    ·exact⟨0,_,rfl,by decide,aM rfl,by decide +kernel,by decide +kernel⟩
    ·exact⟨1,_,rfl,by decide,aM rfl,by decide +kernel,by decide +kernel⟩
    ·exact⟨2,_,rfl,by decide,aM rfl,by decide +kernel,by decide +kernel⟩
   refine⟨aA (by lia),aA (by lia),⟨_,ak⟩,[7,8,11],j,ak,by decide,ej,nj,_,.inl (bU aq),?_⟩
   rw[ex]
   exact⟨aA (by lia),.inl (h _ _ _ (wE kx kl rfl (by simp) (all1 dv) λM=>all1 (io.trans (mf hW.nd bd))) ((wm1.app _).app _))⟩
 simp only[rQ]
 walk_at "dl"
 refine⟨n,q,c1,p::ps,_,sts,rfl,hc1,hq,qn,ok,l1000,few,h1,λd B1 hd w=>go _ _ (bel d hd) w,λt d B1 t1 hd w=>go _ _ ⟨t,d,rfl,t1,hd⟩ w⟩
theorem GU:WpT uZ 7 He:=by
 rintro ds M R ⟨n,q,c,p,ps,rs,r,sts,rfl,hn,hq,qn,ok,bel,l1000,few,h1,hW,h⟩
 have h8:∀q∈p::ps,q.1.length<=8:=λq hq=>(hW.nm q hq).2.1
 obtain⟨r1,r4⟩:=hW.rl
 simp only[He,xG]
 walk_at "dl"
 refine⟨n,c,12,rfl,hn,by decide,by decide,λway c1 w0 w12=>?_⟩
 have wm1:WM M n (M.set n (ah c1)):=WM.drawn
 have q1:=bi (x:=ah c1) qn hq
 generalize M.set n (ah c1)=B1 at wm1 q1
 obtain⟨c2,hc2⟩:=wm1.get hn
 rw[AA4]
 refine⟨n,c2,rs.length,rfl,hc2,by lia,by lia,λj c3 j0 j1=>?_⟩
 obtain⟨jn,hj,ej,_⟩:=er (xs:=rs.map bB) j0 (by rw[AA4];exact j1)
 have wm2:WM M n (B1.set n (ah c3)):=wm1.set hn _
 have q2:=bi (x:=ah c3) qn q1
 generalize B1.set n (ah c3)=B2 at wm2 q2
 dsimp only
 rw[ej,AC8]
 have mr:=AAf (l:=rs) (by rw[AA4]at hj;exact hj)
 generalize rs[jn]'(by rw[AA4]at hj;exact hj)=rm at mr
 have rl8:=(hW.rn rm mr).2.1
 have rmm:rm.1∈rs.map (·.1):=ABI mr
 rw[show bB rm=.tup [.str rm.1,.tup (rm.2.map .str)]from rfl]
 walk_at "dl"
 generalize rm.1=room at rl8 rmm
 simp only[xF]
 walk_at "dl"
 by_cases w4:way<4
 ·rw[dT_ w4]
  refine bu ?_
  have fin:∀(d:D) (B3:Mem),PV d->(zt d||bT (p::ps) d)=true->WM M n B3->rS ⟨λS' M'=>rR (EE M R) S' M',aI M R,λ_ _=>False,λ_ _=>False⟩ [some (.ref n),some (.tup (aG p::ps.map aG)::.tup (rs.map bB)::r |> .tup),some (.ref q),some (.int way),some (.str room),some d,none] B3:=λd B3 bd hu wm3=>by
   obtain⟨c4,hc4⟩:=wm3.get hn
   simp only[rS]
   walk_at "dl"
   exact⟨n,c4,p,ps,_,rfl,hc4,few,hW.nm,λx B4 hx w4=>⟨aA (by lia),.inl (h _ _ _ (wE (ks:=[AA1 "room",AA1 "under",AA1 "saying"]) (by decide +kernel) (by decide +kernel) rfl (by simp) (all3 (pU (by lia)) bd (pU (by have:=hx.2.1;lia))) λM=>all3 (yk.trans (nq rmm)) (Bb.trans hu) (pX.trans (xU hx))) (wm3.trans hn w4))⟩⟩
  have fs:∀(d:D) (B3:Mem),StV (p::ps) d->WM M n B3->_:=λd B3 hd=>fin d B3 ⟨λM=>(AG h8 hd).1 4 (by decide) (by decide) M,(AG h8 hd).2 2⟩ (by rw[mf hW.nd hd,Bool.or_true])
  obtain⟨c4,hc4⟩:=wm2.get hn
  simp only[xE]
  walk_at "dl"
  refine⟨n,c4,2,rfl,hc4,by decide,by decide,λv c5 v0 v2=>⟨⟨au,au⟩,?_⟩⟩
  have wm3:WM M n (B2.set n (ah c5)):=wm2.set hn _
  have q3:=bi (x:=ah c5) qn q2
  generalize B2.set n (ah c5)=B3 at wm3 q3
  obtain⟨c6,hc6⟩:=wm3.get hn
  cases eqD B3 eqN (.int v) (.int 1) with
  | true=>exact bu ⟨n,q,c6,p::ps,_,sts,rfl,hc6,q3,qn,ok,l1000,few,h1,λd B4 hd w=>fs _ _ (bel d hd) (wm3.trans hn w),λt d B4 t1 hd w=>fs _ _ ⟨t,d,rfl,t1,hd⟩ (wm3.trans hn w)⟩
  | false=>exact bp (fin _ _ ⟨λ_=>JJ (by decide),.non⟩ rfl wm3)
 rw[dF_ w4]
 refine bp ?_
 obtain⟨c4,hc4⟩:=wm2.get hn
 simp only[rR]
 walk_at "dl"
 refine⟨⟨au,au⟩,?_⟩
 rw[bb]
 by_cases e9:way=9
 ·rw[beq_iff_eq.mpr e9]
  refine bu ⟨n,c4,p::ps,_,rfl,hc4,few,λvs B3 vok w3=>⟨aA (by lia),.inl (h _ _ _ (wE (ks:=[AA1 "room",AA1 "vector"]) (by decide +kernel) (by decide +kernel) rfl (by simp) (GJ (pU (by lia)) (GX h8 few vok)) λM=>GJ (yk.trans (nq rmm)) (yj.trans (DC hW vok))) (wm2.trans hn w3))⟩⟩
 rw[beq_eq_false_iff_ne.mpr e9]
 refine bp ?_
 simp only[xD]
 walk_at "dl"
 refine⟨⟨au,au⟩,?_⟩
 rw[bb]
 by_cases e10:way=10
 ·rw[beq_iff_eq.mpr e10]
  refine bu ⟨n,q,c4,p::ps,rs,r,sts,rfl,hc4,q2,qn,ok,bel,l1000,few,h1,hW,λd B3 bd w3=>?_⟩
  have wm3:=wm2.trans hn w3
  obtain⟨c5,hc5⟩:=wm3.get hn
  exact⟨n,c5,2,rfl,hc5,by decide,by decide,λv c6 v0 v2=>⟨⟨au,au⟩,aA (by lia),.inl (h _ _ _ (wE (ks:=[AA1 "what",AA1 "on"]) (by decide +kernel) (by decide +kernel) rfl (by simp) (GJ bd.2 ⟨λ_=>JK (by decide),.bl _⟩) λM=>GJ (Ew.trans bd.1) Iq) (wm3.set hn _))⟩⟩
 rw[beq_eq_false_iff_ne.mpr e10]
 refine bp ?_
 exact act_7 hn wm2 q2 qn ok bel l1000 few h1 hW (by lia) h
theorem ID(T:Tops P w K mg base):Cal P w K mg base 4 "_law_act" ED uZ :=
 Cal.byD (N:=["_law_well_here","_law_house_here","_law_stamps","_law_way","_law_room","_law_under","_law_message"]) T.b T.f_act (by walk_at "sc") Fa (by have:=cf T;have:=yy T;have:=yA T;have:=uB T;have:=yz T;have:=EI T;walk_at "dv") GU
structure LogV(ps:List (Str×Int))(rs:List (Str×List Str))(log:List D):Prop where
 n:LogN log
 v:∀d∈log,DeedV ps rs d
 h:∀d∈log,ay d∈af ps
theorem Ke{ps:List (Str×Int)}{rs:List (Str×List Str)}{t:Int}{h act:D}{n:Nat}(hW:HouseW ps rs)(t1:1<=t)(hh:h∈af ps)(ha:ActV ps rs act):DeedV ps rs (.tup [.int t,h,.int n,act]):=by
 have h8:∀q∈ps,q.1.length<=8:=λq hq=>(hW.nm q hq).2.1
 refine⟨λM=>?_,λM=>Gdn.mk (by simp) (by decide) (qG (qF (by decide)) (qG (sV (n:=4) h8 hh (by decide)) (qG (qF (by decide)) (qG (ha.gd M) FU))))⟩
 show (bT ps (.tup [.int t,h])&&(bA 0 (.int n)&&Aq M ps rs act))=true
 rw[mf hW.nd ⟨t,h,rfl,t1,hh⟩,ha.ok M,ABR,ADi]
 exact dT_ (show (0:Int)<=(n:Int) by lia)
structure GenOk(ps:List (Str×Int))(rs:List (Str×List Str))(deeds:List D)(las cnt:List (D×D)):Prop where
 deed:∀d∈deeds,rz d/\ay d∈af ps
 val:∀d∈deeds,DeedV ps rs d
 nums:∀h,(deeds.filter λd=>decide (ay d=h)).map cu=(AAg (many deeds h)).map Int.ofNat
 up:deeds.Pairwise λa b=>ay a=ay b->eA a<eA b
 last:∀h,∃t:Int,(cY las h).getD (.int 0)=.int t/\0<=t/\∀d∈deeds,ay d=h->eA d<=t
 cnt:∀h,(cY cnt h).getD (.int 0)=.int (many deeds h)
 vals:∀p∈las,∃t:Int,p.2=.int t
theorem FT:GenOk ps rs [] [] []:=⟨(λ_ z=>nomatch z),(λ_ z=>nomatch z),λ_=>rfl,.nil,λ_=>⟨0,rfl,Int.le_refl _,(λ_ z=>nomatch z)⟩,λ_=>rfl,(λ_ z=>nomatch z)⟩
theorem GenOk.step{ps:List (Str×Int)}{rs:List (Str×List Str)}{deeds:List D}{las cnt:List (D×D)}(g:GenOk ps rs deeds las cnt)(hW:HouseW ps rs){hand act:D}{T:Int}(hh:hand∈af ps)(hT:∀t:Int,(cY las hand).getD (.int 0)=.int t->t<T)(ba:ActV ps rs act) :
  GenOk ps rs (deeds++[.tup [.int T,hand,.int (many deeds hand),act]]) (fy las hand (.int T)) (fy cnt hand (.int (many deeds hand+1))):=by
 have e1:ay (.tup [.int T,hand,.int (many deeds hand),act])=hand:=rfl
 have t1:1<=T:=by
  obtain⟨t,et,t0,_⟩:=g.last hand
  have:=hT t et
  lia
 refine⟨λd hd=>?_,λd hd=>?_,λh=>?_,?_,λh=>?_,λh=>?_,pV g.vals⟩
 ·rcases AAL.mp hd with hd | hd
  ·exact g.deed d hd
  ·rw[AAP.mp hd]
   exact⟨⟨_,_,_,_,rfl,dk hh,ba.pl⟩,hh⟩
 ·rcases AAL.mp hd with hd | hd
  ·exact g.val d hd
  ·rw[AAP.mp hd]
   exact Ke hW t1 hh ba
 ·rw[ADH,AAh,g.nums h,nr,e1,ADf,e1]
  by_cases e:hand=h
  ·subst e
   rw[dT_ rfl,if_pos rfl,if_pos rfl,List.range_succ,AAh]
   rfl
  ·rw[dF_ e,if_neg e]
   exact AB8 _
 ·refine List.pairwise_append.mpr ⟨g.up,ACa _ _,λa ha b hb=>?_⟩
  rw[AAP.mp hb]
  intro e
  obtain⟨t,et,t0,ht⟩:=g.last hand
  have:=ht a ha e
  have:=hT t et
  show eA a<T
  lia
 ·by_cases e:h=hand
  ·subst e
   refine⟨T,by rw[eS];rfl,by lia,λd hd he=>?_⟩
   rcases AAL.mp hd with hd | hd
   ·obtain⟨t,et,t0,ht⟩:=g.last h
    have:=ht d hd he
    have:=hT t et
    lia
   ·rw[AAP.mp hd];exact Int.le_refl _
  ·obtain⟨t,et,t0,ht⟩:=g.last h
   refine⟨t,by rw[kR e];exact et,t0,λd hd he=>?_⟩
   rcases AAL.mp hd with hd | hd
   ·exact ht d hd he
   ·rw[AAP.mp hd]at he
    exact absurd he.symm e
 ·rw[nr,e1]
  by_cases e:h=hand
  ·subst e
   rw[eS,if_pos rfl];rfl
  ·rw[kR e,if_neg (AAt e),g.cnt h];rfl
noncomputable def cF(ds:List D):List (D×D):=ds.map λd=>(stD d,d)
theorem CY(g:GenOk ps rs deeds las cnt):(deeds.map stD).Nodup:=by
 unfold List.Nodup
 rw[ABB]
 refine(AAy.mp g.up).imp λ{a b} ⟨ha,hb,q⟩ e=>?_
 obtain⟨⟨t,hd,num,act,rfl,_⟩,_⟩:=g.deed a ha
 obtain⟨⟨t',hd',num',act',rfl,_⟩,_⟩:=g.deed b hb
 simp only[stD,D.tup.injEq,ADB,D.int.injEq,and_true]at e
 have:=q e.2
 simp only[eA]at this
 lia
theorem kT:∀{ds:List D},(ds.map stD).Nodup->d∈ds->cY (cF ds) (stD d)=some d
 | [],_,h=>nomatch h
 | x::ds,nd,h=>by
  rw[AAH,AB9]at nd
  unfold cY cF
  rw[AAH,AAu]
  by_cases e:stD x=stD d
  ·rw[dT_ e]
   rcases AAF.mp h with rfl | h
   ·rfl
   ·exact absurd (AAI.mpr ⟨d,h,e.symm⟩) nd.1
  ·rw[dF_ e]
   rcases AAF.mp h with rfl | h
   ·exact absurd rfl e
   ·exact kT nd.2 h
theorem zL(h:stD d∉ds.map stD):fy (cF ds) (stD d) d=cF (ds++[d]):=by
 have:cY (cF ds) (stD d)=none:=by
  unfold cY cF
  rw[Option.map_eq_none_iff,List.find?_eq_none]
  intro p hp
  obtain⟨x,hx,rfl⟩:=AAI.mp hp
  intro z
  exact h (AAI.mpr ⟨x,hx,oT_ z⟩)
 unfold fy
 rw[this]
 simp[cF]
noncomputable def dO(ds:List D)(s:D):D:=(cY (cF ds) s).getD .non
theorem IN(g:GenOk ps rs deeds las cnt)(hl:deeds.length<=40)(hp:ys.Perm (deeds.map stD))(up:Ar M ys):LogV ps rs (ys.map (dO deeds)):=by
 have nd:=CY g
 have bs:∀d∈deeds,dO deeds (stD d)=d:=λd hd=>by
  unfold dO
  rw[kT nd hd];rfl
 have pl:(ys.map (dO deeds)).Perm deeds:=by
  refine(hp.map _).trans (List.Perm.of_eq ?_)
  rw[AAd]
  exact(AC1 λd hd=>bs d hd).trans (ADR _)
 have fe:∀h,(ys.map (dO deeds)).filter (λd=>decide (ay d=h))=deeds.filter λd=>decide (ay d=h):=λh=>by
  refine List.Perm.eq_of_pairwise (le:=λa b=>eA a<=eA b) (λa b ha hb h1 h2=>?_) ?_ ?_ (pl.filter _)
  ·have ha':=AAX.mp ha
   have hb':=AAX.mp hb
   have e1:ay a=h:=oT_ ha'.2
   have e2:ay b=h:=oT_ hb'.2
   have ma:a∈deeds:=pl.mem_iff.mp ha'.1
   have es:stD a=stD b:=by
    obtain⟨⟨t,hd,num,act,rfl,_⟩,_⟩:=g.deed a ma
    obtain⟨⟨t',hd',num',act',rfl,_⟩,_⟩:=g.deed b hb'.1
    have e3:hd=hd':=(show hd=h from e1).trans (show hd'=h from e2).symm
    have e4:t=t':=Int.le_antisymm h1 h2
    rw[e3,e4];rfl
   rw[<-bs a ma,es,bs b hb'.1]
  ·have pw1:(ys.map (dO deeds)).Pairwise λa b=>ltD M eqN (stD b) (stD a)=false:=ABB.mpr ((AAy.mp up).imp λ{a b} ⟨ha,hb,q⟩=>by
    obtain⟨x,hx,rfl⟩:=AAI.mp (hp.mem_iff.mp ha)
    obtain⟨y,hy,rfl⟩:=AAI.mp (hp.mem_iff.mp hb)
    rw[bs x hx,bs y hy]
    exact q)
   have pw2:=AAy.mp (pw1.filter λd=>decide (ay d=h))
   refine pw2.imp λ{a b} ⟨ha,hb,q⟩=>?_
   have e1:ay a=h:=oT_ (AAX.mp ha).2
   have e2:ay b=h:=oT_ (AAX.mp hb).2
   obtain⟨⟨t,hd,num,act,rfl,_⟩,_⟩:=g.deed a (pl.mem_iff.mp (AAX.mp ha).1)
   obtain⟨⟨t',hd',num',act',rfl,_⟩,_⟩:=g.deed b (pl.mem_iff.mp (AAX.mp hb).1)
   show t<=t'
   refine Int.not_lt.mp λlt=>?_
   have:ltD M eqN (stD (.tup [.int t',hd',.int num',act'])) (stD (.tup [.int t,hd,.int num,act]))=true:=by
    show (if eqD M 29 (.int t') (.int t)=true then rB (eqD M 29) (ltD M 29) [hd'] [hd]else ltD M 29 (.int t') (.int t))=true
    rw[bb,beq_eq_false_iff_ne.mpr (by lia)]
    exact dT_ lt
   rw[this]at q
   cases q
  ·refine((AAy.mp (g.up.filter _))).imp λ{a b} ⟨ha,hb,q⟩=>?_
   have e1:ay a=h:=oT_ (AAX.mp ha).2
   have e2:ay b=h:=oT_ (AAX.mp hb).2
   have:=q (by rw[e1,e2])
   lia
 refine⟨⟨λd hd=>(g.deed d (pl.mem_iff.mp hd)).1,by rw[pl.length_eq];exact hl,λh=>?_,?_⟩,λd hd=>g.val d (pl.mem_iff.mp hd),λd hd=>(g.deed d (pl.mem_iff.mp hd)).2⟩
 ·unfold many
  rw[fe h]
  exact g.nums h
 ·have ny:ys.Nodup:=hp.nodup_iff.mpr nd
  rw[List.nodup_iff_pairwise_ne]at ny
  refine ABB.mpr ((AAy.mp (List.Pairwise.and up ny)).imp λ{a b} ⟨ha,hb,q,ne⟩=>?_)
  obtain⟨x,hx,rfl⟩:=AAI.mp (hp.mem_iff.mp ha)
  obtain⟨y,hy,rfl⟩:=AAI.mp (hp.mem_iff.mp hb)
  rw[bs x hx,bs y hy]
  have sx:=cZ (g.deed x hx).1
  have sy:=cZ (g.deed y hy).1
  rw[CZ (M':=M) sx sy]
  rcases ut M sx sy with t | t | t
  ·exact absurd t.1 ne
  ·exact t.2.1
  ·rw[t.2.2.1]at q;cases q
theorem eD:∀{kvs:List (D×D)},(∀p∈kvs,∃t:Int,p.2=.int t)->∃vs:List Int,kvs.map (·.2)=vs.map D.int
 | [],_=>⟨[],rfl⟩
 | p::kvs,h=>by
  obtain⟨vs,e⟩:=eD λq hq=>h q (AA8 _ hq)
  obtain⟨t,et⟩:=h p (by simp)
  exact⟨t::vs,by rw[AAH,AAH,e,et]⟩
theorem Fc(ht:(cY las hand).getD (.int 0)=.int t)(ev:las.map (·.2)=vs.map D.int)(hm:∀a∈0::vs,a<=m):t<=m:=by
 cases e:cY las hand with
 | none =>
  rw[e]at ht
  injection ht with ht
  rw[<-ht]
  exact hm 0 (by simp)
 | some d =>
  rw[e]at ht
  have ht:d=.int t:=ht
  subst ht
  unfold cY at e
  obtain⟨q,hq,eq⟩:=ABg.mp e
  have:D.int t∈las.map (·.2):=AAI.mpr ⟨q,ACI hq,eq⟩
  rw[ev]at this
  obtain⟨v,hv,e2⟩:=AAI.mp this
  injection e2 with e2
  subst e2
  exact hm v (AA8 _ hv)
def Sts(ps:List (Str×Int))(sts:List D):Prop:=∀x∈sts,StV ps x
theorem Sts.ok(h:Sts ps sts):∀x∈sts,∀B:Mem,okD B 29 x=true:=λx hx B=>by
 obtain⟨t,hd,rfl,_,hh⟩:=h x hx
 obtain⟨p,_,k,rfl,_⟩:=jr hh
 rfl
def GQ(ws:List Nat)(M B:Mem):Prop:=M.length<=B.length/\∀(i:Nat) (x:MO),i∉ws->M[i]?=some x->B[i]?=some x
theorem GQ.lst(k:GQ ws M B)(h:q∉ws)(l:ao M q xs):ao B q xs:=by
 rcases l with l | l | l
 ·exact .inl (k.2 _ _ h l)
 ·exact .inr (.inl (k.2 _ _ h l))
 ·exact .inr (.inr (k.2 _ _ h l))
def uY:DSp:=λds M R=>∃(q:Nat) (ws:List Nat) (p:Str×Int) (ps:List (Str×Int)) (rs:List (Str×List Str)) (r:List D),ds=[.ref q,.tup (.tup ((p::ps).map aG)::.tup (rs.map bB)::r)]/\ao M q (ws.map .ref)/\q∉ws/\(∀w∈ws,∃c,M[w]?=some (ah c))/\ws.length<=40/\Few (p::ps)/\1<=(af (p::ps)).length/\HouseW (p::ps) rs /\
 ∀(log:List D) (B:Mem),LogV (p::ps) rs log->GQ ws M B->R (.tup log) B
theorem EY:bQ uY EB:=by rintro ds M R ⟨q,ws,p,ps,rs,r,rfl,_⟩;rfl
structure LgAt(ws:List Nat)(M B:Mem)(hs:List D)(las cnt:List (D×D))(sts deeds:List D):Prop where
 kept:GQ ws M B
 wells:∀w∈ws,w<M.length/\∃c,B[w]?=some (ah c)
 hands:B[M.length]?=some (.lst hs)
 las:B[M.length+1]?=some (.dkt las)
 cnt:B[M.length+2]?=some (.dkt cnt)
 sts:B[M.length+3]?=some (.lst sts)
 deeds:B[M.length+4]?=some (.lst deeds)
section
variable{ws:List Nat}{M B C:Mem}{hs sts deeds:List D}{las cnt:List (D×D)}
theorem LgAt.wm{w:Nat}{c:Int}(g:LgAt ws M B hs las cnt sts deeds)(hw:w∈ws)(hc:B[w]?=some (ah c))(m:WM B w C):LgAt ws M C hs las cnt sts deeds:=by
 have wl:=(g.wells w hw).1
 refine⟨⟨AAp g.kept.1 m.len,λi x hi hx=>m.other (λz=>hi (z ▸ hw)) (g.kept.2 i x hi hx)⟩,λv hv=>⟨(g.wells v hv).1,?_⟩,m.other (by lia) g.hands,m.other (by lia) g.las,m.other (by lia) g.cnt,m.other (by lia) g.sts,m.other (by lia) g.deeds⟩
 by_cases e:v=w
 ·subst e;exact m.get hc
 ·obtain⟨c',h'⟩:=(g.wells v hv).2
  exact⟨c',m.other e h'⟩
theorem LgAt.set(g:LgAt ws M B hs las cnt sts deeds)(hk:M.length<=k):GQ ws M (B.set k x)/\(∀w∈ws,w<M.length/\∃c,(B.set k x)[w]?=some (ah c)):=by
 refine⟨⟨by rw[AAa];exact g.kept.1,λi y hi hy=>am (by have:=aE hy;lia) (g.kept.2 i y hi hy)⟩,λw hw=>?_⟩
 obtain⟨l,c,hc⟩:=g.wells w hw
 exact⟨l,c,am (by lia) hc⟩
theorem LgAt.setLas(g:LgAt ws M B hs las cnt sts deeds):LgAt ws M (B.set (M.length+1) (.dkt las')) hs las' cnt sts deeds :=
 ⟨(g.set (by lia)).1,(g.set (by lia)).2,am (by lia) g.hands,aQ g.las,am (by lia) g.cnt,am (by lia) g.sts,am (by lia) g.deeds⟩
theorem LgAt.setCnt(g:LgAt ws M B hs las cnt sts deeds):LgAt ws M (B.set (M.length+2) (.dkt cnt')) hs las cnt' sts deeds :=
 ⟨(g.set (by lia)).1,(g.set (by lia)).2,am (by lia) g.hands,am (by lia) g.las,aQ g.cnt,am (by lia) g.sts,am (by lia) g.deeds⟩
theorem LgAt.setSts(g:LgAt ws M B hs las cnt sts deeds):LgAt ws M (B.set (M.length+3) (.lst sts')) hs las cnt sts' deeds :=
 ⟨(g.set (by lia)).1,(g.set (by lia)).2,am (by lia) g.hands,am (by lia) g.las,am (by lia) g.cnt,aQ g.sts,am (by lia) g.deeds⟩
theorem LgAt.setDeeds(g:LgAt ws M B hs las cnt sts deeds):LgAt ws M (B.set (M.length+4) (.lst deeds')) hs las cnt sts deeds' :=
 ⟨(g.set (by lia)).1,(g.set (by lia)).2,am (by lia) g.hands,am (by lia) g.las,am (by lia) g.cnt,am (by lia) g.sts,aQ g.deeds⟩
end
def tZ:DTS:=aX (dCB cy (aa (dLC 1 [12] (bo (dCB gF (aa (ac 12) ag))) (ax 0) jm (zW (ac 1) (ac 0))) ag))
def ua:DTS:=aF (oo (bo (ac 6)) (ax 11) (nQ (ac 12) (dSl (ac 11) cI (iL (dC (.int 2)))) (ac 11))) (tZ)
def mP:DTS:=aF (bq (nR) 12) (ua)
def ub:DTS:=dIf (aB (dOp qEq (dOp qIx (dOp qIx (ac 11) (dC (.int 3))) (dC (.int 0))) (dC (.str "say")))) (eU (dMl dF (ac 5) (aa (dSl (ac 11) cI (iL (dC (.int 2)))) ag))) aR
def uc:DTS:=aF (eU (dMl dF (ac 6) (aa (ac 11) ag))) (ub)
def ud:DTS:=aF (nQ (ac 4) (ac 8) (dOp aP (dOp qIx (ac 11) (dC (.int 2))) (dC (.int 1)))) (uc)
def xj:DTS:=aF (nQ (ac 3) (ac 8) (ac 10)) (ud)
def rL:DTS:=aF (bq (iJ (aa (ac 10) (aa (ac 8) (aa (dMt gD (ac 4) (aa (ac 8) (aa (dC (.int 0)) ag))) (aa (dCB uZ (aa (ac 7) (aa (ac 1) (aa (ac 5) ag)))) ag))))) 11) (xj)
def xk:DTS:=aF (bq (dOp aP (dOp aP (dOp qIx (ac 9) (dCB ar (aa (ac 7) (aa (dC (.int 2)) ag)))) (dC (.int 1))) (dOp jf (dCB ar (aa (ac 7) (aa (dC (.int 3)) ag))) (dCB ar (aa (ac 7) (aa (dC (.int 2)) ag))))) 10) (rL)
def rM:DTS:=aF (bq (gW (aa (dMt gD (ac 3) (aa (ac 8) (aa (dC (.int 0)) ag))) (aa (dCB xZ (aa (dOp aP (gW (aa (dC (.int 0)) ag)) (gX (ac 3))) ag)) ag))) 9) (xk)
def xm:DTS:=aF (oo (bo (ac 0)) (ax 7) (aF (bq (dOp qIx (ac 2) (dCB ar (aa (ac 7) (aa (dCB eP (aa (ac 2) ag)) ag)))) 8) (rM))) (mP)
def xo:DTS:=aF (bq (gW ag) 6) (xm)
def xp:DTS:=aF (bq (gW ag) 5) (xo)
def xq:DTS:=aF (bq (nR) 4) (xp)
def xr:DTS:=aF (bq (nR) 3) (xq)
def Hb:DTS:=aF (bq (dCB cr (aa (ac 1) ag)) 2) (xr)
theorem log_8{ws:List Nat}{M B:Mem}{E:DEnds}{las cnt:List (D×D)}{sts deeds:List D}{w:Nat}{p:Str×Int}{ps:List (Str×Int)}{rs:List (Str×List Str)}{r:List D}{z:Str}{k t T:Int}{y0 y9 y11 y12:Option D}(g:LgAt ws M B (af (p::ps)) las cnt sts deeds)(hw:w∈ws)(go:GenOk (p::ps) rs deeds las cnt)(few:Few (p::ps))(h1:1<=(af (p::ps)).length)(hW:HouseW (p::ps) rs)
  (hmem:D.tup [.str z,.int k]∈af (p::ps)) (ht:(cY las (.tup [.str z,.int k])).getD (.int 0)=.int t) (tT:t<T) (so:Sts (p::ps) sts) (sl:sts.length<=40) (dl:deeds.length<=40) (ll:las.length<=40) (cl:cnt.length<=40)
  (hE:∀las' cnt' sts' deeds' B' a b c d,GenOk (p::ps) rs deeds' las' cnt'->LgAt ws M B' (af (p::ps)) las' cnt' sts' deeds'->Sts (p::ps) sts'->sts'.length<=sts.length+1->deeds'.length<=deeds.length+1->las'.length<=las.length+1->cnt'.length<=cnt.length+1->E.nx [y0,some (.tup (.tup ((p::ps).map aG)::.tup (rs.map bB)::r)),some (.ref M.length),some (.ref (M.length+1)),some (.ref (M.length+2)),some (.ref (M.length+3)),some (.ref (M.length+4)),some (.ref w),a,b,c,d,y12] B') :
  rL E [y0,some (.tup (.tup ((p::ps).map aG)::.tup (rs.map bB)::r)),some (.ref M.length),some (.ref (M.length+1)),some (.ref (M.length+2)),some (.ref (M.length+3)),some (.ref (M.length+4)),some (.ref w),some (.tup [.str z,.int k]),y9,some (.int T),y11,y12] B:=by
 obtain⟨wM,c,hc⟩:=g.wells w hw
 simp only[rL]
 walk_at "dl"
 refine⟨⟨cnt,g.cnt⟩,cnt,g.cnt,rfl,?_⟩
 rw[go.cnt]
 refine⟨w,M.length+3,c,p,ps,rs,r,sts,rfl,hc,.inl g.sts,by lia,so.ok,so,by lia,few,h1,hW,λx ds B1 bds wm1=>⟨aA (by lia),?_⟩⟩
 have g1:=g.wm hw hc wm1
 simp only[xj]
 walk_at "dl"
 refine⟨las,g1.las,rfl,aA (by lia),?_⟩
 have g2:=g1.setLas (las':=fy las (.tup [.str z,.int k]) (.int T))
 generalize B1.set (M.length+1) _=B2 at g2
 simp only[ud]
 walk_at "dl"
 refine⟨cnt,g2.cnt,rfl,aA (by lia),?_⟩
 have g3:=g2.setCnt (cnt':=fy cnt (.tup [.str z,.int k]) (.int (many deeds (.tup [.str z,.int k])+1)))
 generalize B2.set (M.length+2) _=B3 at g3
 simp only[uc]
 walk_at "dl"
 refine⟨⟨_,.inl g3.deeds⟩,deeds,g3.deeds,aA (by lia),?_⟩
 have g4:=g3.setDeeds (deeds':=deeds++[.tup [.int T,.tup [.str z,.int k],.int (many deeds (.tup [.str z,.int k])),.tup (.str x::ds)]])
 generalize B3.set (M.length+4) _=B4 at g4
 have go':=go.step hW hmem (T:=T) (act:=.tup (.str x::ds)) (λt' e=>by rw[ht]at e;injection e with e;lia) bds
 have l1:=dG (kvs:=las) (k:=.tup [.str z,.int k]) (d:=.int T)
 have l2:=dG (kvs:=cnt) (k:=.tup [.str z,.int k]) (d:=.int (many deeds (.tup [.str z,.int k])+1))
 simp only[ub]
 walk_at "dl"
 have e3:atI [D.int T,.tup [.str z,.int k],.int (many deeds (.tup [.str z,.int k])),.tup (.str x::ds)] 3=some (.tup (.str x::ds)):=aM (j:=3) rfl
 rw[e3]
 dsimp only
 rw[at0]
 refine⟨⟨aJ,aJ⟩,?_⟩
 cases eqD B4 eqN (.str x) (.str (AA1 "say")) with
 | true =>
  refine bu ⟨⟨_,.inl g4.sts⟩,sts,g4.sts,aA (by lia),hE _ _ _ _ _ _ _ _ _ go' g4.setSts (λy hy=>?_) (by simp) (by simp) l1 l2⟩
  rcases AAL.mp hy with hy | hy
  ·exact so y hy
  ·rw[AAP.mp hy]
   refine⟨T,_,rfl,?_,hmem⟩
   obtain⟨t',et',t0,_⟩:=go.last (.tup [.str z,.int k])
   rw[ht]at et'
   injection et' with et'
   lia
 | false=>exact bp (hE _ _ _ _ _ _ _ _ _ go' g4 so (Nat.le_succ _) (by simp) l1 l2)
theorem Bv{ws:List Nat}{M B:Mem}{E:DEnds}{las cnt:List (D×D)}{sts deeds:List D}{w:Nat}{p:Str×Int}{ps:List (Str×Int)}{rs:List (Str×List Str)}{r:List D}{y0 y8 y9 y10 y11 y12:Option D}(g:LgAt ws M B (af (p::ps)) las cnt sts deeds)(hw:w∈ws)(go:GenOk (p::ps) rs deeds las cnt)(few:Few (p::ps))(h1:1<=(af (p::ps)).length)(hW:HouseW (p::ps) rs)
  (so:Sts (p::ps) sts) (sl:sts.length<=40) (dl:deeds.length<=40) (ll:las.length<=40) (cl:cnt.length<=40)
  (hE:∀las' cnt' sts' deeds' B' a b c d,GenOk (p::ps) rs deeds' las' cnt'->LgAt ws M B' (af (p::ps)) las' cnt' sts' deeds'->Sts (p::ps) sts'->sts'.length<=sts.length+1->deeds'.length<=deeds.length+1->las'.length<=las.length+1->cnt'.length<=cnt.length+1->E.nx [y0,some (.tup (.tup ((p::ps).map aG)::.tup (rs.map bB)::r)),some (.ref M.length),some (.ref (M.length+1)),some (.ref (M.length+2)),some (.ref (M.length+3)),some (.ref (M.length+4)),some (.ref w),a,b,c,d,y12] B') :
  (aF (bq (dOp qIx (ac 2) (dCB ar (aa (ac 7) (aa (dCB eP (aa (ac 2) ag)) ag)))) 8) (rM)) E [y0,some (.tup (.tup ((p::ps).map aG)::.tup (rs.map bB)::r)),some (.ref M.length),some (.ref (M.length+1)),some (.ref (M.length+2)),some (.ref (M.length+3)),some (.ref (M.length+4)),some (.ref w),y8,y9,y10,y11,y12] B:=by
 obtain⟨wM,c,hc⟩:=g.wells w hw
 have f4:=few.1
 have hln:=bI few.2
 simp only[rM]
 walk_at "dl"
 refine⟨_,.inl g.hands,w,c,_,rfl,hc,by lia,by lia,λv c1 v0 v1=>⟨_,.inl (am (by lia) g.hands),?_⟩⟩
 obtain⟨jn,hj,ej,_⟩:=er v0 v1
 rw[ej]
 have hmem:=AAf hj
 generalize (af (p::ps))[jn]=hand at hmem
 obtain⟨z,k,rfl⟩:=dk hmem
 have wm1:WM B w (B.set w (ah c1)):=WM.drawn
 generalize B.set w (ah c1)=B1 at wm1
 have g1:=g.wm hw hc wm1
 walk_at "dl"
 obtain⟨vs,ev⟩:=eD go.vals
 obtain⟨t,ht,_,_⟩:=go.last (.tup [.str z,.int k])
 have vl:vs.length<=40:=by
  have:=congrArg ACV ev
  rw[AA4,AA4]at this
  lia
 refine⟨⟨las,g1.las⟩,las,g1.las,rfl,aA (by lia),las,ae g1.las,?_⟩
 rw[ev,ht]
 refine⟨_,_,ae aq,aq,?_,0::vs,ak,by simp,λm _ hm=>⟨aA (by lia),?_⟩⟩
 ·rw[AA4];exact aA (by simp only[AAD,AAS];lia)
 have tm:=Fc ht ev hm
 have wm2:=(((wm1.app [MO.lst [D.int 0]]).app [MO.lst (vs.map D.int)]).app [MO.lst ([D.int 0]++vs.map D.int)])
 have wm3:=wm2.app [MO.lst [D.int t,D.int m]]
 have t3:ao (B1++[MO.lst [D.int 0]]++[MO.lst (vs.map D.int)]++[MO.lst ([D.int 0]++vs.map D.int)]++[MO.lst [D.int t,D.int m]]) (B1++[MO.lst [D.int 0]]++[MO.lst (vs.map D.int)]++[MO.lst ([D.int 0]++vs.map D.int)]).length [D.int t,D.int m]:=ak
 have b2:=wm2.len
 have wB:w<B.length:=aE hc
 generalize (B1++[MO.lst [D.int 0]]++[MO.lst (vs.map D.int)]++[MO.lst ([D.int 0]++vs.map D.int)]).length=k3 at t3 b2
 generalize B1++[MO.lst [D.int 0]]++[MO.lst (vs.map D.int)]++[MO.lst ([D.int 0]++vs.map D.int)]++[MO.lst [D.int t,D.int m]]=B3 at wm3 t3
 simp only[xk]
 walk_at "dl"
 obtain⟨c3,hc3⟩:=wm3.get hc
 refine⟨w,c3,2,rfl,hc3,by decide,by decide,λv c4 v0 v2=>⟨_,bi (by lia) t3,?_⟩⟩
 have wm4:WM B w (B3.set w (ah c4)):=wm3.set hc _
 generalize B3.set w (ah c4)=B4 at wm4
 obtain⟨u,eu,tu⟩:∃u:Int,atI [D.int t,D.int m] v=some (.int u)/\t<=u:=by
  have:v=0\/v=1:=by lia
  rcases this with rfl | rfl
  ·exact⟨_,aM (j:=0) rfl,Int.le_refl _⟩
  ·exact⟨_,aM (j:=1) rfl,tm⟩
 rw[eu]
 obtain⟨c5,hc5⟩:=wm4.get hc
 refine⟨w,c5,3,rfl,hc5,by decide,by decide,λa c6 a0 a3=>?_⟩
 have wm5:WM B w (B4.set w (ah c6)):=wm4.set hc _
 generalize B4.set w (ah c6)=B5 at wm5
 obtain⟨c7,hc7⟩:=wm5.get hc
 refine⟨w,c7,2,rfl,hc7,by decide,by decide,λb c8 b0 b2=>?_⟩
 have wm6:WM B w (B5.set w (ah c8)):=wm5.set hc _
 generalize B5.set w (ah c8)=B6 at wm6
 have ab:0<=a*b:=Int.mul_nonneg a0 b0
 have tT:t<u+1+a*b:=by
  generalize a*b=s at ab
  lia
 refine⟨.inl ⟨by lia,by lia⟩,?_⟩
 exact log_8 (g.wm hw hc wm6) hw go few h1 hW hmem ht tT so sl dl ll cl hE
theorem IR(go:GenOk ps rs deeds las cnt)(g:LgAt ws M B hs las cnt sts deeds)(dl:deeds.length<=40)(h:∀(log:List D) (B:Mem),LogV ps rs log->GQ ws M B->R (.tup log) B) :
  mP (EE M R) [y0,y1,y2,y3,y4,y5,some (.ref (M.length+4)),y7,y8,y9,y10,y11,none] B:=by
 simp only[mP,ua]
 walk_at "dl"
 have nd:=CY go
 refine⟨deeds,.inl (ae g.deeds),λ_=>?_⟩
 refine bY (λi S M'=>∃a,M'=B++[.dkt (cF (deeds.take i))]/\S=[y0,y1,y2,y3,y4,y5,some (.ref (M.length+4)),y7,y8,y9,y10,a,some (.ref B.length)]) ?_ ?_ ⟨_,rfl,rfl⟩
 ·rintro S M' ⟨a,rfl,rfl⟩
  rw[ABQ]
  refine⟨.inl (ae g.deeds),?_⟩
  simp only[tZ]
  walk_at "dl"
  have ek:(cF deeds).map (·.1)=deeds.map stD:=by unfold cF;rw[AAd];rfl
  refine⟨_,aq,?_⟩
  rw[ek]
  refine⟨CW (λx hx=>by obtain⟨d,hd,rfl⟩:=AAI.mp hx;exact cZ (go.deed d hd).1) (by rw[AA4];lia),λys hp up=>⟨ys,ak,λhz=>?_⟩⟩
  refine aW (dO deeds) (λS=>∃a,S=[a,some (.ref B.length)]) ak _ _ _ (λs hs S hS=>?_) ⟨_,rfl⟩ (by rw[AAS,Nat.zero_add];exact hz) ?_
  ·obtain⟨a,rfl⟩:=hS
   obtain⟨d,hd,rfl⟩:=AAI.mp (hp.mem_iff.mp hs)
   have eg:=kT nd hd
   have eb:dO deeds (stD d)=d:=by unfold dO;rw[eg];rfl
   refine⟨[some (stD d),some (.ref B.length)],⟨_,rfl⟩,λY hY=>?_⟩
   rw[eb]at hY
   obtain⟨⟨t,hd',num,act,rfl,⟨x,k,rfl⟩,_⟩,_⟩:=go.deed d hd
   simp only[stD]at eg ⊢
   walk_at "dl"
   exact⟨_,_,ae aq,rfl,eg,hY⟩
  ·rw[AAY]
   refine⟨_,ak,.inl (h _ _ (IN go dl hp up) ⟨?_,λi x hi hx=>ae (ae (ae (g.kept.2 i x hi hx)))⟩)⟩
   have:=g.kept.1
   simp only[AA9,AAb]
   lia
 ·rintro i y S M' hy ⟨a,rfl,rfl⟩ G hG
  refine⟨.inl (ae g.deeds),?_⟩
  have hi:=(AA3.mp hy).1
  have fp:fy (cF (deeds.take i)) (stD y) y=cF (deeds.take (i+1)):=by
   rw[zL]
   ·rw[ABA,hy];rfl
   ·intro z
    have n2:((deeds.take i).map stD++[stD y]).Nodup:=by
     have:(deeds.map stD).take (i+1)=(deeds.take i).map stD++[stD y]:=by
      rw[<-List.map_take,ABA,hy,AAh];rfl
     rw[<-this]
     exact nd.sublist (ADM _ _)
    exact(List.nodup_append.mp n2).2.2 _ z _ (List.mem_singleton.mpr rfl) rfl
  obtain⟨⟨t,hd',num,act,rfl,⟨x,k,rfl⟩,_⟩,_⟩:=go.deed y (AB1 hy)
  walk_at "dl"
  refine⟨_,aq,rfl,?_,?_⟩
  ·have:(cF (deeds.take i)).length=i:=by
    unfold cF
    rw[AA4,AAe]
    lia
   rw[this]
   exact small1000 (by lia)
  ·refine Fgt.now (hG _ _ ⟨_,?_,rfl⟩)
   rw[<-fp]
   exact mT
theorem GS:WpT uY 13 Hb:=by
 rintro ds M R ⟨q,ws,p,ps,rs,r,rfl,hq,qw,hws,w40,few,h1,hW,h⟩
 simp only[Hb,xr,xq,xp,xo]
 walk_at "dl"
 have hln:=bI few.2
 refine⟨p::ps,_,rfl,few,AAV _,AAV _,?_⟩
 have e1:(M++[MO.lst (af (p::ps))]).length=M.length+1:=by simp
 have e2:(M++[MO.lst (af (p::ps))]++[MO.dkt []]).length=M.length+2:=by simp
 have e3:(M++[MO.lst (af (p::ps))]++[MO.dkt []]++[MO.dkt []]).length=M.length+3:=by simp
 have e4:(M++[MO.lst (af (p::ps))]++[MO.dkt []]++[MO.dkt []]++[MO.lst []]).length=M.length+4:=by simp
 rw[e1,e2,e3,e4]
 have g0:LgAt ws M (M++[MO.lst (af (p::ps))]++[MO.dkt []]++[MO.dkt []]++[MO.lst []]++[MO.lst []]) (af (p::ps)) [] [] [] []:=by
  refine⟨⟨by simp,λi x _ hx=>ae (ae (ae (ae (ae hx))))⟩,λw hw=>?_,ae (ae (ae (ae aq))),?_,?_,?_,?_⟩
  ·obtain⟨c,hc⟩:=hws w hw
   exact⟨aE hc,c,ae (ae (ae (ae (ae hc))))⟩
  ·rw[<-e1];exact ae (ae (ae aq))
  ·rw[<-e2];exact ae (ae aq)
  ·rw[<-e3];exact ae aq
  ·rw[<-e4];exact aq
 generalize M++[MO.lst (af (p::ps))]++[MO.dkt []]++[MO.dkt []]++[MO.lst []]++[MO.lst []]=B0 at g0
 simp only[xm]
 walk_at "dl"
 refine⟨_,g0.kept.lst qw hq,λ_=>?_⟩
 refine bY (λi S M'=>∃las cnt sts deeds a b c d e,GenOk (p::ps) rs deeds las cnt/\LgAt ws M M' (af (p::ps)) las cnt sts deeds/\Sts (p::ps) sts/\sts.length<=i/\deeds.length<=i/\las.length<=i/\cnt.length<=i/\S=[some (.ref q),some (.tup (.tup (aG p::ps.map aG)::.tup (rs.map bB)::r)),some (.ref M.length),some (.ref (M.length+1)),some (.ref (M.length+2)),some (.ref (M.length+3)),some (.ref (M.length+4)),a,b,c,d,e,none]) ?_ ?_ ⟨[],[],[],[],_,_,_,_,_,FT,g0,(λ_ z=>nomatch z),AAC _,AAC _,AAC _,AAC _,rfl⟩
 ·rintro S M' ⟨las,cnt,sts,deeds,a,b,c,d,e,go,g,so,sl,dl,ll,cl,rfl⟩
  refine⟨g.kept.lst qw hq,?_⟩
  rw[AA4]at dl
  exact IR go g (by lia) h
 ·rintro i y S M' hy ⟨las,cnt,sts,deeds,a,b,c,d,e,go,g,so,sl,dl,ll,cl,rfl⟩ G hG
  refine⟨g.kept.lst qw hq,?_⟩
  rw[AAU]at hy
  obtain⟨w,hw,rfl⟩:=ABg.mp hy
  have hi:=(AA3.mp hw).1
  simp only[ax,List.set_cons_zero,List.set_cons_succ]
  exact Bv g (AB1 hw) go few h1 hW so (by lia) (by lia) (by lia) (by lia) λlas' cnt' sts' deeds' B' a b c d go' g' so' s1 s2 s3 s4=>Fgt.now (hG _ _ ⟨las',cnt',sts',deeds',_,_,_,_,_,go',g',so',by lia,by lia,by lia,by lia,rfl⟩)
theorem IC(T:Tops P w K mg base):Cal P w K mg base 5 "_law_log" EB uY :=
 Cal.byD (N:=["_law_wells_here","_law_house_here","_law_hands_here","_law_last","_law_counts","_law_stamps","_law_deeds","_law_well_here","_law_hand","_law_times","_law_time","_law_deed","_law_found"]) T.b T.f_log (by walk_at "sc") EY (by have:=cf T;have:=gL T;have:=ID T;walk_at "dv") GS
def nY:DSp:=λds M R=>∃(n:Nat) (c:Int) (ps:List (Str×Int)) (r log:List D),ds=[.ref n,.tup (.tup (ps.map aG)::r),.tup log]/\M[n]?=some (ah c)/\Few ps/\LogN log/\(∀d∈log,ay d∈af ps)/\∀(a:D->Int) (c':Int),R (.ref M.length) (M.set n (ah c')++[.lst (aN a log)])
theorem BB:bQ nY yt:=by rintro ds M R ⟨n,c,ps,r,log,rfl,_⟩;rfl
theorem AO:x∈(fy kvs k v).map (·.1)↔x∈kvs.map (·.1)\/x=k:=by
 unfold fy
 split
 ·rename_i hs
  have e:(kvs.map λp=>if p.1=k then(p.1,v)else p).map (·.1)=kvs.map (·.1):=by
   rw[AAd]
   refine AC1 λp _=>?_
   show (if p.1=k then(p.1,v)else p).1=p.1
   split<;>rfl
  rw[e]
  refine⟨.inl,λh=>h.elim id λh=>?_⟩
  subst h
  unfold cY at hs
  rw[ACN]at hs
  obtain⟨q,hq⟩:=ACM.mp hs
  have:=ADy hq
  exact AAI.mpr ⟨q,ACI hq,oT_ this⟩
 ·rw[AAh,AAL]
  simp
theorem JH(h:x∈kvs.map (·.1))(hv:∀p∈kvs,∃t:Int,p.2=.int t):∃i:Int,cY kvs x=some (.int i):=by
 unfold cY
 cases e:kvs.find? λp=>decide (p.1=x) with
 | none =>
  obtain⟨p,hp,rfl⟩:=AAI.mp h
  exact absurd (dT_ rfl) (List.find?_eq_none.mp e p hp)
 | some q =>
  obtain⟨i,ei⟩:=hv q (ACI e)
  exact⟨i,by rw[<-ei];rfl⟩
def tW:DTS:=aX (dLC 1 [3] (bo (ac 2)) (ax 0) (aB (dOp qLt (dOp qIx (ac 0) (dC (.int 2))) (zW (ac 1) (dOp qIx (ac 0) (dC (.int 1)))))) (ac 0))
def tX:DTS:=nQ (ac 3) (ac 4) (dOp qIx (gW (aa (dC (.int 0)) (aa (ac 5) (aa (dCB ar (aa (ac 0) (aa (dOp aP (ac 5) (dC (.int 1))) ag))) (aa (dCB ar (aa (ac 0) (aa (dOp aP (ac 5) (dC (.int 1))) ag))) ag))))) (dCB ar (aa (ac 0) (aa (dC (.int 4)) ag))))
def tY:DTS:=aF (oo (bo (dCB cr (aa (ac 1) ag))) (ax 4) (aF (bq (dCB eP (aa (dLC 1 [4] (bo (ac 2)) (ax 0) (aB (dOp qEq (dOp qIx (ac 0) (dC (.int 1))) (ac 1))) (ac 0)) ag)) 5) (tX))) (tW)
def CT:DTS:=aF (bq (nR) 3) (tY)
theorem DB:WpT nY 6 CT:=by
 rintro ds M R ⟨n,c,ps,r,log,rfl,hn,few,ok,hh,h⟩
 have nM:=aE hn
 have hln:=bI few.2
 have f4:=few.1
 have ll:=ok.len
 simp only[CT,tY]
 walk_at "dl"
 refine⟨ps,_,rfl,few,?_⟩
 have e1:(M++[MO.dkt []]).length=M.length+1:=by simp
 have wm0:WM M n (M++[MO.dkt []]++[MO.lst (af ps)]):=((WM.now hn).app _).app _
 have gd0:(M++[MO.dkt []]++[MO.lst (af ps)])[M.length]?=some (.dkt []):=ae aq
 have gl0:(M++[MO.dkt []]++[MO.lst (af ps)])[M.length+1]?=some (.lst (af ps)):=by rw[<-e1];exact aq
 rw[e1]
 generalize M++[MO.dkt []]++[MO.lst (af ps)]=B0 at wm0 gd0 gl0
 refine⟨_,.inl gl0,λ_=>?_⟩
 refine bY (λi S M'=>∃kvs a b,WM M n M'/\M'[M.length]?=some (.dkt kvs)/\M'[M.length+1]?=some (.lst (af ps))/\kvs.length<=i/\(∀p∈kvs,∃t:Int,p.2=.int t)/\(∀x∈(af ps).take i,x∈kvs.map (·.1))/\S=[some (.ref n),some (.tup (.tup (ps.map aG)::r)),some (.tup log),some (.ref M.length),a,b]) ?_ ?_ ⟨[],_,_,wm0,gd0,gl0,AAC _,(λ_ z=>nomatch z),(λ_ z=>nomatch z),rfl⟩
 ·rintro S M' ⟨kvs,a,b,wm,gd,gl,_,hv,hk,rfl⟩
  refine⟨.inl gl,?_⟩
  rw[ABQ]at hk
  simp only[tW]
  walk_at "dl"
  intro hz
  refine bt (λd=>decide (cu d<match cY kvs (ay d)with | some (.int i)=>i | _=>0)) id (λS=>∃a,S=[a,some (.ref M.length)]) trivial _ _ _ ?_ ⟨_,rfl⟩ (by simpa using hz) ?_
  ·rintro y hy S ⟨a,rfl⟩
   refine⟨[some y,some (.ref M.length)],⟨_,rfl⟩,λY Z hYZ=>?_⟩
   obtain⟨i,ei⟩:=JH (hk _ (hh y hy)) hv
   rw[ei]at hYZ
   obtain⟨t,hd',num,act,rfl,⟨z,k,rfl⟩,_⟩:=ok.deed y hy
   walk_at "dl"
   exact⟨_,_,gd,rfl,ei,hYZ⟩
  ·rw[AAY,ADR]
   obtain⟨c',L,rfl⟩:=wm
   refine aI.chgL (Chg.set .refl (by show Bels _ [D.int c'];exact .cons (.int _) .nil)) (h (λx=>match cY kvs x with | some (.int i)=>i | _=>0) c') ?_ aq ?_ (gU λd hd=>ok.deed d (AAX.mp hd).1)
   ·rw[AA9,AAa];lia
   ·rw[AAs];exact AAx _ _
 ·rintro i y S M' hy ⟨kvs,a,b,wm,gd,gl,kl,hv,hk,rfl⟩ G hG
  refine⟨.inl gl,?_⟩
  have hi:=(AA3.mp hy).1
  have hyd:Hd y:=dk (AB1 hy)
  simp only[tX]
  walk_at "dl"
  intro hz
  refine bt (λd=>decide (ay d=y)) id (λS=>∃a,S=[a,some y]) trivial _ _ _ ?_ ⟨_,rfl⟩ (by simpa using hz) ?_
  ·rintro x hx S ⟨a,rfl⟩
   refine⟨[some x,some y],⟨_,rfl⟩,λY Z hYZ=>?_⟩
   obtain⟨t,hd',num,act,rfl,hhd,_⟩:=ok.deed x hx
   walk_at "dl"
   refine⟨⟨wn hhd,wn hyd⟩,?_⟩
   have e:eqD M' eqN hd' y=decide (hd'=y):=by
    by_cases q:hd'=y
    ·rw[dT_ q];exact(zG (n:=29) hhd hyd).mpr q
    ·rw[dF_ q];exact ABW.mpr λz=>q ((zG (n:=29) hhd hyd).mp z)
   rw[e]
   exact hYZ
  ·rw[AAY,ADR]
   generalize hL:log.filter (λd=>decide (ay d=y))=L
   have l40:L.length<=40:=by rw[<-hL];exact AAp (ACm _ _) ll
   refine⟨_,ak,?_⟩
   have wm1:=wm.app [MO.lst L]
   have gd1:=ae (a:=MO.lst L) gd
   have gl1:=ae (a:=MO.lst L) gl
   generalize M'++[MO.lst L]=B1 at wm1 gd1 gl1
   obtain⟨c1,hc1⟩:=wm1.get hn
   refine⟨n,c1,L.length+1,rfl,hc1,by lia,by lia,λv c2 v0 v1=>?_⟩
   have wm2:WM M n (B1.set n (ah c2)):=wm1.set hn _
   have gd2:(B1.set n (ah c2))[M.length]?=some (.dkt kvs):=am (by lia) gd1
   have gl2:(B1.set n (ah c2))[M.length+1]?=some (.lst (af ps)):=am (by lia) gl1
   generalize B1.set n (ah c2)=B2 at wm2 gd2 gl2
   obtain⟨c3,hc3⟩:=wm2.get hn
   refine⟨n,c3,L.length+1,rfl,hc3,by lia,by lia,λu c4 u0 u1=>⟨aA (by lia),?_⟩⟩
   have wm3:WM M n (B2.set n (ah c4)):=wm2.set hn _
   have gd3:(B2.set n (ah c4))[M.length]?=some (.dkt kvs):=am (by lia) gd2
   have gl3:(B2.set n (ah c4))[M.length+1]?=some (.lst (af ps)):=am (by lia) gl2
   generalize B2.set n (ah c4)=B3 at wm3 gd3 gl3
   have wm4:=wm3.app [MO.lst [D.int 0,D.int (L.length:Int),D.int v,D.int u]]
   have gd4:=ae (a:=MO.lst [D.int 0,D.int (L.length:Int),D.int v,D.int u]) gd3
   have gl4:=ae (a:=MO.lst [D.int 0,D.int (L.length:Int),D.int v,D.int u]) gl3
   have t4:ao (B3++[MO.lst [D.int 0,D.int (L.length:Int),D.int v,D.int u]]) B3.length [D.int 0,D.int (L.length:Int),D.int v,D.int u]:=ak
   have b3:=aE gl3
   generalize B3++[MO.lst [D.int 0,D.int (L.length:Int),D.int v,D.int u]]=B4 at wm4 gd4 gl4 t4
   generalize B3.length=k4 at t4 b3
   obtain⟨c5,hc5⟩:=wm4.get hn
   refine⟨n,c5,4,rfl,hc5,by decide,by decide,λw c6 w0 w4=>⟨_,bi (by lia) t4,?_⟩⟩
   obtain⟨x,ex⟩:∃x:Int,atI [D.int 0,D.int (L.length:Int),D.int v,D.int u] w=some (.int x):=by
    have:w=0\/w=1\/w=2\/w=3:=by lia
    rcases this with rfl | rfl | rfl | rfl
    ·exact⟨_,aM (j:=0) rfl⟩
    ·exact⟨_,aM (j:=1) rfl⟩
    ·exact⟨_,aM (j:=2) rfl⟩
    ·exact⟨_,aM (j:=3) rfl⟩
   rw[ex]
   obtain⟨z,k,rfl⟩:=hyd
   have pl:=dG (kvs:=kvs) (k:=.tup [.str z,.int k]) (d:=.int x)
   refine⟨kvs,am (by lia) gd4,rfl,small1000 (by lia),Fgt.now (hG _ _ ⟨fy kvs (.tup [.str z,.int k]) (.int x),_,_,(wm4.set hn _).hi (by lia),aQ (am (by lia) gd4),am (by lia) (am (by lia) gl4),by lia,pV hv,λy hy'=>?_,rfl⟩)⟩
   rw[ABA,hy,AAL]at hy'
   refine AO.mpr (hy'.elim (λq=>.inl (hk y q)) λq=>.inr ?_)
   simpa using q
theorem EK(T:Tops P w K mg base):Cal P w K mg base 2 "_law_part" yt nY :=
 Cal.byD (N:=["_law_well_here","_law_house_here","_law_log_here","_law_counts","_law_hand","_law_many"]) T.b T.f_part (by walk_at "sc") BB (by have:=cf T;have:=gL T;walk_at "dv") DB
def eW:DSp:=λds M R=>∃(n:Nat) (c0:Int) (ps:List (Str×Int)) (r log:List D) (a:D->Int),ds=[.ref n,.tup (.tup (ps.map aG)::r),.tup log,.tup (aN a log)]/\M[n]?=some (ah c0)/\Few ps/\LogN log/\(∀d∈log,ay d∈af ps)/\∀(c:D->Int) (xs:List D) (c':Int),(∀x∈xs,x∈log)->(∀x,x∈aN a log++xs↔x∈aN (λh=>max (a h) (c h)) log)->xs.length<=100->R (.ref M.length) (M.set n (ah c')++[.lst xs])
theorem we:bQ eW nb:=by rintro ds M R ⟨n,c0,ps,r,log,a,rfl,_⟩;rfl
theorem iC:x∈aN c log↔x∈log/\cu x<c (ay x):=by
 unfold aN
 rw[AAX,decide_eq_true_eq]
theorem ET(p:M <+: B)(l:ao M q xs):ao B q xs:=by
 obtain⟨L,rfl⟩:=p
 exact l.more L
theorem zv{fd:List D}{x y:D}{j:Nat}:x∈fd.take j++y::fd.drop j↔x∈fd\/x=y:=by
 conv=>rhs;rw[<-List.take_append_drop j fd]
 simp only[AAL,AAF]
 constructor
 ·rintro(q | q | q)
  ·exact .inl (.inl q)
  ·exact .inr q
  ·exact .inl (.inr q)
 ·rintro((q | q) | q)
  ·exact .inl q
  ·exact .inr (.inr q)
  ·exact .inr (.inl q)
theorem zw{fd:List D}{y:D}{j:Nat}:(fd.take j++y::fd.drop j).length=fd.length+1:=by
 rw[AA9,AAD,AAe,ABe];lia
def lY:DTS:=aX (ac 6)
def lZ:DTS:=dIf (aB (dOp qEq (dCB ar (aa (ac 0) (aa (dC (.int 6)) ag))) (dC (.int 1)))) (eU (dMl il (ac 6) (aa (dCB ar (aa (ac 0) (aa (dOp aP (dCB eP (aa (ac 6) ag)) (dC (.int 1))) ag))) (aa (ac 7) ag)))) aR
def md:DTS:=aF (oo (bo (ac 5)) (ax 7) (aF (eU (dMl il (ac 6) (aa (dCB ar (aa (ac 0) (aa (dOp aP (dCB eP (aa (ac 6) ag)) (dC (.int 1))) ag))) (aa (ac 7) ag)))) (lZ))) (lY)
def ii:DTS:=aF (bq (gW ag) 6) (md)
def me:DTS:=aF (kX 1 [3,0] (bo (ac 4)) (ax 0) (dOr (aB (dOp pR (ac 0) (ac 1))) (aB (dOp qEq (dCB ar (aa (ac 2) (aa (dC (.int 2)) ag))) (dC (.int 0))))) (ac 0) 5) (ii)
def uo:DTS:=aF (bq (dCB nY (aa (ac 0) (aa (ac 1) (aa (ac 2) ag)))) 4) (me)
theorem wQ:WpT eW 8 uo:=by
 rintro ds M R ⟨n,c0,ps,r,log,a,rfl,hn,few,ok,hh,h⟩
 have nM:=aE hn
 have ll:=ok.len
 have ca:∀x∈aN a log,x∈log:=λx hx=>ci hx
 simp only[uo]
 walk_at "dl"
 refine⟨n,c0,ps,r,log,rfl,hn,few,ok,hh,λb c1=>?_⟩
 have wm1:WM M n (M.set n (ah c1)++[.lst (aN b log)]):=⟨c1,_,rfl⟩
 have g4:(M.set n (ah c1)++[MO.lst (aN b log)])[M.length]?=some (.lst (aN b log)):=by
  have:=aq (M:=M.set n (ah c1)) (mo:=MO.lst (aN b log))
  rw[AAa]at this
  exact this
 generalize M.set n (ah c1)++[MO.lst (aN b log)]=B1 at wm1 g4
 have lb:=(cN (c:=b) ok).len
 have bl:∀x∈aN b log,x∈log:=λx hx=>ci hx
 simp only[me]
 walk_at "dl"
 refine⟨_,.inl g4,λ_=>?_⟩
 refine cq (λys acc S B=>∃done,aN b log=done++ys/\WM M n B/\B[M.length]?=some (.lst (aN b log))/\(∀x∈acc,x∈aN b log)/\(∀x∈done,x∉aN a log->x∈acc)/\acc.length<=done.length/\∃y,S=[y,some (.tup (aN a log)),some (.ref n)]) ?_ ?_ _ _ _ _ ⟨[],rfl,wm1,g4,(λ_ z=>nomatch z),(λ_ z=>nomatch z),AAC _,_,rfl⟩
 ·rintro acc S B ⟨done,ed,wm,g4,ab,all,al,y,rfl⟩
  rw[AB8]at ed
  subst ed
  refine⟨.inl g4,?_⟩
  have bl':=wm.len
  have wm2:=wm.app [MO.lst acc]
  have g5:(B++[MO.lst acc])[B.length]?=some (.lst acc):=aq
  generalize B++[MO.lst acc]=B2 at wm2 g5
  generalize B.length=q5 at g5 bl'
  show ii _ [some (.ref n),some (.tup (.tup (ps.map aG)::r)),some (.tup log),some (.tup (aN a log)),some (.ref M.length),some (.ref q5),none,none] B2
  simp only[ii]
  walk_at "dl"
  refine⟨AAV _,?_⟩
  have q56:=aE g5
  have wm3:=wm2.app [MO.lst []]
  have g6:(B2++[MO.lst []])[B2.length]?=some (.lst []):=aq
  replace g5:=ae (a:=MO.lst []) g5
  generalize B2++[MO.lst []]=B3 at wm3 g5 g6
  generalize B2.length=q6 at g6 q56
  simp only[md]
  walk_at "dl"
  refine⟨_,.inl g5,λ_=>?_⟩
  refine bY (λi S M'=>∃fd y,WM M n M'/\M'[q5]?=some (.lst acc)/\M'[q6]?=some (.lst fd)/\(∀x,x∈fd↔x∈acc.take i)/\fd.length<=2*i/\S=[some (.ref n),some (.tup (.tup (ps.map aG)::r)),some (.tup log),some (.tup (aN a log)),some (.ref M.length),some (.ref q5),some (.ref q6),y]) ?_ ?_ ⟨[],_,wm3,g5,g6,λx=>Iff.rfl,AAC _,rfl⟩
  ·rintro S M' ⟨fd,y,wm,g5,g6,hf,fl,rfl⟩
   rw[ABQ]at hf
   refine⟨.inl g5,?_⟩
   simp only[lY]
   walk_at "dl"
   obtain⟨c',L,rfl⟩:=wm
   have fl':∀x∈fd,x∈log:=λx hx=>bl x (ab x ((hf x).mp hx))
   refine aI.chgL (Chg.set .refl (by show Bels _ [D.int c'];exact .cons (.int _) .nil)) (h b fd c' fl' (λx=>?_) (by lia)) (by lia) g6 (AAx _ _) (gU λd hd=>ok.deed d (fl' d hd))
   rw[AAL,hf,iC,iC]
   constructor
   ·rintro(⟨q1,q2⟩ | q)
    ·exact⟨q1,by show cu x<max _ _;lia⟩
    ·obtain⟨q1,q2⟩:=iC.mp (ab x q)
     exact⟨q1,by show cu x<max _ _;lia⟩
   ·rintro⟨q1,q2⟩
    have q2:cu x<max (a (ay x)) (b (ay x)):=q2
    by_cases c:cu x<a (ay x)
    ·exact .inl ⟨q1,c⟩
    ·exact .inr (all x (iC.mpr ⟨q1,by lia⟩) λz=>c (iC.mp z).2)
  ·rintro i y S M' hy ⟨fd,y',wm,g5,g6,hf,fl,rfl⟩ G hG
   have hm:=AB1 hy
   have hi:=(AA3.mp hy).1
   have et:acc.take (i+1)=acc.take i++[y]:=by rw[ABA,hy];rfl
   refine⟨.inl g5,?_⟩
   obtain⟨cM,hcM⟩:=wm.get hn
   walk_at "dl"
   refine⟨⟨_,.inl g6⟩,_,.inl g6,n,cM,_,rfl,hcM,by lia,by lia,λv c2 v0 v1=>⟨fd,v.toNat,am (by lia) g6,(ADs v0).symm,by lia,by lia,?_⟩⟩
   have wm5:WM M n ((M'.set n (ah c2)).set q6 (.lst (fd.take v.toNat++y::fd.drop v.toNat))):=(wm.set hn _).hi (by lia)
   replace g5:((M'.set n (ah c2)).set q6 (.lst (fd.take v.toNat++y::fd.drop v.toNat)))[q5]?=some (.lst acc):=am (by lia) (am (by lia) g5)
   have g7:((M'.set n (ah c2)).set q6 (.lst (fd.take v.toNat++y::fd.drop v.toNat)))[q6]?=some (.lst (fd.take v.toNat++y::fd.drop v.toNat)):=aQ (am (by lia) g6)
   have hf':∀x,x∈fd.take v.toNat++y::fd.drop v.toNat↔x∈acc.take (i+1):=λx=>by rw[zv,hf,et,AAL,AAP]
   have fl':(fd.take v.toNat++y::fd.drop v.toNat).length=fd.length+1:=zw
   generalize (M'.set n (ah c2)).set q6 (.lst (fd.take v.toNat++y::fd.drop v.toNat))=B5 at wm5 g5 g7
   generalize fd.take v.toNat++y::fd.drop v.toNat=fe at g7 hf' fl'
   obtain⟨c3,hc3⟩:=wm5.get hn
   simp only[lZ]
   walk_at "dl"
   refine⟨n,c3,6,rfl,hc3,by decide,by decide,λu c4 u0 u1=>⟨⟨au,au⟩,?_⟩⟩
   have wm6:=wm5.set hn c4
   have g8:(B5.set n (ah c4))[q5]?=some (.lst acc):=am (by lia) g5
   have g9:(B5.set n (ah c4))[q6]?=some (.lst fe):=am (by lia) g7
   generalize B5.set n (ah c4)=B6 at wm6 g8 g9
   split
   ·obtain⟨c5,hc5⟩:=wm6.get hn
    refine⟨⟨_,.inl g9⟩,_,.inl g9,n,c5,_,rfl,hc5,by lia,by lia,λv c6 v0 v1=>⟨fe,v.toNat,am (by lia) g9,(ADs v0).symm,by lia,by lia,Fgt.now (hG _ _ ⟨_,_,(wm6.set hn _).hi (by lia),am (by lia) (am (by lia) g8),aQ (am (by lia) g9),λx=>?_,by rw[zw];lia,rfl⟩)⟩⟩
    rw[zv,hf',et,AAL,AAP]
    exact⟨λq=>q.elim id .inr,.inl⟩
   ·exact Fgt.now (hG _ _ ⟨_,_,wm6,g8,g9,hf',by lia,rfl⟩)
 ·rintro x ys acc S B ⟨done,ed,wm,g4,ab,all,al,y,rfl⟩ K hK
  refine⟨.inl g4,?_⟩
  have hxb:x∈aN b log:=by rw[ed];simp
  have dl:done.length<40:=by
   have:=congrArg ACV ed
   rw[AA9,AAD]at this
   lia
  have yes:∀B',WM M n B'->B'[M.length]?=some (.lst (aN b log))->acc.length<sizeLine/\K (acc++[x]) [some x,some (.tup (aN a log)),some (.ref n)] B':=λB' w g=>⟨small1000 (by lia),hK _ _ _ ⟨done++[x],by rw[ed,AAs];rfl,w,g,λz hz=>?_,λz hz nz=>?_,by rw[AA9,AA9,AAb];lia,_,rfl⟩⟩
  ·walk_at "dl"
   refine⟨BN (ok.deed x (bl x hxb)) λy hy=>ok.deed y (ca y hy),?_⟩
   show if (inD B x (aN a log) != true)=true then _ else _
   rw[uM ok ca (bl x hxb)]
   by_cases c:x∈aN a log
   ·rw[dT_ c]
    obtain⟨cM,hcM⟩:=wm.get hn
    refine bp ⟨n,cM,2,rfl,hcM,by decide,by decide,λi c' i0 i2=>⟨⟨au,au⟩,?_⟩⟩
    have w':=wm.set hn c'
    have g':(B.set n (ah c'))[M.length]?=some (.lst (aN b log)):=am (by lia) g4
    split
    ·exact yes _ w' g'
    ·refine hK _ _ _ ⟨done++[x],by rw[ed,AAs];rfl,w',g',ab,λz hz nz=>?_,by rw[AA9];lia,_,rfl⟩
     rcases AAL.mp hz with hz | hz
     ·exact all z hz nz
     ·rw[AAP.mp hz]at nz;exact absurd c nz
   ·rw[dF_ c]
    exact bu (yes _ wm g4)
  ·rcases AAL.mp hz with hz | hz
   ·exact ab z hz
   ·rw[AAP.mp hz];exact hxb
  ·rcases AAL.mp hz with hz | hz
   ·exact ABb _ (all z hz nz)
   ·exact AAR _ hz
theorem yD(T:Tops P w K mg base):Cal P w K mg base 3 "_law_bundle" nb eW :=
 Cal.byD (N:=["_law_well_here","_law_house_here","_law_log_here","_law_there","_law_part_here","_law_some","_law_found","_law_deed"]) T.b T.f_bundle (by walk_at "sc") we (by have:=cf T;have:=EK T;walk_at "dv") wQ
theorem EZ:bQ Fb EC:=by rintro ds M R ⟨ns,mo,_,_,rfl,_⟩;rfl
theorem FR{M B:Mem}{q:Nat}{x:MO}(p:M <+: B)(l:M[q]?=some x):B[q]?=some x:=by
 obtain⟨L,rfl⟩:=p
 rw[AAJ (aE l)];exact l
theorem GV(w:WM M n B)(hq:q≠n)(l:ao M q xs):ao B q xs:=by
 obtain⟨c,L,rfl⟩:=w
 exact(bi hq l).more L
theorem Gz(ok:LogN log):aN (λh=>(many log h:Int)) log=log:=by
 refine List.filter_eq_self.mpr λd hd=>dT_ ?_
 obtain⟨i,e,hi⟩:=Dc ok hd
 show cu d<(many log (ay d):Int)
 lia
theorem Cs(ok:LogN log):aN (λ_=>0) log=[]:=by
 refine ADL.mpr λd hd z=>?_
 obtain⟨i,e,hi⟩:=Dc ok hd
 have:cu d<0:=oT_ z
 lia
theorem zU(h:DeedV ps rs d)(hd:rz d):1<=eA d:=by
 obtain⟨t,h',num,act,rfl,_⟩:=hd
 have k:=h.ok []
 simp only[wx,bT,AAN]at k
 exact oT_ k.1.1
theorem EV(ok:LogN log):LogN (log.filter λd=>!decide (ay d=own)):=by
 refine⟨λd hd=>ok.deed d (AAX.mp hd).1,AAp (ACm _ _) ok.len,λh=>?_,ok.up.filter _⟩
 have e:(log.filter λd=>!decide (ay d=own)).filter (λd=>decide (ay d=h))=if h=own then[]else log.filter λd=>decide (ay d=h):=by
  rw[List.filter_filter]
  split
  ·rename_i q
   refine ADL.mpr λd _ z=>?_
   rw[AAN,Bool.not_eq_true',decide_eq_true_eq,decide_eq_false_iff_not]at z
   exact z.2 (z.1.trans q)
  ·rename_i q
   refine List.filter_congr λd _=>?_
   by_cases c:ay d=h
   ·rw[dT_ c,dF_ (λz=>q (c.symm.trans z))];rfl
   ·rw[dF_ c,ACt]
 have n:=ok.nums h
 unfold many at n ⊢
 rw[e]
 split
 ·rfl
 ·exact n
structure LwH(B:Mem)(hd own:D)(L:List D)(hq r q b:Nat)(vs:List Nat)(a:D->Int):Prop where
 hd:B[hq]?=some (.ins (AA1 "Hand") (qE hd own r (aN a L)))
 rl:r<B.length
 ls:B[q]?=some (.lst (vs.map .ref))
 ws:∀v∈vs,∃c,B[v]?=some (ah c)
 ne:hq≠q/\∀v∈vs,v≠hq/\v≠q
 bd:hq<b/\q<b/\(∀v∈vs,v<b)/\b<=B.length
section
variable{B:Mem}{hd own:D}{L:List D}{hq r q b:Nat}{vs:List Nat}{a c:D->Int}
theorem LwH.more(w:LwH B hd own L hq r q b vs a):LwH (B++X) hd own L hq r q b vs a:=by
 have up:∀{i x},B[i]?=some x->(B++X)[i]?=some x:=λ{i x} h=>by rw[AAJ (aE h)];exact h
 have rl:=w.rl
 have bl:=w.bd.2.2.2
 exact⟨up w.hd,by rw[AA9];lia,up w.ls,λv hv=>let ⟨c,h⟩:=w.ws v hv;⟨c,up h⟩,w.ne,w.bd.1,w.bd.2.1,w.bd.2.2.1,by rw[AA9];lia⟩
theorem LwH.well(w:LwH B hd own L hq r q b vs a)(hv:v∈vs):LwH (B.set v (ah i)) hd own L hq r q b vs a:=by
 obtain⟨n1,n2⟩:=w.ne.2 v hv
 refine⟨am (AAt n1) w.hd,by rw[AAa];exact w.rl,am (AAt n2) w.ls,λu hu=>?_,w.ne,w.bd.1,w.bd.2.1,w.bd.2.2.1,by rw[AAa];exact w.bd.2.2.2⟩
 obtain⟨c,h⟩:=w.ws u hu
 by_cases e:u=v
 ·subst e;exact⟨i,aQ h⟩
 ·exact⟨c,am e h⟩
theorem LwH.hear(w:LwH B hd own L hq r q b vs a):LwH (B.set hq (.ins (AA1 "Hand") (qE hd own r (aN c L)))) hd own L hq r q b vs c :=
 ⟨aQ w.hd,by rw[AAa];exact w.rl,am (AAt w.ne.1) w.ls,λu hu=>let ⟨c,h⟩:=w.ws u hu;⟨c,am (w.ne.2 u hu).1 h⟩,w.ne,w.bd.1,w.bd.2.1,w.bd.2.2.1,by rw[AAa];exact w.bd.2.2.2⟩
theorem LwH.far(w:LwH B hd own L hq r q b vs a)(hk:b<=k):LwH (B.set k x) hd own L hq r q b vs a:=by
 obtain⟨b1,b2,b3,b4⟩:=w.bd
 exact⟨am (by lia) w.hd,by rw[AAa];exact w.rl,am (by lia) w.ls,λu hu=>let ⟨c,h⟩:=w.ws u hu;⟨c,am (by have:=b3 u hu;lia) h⟩,w.ne,b1,b2,b3,by rw[AAa];exact b4⟩
end
def ue:DTS:=aX (db (dOp qEq (qO "Hand" "hear" bJ (ac 4) (aa (ac 5) ag)) (dOp AN (dCB eP (aa (ac 5) ag)) (dCB eP (aa (ac 6) ag)))) (dOp qEq (qO "Hand" "heard" bO (ac 4) ag) (ac 5)))
def uf:DTS:=bq (ac 10) 6
def ug:DTS:=aF (dIf (dOr (qN (aB (dCB pS (aa (ac 13) (aa (dC (.ty "tuple")) ag))))) (dOr (aB (dOp qNe (ac 13) (ac 10))) (aB (dOp qNe (qO "Hand" "hear" bJ (ac 4) (aa (gW ag) ag)) (dC (.int 0)))))) (aX (dC (.bl false))) aR) (uf)
def uh:DTS:=aF (bq (qO "Hand" "heard" bO (ac 4) ag) 13) (ug)
def ui:DTS:=aF (eU (dMl0 pT (ac 8))) (uh)
def uj:DTS:=aF (dIf (aB (dOp qNe (dCB cy (aa (ac 8) ag)) (ac 9))) (aX (dC (.bl false))) aR) (ui)
def uk:DTS:=aF (dIf (dOr (qN (aB (dCB pS (aa (ac 12) (aa (dC (.ty "int")) ag))))) (dOr (aB (dCB pS (aa (ac 12) (aa (dC (.ty "bool")) ag)))) (aB (dOp qNe (ac 12) (dOp AN (dCB eP (aa (ac 10) ag)) (dCB eP (aa (ac 6) ag))))))) (aX (dC (.bl false))) aR) (uj)
def ul:DTS:=aF (bq (qO "Hand" "hear" bJ (ac 4) (aa (ac 11) ag)) 12) (uk)
def xt:DTS:=aF (bq (dOp qIx (gW (aa (ac 8) (aa (ac 9) ag))) (dCB ar (aa (ac 7) (aa (dC (.int 2)) ag)))) 11) (ul)
def xu:DTS:=aF (bq (dCB cy (aa (dLC 1 [6,8] (bo (ac 5)) (ax 0) (dOr (aB (dOp qIn (ac 0) (ac 1))) (aB (dOp qIn (ac 0) (ac 2)))) (ac 0)) ag)) 10) (xt)
def rN:DTS:=aF (bq (dCB cy (aa (ac 8) ag)) 9) (xu)
def xv:DTS:=aF (oo (bo (dOp aP (dCB hI (aa (ac 0) (aa (dC (.int 43)) (aa (dC (.int 12)) ag)))) (gW (aa (ac 2) ag)))) (ax 7) (aF (bq (dCB eW (aa (ac 7) (aa (ac 1) (aa (ac 5) (aa (ac 6) ag))))) 8) (rN))) (ue)
def xw:DTS:=aF (bq (iJ ag) 6) (xv)
def xx:DTS:=aF (bq (dCB cy (aa (dLC 1 [3] (bo (dCB uY (aa (dCB hI (aa (ac 0) (aa (dC (.int 2)) (aa (dC (.int 40)) ag)))) (aa (ac 1) ag)))) (ax 0) (aB (dOp qNe (dOp qIx (ac 0) (dC (.int 1))) (ac 1))) (ac 0)) ag)) 5) (xw)
def rO:DTS:=aF (bq (Gx "Hand" cU (aa (ac 1) (aa (dOp qIx (ac 3) (dC (.int 0))) (aa (dOp qIx (ac 3) (dC (.int 1))) ag)))) 4) (xx)
def xy:DTS:=aF (bq (dOp qIx (dCB cr (aa (ac 1) ag)) (dCB ar (aa (ac 2) (aa (dCB eP (aa (dCB cr (aa (ac 1) ag)) ag)) ag)))) 3) (rO)
def xz:DTS:=aF (bq (dCB kZ (aa (dCB cw (aa (ac 0) (aa (dC (.int 1)) ag))) (aa (dC (.int 2)) ag))) 2) (xy)
def Hc:DTS:=aF (bq (dCB ju (aa (dCB kZ (aa (dCB cw (aa (ac 0) (aa (dC (.int 0)) ag))) (aa (dC (.int 1)) ag))) ag)) 1) (xz)
theorem BC{B:Mem}{E:DEnds}{ps:List (Str×Int)}{rs:List (Str×List Str)}{own:D}{L:List D}{hq r q b v:Nat}{vs:List Nat}{a:D->Int}{y0 y2 y3 y8 y9 y10 y11 y12 y13:Option D}(w:LwH B (aZ ps rs) own L hq r q b vs a)(hv:v∈vs)(few:Few ps)(ok:LogN L)(hh:∀d∈L,ay d∈af ps)(ho:Hd own)(dv:∀x∈L,DeedV ps rs x/\1<=eA x/\ay x≠own)
  (h:∀B' a' x8 x9 x10 x11 x12 x13,LwH B' (aZ ps rs) own L hq r q b vs a'->E.nx [y0,some (aZ ps rs),y2,y3,some (.ref hq),some (.tup L),some (.tup (aN a' L)),some (.ref v),x8,x9,x10,x11,x12,x13] B') :
  (aF (bq (dCB eW (aa (ac 7) (aa (ac 1) (aa (ac 5) (aa (ac 6) ag))))) 8) (rN)) E [y0,some (aZ ps rs),y2,y3,some (.ref hq),some (.tup L),some (.tup (aN a L)),some (.ref v),y8,y9,y10,y11,y12,y13] B:=by
 obtain⟨c0,hc0⟩:=w.ws v hv
 have ll:=ok.len
 walk_at "dl"
 refine⟨v,c0,ps,_,L,a,rfl,hc0,few,ok,hh,λc xs c' hx hc xl=>?_⟩
 have kb:=w.bd.2.2.2
 have w1:=(w.well (i:=c') hv).more (X:=[MO.lst xs])
 have g8:(B.set v (ah c')++[MO.lst xs])[B.length]?=some (.lst xs):=by
  have:=aq (M:=B.set v (ah c')) (mo:=MO.lst xs)
  rw[AAa]at this
  exact this
 generalize B.set v (ah c')++[MO.lst xs]=B1 at w1 g8
 generalize B.length=k8 at g8 kb
 generalize hm:(λh=>max (a h) (c h))=m at hc
 have mo:=cN (c:=m) ok
 have lm:=mo.len
 simp only[rN]
 walk_at "dl"
 refine⟨xs,.inl g8,?_⟩
 simp only[xu]
 walk_at "dl"
 intro _
 have ca:∀x∈aN a L,x∈L:=λx hx=>ci hx
 refine bt (λx=>decide (x∈aN m L)) id (λS=>∃y,S=[y,some (.tup (aN a L)),some (.ref k8)]) trivial _ _ _ (λx hxL S hS=>?_) ⟨_,rfl⟩ (by rw[AAS];exact aA (by lia)) ?_
 ·obtain⟨y,rfl⟩:=hS
  refine⟨[some x,some (.tup (aN a L)),some (.ref k8)],⟨_,rfl⟩,λY Z hYZ=>?_⟩
  have bf:∀b:Bool,(b != false)=b:=λb=>by cases b<;>rfl
  walk_at "dl"
  refine⟨BN (ok.deed x hxL) λy hy=>ok.deed y (ca y hy),?_⟩
  show if (inD B1 x (aN a L) != false)=true then _ else _
  rw[uM ok ca hxL,bf]
  by_cases c1:x∈aN a L
  ·rw[dT_ c1]
   rw[dT_ ((hc x).mp (ABb _ c1)),if_pos rfl]at hYZ
   exact bu hYZ
  ·rw[dF_ c1]
   refine bp ⟨xs,.inl g8,BN (ok.deed x hxL) λy hy=>ok.deed y (hx y hy),?_⟩
   show if (inD B1 x xs != false)=true then _ else _
   rw[uM ok hx hxL,bf]
   have e:decide (x∈aN m L)=decide (x∈xs):=by
    rw[decide_eq_decide,<-hc,AAL]
    exact⟨λz=>z.resolve_left c1,.inr⟩
   rw[e]at hYZ
   exact hYZ
 ·rw[AAY,ADR]
  have eL:(L.filter λx=>decide (x∈aN m L))=aN m L:=by
   conv=>rhs;unfold aN
   refine List.filter_congr λx hxL=>?_
   rw[decide_eq_decide,iC]
   exact⟨λz=>z.2,λz=>⟨hxL,z⟩⟩
  rw[eL]
  refine⟨_,ak,?_⟩
  have w2:=w1.more (X:=[MO.lst (aN m L)])
  replace g8:=ae (a:=MO.lst (aN m L)) g8
  generalize B1++[MO.lst (aN m L)]=B2 at w2 g8
  simp only[xt]
  walk_at "dl"
  obtain⟨cv,hcv⟩:=w2.ws v hv
  have vb:=w2.bd.2.2.1 v hv
  have hb:=w2.bd.1
  refine⟨aA (by decide),v,cv,2,rfl,ae hcv,by decide,by decide,λi c2 i0 i2=>?_⟩
  have w3:=(w2.more (X:=[MO.lst [D.ref k8,D.tup xs]])).well (i:=c2) hv
  have g9:((B2++[MO.lst [D.ref k8,D.tup xs]]).set v (ah c2))[k8]?=some (.lst xs):=am (by lia) (ae g8)
  have gl:((B2++[MO.lst [D.ref k8,D.tup xs]]).set v (ah c2))[B2.length]?=some (.lst [D.ref k8,D.tup xs]):=am (by have:=aE g8;lia) aq
  generalize (B2++[MO.lst [D.ref k8,D.tup xs]]).set v (ah c2)=B3 at w3 g9 gl
  obtain⟨d,ed,sd⟩:∃d,atI [D.ref k8,D.tup xs] i=some d/\CI B3 d xs:=by
   have:i=0\/i=1:=by lia
   rcases this with rfl | rfl
   ·exact⟨_,aM (j:=0) rfl,.inl ⟨k8,rfl,.inl g9⟩⟩
   ·exact⟨_,aM (j:=1) rfl,.inr rfl⟩
  refine⟨_,.inl gl,?_⟩
  rw[ed]
  simp only[ul]
  walk_at "dl"
  refine⟨⟨_,w3.hd,rfl⟩,hq,r,ps,rs,own,d,L,xs,a,m,rfl,w3.hd,w3.rl,ho,ok,dv,sd,hx,hc,by lia,?_⟩
  have w4:=w3.hear (c:=m)
  replace g9:(B3.set hq (.ins (AA1 "Hand") (qE (aZ ps rs) own r (aN m L))))[k8]?=some (.lst xs):=am (by lia) g9
  generalize B3.set hq (.ins (AA1 "Hand") (qE (aZ ps rs) own r (aN m L)))=B4 at w4 g9
  have ti:oj "int" "int" = true:=rfl
  have tb:oj "int" "bool" = false:=rfl
  have tt:oj "tuple" "tuple" = true:=rfl
  simp only[uk]
  walk_at "dl"
  rw[ti,tb,bb,beq_self_eq_true]
  refine⟨⟨by decide,by decide⟩,bp ⟨⟨by decide,by decide⟩,bp ⟨⟨au,au⟩,bp ?_⟩⟩⟩
  obtain⟨o,e⟩:=kh (M:=B4) 7 eqN (.tup xs) (by decide) (.tup (va.of λd hd=>eT (ok.deed d (hx d hd))))
  simp only[uj]
  walk_at "dl"
  refine⟨xs,.inl g9,⟨o,o⟩,?_⟩
  rw[e]
  refine bp ?_
  simp only[ui]
  walk_at "dl"
  refine⟨⟨_,.inl g9⟩,xs,g9,?_⟩
  have w5:=w4.far (x:=.lst []) kb
  generalize B4.set k8 (.lst [])=B5 at w5
  simp only[uh]
  walk_at "dl"
  refine⟨⟨_,w5.hd,rfl⟩,hq,_,_,rfl,w5.hd,rfl,?_⟩
  obtain⟨o2,e2⟩:=kh (M:=B5) 7 eqN (.tup (aN m L)) (by decide) (.tup (va.of λd hd=>eT (mo.deed d hd)))
  simp only[ug]
  walk_at "dl"
  rw[tt,e2]
  have w6:=w5.more (X:=[MO.lst []])
  refine⟨⟨by decide,by decide⟩,bp ⟨⟨o2,o2⟩,bp ⟨⟨_,w5.hd,rfl⟩,AAV _,hq,r,ps,rs,own,_,L,[],m,m,rfl,w6.hd,w6.rl,ho,ok,dv,.inl ⟨_,rfl,ak⟩,(λ_ z=>nomatch z),λx=>by rw[AB8],AAV _,⟨au,au⟩,?_⟩⟩⟩
  rw[bb,Int.sub_self]
  refine bp ?_
  simp only[uf]
  walk_at "dl"
  exact h _ _ _ _ _ _ _ _ (w6.hear (c:=m))
theorem GT:WpT Fb 14 Hc:=by
 rintro ds M R ⟨ns,mo,h63,⟨hmo,hml⟩,rfl,rfl,h⟩
 have hL0:∀L:Mem,ao ([mo]++L) 0 (ns.map D.int):=λL=>by
  have:=kH (M:=[mo]++L) (n:=0) (mo:=mo) rfl hml
  rw[hmo]at this
  exact this
 simp only[Hc]
 walk_at "dl"
 refine⟨0,ns,0,rfl,hL0 [],_,1,rfl,by decide,by decide,λi=>?_⟩
 refine⟨1,i,rfl,rfl,λps rs B hw wm=>?_⟩
 have l0:ao B 0 (ns.map D.int):=GV wm (by decide) (hL0 [ah i])
 simp only[xz]
 walk_at "dl"
 refine⟨0,ns,1,rfl,l0,_,2,rfl,by decide,by decide,λi2=>?_⟩
 obtain⟨p,ps,rfl⟩:∃p qs,ps=p::qs:=by
  cases ps with
  | nil=>have:=hw.len.1;simp at this
  | cons p qs=>exact⟨p,qs,rfl⟩
 have few:Few (p::ps):=⟨hw.len.2,λq hq=>⟨by have:=hw.many q hq;lia,(hw.many q hq).2⟩⟩
 have h1:1<=(af (p::ps)).length:=by
  have:=(hw.many p (by simp)).1
  rw[af,List.flatMap_cons,AA9,fV]
  lia
 have h12:=bI few.2
 have f4:=few.1
 have gw:(B++[ah i2])[B.length]?=some (ah i2):=aq
 replace l0:=l0.more [ah i2]
 have bl:=l0.lt
 have w0:0<B.length:=by have:=wm.len;simp at this;lia
 generalize B++[ah i2]=B1 at gw l0
 generalize B.length=wq at gw w0
 simp only[xy,aZ]
 walk_at "dl"
 refine⟨p::ps,_,rfl,few,p::ps,_,rfl,few,_,ak,?_⟩
 refine⟨wq,i2,_,rfl,ae (ae gw),by lia,by lia,λj c2 j0 j1=>?_⟩
 have wl:=aE gw
 have gl:((B1++[MO.lst (af (p::ps))]++[MO.lst (af (p::ps))]).set wq (ah c2))[B1.length]?=some (.lst (af (p::ps))):=am (by lia) (ae aq)
 have gw2:((B1++[MO.lst (af (p::ps))]++[MO.lst (af (p::ps))]).set wq (ah c2))[wq]?=some (ah c2):=aQ (ae (ae gw))
 have l2:ao ((B1++[MO.lst (af (p::ps))]++[MO.lst (af (p::ps))]).set wq (ah c2)) 0 (ns.map D.int):=bi (by lia) ((l0.more [_]).more [_])
 generalize (B1++[MO.lst (af (p::ps))]++[MO.lst (af (p::ps))]).set wq (ah c2)=B2 at gl gw2 l2
 obtain⟨jj,hjj,ej,_⟩:=er (xs:=af (p::ps)) j0 j1
 have om:(af (p::ps))[jj]∈af (p::ps):=AAf hjj
 refine⟨_,.inl gl,?_⟩
 rw[ej]
 obtain⟨z,k,ez⟩:=dk om
 rw[ez]at om ⊢
 show rO _ [some (.ref 0),some (aZ (p::ps) rs),some (.ref wq),some (.tup [.str z,.int k]),none,none,none,none,none,none,none,none,none,none] B2
 simp only[rO]
 walk_at "dl"
 have hB:B1.length<B2.length:=aE gl
 refine⟨B2.length,p::ps,rs,z,k,rfl,aq,by have:=hw.rl;lia,λB3 r r1 r2 r3 keep gh=>⟨rfl,?_⟩⟩
 rw[AA9,AAb]at r2
 have gw3:B3[wq]?=some (ah c2):=keep _ _ (by lia) (ae gw2)
 have l3:ao B3 0 (ns.map D.int):=(l2.more [MO.ins (AA1 "Hand") []]).imp (keep 0 _ (by lia)) (Or.imp (keep 0 _ (by lia)) (keep 0 _ (by lia)))
 generalize hq0:B2.length=hq at gh r1 r2
 simp only[xx]
 walk_at "dl"
 refine⟨0,ns,2,40,rfl,l3,by lia,by decide,by decide,λws C pC w40 hws=>?_⟩
 have hq3:=aE gh
 have nw:∀i,i<B3.length->i∉ws:=λi hi z=>by have:=(hws i z).1;lia
 refine⟨C.length,ws,p,ps,rs,[],rfl,ak,λz=>?_,λw hm=>?_,w40,few,h1,hw,λlog D1 okv kp=>?_⟩
 ·obtain⟨_,c,hc⟩:=hws _ z
  have:=aE hc
  lia
 ·obtain⟨_,c,hc⟩:=hws w hm
  exact⟨c,ae hc⟩
 have pC':=pC.trans (pW (mo:=MO.lst (ws.map .ref)))
 have pl3:∀{i x},i<B3.length->B3[i]?=some x->D1[i]?=some x:=λ{i x} hi g=>kp.2 i x (nw i hi) (by obtain⟨X,eX⟩:=pC';rw[<-eX,AAJ hi];exact g)
 have l4:ao D1 0 (ns.map D.int):=kp.lst (nw 0 (by lia)) (ET pC' l3)
 have gh4:=pl3 hq3 gh
 have gw4:=pl3 (aE gw3) gw3
 have r4:r<D1.length:=by
  have:=pC'.length_le
  have:=kp.1
  lia
 have on:=okv.n
 have ll:=on.len
 have ho:Hd (.tup [.str z,.int k]):=⟨z,k,rfl⟩
 generalize hown:D.tup [.str z,.int k]=own at gh4 ho
 have okL:=EV (own:=own) on
 intro _
 refine bt (λd=>!decide (ay d=own)) id (λS=>∃y,S=[y,some own]) trivial _ _ _ (λd hd S hS=>?_) ⟨_,rfl⟩ (by rw[AAS];exact aA (by lia)) ?_
 ·obtain⟨y,rfl⟩:=hS
  refine⟨[some d,some own],⟨_,rfl⟩,λY Z hYZ=>?_⟩
  obtain⟨t,hd',num,act,rfl,hhd,_⟩:=on.deed d hd
  walk_at "dl"
  refine⟨⟨wn hhd,wn ho⟩,?_⟩
  have e:eqD D1 eqN hd' own=decide (hd'=own):=by
   by_cases q:hd'=own
   ·rw[dT_ q];exact(zG (n:=29) hhd ho).mpr q
   ·rw[dF_ q];exact ABW.mpr λz=>q ((zG (n:=29) hhd ho).mp z)
  rw[e]
  exact hYZ
 rw[AAY,ADR]
 refine⟨_,ak,?_⟩
 have lm:∀d∈log.filter (λd=>!decide (ay d=own)),DeedV (p::ps) rs d/\1<=eA d/\ay d≠own:=λd hd=>by
  obtain⟨q1,q2⟩:=AAX.mp hd
  rw[Bool.not_eq_true',decide_eq_false_iff_not]at q2
  exact⟨okv.v d q1,zU (okv.v d q1) (on.deed d q1),q2⟩
 have lh:∀d∈log.filter (λd=>!decide (ay d=own)),ay d∈af (p::ps):=λd hd=>okv.h d (AAX.mp hd).1
 generalize log.filter (λd=>!decide (ay d=own))=L at okL lm lh
 have l5:=l4.more [MO.lst L]
 replace gh4:=ae (a:=MO.lst L) gh4
 replace gw4:=ae (a:=MO.lst L) gw4
 have r5:r<(D1++[MO.lst L]).length:=by rw[AA9];lia
 generalize D1++[MO.lst L]=D2 at l5 gh4 gw4 r5
 have e0:aN (λ_=>0) L=[]:=Cs okL
 simp only[xw]
 walk_at "dl"
 refine⟨AAV _,?_⟩
 simp only[xv]
 walk_at "dl"
 refine⟨0,ns,43,12,rfl,l5,by lia,by decide,by decide,λws2 C2 pC2 w12 hws2=>?_⟩
 refine⟨aA (by decide),ws2.map .ref,[.ref wq],ae aq,aq,aA (by rw[AA4,AAb];lia),_,ak,λ_=>?_⟩
 have hh4:=aE gh4
 have hw4:=aE gw4
 have c2l:=pC2.length_le
 have wq2:wq<hq:=by lia
 have up2:∀{i:Nat}{x:MO},D2[i]?=some x->C2[i]?=some x:=λg=>FR pC2 g
 have em:(ws2++[wq]).map D.ref=ws2.map .ref++[.ref wq]:=by rw[AAh];rfl
 have q2:(C2++[MO.lst (AEJ D.ref ws2)]++[MO.lst [D.ref wq]]).length=C2.length+2:=by simp
 have w:LwH (C2++[MO.lst (AEJ D.ref ws2)]++[MO.lst [D.ref wq]]++[MO.lst (AEJ D.ref ws2++[D.ref wq])]) (aZ (p::ps) rs) own L hq r (C2++[MO.lst (AEJ D.ref ws2)]++[MO.lst [D.ref wq]]).length (C2.length+3) (ws2++[wq]) (λ_=>0):=by
  have wlt:∀v∈ws2,v<C2.length:=λv hv=>by obtain⟨_,c,hc⟩:=hws2 v hv;exact aE hc
  refine⟨by rw[e0];exact ae (ae (ae (up2 gh4))),by rw[AA9,q2];lia,by rw[em];exact aq,λv hv=>?_,⟨by lia,λv hv=>?_⟩,by lia,by lia,λv hv=>?_,by rw[AA9,q2];exact AAC _⟩
  ·rcases AAL.mp hv with hv | hv
   ·obtain⟨_,c,hc⟩:=hws2 v hv
    exact⟨c,ae (ae (ae hc))⟩
   ·rw[AAP.mp hv];exact⟨_,ae (ae (ae (up2 gw4)))⟩
  ·rcases AAL.mp hv with hv | hv
   ·have:=(hws2 v hv).1
    have:=wlt v hv
    exact⟨by lia,by lia⟩
   ·rw[AAP.mp hv];exact⟨by lia,by lia⟩
  ·rcases AAL.mp hv with hv | hv
   ·have:=wlt v hv;lia
   ·rw[AAP.mp hv];lia
 generalize C2++[MO.lst (AEJ D.ref ws2)]++[MO.lst [D.ref wq]]++[MO.lst (AEJ D.ref ws2++[D.ref wq])]=B6 at w
 generalize (C2++[MO.lst (AEJ D.ref ws2)]++[MO.lst [D.ref wq]]).length=q at w
 generalize C2.length+3=b at w
 rw[<-em]
 have lL:=okL.len
 refine bY (λ_ S M'=>∃a x7 x8 x9 x10 x11 x12 x13,LwH M' (aZ (p::ps) rs) own L hq r q b (ws2++[wq]) a/\S=[some (.ref 0),some (aZ (p::ps) rs),some (.ref wq),some own,some (.ref hq),some (.tup L),some (.tup (aN a L)),x7,x8,x9,x10,x11,x12,x13]) ?_ ?_ ⟨λ_=>0,_,_,_,_,_,_,_,w,by rw[e0]⟩
 ·rintro S M' ⟨a,x7,x8,x9,x10,x11,x12,x13,w,rfl⟩
  refine⟨.inl w.ls,?_⟩
  have eC:=Gz okL
  simp only[ue]
  walk_at "dl"
  refine⟨⟨_,w.hd,rfl⟩,hq,r,p::ps,rs,own,_,L,L,a,λh=>(many L h:Int),rfl,w.hd,w.rl,ho,okL,lm,.inr rfl,(λ_ z=>z),λx=>?_,by lia,⟨au,au⟩,?_⟩
  ·rw[eC,AAL];exact⟨λz=>z.elim ci id,.inr⟩
  ·have w':=w.hear (c:=λh=>(many L h:Int))
   generalize M'.set hq (.ins (AA1 "Hand") (qE (aZ (p::ps) rs) own r (aN (λh=>(many L h:Int)) L)))=B7 at w'
   obtain⟨o,e⟩:=kh (M:=B7) 7 eqN (.tup L) (by decide) (.tup (va.of λd hd=>eT (okL.deed d hd)))
   rw[bb,eC,beq_self_eq_true]
   have gh:=w'.hd
   rw[eC]at gh
   refine bu ⟨⟨_,gh,rfl⟩,hq,_,_,rfl,gh,rfl,⟨o,o⟩,?_⟩
   rw[e]
   exact .inl (h _)
 ·rintro i y S M' hy ⟨a,x7,x8,x9,x10,x11,x12,x13,w,rfl⟩ G hG
  obtain⟨v,hv,rfl⟩:=AAI.mp (AB1 hy)
  refine⟨.inl w.ls,?_⟩
  exact BC w hv few okL lh ho lm λB' a' x8 x9 x10 x11 x12 x13 w'=>Fgt.now (hG _ _ ⟨a',_,_,_,_,_,_,_,w',rfl⟩)
theorem ok_law(T:Tops P w K mg base)(F:Fun K "law" "law" (top 94) f fd):FnOk P w K mg base CX0 11 f fd EC (spL K Fb) :=
 Cb (N:=["_law_script","_law_house_here","_law_well_here","_law_own","_law_hand","_law_log_here","_law_there","_law_cell","_law_bundle_here","_law_first","_law_there_now","_law_handed","_law_told","_law_found"]) T.b F (by walk_at "sc") EZ (by have:=qi T;have:=nh T;have:=qj T;have:=mx T;have:=cf T;have:=EJ T;have:=Bh T;have:=Bi T;have:=gL T;have:=IC T;have:=yD T;walk_at "dv") GT
end
end LW
namespace PySem.W.Fast
def tw10109895645676590925:=Nat
def tw10131622392681768224:=Nat
def tw10231120610071247310:=Nat
def tw1024750170491843384:=Nat
def tw10265445362573729230:=Nat
def tw10300434384015143704:=Nat
def tw10307621828140059943:=Nat
def tw10317828948777364415:=Nat
def tw10325075884199907722:=Nat
def tw10355684945542317653:=Nat
def tw10399709734640302713:=Nat
def tw10432753664910561236:=Nat
def tw10635575085450010689:=Nat
def tw10709242399786286767:=Nat
def tw10792907053764420006:=Nat
def tw10796232489899323277:=Nat
def tw10914640267327977003:=Nat
def tw11065693899472312229:=Nat
def tw11208349904618687017:=Nat
def tw11241882097804221774:=Nat
def tw11302417400458396973:=Nat
def tw11544158813313274419:=Nat
def tw11579620227496368543:=Nat
def tw11780027964090755104:=Nat
def tw11803309002088367672:=Nat
def tw1195954866030928650:=Nat
def tw1205748664910816377:=Nat
def tw12133414744969042842:=Nat
def tw12352985101676028530:=Nat
def tw12474919645578869354:=Nat
def tw12526534709058948648:=Nat
def tw12635636544155857481:=Nat
def tw12742147696061523215:=Nat
def tw12839022353089282735:=Nat
def tw12863045499408233305:=Nat
def tw12955744252015625934:=Nat
def tw12958813599525987994:=Nat
def tw13046823231996963497:=Nat
def tw13050913187946530883:=Nat
def tw13165097856458594582:=Nat
def tw13228368490740214442:=Nat
def tw13242463076884127860:=Nat
def tw13243401852051068241:=Nat
def tw13330315283598237308:=Nat
def tw13424751057373663951:=Nat
def tw13456345087400994300:=Nat
def tw13496741486134108284:=Nat
def tw13578330021643006561:=Nat
def tw13585709028981280526:=Nat
def tw13759553021447387179:=Nat
def tw13770282027716742291:=Nat
def tw13803685950491276033:=Nat
def tw14064001361852529051:=Nat
def tw14072201802353977850:=Nat
def tw14077958430731308586:=Nat
def tw14438274935105944208:=Nat
def tw14474726074199242679:=Nat
def tw1460909008222307355:=Nat
def tw14717078716797512428:=Nat
def tw14747028119029040851:=Nat
def tw14953257350158856106:=Nat
def tw14970160808090235096:=Nat
def tw1513693416441808820:=Nat
def tw15146481132336532273:=Nat
def tw15182393368391297804:=Nat
def tw15281283263945457665:=Nat
def tw15305872513526259236:=Nat
def tw15360986039261890835:=Nat
def tw15375725633112489220:=Nat
def tw15443375698872323200:=Nat
def tw15508967758614186314:=Nat
def tw15521449677061039190:=Nat
def tw15575618238093696898:=Nat
def tw15595811531090278696:=Nat
def tw15754533086304436188:=Nat
def tw15767931099506899716:=Nat
def tw15885264601303844295:=Nat
def tw1591115230987461515:=Nat
def tw15934892821074014997:=Nat
def tw16054701794163394204:=Nat
def tw16276581081149090122:=Nat
def tw16381938492262706505:=Nat
def tw16412698588995361170:=Nat
def tw1644824816194945097:=Nat
def tw16515090652595504811:=Nat
def tw1657621732951256056:=Nat
def tw16684110370668368371:=Nat
def tw16695204421579894437:=Nat
def tw1671567970744783330:=Nat
def tw16760480472229309972:=Nat
def tw16817466795378054504:=Nat
def tw16876675340624829071:=Nat
def tw16882538467630173364:=Nat
def tw16964994831572987999:=Nat
def tw17065896220050228274:=Nat
def tw17078353200383330622:=Nat
def tw17215957559214893225:=Nat
def tw17308585482727549358:=Nat
def tw17372807506591602294:=Nat
def tw1738801704081495498:=Nat
def tw17397372084444775290:=Nat
def tw17535555044640133789:=Nat
def tw17566346543083028502:=Nat
def tw17782994656454526356:=Nat
def tw1779999239705720602:=Nat
def tw17922997392411701385:=Nat
def tw17937338865798203195:=Nat
def tw18055811259235590513:=Nat
def tw18078149641298570841:=Nat
def tw18100002762251766102:=Nat
def tw18173242405988238395:=Nat
def tw18259706456116611647:=Nat
def tw18334813141391537580:=Nat
def tw1869816387881222151:=Nat
def tw1905062589634592019:=Nat
def tw1937579062043162930:=Nat
def tw2007832301973523894:=Nat
def tw2078672531541013785:=Nat
def tw2130907574687831018:=Nat
def tw2204980527730016816:=Nat
def tw2218873149320920455:=Nat
def tw2241151542520325827:=Nat
def tw2248515773227673386:=Nat
def tw2255315781646276735:=Nat
def tw2380714914708585882:=Nat
def tw2562117280347503542:=Nat
def tw2564413336998628332:=Nat
def tw2567153669096266450:=Nat
def tw2641297529660815274:=Nat
def tw2694698808567459422:=Nat
def tw2697895680886089939:=Nat
def tw2953390471030498675:=Nat
def tw3114056285767297023:=Nat
def tw313152217237263650:=Nat
def tw3164482715964474472:=Nat
def tw317213945614284539:=Nat
def tw3187827146550978638:=Nat
def tw3192821045168097544:=Nat
def tw3217241951441261669:=Nat
def tw323334113718506758:=Nat
def tw3250581213111914126:=Nat
def tw3290916644643186750:=Nat
def tw329825949943959567:=Nat
def tw3415344813013116438:=Nat
def tw341833581262710752:=Nat
def tw3501691902694326106:=Nat
def tw3544594133292272268:=Nat
def tw3563186419298414660:=Nat
def tw3584862248275895196:=Nat
def tw3702688807785216909:=Nat
def tw3770570862746745602:=Nat
def tw3893218379566998559:=Nat
def tw3925708140102588799:=Nat
def tw4002259934421873483:=Nat
def tw4065104235736381915:=Nat
def tw4147205757720620345:=Nat
def tw4233562710533594569:=Nat
def tw4280723268137700588:=Nat
def tw4340019203367432330:=Nat
def tw4381116406025036070:=Nat
def tw4418021936803570614:=Nat
def tw4430163959224347203:=Nat
def tw4443215574271437656:=Nat
def tw4468270296306093090:=Nat
def tw4525756700204586581:=Nat
def tw4529645364667355561:=Nat
def tw4560171607548831211:=Nat
def tw462732043184917566:=Nat
def tw4732119086943697968:=Nat
def tw4888069375972244890:=Nat
def tw50759096873189762:=Nat
def tw5088466698893940219:=Nat
def tw5163751798046890643:=Nat
def tw5165180886404904640:=Nat
def tw5236808576220216618:=Nat
def tw5299914020218369727:=Nat
def tw5309288696186708650:=Nat
def tw5351780406153652520:=Nat
def tw5375700710131182561:=Nat
def tw5480249597197502130:=Nat
def tw5591962201853568585:=Nat
def tw5594219175585128173:=Nat
def tw569188840576824507:=Nat
def tw5701823532690818095:=Nat
def tw5786980660144763439:=Nat
def tw5882353242751892979:=Nat
def tw6092267371471070599:=Nat
def tw6127233411949710475:=Nat
def tw6136676666644029181:=Nat
def tw6197858037738075385:=Nat
def tw6248238536847443299:=Nat
def tw6324289825808058467:=Nat
def tw6372099004872541795:=Nat
def tw6531748099011901210:=Nat
def tw6691516559991586224:=Nat
def tw6702954241184717329:=Nat
def tw6787035302213971404:=Nat
def tw6927168623260961740:=Nat
def tw6936207544236213780:=Nat
def tw6990052969050362110:=Nat
def tw7049105624947023988:=Nat
def tw706971473313400776:=Nat
def tw7104459414996314888:=Nat
def tw7328656010383520062:=Nat
def tw7368125506192302113:=Nat
def tw7415723359911594108:=Nat
def tw7444011322278976664:=Nat
def tw744847109314462055:=Nat
def tw7459175512315737480:=Nat
def tw7603509982224049314:=Nat
def tw7636523158183137466:=Nat
def tw7655328075308971023:=Nat
def tw7690043017826125756:=Nat
def tw7703585137899192370:=Nat
def tw7725958992673107729:=Nat
def tw7762488003598681356:=Nat
def tw7793237423515740403:=Nat
def tw7812655243634080077:=Nat
def tw785649969041493026:=Nat
def tw7926019335183317785:=Nat
def tw8116505716944618950:=Nat
def tw8161997218826435118:=Nat
def tw8177135620536839095:=Nat
def tw8183243370912026595:=Nat
def tw8250219288934504434:=Nat
def tw8262073266992943697:=Nat
def tw8268289252107294298:=Nat
def tw8341891109468025519:=Nat
def tw8409469074733348312:=Nat
def tw8537020021110831514:=Nat
def tw8547987986734998639:=Nat
def tw8558967731389813747:=Nat
def tw8566117196329839055:=Nat
def tw8601337856319200969:=Nat
def tw8672751180002313356:=Nat
def tw8721987802150204259:=Nat
def tw882163346066748618:=Nat
def tw9019980857720075603:=Nat
def tw9032457604580353505:=Nat
def tw907219384060845029:=Nat
def tw910221203597087176:=Nat
def tw9122372019981505445:=Nat
def tw9124141053901333759:=Nat
def tw9246065084957837264:=Nat
def tw9349415887511849900:=Nat
def tw9593371144833213085:=Nat
def tw9699543652375427236:=Nat
def tw9823384857667662969:=Nat
def tw9886394333882753264:=Nat
def tw9954303505713400546:=Nat
end PySem.W.Fast
theorem L2.us1{P:List AD2->Prop}(h:∀a0,P [a0]):∀us:List AD2,us.length=1->P us
 | [a0],_=>h a0
theorem L2.us2{P:List AD2->Prop}(h:∀a0 a1,P [a0,a1]):∀us:List AD2,us.length=2->P us
 | [a0,a1],_=>h a0 a1
theorem L2.us3{P:List AD2->Prop}(h:∀a0 a1 a2,P [a0,a1,a2]):∀us:List AD2,us.length=3->P us
 | [a0,a1,a2],_=>h a0 a1 a2
theorem L2.us4{P:List AD2->Prop}(h:∀a0 a1 a2 a3,P [a0,a1,a2,a3]):∀us:List AD2,us.length=4->P us
 | [a0,a1,a2,a3],_=>h a0 a1 a2 a3
local macro_rules | `(tactic| walk_at "fk")=>`(tactic| ((case a=>k_is);(case l=>k_is);(case c=>k_is);(case k=>k_is)))
local macro_rules | `(tactic| walk_at "clf")=>`(tactic| ((case ca=>k_is);(case cp=>k_is);(case ch=>k_is);(case co=>k_is);(case cs=>k_is)))
local macro_rules | `(tactic| walk_at "cls")=>`(tactic| (walk_at "clf";(case cm=>k_is);(case cn=>k_is);(case cl=>k_is);(case cc=>k_is);(case ck=>k_is)))
local macro_rules | `(tactic| walk_at "f1")=>`(tactic| (refine' L2.fnat_mk (by assumption) (by assumption) ?a ?l ?c ?k (λ_ _ _ _ _ _=>L2.us1 (λ_=>rfl));walk_at "fk"))
local macro_rules | `(tactic| walk_at "f2")=>`(tactic| (refine' L2.fnat_mk (by assumption) (by assumption) ?a ?l ?c ?k (λ_ _ _ _ _ _=>L2.us2 (λ_ _=>rfl));walk_at "fk"))
local macro_rules | `(tactic| walk_at "f3")=>`(tactic| (refine' L2.fnat_mk (by assumption) (by assumption) ?a ?l ?c ?k (λ_ _ _ _ _ _=>L2.us3 (λ_ _ _=>rfl));walk_at "fk"))
local macro_rules | `(tactic| walk_at "f4")=>`(tactic| (refine' L2.fnat_mk (by assumption) (by assumption) ?a ?l ?c ?k (λ_ _ _ _ _ _=>L2.us4 (λ_ _ _ _=>rfl));walk_at "fk"))
open PySem PySem.W PyProof.Rows
set_option maxRecDepth 100000 in
set_option maxHeartbeats 0 in
theorem PySem.Challenge.cw_talkmarks_k72_deeds_heard_holds : PySem.Challenge.rw_talkmarks_k72_deeds_heard.Holds := by
 w_on; o_law; k_head; (case hw=>w_witness2)
 k_fill
 refine L2.law_walk (l:=PySem.Challenge.rw_talkmarks_k72_deeds_heard) (k:=11) (st:=LW.top 94) (x:="_law_script") rfl rfl rfl ⟨rfl,by decide,by decide⟩ (fun w h Y=>PySem.W.kIn_of Y) ?F (fun _ _ _ _ _ _ _=>rfl)
 case F =>
  intro w mg h KX G
  have T:∀ P base,LW.Tops P w (L2.KOf KX) mg base:=by
   intro P base
   dsimp only [L2.KOf]
   constructor
   ·walk_at "f1"
   ·walk_at "f2"
   ·walk_at "f2"
   ·walk_at "f1"
   ·walk_at "f1"
   ·walk_at "f1"
   ·walk_at "f1"
   ·walk_at "f1"
   ·walk_at "f1"
   ·walk_at "f1"
   ·walk_at "f2"
   ·walk_at "f2"
   ·walk_at "f2"
   ·walk_at "f2"
   ·walk_at "f2"
   ·walk_at "f2"
   ·walk_at "f2"
   ·walk_at "f2"
   ·walk_at "f2"
   ·walk_at "f3"
   ·walk_at "f2"
   ·walk_at "f2"
   ·walk_at "f1"
   ·walk_at "f1"
   ·walk_at "f2"
   ·walk_at "f2"
   ·walk_at "f2"
   ·walk_at "f2"
   ·walk_at "f1"
   ·walk_at "f1"
   ·walk_at "f1"
   ·walk_at "f4"
   ·refine' L2.inat_mk KX G ?ca ?cp ?ch ?co ?cs ?cw ?cz ?cm ?cn ?cl ?cc ?ck (fun _ _ _ _ _ _=>L2.us4 (fun _ _ _ _=>rfl)); walk_at "cls"; (case cw=>k_is); (case cz=>k_is)
   ·refine' L2.mtat_mk KX ?ca ?cp ?ch ?co ?cs ?cm ?cn ?cl ?cc ?ck (fun _ _ _ _ _ _=>L2.us1 (fun _=>rfl)); walk_at "cls"
   ·refine' L2.mtat_mk KX ?ca ?cp ?ch ?co ?cs ?cm ?cn ?cl ?cc ?ck (fun _ _ _ _ _ _=>L2.us2 (fun _ _=>rfl)); walk_at "cls"
   ·walk_at "f2"
   ·walk_at "f2"
   ·walk_at "f2"
   ·walk_at "f2"
   ·walk_at "f2"
   ·walk_at "f3"
   ·walk_at "f1"
   ·walk_at "f2"
   ·walk_at "f1"
   ·walk_at "f1"
   ·walk_at "f2"
   ·walk_at "f3"
   ·walk_at "f2"
   ·walk_at "f3"
   ·walk_at "f3"
   ·walk_at "f2"
   ·walk_at "f3"
   ·walk_at "f4"
   ·walk_at "f1"
   ·refine' L2.fld_mk KX ?ca ?cp ?ch ?co ?cs ?cm; walk_at "clf"; (case cm=>k_is)
   ·refine' L2.fld_mk KX ?ca ?cp ?ch ?co ?cs ?cm; walk_at "clf"; (case cm=>k_is)
   ·refine' L2.fld_mk KX ?ca ?cp ?ch ?co ?cs ?cm; walk_at "clf"; (case cm=>k_is)
   ·refine' L2.fld_mk KX ?ca ?cp ?ch ?co ?cs ?cm; walk_at "clf"; (case cm=>k_is)
   ·refine' L2.gdict_mk KX G ?a ?s ?l ?e; (case a=>k_is); (case l=>k_is); (case s=>rfl)
    refine' L2.ents_cons ?l ?s ?v ?_; (case l=>k_is); (case s=>exact Nat.le_of_lt (L2.small1000 (by decide))); (case v=>exact .cons ⟨_,rfl⟩ (.cons ⟨_,rfl⟩ (.cons ⟨_,rfl⟩ (.nil))))
    refine' L2.ents_cons ?l ?s ?v ?_; (case l=>k_is); (case s=>exact Nat.le_of_lt (L2.small1000 (by decide))); (case v=>exact .cons ⟨_,rfl⟩ (.cons ⟨_,rfl⟩ (.nil)))
    refine' L2.ents_cons ?l ?s ?v ?_; (case l=>k_is); (case s=>exact Nat.le_of_lt (L2.small1000 (by decide))); (case v=>exact .cons ⟨_,rfl⟩ (.nil))
    refine' L2.ents_cons ?l ?s ?v ?_; (case l=>k_is); (case s=>exact Nat.le_of_lt (L2.small1000 (by decide))); (case v=>exact .cons ⟨_,rfl⟩ (.cons ⟨_,rfl⟩ (.cons ⟨_,rfl⟩ (.nil))))
    refine' L2.ents_cons ?l ?s ?v ?_; (case l=>k_is); (case s=>exact Nat.le_of_lt (L2.small1000 (by decide))); (case v=>exact .cons ⟨_,rfl⟩ (.cons ⟨_,rfl⟩ (.nil)))
    refine' L2.ents_cons ?l ?s ?v ?_; (case l=>k_is); (case s=>exact Nat.le_of_lt (L2.small1000 (by decide))); (case v=>exact .cons ⟨_,rfl⟩ (.nil))
    refine' L2.ents_cons ?l ?s ?v ?_; (case l=>k_is); (case s=>exact Nat.le_of_lt (L2.small1000 (by decide))); (case v=>exact .cons ⟨_,rfl⟩ (.cons ⟨_,rfl⟩ (.nil)))
    refine' L2.ents_cons ?l ?s ?v ?_; (case l=>k_is); (case s=>exact Nat.le_of_lt (L2.small1000 (by decide))); (case v=>exact .cons ⟨_,rfl⟩ (.nil))
    exact True.intro
   ·unfold LW.B_ LW.C_
    iterate 15 (refine' L2.TopB.b ?tq ?_; (case tq=>refine' PySem.W.mg_none_of KX G ?tr; (case tr=>k_is)))
    iterate 4 (refine' L2.TopB.c ?tq ?_; (case tq=>refine' L2.glob_mk KX G ?tr ?ts; (case tr=>k_is); (case ts=>exact ⟨_,rfl⟩)))
    exact .nil
  exact ⟨(T PySem.Challenge.pw_talkmarks_k72_deeds_heard {}).f_law,fun base f fd F=>LW.ok_law (T _ base) F⟩
