import PyProof.Rows.All
import Wide.All
import OpenK.AllK
import Wide.FinOn
import Lean
import PyProof.EqAt
import PyProof.EqKinds
import PyProof.TupleCall
import PyProof.CompFree
import PyProof.NeKinds
import KE.KSortTup
import KE.KRevSl
import KE.KDictSum
import KE.KEqDict
import PyProof.Conv_int_bool
import PyProof.AttrMissHeap
import KE.KLam
import KE.KRevIter
import PySem.Challenge.RW_talkmarks_k60_what_a_pack_keeps
open PySem renaming wpAny_bind->AA0,wpAny_pure->AA5,Spec->AA8,wpAny_newObj_type->AAh,wpAny_holding->AAj,wpAny_callSpecial?_slot->AAk,wpAny_call_entry->AAm,wpAny_setField_rec->AAz,wpAny_field->AB7,wpAny_mono->ABC,mem_of_lookup->ABJ,sizeLine_eq->ABV,wpAny_seqItems->ABl,wpAny_typeNameOfWhole_itemiter->ABp,wpAny_Call_Name_kw->ABq,wpAny_typeNameOfWhole_keyiter->ABs,codeAny_builtin->ABy,wpAny_fieldsOf->AC7,wpAny_typeNameOf_itemiter->AC8,wpAny_rule->ACE,wpAny_dictEntries->ACH,wpAny_typeNameOf_keyiter->ACI,Value->ACM,wpAny_loadPart'->ACU,wpAny_notOrdered_dict->ACZ,wpAny_dictEpoch->ACb,wpAny_newList->ACg,wpAny_attempt->ACi,wpAny_typeOf->AD2,wpAny_passesOwn->AD4,plainId_quiet->ADE,wpAny_isOneOf_itemiter->ADM,wpAny_truthy_bool->ADO,eqIsQuiet_byValue->ADT,atKey_none_of_get->ADU,wpAny_newTuple->ADX,wpAny_setField->ADY,codeAny_mono->ADZ,wpAny_isInstance->ADd,wpAny_specialOf->ADj
open PySem.Str renaming ofString->AA1,empty->ACn
open PySem.W renaming Frag->AA2,findIn->AAu,keepIn->ABK,emptyDict->ABZ,fnOf->ABg,kas_desc->ABr,instObj->ABw,plainGet->AC1,nsIn->AC3,hasDictIn->ACA,plainOver->ACe,kas_rev->ACk,codeIn->ACo,kas_place->ACq,cellsFrom_some->ADI,kas_asc->ADR,kas_sort->ADW,kas_descPart->ADa,plainGet_of->ADi,isFn->ADr,lookIn->ADt,kitOne->ADu,methodObj->ADv
open PySem.Heap renaming get?_push_of_some->AA3,get?_push_size->AAD,lt_size->AAF,get?_update_self->AAx,SameBut->ABA,size_push->ABL,get?_update_ne->ABj,get?_update_other->AC0
open List renaming length_map->AA4,getElem?_eq_getElem->AA6,getElem?_eq_some_iff->AA7,mem_cons_of_mem->AA9,mem_map->AAB,size_toArray->AAC,mem_cons_self->AAE,mem_cons->AAG,length_append->AAH,mem_append_right->AAI,getD_eq_getElem?_getD->AAJ,getElem?_append_left->AAL,getElem?_map->AAN,length_cons->AAO,map_cons->AAQ,append_assoc->AAR,map_map->AAS,prefix_append->AAT,cons_lt_cons_iff->AAV,getElem?_append_right->AAY,length_nil->AAa,all_eq_true->AAb,mem_of_getElem?->AAc,pairwise_map->AAd,nodup_cons->AAf,mem_append_left->AAi,range->AAl,nil_append->AAo,map_append->AAp,mem_map_of_mem->AAt,nodup_iff_pairwise_ne->AAv,length_singleton->AAy,mem_singleton->AB0,lt_irrefl->AB1,lookup_cons->AB5,mem_append->AB6,not_mem_nil->ABF,mem_of_mem_take->ABG,getElem?_take_of_lt->ABI,length_take->ABM,take_length->ABN,zip_cons_cons->ABP,getElem?_set_self->ABQ,append_nil->ABR,find?_cons->ABS,all_cons->ABT,take_add_one->ABa,mem_range->ABc,mem_filter->ABd,length_set->ABe,getElem?_set_ne->ABf,getElem_mem->ABh,toArray->ABi,getElem?_eq_none->ABo,pairwise_singleton->ABu,map_congr_left->ABx,set_append_right->AC4,getElem?_of_mem->AC9,take_sublist->ACB,nodup_append->ACG,lookup->ACJ,getElem?_replicate->ACK,nodup_nil->ACO,length->ACS,length_replicate->ACT,prefix_rfl->ACV,map_id->ACY,take_append_drop->ACc,getElem?_zip_eq_some->ACs,getElem?_range->ACw,of_mem_zip->AD5,lt_trans->AD9,map_singleton->ADD,pairwise_cons->ADF,filter_append->ADG,replicate->ADV,pairwise_append->ADg,filterMap_cons->ADh,forIn_cons->ADl,find?_some->ADn,range_succ->ADo
open Nat renaming le_refl->AAA,ne_of_lt->AAK,lt_of_lt_of_le->AAP,lt_irrefl->AAW,zero_le->AAX,le_trans->AB4,ne_of_gt->ABY,lt_succ_self->AC2,lt_succ_of_lt->ACD,le_of_ble_eq_true->ACW,sub_self->AD3,le_add_right->ADc,le_of_lt->ADq,lt_trans->ADs
open Option.some renaming inj->AAM
open Bool renaming and_eq_true->AAU,false_eq_true->AAZ,false_ne_true->AB9,eq_false_iff->ADS
open PySem.Value renaming ref->AAe,none->ABO,type->ACd,bool->ADN
open Int renaming emod_lt_of_pos->AAg,emod_nonneg->AAn,toNat_natCast->AAw
open Array renaming getElem?_eq_getElem->AAq,getD_eq_getD_getElem?->AAs,length_toList->ABU,getElem?_toList->ACX,forIn_toList->ADC,getElem?_eq_none->ADL
open Ne renaming symm->AAr
open PySem.Builtin.SmallTypes renaming nextOf->AB2,ownedTupleIsFree->ABW,ownedTupleHandOut->ACr
open PySem.Obj renaming mapSeq->AB3,data_mapDictKeys->ACl,isFreed_of_dict->ACx,data_mapFields->ADA,data_mapDict->ADf
open PyProof.Rows renaming slot_tuple_getitem->AB8,get?_update_seq->ACF,callWith_type1->ACR,listUpdate_at->ACh,listItems_at->ADb
open List.Pairwise renaming and_mem->ABB,nil->ADP
open PySem.NameKind renaming free->ABD,cell->ACL
open PySem.Heap.SameBut renaming update->ABE
open Option renaming map_eq_some_iff->ABH,isSome_iff_exists->AD0,isSome_map->ADQ,getD_some->ADe
open PySem.F renaming slot_dict_itemiterator_next->ABX,slot_tuple_getattribute->ABk,plain_extend_loop->ABm,args_dict_itemiterator_next_1->ACm,entry_dict_itemiterator_next->ACu,args_tuple_add_2->AD1,entry_tuple_add->AD6,slot_tuple_add->ADJ
open PySem.Builtin.Dict_items renaming ownsTuple->ABb,ownedTupleFields->ACy,ownedTupleIsFree->ACz,pairFromOwner->ADH
open Sum renaming inr->ABn
open PySem.Around renaming under_plainId->ABt
open False renaming elim->ABv
open PySem.Builtin.List renaming listExtendWith->ABz
open PySem.Builtin.Slice renaming slicePlaces->AC5,sliceAdjust->ACp,sliceApplied->ADp
open PySem.Builtin.Tuple renaming tupleHashOf->AC6,tupleExact->ACC,tupleItemsOf->ACj
open True renaming intro->ACN
open PySem.SeqAt.EqAt renaming int_str->ACP,str_int->ACQ,int_int->AD7,str_str->AD8,same->ADm
open PySem.Builtin.Dict renaming showsAll->ACa
open PySem.SeqAt renaming EqAt->ACf
open PySem.SetTable renaming Probe->ACt,leap->ADB,bits->ADx
open Classical renaming byContradiction->ACv
open PySem.Calls renaming callWith_builtin->ADK
open ForInStep renaming yield->ADk
open List.cons renaming inj->ADw
open PySem.Shared renaming TypeIs->ADy
set_option autoImplicit true
set_option relaxedAutoImplicit true
set_option compiler.extract_closed false
set_option Elab.async false
set_option linter.all false
set_option maxRecDepth 100000
-- CHANGE: your row's module here,as the last of these rows
theorem dF_{p:Prop}[Decidable p](h:¬p):decide p=false:=decide_eq_false h
theorem dT_{p:Prop}[Decidable p](h:p):decide p=true:=decide_eq_true h
theorem oT_{p:Prop}[Decidable p](h:decide p=true):p:=of_decide_eq_true h
namespace L2
open PySem PySem.Spec PyProof.Rows
noncomputable abbrev Key:=Sum Int Str
noncomputable def pv:Key->Value->Bool
 | .inl k,v=>Value.isInt k v
 | .inr x,v=>Value.isStrOf x v
noncomputable def keyH(w:World):Key->Int
 | .inl k=>hashInt k
 | .inr x=>hashStr w x
theorem aL:∀{k:Key}{v:Value},pv k v=true->(∃i t,k=Sum.inl i/\v=Value.int i t)\/(∃x t,k=ABn x/\v=Value.str x t)
 | .inl i,v,h=>by
  obtain⟨t,e⟩:=Value.isInt_shape (k:=i) (v:=v) h
  exact .inl ⟨i,t,rfl,e⟩
 | .inr x,v,h=>by
  obtain⟨t,e⟩:=Value.isStrOf_shape (x:=x) (v:=v) h
  exact .inr ⟨x,t,rfl,e⟩
theorem vG(i:Int)(t:Tok):pv (.inl i) (.int i t)=true:=by simp[pv,Value.isInt]
theorem vF(x:Str)(t:Tok):pv (.inr x) (.str x t)=true:=by simp[pv,Value.isStrOf]
theorem Dx(a b:Int):decide ((Sum.inl a:Key)=Sum.inl b)=(a==b):=by
 by_cases e:a=b
 ·subst e;simp
 ·have h:¬(Sum.inl a:Key)=Sum.inl b:=λq=>e (Sum.inl.inj q)
  rw[dF_ h]
  exact(beq_eq_false_iff_ne.mpr e).symm
theorem yS(a b:Str):decide ((ABn a:Key)=ABn b)=decide (a=b):=by
 by_cases e:a=b
 ·subst e;simp
 ·have h:¬(ABn a:Key)=ABn b:=λq=>e (Sum.inr.inj q)
  rw[dF_ h,dF_ e]
theorem Dw(a:Int)(b:Str):decide ((Sum.inl a:Key)=ABn b)=false:=dF_ (λq=>nomatch q)
theorem Dv(a:Str)(b:Int):decide ((ABn a:Key)=Sum.inl b)=false:=dF_ (λq=>nomatch q)
noncomputable def bx(prog:Program)(w:World):PySem.KeyKind prog w Key where
 is:=pv
 hash:=keyH w
 inj:=λv a b ha hb=>by
  rcases aL ha with⟨i,t,rfl,rfl⟩|⟨x,t,rfl,rfl⟩
  ·rcases aL hb with⟨j,u,rfl,e⟩|⟨y,u,rfl,e⟩
   ·injection e with e1 _;rw[e1]
   ·exact nomatch e
  ·rcases aL hb with⟨j,u,rfl,e⟩|⟨y,u,rfl,e⟩
   ·exact nomatch e
   ·injection e with e1 _;rw[e1]
 byValue:=λk v h=>by
  rcases aL h with⟨i,t,rfl,rfl⟩|⟨x,t,rfl,rfl⟩<;>rfl
 pyHash:=λhv h=>by
  rcases aL hv with⟨i,t,rfl,rfl⟩|⟨x,t,rfl,rfl⟩
  ·exact wpAny_pyHash_int h
  ·exact wpAny_pyHash_str h
 eqBool:=λhu hv h=>by
  rcases aL hu with⟨i,t,rfl,rfl⟩|⟨x,t,rfl,rfl⟩
  ·rcases aL hv with⟨j,u,rfl,rfl⟩|⟨y,u,rfl,rfl⟩
   ·rw[Dx]at h;exact wpAny_eqBool_int h
   ·rw[Dw]at h;exact ACP i t y u _ _ _ _ h
  ·rcases aL hv with⟨j,u,rfl,rfl⟩|⟨y,u,rfl,rfl⟩
   ·rw[Dv]at h;exact ACQ x t j u _ _ _ _ h
   ·rw[yS]at h;exact wpAny_eqBool_str h
 «strs»:=λk x t v h=>by
  rcases aL h with⟨i,u,rfl,e⟩|⟨y,u,rfl,e⟩
  ·exact nomatch e
  ·injection e with e1 _
   subst e1
   cases v<;>rfl
theorem oX(prog:Program)(w:World)(i:Int)(t:Tok):(bx prog w).is (.inl i) (.int i t)=true:=vG i t
theorem oW(prog:Program)(w:World)(x:Str)(t:Tok):(bx prog w).is (.inr x) (.str x t)=true:=vF x t
inductive V where
 | non | bl (b:Bool) | int (i:Int) | str (x:Str) | byt (b:Array UInt8) | flt (b:UInt64) | ref (a:Addr) | ty (n:String)
 deriving DecidableEq
def aK:V->Value->Prop
 | .non,u=>u=ABO
 | .bl b,u=>u=ADN b
 | .int i,u=>∃t,u=Value.int i t
 | .str x,u=>∃t,u=Value.str x t
 | .byt b,u=>∃t,u=Value.bytes b t
 | .flt b,u=>∃t,u=Value.float b t
 | .ref a,u=>u=AAe a
 | .ty n,u=>u=ACd n
abbrev ar:List V->List Value->Prop:=Paired aK
theorem ar.length(r:ar xs us):xs.length=us.length:=Paired.length r
theorem ar.get:∀{xs:List V}{us:List Value}{i:Nat}{x:V},ar xs us->xs[i]?=some x->∃u,us[i]?=some u/\aK x u
 | _,_,_,_,.nil,e=>by simp at e
 | _,_,0,_,.cons r _,e=>by simp at e;subst e;exact⟨_,rfl,r⟩
 | _,_,i+1,x,.cons _ t,e=>by
  obtain⟨u,h1,h2⟩:=ar.get (i:=i) (x:=x) t (by simpa using e)
  exact⟨u,by simpa using h1,h2⟩
theorem ar.set(r:aK x u):∀{xs:List V}{us:List Value} (i:Nat),ar xs us->ar (xs.set i x) (us.set i u)
 | _,_,_,.nil=>.nil
 | _,_,0,.cons _ t=>.cons r t
 | _,_,i+1,.cons q t=>.cons q (ar.set r i t)
theorem ar.append(h:ar xs us)(s:ar ys ws):ar (xs++ys) (us++ws):=by
 induction h with
 | nil=>exact s
 | cons r t ih=>exact .cons r ih
theorem ar.take:∀{xs:List V}{us:List Value} (n:Nat),ar xs us->ar (xs.take n) (us.take n)
 | _,_,0,_=>.nil
 | _,_,_+1,.nil=>.nil
 | _,_,n+1,.cons r t=>.cons r (ar.take n t)
theorem ar.drop:∀{xs:List V}{us:List Value} (n:Nat),ar xs us->ar (xs.drop n) (us.drop n)
 | _,_,0,r=>r
 | _,_,_+1,.nil=>.nil
 | _,_,n+1,.cons _ t=>ar.drop n t
def oj:Option V->Option Value->Prop
 | some v,some u=>aK v u
 | none,none=>True
 | _,_=>False
def KV{κ:Type}:List (κ×V)->List (κ×Value)->Prop:=Paired λ(p:κ×V) (q:κ×Value)=>p.1=q.1/\aK p.2 q.2
noncomputable def kV:Key->V
 | .inl i=>.int i
 | .inr x=>.str x
inductive HO where
 | lst (xs:List V)
 | tup (xs:List V)
 | dK (kvs:List (Key×V)) | dT (kvs:List (List Key×V))
 | set (S:Int->Bool) (n:Nat)
 | ins (C dx:Addr) (fs:List (Str×V))
 | own (x:Addr)
 | xd (fs:List (Str×V))
 | met (f x:Addr)
 | rng (lo hi:Int)
 | frz (o:Obj) (u:HO)
 | tbl (ps:Array Value)
 | ext (φ:Program->World->Heap->Prop)
abbrev Hp:=Addr->Option HO
noncomputable def upd(H:Hp)(a:Addr)(o:HO):Hp:=λb=>if b=a then some o else H b
theorem ay:upd H a o a=some o:=by unfold upd;rw[if_pos rfl]
theorem ak(h:b≠a):upd H a o b=H b:=by unfold upd;rw[if_neg h]
theorem ne_of{H:Hp}{a b:Addr}{o u:HO}(h:H a=some o)(h':H b=some u)(d:o≠u):a≠b:=by
 intro e;subst e;rw[h]at h';exact d (AAM h')
theorem ac{H:Hp}{a b:Addr}{o:HO}(h:H a=some o)(h':H b=none):a≠b:=by
 intro e;subst e;rw[h]at h';cases h'
section
variable(P:Program)(w:World)
def yF(h:Heap)(a:Addr)(items:Array Value):Prop:=∃o,h.get? a=some o/\o.cls=.type "tuple"/\(∃n,o.data=.seq items n)/\o.dict=none
theorem yF.tup:yF h a items->IsTup h a items:=λ⟨o,e,c,⟨n,d⟩,_⟩=>⟨o,e,c,n,d⟩
theorem yF.new(h:Heap)(items:Array Value):yF (h.push { cls:=.type "tuple",data:=.seq items }) h.objs.size items:=⟨_,AAD _ rfl,rfl,⟨_,rfl⟩,rfl⟩
def br(H:Hp)(h:Heap)(a:Addr):HO->Prop
 | .lst xs=>xs.length<=sizeLine/\∃(its:List Value) (n:Nat),ar xs its/\h.get? a=some { cls:=.type "list",data:=.seq its.toArray n }
 | .tup xs=>xs.length<=sizeLine/\∃its:List Value,ar xs its/\yF h a its.toArray
 | .dK kvs=>kvs.length<=sizeLine/\(a==sysModules)=false/\∃vs,KV kvs vs/\h.DictOf (bx P w) a vs
 | .dT kvs=>kvs.length<=sizeLine/\(a==sysModules)=false/\∃xs:List (List Key×Addr×Value),
   Paired (λ(p:List Key×V) (q:List Key×Addr×Value)=>p.1=q.1/\H q.2.1=some (.tup (p.1.map kV))/\aK p.2 q.2.2) kvs xs /\
   ∃o es ep,h.get? a=some o/\o.ExactDict/\o.data=.dict es ep/\es.toList=xs.map (entryOfKey (tupleKind (bx P w)))/\(xs.map (·.1)).Nodup
 | .set S n=>h.SetOf (intKind P w) a S n
 | .ins C dx fs=>H dx=some (.own a)/\fs.length<=1000/\dx≠a/\h.get? a=some (ABw C dx) /\
   ∃mA,h.Ns1 dx mA/\(∀f,oj (fs.lookup f) (mA f))/\PySem.Within mA (fs.map (·.1))
 | .own _=>∃o,h.get? a=some o
 | .xd fs=>∃mA,h.Ns1 a mA/\∀f,oj (fs.lookup f) (mA f)
 | .rng lo hi=>∃t u v,h.get? a=some { cls:=.type "range",data:=.fields #[.int lo t,.int hi u,.int 1 v] }
 | .frz o u=>h.get? a=some o/\br H h a u
 | .tbl ps=>h.get? a=some { cls:=.none,data:=.fields ps }
 | .met f x=>h.get? a=some (ADv (.ref f) (.ref x))
 | .ext φ=>φ P w h/\(∃o,h.get? a=some o)/\∀h1 h2:Heap,φ P w h1->(∀o,h1.get? a=some o->h2.get? a=some o)->φ P w h2
def HOk(H:Hp)(h:Heap):Prop:=∀a o,H a=some o->br P w H h a o
end
theorem br.lt(x:br P w H h a o):a<h.objs.size:=by
 cases o with
 | lst xs=>obtain⟨_,_,_,_,e⟩:=x;exact AAF e
 | tup xs=>obtain⟨_,_,_,p⟩:=x;exact p.tup.lt
 | dK kvs=>obtain⟨_,_,_,_,o,_,_,e,_⟩:=x;exact AAF e
 | dT kvs=>obtain⟨_,_,_,_,o,_,_,e,_⟩:=x;exact AAF e
 | set S n=>obtain⟨o,_,_,_,e,_⟩:=x;exact AAF e
 | ins C dx fs=>obtain⟨_,_,_,e,_⟩:=x;exact AAF e
 | own y=>obtain⟨_,e⟩:=x;exact AAF e
 | xd fs=>obtain⟨_,⟨_,_,_,e,_⟩,_⟩:=x;exact AAF e
 | rng lo hi=>obtain⟨_,_,_,e⟩:=x;exact AAF e
 | frz ob u=>obtain⟨e,_⟩:=x;exact AAF e
 | tbl ps=>exact AAF (show h.get? a=some _ from x)
 | met f y=>exact AAF (show h.get? a=some _ from x)
 | ext φ=>obtain⟨_,⟨_,e⟩,_⟩:=x;exact AAF e
theorem Paired.mapP{α β:Type}{F G:α->β->Prop}:∀{l₁:List α}{l₂:List β},Paired F l₁ l₂->(∀a b,F a b->G a b)->Paired G l₁ l₂
 | _,_,.nil,_=>.nil
 | _,_,.cons r t,f=>.cons (f _ _ r) (Paired.mapP t f)
theorem br.stay(x:br P w H h a o)(k:∀b u,(b=a\/H b=some (.own a))->h.get? b=some u->h'.get? b=some u)
  (ho:∀b,H b=some (.own a)->H' b=some (.own a)) (ht:∀b xs,H b=some (.tup xs)->H' b=some (.tup xs)):br P w H' h' a o:=by
 induction o with
 | lst xs=>obtain⟨z,its,n,r,e⟩:=x;exact⟨z,its,n,r,k _ _ (.inl rfl) e⟩
 | tup xs=>obtain⟨z,its,r,ob,e,c⟩:=x;exact⟨z,its,r,ob,k _ _ (.inl rfl) e,c⟩
 | dK kvs=>obtain⟨z,y,vs,r,ob,es,ep,e,c⟩:=x;exact⟨z,y,vs,r,ob,es,ep,k _ _ (.inl rfl) e,c⟩
 | dT kvs =>
  obtain⟨z,y,xs,r,ob,es,ep,e,c⟩:=x
  exact⟨z,y,xs,Paired.mapP r λp q z=>⟨z.1,ht _ _ z.2.1,z.2.2⟩,ob,es,ep,k _ _ (.inl rfl) e,c⟩
 | set S n=>obtain⟨ob,es,ep,t,e,c⟩:=x;exact⟨ob,es,ep,t,k _ _ (.inl rfl) e,c⟩
 | ins C dx fs =>
  obtain⟨d,z,ne,e,mA,⟨od,es,ep,e2,c⟩,r⟩:=x
  exact⟨ho _ d,z,ne,k _ _ (.inl rfl) e,mA,⟨od,es,ep,k _ _ (.inr d) e2,c⟩,r⟩
 | own y=>obtain⟨ob,e⟩:=x;exact⟨ob,k _ _ (.inl rfl) e⟩
 | xd fs=>obtain⟨mA,⟨od,es,ep,e,c⟩,r⟩:=x;exact⟨mA,⟨od,es,ep,k _ _ (.inl rfl) e,c⟩,r⟩
 | rng lo hi=>obtain⟨t,u,v,e⟩:=x;exact⟨t,u,v,k _ _ (.inl rfl) e⟩
 | frz ob u ih=>obtain⟨e,q⟩:=x;exact⟨k _ _ (.inl rfl) e,ih q⟩
 | tbl ps =>
  have e:h.get? a=some { cls:=.none,data:=.fields ps }:=x
  show h'.get? a=some { cls:=.none,data:=.fields ps }
  exact k a _ (.inl rfl) e
 | met f y =>
  have e:h.get? a=some (ADv (.ref f) (.ref y)):=x
  show h'.get? a=some (ADv (.ref f) (.ref y))
  exact k a _ (.inl rfl) e
 | ext φ=>obtain⟨p,⟨o,e⟩,st⟩:=x;exact⟨st _ _ p λo q=>k _ _ (.inl rfl) q,⟨o,k _ _ (.inl rfl) e⟩,st⟩
theorem HOk.lt(x:HOk P w H h)(e:H a=some o):a<h.objs.size:=(x a o e).lt
theorem HOk.fresh(x:HOk P w H h)(e:h.objs.size<=a):H a=none:=by
 cases q:H a with
 | none=>rfl
 | some u=>exact absurd (AAP (x.lt q) e) (AAW _)
theorem HOk.kept(x:HOk P w H h)(k:∀b u,h.get? b=some u->h'.get? b=some u):HOk P w H h':=λa o e =>
 (x a o e).stay (λb u _ q=>k b u q) (λ_ q=>q) λ_ _ q=>q
theorem HOk.laid(x:HOk P w H h)(k:∀b u,h.get? b=some u->h'.get? b=some u)(hp:h.objs.size<=a)(new:br P w (upd H a o) h' a o):HOk P w (upd H a o) h':=λb u e=>by
 have hn:=x.fresh hp
 by_cases hb:b=a
 ·subst hb;rw[ay]at e;cases e;exact new
 ·rw[ak hb]at e
  exact(x b u e).stay (λc v _ q=>k c v q) (λc q=>by rw[ak (ac q hn)];exact q) λc xs q=>by rw[ak (ac q hn)];exact q
def Rd(H:Hp)(a:Addr)(u:HO):Prop:=H a=some u\/∃o,H a=some (.frz o u)
theorem Rd.ok(r:Rd H a u)(x:HOk P w H h):br P w H h a u:=by
 rcases r with r | ⟨o,r⟩
 ·exact x a u r
 ·obtain⟨_,q⟩:=x a _ r
  exact q
def Mut:Option HO->Prop
 | some (.lst _)=>True
 | some (.dK _)=>True
 | some (.dT _)=>True
 | some (.set _ _)=>True
 | some (.ins _ _ _)=>True
 | some (.ext _)=>True
 | _=>False
theorem HOk.write(ok:HOk P w H h)(mu:Mut (H x))(he:e=x\/H e=some (.own x))(k:∀b u,b≠e->h.get? b=some u->h'.get? b=some u)(heo:∃u,h'.get? e=some u)
  (new:br P w (upd H x o') h' x o'):HOk P w (upd H x o') h':=λb u q=>by
 have nown:∀c y,H c=some (.own y)->c≠x:=λc y r z=>by subst z;rw[r]at mu;exact mu
 have ntup:∀c xs,H c=some (.tup xs)->c≠x:=λc xs r z=>by subst z;rw[r]at mu;exact mu
 by_cases hb:b=x
 ·subst hb;rw[ay]at q;cases q;exact new
 ·rw[ak hb]at q
  by_cases hbe:b=e
  ·have q':H b=some (.own x):=by
    rcases he with z | z
    ·exact absurd (hbe.trans z) hb
    ·rw[hbe];exact z
   rw[q]at q';cases q'
   obtain⟨v,hv⟩:=heo
   exact⟨v,by rw[hbe];exact hv⟩
  ·refine(ok b u q).stay (λc v hc r=>k c v ?_ r) (λc r=>by rw[ak (nown c b r)];exact r) λc xs r=>by rw[ak (ntup c xs r)];exact r
   rcases hc with rfl | hc
   ·exact hbe
   ·rintro rfl
    rcases he with z | z
    ·exact nown c b hc z
    ·rw[hc]at z;cases z;exact hb rfl
structure Un(fs ex:List Addr)(H H':Hp)(h h':Heap):Prop where
 keep:∀b o,h.get? b=some o->H b=none->b∉fs->b∉ex->h'.get? b=some o
 slot:∀b o,h.get? b=some o->H b=none->b∈fs->b∉ex->∃sl,h'.get? b=some { o with slots:=sl }
 free:∀b o,h.get? b=some o->H b=none->b∉ex->H' b=none
 there:∀b o,h.get? b=some o->b∉ex->∃o',h'.get? b=some o'
 tups:∀b xs,H b=some (.tup xs)->H' b=some (.tup xs)
 frzs:∀b o u,H b=some (.frz o u)->H' b=some (.frz o u)
 tbls:∀b ps,H b=some (.tbl ps)->∃more,H' b=some (.tbl (ps++more))
theorem Un.any(u:Un fs ex H H1 h h1)(q:h.get? b=some ob)(n:H b=none)(hx:b∉ex):∃sl,h1.get? b=some { ob with slots:=sl }:=by
 by_cases hb:b∈fs
 ·exact u.slot b ob q n hb hx
 ·exact⟨ob.slots,u.keep b ob q n hb hx⟩
theorem Un.kept(k:∀b u,h.get? b=some u->h'.get? b=some u):Un fs ex H H h h' :=
 ⟨λb ob q _ _ _=>k b ob q,λb ob q _ _ _=>⟨ob.slots,k b ob q⟩,λ_ _ _ n _=>n,λb ob q _=>⟨ob,k b ob q⟩,λ_ _ q=>q,λ_ _ _ q=>q,λ_ ps q=>⟨#[],by rw[q];simp⟩⟩
theorem Un.refl:Un fs ex H H h h:=Un.kept λ_ _ q=>q
theorem Un.laid(k:∀b u,h.get? b=some u->h'.get? b=some u)(hp:h.objs.size<=a)(hn:H a=none):Un fs ex H (upd H a o) h h' where
 keep:=λb u q _ _ _=>k b u q
 slot:=λb u q _ _ _=>⟨u.slots,k b u q⟩
 free:=λb u q n _=>by rw[ak (AAK (AAP (AAF q) hp))];exact n
 there:=λb u q _=>⟨u,k b u q⟩
 tups:=λb xs q=>by rw[ak (ac q hn)];exact q
 frzs:=λb u xs q=>by rw[ak (ac q hn)];exact q
 tbls:=λb ps q=>⟨#[],by rw[ak (ac q hn),q];simp⟩
theorem Un.write(mu:Mut (H x))(he:e=x\/H e=some (.own x))(k:∀b u,b≠e->h.get? b=some u->h'.get? b=some u)(heo:∃u,h'.get? e=some u):Un fs ex H (upd H x o) h h':=by
 have hx:∀b,H b=none->b≠x:=λb n z=>by subst z;rw[n]at mu;exact mu
 have hb:∀b,H b=none->b≠e:=λb n z=>by
  subst z
  rcases he with r | r
  ·exact hx b n r
  ·rw[n]at r;cases r
 have hm:∀b u,H b=some u->¬Mut (some u)->b≠x:=λb u q nm z=>by subst z;rw[q]at mu;exact nm mu
 refine⟨λb u q n _ _=>k b u (hb b n) q,λb u q n _ _=>⟨u.slots,k b u (hb b n) q⟩,λb u q n _=>by rw[ak (hx b n)];exact n,λb u q _=>?_,
  λb xs q=>by rw[ak (hm b _ q λz=>z)];exact q,λb u xs q=>by rw[ak (hm b _ q λz=>z)];exact q,λb ps q=>⟨#[],by rw[ak (hm b _ q λz=>z),q];simp⟩⟩
 by_cases hbe:b=e
 ·subst hbe;exact heo
 ·exact⟨u,k b u hbe q⟩
noncomputable def trk(h:Heap)(H:Hp):List Addr:=(AAl h.objs.size).filter λa=>(H a).isSome
noncomputable def wI(h:Heap)(H:Hp):Heap:=PySem.W.hideAll h (trk h H)
theorem vO(h:Heap)(H:Hp):(wI h H).objs.size=h.objs.size:=PySem.W.hideAll_size _ _
theorem yc(e:h.get? b=some o)(n:H b=none):(wI h H).get? b=some o :=
 PySem.W.hideAll_get _ e λhm=>by
  have q:(H b).isSome=true:=(ABd.mp hm).2
  rw[n]at q;simp at q
theorem Ad(e:(wI h H).get? b=some o):h.get? b=some o/\H b=none:=by
 have e':h.get? b=some o:=PySem.W.of_hideAll (trk h H) e
 refine⟨e',?_⟩
 cases q:H b with
 | none=>rfl
 | some x =>
  have hm:b∈trk h H:=ABd.mpr ⟨ABc.mpr (AAF e'),by simp[q]⟩
  have z:(wI h H).get? b=none:=PySem.W.hideAll_none (trk h H) hm
  rw[z]at e;cases e
noncomputable def BF(g h:Heap)(L:Addr):List (Addr×Obj):=(AAl h.objs.size).filterMap λa=>if a=L\/(g.get? a).isSome=true then none else(h.get? a).map λo=>(a,o)
noncomputable def aZ(g h:Heap)(L d:Addr):List (Addr×Obj):=(BF g h L).filter λp=>decide (p.1≠d)
structure Mod(K:AA2)(mg:Str->Option Value)(base:Heap):Prop where
 kin:K.In base
 glob:base.Ns mainGlobals mg
 blt:∃mb,base.Ns builtinsNs mb/\∀x:Str,x≠"__name__"->mb x=bootBuiltins x
 nolimit:base.NoLimit
/-- the context: a def's body (or a comprehension's block) running. base: fixed through the whole law;s₀,H₀: the entry;outer: the frames whose slots others may change (a def's callers);stack: all frames that run;
  ex: iterators that were made ET of the entry and are walked here (a comprehension's);fn: the names whose cells were made at the entry (a def: all;a comprehension's block: its own);calm: not BS an except suite;pn: pins that every state bears;xe: what is wanted of an exception that leaves the code -/
structure Cx where
 prog:Program
 w:World
 K:AA2
 mg:Str->Option Value
 base:Heap
 A:Around
 N:List Str
 s₀:Shared
 H₀:Hp
 env:Env
 outer:List Env
 stack:List Env
 ex:List Addr
 fn:Str->Bool
 calm:Bool
 pn:List (Addr×Obj)
 xe:Value->Shared->Prop
noncomputable def frs(l:List Env):List Addr:=l.filterMap (·.frame)
noncomputable abbrev Cx.fs(X:Cx):List Addr:=frs X.outer
def Vis(sc:Scope)(x:Str):Prop:=sc.names.lookup x=some .local\/sc.names.lookup x=some .cell\/sc.names.lookup x=some .free
def Loc(sc:Scope)(x:Str):Prop:=sc.names.lookup x=some .local\/sc.names.lookup x=some .cell
def Look(env:Env)(h:Heap)(m:Str->Option Value)(x:Str)(u:Value):Prop :=
 (env.kindOf x=some .local/\m x=some u)\/((env.kindOf x=some .cell\/env.kindOf x=some .free)/\∃c,env.cells.lookup x=some c/\h.IsCell c (some u))
structure Cx.Ok(X:Cx):Prop where
 mod:Mod X.K X.mg X.base
 kind:X.env.scope.kind=.function
 glob:X.env.globals=mainGlobals
 blt:X.env.builtins=builtinsNs
 above:X.s₀.heap.objs.size<=X.env.locals
 inj:∀x y c,X.env.cells.lookup x=some c->X.env.cells.lookup y=some c->x=y
 has:∀x,(X.env.kindOf x=some .cell\/X.env.kindOf x=some .free)->∃c,X.env.cells.lookup x=some c
 cab:∀x c,X.fn x=true->X.env.cells.lookup x=some c->X.s₀.heap.objs.size<=c
 hd:X.calm=true->X.A.handled=none
 frames:X.A.frames=some X.stack
 stk:X.stack=X.outer\/(X.stack=X.env::X.outer/\X.env.frame=some X.env.locals)
 exf:∀b∈X.ex,b≠X.env.locals/\∀x c,X.env.cells.lookup x=some c->c≠b
 bs:∀b o,X.base.get? b=some o->X.s₀.heap.get? b=some o/\X.H₀ b=none
 bsz:X.base.objs.size<=X.s₀.heap.objs.size
 noex:∀b o,X.base.get? b=some o->b∉X.ex
 exfs:∀b∈X.ex,b∉X.fs
 funs:X.s₀.heap.FunFrames X.base X.outer
 frf:∀b∈X.fs,X.H₀ b=none
structure Inv(X:Cx)(pins:List (Addr×Obj))(σ:List (Option V))(H:Hp)(s:Shared):Prop where
 ok:X.Ok
 os:s.os=X.s₀.os
 bare:AllBare s.gens
 base:Un X.fs X.ex X.H₀ H X.s₀.heap s.heap
 loc:∃m,s.heap.Ns X.env.locals m/\∀(i:Nat) (x:Str) (v:V),X.N[i]?=some x->σ[i]?=some (some v)->Vis X.env.scope x->∃u,aK v u/\Look X.env s.heap m x u
 cell:∀x c,X.env.cells.lookup x=some c->∃v,s.heap.IsCell c v
 free:H X.env.locals=none
 freeC:∀x c,X.env.cells.lookup x=some c->H c=none
 pin:∀p∈X.pn++pins,s.heap.get? p.1=some p.2/\H p.1=none/\p.1≠X.env.locals/\p.1∉X.fs/\∀v,p.2.data≠.cell v
 hok:HOk X.prog X.w H s.heap
 len:σ.length=X.N.length
theorem Cx.Ok.nofr{X:Cx}(ok:X.Ok)(e:X.base.get? b=some o):b∉X.fs:=λhb=>by
 have:=(ok.funs.mem hb).1
 rw[e]at this;cases this
theorem Inv.bs{X:Cx}{pins:List (Addr×Obj)}{σ:List (Option V)}{H:Hp}{s:Shared}(I:Inv X pins σ H s):∀b o,X.base.get? b=some o->s.heap.get? b=some o/\H b=none:=λb o e =>
 ⟨I.base.keep b o (I.ok.bs b o e).1 (I.ok.bs b o e).2 (I.ok.nofr e) (I.ok.noex b o e),I.base.free b o (I.ok.bs b o e).1 (I.ok.bs b o e).2 (I.ok.noex b o e)⟩
theorem Inv.bk(I:Inv X pins σ H s):∀b o,X.base.get? b=some o->s.heap.get? b=some o:=λb o e=>(I.bs b o e).1
theorem Inv.mod(I:Inv X pins σ H s):Mod X.K X.mg X.base:=I.ok.mod
theorem Inv.kIn(I:Inv X pins σ H s):X.K.In s.heap:=I.ok.mod.kin.keeps I.bk
theorem Inv.lt(I:Inv X pins σ H s):X.env.locals<s.heap.objs.size:=let ⟨_,hn,_⟩:=I.loc;hn.lt
theorem Inv.sz(I:Inv X pins σ H s):X.s₀.heap.objs.size<=s.heap.objs.size:=AB4 I.ok.above (ADq I.lt)
theorem Inv.nofs(I:Inv X pins σ H s)(h:s.heap.objs.size<=a):a∉X.fs:=λhb=>by
 obtain⟨_,o,ho,_⟩:=I.ok.funs.mem hb
 exact absurd (AAP (AAF ho) (AB4 I.sz h)) (AAW _)
theorem Inv.cne(I:Inv X pins σ H s):∀x c,X.env.cells.lookup x=some c->c≠X.env.locals:=λx c e z=>by
 obtain⟨v,o,ho,hd⟩:=I.cell x c e
 obtain⟨m,⟨o',es,ep,ho',hd',_⟩,_⟩:=I.loc
 rw[z,ho']at ho;cases ho;rw[hd']at hd;cases hd
theorem Inv.funs(I:Inv X pins σ H s):s.heap.FunFrames X.base X.outer:=by
 have all:∀(l:List Env),(∀b∈frs l,b∈X.fs)->X.s₀.heap.FunFrames X.base l->s.heap.FunFrames X.base l:=by
  intro l
  induction l with
  | nil=>intro _ _;trivial
  | cons env r ih =>
   intro hs hl
   obtain⟨hk,⟨L,o,hf,hn,ho,hd⟩,hr⟩:=hl
   have hL:L∈X.fs:=hs L (by unfold frs;rw[ADh,hf];exact AAE)
   obtain⟨sl,e⟩:=I.base.slot L o ho (I.ok.frf L hL) hL λz=>I.ok.exfs L z hL
   exact⟨hk,⟨L,_,hf,hn,e,hd⟩,ih (λb hb=>hs b (by unfold frs;rw[ADh,hf];exact AA9 _ hb)) hr⟩
 exact all X.outer (λ_ hb=>hb) I.ok.funs
theorem Inv.stack(I:Inv X pins σ H s):s.heap.FunFrames X.base X.stack:=by
 rcases I.ok.stk with e | ⟨e,hf⟩
 ·rw[e];exact I.funs
 ·rw[e]
  obtain⟨m,hn,_⟩:=I.loc
  refine .cons (by rw[I.ok.kind];decide) hf hn ?_ I.funs
  exact Heap.get?_none_of_le (AB4 I.ok.bsz I.ok.above)
theorem Inv.stkSub(I:Inv X pins σ H s):∀b∈frs X.stack,b∈X.env.locals::X.fs:=λb hb=>by
 rcases I.ok.stk with e | ⟨e,hf⟩
 ·rw[e]at hb;exact AA9 _ hb
 ·rw[e]at hb
  unfold frs at hb
  rw[ADh,hf]at hb
  exact hb
theorem Inv.stkFree(I:Inv X pins σ H s):∀b∈frs X.stack,H b=none:=λb hb=>by
 rcases AAG.mp (I.stkSub b hb)with e | hb
 ·rw[e];exact I.free
 ·obtain⟨_,o,ho,_⟩:=I.ok.funs.mem hb
  exact I.base.free b o ho (I.ok.frf b hb) λz=>I.ok.exfs b z hb
theorem Inv.step{g':Array GenState}{t':Nat}{d':Drawn}{ch:List Addr}(I:Inv X pins σ H s)
  (hch:∀b∈ch,(b∈X.ex\/X.s₀.heap.objs.size<=b)/\b≠X.env.locals/\(∀x c,X.env.cells.lookup x=some c->c≠b)/\∀p∈X.pn++pins,p.1≠b)
  (keep:∀b o,b≠X.env.locals->b∉X.fs->b∉ch->s.heap.get? b=some o->H b=none->h'.get? b=some o)
  (slot:∀b o,b≠X.env.locals->b∈X.fs->b∉ch->s.heap.get? b=some o->H b=none->∃sl,h'.get? b=some { o with slots:=sl }) (free:∀b o,b∉ch->s.heap.get? b=some o->H b=none->H' b=none)
  (there:∀b o,b∉ch->s.heap.get? b=some o->∃o',h'.get? b=some o')
  (tups:∀b xs,H b=some (.tup xs)->H' b=some (.tup xs)) (frzs:∀b o u,H b=some (.frz o u)->H' b=some (.frz o u)) (tbls:∀b ps,H b=some (.tbl ps)->∃more,H' b=some (.tbl (ps++more)))
  (ns:∀m,s.heap.Ns X.env.locals m->h'.Ns X.env.locals m) (hok:HOk X.prog X.w H' h') (hg:AllBare g') :
  Inv X pins σ H' { s with heap:=h',gens:=g',drawn:=d',toks:=t' }:=by
 have neL:∀b o,X.s₀.heap.get? b=some o->b≠X.env.locals:=λb o e=>AAK (AAP (AAF e) I.ok.above)
 have neC:∀b o,X.s₀.heap.get? b=some o->b∉X.ex->b∉ch:=λb o e hx hb=>by
  rcases(hch b hb).1 with z | z
  ·exact hx z
  ·exact absurd (AAP (AAF e) z) (AAW _)
 have cellK:∀x c,X.env.cells.lookup x=some c->∀v,s.heap.IsCell c v->h'.IsCell c v:=λx c e v ⟨o,ho,hd⟩=>by
  have nch:c∉ch:=λz=>(hch c z).2.2.1 x c e rfl
  by_cases hc:c∈X.fs
  ·obtain⟨sl,q⟩:=slot c o (I.cne x c e) hc nch ho (I.freeC x c e)
   exact⟨_,q,hd⟩
  ·exact⟨o,keep c o (I.cne x c e) hc nch ho (I.freeC x c e),hd⟩
 refine⟨I.ok,I.os,hg,⟨λb o e n hb hx=>?_,λb o e n hb hx=>?_,λb o e n hx=>?_,λb o e hx=>?_,λb xs e=>tups b xs (I.base.tups b xs e),λb o xs e=>frzs b o xs (I.base.frzs b o xs e),λb ps e=>?_⟩,?_,λx c e=>?_,?_,λx c e=>?_,λp hp=>?_,hok,I.len⟩
 ·exact keep b o (neL b o e) hb (neC b o e hx) (I.base.keep b o e n hb hx) (I.base.free b o e n hx)
 ·obtain⟨sl,e1⟩:=I.base.slot b o e n hb hx
  obtain⟨sl',e2⟩:=slot b _ (neL b o e) hb (neC b o e hx) e1 (I.base.free b o e n hx)
  exact⟨sl',e2⟩
 ·obtain⟨o',e1⟩:=I.base.there b o e hx
  exact free b o' (neC b o e hx) e1 (I.base.free b o e n hx)
 ·obtain⟨o',e1⟩:=I.base.there b o e hx
  exact there b o' (neC b o e hx) e1
 ·obtain⟨m1,e1⟩:=I.base.tbls b ps e
  obtain⟨m2,e2⟩:=tbls b _ e1
  exact⟨m1++m2,by rw[e2,Array.append_assoc]⟩
 ·obtain⟨m,hn,hl⟩:=I.loc
  refine⟨m,ns m hn,λi x v e1 e2 e3=>?_⟩
  obtain⟨u,r,l⟩:=hl i x v e1 e2 e3
  refine⟨u,r,?_⟩
  rcases l with l | ⟨k,c,e,z⟩
  ·exact .inl l
  ·exact .inr ⟨k,c,e,cellK x c e _ z⟩
 ·obtain⟨v,z⟩:=I.cell x c e
  exact⟨v,cellK x c e v z⟩
 ·obtain⟨m,⟨o,_,_,ho,_⟩,_⟩:=I.loc
  exact free _ o (λz=>(hch _ z).2.1 rfl) ho I.free
 ·obtain⟨v,o,ho,hd⟩:=I.cell x c e
  exact free c o (λz=>(hch c z).2.2.1 x c e rfl) ho (I.freeC x c e)
 ·obtain⟨e,n,ne,nf,d⟩:=I.pin p hp
  have nch:p.1∉ch:=λz=>(hch p.1 z).2.2.2 p hp rfl
  exact⟨keep p.1 p.2 ne nf nch e n,free p.1 p.2 nch e n,ne,nf,d⟩
theorem Inv.un{t':Nat}(I:Inv X pins σ H s)(u:Un X.fs [] H H' s.heap h')(hok:HOk X.prog X.w H' h'):Inv X pins σ H' { s with heap:=h',toks:=t' }:=by
 obtain⟨m,⟨o,es,ep,ho,r⟩,_⟩:=id I.loc
 obtain⟨sl,hL⟩:=u.any ho I.free (by simp)
 exact I.step (g':=s.gens) (d':=s.drawn) (ch:=[]) (λ_ z=>nomatch z) (λb o _ hb _ e n=>u.keep b o e n hb (by simp)) (λb o _ hb _ e n=>u.slot b o e n hb (by simp)) (λb o _ e n=>u.free b o e n (by simp)) (λb o _ e=>u.there b o e (by simp)) u.tups u.frzs u.tbls (λm' hm=>by
  obtain⟨o',es',ep',ho',r'⟩:=hm
  rw[ho]at ho';cases ho'
  exact⟨_,es',ep',hL,r'⟩) hok I.bare
theorem Inv.call{g':Array GenState}{t':Nat}{d':Drawn}{ch:List Addr}(I:Inv X pins σ H s)(u:Un (frs X.stack) ch H H' s.heap h')(hok:HOk X.prog X.w H' h')(hg:AllBare g')
  (hch:∀b∈ch,(b∈X.ex\/X.s₀.heap.objs.size<=b)/\b≠X.env.locals/\(∀x c,X.env.cells.lookup x=some c->c≠b)/\∀p∈X.pn++pins,p.1≠b) :
  Inv X pins σ H' { s with heap:=h',gens:=g',drawn:=d',toks:=t' }:=by
 obtain⟨m,⟨o,es,ep,ho,r⟩,_⟩:=id I.loc
 obtain⟨sl,hL⟩:=u.any ho I.free λz=>(hch _ z).2.1 rfl
 exact I.step (ch:=ch) hch (λb o hL hb hc e n=>u.keep b o e n (λz=>(AAG.mp (I.stkSub b z)).elim hL hb) hc) (λb o _ _ hc e n=>u.any e n hc) (λb o hc e n=>u.free b o e n hc) (λb o hc e=>u.there b o e hc) u.tups u.frzs u.tbls (λm' hm=>by
  obtain⟨o',es',ep',ho',r'⟩:=hm
  rw[ho]at ho';cases ho'
  exact⟨_,es',ep',hL,r'⟩) hok hg
theorem Inv.turned{t':Nat}{it:Addr}(I:Inv X pins σ H s)(k:∀b o,b≠it->s.heap.get? b=some o->h'.get? b=some o)(hn:H it=none)(hL:it≠X.env.locals)
  (h1:it∈X.ex\/X.s₀.heap.objs.size<=it) (h2:∀x c,X.env.cells.lookup x=some c->c≠it) (h3:∀p∈X.pn++pins,p.1≠it):Inv X pins σ H { s with heap:=h',toks:=t' }:=by
 have nit:∀b u,H b=some u->b≠it:=λb u e z=>by rw[z,hn]at e;cases e
 refine I.step (g':=s.gens) (d':=s.drawn) (ch:=[it]) (λb hb=>?_) (λb o _ _ hc e _=>k b o (λz=>hc (by simp[z])) e) (λb o _ _ hc e _=>⟨o.slots,k b o (λz=>hc (by simp[z])) e⟩) (λ_ _ _ _ n=>n)
  (λb o hc e=>⟨o,k b o (λz=>hc (by simp[z])) e⟩) (λ_ _ e=>e) (λ_ _ _ e=>e) (λb ps e=>⟨#[],by rw[e];simp⟩) (λm hm=>?_) (λb u e=>?_) I.bare
 ·have e:b=it:=by simpa using hb
  subst e
  exact⟨h1,hL,h2,h3⟩
 ·obtain⟨o,es,ep,ho,r⟩:=hm
  exact⟨o,es,ep,k _ o (AAr hL) ho,r⟩
 ·refine(I.hok b u e).stay (λc v hc q=>k c v ?_ q) (λ_ q=>q) λ_ _ q=>q
  rcases hc with z | z
  ·rw[z];exact nit b u e
  ·exact nit c _ z
theorem Inv.tok(I:Inv X pins σ H s)(t:Nat):Inv X pins σ H { s with toks:=t }:=I.un (h':=s.heap) (t':=t) Un.refl I.hok
theorem Inv.kept(I:Inv X pins σ H s)(k:∀b u,s.heap.get? b=some u->h'.get? b=some u):Inv X pins σ H { s with heap:=h',toks:=t' }:=I.un (Un.kept k) (I.hok.kept k)
theorem Inv.laid(I:Inv X pins σ H s)(k:∀b u,s.heap.get? b=some u->h'.get? b=some u)(hp:s.heap.objs.size<=a)(new:br X.prog X.w (upd H a o) h' a o) :
  Inv X pins σ (upd H a o) { s with heap:=h',toks:=t' }:=I.un (Un.laid k hp (I.hok.fresh hp)) (I.hok.laid k hp new)
theorem Inv.write(I:Inv X pins σ H s)(mu:Mut (H x))(he:e=x\/H e=some (.own x))(k:∀b u,b≠e->s.heap.get? b=some u->h'.get? b=some u)(heo:∃u,h'.get? e=some u)
  (new:br X.prog X.w (upd H x o) h' x o):Inv X pins σ (upd H x o) { s with heap:=h',toks:=t' }:=I.un (Un.write mu he k heo) (I.hok.write mu he k heo new)
theorem Inv.pins_of(I:Inv X pins σ H s)(h:∀p∈pins',s.heap.get? p.1=some p.2/\H p.1=none/\p.1≠X.env.locals/\p.1∉X.fs/\∀v,p.2.data≠.cell v):Inv X pins' σ H s :=
 ⟨I.ok,I.os,I.bare,I.base,I.loc,I.cell,I.free,I.freeC,λp hp=>(AB6.mp hp).elim (λz=>I.pin p (AAi _ z)) (h p),I.hok,I.len⟩
theorem qO{N:List Str}(hN:N.Nodup){i j:Nat}{x:Str}(a:N[i]?=some x)(b:N[j]?=some x):i=j:=by
 obtain⟨h1,e1⟩:=AA7.mp a
 obtain⟨h2,e2⟩:=AA7.mp b
 exact(List.getElem_inj hN).mp (e1.trans e2.symm)
theorem ui{M:Model}{A:Around}{E:Value->Shared->Prop}{i:Nat}{x:Str}{v:V}{u:Value}{Q:Unit->Shared->Prop}(I:Inv X pins σ H s)(hN:X.N.Nodup)(hi:X.N[i]?=some x)(hx:Loc X.env.scope x)(r:aK v u)
  (h:∀s',Inv X pins (σ.set i (some v)) H s'->(∃a,ABA a s.heap s'.heap/\(a=X.env.locals\/X.env.cells.lookup x=some a))->Q () s') (hf:X.fn x=true\/X.env.scope.names.lookup x=some .local:=by first | exact .inl rfl | exact .inr rfl | assumption):wpAny M A (storeName X.env x u) Q E s:=by
 obtain⟨m,hn,hl⟩:=id I.loc
 have hcls:(X.env.scope.kind==.class||(X.env.scope.kind==.module&&X.env.locals != X.env.globals))=false:=by rw[I.ok.kind];rfl
 have hiσ:i<σ.length:=by rw[I.len];exact(AA7.mp hi).1
 have cne:=I.cne
 have tracked:∀{a:Addr}{h':Heap},(∃o,s.heap.get? a=some o/\H a=none)->ABA a s.heap h'->HOk X.prog X.w H h':=λ{a h'} ha hs b ob e=>by
  obtain⟨_,_,hfree⟩:=ha
  refine(I.hok b ob e).stay (λc w' hc q=>(hs.2 c ?_).trans q) (λ_ q=>q) λ_ _ q=>q
  rintro rfl
  rcases hc with rfl | hc
  ·rw[hfree]at e;cases e
  ·rw[hfree]at hc;cases hc
 rcases hx with hk | hk
 ·refine wpAny_storeName_local hk hn (λh' hn' hs=>?_) hcls
  obtain⟨oL,_,_,hoL,_⟩:=id hn
  refine h _ ⟨I.ok,I.os,I.bare,⟨λb o e n hb hx=>?_,λb o e n hb hx=>?_,I.base.free,λb o e hx=>?_,I.base.tups,I.base.frzs,I.base.tbls⟩,⟨_,hn',λj y v' e1 e2 e3=>?_⟩,λy c e=>?_,I.free,I.freeC,λp hp=>?_,tracked ⟨oL,hoL,I.free⟩ hs,by simpa using I.len⟩ ⟨_,hs,.inl rfl⟩
  ·exact(hs.2 b (AAK (AAP (AAF e) I.ok.above))).trans (I.base.keep b o e n hb hx)
  ·obtain⟨sl,e1⟩:=I.base.slot b o e n hb hx
   exact⟨sl,(hs.2 b (AAK (AAP (AAF e) I.ok.above))).trans e1⟩
  ·obtain⟨o',e1⟩:=I.base.there b o e hx
   exact⟨o',(hs.2 b (AAK (AAP (AAF e) I.ok.above))).trans e1⟩
  ·by_cases hj:j=i
   ·subst hj
    rw[hi]at e1;cases e1
    rw[ABQ hiσ]at e2
    cases e2
    exact⟨u,r,.inl ⟨hk,by simp⟩⟩
   ·rw[ABf (AAr hj)]at e2
    obtain⟨u',r',q⟩:=hl j y v' e1 e2 e3
    refine⟨u',r',?_⟩
    rcases q with⟨k,e⟩|⟨k,c,e,z⟩
    ·refine .inl ⟨k,?_⟩
     have:y≠x:=λe=>hj (qO hN e1 (e ▸ hi))
     simp[this,e]
    ·exact .inr ⟨k,c,e,z.sameBut hs (cne y c e)⟩
  ·obtain⟨w',z⟩:=I.cell y c e
   exact⟨w',z.sameBut hs (cne y c e)⟩
  ·obtain⟨e,n,ne,nf,d⟩:=I.pin p hp
   exact⟨(hs.2 p.1 ne).trans e,n,ne,nf,d⟩
 ·have hfn:X.fn x=true:=by
   rcases hf with z | z
   ·exact z
   ·rw[z]at hk;cases hk
  obtain⟨c,hc⟩:=I.ok.has x (.inl hk)
  obtain⟨w',z⟩:=I.cell x c hc
  refine wpAny_storeName_cell I.ok.kind hk hc z (λh' hc' hs=>?_)
  obtain⟨oc,hoc,hocd⟩:=id z
  refine h { s with heap:=h' } ⟨I.ok,I.os,I.bare,⟨λb o e n hb hx=>?_,λb o e n hb hx=>?_,I.base.free,λb o e hx=>?_,I.base.tups,I.base.frzs,I.base.tbls⟩,⟨m,hn.sameBut hs (AAr (cne x c hc)),λj y v' e1 e2 e3=>?_⟩,λy c' e=>?_,I.free,I.freeC,λp hp=>?_,tracked ⟨oc,hoc,I.freeC x c hc⟩ hs,by simpa using I.len⟩ ⟨c,hs,.inr hc⟩
  ·exact(hs.2 b (AAK (AAP (AAF e) (I.ok.cab x c hfn hc)))).trans (I.base.keep b o e n hb hx)
  ·obtain⟨sl,e1⟩:=I.base.slot b o e n hb hx
   exact⟨sl,(hs.2 b (AAK (AAP (AAF e) (I.ok.cab x c hfn hc)))).trans e1⟩
  ·obtain⟨o',e1⟩:=I.base.there b o e hx
   exact⟨o',(hs.2 b (AAK (AAP (AAF e) (I.ok.cab x c hfn hc)))).trans e1⟩
  ·by_cases hj:j=i
   ·subst hj
    rw[hi]at e1;cases e1
    rw[ABQ hiσ]at e2
    cases e2
    exact⟨u,r,.inr ⟨.inl hk,c,hc,hc'⟩⟩
   ·rw[ABf (AAr hj)]at e2
    obtain⟨u',r',q⟩:=hl j y v' e1 e2 e3
    refine⟨u',r',?_⟩
    rcases q with q | ⟨k,c',e,z'⟩
    ·exact .inl q
    ·refine .inr ⟨k,c',e,z'.sameBut hs ?_⟩
     rintro rfl
     exact hj (qO hN e1 (I.ok.inj _ _ _ e hc ▸ hi))
  ·by_cases hcc:c'=c
   ·subst hcc;exact⟨_,hc'⟩
   ·obtain⟨w2,z2⟩:=I.cell y c' e
    exact⟨w2,z2.sameBut hs hcc⟩
  ·obtain⟨e,n,ne,nf,d⟩:=I.pin p hp
   refine⟨(hs.2 p.1 ?_).trans e,n,ne,nf,d⟩
   intro q
   rw[q,hoc]at e
   have q':oc=p.2:=AAM e
   exact d w' (by rw[<-q'];exact hocd)
theorem qE(I:Inv X pins σ H s)(hN:X.N.Nodup)(hi:X.N[i]?=some x)(hx:Loc X.env.scope x)(r:aK v u)
  (h:∀s',Inv X pins (σ.set i (some v)) H s'->Q () s') (hf:X.fn x=true\/X.env.scope.names.lookup x=some .local:=by first | exact .inl rfl | exact .inr rfl | assumption):wpAny M A (storeName X.env x u) Q E s :=
 ui I hN hi hx r (λs' I' _=>h s' I') hf
theorem Inv.call'(I:Inv X pins σ H s)(ho:s'.os=s.os)(u:Un (frs X.stack) ch H H' s.heap s'.heap)(hok:HOk X.prog X.w H' s'.heap)(hg:AllBare s'.gens)
  (hch:∀b∈ch,(b∈X.ex\/X.s₀.heap.objs.size<=b)/\b≠X.env.locals/\(∀x c,X.env.cells.lookup x=some c->c≠b)/\∀p∈X.pn++pins,p.1≠b):Inv X pins σ H' s':=by
 obtain⟨h',g',d',t',o'⟩:=s'
 have e:o'=s.os:=ho
 subst e
 exact I.call (g':=g') (t':=t') (d':=d') u hok hg hch
abbrev XK:=Value->Option Addr->Hp->Prop
noncomputable abbrev St:=List (Option V)
abbrev VK:=V->Hp->Prop
abbrev TE:=St->Hp->VK->Prop
abbrev TT:=St->Hp->(Bool->Hp->Prop)->Prop
abbrev TA:=St->Hp->(List V->Hp->Prop)->Prop
structure Ends where
 nx:St->Hp->Prop
 rt:VK
 bk:St->Hp->Prop:=λ_ _=>False
 ct:St->Hp->Prop:=λ_ _=>False
abbrev TS:=Ends->St->Hp->Prop
inductive EP(X:Cx)(pins:List (Addr×Obj))(σ:St)(Q:VK)(u:Value)(s':Shared):Prop
 | mk (v:_) (H':_) (f0:Inv X pins σ H' s') (f1:aK v u) (f2:Q v H')
inductive TP(X:Cx)(pins:List (Addr×Obj))(σ:St)(Q:Bool->Hp->Prop)(b:Bool)(s':Shared):Prop
 | mk (H':_) (f0:Inv X pins σ H' s') (f1:Q b H')
inductive AP(X:Cx)(pins:List (Addr×Obj))(σ:St)(Q:List V->Hp->Prop)(us:List Value)(s':Shared):Prop
 | mk (vs:_) (H':_) (f0:Inv X pins σ H' s') (f1:ar vs us) (f2:Q vs H')
def SP(X:Cx)(pins:List (Addr×Obj))(D:Ends)(f:Flow)(s':Shared):Prop :=
 match f with
 | .next=>∃σ' H',Inv X pins σ' H' s'/\D.nx σ' H'
 | .brk=>∃σ' H',Inv X pins σ' H' s'/\D.bk σ' H'
 | .cont=>∃σ' H',Inv X pins σ' H' s'/\D.ct σ' H'
 | .ret u=>∃v σ' H',Inv X pins σ' H' s'/\aK v u/\D.rt v H'
def PE(X:Cx)(e:Expr)(t:TE):Prop :=
 ∀(pins:List (Addr×Obj)) (s:Shared) (σ:St) (H:Hp) (Q:VK),Inv X pins σ H s->t σ H Q->wpAny (model X.prog X.w) X.A (eval e X.env) (EP X pins σ Q) X.xe s
def PT(X:Cx)(e:Expr)(t:TT):Prop :=
 ∀(pins:List (Addr×Obj)) (s:Shared) (σ:St) (H:Hp) (Q:Bool->Hp->Prop),Inv X pins σ H s->t σ H Q->wpAny (model X.prog X.w) X.A (isTrue e X.env (eval e X.env)) (TP X pins σ Q) X.xe s
def PW(X:Cx)(e:Expr)(t:TT):Prop :=
 ∀(whole:Sem Value) (pins:List (Addr×Obj)) (s:Shared) (σ:St) (H:Hp) (Q:Bool->Hp->Prop),Inv X pins σ H s->t σ H Q->wpAny (model X.prog X.w) X.A (isTrue e X.env whole) (TP X pins σ Q) X.xe s
theorem PW.pt(h:PW X e t):PT X e t:=h _
def PA(X:Cx)(es:List Expr)(t:TA):Prop :=
 ∀(pos:Pos) (pins:List (Addr×Obj)) (s:Shared) (σ:St) (H:Hp) (Q:List V->Hp->Prop),Inv X pins σ H s->t σ H Q->wpAny (model X.prog X.w) X.A (spliced (backTo pos (starEach es X.env))) (AP X pins σ Q) X.xe s
def PS(X:Cx)(st:Stmt)(t:TS):Prop :=
 ∀(pins:List (Addr×Obj)) (s:Shared) (σ:St) (H:Hp) (D:Ends),Inv X pins σ H s->t D σ H->wpAny (model X.prog X.w) X.A (exec st X.env) (SP X pins D) X.xe s
def PSs(X:Cx)(st:List Stmt)(t:TS):Prop :=
 ∀(pins:List (Addr×Obj)) (s:Shared) (σ:St) (H:Hp) (D:Ends),Inv X pins σ H s->t D σ H->wpAny (model X.prog X.w) X.A (execs st X.env) (SP X pins D) X.xe s
theorem thn{α:Type}{t:Sem α}{Q Q':α->Shared->Prop}{M:Model}{A:Around}{E:Value->Shared->Prop}{s:Shared}(h:wpAny M A t Q E s)(hQ:∀a s,Q a s->Q' a s):wpAny M A t Q' E s:=ABC h hQ λ_ _ x=>x
section
variable{X:Cx}
def tVar(i:Nat):TE:=λσ H Q=>∃v,σ[i]?=some (some v)/\Q v H
def tC(v:V):TE:=λ_ H Q=>Q v H
theorem Cy(hN:X.N[i]?=some x)(hv:Vis X.env.scope x)(hd:(x==("__debug__":Str))=false:=by decide)(hcd:(x==("__classdict__":Str))=false:=by decide):PE X (.Name x pos) (tVar i):=by
 intro pins s σ H Q I h
 obtain⟨v,e,h⟩:=h
 obtain⟨m,hn,hl⟩:=I.loc
 obtain⟨u,r,l⟩:=hl i x v hN e hv
 have fin:EP X pins σ Q u s:=⟨v,H,I,r,h⟩
 rcases l with⟨hk,hm⟩|⟨hk,c,hc,hcell⟩
 ·exact wpAny_Name (wpAny_loadName_local I.ok.kind hk hn hm fin) hd
 ·rcases hk with hk | hk
  ·exact wpAny_Name (wpAny_loadName_cell I.ok.kind hk hc hcell fin) hd
  ·exact wpAny_Name (wpAny_loadName_free I.ok.kind hk hc hcell fin hcd) hd
theorem CI{i j pos}:PE X (.Constant (.int i) j pos) (tC (.int i)):=λ_ _ _ H _ I h=>wpAny_Constant_int ⟨.int i,H,I.tok _,⟨_,rfl⟩,h⟩
theorem pe_bl{b j pos}:PE X (.Constant (.bool b) j pos) (tC (.bl b)):=λ_ _ _ H _ I h=>Constant_bool ⟨.bl b,H,I,rfl,h⟩
theorem CD{j pos}:PE X (.Constant .none j pos) (tC .non):=λ_ _ _ H _ I h=>Constant_none ⟨.non,H,I,rfl,h⟩
theorem CA{x j pos}:PE X (.Constant (.str x) j pos) (tC (.str x)):=λ_ _ _ H _ I h=>Calls.Constant_str ⟨.str x,H,I.tok _,⟨_,rfl⟩,h⟩
def Gl(X:Cx)(x:Str):Prop:=X.env.kindOf x=some .globalImplicit
theorem pq(I:Inv X pins σ H s)(hg:Gl X x)(hm:X.mg x=some u)(h:Q u s)
  (hd:(x==("__debug__":Str))=false:=by decide):wpAny (model X.prog X.w) X.A (eval (.Name x pos) X.env) Q E s :=
 Calls.Name_function_global I.ok.kind hg (Calls.loadGlobal_global (by rw[I.ok.glob];exact I.mod.glob.keeps I.bk) hm h) hd
theorem je(I:Inv X pins σ H s)(hg:Gl X x)(hm:X.mg x=none)(hv:bootBuiltins x=some u)(h:Q u s)
  (hn:x≠"__name__":=by decide) (hd:(x==("__debug__":Str))=false:=by decide):wpAny (model X.prog X.w) X.A (eval (.Name x pos) X.env) Q E s:=by
 obtain⟨mb,h1,h2⟩:=I.mod.blt
 exact Calls.Name_function_global I.ok.kind hg (Calls.loadGlobal_builtin (by rw[I.ok.glob];exact I.mod.glob.keeps I.bk) hm (by rw[I.ok.blt];exact h1.keeps I.bk) ((h2 x hn).trans hv) h) hd
theorem zP(hg:Gl X x)(hm:X.mg x=none)(hv:bootBuiltins x=some u)(r:aK v u)(hn:x≠"__name__":=by decide)(hd:(x==("__debug__":Str))=false:=by decide):PE X (.Name x pos) (tC v) :=
 λ_ _ _ H _ I h=>je I hg hm hv ⟨v,H,I,r,h⟩ hn hd
variable{a b:Expr}{ta tb:TE}{pos:Pos}
theorem aK.none_iff(r:aK x v):(v==ABO)=decide (x=.non):=by
 cases x with
 | non=>cases r;rfl
 | bl _=>cases r;rfl
 | int _=>obtain⟨t,rfl⟩:=r;rfl
 | str _=>obtain⟨t,rfl⟩:=r;rfl
 | byt _=>obtain⟨t,rfl⟩:=r;rfl
 | flt _=>obtain⟨t,rfl⟩:=r;rfl
 | ref _=>cases r;rfl
 | ty _=>cases r;rfl
def tB(t:TE):TT:=λσ H Q=>t σ H λx H1=>∃c,x=.bl c/\Q c H1
theorem Co(h:PE X e t)(he:∀whole,isTrue e X.env whole=(do let v <-whole;standAt e.pos;holding [v] (truthy v)):=by intro _;rfl):PT X e (tB t):=by
 intro pins s σ H Q I hw
 refine isTrue_plain (thn (h pins s σ H _ I hw) ?_) (he _)
 rintro v s1 ⟨x,H1,I1,r1,q1⟩
 obtain⟨d,rfl,q⟩:=q1
 cases r1
 exact ADO ⟨H1,I1,q⟩
variable{tA tB':TT}{aZ:List Expr}
def tAnd(t u:TT):TT:=λσ H Q=>t σ H λc H1=>if c=true then u σ H1 Q else Q false H1
def tOr(t u:TT):TT:=λσ H Q=>t σ H λc H1=>if c=true then Q true H1 else u σ H1 Q
def tNot(t:TT):TT:=λσ H Q=>t σ H λc H1=>Q (!c) H1
theorem zv(ha:PT X a tA):PW X (.BoolOp .And [a] pos) tA:=by
 intro wh pins s σ H Q I h
 refine isTrue_and (thn (ha pins s σ H Q I h) λc s1 e=>?_)
 cases c with
 | true=>exact isTrue_and_nil e
 | false=>exact e
theorem Cm(ha:PT X a tA):PW X (.BoolOp .Or [a] pos) tA:=by
 intro wh pins s σ H Q I h
 refine isTrue_or (thn (ha pins s σ H Q I h) λc s1 e=>?_)
 cases c with
 | false=>exact isTrue_or_nil e
 | true=>exact e
theorem Cn(ha:PT X a tA)(hb:PW X (.BoolOp .And (b::aZ) pos) tB'):PW X (.BoolOp .And (a::b::aZ) pos) (tAnd tA tB'):=by
 intro wh pins s σ H Q I h
 refine isTrue_and (thn (ha pins s σ H _ I h) ?_)
 rintro c s1 ⟨H1,I1,q1⟩
 cases c with
 | true=>exact hb wh pins s1 σ H1 Q I1 q1
 | false=>exact⟨H1,I1,q1⟩
theorem pw_or(ha:PT X a tA)(hb:PW X (.BoolOp .Or (b::aZ) pos) tB'):PW X (.BoolOp .Or (a::b::aZ) pos) (tOr tA tB'):=by
 intro wh pins s σ H Q I h
 refine isTrue_or (thn (ha pins s σ H _ I h) ?_)
 rintro c s1 ⟨H1,I1,q1⟩
 cases c with
 | true=>exact⟨H1,I1,q1⟩
 | false=>exact hb wh pins s1 σ H1 Q I1 q1
theorem Cp(ha:PT X a tA):PT X (.UnaryOp .Not a pos) (tNot tA):=by
 intro pins s σ H Q I h
 refine isTrue_not (thn (ha pins s σ H (λc H1=>Q (!c) H1) I h) ?_)
 rintro c s1 ⟨H1,I1,q1⟩
 exact⟨H1,I1,q1⟩
def tAndV(ta tb:TE):TE:=λσ H Q=>ta σ H λx H1=>∃c,x=.bl c/\if c=true then tb σ H1 Q else Q (.bl false) H1
def tNotV(ta:TE):TE:=λσ H Q=>ta σ H λx H1=>∃c,x=.bl c/\Q (.bl (!c)) H1
theorem CB{op}(h:PE X a t):PE X (.BoolOp op [a] pos) t:=λpins s σ H Q I hw=>BoolOp_one (h pins s σ H Q I hw)
theorem CL(ha:PE X a ta)(hb:PE X (.BoolOp .And (b::aZ) pos) tb):PE X (.BoolOp .And (a::b::aZ) pos) (tAndV ta tb):=by
 intro pins s σ H Q I h
 refine BoolOp_and (thn (ha pins s σ H _ I h) ?_)
 rintro v s1 ⟨x,H1,I1,r1,q1⟩
 obtain⟨c,rfl,q1⟩:=q1
 cases r1
 refine ADO ?_
 cases c with
 | true=>exact hb pins s1 σ H1 Q I1 q1
 | false=>exact⟨.bl false,H1,I1,rfl,q1⟩
theorem CC(ha:PE X a ta):PE X (.UnaryOp .Not a pos) (tNotV ta):=by
 intro pins s σ H Q I h
 refine UnaryOp_ (thn (ha pins s σ H _ I h) ?_)
 rintro v s1 ⟨x,H1,I1,r1,q1⟩
 obtain⟨c,rfl,q1⟩:=q1
 cases r1
 exact not_of (ADO ⟨.bl (!c),H1,I1,rfl,q1⟩)
def tIf(t:TT)(ta tb:TE):TE:=λσ H Q=>t σ H λc H1=>if c=true then ta σ H1 Q else tb σ H1 Q
theorem xr(hc:PT X c tA)(ha:PE X a ta)(hb:PE X b tb):PE X (.IfExp c a b pos) (tIf tA ta tb):=by
 intro pins s σ H Q I h
 refine wpAny_IfExp (thn (hc pins s σ H _ I h) ?_)
 rintro d s1 ⟨H1,I1,q1⟩
 cases d with
 | true=>exact ha pins s1 σ H1 Q I1 q1
 | false=>exact hb pins s1 σ H1 Q I1 q1
end
def SqL(K:AA2)(H:Hp)(a:Addr)(xs:List V):Prop :=
 Rd H a (.lst xs) \/
  ∃(o:Obj) (its:Array Value) (n:Nat),K.lookup a=some o/\o.cls=.type "list"/\o.dict=none/\o.data=.seq its n/\its.size<=sizeLine/\ar xs its.toList
def SqT(K:AA2)(H:Hp)(a:Addr)(xs:List V):Prop :=
 Rd H a (.tup xs) \/
  ∃(o:Obj) (its:Array Value) (n:Nat),K.lookup a=some o/\o.cls=.type "tuple"/\o.dict=none/\o.data=.seq its n/\its.size<=sizeLine/\ar xs its.toList
noncomputable def absV:Value->Option V
 | .none=>some .non
 | .bool b=>some (.bl b)
 | .int i _=>some (.int i)
 | .str x _=>some (.str x)
 | .bytes b _=>some (.byt b)
 | .float b _=>some (.flt b)
 | .ref a=>some (.ref a)
 | .type n=>some (.ty n)
 | _=>none
theorem aK.abs(r:aK x u):absV u=some x:=by
 cases x with
 | non=>cases r;rfl
 | bl _=>cases r;rfl
 | int _=>obtain⟨t,rfl⟩:=r;rfl
 | str _=>obtain⟨t,rfl⟩:=r;rfl
 | byt _=>obtain⟨t,rfl⟩:=r;rfl
 | flt _=>obtain⟨t,rfl⟩:=r;rfl
 | ref _=>cases r;rfl
 | ty _=>cases r;rfl
theorem aK.inj(r:aK x u)(q:aK y u):x=y:=AAM (r.abs.symm.trans q.abs)
theorem ar.inj(h:ar xs us)(h':ar ys us):xs=ys:=by
 induction h generalizing ys with
 | nil=>cases h';rfl
 | cons r t ih=>cases h' with
  | cons r' t'=>rw[r.inj r',ih t']
theorem SqT.of{K:AA2}(h:H a=some (.tup xs)):SqT K H a xs:=.inl (.inl h)
theorem Inv.list(I:Inv X pins σ H s)(h:SqL X.K H a xs):∃its:List Value,ar xs its/\PlainL s.heap a its.toArray/\xs.length<=sizeLine:=by
 rcases h with h | ⟨o,its,n,hk,hc,hd,hs,hz,r⟩
 ·obtain⟨z,its,n,r,e⟩:=h.ok I.hok
  exact⟨its,r,⟨_,n,e,rfl,rfl,rfl⟩,z⟩
 ·refine⟨its.toList,r,⟨o,n,I.kIn a o hk,hc,hd,by simpa using hs⟩,?_⟩
  have e:=r.length
  simp only[ABU]at e
  lia
theorem Inv.tuple(I:Inv X pins σ H s)(h:SqT X.K H a xs):∃its:List Value,ar xs its/\IsTup s.heap a its.toArray/\xs.length<=sizeLine:=by
 rcases h with h | ⟨o,its,n,hk,hc,_,hs,hz,r⟩
 ·obtain⟨z,its,r,p⟩:=h.ok I.hok
  exact⟨its,r,p.tup,z⟩
 ·refine⟨its.toList,r,⟨o,I.kIn a o hk,hc,n,by simpa using hs⟩,?_⟩
  have e:=r.length
  simp only[ABU]at e
  lia
theorem Inv.list_inj(I:Inv X pins σ H s)(h:SqL X.K H a xs)(h':SqL X.K H a ys):xs=ys:=by
 obtain⟨its,r,⟨o,n,e,_,_,d⟩,_⟩:=I.list h
 obtain⟨its',r',⟨o',n',e',_,_,d'⟩,_⟩:=I.list h'
 rw[e]at e';cases e'
 rw[d]at d'
 injection d' with d1 _
 have:its=its':=by simpa using congrArg Array.toList d1
 subst this
 exact r.inj r'
theorem Inv.tuple_inj(I:Inv X pins σ H s)(h:SqT X.K H a xs)(h':SqT X.K H a ys):xs=ys:=by
 obtain⟨its,r,⟨o,e,_,n,d⟩,_⟩:=I.tuple h
 obtain⟨its',r',⟨o',e',_,n',d'⟩,_⟩:=I.tuple h'
 rw[e]at e';cases e'
 rw[d]at d'
 injection d' with d1 _
 have:its=its':=by simpa using congrArg Array.toList d1
 subst this
 exact r.inj r'
noncomputable abbrev Cx.wish(X:Cx)(E:Value->Shared->Prop):Cx:={ X with xe:=E }
noncomputable abbrev Cx.nox(X:Cx):Cx:=X.wish λ_ _=>False
theorem Cx.Ok.wish{X:Cx}(ok:X.Ok)(E:Value->Shared->Prop):(X.wish E).Ok :=
 ⟨ok.mod,ok.kind,ok.glob,ok.blt,ok.above,ok.inj,ok.has,ok.cab,ok.hd,ok.frames,ok.stk,ok.exf,ok.bs,ok.bsz,ok.noex,ok.exfs,ok.funs,ok.frf⟩
theorem Cx.Ok.unwish{X:Cx}{E:Value->Shared->Prop}(ok:(X.wish E).Ok):X.Ok :=
 ⟨ok.mod,ok.kind,ok.glob,ok.blt,ok.above,ok.inj,ok.has,ok.cab,ok.hd,ok.frames,ok.stk,ok.exf,ok.bs,ok.bsz,ok.noex,ok.exfs,ok.funs,ok.frf⟩
theorem Inv.wish(I:Inv X pins σ H s)(E:Value->Shared->Prop):Inv (X.wish E) pins σ H s:=⟨I.ok.wish E,I.os,I.bare,I.base,I.loc,I.cell,I.free,I.freeC,I.pin,I.hok,I.len⟩
theorem Inv.unwish(I:Inv (X.wish E) pins σ H s):Inv X pins σ H s:=⟨I.ok.unwish,I.os,I.bare,I.base,I.loc,I.cell,I.free,I.freeC,I.pin,I.hok,I.len⟩
theorem SP.unwish(h:SP (X.wish E) pins D f s'):SP X pins D f s':=by
 cases f with
 | next=>obtain⟨σ',H',I,q⟩:=h;exact⟨σ',H',I.unwish,q⟩
 | brk=>obtain⟨σ',H',I,q⟩:=h;exact⟨σ',H',I.unwish,q⟩
 | cont=>obtain⟨σ',H',I,q⟩:=h;exact⟨σ',H',I.unwish,q⟩
 | ret u=>obtain⟨v,σ',H',I,r,q⟩:=h;exact⟨v,σ',H',I.unwish,r,q⟩
theorem PE.nox(h:PE X.nox e t):PE X e t:=λpins s σ H Q I hw =>
 ABC (h pins s σ H Q (I.wish _) hw) (λ_ _ ⟨v,H',I',r,q⟩=>⟨v,H',I'.unwish,r,q⟩) λ_ _ z=>ABv z
theorem PSs.nox{st:List Stmt}{t:TS}(h:PSs X.nox st t):PSs X st t:=λpins s σ H D I hw =>
 ABC (h pins s σ H D (I.wish _) hw) (λ_ _ q=>q.unwish) λ_ _ z=>ABv z
def tNext:TS:=λD σ H=>D.nx σ H
def tSeq(t u:TS):TS:=λD σ H=>t { D with nx:=u D } σ H
theorem zE:PSs X [] tNext:=λ_ _ σ H _ I h=>wpAny_execs_nil ⟨σ,H,I,h⟩
theorem xm{X:Cx}{st:Stmt}{aZ:List Stmt}{t u:TS}(h1:PS X st t)(h2:PSs X aZ u):PSs X (st::aZ) (tSeq t u):=by
 intro pins s σ H D I h
 refine wpAny_execs_cons (thn (h1 pins s σ H { D with nx:=u D } I h) λf s1 q=>?_)
 cases f with
 | next =>
  obtain⟨σ',H',I',q⟩:=q
  exact h2 pins s1 σ' H' D I' q
 | ret v=>exact q
 | brk=>exact q
 | cont=>exact q
theorem zD{X:Cx}{st:Stmt}{t:TS}(h1:PS X st t):PSs X [st] t:=by
 intro pins s σ H D I h
 refine wpAny_execs_cons (thn (h1 pins s σ H D I h) λf s1 q=>?_)
 cases f with
 | next=>exact wpAny_execs_nil q
 | ret v=>exact q
 | brk=>exact q
 | cont=>exact q
theorem Inv.quiet(I:Inv X pins σ H s):interactive X.env=false:=by simp[interactive,I.ok.kind]
def tDrop(te:TE):TS:=λD σ H=>te σ H λ_ H1=>D.nx σ H1
theorem zF(he:PE X e te)(hs:swapsWith e none pos.line X.env=pure false:=by rfl):PS X (.Expr e pos) (tDrop te):=by
 intro pins s σ H D I h
 exact wpAny_Expr_any (thn (he pins s σ H _ I h) λv s1 ⟨x,H1,I1,r1,q1⟩=>⟨σ,H1,I1,q1⟩) I.quiet hs
def tRet(te:TE):TS:=λD σ H=>te σ H D.rt
theorem Cr(he:PE X e te):PS X (.Return (some e) pos) (tRet te):=by
 intro pins s σ H D I h
 refine wpAny_Return_some (thn (he pins s σ H _ I h) ?_)
 rintro v s1 ⟨x,H1,I1,r1,q1⟩
 exact⟨x,σ,H1,I1,r1,q1⟩
def tIfS(c:TT)(t u:TS):TS:=λD σ H=>c σ H λb H1=>if b=true then t D σ H1 else u D σ H1
theorem ps_if(hc:PT X c tc)(ha:PSs X a t)(hb:PSs X b u):PS X (.If c a b pos) (tIfS tc t u):=by
 intro pins s σ H D I h
 refine wpAny_If (thn (hc pins s σ H _ I h) ?_)
 rintro d s1 ⟨H1,I1,q1⟩
 cases d with
 | true=>exact ha pins s1 σ H1 D I1 q1
 | false=>exact hb pins s1 σ H1 D I1 q1
abbrev TG:=V->St->Hp->(St->Hp->Prop)->Prop
abbrev TGs:=List V->St->Hp->(St->Hp->Prop)->Prop
def PG(X:Cx)(target:Expr)(t:TG):Prop :=
 ∀(pins:List (Addr×Obj)) (s:Shared) (σ:St) (H:Hp) (v:V) (u:Value) (Q:St->Hp->Prop),Inv X pins σ H s->aK v u->t v σ H Q ->
  wpAny (model X.prog X.w) X.A (assign target X.env u) (λ_ s'=>∃σ' H',Inv X pins σ' H' s'/\Q σ' H') X.xe s
def PGs(X:Cx)(ts:List Expr)(t:TGs):Prop :=
 ∀(pins:List (Addr×Obj)) (s:Shared) (σ:St) (H:Hp) (vs:List V) (us:List Value) (Q:St->Hp->Prop),Inv X pins σ H s->ar vs us->t vs σ H Q ->
  wpAny (model X.prog X.w) X.A (assignInOrder ((assignEach ts X.env).map (·.2)) us) (λ_ s'=>∃σ' H',Inv X pins σ' H' s'/\Q σ' H') X.xe s
abbrev TSet:=V->V->V->Hp->(Hp->Prop)->Prop
def PSet(X:Cx)(t:TSet):Prop :=
 ∀(pins:List (Addr×Obj)) (s:Shared) (σ:St) (H:Hp) (o i v:V) (ov iv u:Value) (Q:Hp->Prop),Inv X pins σ H s->aK o ov->aK i iv->aK v u->t o i v H Q ->
  wpAny (model X.prog X.w) X.A (setItem ov iv u) (λ_ s'=>∃H',Inv X pins σ H' s'/\Q H') X.xe s
def Ee(i:Nat):TG:=λv σ H Q=>Q (σ.set i (some v)) H
theorem zK(hN:X.N.Nodup)(hi:X.N[i]?=some x)(hx:Loc X.env.scope x)(hf:X.fn x=true\/X.env.scope.names.lookup x=some .local:=by first | exact .inl rfl | exact .inr rfl | assumption):PG X (.Name x pos) (Ee i):=by
 intro pins s σ H v u Q I r h
 exact wpAny_assign_Name (qE I hN hi hx r (λs' I'=>⟨_,H,I',h⟩) hf)
def gNil:TGs:=λvs σ H Q=>vs=[]/\Q σ H
def gCons(t:TG)(u:TGs):TGs:=λvs σ H Q=>∃v r,vs=v::r/\t v σ H λσ' H'=>u r σ' H' Q
theorem zJ:PGs X [] gNil:=by
 intro pins s σ H vs us Q I r h
 obtain⟨e,h⟩:=h
 subst e
 cases r
 exact assignInOrder_nil ⟨σ,H,I,h⟩
theorem xp(h1:PG X e t)(h2:PGs X es u)
  (hs:(assignEach (e::es) X.env).map (·.2)=assign e X.env::(assignEach es X.env).map (·.2):=by rfl):PGs X (e::es) (gCons t u):=by
 intro pins s σ H vs us Q I r h
 obtain⟨v,vr,e1,h⟩:=h
 subst e1
 cases r with
 | cons r rr =>
  rw[hs]
  refine assignInOrder_cons (thn (h1 pins s σ H _ _ _ I r h) ?_)
  rintro _ s1 ⟨σ1,H1,I1,q1⟩
  exact h2 pins s1 σ1 H1 _ _ Q I1 rr q1
def gTup(K:AA2)(n:Nat)(t:TGs):TG:=λv σ H Q=>∃a xs,v=.ref a/\SqT K H a xs/\xs.length=n/\t xs σ H Q
theorem Cv(hc:X.calm=true)(h:PGs X es t)
  (hn:(assignEach es X.env).length=n:=by rfl) (hst:(assignEach es X.env).findIdx? (·.1)=none:=by rfl):PG X (.Tuple es k pos) (gTup X.K n t):=by
 intro pins s σ H v u Q I r hw
 obtain⟨a,xs,e1,hq,hl,hw⟩:=hw
 subst e1
 cases r
 obtain⟨its,rv,ht,hz⟩:=I.tuple hq
 refine assign_Tuple_tuple (I.ok.hd hc) ht (by simp[hn,<-hl,rv.length]) hst λh' hx=>?_
 have I1:Inv X pins σ H { s with heap:=h' }:=I.kept (t':=s.toks) λb o e=>hx b o (AAK (AAF e)) e
 exact h pins _ σ H xs _ Q I1 (by simpa using rv) hw
def gSub(to ti:TE)(t:TSet):TG:=λv σ H Q=>to σ H λo H1=>ti σ H1 λi H2=>t o i v H2 λH3=>Q σ H3
theorem Cw(ho:PE X o to)(hi:PE X i ti)(hs:PSet X t)
  (ha:∀v,assign (.Subscript o i pos) X.env v=(do
   let ov <-holding [v] (eval o X.env)
   let iv <-holding [v,ov] (eval i X.env)
   standAt pos
   holding [v,ov,iv] (setItem ov iv v)
   release [v,ov,iv] []):=by intro _;rfl):PG X (.Subscript o i pos) (gSub to ti t):=by
 intro pins s σ H v u Q I r h
 rw[ha]
 refine AA0 (AAj (thn (ho pins s σ H _ I h) ?_))
 rintro ov s1 ⟨x,H1,I1,r1,q1⟩
 refine AA0 (AAj (thn (hi pins s1 σ H1 _ I1 q1) ?_))
 rintro iv s2 ⟨y,H2,I2,r2,q2⟩
 refine AA0 (wpAny_standAt (AA0 (AAj (thn (hs pins s2 σ H2 x y v ov iv u _ I2 r1 r2 r q2) ?_))))
 rintro _ s3 ⟨H3,I3,q3⟩
 exact wpAny_release ⟨σ,H3,I3,q3⟩
def tAsg(te:TE)(g:TG):TS:=λD σ H=>te σ H λx H1=>g x σ H1 D.nx
theorem Cu(he:PE X e te)(hg:PG X tg g)(hs:swapsWithSole [tg] e pos.line X.env=pure false:=by rfl)(hw:swappedStores [tg] e X.env=pure none:=by rfl)
  (h1:(assignEach [tg] X.env).map (·.2)=[assign tg X.env]:=by rfl):PS X (.Assign [tg] e pos) (tAsg te g):=by
 intro pins s σ H D I h
 refine wpAny_Assign_stores (thn (he pins s σ H _ I h) ?_) hs hw
 rintro v s1 ⟨x,H1,I1,r1,q1⟩
 rw[h1]
 exact thn (hg pins s1 σ H1 x v _ I1 r1 q1) λ_ s2 q=>q
theorem Cq(hN:X.N.Nodup)(hi:X.N[i]?=some x)(hx:Loc X.env.scope x)(he:PE X e te)(hs:swapsWith e (some (.Name x pos')) pos.line X.env=pure false:=by rfl)(hf:X.fn x=true\/X.env.scope.names.lookup x=some .local:=by first | exact .inl rfl | exact .inr rfl | assumption) :
  PS X (.Assign [.Name x pos'] e pos) (tAsg te (Ee i)):=by
 intro pins s σ H D I h
 refine wpAny_Assign_Name (thn (he pins s σ H _ I h) ?_) hs
 rintro v s1 ⟨y,H1,I1,r1,q1⟩
 exact qE I1 hN hi hx r1 (λs2 I2=>⟨_,H1,I2,q1⟩) hf
structure It where
 go:Nat->Hp->Prop
 yld:Nat->Hp->V->Hp->Prop
 stop:Nat->Hp->Prop
def nY(X:Cx)(pins:List (Addr×Obj))(H:Hp)(b:Addr):Prop :=
 H b=none/\b≠X.env.locals/\b∉X.fs/\(b∈X.ex\/X.s₀.heap.objs.size<=b)/\(∀x c,X.env.cells.lookup x=some c->c≠b)/\∀p∈X.pn++pins,p.1≠b
theorem Inv.fpOk(I:Inv X pins σ H s)(hb:s.heap.objs.size<=b)(hn:H' b=none):nY X pins H' b:=by
 refine⟨hn,ABY (AAP I.lt hb),I.nofs hb,.inr (AB4 I.sz hb),λx c e z=>?_,λp hp z=>?_⟩
 ·obtain⟨v,q⟩:=I.cell x c e
  exact absurd (AAP q.lt (by rw[z];exact hb)) (AAW _)
 ·exact absurd (AAP (AAF (I.pin p hp).1) (by rw[z];exact hb)) (AAW _)
structure Turn(P:Program)(w:World)(K:AA2)(tg:Expr)(J:It)(fp:List Addr)(it:Addr)(tn:Nat->Heap->Prop):Prop where
 mem:it∈fp
 obj:∀i h,tn i h->∀b∈fp,∃o,h.get? b=some o/\∀v,o.data≠.cell v
 keep:∀i h h',tn i h->(∀b∈fp,∀o,h.get? b=some o->h'.get? b=some o)->tn i h'
 item:∀(X:Cx),X.prog=P->X.w=w->X.K=K->X.calm=true->∀(i:Nat) (pins:List (Addr×Obj)) (s:Shared) (σ:St) (H:Hp) (E:Value->Shared->Prop),Inv X pins σ H s->(∀b∈fp,nY X pins H b)->tn i s.heap->J.go i H ->
  wpAny (model P w) X.A (pyNext (.ref it)) (λr s1=>∃u,r=some u /\
   wpAny (model P w) X.A (letOwnedTupleGo tg (.ref it) u) (λ_ s2=>∃x H',Inv X pins σ H' s2/\aK x u/\J.yld i H x H'/\tn (i+1) s2.heap/\∀b∈fp,H' b=none) E s1) E s
 done:∀(X:Cx),X.prog=P->X.w=w->X.K=K->X.calm=true->∀(i:Nat) (pins:List (Addr×Obj)) (s:Shared) (σ:St) (H:Hp) (E:Value->Shared->Prop),Inv X pins σ H s->(∀b∈fp,nY X pins H b)->tn i s.heap->J.stop i H ->
  wpAny (model P w) X.A (pyNext (.ref it)) (λr s1=>r=none/\Inv X pins σ H s1) E s
 self:∀(A:Around) (i:Nat) (s:Shared) (Q:Value->Shared->Prop) (E:Value->Shared->Prop),tn i s.heap->Q (.ref it) s->wpAny (model P w) A (pyIter (.ref it)) Q E s
abbrev TI:=St->Hp->(It->Hp->Prop)->Prop
inductive PIE(X:Cx)(pins:List (Addr×Obj))(σ:St)(tg:Expr)(R:It->Hp->Prop)(itv:Value)(s2:Shared):Prop
 | mk (it:Addr) (fp:List Addr) (tn:Nat->Heap->Prop) (J:It) (H':Hp) (f0:itv=.ref it) (f1:Inv X pins σ H' s2) (f2:Turn X.prog X.w X.K tg J fp it tn) (f3:tn 0 s2.heap) (f4:(∀b∈fp,nY X pins H' b)) (f5:R J H')
def PI(X:Cx)(tg iter:Expr)(wi:TI):Prop :=
 ∀(pins:List (Addr×Obj)) (s:Shared) (σ:St) (H:Hp) (R:It->Hp->Prop),Inv X pins σ H s->wi σ H R ->
  wpAny (model X.prog X.w) X.A (eval iter X.env) (λv s1=>wpAny (model X.prog X.w) X.A (pyIter v) (PIE X pins σ tg R) X.xe s1) X.xe s
theorem vV(ho:s.heap.get? it=some o)(hc:o.cls=.type n)(hd:o.data=.fields vs)
  (hn:["enumerate","zip","dict_itemiterator","dict_reverseitemiterator","odict_iterator","itertools.zip_longest","itertools.pairwise"].contains n=false) (hQ:Q () s):wpAny M A (letOwnedTupleGo tg (.ref it) u) Q E s:=by
 unfold letOwnedTupleGo
 cases tg<;>first
  | exact AA5 hQ
  | (cases u<;>first
    | exact AA5 hQ
    | (refine AA0 (wpAny_load ho ?_);rw[hc,hd];show wpAny M A (if (["enumerate","zip","dict_itemiterator","dict_reverseitemiterator","odict_iterator","itertools.zip_longest","itertools.pairwise"].contains n&&vs[0]?==some (rawInt _))=true then _ else _) Q E s;rw[if_neg (by intro h;rw[hn,Bool.false_and]at h;cases h)];exact AA5 hQ))
noncomputable def Itl(K:AA2)(a:Addr):It :=
 ⟨λi H=>∃xs x,SqL K H a xs/\xs[i]?=some x,λi H x H'=>H'=H/\∀xs,SqL K H a xs->xs[i]?=some x,λi H=>∃xs,SqL K H a xs/\xs.length<=i⟩
noncomputable def Itt(K:AA2)(a:Addr):It :=
 ⟨λi H=>∃xs x,SqT K H a xs/\xs[i]?=some x,λi H x H'=>H'=H/\∀xs,SqT K H a xs->xs[i]?=some x,λi H=>∃xs,SqT K H a xs/\xs.length<=i⟩
noncomputable def Itr(lo:Int)(n:Nat):It:=⟨λi _=>i<n,λi H x H'=>H'=H/\x=.int (lo+i),λi _=>n<=i⟩
theorem tm{P:Program}{w:World}{K:AA2}{tg:Expr}(a it:Addr):Turn P w K tg (Itl K a) [it] it (λi h=>h.IsListIter it a i) where
 mem:=by simp
 obj:=λi h st b hb=>by
  have e:b=it:=by simpa using hb
  subst e
  obtain⟨o,e,c,d⟩:=st
  exact⟨o,e,λv z=>by rw[d]at z;cases z⟩
 keep:=λi h h' st k=>st.at λo e=>k it (by simp) o e
 item:=by
  intro X hP hw hK hc i pins s σ H E I hf st hg
  subst hP hw hK
  obtain⟨xs,x,hq,hx⟩:=hg
  obtain⟨its,rv,p,hz⟩:=I.list hq
  obtain⟨u,hu,ru⟩:=rv.get hx
  obtain⟨f0,f1,f2,f3,f4,f5⟩:=hf it (by simp)
  refine wpAny_pyNext_list_item st p.isList (x:=u) (by simpa using hu) λh' st' sb=>?_
  have I1:Inv X pins σ H { s with heap:=h' }:=I.turned (t':=s.toks) (λb o hb e=>(sb.2 b hb).trans e) f0 f1 f3 f4 f5
  obtain⟨o,e,c,d⟩:=id st'
  exact⟨u,rfl,vV (s:={ s with heap:=h' }) e c d (by decide) ⟨x,H,I1,ru,⟨rfl,λys hy=>by rw[I.list_inj hy hq];exact hx⟩,st',λb hb=>(hf b hb).1⟩⟩
 done:=by
  intro X hP hw hK hc i pins s σ H E I hf st hg
  subst hP hw hK
  obtain⟨xs,hq,hx⟩:=hg
  obtain⟨its,rv,p,hz⟩:=I.list hq
  obtain⟨f0,f1,f2,f3,f4,f5⟩:=hf it (by simp)
  have hl:=rv.length
  exact wpAny_pyNext_list_end (I.ok.hd hc) st p.isList (by simp;lia) λh' eb=>⟨rfl,I.turned (t':=s.toks) (λb o hb e=>eb b o hb e) f0 f1 f3 f4 f5⟩
 self:=λ_ _ _ _ _ st h=>wpAny_pyIter_listiter st h
theorem rQ{P:Program}{w:World}{K:AA2}{tg:Expr}(a it:Addr):Turn P w K tg (Itt K a) [it] it (λi h=>h.IsTupleIter it a i) where
 mem:=by simp
 obj:=λi h st b hb=>by
  have e:b=it:=by simpa using hb
  subst e
  obtain⟨o,e,c,d⟩:=st
  exact⟨o,e,λv z=>by rw[d]at z;cases z⟩
 keep:=λi h h' st k=>st.at λo e=>k it (by simp) o e
 item:=by
  intro X hP hw hK hc i pins s σ H E I hf st hg
  subst hP hw hK
  obtain⟨xs,x,hq,hx⟩:=hg
  obtain⟨its,rv,p,hz⟩:=I.tuple hq
  obtain⟨u,hu,ru⟩:=rv.get hx
  obtain⟨f0,f1,f2,f3,f4,f5⟩:=hf it (by simp)
  refine wpAny_pyNext_tuple_item st (show s.heap.IsTuple a its.toArray from p) (x:=u) (by simpa using hu) λh' st' sb=>?_
  have I1:Inv X pins σ H { s with heap:=h' }:=I.turned (t':=s.toks) (λb o hb e=>(sb.2 b hb).trans e) f0 f1 f3 f4 f5
  obtain⟨o,e,c,d⟩:=id st'
  exact⟨u,rfl,vV (s:={ s with heap:=h' }) e c d (by decide) ⟨x,H,I1,ru,⟨rfl,λys hy=>by rw[I.tuple_inj hy hq];exact hx⟩,st',λb hb=>(hf b hb).1⟩⟩
 done:=by
  intro X hP hw hK hc i pins s σ H E I hf st hg
  subst hP hw hK
  obtain⟨xs,hq,hx⟩:=hg
  obtain⟨its,rv,p,hz⟩:=I.tuple hq
  obtain⟨f0,f1,f2,f3,f4,f5⟩:=hf it (by simp)
  have hl:=rv.length
  exact wpAny_pyNext_tuple_end (I.ok.hd hc) st (show s.heap.IsTuple a its.toArray from p) (by simp;lia) λh' eb=>⟨rfl,I.turned (t':=s.toks) (λb o hb e=>eb b o hb e) f0 f1 f3 f4 f5⟩
 self:=λ_ _ _ _ _ st h=>wpAny_pyIter_tupleiter st h
theorem rR{P:Program}{w:World}{K:AA2}{tg:Expr}(it:Addr)(lo:Int)(n:Nat):Turn P w K tg (Itr lo n) [it] it (λi h=>IsRangeIter h it (lo+(i:Nat)*1) ((n:Int)-(i:Nat)) 1) where
 mem:=by simp
 obj:=λi h st b hb=>by
  have e:b=it:=by simpa using hb
  subst e
  exact⟨_,st,λv z=>by
   have z':Data.fields _=Data.cell v:=z
   cases z'⟩
 keep:=λi h h' st k=>k it (by simp) _ st
 item:=by
  intro X hP hw hK hc i pins s σ H E I hf st hg
  subst hP hw hK
  obtain⟨f0,f1,f2,f3,f4,f5⟩:=hf it (by simp)
  have W:=Walks.range (prog:=X.prog) (w:=X.w) (I.ok.hd hc) it lo 1 n
  refine W.item i s _ _ hg st λv h' tk hv st' kk=>?_
  obtain⟨t,rfl⟩:=hv
  have I1:Inv X pins σ H { s with heap:=h',toks:=tk }:=I.turned (λb o hb e=>kk b o (by simpa using hb) e) f0 f1 f3 f4 f5
  refine⟨_,rfl,vV (s:={ s with heap:=h',toks:=tk }) (n:="range_iterator") st' rfl rfl (by decide) ⟨.int (lo+i),H,I1,⟨t,?_⟩,⟨rfl,rfl⟩,st',λb hb=>(hf b hb).1⟩⟩
  rw[Int.mul_one]
 done:=by
  intro X hP hw hK hc i pins s σ H E I hf st hg
  subst hP hw hK
  obtain⟨f0,f1,f2,f3,f4,f5⟩:=hf it (by simp)
  exact wpAny_pyNext_range_end (I.ok.hd hc) st (by have:n<=i:=hg;lia) λh' eb=>⟨rfl,I.turned (t':=s.toks) (λb o hb e=>eb b o hb e) f0 f1 f3 f4 f5⟩
 self:=λ_ _ _ _ _ st h=>wpAny_pyIter_rangeiter st h
theorem xj{pins:List (Addr×Obj)}{σ:St}{H:Hp}{s:Shared}{R:It->Hp->Prop}{E:Value->Shared->Prop}{lo hi:Int}{t u v:Tok}{tk:Nat}(I:Inv X pins σ H s)(h1:-(2 ^ 62)<=lo)(h2:lo<2 ^ 62)(h3:-(2 ^ 62)<=hi)(h4:hi<2 ^ 62)
  (q:R (Itr lo (hi-lo).toNat) H):wpAny (model X.prog X.w) X.A (pyIter (.ref s.heap.objs.size)) (PIE X pins σ tg R) E { s with heap:=s.heap.push { cls:=.type "range",data:=.fields #[.int lo t,.int hi u,.int 1 v] },toks:=tk }:=by
 refine wpAny_pyIter_range (IsRange.new ..) (small_one h1 h2 h3 h4) ?_
 have I1:Inv X pins σ H { s with heap:=s.heap.push { cls:=.type "range",data:=.fields #[.int lo t,.int hi u,.int 1 v] },toks:=tk }:=I.kept λb o e=>AA3 _ e
 refine⟨(s.heap.push { cls:=.type "range",data:=.fields #[.int lo t,.int hi u,.int 1 v] }).objs.size,[(s.heap.push { cls:=.type "range",data:=.fields #[.int lo t,.int hi u,.int 1 v] }).objs.size],_,_,H,rfl,
  I1.kept (t':=tk) λb o e=>AA3 _ e,rR _ lo (hi-lo).toNat,?_,λb hb=>?_,q⟩
 ·have e1:lo+((0:Nat):Int)*1=lo:=by simp
  have e2:(((hi-lo).toNat:Nat):Int)-((0:Nat):Int)=Builtin.Range.rangeSize lo hi 1:=by rw[rangeSize_one];split<;>lia
  show IsRangeIter _ _ (lo+((0:Nat):Int)*1) ((((hi-lo).toNat:Nat):Int)-((0:Nat):Int)) 1
  rw[e1,e2]
  exact AAD _ rfl
 ·have e:b=(s.heap.push { cls:=.type "range",data:=.fields #[.int lo t,.int hi u,.int 1 v] }).objs.size:=by simpa using hb
  subst e
  exact I1.fpOk (AAA _) (I1.hok.fresh (AAA _))
def DQ(ta:TA):TI:=λσ H R=>ta σ H λvs H1=>∃j:Int,vs=[.int j]/\-(2 ^ 62)<=j/\j<2 ^ 62/\R (Itr 0 j.toNat) H1
theorem uA{a:Expr}{ta:TA}{p pos:Pos}(hg:Gl X "range")(hm:X.mg "range" = none)(ha:PA X [a] ta)(hs:starEach [a] X.env=[(false,eval a X.env)]:=by rfl):PI X tg (.Call (.Name "range" p) [a] [] pos) (DQ ta):=by
 intro pins s σ H R I h
 refine Call_ (je I hg hm boot_range (ACR (thn (ha pos pins s σ H _ I h) ?_) hs rfl))
 rintro us s1 ⟨vs,H1,I1,r1,q1⟩
 obtain⟨j,e,q1,q2,q⟩:=q1
 subst e
 cases r1 with
 | cons r rr =>
  cases rr
  obtain⟨t,rfl⟩:=r
  exact call_range_1 (xj I1 (by lia) (by lia) q1 q2 (by simpa using q))
def tFor(wi:TI)(g:TG)(tb:TS):TS:=λD σ H=>wi σ H λJ H1=>∃W:Nat->Nat->St->Hp->Prop,(∃m,W 0 m σ H1)/\∀i m σ H,W i m σ H ->
 (J.stop i H/\D.nx σ H)\/(J.go i H/\∃N:St->Hp->Prop,(∀σ' H',N σ' H'->∃m',m' < m/\W (i+1) m' σ' H')/\∀x H',J.yld i H x H'->g x σ H' λσ2 H2=>tb { D with nx:=N,ct:=N,bk:=D.nx } σ2 H2)
noncomputable def fq(fp:List Addr)(h:Heap):List (Addr×Obj):=fp.filterMap λb=>(h.get? b).map λo=>(b,o)
theorem dW(hb:b∈fp)(e:h.get? b=some o):(b,o)∈fq fp h:=List.mem_filterMap.mpr ⟨b,hb,by rw[e];rfl⟩
theorem mV(hp:p∈fq fp h):p.1∈fp/\h.get? p.1=some p.2:=by
 obtain⟨b,hb,e⟩:=List.mem_filterMap.mp hp
 cases q:h.get? b with
 | none=>rw[q]at e;cases e
 | some o =>
  rw[q]at e
  have e':(b,o)=p:=AAM e
  subst e'
  exact⟨hb,q⟩
theorem Inv.pinned(I:Inv X pins σ H s)(hf:∀b∈fp,nY X pins H b)(ho:∀b∈fp,∃o,s.heap.get? b=some o/\∀v,o.data≠.cell v):Inv X (pins++fq fp s.heap) σ H s :=
 I.pins_of λp hp=>(AB6.mp hp).elim (λz=>I.pin p (AAI _ z)) λz=>by
  obtain⟨hb,e⟩:=mV z
  obtain⟨f0,f1,f2,_⟩:=hf p.1 hb
  obtain⟨o,e',d⟩:=ho p.1 hb
  rw[e]at e';cases e'
  exact⟨e,f0,f1,f2,d⟩
theorem Inv.unpinned(I:Inv X (pins++pl) σ H s):Inv X pins σ H s:=I.pins_of λp hp=>I.pin p (AAI _ (AAi _ hp))
theorem Cs(hp:PassesOwn (model X.prog X.w) X.A X.env X.xe)(hc:X.calm=true)(hi:PI X tg iter wi)(hg:PG X tg g)(hb:PSs X body tb)
  (hs:∀x,foldedSetIterable iter X.env x=pure x:=by intro _;rfl):PS X (.For tg iter body [] pos) (tFor wi g tb):=by
 intro pins s σ H D I h
 refine wpAny_For (thn (hi pins s σ H _ I h) λv s1 h1=>thn h1 λitv s2 h2=>?_) hs
 obtain⟨it,fp,tn,J,H2,e,I2,T,st2,f2,W,⟨m0,w0⟩,turn⟩:=h2
 subst e
 -- what stays true of the iterator's objects through the loop
 have stat:∀{H':Hp},(∀b∈fp,H' b=none)->∀b∈fp,nY X pins H' b:=λhn b hb=>⟨hn b hb,(f2 b hb).2⟩
 refine codeAny_forLoop_any (λn s'=>∃i σ' H',Inv X pins σ' H' s'/\tn i s'.heap/\(∀b∈fp,H' b=none)/\W i n σ' H') ?_ m0 ⟨0,σ,H2,I2,st2,λb hb=>(f2 b hb).1,w0⟩
 rintro n s3 ⟨i,σ3,H3,I3,st3,fr3,w3⟩
 rcases turn i n σ3 H3 w3 with⟨stop,qn⟩|⟨go,N,hN,step⟩
 ·refine AD4 hp (thn (T.done X rfl rfl rfl hc i pins s3 σ3 H3 X.xe I3 (stat fr3) st3 stop) ?_)
  rintro r s4 ⟨hr,I4⟩
  subst hr
  exact wpAny_execs_nil ⟨σ3,H3,I4,qn⟩
 ·refine AD4 hp (thn (T.item X rfl rfl rfl hc i pins s3 σ3 H3 X.xe I3 (stat fr3) st3 go) ?_)
  rintro r s4 ⟨u,hr,h4⟩
  subst hr
  refine AD4 hp (thn h4 ?_)
  rintro _ s5 ⟨x,H5,I5,r5,y5,st5,fr5⟩
  have I5':=I5.pinned (stat fr5) (T.obj _ _ st5)
  refine AD4 hp (thn (hg _ s5 σ3 H5 x u _ I5' r5 (step x H5 y5)) ?_)
  rintro _ s6 ⟨σ6,H6,I6,q6⟩
  refine AD4 hp (thn (hb _ s6 σ6 H6 _ I6 q6) λf s7 q7=>?_)
  have again:∀{σ7:St}{H7:Hp},Inv X (pins++fq fp s5.heap) σ7 H7 s7->N σ7 H7->∃m,m<n/\∃i σ' H',Inv X pins σ' H' s7/\tn i s7.heap/\(∀b∈fp,H' b=none)/\W i m σ' H':=λ{σ7 H7} I7 n7=>by
   obtain⟨m',hm,w7⟩:=hN σ7 H7 n7
   refine⟨m',hm,i+1,σ7,H7,I7.unpinned,T.keep _ _ _ st5 λb hb o e=>(I7.pin (b,o) (AAI _ (AAI _ (dW hb e)))).1,λb hb=>?_,w7⟩
   obtain⟨o,e,d⟩:=T.obj _ _ st5 b hb
   exact(I7.pin (b,o) (AAI _ (AAI _ (dW hb e)))).2.1
  cases f with
  | next=>obtain⟨σ7,H7,I7,n7⟩:=q7;exact again I7 n7
  | cont=>obtain⟨σ7,H7,I7,n7⟩:=q7;exact again I7 n7
  | brk=>obtain⟨σ7,H7,I7,q7⟩:=q7;exact⟨σ7,H7,I7.unpinned,q7⟩
  | ret v=>obtain⟨x7,σ7,H7,I7,r7,q7⟩:=q7;exact⟨x7,σ7,H7,I7.unpinned,r7,q7⟩
abbrev R2:=V->V->Hp->VK->Prop
def OpR(X:Cx)(f:Value->Value->Sem Value)(r:R2):Prop :=
 ∀(pins:List (Addr×Obj)) (s:Shared) (σ:St) (H:Hp) (x y:V) (v u:Value) (Q:VK),Inv X pins σ H s->aK x v->aK y u->r x y H Q ->
  wpAny (model X.prog X.w) X.A (f v u) (EP X pins σ Q) X.xe s
def UnR(X:Cx)(f:Value->Sem Value)(r:V->Hp->VK->Prop):Prop :=
 ∀(pins:List (Addr×Obj)) (s:Shared) (σ:St) (H:Hp) (x:V) (v:Value) (Q:VK),Inv X pins σ H s->aK x v->r x H Q ->
  wpAny (model X.prog X.w) X.A (f v) (EP X pins σ Q) X.xe s
def du(X:Cx)(f:Value)(r:List V->Hp->VK->Prop):Prop :=
 ∀(pins:List (Addr×Obj)) (s:Shared) (σ:St) (H:Hp) (xs:List V) (us:List Value) (Q:VK),Inv X pins σ H s->ar xs us->r xs H Q ->
  wpAny (model X.prog X.w) X.A (call f us) (EP X pins σ Q) X.xe s
def tOp(r:R2)(ta tb:TE):TE:=λσ H Q=>ta σ H λx H1=>tb σ H1 λy H2=>r x y H2 Q
def tUn(r:V->Hp->VK->Prop)(ta:TE):TE:=λσ H Q=>ta σ H λx H1=>r x H1 Q
def rI(C:Int->Int->Prop)(g:Int->Int->V):R2:=λx y H Q=>∃i j,x=.int i/\y=.int j/\C i j/\Q (g i j) H
def rI0(g:Int->Int->V):R2:=λx y H Q=>∃i j,x=.int i/\y=.int j/\Q (g i j) H
def rU(g:Int->V):V->Hp->VK->Prop:=λx H Q=>∃i,x=.int i/\Q (g i) H
theorem binT(ha:PE X a ta)(hb:PE X b tb){pins:List (Addr×Obj)}{s:Shared}{σ:St}{H:Hp}{R:V->V->Hp->Prop}(I:Inv X pins σ H s)
  (h:ta σ H λx H1=>tb σ H1 λy H2=>R x y H2) {Q:Value->Shared->Prop}{f:Value->Value->Sem Value}
  (hf:∀v u s2 x y H2,Inv X pins σ H2 s2->aK x v->aK y u->R x y H2->wpAny (model X.prog X.w) X.A (f v u) Q X.xe s2) :
  wpAny (model X.prog X.w) X.A (eval a X.env) (λv s₁=>wpAny (model X.prog X.w) X.A (eval b X.env) (λu s₂=>wpAny (model X.prog X.w) X.A (f v u) Q X.xe s₂) X.xe s₁) X.xe s:=by
 refine thn (ha pins s σ H _ I h) ?_
 rintro v s1 ⟨x,H1,I1,r1,q1⟩
 refine thn (hb pins s1 σ H1 _ I1 q1) ?_
 rintro u s2 ⟨y,H2,I2,r2,q2⟩
 exact hf v u s2 x y H2 I2 r1 r2 q2
theorem pe_op{op:Operator}{r:R2}(ho:OpR X (binaryOp op) r)(ha:PE X a ta)(hb:PE X b tb):PE X (.BinOp a op b pos) (tOp r ta tb):=by
 intro pins s σ H Q I h
 exact wpAny_BinOp (binT ha hb I h λv u s2 x y H2 I2 rx ry q=>ho pins s2 σ H2 x y v u Q I2 rx ry q)
theorem pe_un(ho:UnR X (unaryOp op) r)(ha:PE X a ta):PE X (.UnaryOp op a pos) (tUn r ta):=by
 intro pins s σ H Q I h
 refine UnaryOp_ (thn (ha pins s σ H _ I h) ?_)
 rintro v s1 ⟨x,H1,I1,r1,q1⟩
 exact ho pins s1 σ H1 x v Q I1 r1 q1
theorem opI{f:Value->Value->Sem Value}{C:Int->Int->Prop}{g:Int->Int->Int}
  (rule:∀(i j:Int) (t u:Tok) (s:Shared) (Q:Value->Shared->Prop) (E:Value->Shared->Prop),C i j->Q (.int (g i j) s.toks) { s with toks:=s.toks+1 }->wpAny (model X.prog X.w) X.A (f (.int i t) (.int j u)) Q E s) :
  OpR X f (rI C λi j=>.int (g i j)):=by
 intro pins s σ H x y v u Q I rx ry h
 obtain⟨i,j,rfl,rfl,hc,q⟩:=h
 obtain⟨t,rfl⟩:=rx
 obtain⟨t',rfl⟩:=ry
 exact rule i j t t' s _ _ hc ⟨.int (g i j),H,I.tok _,⟨_,rfl⟩,q⟩
theorem opI0{f:Value->Value->Sem Value}{g:Int->Int->Int}
  (rule:∀(i j:Int) (t u:Tok) (s:Shared) (Q:Value->Shared->Prop) (E:Value->Shared->Prop),Q (.int (g i j) s.toks) { s with toks:=s.toks+1 }->wpAny (model X.prog X.w) X.A (f (.int i t) (.int j u)) Q E s) :
  OpR X f (rI0 λi j=>.int (g i j)):=by
 intro pins s σ H x y v u Q I rx ry h
 obtain⟨i,j,rfl,rfl,q⟩:=h
 obtain⟨t,rfl⟩:=rx
 obtain⟨t',rfl⟩:=ry
 exact rule i j t t' s _ _ ⟨.int (g i j),H,I.tok _,⟨_,rfl⟩,q⟩
theorem opB0{f:Value->Value->Sem Value}{g:Int->Int->Bool}
  (rule:∀(i j:Int) (t u:Tok) (s:Shared) (Q:Value->Shared->Prop) (E:Value->Shared->Prop),Q (.bool (g i j)) s->wpAny (model X.prog X.w) X.A (f (.int i t) (.int j u)) Q E s) :
  OpR X f (rI0 λi j=>.bl (g i j)):=by
 intro pins s σ H x y v u Q I rx ry h
 obtain⟨i,j,rfl,rfl,q⟩:=h
 obtain⟨t,rfl⟩:=rx
 obtain⟨t',rfl⟩:=ry
 exact rule i j t t' s _ _ ⟨.bl (g i j),H,I,rfl,q⟩
def CMul(i j:Int):Prop:=(-(2 ^ 64)<i/\i<2 ^ 64)\/(-(2 ^ 64)<j/\j<2 ^ 64)
theorem CMul.ok(h:CMul i j):IntMulOk i j:=by
 rcases h with⟨h1,h2⟩|⟨h1,h2⟩
 ·exact .of_left (intBits_le_64 h1 h2)
 ·exact .of_right (intBits_le_64 h1 h2)
theorem CS:OpR X (binaryOp .Add) (rI0 λi j=>.int (i+j)):=opI0 λ_ _ _ _ _ _ _ q=>add_int q
theorem CN:OpR X (binaryOp .Sub) (rI0 λi j=>.int (i-j)):=opI0 λ_ _ _ _ _ _ _ q=>sub_int q
theorem CO:OpR X (binaryOp .Mult) (rI CMul λi j=>.int (i*j)):=opI λ_ _ _ _ _ _ _ hc q=>mul_int q hc.ok
theorem CP:OpR X (binaryOp .Mod) (rI (λ_ j=>0<j) λi j=>.int (i % j)):=opI λi j _ _ _ _ _ hc q=>by
 have h1:(0:Int)<j:=hc
 exact mod_int' (by lia) (by rw[Int.fmod_eq_emod_of_nonneg i (by lia)];exact q)
theorem unI{f:Value->Sem Value}{g:Int->Int}
  (rule:∀(i:Int) (t:Tok) (s:Shared) (Q:Value->Shared->Prop) (E:Value->Shared->Prop),Q (.int (g i) s.toks) { s with toks:=s.toks+1 }->wpAny (model X.prog X.w) X.A (f (.int i t)) Q E s) :
  UnR X f (rU λi=>.int (g i)):=by
 intro pins s σ H x v Q I rx h
 obtain⟨i,rfl,q⟩:=h
 obtain⟨t,rfl⟩:=rx
 exact rule i t s _ _ ⟨.int (g i),H,I.tok _,⟨_,rfl⟩,q⟩
theorem BU:UnR X (unaryOp .USub) (rU λi=>.int (-i)):=unI λ_ _ _ _ _ q=>neg_int q
theorem op_lt:OpR X (compareOp .Lt) (rI0 λi j=>.bl (decide (i<j))):=opB0 λ_ _ _ _ _ _ _ q=>lt_int q
theorem op_gt:OpR X (compareOp .Gt) (rI0 λi j=>.bl (decide (j<i))):=opB0 λ_ _ _ _ _ _ _ q=>gt_int q
theorem OpR.or(h:OpR X f r)(h':OpR X f r'):OpR X f (λx y H Q=>r x y H Q\/r' x y H Q):=by
 intro pins s σ H x y v u Q I rx ry q
 rcases q with q | q
 ·exact h pins s σ H x y v u Q I rx ry q
 ·exact h' pins s σ H x y v u Q I rx ry q
theorem zN(ho:OpR X (compareOp op) r)(ha:PE X a ta)(hb:PE X b tb)(hm:behindInMarks op b=false):PE X (.Compare a [op] [b] pos) (tOp r ta tb):=by
 intro pins s σ H Q I h
 exact wpAny_Compare1 (binT ha hb I h λv u s2 x y H2 I2 rx ry q=>ho pins s2 σ H2 x y v u Q I2 rx ry q) hm
def Cc(t:TE):TT:=λσ H Q=>t σ H λx H'=>∃k,x=.bl k/\Q k H'
theorem zC(ho:OpR X (compareOp op) r)(ha:PE X a ta)(hb:PE X b tb)(hm:behindInMarks op b=false):PT X (.Compare a [op] [b] pos) (Cc (tOp r ta tb)):=by
 intro pins s σ H Q I h
 refine wpAny_isTrue_Compare1 (thn (ha pins s σ H _ I h) λv s1 ⟨x,H1,I1,r1,q1⟩=>thn (hb pins s1 σ H1 _ I1 q1) λu s2 ⟨y,H2,I2,r2,q2⟩ =>
  thn (ho pins s2 σ H2 x y v u _ I2 r1 r2 q2) λc s3 ⟨z,H3,I3,r3,k,e,q3⟩=>?_) hm
 subst e
 cases r3
 exact ADO ⟨H3,I3,q3⟩
theorem kg:(sizeLine:Nat)<2 ^ 63:=by rw[ABV];decide
theorem sf:OpR X (binaryOp .Add) (λx y H Q=>∃i j,x=.str i/\y=.str j/\i.length+j.length<=sizeLine/\Q (.str (i++j)) H):=by
 intro pins s σ H x y v u Q I rx ry h
 obtain⟨i,j,rfl,rfl,hz,q⟩:=h
 obtain⟨t,rfl⟩:=rx
 obtain⟨t',rfl⟩:=ry
 exact add_str (λt' tk=>⟨.str (i++j),H,I.tok _,⟨_,rfl⟩,q⟩) hz
theorem wR(r:ar [x] us):∃u,us=[u]/\aK x u:=by
 cases r with
 | cons r1 r2=>cases r2;exact⟨_,rfl,r1⟩
theorem vals2(r:ar [x,y] us):∃u w',us=[u,w']/\aK x u/\aK y w':=by
 cases r with
 | cons r1 r2 =>
  cases r2 with
  | cons r3 r4=>cases r4;exact⟨_,_,rfl,r1,r3⟩
theorem wv(hc:X.calm=true):du X (.builtin "max") (λxs H Q=>∃i j,xs=[.int i,.int j]/\Q (.int (if j > i then j else i)) H):=by
 intro pins s σ H xs us Q I r h
 obtain⟨i,j,rfl,q⟩:=h
 obtain⟨u,w',rfl,⟨t,rfl⟩,⟨t',rfl⟩⟩:=vals2 r
 refine max_two_ints (I.ok.hd hc) λh' tk k=>⟨_,H,I.kept k,?_,q⟩
 by_cases hj:j > i
 ·rw[if_pos hj,if_pos hj];exact⟨_,rfl⟩
 ·rw[if_neg hj,if_neg hj];exact⟨_,rfl⟩
structure ObjM(h:Heap)(x dx C:Addr)(mA:Str->Option Value):Prop where
 obj:h.get? x=some (ABw C dx)
 ns:h.Ns1 dx mA
 ne:dx≠x
theorem uU{h:Heap}{dx:Addr}{mA:Str->Option Value}(n:h.Ns1 dx mA):∃od,h.get? dx=some od/\∀name,ADt name od=some (mA name):=by
 obtain⟨o,es,ep,ho,hd,hk,_,hm⟩:=n
 refine⟨o,ho,λname=>?_⟩
 have e:=hm name
 unfold nsFind findBy at e
 rw[<-Array.find?_toList]at e
 unfold ADt
 rw[hd]
 dsimp only
 split
 ·rename_i y q
  rw[q]at e
  exact congrArg some e
 ·rename_i q
  rw[q]at e
  have a:es.toList.any (·.refKey)=false:=by
   rw[List.any_eq_false]
   intro y hy
   obtain⟨z,t,hkey⟩:=hk y (Array.mem_toList_iff.mp hy)
   simp[DictEntry.refKey,hkey]
  have a':¬es.toList.any (·.refKey)=true:=by rw[a];exact AB9
  rw[if_neg a']
  exact congrArg some e
theorem ObjM.look(I:ObjM h x dx C mA):∃od,PySem.W.InstAt h x (ABw C dx) C (some od)/\∀name,ADt name od=some (mA name) :=
 let ⟨od,ho,hl⟩:=uU I.ns
 ⟨od,⟨I.obj,rfl,rfl,ho⟩,hl⟩
section
variable{prog:Program}{w:World}{A:Around}{E:Value->Shared->Prop}{s:Shared}{K:AA2}{x dx C f:Addr}{mA:Str->Option Value}{name:Str}{v:Value}
theorem AW(X:K.In s.heap)(I:ObjM s.heap x dx C mA)(hg:AC1 K C name=true)(hh:ACA K C=true)
  (ha:AAu K (.ref C) name=some none) (hv:mA name=some v) (hv':PySem.W.handedIn v=true) (h:Q v { s with toks:=s.toks+1 }) :
  wpAny (model prog w) A (getAttr (.ref x) name expr) Q E s:=by
 obtain⟨od,J,hl⟩:=I.look
 exact PySem.W.get_value X J (ADi hg).1 (PySem.W.findObj_own hh ha rfl (by rw[hl,hv])) hv' h
theorem yh(X:K.In s.heap)(I:ObjM s.heap x dx C mA)(hg:AC1 K C name=true)
  (hf:AAu K (.ref C) name=some (some (.ref f))) (ht:ADr K (.ref f)=true) (hv:mA name=none) (h:Q (.ref f,[.ref x]) s) :
  wpAny (model prog w) A (getMethod (.ref x) name pl) Q E s:=by
 obtain⟨od,J,hl⟩:=I.look
 exact PySem.W.method_fn X J (ADi hg).1 (ADi hg).2 hf (beq_iff_eq.mp ht) (by show (ADt name od).map (·.isSome)=some false;rw[hl,hv];rfl) h
theorem zr(X:K.In s.heap)(I:ObjM s.heap x dx C mA)
  (hs:AAu K (.ref C) "__setattr__" = some (some (.builtin "object.__setattr__"))) (hp:ACe K C=true) (ht:PySem.W.takerIn K C name=some none) (hh:ACA K C=true)
  (hw:PySem.Within mA ns) (hsz:ns.length<=sizeLine)
  (h:∀h',ObjM h' x dx C (λy=>if y=name then some v else mA y)->ABA dx s.heap h'->Q () { s with heap:=h',toks:=s.toks+2 }) :
  wpAny (model prog w) A (setAttr (.ref x) name v) Q E s:=by
 obtain⟨od,J,hl⟩:=I.look
 refine PySem.W.set_plain X J hs (PySem.W.osa_open (s:={ s with toks:=s.toks+1 }) (r:=none) X J hp ht λb=>?_)
 obtain⟨cd,hc,hd'⟩:=PySem.W.any_some hh
 have hx:s.heap.get? x=some ⟨.ref C,some dx,.plain,#[]⟩:=I.obj
 refine AA0 (AA5 (AA0 (AA0 (wpAny_loadPart hx (AA0 (PySem.W.Looks.here (s:={ s with toks:=s.toks+1 }) (PySem.W.looks_clsIn X hc) ?_))))))
 rw[hd']
 refine AA5 (a:=some dx) (AA0 (AA5 (AA0 ?_)))
 refine wpAny_nsSet1 (s:={ s with toks:=s.toks+1 }) I.ns λh' hn2 hs2=>?_
 obtain⟨oD,esD,epD,hoD,hdD,hcD⟩:=hn2.count (PySem.Within.cons name v hw)
 refine AA0 (wpAny_lookBehind hoD (by rw[hdD];exact pastItsLine_dict (AB4 hcD (by rw[AAO];lia))) ?_)
 exact AA5 (h _ ⟨(hs2.2 _ (AAr I.ne)).trans I.obj,hn2,I.ne⟩ hs2)
theorem xI(X:K.In s.heap)(hm:PySem.W.makesIn K C=true)
  (hi:AAu K (.ref C) "__init__" = some (some (.ref f))) (hf:PySem.W.typeIn K (.ref f)=some (.type "function"))
  (h:codeAny (model prog w) (A.under (.builtin "type.__call__" ⟨.ref C::vs,kw⟩)) (.call (.ref f) ⟨.ref (s.heap.objs.size+1)::vs,kw⟩) (PySem.W.InitBack (s.heap.objs.size+1) R)
   { s with heap:=(s.heap.push ABZ).push (ABw C s.heap.objs.size) }) :
  codeAny (model prog w) A (.call (.ref C) ⟨vs,kw⟩) R s:=by
 obtain⟨hh,g,d,t,os⟩:=s
 exact PySem.W.make_core (PySem.W.makes_of X hm) (PySem.W.looks_findIn X hi) (λself=>PySem.W.bind_fn X self hf) (.inl rfl) h
end
noncomputable def lJ(f:Str)(v:V):List (Str×V)->List (Str×V)
 | []=>[(f,v)]
 | (g,x)::r=>if g=f then(g,v)::r else(g,x)::lJ f v r
theorem iZ(f g:Str)(v:V):∀fs:List (Str×V),(lJ f v fs).lookup g=if g=f then some v else fs.lookup g
 | []=>by
  show ACJ g [(f,v)]=_
  by_cases h:g=f
  ·have hb:(g==f)=true:=beq_iff_eq.mpr h
   simp only[ACJ,hb,if_pos h]
  ·have hb:(g==f)=false:=beq_eq_false_iff_ne.mpr h
   simp only[ACJ,hb,if_neg h]
 | (k,x)::r=>by
  have ih:=iZ f g v r
  rw[show lJ f v ((k,x)::r)=(if k=f then(k,v)::r else(k,x)::lJ f v r)from rfl]
  by_cases hk:k=f
  ·rw[if_pos hk]
   by_cases h:g=k
   ·have hb:(g==k)=true:=beq_iff_eq.mpr h
    simp only[ACJ,hb,if_pos (h.trans hk)]
   ·have hb:(g==k)=false:=beq_eq_false_iff_ne.mpr h
    simp only[ACJ,hb,if_neg (λe:g=f=>h (e.trans hk.symm))]
  ·rw[if_neg hk]
   by_cases h:g=k
   ·have hb:(g==k)=true:=beq_iff_eq.mpr h
    simp only[ACJ,hb,if_neg (λe:g=f=>hk (h.symm.trans e))]
   ·have hb:(g==k)=false:=beq_eq_false_iff_ne.mpr h
    simp only[ACJ,hb]
    exact ih
theorem jg(f:Str)(v:V):∀fs:List (Str×V),f∈(lJ f v fs).map (·.1)/\∀g,g∈fs.map (·.1)->g∈(lJ f v fs).map (·.1)
 | []=>⟨by simp[lJ],λg h=>by simp at h⟩
 | (k,x)::r=>by
  obtain⟨i1,i2⟩:=jg f v r
  rw[show lJ f v ((k,x)::r)=(if k=f then(k,v)::r else(k,x)::lJ f v r)from rfl]
  by_cases hk:k=f
  ·rw[if_pos hk]
   subst hk
   exact⟨by simp,λg h=>by simpa using h⟩
  ·rw[if_neg hk]
   refine⟨?_,λg h=>?_⟩
   ·rw[AAQ]
    exact AA9 _ i1
   ·rw[AAQ]at h ⊢
    rcases AAG.mp h with e | e
    ·exact List.mem_cons.mpr (.inl e)
    ·exact AA9 _ (i2 g e)
theorem jb(f:Str)(v:V):∀fs:List (Str×V),(lJ f v fs).length<=fs.length+1
 | []=>by simp[lJ]
 | (k,x)::r=>by
  have ih:=jb f v r
  rw[show lJ f v ((k,x)::r)=(if k=f then(k,v)::r else(k,x)::lJ f v r)from rfl]
  by_cases hk:k=f
  ·rw[if_pos hk,AAO,AAO];lia
  ·rw[if_neg hk,AAO,AAO];lia
theorem oj.some_of(r:oj (some v) o):∃u,o=some u/\aK v u:=by
 cases o with
 | none=>exact(show False from r).elim
 | some u=>exact⟨u,rfl,r⟩
theorem oj.none_of(r:oj none o):o=none:=by
 cases o with
 | none=>rfl
 | some u=>exact(show False from r).elim
theorem vU(r:aK v u):PySem.W.handedIn u=true:=by
 cases v with
 | non=>cases (show u=ABO from r);rfl
 | bl b=>cases (show u=ADN b from r);rfl
 | int i=>obtain⟨t,e⟩:=(show ∃t,u=Value.int i t from r);cases e;rfl
 | str x=>obtain⟨t,e⟩:=(show ∃t,u=Value.str x t from r);cases e;rfl
 | byt b=>obtain⟨t,e⟩:=(show ∃t,u=Value.bytes b t from r);cases e;rfl
 | flt b=>obtain⟨t,e⟩:=(show ∃t,u=Value.float b t from r);cases e;rfl
 | ref a=>cases (show u=AAe a from r);rfl
 | ty n=>cases (show u=ACd n from r);rfl
theorem pG(hok:HOk P w H h)(e:H a=some (.ins C dx fs)):∃mA,ObjM h a dx C mA/\(∀f,oj (fs.lookup f) (mA f))/\PySem.Within mA (fs.map (·.1))/\fs.length<=1000/\H dx=some (.own a):=by
 obtain⟨d,z,ne,ob,mA,n,r,q⟩:=(show br P w H h a (.ins C dx fs)from hok a _ e)
 exact⟨mA,⟨ob,n,ne⟩,r,q,z,d⟩
structure Cls(K:AA2)(C:Addr):Prop where
 pg:AC1 K C ACn=true
 hd:ACA K C=true
 po:ACe K C=true
 sa:AAu K (.ref C) "__setattr__" = some (some (.builtin "object.__setattr__"))
theorem Cls.get{K:AA2}{C:Addr}(c:Cls K C)(f:Str):AC1 K C f=true:=c.pg
def jt(K:AA2)(C:Addr)(f:Str):Prop:=AAu K (.ref C) f=some none
theorem jt.taker{K:AA2}{C:Addr}{f:Str}(n:jt K C f):PySem.W.takerIn K C f=some none:=by
 unfold PySem.W.takerIn
 rw[show AAu K (.ref C) f=some none from n]
 rfl
structure Con(K:AA2)(C:Addr)(f:Str)(v:V)(u:Value):Prop where
 at_:AAu K (.ref C) f=some (some u)
 rel:aK v u
 get:PySem.W.specialIn K u "__get__" = some none
 cp:PySem.W.copiedNames.contains f=false
structure Meth(K:AA2)(C:Addr)(m:Str)(f:Addr):Prop where
 at_:AAu K (.ref C) m=some (some (.ref f))
 fn:ADr K (.ref f)=true
 kp:ABK K (.ref f)=true
theorem sI(I:Inv X pins σ H s)(e:H a=some (.ins C dx fs))(c:Cls X.K C)(n:jt X.K C f)(l:fs.lookup f=some v)
  (h:∀u s',Inv X pins σ H s'->aK v u->Q u s'):wpAny (model X.prog X.w) A (getAttr (.ref a) f b) Q E s:=by
 obtain⟨mA,O,r,_,_,_⟩:=pG I.hok e
 obtain⟨u,hu,ru⟩:=oj.some_of (v:=v) (o:=mA f) (by rw[<-l];exact r f)
 exact AW I.kIn O (c.get f) c.hd n hu (vU ru) (h u _ (I.tok _) ru)
theorem sH(I:Inv X pins σ H s)(e:H a=some (.ins C dx fs))(c:Cls X.K C)(k:Meth X.K C m g)(l:fs.lookup m=none)
  (h:Q (.ref g,[.ref a]) s):wpAny (model X.prog X.w) A (getMethod (.ref a) m pl) Q E s:=by
 obtain⟨mA,O,r,_,_,_⟩:=pG I.hok e
 have hn:mA m=none:=oj.none_of (by rw[<-l];exact r m)
 exact yh I.kIn O (c.get m) k.at_ k.fn hn h
theorem rW(I:Inv X pins σ H s)(e:H a=some (.ins C dx fs))(c:Cls X.K C)(n:jt X.K C f)(hl:fs.length<1000)(ry:aK y u)
  (h:∀s',Inv X pins σ (upd H a (.ins C dx (lJ f y fs))) s'->Q () s'):wpAny (model X.prog X.w) A (setAttr (.ref a) f u) Q E s:=by
 obtain⟨mA,O,r,wi,_,ho⟩:=pG I.hok e
 have hz:(fs.map (·.1)).length<=sizeLine:=by rw[AA4,ABV];lia
 refine zr I.kIn O c.sa c.po n.taker c.hd wi hz λh' O' sb=>h _ ?_
 have hd:∃o,h'.get? dx=some o:=let ⟨o,_,_,e',_⟩:=O'.ns;⟨o,e'⟩
 refine I.write (x:=a) (e:=dx) (by rw[e];exact ACN) (.inr ho) (λb q hb z=>(sb.2 b hb).trans z) hd ?_
 refine⟨by rw[ak O.ne];exact ho,?_,O.ne,O'.obj,_,O'.ns,λg=>?_,λg hg=>?_⟩
 ·have:=jb f y fs;lia
 ·show oj ((lJ f y fs).lookup g) (if g=f then some u else mA g)
  rw[iZ]
  by_cases q:g=f
  ·rw[if_pos q,if_pos q];exact ry
  ·rw[if_neg q,if_neg q];exact r g
 ·by_cases q:g=f
  ·rw[q];exact(jg f y fs).1
  ·refine(jg f y fs).2 g (wi g λz=>hg ?_)
   show (if g=f then some u else mA g)=none
   rw[if_neg q];exact z
theorem Inv.made(I:Inv X pins σ H s):Inv X pins σ (upd (upd H s.heap.objs.size (.own (s.heap.objs.size+1))) (s.heap.objs.size+1) (.ins C s.heap.objs.size []))
  { s with heap:=(s.heap.push ABZ).push (ABw C s.heap.objs.size) }:=by
 have e1:(s.heap.push ABZ).get? s.heap.objs.size=some ABZ:=AAD s.heap rfl
 have e2:((s.heap.push ABZ).push (ABw C s.heap.objs.size)).get? (s.heap.objs.size+1)=some (ABw C s.heap.objs.size):=by
  have:=AAD (s.heap.push ABZ) (o:=ABw C s.heap.objs.size) rfl
  rwa [ABL]at this
 have e3:(s.heap.push ABZ).Ns s.heap.objs.size (λ_=>none):=⟨ABZ,#[],_,e1,rfl,(λe he=>absurd he (by simp)),λ_=>rfl⟩
 have I1:=I.laid (a:=s.heap.objs.size) (o:=.own (s.heap.objs.size+1)) (h':=s.heap.push ABZ) (t':=s.toks) (λb u q=>AA3 _ q) (AAA _) ⟨_,e1⟩
 refine I1.laid (a:=s.heap.objs.size+1) (o:=.ins C s.heap.objs.size []) (t':=s.toks) (λb u q=>AA3 _ q) (Nat.le_of_eq (ABL _ _)) ?_
 have ne:s.heap.objs.size≠s.heap.objs.size+1:=AAK (AC2 _)
 refine⟨by rw[ak ne,ay],AAX _,ne,e2,λ_=>none,(Heap.Ns1.of_empty e3).at λo q=>AA3 _ q,λ_=>ACN,λy hy=>absurd rfl hy⟩
theorem BE(hb:attributeBase e f env (eval e env)=eval e env)
  (h:wpAny (model prog w) A (eval e env) (λo s₁=>wpAny (model prog w) A (getAttr o f true) Q E s₁) E s):wpAny (model prog w) A (eval (.Attribute e f pos) env) Q E s :=
 Attribute_any_ h (by rw[arm_eval_Attribute,hb])
def tFld(K:AA2)(ta:TE)(f:Str):TE:=λσ H Q=>ta σ H λx H1=>∃a C dx fs v,x=.ref a/\H1 a=some (.ins C dx fs)/\Cls K C/\jt K C f/\fs.lookup f=some v/\Q v H1
def sFld(K:AA2)(ta tv:TE)(f:Str):TS:=λD σ H=>tv σ H λy H1=>ta σ H1 λx H2=>∃a C dx fs,x=.ref a/\H2 a=some (.ins C dx fs)/\Cls K C/\jt K C f/\fs.length<1000 /\
 D.nx σ (upd H2 a (.ins C dx (lJ f y fs)))
theorem CJ(he:PE X e ta)(hb:attributeBase e f X.env (eval e X.env)=eval e X.env):PE X (.Attribute e f pos) (tFld X.K ta f):=by
 intro pins s σ H Q I h
 refine BE hb (thn (he pins s σ H _ I h) ?_)
 rintro u s1 ⟨x,H1,I1,rx,a,C,dx,fs,v,ex,ea,c,n,l,q⟩
 subst ex
 obtain rfl:u=AAe a:=rx
 exact sI I1 ea c n l λu' s2 I2 ru=>⟨v,H1,I2,ru,q⟩
theorem Ct(ha:PE X o ta)(hv:PE X value tv)(hs:swapsWith value (some (.Attribute o f pos')) pos.line X.env=pure false):PS X (.Assign [.Attribute o f pos'] value pos) (sFld X.K ta tv f):=by
 intro pins s σ H D I h
 refine plainObj_wpAny_Assign_Attribute (thn (hv pins s σ H _ I h) λu s1 ⟨y,H1,I1,ry,q⟩=>thn (ha pins s1 σ H1 _ I1 q) ?_) hs
 rintro ov s2 ⟨x,H2,I2,rx,a,C,dx,fs,ex,ea,c,n,l,q2⟩
 subst ex
 obtain rfl:ov=AAe a:=rx
 exact rW I2 ea c n l ry λs3 I3=>⟨σ,_,I3,q2⟩
inductive TyOf(K:AA2)(H:Hp):V->Value->Prop where
 | non:TyOf K H .non (.type "NoneType")
 | bl (x:Bool):TyOf K H (.bl x) (.type "bool")
 | int (i:Int):TyOf K H (.int i) (.type "int")
 | str (x:Str):TyOf K H (.str x) (.type "str")
 | flt (x:UInt64):TyOf K H (.flt x) (.type "float")
 | lst {a:Addr}{xs:List V} (e:H a=some (.lst xs)):TyOf K H (.ref a) (.type "list")
 | frz {a:Addr}{o:Obj}{xs:List V} (e:H a=some (.frz o (.lst xs))):TyOf K H (.ref a) (.type "list")
 | tup {a:Addr}{xs:List V} (e:H a=some (.tup xs)):TyOf K H (.ref a) (.type "tuple")
 | dK {a:Addr}{kvs:List (Key×V)} (e:H a=some (.dK kvs)):TyOf K H (.ref a) (.type "dict")
 | dT {a:Addr}{kvs:List (List Key×V)} (e:H a=some (.dT kvs)):TyOf K H (.ref a) (.type "dict")
 | ins {a C dx:Addr}{fs:List (Str×V)} (e:H a=some (.ins C dx fs)) (cl:Cls K C) (ha:AAu K (.ref C) "__class__" = some (some (.builtin "object.__class__")))
   (hn:PySem.W.specialIn K (.builtin "object.__class__") "__get__" = some (some (.builtin "getset_descriptor.__get__"))) (htk:PySem.W.takesIn K (.builtin "object.__class__")=some true)
   (hm:PySem.W.mroIn K C (.type "object")=some true):TyOf K H (.ref a) (.ref C)
structure Room(k:Nat)(A:Around):Prop where
 hd:A.handled=none
 dp:A.depth+3*k+5<recursionLimit
 un:A.units+16*k+200<cLine
theorem Room.mono(r:Room k A)(h:j<=k):Room j A:=⟨r.hd,by have:=r.dp;lia,by have:=r.un;lia⟩
theorem Room.deeper(r:Room (k+1) A)(env:Env):Room k (A.deeper env) :=
 ⟨r.hd,by have:=r.dp;show A.depth+1+3*k+5<_;lia,by have:=r.un;show A.units+3+16*k+200<_;lia⟩
theorem Room.in1(r:Room (k+1) A):Room k A.in1 :=
 ⟨r.hd,by have:=r.dp;show A.depth+3*k+5<_;lia,by have:=r.un;show A.units+1+16*k+200<_;lia⟩
theorem sw{A:Around}{C:Addr}{us:List Value}{kw:List (Str×Value)}:(A.under (.builtin "type.__call__" ⟨.ref C::us,kw⟩)).depth=A.depth+1:=by
 first | rfl | simp[Around.under,Code.weight,Code.isCreation,Code.isGuard,Code.isCaller,Code.frames,Code.isFrame,guardIds]
theorem sv{A:Around}{C:Addr}{us:List Value}{kw:List (Str×Value)}:(A.under (.builtin "type.__call__" ⟨.ref C::us,kw⟩)).units=A.units+1:=by
 first | rfl | simp[Around.under,Code.cUnits,Code.frames,Code.isFrame]
theorem Room.make(r:Room (k+1) A)(C:Addr)(us:List Value)(kw:List (Str×Value)):Room k (A.under (.builtin "type.__call__" ⟨.ref C::us,kw⟩)) :=
 ⟨r.hd,by have:=r.dp;rw[sw];lia,by have:=r.un;rw[sv];lia⟩
theorem Room.depth(r:Room k A):A.depth<recursionLimit:=by have:=r.dp;lia
def tNil:TA:=λ_ H Q=>Q [] H
def tCons(ta:TE)(tr:TA):TA:=λσ H Q=>ta σ H λx H1=>tr σ H1 λxs H2=>Q (x::xs) H2
theorem CM:PA X [] tNil:=λ_ _ _ _ H Q I h=>Calls.spliced_nil ⟨[],H,I,.nil,h⟩
theorem zR(ha:PE X e te)(hr:PA X es t)(hs:starEach (e::es) X.env=(false,eval e X.env)::starEach es X.env:=by rfl):PA X (e::es) (tCons te t):=by
 intro pos pins s σ H Q I h
 rw[hs]
 show wpAny _ _ (spliced ((false,eval e X.env)::backTo pos (starEach es X.env))) _ _ s
 refine Calls.spliced_cons (thn (ha pins s σ H _ I h) ?_)
 rintro u s1 ⟨x,H1,I1,r1,q1⟩
 refine thn (hr pos pins s1 σ H1 _ I1 q1) ?_
 rintro us s2 ⟨xs,H2,I2,r2,q2⟩
 exact⟨x::xs,H2,I2,.cons r1 r2,q2⟩
def tTup(t:TA):TE:=λσ H Q=>t σ H λxs H1=>xs.length<=sizeLine/\∀p,H1 p=none->Q (.ref p) (upd H1 p (.tup xs))
def tLst(t:TA):TE:=λσ H Q=>t σ H λxs H1=>xs.length<=sizeLine/\∀p,H1 p=none->Q (.ref p) (upd H1 p (.lst xs))
theorem Cz{x1}(h:PA X es t):PE X (.Tuple es x1 pos) (tTup t):=by
 intro pins s σ H Q I hq
 refine wpAny_Tuple_spliced (thn (h pos pins s σ H _ I hq) λus s1 ⟨xs,H1,I1,r,z,q⟩=>⟨by rw[<-r.length];exact z,?_⟩)
 have hf:H1 s1.heap.objs.size=none:=I1.hok.fresh (AAA _)
 refine⟨.ref s1.heap.objs.size,upd H1 s1.heap.objs.size (.tup xs),I1.laid (t':=s1.toks) (λb u e=>AA3 _ e) (AAA _) ?_,rfl,q _ hf⟩
 exact⟨z,us,r,⟨_,AAD _ rfl,rfl,⟨_,rfl⟩,rfl⟩⟩
theorem CF(h:PA X es t):PE X (.List es pos) (tLst t):=by
 intro pins s σ H Q I hq
 refine wpAny_List_spliced (thn (h pos pins s σ H _ I hq) λus s1 ⟨xs,H1,I1,r,z,q⟩=>⟨by rw[<-r.length];exact z,?_⟩)
 have hf:H1 s1.heap.objs.size=none:=I1.hok.fresh (AAA _)
 refine⟨.ref s1.heap.objs.size,upd H1 s1.heap.objs.size (.lst xs),I1.laid (t':=s1.toks) (λb u e=>AA3 _ e) (AAA _) ?_,rfl,q _ hf⟩
 exact⟨z,us,0,r,AAD _ rfl⟩
abbrev Sp:=List V->Hp->VK->XK->Prop
abbrev CXT:=List Env->Hp->Shared->XK->Value->Shared->Prop
structure Env0(P:Program)(w:World)(K:AA2)(mg:Str->Option Value)(base:Heap)(A:Around)(outer:List Env)(s:Shared)(H:Hp):Prop where
 frames:A.frames=some outer
 mod:Mod K mg base
 bs:∀b o,base.get? b=some o->s.heap.get? b=some o/\H b=none
 bsz:base.objs.size<=s.heap.objs.size
 funs:s.heap.FunFrames base outer
 frf:∀b∈frs outer,H b=none
 hok:HOk P w H s.heap
 bare:AllBare s.gens
inductive CE(outer:List Env)(P:Program)(w:World)(H:Hp)(s:Shared)(Q:VK)(u:Value)(s':Shared):Prop
 | mk (v:_) (H':_) (f0:s'.os=s.os) (f1:AllBare s'.gens) (f2:Un (frs outer) [] H H' s.heap s'.heap) (f3:HOk P w H' s'.heap) (f4:aK v u) (f5:Q v H')
def CR(CX:CXT)(outer:List Env)(P:Program)(w:World)(H:Hp)(s:Shared)(Q:VK)(E:XK)(r:Result)(s':Shared):Prop :=
 match r with
 | .ok (.ret u)=>CE outer P w H s Q u s'
 | .ok _=>False
 | .error e=>CX outer H s E e s'
structure FnOk(P:Program)(w:World)(K:AA2)(mg:Str->Option Value)(base:Heap)(CX:CXT)(k:Nat)(f:Addr)(fd:FuncData)(ps:List Str)(sp:Sp):Prop where
 len:∀vs H Q E,sp vs H Q E->vs.length=ps.length
 run:∀(A:Around) (outer:List Env) (s:Shared) (H:Hp) (args:Args) (us:List Value) (vs:List V) (Q:VK) (E:XK),Room k A->Env0 P w K mg base A outer s H->BindsTo s fd args (ps.zip us)->ar vs us->sp vs H Q E ->
  codeAny (model P w) A (.call (.ref f) args) (CR CX outer P w H s Q E) s
theorem Env0.make{P:Program}{w:World}{K:AA2}{mg:Str->Option Value}{base:Heap}{A:Around}{outer:List Env}{s:Shared}{H:Hp}(e:Env0 P w K mg base A outer s H)(C:Addr)(us:List Value)(kw:List (Str×Value)) :
  Env0 P w K mg base (A.under (.builtin "type.__call__" ⟨.ref C::us,kw⟩)) outer s H:=⟨by first | exact e.frames | (simpa [Around.under,Code.envs,Code.isFrame,pushEnvs]using e.frames),e.mod,e.bs,e.bsz,e.funs,e.frf,e.hok,e.bare⟩
theorem Env0.in1{P:Program}{w:World}{K:AA2}{mg:Str->Option Value}{base:Heap}{A:Around}{outer:List Env}{s:Shared}{H:Hp}(e:Env0 P w K mg base A outer s H) :
  Env0 P w K mg base A.in1 outer s H:=⟨e.frames,e.mod,e.bs,e.bsz,e.funs,e.frf,e.hok,e.bare⟩
theorem Inv.env0(I:Inv X pins σ H s):Env0 X.prog X.w X.K X.mg X.base X.A X.stack s H :=
 ⟨I.ok.frames,I.ok.mod,I.bs,AB4 I.ok.bsz I.sz,I.stack,I.stkFree,I.hok,I.bare⟩
theorem Inv.after(I:Inv X pins σ H s)(h:CE X.stack X.prog X.w H s Q u s'):EP X pins σ Q u s':=by
 obtain⟨v,H',os,bare,un,hok,r,q⟩:=h
 obtain⟨hh,g,d,t,os'⟩:=s'
 obtain rfl:os'=s.os:=os
 exact⟨v,H',I.call (h':=hh) (g':=g) (d':=d) (t':=t) (ch:=[]) un hok bare (λb z=>absurd z (by simp)),r,q⟩
def zj(sp:Sp)(dvs:List V)(E:XK)(t:TA):TE:=λσ H Q=>t σ H λvs H1=>sp (vs++dvs) H1 Q E
def tMake(C:Addr)(sp:Sp)(dvs:List V)(E:XK)(t:TA):TE:=λσ H Q=>t σ H λvs H1=>∀x dx,H1 x=none->H1 dx=none->dx≠x ->
 sp (.ref x::(vs++dvs)) (upd (upd H1 dx (.own x)) x (.ins C dx [])) (λv H2=>v=.non/\Q (.ref x) H2) E
def eD(K:AA2)(fd:FuncData)(ps:List Str)(ds:List Value):Prop :=
 ∀(s:Shared) (us:List Value),K.In s.heap->(us++ds).length=ps.length->BindsTo s fd ⟨us,[]⟩ (ps.zip (us++ds))
theorem eD.all{K:AA2}{fd:FuncData}{ps:List Str}(h:∀us:List Value,us.length=ps.length->bindArgs fd ⟨us,[]⟩=pure (ps.zip us)):eD K fd ps []:=λs us _ hl=>by
 rw[ABR]at hl ⊢
 exact .of_eq (h us hl)
def kq(CX:CXT)(X:Cx)(E:XK):Prop:=∀(pins:List (Addr×Obj)) (σ:St) (H:Hp) (s:Shared) (e:Value) (s':Shared),Inv X pins σ H s->CX X.stack H s E e s'->X.xe e s'
theorem ur(F:FnOk X.prog X.w X.K X.mg X.base CX k f fd ps sp)(hr:Room k X.A)(hb:eD X.K fd ps ds)(hd:ar dvs ds)(hx:kq CX X E)
  (I:Inv X pins σ H s) (r:ar vs us) (h:sp (vs++dvs) H Q E):wpAny (model X.prog X.w) X.A (call (.ref f) us) (EP X pins σ Q) X.xe s:=by
 have r2:ar (vs++dvs) (us++ds):=r.append hd
 have hl:(us++ds).length=ps.length:=by rw[<-r2.length];exact F.len _ _ _ _ h
 refine wpAny_call (ADZ (F.run X.A X.stack s H ⟨us,[]⟩ (us++ds) (vs++dvs) Q E hr I.env0 (hb s us I.kIn hl) r2 h) λr s' hq=>?_)
 cases r with
 | error e=>exact hx pins σ H s e s' I hq
 | ok fl =>
  cases fl with
  | ret u=>exact I.after hq
  | next=>exact ABv hq
  | brk=>exact ABv hq
  | cont=>exact ABv hq
theorem zO(F:FnOk X.prog X.w X.K X.mg X.base CX k f fd ps sp)(hr:Room k X.A)(hg:Gl X x)(hm:X.mg x=some (.ref f))(hk:ABK X.K (.ref f)=true)(hb:eD X.K fd ps ds)(hd:ar dvs ds)(hx:kq CX X E)
  (ha:PA X (e::es) t) (hdb:(x==("__debug__":Str))=false:=by decide) (he:starEach (e::es) X.env=(false,eval e X.env)::starEach es X.env:=by rfl) (hpl:(backTo pos (starEach es X.env)).any (·.1)=false:=by rfl) :
  PE X (.Call (.Name x p) (e::es) [] pos) (zj sp dvs E t):=by
 intro pins s σ H Q I h
 refine ABq (pq I hg hm ?_ hdb)
 refine PySem.W.callWith_K (h₀:=X.base) I.ok.mod.kin hk (thn (ha pos pins s σ H _ I h) λus s1 ⟨vs,H1,I1,r,q⟩=>⟨I1.kIn,?_⟩) he hpl
 exact ur F hr hb hd hx I1 r q
theorem xv(F:FnOk X.prog X.w X.K X.mg X.base CX k f fd ps sp)(hr:Room k X.A)(hg:Gl X x)(hm:X.mg x=some (.ref f))(hk:ABK X.K (.ref f)=true)(hb:eD X.K fd ps ds)(hd:ar dvs ds)(hx:kq CX X E)
  (hdb:(x==("__debug__":Str))=false:=by decide):PE X (.Call (.Name x p) [] [] pos) (zj sp dvs E tNil):=by
 intro pins s σ H Q I h
 refine ABq (pq I hg hm ?_ hdb)
 exact PySem.W.callWith_K0 I.kIn hk (ur (us:=[]) F hr hb hd hx I .nil h)
structure Mk(K:AA2)(C f:Addr):Prop where
 makes:PySem.W.makesIn K C=true
 init:AAu K (.ref C) "__init__" = some (some (.ref f))
 fn:ADr K (.ref f)=true
 kp:ABK K (.ref C)=true
theorem xg(M:Mk X.K C f)(F:FnOk X.prog X.w X.K X.mg X.base CX k f fd ps sp)(hr:Room (k+1) X.A)(hb:eD X.K fd ps ds)(hd:ar dvs ds)
  (hx:kq CX X E) (I:Inv X pins σ H s) (r:ar vs us)
  (h:∀x dx,H x=none->H dx=none->dx≠x->sp (.ref x::(vs++dvs)) (upd (upd H dx (.own x)) x (.ins C dx [])) (λv H2=>v=.non/\Q (.ref x) H2) E) :
  wpAny (model X.prog X.w) X.A (call (.ref C) us) (EP X pins σ Q) X.xe s:=by
 have hq:=h (s.heap.objs.size+1) s.heap.objs.size (I.hok.fresh (Nat.le_succ _)) (I.hok.fresh (AAA _)) (AAK (AC2 _))
 have I2:=Inv.made (C:=C) I
 have r2:ar (V.ref (s.heap.objs.size+1)::(vs++dvs)) (AAe (s.heap.objs.size+1)::(us++ds)):=.cons rfl (r.append hd)
 have hl:(AAe (s.heap.objs.size+1)::us++ds).length=ps.length:=by
  have e:=r2.length
  rw[F.len _ _ _ _ hq]at e
  exact e.symm
 refine wpAny_call (xI (f:=f) I.kIn M.makes M.init (beq_iff_eq.mp M.fn) (ADZ (F.run _ X.stack _ _ ⟨AAe (s.heap.objs.size+1)::us,[]⟩ (AAe (s.heap.objs.size+1)::(us++ds)) _ _ E (hr.make C us [])
  (I2.env0.make C us []) (hb _ (AAe (s.heap.objs.size+1)::us) I2.kIn hl) r2 hq) λr s' hq'=>?_))
 cases r with
 | error e=>exact hx pins σ _ _ e s' I2 hq'
 | ok fl =>
  cases fl with
  | ret u =>
   obtain⟨v,H',I3,rv,ev,q3⟩:=I2.after hq'
   subst ev
   exact⟨rv,⟨V.ref (s.heap.objs.size+1),H',I3,rfl,q3⟩⟩
  | next=>exact ABv hq'
  | brk=>exact ABv hq'
  | cont=>exact ABv hq'
theorem zL(M:Mk X.K C f)(F:FnOk X.prog X.w X.K X.mg X.base CX k f fd ps sp)(hr:Room (k+1) X.A)(hg:Gl X x)(hm:X.mg x=some (.ref C))(hb:eD X.K fd ps ds)(hd:ar dvs ds)(hx:kq CX X E)
  (ha:PA X (e::es) t) (hdb:(x==("__debug__":Str))=false:=by decide) (he:starEach (e::es) X.env=(false,eval e X.env)::starEach es X.env:=by rfl) (hpl:(backTo pos (starEach es X.env)).any (·.1)=false:=by rfl) :
  PE X (.Call (.Name x p) (e::es) [] pos) (tMake C sp dvs E t):=by
 intro pins s σ H Q I h
 refine ABq (pq I hg hm ?_ hdb)
 refine PySem.W.callWith_K (h₀:=X.base) I.ok.mod.kin M.kp (thn (ha pos pins s σ H _ I h) λus s1 ⟨vs,H1,I1,r,q⟩=>⟨I1.kIn,?_⟩) he hpl
 exact xg M F hr hb hd hx I1 r q
structure KBinds(K:AA2)(fd:FuncData)(ps ks:List Str)(g:List Value->List Value->List Value)(gV:List V->List V->List V):Prop where
 to:∀(s:Shared) (us ws:List Value),K.In s.heap->(g us ws).length=ps.length->BindsTo s fd ⟨us,ks.zip ws⟩ (ps.zip (g us ws))
 rel:∀{vs:List V}{us:List Value}{zs:List V}{ws:List Value},ar vs us->ar zs ws->ar (gV vs zs) (g us ws)
structure FnScope(N P:List Str)(sc:Scope):Prop where
 kind:sc.kind=.function
 co:sc.isCoroutine=false
 gen:sc.isGenerator=false
 nd:N.Nodup
 pre:N.take P.length=P
 par:∀x∈P,sc.names.lookup x=some .local\/sc.names.lookup x=some .cell
 nofree:∀y∈sc.names,y.2≠.free
theorem nQ{kindOf:Str->Option NameKind}{x:Str}:∀{binds:List (Str×Value)}{m:Str->Option Value},(∀v,(x,v)∉binds)->bindL kindOf binds m x=m x
 | [],_,_=>rfl
 | (n,v)::r,m,h=>by
  unfold bindL
  rw[nQ λw hw=>h w (AA9 _ hw)]
  split
  ·have:x≠n:=by rintro rfl;exact h v AAE
   simp[this]
  ·rfl
theorem nS{kindOf:Str->Option NameKind}{x:Str}:∀{binds:List (Str×Value)}{m:Str->Option Value},(∀v,(x,v)∉binds)->bindC kindOf binds m x=m x
 | [],_,_=>rfl
 | (n,v)::r,m,h=>by
  unfold bindC
  rw[nS λw hw=>h w (AA9 _ hw)]
  split
  ·rfl
  ·have:x≠n:=by rintro rfl;exact h v AAE
   simp[this]
theorem nR{kindOf:Str->Option NameKind}{x:Str}{v:Value}:∀{P:List Str}{vs:List Value}{i:Nat}{m:Str->Option Value},P.Nodup->P[i]?=some x->vs[i]?=some v->kindOf x=some .local ->
  bindL kindOf (P.zip vs) m x=some v
 | [],_,_,_,_,h,_,_=>by simp at h
 | _::_,[],_,_,_,_,h,_=>by simp at h
 | p::P,w::vs,0,m,nd,h1,h2,hk=>by
  simp at h1 h2;subst h1;subst h2
  show bindL kindOf ((p,w)::P.zip vs) m p=_
  unfold bindL
  rw[nQ λv hv=>(AAf.mp nd).1 (AD5 hv).1,if_pos hk]
  simp
 | p::P,w::vs,i+1,m,nd,h1,h2,hk=>by
  show bindL kindOf ((p,w)::P.zip vs) m x=_
  unfold bindL
  exact nR (i:=i) (AAf.mp nd).2 (by simpa using h1) (by simpa using h2) hk
theorem nU{kindOf:Str->Option NameKind}{x:Str}{v:Value}:∀{P:List Str}{vs:List Value}{i:Nat}{m:Str->Option Value},P.Nodup->P[i]?=some x->vs[i]?=some v->kindOf x≠some .local ->
  bindC kindOf (P.zip vs) m x=some v
 | [],_,_,_,_,h,_,_=>by simp at h
 | _::_,[],_,_,_,_,h,_=>by simp at h
 | p::P,w::vs,0,m,nd,h1,h2,hk=>by
  simp at h1 h2;subst h1;subst h2
  show bindC kindOf ((p,w)::P.zip vs) m p=_
  unfold bindC
  rw[nS λv hv=>(AAf.mp nd).1 (AD5 hv).1,if_neg hk]
  simp
 | p::P,w::vs,i+1,m,nd,h1,h2,hk=>by
  show bindC kindOf ((p,w)::P.zip vs) m x=_
  unfold bindC
  exact nU (i:=i) (AAf.mp nd).2 (by simpa using h1) (by simpa using h2) hk
noncomputable def start(N:List Str)(vs:List V):St:=vs.map some++ADV (N.length-vs.length) none
noncomputable def nI(CX:CXT)(P:Program)(w:World)(K:AA2)(mg:Str->Option Value)(base:Heap)(N:List Str)(qual:Str)(scope:Scope)(f:Addr)(cd:Value)(A:Around)(outer:List Env)(s:Shared)(H:Hp)(E:XK):Cx where
 prog:=P
 w:=w
 K:=K
 mg:=mg
 base:=base
 A:=A.deeper (envOfC qual scope s.heap.objs.size f cd)
 N:=N
 s₀:=s
 H₀:=H
 env:=envOfC qual scope s.heap.objs.size f cd
 outer:=outer
 stack:=envOfC qual scope s.heap.objs.size f cd::outer
 ex:=[]
 calm:=true
 fn:=λ_=>true
 pn:=[]
 xe:=λe s'=>wpAny (model P w) (A.deeper (envOfC qual scope s.heap.objs.size f cd)) (leaving (envOfC qual scope s.heap.objs.size f cd) e) (λ_ s''=>CX outer H s E e s'') (λe' s''=>CX outer H s E e' s'') s'
theorem rC{sc:Scope}{n:Nat}{x:Str}(h:sc.names.lookup x=some .cell):∃c,(cellsFrom n sc.names []).lookup x=some c:=by
 have q:=ADI sc.names n [] (.inl h)
 exact AD0.mp q
theorem nC{CX:CXT}{P:Program}{w:World}{K:AA2}{mg:Str->Option Value}{base:Heap}{N ps:List Str}{qual:Str}{scope:Scope}{f:Addr}{cd:Value}{A:Around}{outer:List Env}{s s1:Shared}{H:Hp}{E:XK}{us:List Value}{vs:List V}
  (S:FnScope N ps scope) (hd:A.handled=none) (e0:Env0 P w K mg base A outer s H) (hl:vs.length=ps.length) (r:ar vs us)
  (x:InCallC s s.heap.objs.size (bindL (envOfC qual scope s.heap.objs.size f cd).kindOf (ps.zip us) λ_=>none) (cellsFrom (s.heap.objs.size+1) scope.names []) (bindC (envOfC qual scope s.heap.objs.size f cd).kindOf (ps.zip us) λ_=>none) s1) :
  Inv (nI CX P w K mg base N qual scope f cd A outer s H E) [] (start N vs) H s1:=by
 have hpl:ps.length<=N.length:=by have:=congrArg ACS S.pre;rw[ABM]at this;lia
 obtain⟨h1,tk,rfl,hk⟩:=x.done
 have noA:∀b:Addr,b∉(nI CX P w K mg base N qual scope f cd A outer s H E).ex:=λb z=>absurd (show b∈([]:List Addr)from z) (by simp)
 refine⟨⟨e0.mod,S.kind,rfl,rfl,AAA _,λy z c h1 h2=>?_,λy hy=>?_,λy c _ h=>?_,λ_=>hd,Around.frames_deeper e0.frames,.inr ⟨rfl,rfl⟩,λb z=>absurd z (noA b),e0.bs,e0.bsz,λb _ _=>noA b,λb z=>absurd z (noA b),e0.funs,e0.frf⟩,
  rfl,e0.bare,Un.kept hk,⟨_,x.toInCall.ns,λi y v h1 h2 h3=>?_⟩,λy c h=>⟨_,x.cell y c h⟩,e0.hok.fresh (AAA _),λy c h=>?_,λp hp=>absurd (show p∈([]:List (Addr×Obj))from hp) (by simp),e0.hok.kept hk,?_⟩
 ·exact name_of_addr x.apart (ABJ h1) (ABJ h2)
 ·have hy:scope.names.lookup y=some .cell\/scope.names.lookup y=some .free:=hy
  rcases hy with hy | hy
  ·exact rC hy
  ·exact absurd rfl (S.nofree _ (ABJ hy))
 ·exact ADq (x.above y c (ABJ h))
 ·have hi:i<vs.length:=by
   unfold start at h2
   by_cases hi:i<vs.length
   ·exact hi
   ·rw[AAY (by simpa using hi)]at h2
    rw[ACK]at h2
    split at h2<;>cases h2
  have ha:vs[i]?=some v:=by
   unfold start at h2
   rw[AAL (by simpa using hi),AAN]at h2
   cases e:vs[i]? with
   | none=>rw[e]at h2;cases h2
   | some a=>rw[e]at h2;cases h2;rfl
  obtain⟨u,hu,rv⟩:=r.get ha
  have hp:ps[i]?=some y:=by
   rw[<-S.pre,ABI (by lia)];exact h1
  have ndP:ps.Nodup:=by rw[<-S.pre];exact S.nd.sublist (ACB _ _)
  refine⟨u,rv,?_⟩
  rcases S.par y (AAc hp)with k | k
  ·exact .inl ⟨k,nR ndP hp hu k⟩
  ·obtain⟨c,e⟩:=rC (n:=s.heap.objs.size+1) k
   refine .inr ⟨.inl k,c,e,?_⟩
   have q:=x.cell y c e
   rw[nU ndP hp hu (by show scope.names.lookup y≠_;rw[k];decide)]at q
   exact q
 ·exact e0.hok.fresh (ADq (x.above y c (ABJ h)))
 ·unfold start
  show _=N.length
  rw[AAH,AA4,ACT]
  lia
theorem Eg{CX:CXT}{P:Program}{w:World}{K:AA2}{mg:Str->Option Value}{base:Heap}{k:Nat}{f:Addr}{name qual:Str}{params:Arguments}{body:List Stmt}{scope:Scope}{dV kV doc pm cdv ct oc:Value}{an od:Option Addr}
  {osl:Array (Option Value)}{N ps:List Str}{sp:Sp} (lk:K.lookup f=some ⟨oc,od,.func (ABg name qual params body scope dV kV doc pm an cdv ct),osl⟩) (hcd:ACo K cdv qual=true) (S:FnScope N ps scope)
  (len:∀vs H Q E,sp vs H Q E->vs.length=ps.length)
  (hbody:∀(A:Around) (outer:List Env) (s:Shared) (H:Hp) (vs:List V) (Q:VK) (E:XK),Room k (A.deeper (envOfC qual scope s.heap.objs.size f cdv))->sp vs H Q E ->
   ∃t,PSs (nI CX P w K mg base N qual scope f cdv A outer s H E) body t/\t { nx:=λ_ H'=>Q .non H',rt:=Q } (start N vs) H) :
  FnOk P w K mg base CX (k+1) f (ABg name qual params body scope dV kV doc pm an cdv ct) ps sp:=by
 refine⟨len,λA outer s H args us vs Q E hr e0 hb r hsp=>?_⟩
 have hl:=len _ _ _ _ hsp
 have KX:K.In s.heap:=e0.mod.kin.keeps λb o e=>(e0.bs b o e).1
 have lim:s.heap.NoLimit:=e0.mod.nolimit.keeps λb o e=>(e0.bs b o e).1
 have hkind:∀y∈ps.zip us,scope.names.lookup y.1=some .local\/(scope.names.lookup y.1=some .cell/\((cellsFrom (s.heap.objs.size+1) scope.names []).lookup y.1).isSome=true):=λ⟨n,v⟩ hy=>by
  rcases S.par n (AD5 hy).1 with q | q
  ·exact .inl q
  ·exact .inr ⟨q,ADI _ _ _ (.inl q)⟩
 refine codeAny_call_function hr.depth (KX _ _ lk) rfl S.co S.gen rfl (PySem.W.codeRec_of KX hcd) (hb _ _ _ _ ?_)
 refine wpAny_newFunctionEnv_cells S.kind hkind λenv he s1 x=>?_
 subst he
 refine⟨lim.keeps x.toInCall.keep,codeAny_func ?_⟩
 obtain⟨t,ht,hq⟩:=hbody A outer s H vs Q E (hr.deeper _) hsp
 have I:Inv (nI CX P w K mg base N qual scope f cdv A outer s H E) [] (start N vs) H s1:=nC S hr.hd e0 hl r x
 refine ABC (ht [] s1 (start N vs) H _ I hq) (λfl s' hs=>?_) λe s' hs=>hs
 have fin:∀{σ':St}{H':Hp}{v:V}{u:Value},Inv (nI CX P w K mg base N qual scope f cdv A outer s H E) [] σ' H' s'->aK v u->Q v H'->CE outer P w H s Q u s' :=
  λ{σ' H' v u} J rv q=>⟨v,H',J.os,J.bare,J.base,J.hok,rv,q⟩
 cases fl with
 | ret u =>
  obtain⟨v,σ',H',J,rv,q⟩:=hs
  exact fin J rv q
 | next =>
  obtain⟨σ',H',J,q⟩:=hs
  exact fin (v:=V.non) (u:=ABO) J rfl q
 | brk =>
  obtain⟨_,_,_,q⟩:=hs
  exact ABv q
 | cont =>
  obtain⟨_,_,_,q⟩:=hs
  exact ABv q
def tCB(r:List V->Hp->VK->Prop)(t:TA):TE:=λσ H Q=>t σ H λvs H1=>r vs H1 Q
theorem xu{X:Cx}{x:Str}{p pos:Pos}{e:Expr}{es:List Expr}{t:TA}{id:String}{r:List V->Hp->VK->Prop}(hc:du X (.builtin id) r)(hg:Gl X x)(hm:X.mg x=none)(hv:bootBuiltins x=some (.builtin id))(ha:PA X (e::es) t)(hn:x≠"__name__":=by decide)(hdb:(x==("__debug__":Str))=false:=by decide)
  (he:starEach (e::es) X.env=(false,eval e X.env)::starEach es X.env:=by rfl) (hpl:(backTo pos (starEach es X.env)).any (·.1)=false:=by rfl):PE X (.Call (.Name x p) (e::es) [] pos) (tCB r t):=by
 intro pins s σ H Q I h
 refine ABq (je I hg hm hv ?_ hn hdb)
 exact PyProof.Rows.callWith_builtin1 (thn (ha pos pins s σ H _ I h) λus s1 ⟨vs,H1,I1,r1,q1⟩=>hc pins s1 σ H1 vs us Q I1 r1 q1) he hpl
theorem uB(hc:du X (.type T) r)(hg:Gl X x)(hm:X.mg x=none)(hv:bootBuiltins x=some (.type T))(ha:PA X (e::es) t)(hn:x≠"__name__":=by decide)(hdb:(x==("__debug__":Str))=false:=by decide)
  (he:starEach (e::es) X.env=(false,eval e X.env)::starEach es X.env:=by rfl) (hpl:(backTo pos (starEach es X.env)).any (·.1)=false:=by rfl):PE X (.Call (.Name x p) (e::es) [] pos) (tCB r t):=by
 intro pins s σ H Q I h
 refine ABq (je I hg hm hv ?_ hn hdb)
 exact ACR (thn (ha pos pins s σ H _ I h) λus s1 ⟨vs,H1,I1,r1,q1⟩=>hc pins s1 σ H1 vs us Q I1 r1 q1) he hpl
end L2
namespace HT
open PySem PyProof.Rows
theorem rcLt_int(A:Around)(s:Shared)(a:Int)(t:Tok)(c:Int)(u:Tok)(prog:Program)(w:World)(E:Value->Shared->Prop)(Q:Value->Shared->Prop)(h:Q (.bool (decide (a<c))) s) :
  wpAny (model prog w) A (richCompare .Lt (.int a t) (.int c u)) Q E s :=
 (PyProof.Rows.lt_int h:wpAny (model prog w) A (compareOp .Lt (.int a t) (.int c u)) Q E s)
theorem cat_tup(ht:IsTup s.heap t vs.toArray)(hb:IsTup s.heap b ws.toArray)(hv:vs≠[])
  (h1:ws=[]->Q (.ref t) s) (h2:ws≠[]->Q (.ref s.heap.objs.size) { s with heap:=s.heap.push { cls:=.type "tuple",data:=.seq (vs++ws).toArray } })
  (hsz:vs.length+ws.length<=sizeLine):wpAny (model prog w) A (binaryOp .Add (.ref t) (.ref b)) Q E s:=by
 obtain⟨⟨cls,dd,data,sl⟩,ho,hc,n,hd⟩:=id ht
 obtain⟨⟨cls2,dd2,data2,sl2⟩,ho2,hc2,n2,hd2⟩:=id hb
 simp only at hc hd hc2 hd2
 subst hc hd hc2 hd2
 have e:vs.toArray++ws.toArray=(vs++ws).toArray:=by simp
 by_cases hw:ws=[]
 ·exact concat_meets ⟨_,ho,rfl⟩ ⟨_,ho2,rfl⟩ noFill_tuple_add seq_tuple_add ADJ AD6 (AD1 _ _)
   (tuple_addW1 t b vs.toArray ws.toArray n n2 dd dd2 sl sl2 (by simpa using hv) (by simp[hw])) ⟨ho,ho2,h1 hw⟩
 ·refine concat_meets ⟨_,ho,rfl⟩ ⟨_,ho2,rfl⟩ noFill_tuple_add seq_tuple_add ADJ AD6 (AD1 _ _)
   (tuple_addW2 t b vs.toArray ws.toArray n n2 dd dd2 sl sl2 (by simpa using hv) (by simpa using hw) (by rw[AAC,AAC];exact hsz)) ⟨ho,ho2,?_⟩
  rw[e]
  exact h2 hw
noncomputable def sIx(n d:Nat):Option Int->Nat
 | none=>d
 | some v=>if v<0 then(v+(n:Int)).toNat else min v.toNat n
theorem sIx_none(n d:Nat):sIx n d none=d:=rfl
theorem sIx_nat(n d k:Nat):sIx n d (some (k:Int))=min k n:=by
 show (if (k:Int)<0 then((k:Int)+(n:Int)).toNat else min (k:Int).toNat n)=min k n
 rw[if_neg (by lia),AAw]
theorem Ci(n d:Nat)(hd:d<=n)(o:Option Int):sIx n d o<=n:=by
 cases o with
 | none=>exact hd
 | some v =>
  show (if v<0 then(v+(n:Int)).toNat else min v.toNat n)<=n
  by_cases hv:v<0
  ·rw[if_pos hv];lia
  ·rw[if_neg hv];exact Nat.min_le_right _ _
theorem wq(v:Int)(n d:Nat):(if v<0 then max (v+(n:Int)) 0 else min v (n:Int))=((sIx n d (some v):Nat):Int):=by
 show (if v<0 then max (v+(n:Int)) 0 else min v (n:Int))=(((if v<0 then(v+(n:Int)).toNat else min v.toNat n):Nat):Int)
 by_cases hv:v<0
 ·simp only[if_pos hv];lia
 ·simp only[if_neg hv];lia
theorem sM(lo hi:Option Int)(n:Nat):ACp lo hi 1 (n:Int)=(((sIx n 0 lo:Nat):Int),((sIx n n hi:Nat):Int)):=by
 have h1:¬((1:Int)<0):=by lia
 unfold ACp
 simp only[h1,if_false]
 refine Prod.ext ?_ ?_
 ·cases lo with
  | none=>rfl
  | some v=>exact wq v n 0
 ·cases hi with
  | none=>rfl
  | some v=>exact wq v n n
theorem se(i j:Nat):AC5 (i:Int) (j:Int) 1=j-i:=by
 unfold AC5
 have h1:(1:Int) > 0:=by lia
 simp only[h1,if_true,Int.ediv_one]
 split<;>lia
theorem jZ(p:IsPart v o)(h:Q o s):wpAny (model prog w) A (Builtin.Slice.slicePartIndex v) Q E s:=by
 cases p with
 | none=>exact slicePart_none h
 | int i t=>exact slicePart_int h
theorem dy{sl:Addr}{vl vu:Value}{lo hi:Option Int}{n:Nat}{Q:Int×Int×Nat->Shared->Prop}(hs:s.heap.IsSliceOf sl vl vu .none)(pl:IsPart vl lo)(pu:IsPart vu hi)
  (h:Q (((sIx n 0 lo:Nat):Int),1,sIx n n hi-sIx n 0 lo) s):wpAny (model prog w) A (ADp (.ref sl) (pure (n:Int))) Q E s:=by
 obtain⟨os,hos,hcs,hds⟩:=id hs
 unfold ADp Builtin.Slice.sliceFields
 refine AA0 (AA0 (AB7 hos hds (x:=vl) rfl (AA0 (AB7 hos hds (x:=vu) rfl (AA0 (AB7 hos hds (x:=.none) rfl (AA5 ?_)))))))
 refine AA0 (slicePart_none ?_)
 show wpAny _ _ (if ((1:Int)==0)=true then _ else _) _ _ s
 rw[if_neg (by decide)]
 refine AA0 (jZ pl (AA0 (jZ pu (AA0 (AA5 ?_)))))
 show wpAny _ _ (match ACp lo hi 1 (n:Int)with | (lo,hi)=>pure (lo,(1:Int),AC5 lo hi 1)) _ _ s
 rw[sM lo hi n]
 show wpAny _ _ (pure (((sIx n 0 lo:Nat):Int),(1:Int),AC5 ((sIx n 0 lo:Nat):Int) ((sIx n n hi:Nat):Int) 1)) _ _ s
 rw[se]
 exact AA5 h
theorem xo(xs:Array Value)(i k:Nat):((AAl k).filterMap λ(m:Nat)=>xs[((i:Int)+(m:Int)*1).toNat]?).toArray=((xs.toList.drop i).take k).toArray:=by
 have e:(λ(m:Nat)=>xs[((i:Int)+(m:Int)*1).toNat]?)=λm=>xs[i+m]?:=by
  funext m
  have:((i:Int)+(m:Int)*1).toNat=i+m:=by lia
  rw[this]
 rw[e]
 have:=pick_run xs i k
 rw[List.filterMap_map]at this
 have e2:((λx=>xs[x]?) ∘ λx=>i+x)=λm=>xs[i+m]?:=rfl
 rw[e2]at this
 rw[this]
theorem getItem_tuple_cut{t sl:Addr}{items:Array Value}{vl vu:Value}{lo hi:Option Int}{Q:Value->Shared->Prop}(ht:IsTup s.heap t items)(hs:s.heap.IsSliceOf sl vl vu .none)(pl:IsPart vl lo)(pu:IsPart vu hi)
  (hw:¬(sIx items.size 0 lo=0/\sIx items.size items.size hi=items.size))
  (h:Q (.ref s.heap.objs.size) { s with heap:=s.heap.push { cls:=.type "tuple",data:=.seq ((items.toList.drop (sIx items.size 0 lo)).take (sIx items.size items.size hi-sIx items.size 0 lo)).toArray } })
  (hsz:items.size<=sizeLine):wpAny (model prog w) A (getItem (.ref t) (.ref sl)) Q E s:=by
 have htake:sizeOk (.seq ((items.toList.drop (sIx items.size 0 lo)).take (sIx items.size items.size hi-sIx items.size 0 lo)).toArray):=by
  show ((items.toList.drop (sIx items.size 0 lo)).take (sIx items.size items.size hi-sIx items.size 0 lo)).toArray.size<=sizeLine
  rw[AAC,ABM,List.length_drop,ABU]
  lia
 have hj:sIx items.size items.size hi<=items.size:=Ci _ _ (AAA _) hi
 obtain⟨os,hos,hcs,hds⟩:=id hs
 have hTs:s.TypeIs (.ref sl) "slice":=⟨os,hos,hcs⟩
 unfold getItem
 try with_reducible refine AAj ?_
 first | refine AA0 (AA5 ?_) | skip
 refine AA0 (wpAny_sequenceKey ht.typeIs (by decide) ?_)
 refine AA0 (AAk (name:=AA1 "__getitem__") ht.typeIs AB8
  (AAm AB8 ht.typeIs entry_tuple_getitem ?_ (args_tuple_getitem _ _)))
 show wpAny _ _ (ACj (.ref t) >>= _) _ _ s
 refine AA0 (tupleItemsOf_ ht ?_)
 refine AA0 (AD2 hTs ?_)
 rw[if_pos (by decide)]
 refine AA0 (dy hs pl pu ?_)
 have hno:¬((((sIx items.size 0 lo:Nat):Int)==0&&(1:Int)==1&&(sIx items.size items.size hi-sIx items.size 0 lo)==items.size)=true):=by
  intro q
  rw[AAU,AAU]at q
  have q1:((sIx items.size 0 lo:Nat):Int)=0:=eq_of_beq q.1.1
  have q2:sIx items.size items.size hi-sIx items.size 0 lo=items.size:=eq_of_beq q.2
  exact hw ⟨by lia,by lia⟩
 show wpAny _ _ (if (((sIx items.size 0 lo:Nat):Int)==0&&(1:Int)==1&&(sIx items.size items.size hi-sIx items.size 0 lo)==items.size)=true then _ else _) _ _ s
 rw[if_neg hno,xo]
 first
  | exact AA0 (m:=ACC _) (AAh (AA5 ⟨_,rfl,AA5 h⟩) htake)
  | exact AA0 (m:=ACC _) (AAh (AA0 (AA5 (AA5 ⟨_,rfl,AA5 h⟩))) htake)
  | exact AA0 (AA0 (m:=ACC _) (AAh (AA5 (AA5 ⟨_,rfl,AA5 h⟩)) htake))
  | exact AA0 (AA0 (m:=ACC _) (AAh (AA5 ⟨_,rfl,AA5 h⟩) htake))
end HT
namespace L2
open PySem PySem.Spec PyProof.Rows
abbrev TO:=St->Hp->(Option Int->Hp->Prop)->Prop
def PO(X:Cx)(e:Option Expr)(t:TO):Prop :=
 ∀(pins:List (Addr×Obj)) (s:Shared) (σ:St) (H:Hp) (Q:Option Int->Hp->Prop),Inv X pins σ H s->t σ H Q ->
  wpAny (model X.prog X.w) X.A (evalPart e X.env) (λu s'=>∃o H',Inv X pins σ H' s'/\IsPart u o/\Q o H') X.xe s
def zi:TO:=λ_ H Q=>Q none H
def tPart(t:TE):TO:=λσ H Q=>t σ H λx H1=>∃i,x=.int i/\Q (some i) H1
section
variable{X:Cx}{e:Expr}{te:TE}{lo hi:Option Expr}{tl th:TO}{pos p2:Pos}
theorem zI:PO X none zi:=by
 intro pins s σ H Q I h
 rw[evalPart_none]
 exact AA5 ⟨none,H,I,.none,h⟩
theorem zH(h:PE X e te):PO X (some e) (tPart te):=by
 intro pins s σ H Q I hw
 rw[evalPart_some]
 refine thn (h pins s σ H _ I hw) ?_
 rintro u s1 ⟨x,H1,I1,r1,q1⟩
 obtain⟨i,rfl,q⟩:=q1
 obtain⟨t,rfl⟩:=r1
 exact⟨some i,H1,I1,.int i t,q⟩
def SlR(X:Cx)(r:V->Option Int->Option Int->Hp->VK->Prop):Prop :=
 ∀(pins:List (Addr×Obj)) (s:Shared) (σ:St) (H:Hp) (x:V) (v vl vu:Value) (lo hi:Option Int) (sl:Addr) (Q:VK),Inv X pins σ H s->aK x v->s.heap.IsSliceOf sl vl vu .none->IsPart vl lo->IsPart vu hi->r x lo hi H Q ->
  ∃T id,typeLookup (.type T) "__getitem__" = pure (some (.builtin id))/\s.TypeIs v T/\wpAny (model X.prog X.w) X.A (getItem v (.ref sl)) (EP X pins σ Q) X.xe s
def tSl(r:V->Option Int->Option Int->Hp->VK->Prop)(te:TE)(tl th:TO):TE:=λσ H Q=>te σ H λx H1=>tl σ H1 λl H2=>th σ H2 λu H3=>r x l u H3 Q
theorem xq(hr:SlR X r)(he:PE X e te)(hl:PO X lo tl)(hu:PO X hi th):PE X (.Subscript e (.Slice lo hi none p2) pos) (tSl r te tl th):=by
 intro pins s σ H Q I h
 refine Subscript_ (thn (he pins s σ H _ I h) ?_)
 rintro v s1 ⟨x,H1,I1,r1,q1⟩
 refine wpAny_Slice (thn (hl pins s1 σ H1 _ I1 q1) ?_)
 rintro vl s2 ⟨l,H2,I2,pl,q2⟩
 refine thn (hu pins s2 σ H2 _ I2 q2) ?_
 rintro vu s3 ⟨u,H3,I3,pu,q3⟩
 rw[evalPart_none]
 refine AA5 ?_
 have I4:Inv X pins σ H3 { s3 with heap:=s3.heap.push { cls:=.type "slice",data:=.fields #[vl,vu,.none] } }:=I3.kept (t':=s3.toks) λb ob q=>AA3 _ q
 obtain⟨T,id,hT,ht,hg⟩:=hr pins { s3 with heap:=s3.heap.push { cls:=.type "slice",data:=.fields #[vl,vu,.none] } } σ H3 x v vl vu l u s3.heap.objs.size Q I4 r1 (Heap.IsSliceOf.new ..) pl pu q3
 show wpAny (model X.prog X.w) X.A (subscriptTail e (.Slice lo hi none p2) v (.ref s3.heap.objs.size)) (EP X pins σ Q) X.xe { s3 with heap:=s3.heap.push { cls:=.type "slice",data:=.fields #[vl,vu,.none] } }
 exact tail_any (ops:=[.ref s3.heap.objs.size,v]) ht hT hg (by with_unfolding_all rfl)
noncomputable def yZ(xs:List V)(lo hi:Option Int):List V:=(xs.drop (HT.sIx xs.length 0 lo)).take (HT.sIx xs.length xs.length hi-HT.sIx xs.length 0 lo)
theorem jq(xs:List V)(lo hi:Option Int):(yZ xs lo hi).length<=xs.length:=by
 unfold yZ
 rw[ABM,List.length_drop]
 lia
def rSlT(K:AA2):V->Option Int->Option Int->Hp->VK->Prop:=λx lo hi H Q=>∃a xs,x=.ref a/\SqT K H a xs /\
 ¬(HT.sIx xs.length 0 lo=0/\HT.sIx xs.length xs.length hi=xs.length)/\∀p,H p=none->Q (.ref p) (upd H p (.tup (yZ xs lo hi)))
theorem Cg:SlR X (rSlT X.K):=by
 intro pins s σ H x v vl vu lo hi sl Q I rx hs pl pu h
 obtain⟨a,xs,rfl,hx,hw,q⟩:=h
 cases rx
 obtain⟨its,r,ht,hz⟩:=I.tuple hx
 have hlen:its.toArray.size=xs.length:=by rw[AAC];exact r.length.symm
 refine⟨"tuple",_,AB8.lookup,ht.typeIs,?_⟩
 refine HT.getItem_tuple_cut ht hs pl pu (by rw[hlen];exact hw) ?_ (by rw[hlen];exact hz)
 rw[hlen]
 refine⟨.ref s.heap.objs.size,_,I.laid (t':=s.toks) (o:=.tup (yZ xs lo hi)) (λb ob q=>AA3 _ q) (AAA _) ?_,rfl,q _ (I.hok.fresh (AAA _))⟩
 exact⟨AB4 (jq xs lo hi) hz,_,(r.drop (HT.sIx xs.length 0 lo)).take (HT.sIx xs.length xs.length hi-HT.sIx xs.length 0 lo),yF.new _ _⟩
def rCatT(K:AA2):R2:=λx y H Q=>∃a b xs ys,x=.ref a/\y=.ref b/\SqT K H a xs/\SqT K H b ys/\xs≠[]/\xs.length+ys.length<=sizeLine /\
 (ys=[]->Q (.ref a) H)/\(ys≠[]->∀p,H p=none->Q (.ref p) (upd H p (.tup (xs++ys))))
theorem ar.nil_iff(r:ar xs us):us=[]↔xs=[]:=by
 cases r with
 | nil=>simp
 | cons _ _=>simp
theorem zY:OpR X (binaryOp .Add) (rCatT X.K):=by
 intro pins s σ H x y v u Q I rx ry h
 obtain⟨a,b,xs,ys,rfl,rfl,ha,hb,hx,hz,q1,q2⟩:=h
 cases rx
 cases ry
 obtain⟨its,r1,p1,_⟩:=I.tuple ha
 obtain⟨its2,r2,p2,_⟩:=I.tuple hb
 refine HT.cat_tup p1 p2 (λz=>hx (r1.nil_iff.mp z)) (λz=>⟨.ref a,H,I,rfl,q1 (r2.nil_iff.mp z)⟩) (λz=>?_) (by rw[<-r1.length,<-r2.length];exact hz)
 refine⟨.ref s.heap.objs.size,_,I.laid (t':=s.toks) (o:=.tup (xs++ys)) (λb ob q=>AA3 _ q) (AAA _) ?_,rfl,q2 (λw=>z (r2.nil_iff.mpr w)) _ (I.hok.fresh (AAA _))⟩
 exact⟨by rw[AAH];exact hz,_,r1.append r2,yF.new _ _⟩
end
noncomputable def ixN(n:Nat)(i:Int):Option Nat:=if 0<=i then(if i<n then some i.toNat else none)else if -(n:Int)<=i then some (i+n).toNat else none
noncomputable def atI{α:Type}(xs:List α)(i:Int):Option α:=(ixN xs.length i).bind λj=>xs[j]?
theorem vL(h:ixN n i=some j):seqIndex? i n=some j/\j<n/\-(n:Int)<=i/\i<n:=by
 unfold ixN at h
 by_cases h0:0<=i
 ·rw[if_pos h0]at h
  by_cases h1:i<n
  ·rw[if_pos h1]at h
   have e:i.toNat=j:=AAM h
   exact⟨by rw[seqIndex_of h0 h1,e],by lia,by lia,h1⟩
  ·rw[if_neg h1]at h;cases h
 ·rw[if_neg h0]at h
  by_cases h1:-(n:Int)<=i
  ·rw[if_pos h1]at h
   have e:(i+n).toNat=j:=AAM h
   exact⟨by rw[seqIndex_neg (by lia) h1,e],by lia,h1,by lia⟩
  ·rw[if_neg h1]at h;cases h
theorem pU{α:Type}{xs:List α}{i:Int}{v:α}(h:atI xs i=some v):∃j,seqIndex? i xs.length=some j/\xs[j]?=some v/\j<xs.length/\-(xs.length:Int)<=i/\i<xs.length:=by
 unfold atI at h
 cases e:ixN xs.length i with
 | none=>rw[e]at h;cases h
 | some j =>
  rw[e]at h
  obtain⟨h1,h2,h3,h4⟩:=vL e
  exact⟨j,h1,h,h2,h3,h4⟩
theorem aA{α:Type}{xs:List α}{j:Nat}{v:α}(h:xs[j]?=some v):atI xs (j:Int)=some v:=by
 have hj:j<xs.length:=(AA7.mp h).1
 have e:ixN xs.length (j:Int)=some j:=by
  unfold ixN
  rw[if_pos (by lia),if_pos (by lia)];simp
 unfold atI;rw[e];exact h
theorem rE{α:Type}(xs:List α)(v:α):atI (xs++[v]) (-1)=some v:=by
 have hl:(xs++[v]).length=xs.length+1:=by simp
 have e:ixN (xs++[v]).length (-1)=some xs.length:=by
  unfold ixN
  rw[hl,if_neg (by decide),if_pos (by lia)]
  congr 1
  lia
 unfold atI
 rw[e]
 show (xs++[v])[xs.length]?=some v
 simp
def pW(b:Expr):Prop:=∀o i,subscripted b false o i=operate [o,i] (getItem o i)
def IxR(X:Cx)(r:R2):Prop :=
 ∀(value slice:Expr) (pins:List (Addr×Obj)) (s:Shared) (σ:St) (H:Hp) (x y:V) (v u:Value) (Q:VK),Inv X pins σ H s->aK x v->aK y u->r x y H Q ->
  subscripted slice false v u=operate [v,u] (getItem v u)->wpAny (model X.prog X.w) X.A (subscriptTail value slice v u) (EP X pins σ Q) X.xe s
def MtR(X:Cx)(id:String)(r:V->List V->Hp->VK->Prop):Prop :=
 ∀(pins:List (Addr×Obj)) (s:Shared) (σ:St) (H:Hp) (x:V) (xs:List V) (v:Value) (us:List Value) (Q:VK),Inv X pins σ H s->aK x v->ar xs us->r x xs H Q ->
  wpAny (model X.prog X.w) X.A (call (.builtin id) (v::us)) (EP X pins σ Q) X.xe s
section
variable{X:Cx}{a b:Expr}{ta tb:TE}{pos:Pos}
theorem IxR.or(h:IxR X r)(h':IxR X r'):IxR X (λx y H Q=>r x y H Q\/r' x y H Q):=by
 intro value slice pins s σ H x y v u Q I rx ry q hs
 rcases q with q | q
 ·exact h value slice pins s σ H x y v u Q I rx ry q hs
 ·exact h' value slice pins s σ H x y v u Q I rx ry q hs
theorem pe_ix(hr:IxR X r)(ha:PE X a ta)(hb:PE X b tb)(hs:pW b):PE X (.Subscript a b pos) (tOp r ta tb):=by
 intro pins s σ H Q I h
 exact Subscript_ (binT ha hb I h λv u s2 x y H2 I2 rx ry q=>hr a b pins s2 σ H2 x y v u Q I2 rx ry q (hs _ _))
def rIxL(K:AA2):R2:=λx y H Q=>∃p xs i v,x=.ref p/\y=.int i/\SqL K H p xs/\atI xs i=some v/\Q v H
def rIxT(K:AA2):R2:=λx y H Q=>∃p xs i v,x=.ref p/\y=.int i/\SqT K H p xs/\atI xs i=some v/\Q v H
def rIxS:R2:=λx y H Q=>∃z i c,x=.str z/\y=.int i/\z.length<=sizeLine/\atI z.cps.toList i=some c/\Q (.str ⟨#[c]⟩) H
theorem AK:IxR X (rIxL X.K):=by
 intro value slice pins s σ H x y v u Q I rx ry h hs
 obtain⟨p,xs,i,z,rfl,rfl,hq,he,q⟩:=h
 cases rx
 obtain⟨t,rfl⟩:=ry
 obtain⟨its,r,pl,hz⟩:=I.list hq
 obtain⟨j,h1,h2,h3,h4,h5⟩:=pU he
 obtain⟨w,ew,rw'⟩:=r.get h2
 have hl:=r.length
 have hn:=kg
 have fin:EP X pins σ Q w s:=⟨z,H,I,rw',q⟩
 by_cases h0:0<=i
 ·have hj:i.toNat=j:=by
   rw[seqIndex_of h0 h5]at h1
   exact AAM h1
  exact item_listR pl.isList h0 (by lia) (by rw[hj];simpa using ew) fin hs
 ·have hj:(i+(its.toArray.size:Int)).toNat=j:=by
   rw[seqIndex_neg (by lia) h4]at h1
   rw[AAC,<-hl]
   exact AAM h1
  exact subscriptTail_builtinR (x:=w) pl.isList.typeIs slot_list_getitem.lookup
   (wpAny_getItem_list_neg (Q:=λr s'=>r=w/\EP X pins σ Q r s') pl.isList (by lia) (by rw[AAC]<;>lia) (by lia) (by rw[hj];simpa using ew) ⟨rfl,fin⟩) hs
theorem DN:IxR X (rIxT X.K):=by
 intro value slice pins s σ H x y v u Q I rx ry h hs
 obtain⟨p,xs,i,z,rfl,rfl,hq,he,q⟩:=h
 cases rx
 obtain⟨t,rfl⟩:=ry
 obtain⟨its,r,pl,hz⟩:=I.tuple hq
 obtain⟨j,h1,h2,h3,h4,h5⟩:=pU he
 obtain⟨w,ew,rw'⟩:=r.get h2
 have hl:=r.length
 have hn:=kg
 have fin:EP X pins σ Q w s:=⟨z,H,I,rw',q⟩
 exact subscriptTail_builtinR (x:=w) pl.typeIs slot_tuple_getitem.lookup
  (getItem_tuple (j:=j) (Q:=λr s'=>r=w/\EP X pins σ Q r s') pl (by lia) (by lia) (by rw[AAC,<-hl];exact h1) (by simpa using ew) ⟨rfl,fin⟩) hs
theorem DO:IxR X rIxS:=by
 intro value slice pins s σ H x y v u Q I rx ry h hs
 obtain⟨z,i,c,rfl,rfl,hz,he,q⟩:=h
 obtain⟨t,rfl⟩:=rx
 obtain⟨t',rfl⟩:=ry
 obtain⟨j,h1,h2,h3,h4,h5⟩:=pU he
 have hl:z.cps.toList.length=z.length:=by simp[Str.length]
 rw[hl]at h1 h4 h5
 have hn:=kg
 exact tail_any (typeIs_str s z t) slot_str_getitem.lookup (getItem_str (c:=c) (by
  have e1:decide (i < -(2 ^ 63:Int))=false:=dF_ (by lia)
  have e2:decide (i ≥ 2 ^ 63)=false:=dF_ (by lia)
  rw[e1,e2,Bool.or_false]) (by rw[h1];simpa using h2) ⟨.str ⟨#[c]⟩,H,I.tok _,⟨_,rfl⟩,q⟩) hs
def rIx(K:AA2):R2:=λx y H Q=>rIxL K x y H Q\/rIxT K x y H Q\/rIxS x y H Q
theorem DP:IxR X (rIx X.K):=AK.or (DN.or DO)
theorem su(its:List Value)(n j:Nat)(u:Value):AB3 (·.setIfInBounds j u) { cls:=.type "list",data:=.seq its.toArray n }={ cls:=.type "list",data:=.seq (its.set j u).toArray n }:=by
 simp[AB3]
theorem Inv.lst(I:Inv X pins σ H s)(h:H p=some (.lst xs)) :
  ∃(its:List Value) (n:Nat),ar xs its/\s.heap.get? p=some { cls:=.type "list",data:=.seq its.toArray n }/\xs.length<=sizeLine:=by
 obtain⟨z,its,n,r,e⟩:=I.hok p _ h
 exact⟨its,n,r,e,z⟩
theorem Inv.lstUpd{pins:List (Addr×Obj)}{σ:St}{H:Hp}{s:Shared}{p:Addr}{xs ys:List V}{its its':List Value}{n n':Nat}{f:Obj->Obj}(I:Inv X pins σ H s)(h:H p=some (.lst xs))
  (ho:s.heap.get? p=some { cls:=.type "list",data:=.seq its.toArray n }) (hf:f { cls:=.type "list",data:=.seq its.toArray n }={ cls:=.type "list",data:=.seq its'.toArray n' }) (r:ar ys its') (hz:ys.length<=sizeLine) (t:Nat) :
  Inv X pins σ (upd H p (.lst ys)) { s with heap:=s.heap.update p f,toks:=t }:=by
 have e:(s.heap.update p f).get? p=some { cls:=.type "list",data:=.seq its'.toArray n' }:=by
  rw[AAx f ho (by rw[hf]<;>rfl),hf]
 refine I.write (x:=p) (e:=p) (by rw[h];trivial) (.inl rfl) (λb u hb q=>(AC0 _ _ (AAr hb)).trans q) ⟨_,e⟩ ?_
 exact⟨hz,its',n',r,e⟩
def rSetL:V->V->V->Hp->(Hp->Prop)->Prop:=λo i v H Q=>∃p xs k j,o=.ref p/\i=.int k/\H p=some (.lst xs)/\ixN xs.length k=some j/\Q (upd H p (.lst (xs.set j v)))
theorem xf:PSet X rSetL:=by
 intro pins s σ H o i v ov iv u Q I ro ri rv h
 obtain⟨p,xs,k,j,rfl,rfl,hp,hj,q⟩:=h
 cases ro
 obtain⟨t,rfl⟩:=ri
 obtain⟨its,n,r,ho,hz⟩:=I.lst hp
 obtain⟨h1,h2,h3,h4⟩:=vL hj
 have hl:=r.length
 have hn:=kg
 have I':Inv X pins σ (upd H p (.lst (xs.set j v))) { s with heap:=s.heap.update p (AB3 (·.setIfInBounds j u)) } :=
  I.lstUpd hp ho (su its n j u) (r.set rv j) (by rw[ABe];exact hz) s.toks
 by_cases h0:0<=k
 ·have hk:k.toNat=j:=by
   rw[seqIndex_of h0 h4]at h1
   exact AAM h1
  exact PySem.W.ki_setAt ho h0 (by lia) (by rw[AAC,<-hl];exact h4) (by rw[hk];exact⟨_,I',q⟩)
 ·have hk:(k+(its.toArray.size:Int)).toNat=j:=by
   rw[seqIndex_neg (by lia) h3]at h1
   rw[AAC,<-hl]
   exact AAM h1
  exact PySem.W.ki_setBack ho (by lia) (by rw[AAC,<-hl];exact h3) (by lia) (by rw[hk];exact⟨_,I',q⟩)
theorem mK(lo hi:Option Int)(n:Nat):(sliceBounds lo hi none n).1=((HT.sIx n 0 lo:Nat):Int)/\(sliceBounds lo hi none n).2.1=((HT.sIx n n hi:Nat):Int)/\(sliceBounds lo hi none n).2.2=1:=by
 refine⟨?_,?_,rfl⟩
 ·cases lo with
  | none=>simp[sliceBounds,HT.sIx]
  | some i =>
   simp only[sliceBounds,HT.sIx,Option.getD_none,show (1:Int) > 0 by decide,if_true]
   by_cases h:i<0
   ·simp only[h,if_true]<;>lia
   ·simp only[h,if_false]<;>lia
 ·cases hi with
  | none=>simp[sliceBounds,HT.sIx]
  | some i =>
   simp only[sliceBounds,HT.sIx,Option.getD_none,show (1:Int) > 0 by decide,if_true]
   by_cases h:i<0
   ·simp only[h,if_true]<;>lia
   ·simp only[h,if_false]<;>lia
theorem kG(its:List Value)(lo hi:Option Int):slicePick its.toArray lo hi none=((its.drop (HT.sIx its.length 0 lo)).take (HT.sIx its.length its.length hi-HT.sIx its.length 0 lo)).toArray:=by
 obtain⟨h1,h2,h3⟩:=mK lo hi its.toArray.size
 unfold slicePick
 rw[h1,h2,h3]
 simp only[sliceRange_one,pick_run,AAC]<;>rfl
def rSlL(K:AA2):V->Option Int->Option Int->Hp->VK->Prop:=λx lo hi H Q=>∃a xs,x=.ref a/\SqL K H a xs/\∀p,H p=none->Q (.ref p) (upd H p (.lst (yZ xs lo hi)))
theorem zn:SlR X (rSlL X.K):=by
 intro pins s σ H x v vl vu lo hi sl Q I rx hs pl pu h
 obtain⟨a,xs,rfl,hx,q⟩:=h
 cases rx
 obtain⟨its,r,ht,hz⟩:=I.list hx
 have hlen:=r.length
 refine⟨"list",_,slot_list_getitem.lookup,ht.isList.typeIs,?_⟩
 refine wpAny_getItem_list_slice ht.isList hs pl pu .none (by simp) ?_ (by rw[AAC]<;>lia)
 rw[kG,<-hlen]
 refine⟨.ref s.heap.objs.size,_,I.laid (t':=s.toks) (o:=.lst (yZ xs lo hi)) (λb ob q=>AA3 _ q) (AAA _) ?_,rfl,q _ (I.hok.fresh (AAA _))⟩
 exact⟨AB4 (jq xs lo hi) hz,_,0,(r.drop (HT.sIx xs.length 0 lo)).take (HT.sIx xs.length xs.length hi-HT.sIx xs.length 0 lo),AAD _ rfl⟩
theorem nO:du X (.builtin "len") (λxs H Q=>∃p ys,xs=[.ref p]/\(SqL X.K H p ys\/SqT X.K H p ys)/\Q (.int ys.length) H):=by
 intro pins s σ H xs us Q I r h
 obtain⟨p,ys,rfl,hq,q⟩:=h
 obtain⟨u,rfl,rx⟩:=wR r
 cases rx
 have hn:=kg
 rcases hq with hq | hq
 ·obtain⟨its,r',pl,hz⟩:=I.list hq
  have hlen:=r'.length
  exact Calls.call_len_list pl.isList (by simp only[AAC]<;>lia) ⟨.int ys.length,H,I.tok _,⟨s.toks+1,by rw[AAC,hlen]⟩,q⟩
 ·obtain⟨its,r',pl,hz⟩:=I.tuple hq
  have hlen:=r'.length
  exact len_tuple pl (by simp only[AAC]<;>lia) ⟨.int ys.length,H,I.tok _,⟨s.toks+1,by rw[AAC,hlen]⟩,q⟩
theorem nL:du X (.builtin "len") (λxs H Q=>∃z,xs=[.str z]/\z.length<=sizeLine/\Q (.int z.length) H):=by
 intro pins s σ H xs us Q I r h
 obtain⟨z,rfl,hz,q⟩:=h
 obtain⟨u,rfl,t,rfl⟩:=wR r
 have hn:=kg
 exact len_str (by lia) ⟨.int z.length,H,I.tok _,⟨_,rfl⟩,q⟩
theorem du.or(h:du X f r)(h':du X f r'):du X f (λxs H Q=>r xs H Q\/r' xs H Q):=by
 intro pins s σ H xs us Q I rs q
 rcases q with q | q
 ·exact h pins s σ H xs us Q I rs q
 ·exact h' pins s σ H xs us Q I rs q
theorem nK:du X (.type "list") (λxs H Q=>∃p ys,xs=[.ref p]/\(SqL X.K H p ys\/SqT X.K H p ys)/\∀l,H l=none->Q (.ref l) (upd H l (.lst ys))):=by
 intro pins s σ H xs us Q I r h
 obtain⟨p,ys,rfl,hq,q⟩:=h
 obtain⟨u,rfl,rx⟩:=wR r
 cases rx
 have fin:∀(its:List Value),ar ys its->ys.length<=sizeLine->∀(h':Heap) (c':Nat),(∀b o',s.heap.get? b=some o'->h'.get? b=some o') ->
   h'.get? s.heap.objs.size=some { cls:=.type "list",dict:=none,data:=.seq its.toArray c',slots:=#[] }->EP X pins σ Q (.ref s.heap.objs.size) { s with heap:=h' }:=λits r' hz h' c' kp e =>
  ⟨.ref s.heap.objs.size,_,I.laid (t':=s.toks) kp (AAA _) (show br X.prog X.w _ h' _ (.lst ys)from⟨hz,its,c',r',e⟩),rfl,q _ (I.hok.fresh (AAA _))⟩
 rcases hq with hq | hq
 ·obtain⟨its,r',pl,hz⟩:=I.list hq
  have hlen:=r'.length
  obtain⟨o,ho,hc,n,hd⟩:=pl.isList
  exact call_list_seq p (.inl rfl) ho hc hd (λh' c' kp e=>fin its r' hz h' c' kp e) (by simp only[AAC]<;>lia)
 ·obtain⟨its,r',pl,hz⟩:=I.tuple hq
  have hlen:=r'.length
  obtain⟨o,ho,hc,n,hd⟩:=pl
  exact call_list_seq p (.inr rfl) ho hc hd (λh' c' kp e=>fin its r' hz h' c' kp e) (by simp only[AAC]<;>lia)
theorem lB:du X (.type "tuple") (λxs H Q=>∃p ys,xs=[.ref p]/\((SqL X.K H p ys/\∀l,H l=none->Q (.ref l) (upd H l (.tup ys)))\/(SqT X.K H p ys/\Q (.ref p) H))):=by
 intro pins s σ H xs us Q I r h
 obtain⟨p,ys,rfl,h⟩:=h
 obtain⟨u,rfl,rx⟩:=wR r
 cases rx
 rcases h with⟨hq,q⟩|⟨hq,q⟩
 ·obtain⟨its,r',pl,hz⟩:=I.list hq
  have hlen:=r'.length
  refine call_tuple_list pl.isList (λh' kp=>?_) (by simp only[AAC]<;>lia)
  have I1:Inv X pins σ H { s with heap:=h' }:=I.kept (t':=s.toks) kp
  have I2:Inv X pins σ (upd H h'.objs.size (.tup ys)) { s with heap:=h'.push { cls:=.type "tuple",data:=.seq its.toArray } } :=
   I1.laid (t':=s.toks) (λb o e=>AA3 _ e) (AAA _) (show br X.prog X.w _ _ _ (.tup ys)from⟨hz,its,r',yF.new _ _⟩)
  exact⟨.ref h'.objs.size,_,I2,rfl,q _ (I1.hok.fresh (AAA _))⟩
 ·obtain⟨its,r',pl,hz⟩:=I.tuple hq
  exact call_tuple_same pl ⟨.ref p,H,I,rfl,q⟩
def tyV(K:AA2)(T:String)(x:V)(H:Hp):Prop:=match x with
 | .str _=>T = "str"
 | .int _=>T = "int"
 | .ref p=>(T = "list"/\∃xs,SqL K H p xs)\/(T = "tuple"/\∃o,K.lookup p=some o/\o.cls=.type "tuple"/\o.dict=none) \/
   (T = "dict"/\((∃kvs,H p=some (.dK kvs))\/∃kvs,H p=some (.dT kvs)))\/(T = "set"/\∃S n,H p=some (.set S n))
 | _=>False
theorem BX(I:Inv X pins σ H s)(r:aK x v)(ty:tyV X.K T x H) :
  s.TypeIs v T/\∀a,v=.ref a->∃ob,s.heap.get? a=some ob/\ob.dict=none:=by
 cases x with
 | str z =>
  obtain⟨t,rfl⟩:=r
  cases (show T = "str" from ty)
  exact⟨typeIs_str s z t,λ_ e=>nomatch e⟩
 | int i =>
  obtain⟨t,rfl⟩:=r
  cases (show T = "int" from ty)
  exact⟨typeIs_int s i t,λ_ e=>nomatch e⟩
 | ref p =>
  cases r
  rcases ty with⟨rfl,xs,hq⟩|⟨rfl,o,hk,hc,hd⟩|⟨rfl,hk⟩|⟨rfl,S,n,hk⟩
  ·obtain⟨its,_,pl,_⟩:=I.list hq
   refine⟨pl.isList.typeIs,λa e=>?_⟩
   cases e
   obtain⟨o,n,e,c,hd,_⟩:=pl
   exact⟨o,e,hd⟩
  ·refine⟨⟨o,I.kIn p o hk,hc⟩,λa e=>?_⟩
   cases e
   exact⟨o,I.kIn _ o hk,hd⟩
  ·have z:∃o,s.heap.get? p=some o/\o.ExactDict:=by
    rcases hk with⟨kvs,hk⟩|⟨kvs,hk⟩
    ·obtain⟨_,_,_,_,o,_,_,e,ex,_⟩:=I.hok p _ hk
     exact⟨o,e,ex⟩
    ·obtain⟨_,_,_,_,o,_,_,e,ex,_⟩:=I.hok p _ hk
     exact⟨o,e,ex⟩
   obtain⟨o,e,ex⟩:=z
   refine⟨⟨o,e,ex.1⟩,λa e2=>?_⟩
   cases e2
   exact⟨o,e,ex.2.1⟩
  ·obtain⟨o,_,_,_,e,ex,_⟩:=I.hok p _ hk
   refine⟨⟨o,e,ex.1⟩,λa e2=>?_⟩
   cases e2
   exact⟨o,e,ex.2.1⟩
 | _=>exact ABv ty
def tBM(K:AA2)(T:String)(r:V->List V->Hp->VK->Prop)(to:TE)(t:TA):TE:=λσ H Q=>to σ H λx H1=>tyV K T x H1/\t σ H1 λxs H2=>r x xs H2 Q
variable{o e:Expr}{es:List Expr}{to:TE}{t:TA}{name:Str}{apos cpos:Pos}{T id:String}{r:V->List V->Hp->VK->Prop}
theorem pe_bm(pa:PlainAttrs T)(slot:Slot T name id)(hty:typeOf (.builtin id)=pure (.type "method_descriptor"))(hm:MtR X id r)(ho:PE X o to)(ha:PA X (e::es) t)
  (hbase:attributeBase o name X.env (eval o X.env)=eval o X.env:=by rfl)
  (hfew:((backTo cpos (starEach (e::es) X.env)).all (λx=>!x.1)&&(backToKw cpos (keywordEach [] X.env)).all (λx=>x.1.isSome)
   && decide ((e::es).length+([]:List Keyword).length+(if ([]:List Keyword).isEmpty then 0 else 1)<30))=true:=by rfl)
  (hline:(apos.endLine==cpos.line)=true:=by rfl) (hs:starEach (e::es) X.env=(false,eval e X.env)::starEach es X.env:=by rfl) (hplain:(backTo cpos (starEach es X.env)).any (·.1)=false:=by rfl) :
  PE X (.Call (.Attribute o name apos) (e::es) [] cpos) (tBM X.K T r to t):=by
 intro pins s σ H Q I h
 refine wpAny_Call_method_late hbase hfew hline rfl (thn (ho pins s σ H _ I h) ?_)
 rintro v s1 ⟨x,H1,I1,r1,ty,q1⟩
 obtain⟨h1,h2⟩:=BX I1 r1 ty
 refine⟨T,id,pa,slot,hty,h1,h2,?_⟩
 have hA:=ha cpos pins s1 σ H1 _ I1 q1
 rw[hs]at hA ⊢
 refine ADK (by show (false||(backTo cpos (starEach es X.env)).any (·.1))=false;rw[hplain]<;>rfl) (Calls.evalArgs_plain ?_)
 refine thn hA ?_
 rintro us s2 ⟨vs,H2,I2,r2,q2⟩
 exact hm pins s2 σ H2 x vs v us Q I2 r1 r2 q2
/- xs.append(e),list.index on a module's tuple .. are MtR facts of 06m -/
end
def MtM(X:Cx)(id:String)(r:V->List V->Hp->VK->Prop):Prop :=
 ∀(pins:List (Addr×Obj)) (s:Shared) (σ:St) (H:Hp) (x:V) (xs:List V) (v:Value) (us:List Value) (Q:VK),Inv X pins σ H s->aK x v->ar xs us->r x xs H Q ->
  wpAny (model X.prog X.w) X.A (call (.builtin id) (v::us)) (EP X pins σ Q) X.xe s
theorem ar.one(h:ar [x] us):∃u,us=[u]/\aK x u:=by
 cases h with
 | cons r t=>cases t;exact⟨_,rfl,r⟩
theorem ar.two(h:ar [x,y] us):∃u v,us=[u,v]/\aK x u/\aK y v:=by
 cases h with
 | cons r t =>
  obtain⟨v,e,q⟩:=ar.one t
  subst e
  exact⟨_,v,rfl,r,q⟩
theorem Inv.lset{its its':List Value}{n:Nat}{f:Array Value->Array Value}{t':Nat}(I:Inv X pins σ H s)(hH:H l=some (.lst xs))
  (e:s.heap.get? l=some { cls:=.type "list",data:=.seq its.toArray n }) (hf:f its.toArray=its'.toArray) (hv:ar ys its') (hz:ys.length<=sizeLine) :
  Inv X pins σ (upd H l (.lst ys)) { s with heap:=s.heap.update l (AB3 f),toks:=t' }:=by
 have q:=PySem.IsL.update e f
 rw[hf]at q
 refine I.write (x:=l) (e:=l) (by rw[hH];exact trivial) (.inl rfl) (λb' u hb hu=>(AC0 s.heap (AB3 f) (AAr hb)).trans hu) ⟨_,q⟩ ?_
 exact⟨hz,its',_,hv,q⟩
theorem Inv.lnew(I:Inv X pins σ H s)(hv:ar ys its)(hz:ys.length<=sizeLine) :
  Inv X pins σ (upd H s.heap.objs.size (.lst ys)) { s with heap:=s.heap.push { cls:=.type "list",data:=.seq its.toArray },toks:=t' } :=
 I.laid (λ_ _ q=>AA3 _ q) (AAA _) ⟨hz,its,0,hv,AAD _ rfl⟩
theorem Inv.fresh(I:Inv X pins σ H s):H s.heap.objs.size=none:=I.hok.fresh (AAA _)
theorem Inv.lstM(I:Inv X pins σ H s)(hH:H l=some (.lst xs)):xs.length<=sizeLine/\∃(its:List Value) (n:Nat),ar xs its/\xs.length=its.length/\s.heap.get? l=some { cls:=.type "list",data:=.seq its.toArray n }:=by
 obtain⟨z,its,n,r,e⟩:=I.hok l _ hH
 exact⟨z,its,n,r,r.length,e⟩
def zt:V->List V->Hp->VK->Prop:=λx vs H Q=>∃l xs y,x=.ref l/\vs=[y]/\H l=some (.lst xs)/\xs.length<sizeLine/\Q .non (upd H l (.lst (xs++[y])))
theorem uL:MtM X "list.append" zt:=by
 intro pins s σ H x vs v us Q I rx rv h
 obtain⟨l,xs,y,rfl,rfl,hH,hz,q⟩:=h
 cases rx
 obtain⟨u,rfl,ru⟩:=rv.one
 obtain⟨z,its,n,r,hl,e⟩:=I.lstM hH
 refine call_meets F.slot_list_append ⟨_,e,rfl⟩ F.entry_list_append (F.args_list_append_2 _ _) (PySem.list_append l its.toArray n u (by rw[AAC];lia)) ⟨e,?_⟩
 refine⟨.non,_,I.lset (its':=its++[u]) hH e (by simp) (r.append (.cons ru .nil)) ?_,rfl,q⟩
 rw[AAH,AAy]
 lia
def rCat:R2:=λx y H Q=>∃l b xs zs,x=.ref l/\y=.ref b/\H l=some (.lst xs)/\H b=some (.lst zs)/\xs.length+zs.length<=sizeLine/\∀p,H p=none->Q (.ref p) (upd H p (.lst (xs++zs)))
theorem CQ:OpR X (binaryOp .Add) rCat:=by
 intro pins s σ H x y v u Q I rx ry h
 obtain⟨l,b,xs,zs,rfl,rfl,hH,hB,hz,q⟩:=h
 cases rx
 cases ry
 obtain⟨z,its,n,r,hl,e⟩:=I.lstM hH
 obtain⟨z2,its2,n2,r2,hl2,e2⟩:=I.lstM hB
 refine PySem.P.add_list e e2 ?_ (by rw[AAC,AAC];lia)
 have ea:its.toArray++its2.toArray=(its++its2).toArray:=by simp
 rw[ea]
 exact⟨.ref _,_,I.lnew (t':=s.toks) (r.append r2) (by rw[AAH];lia),rfl,q _ I.fresh⟩
end L2
namespace Att
open PySem PySem.W PySem.Calls PyProof.Rows
theorem jh:∀(ns:List Int) (vs:List Value),WellAll P h vs (ns.map WData.int)->IntsAre vs ns:=by
 intro ns
 induction ns with
 | nil =>
  intro vs w
  rw[List.map_nil]at w
  cases w
  exact .nil
 | cons n ns ih =>
  intro vs w
  rw[AAQ]at w
  cases w with
  | cons a b =>
   cases a
   exact .cons _ _ (ih _ b)
theorem uq{l:OpenLaw}{n:Nat}(hn:l.most=some n){P:Params}{h:Heap}{args:List WData}{vals:List Value}
  (hpre:l.row.toRowW.claim.pre args=true) (hwl:WellAll P h vals args) :
  ∃a vs ns,vals=[AAe a]/\args=[WData.list (ns.map WData.int)]/\h.get? a=some { cls:=.type "list",data:=.seq vs.toArray }/\IntsAre vs ns/\ns.length<=n:=by
 have hsh:WShape.hasAll [] args [.list .int]=true:=(pre_splitW hpre).1
 have hc:l.pre.holds [] { args:=args }=true:=(pre_splitW hpre).2
 obtain⟨d,r,rfl,h1,h2⟩:=hasAllW_cons hsh
 obtain rfl:=hasAllW_nil h2
 obtain⟨xs,rfl,h3⟩:=hasW_list h1
 obtain⟨ns,rfl⟩:=items_int h3
 have hlen:ns.length<=n:=by
  unfold OpenLaw.pre at hc
  have h4:(WTm.not (.lt (.lit (.int (n:Int))) (.len (.arg 0)))).holds [] { args:=[.list (ns.map .int)] }=true:=by
   have h4:=(holds_andW hc).1
   rw[hn]at h4
   exact h4
  have h5:=condW_of h4 (w_not (w_lt w_lit (w_len_list (w_arg rfl))))
  rw[AA4]at h5
  refine Nat.le_of_not_lt λq=>?_
  have q':(n:Int)<((ns.length:Nat):Int):=by lia
  first
   | (rw[dT_ q']at h5;exact absurd h5 (by decide))
   | (simp at h5;lia)
 cases hwl with
 | cons w1 w2 =>
  cases w2
  cases w1 with
  | list ho hall=>exact⟨_,_,ns,rfl,rfl,ho,jh ns _ hall,hlen⟩
theorem ux(l:OpenLaw)(args:List WData):l.row.toRowW.claim.post args (.bool true) args=true :=
 postW_of (r:=l.row.toRowW) (X:=(true==true))
  (show WShape.has [] (.bool true) .bool=true by first | rfl | decide | simp[WShape.has,WShape.arms,WShape.armsAll])
  (show (WTm.eq .res (.lit (.bool true))).value [] { args:=args,res:=some (.bool true),after:=args }=some (.bool (true==true))from w_eq_bool (w_res rfl) w_lit) rfl
theorem attach_call{l:OpenLaw}{n:Nat}{q:Program}{loose:List Str}{XP:(Str->Option Value)->Heap->Prop}{YP:World->Heap->Prop}{d:DefRec}
  (hn:l.most=some n) (hdf:d.params.defaults=[])
  (call:∀(w:World) (s₀ s₁:Shared) (mg mb:Str->Option Value) (fa:Addr) (o:Obj) (pm cd doc:Value) (a:Addr) (vs:List Value) (ns:List Int),
   Ground q loose [] XP w s₀ mg mb s₁.heap->YP w s₁.heap ->
   s₁.heap.get? fa=some o->o.data=.func (docDef d.name d.params d.body d.scope pm cd doc)->s₁.heap.CodeRec cd d.name->mg d.name=some (.ref fa) ->
   s₁.heap.get? a=some { cls:=.type "list",data:=.seq vs.toArray }->IntsAre vs ns->ns.length<=n->s₁.gens = #[] ->
   codeAny (model l.prog w) callerA (.call (.ref fa) ⟨[.ref a],[]⟩) (λr s'=>r=.ok (.ret (.bool true))/\OldK s₁.heap s'.heap/\s'.os=s₁.os/\AllBare s'.gens) s₁) :
  WalkO q loose XP YP l.row.toRowW d [] (λf vs=>PySem.call f vs):=by
 intro w s₀ s₁ mg mb G Y fa o pm cd doc dV kV ho hd hcd hD hmg hg args vals as hpre hlay hrd hwl hlo
 obtain rfl:dV=.none:=Dflts.none hD hdf
 obtain rfl:kV=.none:=Dflts.noKw hD
 obtain⟨a,vs,ns,rfl,rfl,hobj,hints,hlen⟩:=uq hn hpre hwl
 refine enter_call (ADZ (call w s₀ s₁ mg mb fa o pm cd doc a vs ns G Y ho (fd_plain hd) hcd hmg hobj hints hlen hg) λr s' hq=>?_)
 obtain⟨rfl,h2,h3,h4⟩:=hq
 exact⟨.inl ⟨.bool true,.bool true,[],rfl,λ_=>rfl,.bool true,ux l _,λ_=>⟨ADP,λ_ hm=>(nomatch hm)⟩⟩,h2,h3,h4⟩
noncomputable def noObjs(h:Heap):Heap:={ h with objs:=#[] }
theorem noObjs_get(h:Heap)(b:Addr):(noObjs h).get? b=none:=by
 cases e:(noObjs h).get? b with
 | none=>rfl
 | some o=>exact absurd (AAF e) (Nat.not_lt_zero _)
noncomputable def ledger(h:Heap)(L d:Addr):List (Addr×Obj):=(AAl h.objs.size).filterMap λa=>if a=L\/a=d then none else(h.get? a).map λo=>(a,o)
theorem mem_ledger:(a,o)∈ledger h L d↔a≠L/\a≠d/\h.get? a=some o:=by
 unfold ledger
 rw[List.mem_filterMap]
 constructor
 ·rintro⟨b,_,e⟩
  split at e
  ·cases e
  ·rename_i hb
   obtain⟨o',ho,e'⟩:=ABH.mp e
   cases e'
   exact⟨λq=>hb (.inl q),λq=>hb (.inr q),ho⟩
 ·rintro⟨n1,n2,ho⟩
  refine⟨a,ABc.mpr (AAF ho),?_⟩
  rw[if_neg (show ¬(a=L\/a=d)from λq=>q.elim n1 n2),ho]<;>rfl
theorem news_ledger(hne:d≠L)(ho:h.get? d=some od):News (noObjs h) L h ([]++(d,od)::ledger h L d):=by
 rintro⟨a,o⟩ hp
 rcases AAG.mp hp with e | hp
 ·cases e
  exact⟨ho,hne,noObjs_get _ _⟩
 ·obtain⟨n1,n2,e⟩:=mem_ledger.mp hp
  exact⟨e,n1,noObjs_get _ _⟩
theorem fr_all(n:h.Ns L m):Fr (noObjs h) L h m :=
 ⟨n,λb o e=>(by rw[noObjs_get]at e;cases e),AAX _⟩
end Att
namespace L2
open PySem PySem.Spec PyProof.Rows
theorem lT:∀{vs:List Value}{ns:List Int},IntsAre vs ns->ar (ns.map V.int) vs
 | _,_,.nil=>.nil
 | _,_,.cons n t h=>.cons ⟨t,rfl⟩ (lT h)
noncomputable abbrev KOf{K:AA2}{h:Heap}(_:K.In h):AA2:=K
noncomputable def cx(s:Stmt):Arguments:=match s with
 | .FunctionDef _ a _ _ _ _ _ _ _ _=>a
 | _=>{ posonlyargs:=[],args:=[],vararg:=none,kwonlyargs:=[],kw_defaults:=[],kwarg:=none,defaults:=[] }
noncomputable def aO(s:Stmt):List Stmt:=match s with
 | .FunctionDef _ _ b _ _ _ _ _ _ _=>b
 | _=>[]
noncomputable def ao(s:Stmt):Scope:=match s with
 | .FunctionDef _ _ _ _ _ _ sc _ _ _=>sc
 | _=>{ kind:=.function,names:=[],isGenerator:=false,isCoroutine:=false }
abbrev CX0:CXT:=λ_ _ _ _ _ _=>False
abbrev E0:XK:=λ_ _ _=>False
theorem xw:kq CX0 X E0:=λ_ _ _ _ _ _ _ h=>h.elim
structure Fun(K:AA2)(x qual:Str)(st:Stmt)(f:Addr)(fd:FuncData):Prop where
 ex:∃(oc:Value) (od:Option Addr) (kV doc pm:Value) (an:Option Addr) (cdv ct:Value) (osl:Array (Option Value)),
  fd=ABg x qual (cx st) (aO st) (ao st) .none kV doc pm an cdv ct/\K.lookup f=some ⟨oc,od,.func fd,osl⟩/\ACo K cdv qual=true
 kp:ABK K (.ref f)=true
theorem Fun.ok{P:Program}{w:World}{K:AA2}{mg:Str->Option Value}{base:Heap}{x qual:Str}{st:Stmt}{f:Addr}{fd:FuncData}{N ps:List Str}{k:Nat}{sp:Sp}(F:Fun K x qual st f fd)(S:FnScope N ps (ao st))(len:∀vs H Q E,sp vs H Q E->vs.length=ps.length)
  (hbody:∀(cdv:Value) (A:Around) (outer:List Env) (s:Shared) (H:Hp) (vs:List V) (Q:VK) (E:XK),Room k (A.deeper (envOfC qual (ao st) s.heap.objs.size f cdv))->sp vs H Q E ->
   ∃t,PSs (nI CX0 P w K mg base N qual (ao st) f cdv A outer s H E).nox (aO st) t/\t { nx:=λ_ H'=>Q .non H',rt:=Q } (start N vs) H):FnOk P w K mg base CX0 (k+1) f fd ps sp:=by
 obtain⟨oc,od,kV,doc,pm,an,cdv,ct,osl,rfl,lk,hcd⟩:=F.ex
 refine Eg lk hcd S len λA outer s H vs Q E hr hsp=>?_
 obtain⟨t,h,q⟩:=hbody cdv A outer s H vs Q E hr hsp
 exact⟨t,h.nox,q⟩
theorem Fun.binds{K:AA2}{x qual:Str}{st:Stmt}{f:Addr}{fd:FuncData}{ps:List Str}(F:Fun K x qual st f fd)
  (h:∀(kV doc pm:Value) (an:Option Addr) (cdv ct:Value) (us:List Value),us.length=ps.length->bindArgs (ABg x qual (cx st) (aO st) (ao st) .none kV doc pm an cdv ct) ⟨us,[]⟩=pure (ps.zip us)):eD K fd ps []:=by
 obtain⟨oc,od,kV,doc,pm,an,cdv,ct,osl,rfl,lk,hcd⟩:=F.ex
 exact .all (h kV doc pm an cdv ct)
theorem vW{K:AA2}{x qual:Str}{st:Stmt}{f:Addr}{oc:Value}{od an:Option Addr}{osl:Array (Option Value)}{kV doc pm cdv ct:Value}(l:K.lookup f=some ⟨oc,od,.func (ABg x qual (cx st) (aO st) (ao st) .none kV doc pm an cdv ct),osl⟩)
  (c:ACo K cdv qual=true) (k:ABK K (.ref f)=true):Fun K x qual st f (ABg x qual (cx st) (aO st) (ao st) .none kV doc pm an cdv ct):=⟨⟨oc,od,kV,doc,pm,an,cdv,ct,osl,rfl,l,c⟩,k⟩
theorem aB(h:n<=1000):n<sizeLine:=Nat.lt_of_le_of_lt h (by decide)
theorem eE{A B:Prop}(h:B):if false=true then A else B:=by
 rw[if_neg AB9]
 exact h
theorem fy{A B:Prop}(h:A):if true=true then A else B:=by
 rw[if_pos rfl]
 exact h
section
variable{κ:Type}[DecidableEq κ]
noncomputable def rO(kvs:List (κ×V))(k:κ):Option V:=(kvs.find? λkv=>decide (kv.1=k)).map (·.2)
noncomputable def sR(kvs:List (κ×V))(k:κ)(v:V):List (κ×V) :=
 if (kvs.any λkv=>decide (kv.1=k))=true then kvs.map (λkv=>if kv.1=k then(kv.1,v)else kv)else kvs++[(k,v)]
theorem kt{p:κ×V}{r:List (κ×V)}{k:κ}(e:p.1=k):rO (p::r) k=some p.2:=by simp[rO,ABS,e]
theorem ku{p:κ×V}{r:List (κ×V)}{k:κ}(e:¬p.1=k):rO (p::r) k=rO r k:=by simp[rO,ABS,e]
theorem pY(k:κ):∀kvs:List (κ×V),(kvs.any λkv=>decide (kv.1=k))=(rO kvs k).isSome
 | []=>rfl
 | p::r=>by
  rw[List.any_cons]
  by_cases e:p.1=k
  ·simp only[kt e,dT_ e,Bool.true_or,Option.isSome_some]
  ·rw[ku e,dF_ e,Bool.false_or];exact pY k r
theorem ja(kvs:List (κ×V))(k:κ)(v:V):(sR kvs k v).length<=kvs.length+1:=by
 unfold sR
 split
 ·rw[AA4];lia
 ·rw[AAH,AAO,AAa];lia
theorem oj.isSome_eq(r:oj o u):o.isSome=u.isSome:=by
 cases o with
 | none=>cases u with
  | none=>rfl
  | some _=>exact(show False from r).elim
 | some _=>cases u with
  | none=>exact(show False from r).elim
  | some _=>rfl
theorem KV.val{kvs:List (κ×V)}{vs:List (κ×Value)}(r:KV kvs vs)(k:κ):oj (rO kvs k) (valueAt vs k):=by
 unfold KV at r
 induction r with
 | nil=>exact ACN
 | @cons p q ps qs h t ih =>
  obtain⟨h1,h2⟩:=h
  by_cases e:p.1=k
  ·have e':q.1=k:=h1.symm.trans e
   have b:valueAt (q::qs) k=some q.2:=by simp[valueAt,ABS,e']
   rw[kt e,b];exact h2
  ·have e':¬q.1=k:=λz=>e (h1.trans z)
   have b:valueAt (q::qs) k=valueAt qs k:=by simp[valueAt,ABS,e']
   rw[ku e,b];exact ih
theorem KV.any(r:KV kvs vs)(k:κ):(kvs.any λkv=>decide (kv.1=k))=vs.any λkv=>decide (kv.1=k):=by
 unfold KV at r
 induction r with
 | nil=>rfl
 | cons h t ih=>rw[List.any_cons,List.any_cons,ih,h.1]
theorem KV.repl(r:KV kvs vs)(k:κ)(ry:aK y u) :
  KV (kvs.map λkv=>if kv.1=k then(kv.1,y)else kv) (vs.map λkv=>if kv.1=k then(kv.1,u)else kv):=by
 unfold KV at r ⊢
 induction r with
 | nil=>exact .nil
 | @cons p q ps qs h t ih =>
  rw[AAQ,AAQ]
  refine .cons ?_ ih
  obtain⟨h1,h2⟩:=h
  by_cases e:p.1=k
  ·rw[if_pos e,if_pos (h1.symm.trans e)];exact⟨h1,ry⟩
  ·rw[if_neg e,if_neg (λz=>e (h1.trans z))];exact⟨h1,h2⟩
theorem KV.put(r:KV kvs vs)(k:κ)(ry:aK y u):KV (sR kvs k y) (stored vs k u):=by
 unfold sR stored
 rw[r.any k]
 by_cases e:(vs.any λkv=>decide (kv.1=k))=true
 ·rw[if_pos e,if_pos e];exact r.repl k ry
 ·rw[if_neg e,if_neg e];exact Paired.snoc r ⟨rfl,ry⟩
theorem KV.length(r:KV kvs vs):kvs.length=vs.length:=Paired.length r
end
theorem AI(r:aK (kV k) u):(bx P w).is k u=true:=by
 cases k with
 | inl i=>obtain⟨t,e⟩:=(show ∃t,u=Value.int i t from r);subst e;exact oX P w i t
 | inr x=>obtain⟨t,e⟩:=(show ∃t,u=Value.str x t from r);subst e;exact oW P w x t
theorem nB:∀{ks:List Key}{us:List Value},ar (ks.map kV) us->ItemsAre (bx P w) ks us
 | [],_,r=>by rw[List.map_nil]at r;cases r;exact .nil
 | k::ks,_,r=>by
  rw[AAQ]at r
  cases r with
  | cons h t=>exact .cons (AI h) (nB t)
abbrev KT(H:Hp):List (List Key×V)->List (List Key×Addr×Value)->Prop:=Paired λp q=>p.1=q.1/\H q.2.1=some (.tup (p.1.map kV))/\aK p.2 q.2.2
theorem KT.val{H:Hp}{kvs:List (List Key×V)}{xs:List (List Key×Addr×Value)}(r:KT H kvs xs)(k:List Key):oj (rO kvs k) ((atKey xs k).map (·.2)):=by
 induction r with
 | nil=>exact ACN
 | @cons p q ps qs h t ih =>
  obtain⟨h1,_,h2⟩:=h
  by_cases e:p.1=k
  ·have e':q.1=k:=h1.symm.trans e
   have b:atKey (q::qs) k=some q.2:=by simp[atKey,ABS,e']
   rw[kt e,b];exact h2
  ·have e':¬q.1=k:=λz=>e (h1.trans z)
   have b:atKey (q::qs) k=atKey qs k:=by simp[atKey,ABS,e']
   rw[ku e,b];exact ih
theorem KT.repl(r:KT H kvs xs)(k:List Key)(ry:aK y u) :
  KT H (kvs.map λkv=>if kv.1=k then(kv.1,y)else kv) (xs.map (putAt k u)):=by
 induction r with
 | nil=>exact .nil
 | @cons p q ps qs h t ih =>
  rw[AAQ,AAQ]
  refine .cons ?_ ih
  obtain⟨h1,h2,h3⟩:=h
  unfold putAt
  by_cases e:p.1=k
  ·rw[if_pos e,if_pos (h1.symm.trans e)];exact⟨h1,h2,ry⟩
  ·rw[if_neg e,if_neg (λz=>e (h1.trans z))];exact⟨h1,h2,h3⟩
theorem KT.put(r:KT H kvs xs)(k:List Key)(hb:H b=some (.tup (k.map kV)))(ry:aK y u) :
  KT H (sR kvs k y) (storedH xs k b u):=by
 have e:(kvs.any λkv=>decide (kv.1=k))=(atKey xs k).isSome:=by
  rw[pY,(r.val k).isSome_eq,ADQ]
 unfold sR storedH
 rw[e]
 by_cases q:(atKey xs k).isSome=true
 ·rw[if_pos q,if_pos q];exact r.repl k ry
 ·rw[if_neg q,if_neg q];exact Paired.snoc r ⟨rfl,hb,ry⟩
theorem KT.keeps(r:KT H kvs xs)(ht:∀b ys,H b=some (.tup ys)->H' b=some (.tup ys)):KT H' kvs xs :=
 Paired.mapP r λ_ _ z=>⟨z.1,ht _ _ z.2.1,z.2.2⟩
theorem Cj(ok:HOk P w H h)(e:Rd H a u):br P w H h a u:=e.ok ok
theorem Bn(ok:HOk P w H h)(e:Rd H a (.dK kvs)):kvs.length<=sizeLine/\(a==sysModules)=false/\∃vs,KV kvs vs/\h.DictOf (bx P w) a vs :=
 show br P w H h a (.dK kvs)from Cj ok e
theorem dk_of(ok:HOk P w H h)(e:H a=some (.dK kvs)):kvs.length<=sizeLine/\(a==sysModules)=false/\∃vs,KV kvs vs/\h.DictOf (bx P w) a vs:=Bn ok (.inl e)
theorem vD(ok:HOk P w H h)(e:H a=some (.tup (ks.map kV))):(tupleKind (bx P w)).is h ks a:=by
 obtain⟨_,its,r,o,h1,h2,⟨n,h3⟩,_⟩:=(show br P w H h a (.tup (ks.map kV))from ok a _ e)
 exact⟨o,its.toArray,n,h1,h2,h3,by simpa using nB r⟩
theorem Bg(ok:HOk P w H h)(e:Rd H a (.dT kvs)):kvs.length<=sizeLine/\(a==sysModules)=false /\
  ∃xs,KT H kvs xs/\h.DictOfH (tupleKind (bx P w)) a xs:=by
 obtain⟨z,y,xs,r,o,es,ep,h1,h2,h3,h4,h5⟩:=(show br P w H h a (.dT kvs)from Cj ok e)
 refine⟨z,y,xs,r,o,es,ep,h1,h2,h3,h4,λx hx=>?_,h5⟩
 have all:∀{l:List (List Key×V)}{m:List (List Key×Addr×Value)},KT H l m->∀x∈m,(tupleKind (bx P w)).is h x.1 x.2.1:=by
  intro l m q
  induction q with
  | nil=>intro x hx;exact nomatch hx
  | @cons p q ps qs hq t ih =>
   intro x hx
   rcases AAG.mp hx with e | hx
   ·subst e
    exact vD ok (by rw[<-hq.1];exact hq.2.1)
   ·exact ih x hx
 exact all r x hx
theorem dt_of(ok:HOk P w H h)(e:H a=some (.dT kvs)):kvs.length<=sizeLine/\(a==sysModules)=false /\
  ∃xs,KT H kvs xs/\h.DictOfH (tupleKind (bx P w)) a xs:=Bg ok (.inl e)
def DGet(H:Hp)(a:Addr)(y:V)(r:Option V):Prop :=
 (∃kvs k,Rd H a (.dK kvs)/\y=kV k/\r=rO kvs k)\/∃kvs k b,Rd H a (.dT kvs)/\y=.ref b/\H b=some (.tup (k.map kV))/\r=rO kvs k
def DPut(H:Hp)(a:Addr)(y v:V)(H':Hp):Prop :=
 (∃kvs k,H a=some (.dK kvs)/\y=kV k/\kvs.length<sizeLine/\H'=upd H a (.dK (sR kvs k v))) \/
 ∃kvs k b,H a=some (.dT kvs)/\y=.ref b/\H b=some (.tup (k.map kV))/\kvs.length<sizeLine/\H'=upd H a (.dT (sR kvs k v))
theorem Inv.big(I:Inv X pins σ H s):sysModules<s.heap.objs.size:=by
 have h:mainGlobals<s.heap.objs.size:=(I.mod.glob.keeps I.bk).lt
 exact ADs (by decide) h
theorem wj(hu:A.units+1<cLine)(I:Inv X pins σ H s)(g:DGet H a y (some v))(ry:aK y u)(h:∀w' s',Inv X pins σ H s'->aK v w'->Q w' s') :
  wpAny (model X.prog X.w) A (getItem (.ref a) u) Q E s:=by
 rcases g with⟨kvs,k,e,ey,l⟩|⟨kvs,k,b,e,ey,eb,l⟩
 ·subst ey
  obtain⟨z,hd,vs,rel,dd⟩:=Bn I.hok e
  obtain⟨w',hw,rw'⟩:=oj.some_of (v:=v) (o:=valueAt vs k) (by rw[l];exact rel.val k)
  exact wpAny_getItem_of (AI ry) dd.mapOf hw (h w' _ (I.tok _) rw')
 ·subst ey
  cases (show u=AAe b from ry)
  obtain⟨z,hd,xs,rel,dd⟩:=Bg I.hok e
  obtain⟨w',hw,rw'⟩:=oj.some_of (v:=v) (o:=(atKey xs k).map (·.2)) (by rw[l];exact rel.val k)
  obtain⟨p,hp,hp2⟩:=ABH.mp hw
  refine wpAny_getItem_heap (tupleKind_room_in1 hu) (vD I.hok eb) dd hp ?_
  rw[hp2]
  exact h w' _ (I.tok _) rw'
theorem pO(I:Inv X pins σ H s)(mu:Mut (H a))(hs:ABA a s.heap h')(he:∃q,h'.get? a=some q)(new:br X.prog X.w (upd H a ob) h' a ob) :
  Inv X pins σ (upd H a ob) { s with heap:=h',toks:=t' } :=
 I.write (x:=a) (e:=a) mu (.inl rfl) (λb q hb z=>(hs.2 b hb).trans z) he new
theorem Eu(z:kvs.length<=sizeLine)(hd:(a==sysModules)=false)(rel:KV kvs vs)(dd:h'.DictOf (bx P w) a vs) :
  br P w H' h' a (.dK kvs):=⟨z,hd,vs,rel,dd⟩
theorem wg(hu:A.units+1<cLine)(I:Inv X pins σ H s)(g:DPut H a y v H')(ry:aK y u)(rv:aK v r)(h:∀s',Inv X pins σ H' s'->Q () s') :
  wpAny (model X.prog X.w) A (setItem (.ref a) u r) Q E s:=by
 rcases g with⟨kvs,k,e,ey,l,eH⟩|⟨kvs,k,b,e,ey,eb,l,eH⟩
 ·subst ey eH
  obtain⟨z,hd,vs,rel,dd⟩:=dk_of I.hok e
  have hz:vs.length<=sizeLine:=by rw[<-rel.length];exact z
  have hl:(sR kvs k v).length<=sizeLine:=by have:=ja kvs k v;lia
  refine wpAny_setItem_pairs (hsz:=hz) (AI ry) dd λh' dd' hs=>h _ ?_
  have he:∃q,h'.get? a=some q:=let ⟨q,_,_,hq,_⟩:=dd';⟨q,hq⟩
  exact pO I (by rw[e];exact ACN) hs he (Eu hl hd (rel.put k rv) dd')
 ·subst ey eH
  cases (show u=AAe b from ry)
  obtain⟨z,hd,xs,rel,dd⟩:=dt_of I.hok e
  have hz:xs.length<=sizeLine:=by rw[<-Paired.length rel];exact z
  have hl:(sR kvs k v).length<=sizeLine:=by have:=ja kvs k v;lia
  refine wpAny_setItem_heap (hsz:=hz) (tupleKind_room_in1 hu) (vD I.hok eb) dd λh' dd' hs=>h _ ?_
  obtain⟨q,es,ep,hq,h2,h3,h4,_,h5⟩:=dd'
  refine pO I (by rw[e];exact ACN) hs ⟨q,hq⟩ ⟨hl,hd,_,(rel.put k eb rv).keeps λc ys ec=>?_,q,es,ep,hq,h2,h3,h4,h5⟩
  rw[ak (ne_of ec e (λz=>nomatch z))]
  exact ec
def BK(i:Expr):Prop:=∀ov iv,subscripted i false ov iv=operate [ov,iv] (getItem ov iv)
theorem ug{prog:Program}{w:World}{A:Around}{E:Value->Shared->Prop}{s:Shared}{env:Env}{value slice:Expr}{pos:Pos}{T id:String}{Q:Value->Shared->Prop}
  (hl:typeLookup (.type T) "__getitem__" = pure (some (.builtin id))) (hs:BK slice)
  (h:wpAny (model prog w) A (eval value env) (λo s₁=>wpAny (model prog w) A (eval slice env) (λi s₂=>s₂.TypeIs o T/\wpAny (model prog w) A (getItem o i) Q E s₂) E s₁) E s) :
  wpAny (model prog w) A (eval (.Subscript value slice pos) env) Q E s:=by
 refine Subscript_ (ABC h (λo s₁ h₁=>ABC h₁ (λi s₂ h₂=>?_) λ_ _ x=>x) λ_ _ x=>x)
 obtain⟨hT,h₂⟩:=h₂
 unfold subscriptTail
 refine AA0 ?_
 rw[getitemInPython_of_ne hT.not_modules]
 refine AA0 (ADj hT hl ?_)
 have fin:wpAny (model prog w) A (subscripted slice false o i) (λr s₃=>wpAny (model prog w) A (letTemporaryGo value o r >>= λ_=>pure r) Q E s₃) E s₂:=by
  rw[hs o i]
  exact wpAny_operating (ABC h₂ (λr s₃ h₃=>AA0 (wpAny_letTemporaryGo (AA5 h₃))) λ_ _ x=>x)
 first
  | exact AA5 (AA0 fin)
  | exact AA0 (AA5 (AA0 fin))
  | exact AA0 fin
theorem pL(I:Inv X pins σ H s)(g:DGet H a y o):s.TypeIs (.ref a) "dict":=by
 rcases g with⟨kvs,k,e,_,_⟩|⟨kvs,k,b,e,_,_,_⟩
 ·obtain⟨_,_,vs,_,dd⟩:=Bn I.hok e
  exact dd.typeIs
 ·obtain⟨_,_,xs,_,dd⟩:=Bg I.hok e
  exact dd.typeIs
def tDGet(td ty:TE):TE:=λσ H Q=>td σ H λx H1=>ty σ H1 λy H2=>∃a v,x=.ref a/\DGet H2 a y (some v)/\Q v H2
def sDPut(td ty tv:TE):TS:=λD σ H=>tv σ H λv H1=>td σ H1 λx H2=>ty σ H2 λy H3=>∃a H4,x=.ref a/\DPut H3 a y v H4/\D.nx σ H4
theorem zM(hu:X.A.units+1<cLine)(ho:PE X o td)(hi:PE X i ty)(hs:BK i):PE X (.Subscript o i pos) (tDGet td ty):=by
 intro pins s σ H Q I h
 refine ug PySem.F.slot_dict_getitem.lookup hs (thn (ho pins s σ H _ I h) ?_)
 rintro u s1 ⟨x,H1,I1,rx,q1⟩
 refine thn (hi pins s1 σ H1 _ I1 q1) ?_
 rintro iv s2 ⟨y,H2,I2,ry,a,v,ex,g,q2⟩
 subst ex
 obtain rfl:u=AAe a:=rx
 exact⟨pL I2 g,wj hu I2 g ry λw' s3 I3 rw'=>⟨v,H2,I3,rw',q2⟩⟩
theorem zG(hu:X.A.units+1<cLine)(ho:PE X o td)(hi:PE X i ty)(hv:PE X value tv)(hs:swapsWith value (some (.Subscript o i pos')) pos.line X.env=pure false) :
  PS X (.Assign [.Subscript o i pos'] value pos) (sDPut td ty tv):=by
 intro pins s σ H D I h
 refine wpAny_Assign_Subscript (thn (hv pins s σ H _ I h) λr s1 ⟨v,H1,I1,rv,q1⟩=>thn (ho pins s1 σ H1 _ I1 q1) λu s2 ⟨x,H2,I2,rx,q2⟩=>thn (hi pins s2 σ H2 _ I2 q2) ?_) hs
 rintro iv s3 ⟨y,H3,I3,ry,a,H4,ex,g,q3⟩
 subst ex
 obtain rfl:u=AAe a:=rx
 exact wg hu I3 g ry rv λs4 I4=>⟨σ,H4,I4,q3⟩
theorem yp(h:Heap)(hb:sysModules<h.objs.size):br P w H (h.push { cls:=.type "dict",data:=.dict #[] }) h.objs.size (.dK []) :=
 ⟨AAX _,beq_eq_false_iff_ne.mpr (AAr (AAK hb)),[],.nil,Heap.DictOf.new h⟩
def Ce:TE:=λ_ H Q=>∀p,H p=none->Q (.ref p) (upd H p (.dK []))
theorem xt:PE X (.Dict [] [] pos) Ce:=λpins s σ H Q I h =>
 wpAny_Dict_empty ⟨.ref s.heap.objs.size,_,I.laid (a:=s.heap.objs.size) (o:=.dK []) (t':=s.toks) (λ_ _ q=>AA3 _ q) (AAA _) (yp s.heap I.big),rfl,h _ (I.hok.fresh (AAA _))⟩
end L2
namespace DL
open PySem
theorem eQ(env:Env):∀(names:List (Str×NameKind)) (acc:List (Str×Addr)),
  (∀p∈names,p.2=ABD->∃c,env.cells.lookup p.1=some c) ->
  ∃cl,(forIn (m:=Sem) names acc λ(p:Str×NameKind) (r:List (Str×Addr)) =>
    if (p.2==ABD)=true then(do let a <-cellOf env p.1;pure (ADk ((p.1,a)::r)))else pure (ADk r))=pure cl /\
   (∀z c,cl.lookup z=some c->acc.lookup z=some c\/env.cells.lookup z=some c) /\
   (∀z c,acc.lookup z=some c->∃c',cl.lookup z=some c') /\
   (∀p∈names,p.2=ABD->∃c,cl.lookup p.1=some c)
 | [],acc,_=>⟨acc,rfl,λ_ _ h=>.inl h,λz c h=>⟨c,h⟩,λ_ h=>nomatch h⟩
 | (n,k)::aZ,acc,hyp=>by
  by_cases hk:k=ABD
  ·subst hk
   obtain⟨c0,hc0⟩:=hyp (n,.free) AAE rfl
   obtain⟨cl,e,h1,h2,h3⟩:=eQ env aZ ((n,c0)::acc) λp hp=>hyp p (AA9 _ hp)
   have ce:cellOf env n=pure c0:=by unfold cellOf;rw[hc0]
   have own:∃c',cl.lookup n=some c':=h2 n c0 (by simp[AB5])
   refine⟨cl,?_,λz c hz=>?_,λz c hz=>?_,λp hp hf=>?_⟩
   ·rw[ADl]
    simp only[beq_self_eq_true,if_true,ce,pure_bind]
    exact e
   ·rcases h1 z c hz with q | q
    ·rw[AB5]at q
     by_cases hz':(z==n)=true
     ·rw[hz']at q
      have:z=n:=by simpa using hz'
      subst this
      cases q
      exact .inr hc0
     ·have hz'':(z==n)=false:=by simpa using hz'
      rw[hz'']at q
      exact .inl q
    ·exact .inr q
   ·by_cases hz':z=n
    ·subst hz';exact own
    ·refine h2 z c ?_
     rw[AB5]
     have hz'':(z==n)=false:=by simpa using hz'
     rw[hz'']
     exact hz
   ·rcases AAG.mp hp with rfl | hp
    ·exact own
    ·exact h3 p hp hf
  ·have hb:(k==ABD)=false:=by simpa using hk
   obtain⟨cl,e,h1,h2,h3⟩:=eQ env aZ acc λp hp=>hyp p (AA9 _ hp)
   refine⟨cl,?_,h1,h2,λp hp hf=>?_⟩
   ·rw[ADl]
    simp only[hb,AAZ,if_false,pure_bind]
    exact e
   ·rcases AAG.mp hp with rfl | hp
    ·exact absurd hf hk
    ·exact h3 p hp hf
theorem gz(hyp:∀p∈scope.names,p.2=ABD->∃c,env.cells.lookup p.1=some c) :
  ∃cl,closureFor scope env=pure cl/\(∀z c,cl.lookup z=some c->env.cells.lookup z=some c)/\(∀p∈scope.names,p.2=ABD->∃c,cl.lookup p.1=some c):=by
 obtain⟨cl,e,h1,h2,h3⟩:=eQ env scope.names [] hyp
 refine⟨cl,?_,λz c hz=>?_,h3⟩
 ·unfold closureFor
  simp only[bind_pure]
  exact e
 ·rcases h1 z c hz with q | q
  ·simp at q
  ·exact q
theorem dF{env:Env}:∀{names:List (Str×NameKind)}{x:Str}{k:NameKind},
  (names.map λ(p:Str×NameKind)=>if (p.2==ABD&&env.scope.kind==.function&&env.kindOf p.1==some .cell)=true then(p.1,ACL)else(p.1,p.2)).lookup x=some k ->
   (names.lookup x=some k\/(k=ACL/\names.lookup x=some .free))
 | [],_,_,h=>by simp at h
 | (n,j)::aZ,x,k,h=>by
  have ih:=@dF env aZ x k
  rw[AAQ,AB5]at h
  by_cases hx:(x==n)=true
  ·have hl:ACJ x ((n,j)::aZ)=some j:=by rw[AB5,hx]
   rw[hl]
   by_cases hc:(j==ABD&&env.scope.kind==.function&&env.kindOf n==some .cell)=true
   ·simp only[hc,if_true,hx]at h
    cases h
    have:j=ABD:=by
     simp only[AAU]at hc
     simpa using hc.1.1
    exact .inr ⟨rfl,by rw[this]⟩
   ·simp only[hc,AAZ,if_false,hx]at h
    exact .inl h
  ·have hx':(x==n)=false:=by simpa using hx
   have hl:ACJ x ((n,j)::aZ)=ACJ x aZ:=by rw[AB5,hx']
   rw[hl]
   refine ih ?_
   by_cases hc:(j==ABD&&env.scope.kind==.function&&env.kindOf n==some .cell)=true
   ·simp only[hc,if_true,hx']at h
    exact h
   ·simp only[hc,AAZ,if_false,hx']at h
    exact h
theorem kC(ifs:List Expr)(env:Env):compTests ifs env =
  (forIn ifs true λc r=>if r=true then do let ok <-isTrue c env (eval c env);pure (ADk ok)else pure (ADk r)):=by
 unfold compTests
 simp only[bind_pure]
theorem sJ(J:Nat->Shared->Prop)(ne:Value->Shared->Prop)
  (hne:∀e s',ne e s'->notedBy (model prog w) A env (λe s'=>R (.error e) s') e s')
  (turn:∀n s,J n s->wpAny (model prog w) A (pyNext it) (λr s1=>match r with
   | none=>R (.ok .next) s1
   | some v=>wpAny (model prog w) A (letOwnedTupleGo target it v) (λ_ s2=>wpAny (model prog w) A (assign target env v) (λ_ s3 =>
     wpAny (model prog w) A (compTests ifs env) (λok s4 =>
      if ok=true then wpAny (model prog w) A (eval elt env) (λy s5=>wpAny (model prog w) A (call (.builtin "list.append") [acc,y]) (λ_ s6=>∃m,m<n/\J m s6) ne s5) ne s4
      else ∃m,m<n/\J m s4) ne s3) ne s2) ne s1) ne s)
  (n:Nat) (h:J n s):codeAny (model prog w) A (.compLoop (.ListComp elt [⟨target,iter,ifs,0⟩] scope pos) 0 it acc env) R s:=by
 refine codeAny_loop rfl J (λn s hJ=>?_) n h
 show wpAny _ A ((compTurn (.ListComp elt [⟨target,iter,ifs,0⟩] scope pos) 0 it acc env).onRaise (λx=>do noteFrame x env;theTreesLotGoes x)) _ _ s
 refine wpAny_noted ?_
 rw[compTurn_list]
 refine AA0 (wpAny_standAt (AA0 (ABC (turn n s hJ) (λr s1 h1=>?_) hne)))
 cases r with
 | none=>exact AA5 h1
 | some v =>
  refine AA0 (ABC h1 (λ_ s2 h2=>?_) hne)
  refine AA0 (ABC h2 (λ_ s3 h3=>?_) hne)
  rw[kC]at h3
  refine AA0 (ABC h3 (λok s4 h4=>?_) hne)
  cases ok with
  | false=>exact AA5 ⟨rfl,h4⟩
  | true =>
   exact AA0 (AA0 (ABC h4 (λy s5 h5=>AA0 (ABC h5 (λ_ s6 h6=>AA5 (AA5 ⟨rfl,h6⟩)) hne)) hne))
end DL
namespace L2
open PySem PySem.Spec PyProof.Rows DL
theorem gn{env:Env}:∀{names:List (Str×NameKind)}{x:Str},names.lookup x=some .free ->
  ((names.map λ(p:Str×NameKind)=>if (p.2==ABD&&env.scope.kind==.function&&env.kindOf p.1==some .cell)=true then(p.1,ACL)else(p.1,p.2)).lookup x=some .cell \/
   (names.map λ(p:Str×NameKind)=>if (p.2==ABD&&env.scope.kind==.function&&env.kindOf p.1==some .cell)=true then(p.1,ACL)else(p.1,p.2)).lookup x=some .free)
 | [],_,h=>by simp at h
 | (n,j)::aZ,x,h=>by
  have ih:=@gn env aZ x
  rw[AAQ,AB5]
  rw[AB5]at h
  by_cases hc:(j==ABD&&env.scope.kind==.function&&env.kindOf n==some .cell)=true
  ·by_cases hx:(x==n)=true
   ·simp[hc,hx]
   ·have hx':(x==n)=false:=by simpa using hx
    rw[hx']at h
    simp only[hc,if_true,hx']
    exact ih h
  ·by_cases hx:(x==n)=true
   ·rw[hx]at h
    cases h
    right
    simp only[hc,AAZ,if_false,hx]
   ·have hx':(x==n)=false:=by simpa using hx
    rw[hx']at h
    simp only[hc,AAZ,if_false,hx']
    exact ih h
noncomputable def blk(X:Cx)(N':List Str)(scope:Scope)(cl:List (Str×Addr))(s₀:Shared)(H₀:Hp)(ex:List Addr):Cx :=
 { X with N:=N',s₀:=s₀,H₀:=H₀,env:=compEnvC scope cl s₀.heap.objs.size X.env,outer:=X.stack,ex:=ex,fn:=λx=>scope.names.lookup x==some .cell,pn:=[],xe:=λ_ _=>False }
structure BlkSc(X:Cx)(N':List Str)(nt:Nat)(js:List Nat)(scope:Scope):Prop where
 kind:scope.kind=.function
 nocell:∀y∈scope.names,y.2≠.cell
 loc:∀y∈scope.names,y.2=.local->scope.names.lookup y.1=some .local
 free:∀y∈scope.names,y.2=.free->(X.env.kindOf y.1=some .cell\/X.env.kindOf y.1=some .free)
 len:N'.length=nt+js.length
 fr:∀(k j:Nat),js[k]?=some j->∃x,N'[nt+k]?=some x/\X.N[j]?=some x/\scope.names.lookup x=some .free/\(X.env.kindOf x=some .cell\/X.env.kindOf x=some .free)
noncomputable def bst(nt:Nat)(js:List Nat)(σ:St):St:=ADV nt none++js.map λj=>(σ[j]?).join
theorem wy(nt:Nat)(js:List Nat)(σ:St):(bst nt js σ).length=nt+js.length:=by simp[bst]
theorem BA(h:(bst nt js σ)[i]?=some (some v)):∃k j,i=nt+k/\js[k]?=some j/\σ[j]?=some (some v):=by
 unfold bst at h
 by_cases hi:i<nt
 ·rw[AAL (by simpa using hi),ACK]at h
  simp[hi]at h
 ·rw[AAY (by simpa using Nat.not_lt.mp hi),ACT,AAN]at h
  cases e:js[i-nt]? with
  | none=>rw[e]at h;cases h
  | some j =>
   rw[e]at h
   refine⟨i-nt,j,by lia,e,?_⟩
   have h':(σ[j]?).join=some v:=by simpa using h
   cases q:σ[j]? with
   | none=>rw[q]at h';cases h'
   | some o=>rw[q]at h';exact congrArg some h'
def PTs(X:Cx)(ifs:List Expr)(t:TT):Prop :=
 ∀(pins:List (Addr×Obj)) (s:Shared) (σ:St) (H:Hp) (Q:Bool->Hp->Prop),Inv X pins σ H s->t σ H Q->wpAny (model X.prog X.w) X.A (compTests ifs X.env) (TP X pins σ Q) X.xe s
def ttNil:TT:=λ_ H Q=>Q true H
theorem zz:PTs X [] ttNil:=λpins s σ H Q I h=>by
 rw[kC]
 exact wpAny_tests_nil ⟨H,I,h⟩
theorem zy(h:PT X c t):PTs X [c] t:=λpins s σ H Q I hq=>by
 rw[kC]
 exact wpAny_tests_one (h pins s σ H Q I hq)
def tLC(nt:Nat)(js:List Nat)(wi:TI)(g:TG)(tt:TT)(te:TE):TE:=λσ H Q=>wi σ H λJ H1=>∃W:Nat->Nat->List V->St->Hp->Prop,(∃m,W 0 m [] (bst nt js σ) H1) /\
 ∀i m vs τ H,W i m vs τ H->(J.stop i H/\∀p,H p=none->Q (.ref p) (upd H p (.lst vs))) \/
  (J.go i H/\∀x H',J.yld i H x H'->g x τ H' λτ2 H2=>tt τ2 H2 λb H3=>if b=true then te τ2 H3 λy H4=>vs.length<sizeLine/\∃m',m' < m/\W (i+1) m' (vs++[y]) τ2 H4 else ∃m',m' < m/\W (i+1) m' vs τ2 H3)
noncomputable abbrev bU(its:List Value)(k:Nat):Obj:={ cls:=.type "list",data:=.seq its.toArray k }
structure TurnX(X:Cx)(tg:Expr)(J:It)(fp:List Addr)(it:Addr)(tn:Nat->Heap->Prop):Prop where
 item:∀(i:Nat) (pins:List (Addr×Obj)) (s:Shared) (σ:St) (H:Hp) (E:Value->Shared->Prop),Inv X pins σ H s->(∀b∈fp,nY X pins H b)->tn i s.heap->J.go i H ->
  wpAny (model X.prog X.w) X.A (pyNext (.ref it)) (λr s1=>∃u,r=some u /\
   wpAny (model X.prog X.w) X.A (letOwnedTupleGo tg (.ref it) u) (λ_ s2=>∃x H',Inv X pins σ H' s2/\aK x u/\J.yld i H x H'/\tn (i+1) s2.heap/\∀b∈fp,H' b=none) E s1) E s
 done:∀(i:Nat) (pins:List (Addr×Obj)) (s:Shared) (σ:St) (H:Hp) (E:Value->Shared->Prop),Inv X pins σ H s->(∀b∈fp,nY X pins H b)->tn i s.heap->J.stop i H ->
  wpAny (model X.prog X.w) X.A (pyNext (.ref it)) (λr s1=>r=none/\Inv X pins σ H s1) E s
theorem Turn.at(T:Turn X.prog X.w X.K tg J fp it tn)(hc:X.calm=true):TurnX X tg J fp it tn:=⟨T.item X rfl rfl rfl hc,T.done X rfl rfl rfl hc⟩
theorem Inv.blkOk(B:BlkSc X N' nt js scope)(I:Inv X pins σ H s)
  (hcl1:∀z c,cl.lookup z=some c->X.env.cells.lookup z=some c) (hcl2:∀p∈scope.names,p.2=ABD->∃c,cl.lookup p.1=some c) (hf:∀b∈fp,nY X pins H b) (hfs:∀b∈fp,b<s.heap.objs.size) :
  (blk X N' scope cl { s with heap:=s.heap.push ob } H (s.heap.objs.size::fp)).Ok:=by
 have J:Inv X pins σ H { s with heap:=s.heap.push ob }:=I.kept (t':=s.toks) λb o e=>AA3 _ e
 have ltc:∀z c,cl.lookup z=some c->c<s.heap.objs.size:=λz c e=>by
  obtain⟨v,q⟩:=I.cell z c (hcl1 z c e)
  exact q.lt
 have hC:(s.heap.push ob).objs.size=s.heap.objs.size+1:=ABL ..
 refine⟨I.ok.mod,B.kind,I.ok.glob,I.ok.blt,AAA _,λy z c h1 h2=>I.ok.inj y z c (hcl1 y c h1) (hcl1 z c h2),λy hy=>?_,λy c h=>?_,I.ok.hd,I.ok.frames,.inl rfl,λb hb=>?_,λb o e=>?_,?_,λb o e hb=>?_,λb hb=>?_,J.stack,I.stkFree⟩
 ·have key:scope.names.lookup y=some .free:=by
   rcases hy with hy | hy
   ·rcases dF (env:=X.env) (names:=scope.names) (x:=y) (k:=.cell) hy with q | ⟨_,q⟩
    ·exact absurd rfl (B.nocell _ (ABJ q))
    ·exact q
   ·rcases dF (env:=X.env) (names:=scope.names) (x:=y) (k:=.free) hy with q | ⟨q,_⟩
    ·exact q
    ·cases q
  exact hcl2 (y,.free) (ABJ key) rfl
 ·exact absurd rfl (B.nocell _ (ABJ (beq_iff_eq.mp (show (scope.names.lookup y==some ACL)=true from h))))
 ·show b≠(s.heap.push ob).objs.size/\∀x c,cl.lookup x=some c->c≠b
  rw[hC]
  rcases AAG.mp hb with rfl | hb
  ·exact⟨AAK (AC2 _),λx c e=>AAK (ltc x c e)⟩
  ·exact⟨AAK (ACD (hfs b hb)),λx c e=>(hf b hb).2.2.2.2.1 x c (hcl1 x c e)⟩
 ·exact⟨AA3 _ (I.bs b o e).1,(I.bs b o e).2⟩
 ·show X.base.objs.size<=(s.heap.push ob).objs.size
  rw[hC]
  exact Nat.le_succ_of_le (AB4 I.ok.bsz I.sz)
 ·rcases AAG.mp hb with rfl | hb
  ·exact absurd (AAF (I.bs _ o e).1) (AAW _)
  ·rcases(hf b hb).2.2.2.1 with z | z
   ·exact I.ok.noex b o e z
   ·exact absurd (AAP (AAF (I.ok.bs b o e).1) z) (AAW _)
 ·intro hz
  have hz':=I.stkSub b hz
  rcases AAG.mp hb with rfl | hb
  ·rcases AAG.mp hz' with q | q
   ·exact absurd I.lt (by rw[<-q];exact AAW _)
   ·exact I.nofs (AAA _) q
  ·rcases AAG.mp hz' with q | q
   ·exact(hf b hb).2.1 q
   ·exact(hf b hb).2.2.1 q
theorem Inv.blkStart(B:BlkSc X N' nt js scope)(I:Inv X pins σ H s)
  (hcl1:∀z c,cl.lookup z=some c->X.env.cells.lookup z=some c) (hcl2:∀p∈scope.names,p.2=ABD->∃c,cl.lookup p.1=some c) (hf:∀b∈fp,nY X pins H b) (hfs:∀b∈fp,b<s.heap.objs.size)
  (old:∀b o,(s.heap.push (bU [] 0)).get? b=some o->h1.get? b=some o) (hn:h1.Ns (s.heap.push (bU [] 0)).objs.size mm) :
  Inv (blk X N' scope cl { s with heap:=s.heap.push (bU [] 0) } H (s.heap.objs.size::fp)) [(s.heap.objs.size,bU [] 0)] (bst nt js σ) H { s with heap:=h1,toks:=tk }:=by
 have old2:∀b o,s.heap.get? b=some o->h1.get? b=some o:=λb o e=>old b o (AA3 _ e)
 have hC:(s.heap.push (bU [] 0)).objs.size=s.heap.objs.size+1:=ABL ..
 refine⟨I.blkOk B hcl1 hcl2 hf hfs,rfl,I.bare,Un.kept old,⟨mm,hn,λi x v e1 e2 e3=>?_⟩,λx c e=>?_,?_,λx c e=>I.freeC x c (hcl1 x c e),λp hp=>?_,I.hok.kept old2,?_⟩
 ·obtain⟨k,j,rfl,hj,hσ⟩:=BA e2
  obtain⟨x',n1,n2,lf,kf⟩:=B.fr k j hj
  have ex:x=x':=AAM (e1.symm.trans n1)
  subst ex
  obtain⟨m2,hn2,hl2⟩:=I.loc
  have vis:Vis X.env.scope x:=kf.elim (λz=>.inr (.inl z)) λz=>.inr (.inr z)
  obtain⟨u,r,look⟩:=hl2 j x v n2 hσ vis
  refine⟨u,r,?_⟩
  rcases look with⟨q,_⟩|⟨q,c,hc,hcell⟩
  ·rcases kf with z | z<;>(rw[q]at z;cases z)
  ·obtain⟨c',hc'⟩:=hcl2 (x,.free) (ABJ lf) rfl
   have:c'=c:=AAM ((hcl1 x c' hc').symm.trans hc)
   subst this
   exact .inr ⟨gn (env:=X.env) lf,c',hc',hcell.keeps old2⟩
 ·obtain⟨v,q⟩:=I.cell x c (hcl1 x c e)
  exact⟨v,q.keeps old2⟩
 ·exact I.hok.fresh (by show s.heap.objs.size<=(s.heap.push (bU [] 0)).objs.size;rw[hC];exact Nat.le_succ _)
 ·have e:p=(s.heap.objs.size,bU [] 0):=by simpa [blk]using hp
  subst e
  refine⟨old _ _ (AAD _ rfl),I.hok.fresh (AAA _),?_,?_,λv z=>by cases z⟩
  ·show s.heap.objs.size≠(s.heap.push (bU [] 0)).objs.size
   rw[hC]
   exact AAK (AC2 _)
  ·intro hz
   rcases AAG.mp (I.stkSub _ hz)with q | q
   ·exact absurd I.lt (by rw[<-q];exact AAW _)
   ·exact I.nofs (AAA _) q
 ·rw[wy]
  exact B.len.symm
theorem Inv.blkEnd(I:Inv X pins σ H s)
  (hf:∀b∈fp,nY X pins H b)
  (I4:Inv (blk X N' scope cl { s with heap:=s.heap.push (bU [] 0) } H (s.heap.objs.size::fp)) [(s.heap.objs.size,bU its k)] τ H' s')
  (rv:ar vs its) (hl:vs.length<=sizeLine) (sb:ABA (s.heap.push (bU [] 0)).objs.size s'.heap h') :
  Inv X pins σ (upd H' s.heap.objs.size (.lst vs)) { s' with heap:=h' }:=by
 have hC:(s.heap.push (bU [] 0)).objs.size=s.heap.objs.size+1:=ABL ..
 have hDC:s.heap.objs.size≠(s.heap.push (bU [] 0)).objs.size:=by rw[hC];exact AAK (AC2 _)
 obtain⟨oD,fD,_⟩:=I4.pin (s.heap.objs.size,bU its k) (by simp[blk])
 have oD':s'.heap.get? s.heap.objs.size=some (bU its k):=oD
 have fD':H' s.heap.objs.size=none:=fD
 have fC:H' (s.heap.push (bU [] 0)).objs.size=none:=I4.free
 have u:Un (frs X.stack) (s.heap.objs.size::fp) H H' (s.heap.push (bU [] 0)) s'.heap:=I4.base
 have ne:∀b o,s.heap.get? b=some o->b≠s.heap.objs.size/\b≠(s.heap.push (bU [] 0)).objs.size:=λb o e=>by
  have:=AAF e
  exact⟨AAK this,by rw[hC];exact AAK (ACD this)⟩
 have up:∀b o,s.heap.get? b=some o->(s.heap.push (bU [] 0)).get? b=some o:=λb o e=>AA3 _ e
 have nx:∀b o,s.heap.get? b=some o->b∉fp->b∉s.heap.objs.size::fp:=λb o e hx hz=>by
  rcases AAG.mp hz with q | q
  ·exact(ne b o e).1 q
  ·exact hx q
 refine I.call' (s':={ s' with heap:=h' }) (ch:=fp) I4.os ⟨λb o e n hb hx=>?_,λb o e n hb hx=>?_,λb o e n hx=>?_,λb o e hx=>?_,λb xs e=>?_,λb o w e=>?_,λb ps e=>?_⟩ (λb w q=>?_) I4.bare λb hb=>?_
 ·exact(sb.2 b (ne b o e).2).trans (u.keep b o (up b o e) n hb (nx b o e hx))
 ·obtain⟨sl,z⟩:=u.slot b o (up b o e) n hb (nx b o e hx)
  exact⟨sl,(sb.2 b (ne b o e).2).trans z⟩
 ·rw[ak (ne b o e).1]
  exact u.free b o (up b o e) n (nx b o e hx)
 ·obtain⟨o',z⟩:=u.there b o (up b o e) (nx b o e hx)
  exact⟨o',(sb.2 b (ne b o e).2).trans z⟩
 ·have z:=u.tups b xs e
  rw[ak (ac z fD')]
  exact z
 ·have z:=u.frzs b o w e
  rw[ak (ac z fD')]
  exact z
 ·obtain⟨more,z⟩:=u.tbls b ps e
  exact⟨more,by rw[ak (ac z fD')];exact z⟩
 ·by_cases hb:b=s.heap.objs.size
  ·subst hb
   rw[ay]at q
   cases q
   exact⟨hl,its,k,rv,(sb.2 _ hDC).trans oD'⟩
  ·rw[ak hb]at q
   refine(I4.hok b w q).stay (λc v hc r=>(sb.2 c ?_).trans r) (λc z=>by rw[ak (ac z fD')];exact z) λc xs z=>by rw[ak (ac z fD')];exact z
   rcases hc with rfl | hc
   ·exact ac q fC
   ·exact ac hc fC
 ·obtain⟨_,f1,_,f3,f4,f5⟩:=hf b hb
  exact⟨f3,f1,f4,f5⟩
theorem va{elt tg iter:Expr}{ifs:List Expr}{scope:Scope}{pos:Pos}{N':List Str}{cl:List (Str×Addr)}{J:It}{fp:List Addr}{it:Addr}{tn:Nat->Heap->Prop}{g:TG}{tt:TT}{te:TE}{Q:VK}
  {W:Nat->Nat->List V->St->Hp->Prop}{R:Result->Shared->Prop}{s0:Shared}{H0:Hp}{D:Addr} (TX:TurnX (blk X N' scope cl s0 H0 (D::fp)) tg J fp it tn)
  (hg:PG (blk X N' scope cl s0 H0 (D::fp)) tg g) (ht:PTs (blk X N' scope cl s0 H0 (D::fp)) ifs tt) (he:PE (blk X N' scope cl s0 H0 (D::fp)) elt te)
  (T:Turn X.prog X.w X.K tg J fp it tn) (hDf:D∉fp)
  (turn:∀i m vs τ H,W i m vs τ H->(J.stop i H/\∀p,H p=none->Q (.ref p) (upd H p (.lst vs))) \/
   (J.go i H/\∀x H',J.yld i H x H'->g x τ H' λτ2 H2=>tt τ2 H2 λb H3=>if b=true then te τ2 H3 λy H4=>vs.length<sizeLine/\∃m',m' < m/\W (i+1) m' (vs++[y]) τ2 H4 else ∃m',m' < m/\W (i+1) m' vs τ2 H3))
  (hstat:∀b∈fp,b≠s0.heap.objs.size/\b∉frs X.stack/\∀x c,cl.lookup x=some c->c≠b) (hDC:D≠s0.heap.objs.size) (hDs:D∉frs X.stack) (hDc:∀x c,cl.lookup x=some c->c≠D)
  (fin:∀τ H' s' vs its k,Inv (blk X N' scope cl s0 H0 (D::fp)) [(D,bU its k)] τ H' s'->ar vs its->vs.length<=sizeLine->Q (.ref D) (upd H' D (.lst vs))->R (.ok .next) s')
  (m0:Nat) {τ0:St}{s3:Shared}{H3:Hp} (I3:Inv (blk X N' scope cl s0 H0 (D::fp)) [(D,bU [] 0)] τ0 H3 s3) (st3:tn 0 s3.heap) (fr3:∀b∈fp,H3 b=none) (w0:W 0 m0 [] τ0 H3) :
  codeAny (model X.prog X.w) X.A (.compLoop (.ListComp elt [⟨tg,iter,ifs,0⟩] scope pos) 0 (.ref it) (.ref D) (compEnvC scope cl s0.heap.objs.size X.env)) R s3:=by
 have fok:∀{ob:Obj}{H':Hp},(∀b∈fp,H' b=none)->∀b∈fp,nY (blk X N' scope cl s0 H0 (D::fp)) [(D,ob)] H' b:=λ{ob H'} hn b hb=>by
  obtain⟨a1,a2,a3⟩:=hstat b hb
  refine⟨hn b hb,a1,a2,.inl (AA9 _ hb),a3,λp hp z=>?_⟩
  have e:p=(D,ob):=by simpa [blk]using hp
  subst e
  exact hDf (by rw[show D=b from z];exact hb)
 refine sJ (λn s'=>∃i τ H' vs its k,Inv (blk X N' scope cl s0 H0 (D::fp)) [(D,bU its k)] τ H' s'/\tn i s'.heap/\(∀b∈fp,H' b=none)/\ar vs its/\vs.length<=sizeLine/\W i n vs τ H')
  (λ_ _=>False) (λ_ _ z=>z.elim) ?_ m0 ⟨0,τ0,H3,[],[],0,I3,st3,fr3,.nil,AAX _,w0⟩
 rintro n s' ⟨i,τ,H',vs,its,k,I',st',fr',rv,hl,w'⟩
 rcases turn i n vs τ H' w' with⟨stop,q⟩|⟨go,step⟩
 ·refine thn (TX.done i _ s' τ H' (λ_ _=>False) I' (fok fr') st' stop) ?_
  rintro r s4 ⟨hr,I4⟩
  subst hr
  exact fin τ H' s4 vs its k I4 rv hl (q D (I'.pin (D,bU its k) (by simp[blk])).2.1)
 ·refine thn (TX.item i _ s' τ H' (λ_ _=>False) I' (fok fr') st' go) ?_
  rintro r s4 ⟨u,hr,h4⟩
  subst hr
  refine thn h4 ?_
  rintro _ s5 ⟨x,H5,I5,r5,y5,st5,fr5⟩
  have I5':=I5.pinned (fok fr5) (T.obj _ _ st5)
  refine thn (hg _ s5 τ H5 x u _ I5' r5 (step x H5 y5)) ?_
  rintro _ s6 ⟨τ6,H6,I6,q6⟩
  refine thn (ht _ s6 τ6 H6 _ I6 q6) ?_
  rintro ok s7 ⟨H7,I7,q7⟩
  have memF:∀{b:Addr}{o:Obj},b∈fp->s5.heap.get? b=some o->(b,o)∈(blk X N' scope cl s0 H0 (D::fp)).pn++([(D,bU its k)]++fq fp s5.heap):=λhb e=>AAI _ (AAI _ (dW hb e))
  cases ok with
  | false =>
   obtain⟨m',hm,w7⟩:=(show ∃m',m' < n/\W (i+1) m' vs τ6 H7 from q7)
   refine⟨m',hm,i+1,τ6,H7,vs,its,k,I7.unpinned,T.keep _ _ _ st5 λb hb o e=>(I7.pin (b,o) (memF hb e)).1,λb hb=>?_,rv,hl,w7⟩
   obtain⟨o,e,_⟩:=T.obj _ _ st5 b hb
   exact(I7.pin (b,o) (memF hb e)).2.1
  | true =>
   refine thn (he _ s7 τ6 H7 _ I7 q7) ?_
   rintro yv s8 ⟨y,H8,I8,r8,q8⟩
   obtain⟨hsz,m',hm,w8⟩:=q8
   obtain⟨oD,fD,_⟩:=I8.pin (D,bU its k) (AAI _ (AAi _ (by simp)))
   have fD':H8 D=none:=fD
   refine append_at (its:=its.toArray) (n:=k) oD (λh9 sb9 o9=>?_) (by rw[AAC,<-rv.length];exact hl)
   have J8:Inv (blk X N' scope cl s0 H0 (D::fp)) (fq fp s5.heap) τ6 H8 s8:=I8.pins_of λp hp=>I8.pin p (AAI _ (AAI _ hp))
   have J9:Inv (blk X N' scope cl s0 H0 (D::fp)) (fq fp s5.heap) τ6 H8 { s8 with heap:=h9 }:=J8.turned (t':=s8.toks) (it:=D) (λb o hb e=>(sb9.2 b hb).trans e) fD' hDC (.inl AAE) hDc λp hp z=>by
    have hp':p∈fq fp s5.heap:=by simpa [blk]using hp
    exact hDf (by rw[<-z];exact(mV hp').1)
   have memG:∀{b:Addr}{o:Obj},b∈fp->s5.heap.get? b=some o->(b,o)∈(blk X N' scope cl s0 H0 (D::fp)).pn++fq fp s5.heap:=λhb e=>AAI _ (dW hb e)
   refine⟨m',hm,i+1,τ6,H8,vs++[y],its++[yv],k+1,J9.pins_of λp hp=>?_,T.keep _ _ _ st5 λb hb o e=>(J9.pin (b,o) (memG hb e)).1,λb hb=>?_,rv.append (.cons r8 .nil),?_,w8⟩
   ·have e:p=(D,bU (its++[yv]) (k+1)):=by simpa using hp
    subst e
    refine⟨?_,fD',hDC,hDs,λv z=>by cases z⟩
    rw[show bU (its++[yv]) (k+1)=({ cls:=.type "list",data:=.seq (its.toArray.push yv) (k+1) }:Obj) by rw[List.push_toArray]]
    exact o9
   ·obtain⟨o,e,_⟩:=T.obj _ _ st5 b hb
    exact(J9.pin (b,o) (memG hb e)).2.1
   ·rw[AAH]
    exact hsz
def PIG(X:Cx)(PP:It->List Addr->Addr->(Nat->Heap->Prop)->Prop)(iter:Expr)(wi:TI):Prop :=
 ∀(pins:List (Addr×Obj)) (s:Shared) (σ:St) (H:Hp) (R:It->Hp->Prop),Inv X pins σ H s->wi σ H R ->
  wpAny (model X.prog X.w) X.A (eval iter X.env) (λv s1=>wpAny (model X.prog X.w) X.A (pyIter v) (λitv s2=>∃it fp tn J H',itv=.ref it/\Inv X pins σ H' s2/\PP J fp it tn/\tn 0 s2.heap/\(∀b∈fp,nY X pins H' b)/\R J H') X.xe s1) X.xe s
theorem CG(B:BlkSc X N' nt js scope)(hc:∀J fp it tn,PP J fp it tn->Turn X.prog X.w X.K tg J fp it tn/\∀pins σ H s cl s0 ex,Inv X pins σ H s->TurnX (blk X N' scope cl s0 H ex) tg J fp it tn)(hi:PIG X PP iter wi)
  (hg:∀cl s0 H0 ex,PG (blk X N' scope cl s0 H0 ex) tg g) (ht:∀cl s0 H0 ex,PTs (blk X N' scope cl s0 H0 ex) ifs tt) (he:∀cl s0 H0 ex,PE (blk X N' scope cl s0 H0 ex) elt te)
  (hs:∀x,foldedSetIterable iter X.env x=pure x:=by intro _;rfl):PE X (.ListComp elt [⟨tg,iter,ifs,0⟩] scope pos) (tLC nt js wi g tt te):=by
 intro pins s σ H Q I h
 rw[eval_ListComp]
 obtain⟨cl,ecl,hcl1,hcl2⟩:=gz (scope:=scope) (env:=X.env) λp hp hf=>I.ok.has p.1 (B.free p hp hf)
 refine wpAny_comprehension_free (use:=none) rfl hs ecl B.kind B.loc ?_
 refine thn (hi pins s σ H _ I h) λv s1 h1=>thn h1 λitv s2 h2=>?_
 obtain⟨it,fp,tn,J,H2,e,I2,T,st2,f2,W,⟨m0,w0⟩,turn⟩:=h2
 obtain⟨T,TX⟩:=hc _ _ _ _ T
 subst e
 refine AAh (wpAny_newFunctionEnv B.nocell (by intro y hy;simp at hy) (λh1 hns1 hsb1=>?_) B.kind)
 have hfs:∀b∈fp,b<s2.heap.objs.size:=λb hb=>by
  obtain⟨o,e,_⟩:=T.obj _ _ st2 b hb
  exact AAF e
 have hC:(s2.heap.push (bU [] 0)).objs.size=s2.heap.objs.size+1:=ABL ..
 have old:∀b o,(s2.heap.push (bU [] 0)).get? b=some o->h1.get? b=some o:=λb o e=>(hsb1.2 b (AAK (AAF e))).trans (AA3 _ e)
 have I3:=I2.blkStart (tk:=s2.toks+([]:List (Str×Value)).length) B hcl1 hcl2 f2 hfs old hns1
 have st3:tn 0 h1:=T.keep _ _ _ st2 λb _ o e=>old b o (AA3 _ e)
 have hDf:s2.heap.objs.size∉fp:=λz=>AAW _ (hfs _ z)
 have hDs:s2.heap.objs.size∉frs X.stack:=λz=>by
  rcases AAG.mp (I2.stkSub _ z)with q | q
  ·exact absurd I2.lt (by rw[<-q];exact AAW _)
  ·exact I2.nofs (AAA _) q
 have hDC:s2.heap.objs.size≠(s2.heap.push (bU [] 0)).objs.size:=by rw[hC];exact AAK (AC2 _)
 have ltc:∀z c,cl.lookup z=some c->c<s2.heap.objs.size:=λz c e=>by
  obtain⟨v,q⟩:=I2.cell z c (hcl1 z c e)
  exact q.lt
 have hstat:∀b∈fp,b≠(s2.heap.push (bU [] 0)).objs.size/\b∉frs X.stack/\∀x c,cl.lookup x=some c->c≠b:=λb hb=>by
  refine⟨by rw[hC];exact AAK (ACD (hfs b hb)),λz=>?_,λx c e=>(f2 b hb).2.2.2.2.1 x c (hcl1 x c e)⟩
  rcases AAG.mp (I2.stkSub b z)with q | q
  ·exact(f2 b hb).2.1 q
  ·exact(f2 b hb).2.2.1 q
 have loop:codeAny (model X.prog X.w) X.A (.compLoop (.ListComp elt [⟨tg,iter,ifs,0⟩] scope pos) 0 (.ref it) (.ref s2.heap.objs.size) (compEnvC scope cl (s2.heap.push (bU [] 0)).objs.size X.env))
   (compPost (model X.prog X.w) X.A X.xe none (EP X pins σ Q) (.ref s2.heap.objs.size) (s2.heap.push (bU [] 0)).objs.size) { s2 with heap:=h1,toks:=s2.toks+([]:List (Str×Value)).length }:=by
  refine va (s0:={ s2 with heap:=s2.heap.push (bU [] 0) }) (H0:=H2) (N':=N') (Q:=Q) (TX _ _ _ _ _ _ _ I2) (hg _ _ _ _) (ht _ _ _ _) (he _ _ _ _) T hDf turn hstat hDC hDs (λx c e=>AAK (ltc x c e)) ?_ m0 I3 st3 (λb hb=>(f2 b hb).1) w0
  intro τ H' s' vs its k I4 rv hl q
  obtain⟨mm,hn,_⟩:=id I4.loc
  exact⟨mm,hn,λh' sb=>⟨.ref s2.heap.objs.size,_,I2.blkEnd f2 I4 rv hl sb,rfl,q⟩⟩
 exact codeAny_compStart_list loop (T.self _ 0 _ _ _ st3 loop)
theorem pe_lc{elt tg iter:Expr}{ifs:List Expr}{scope:Scope}{pos:Pos}{N':List Str}{nt:Nat}{js:List Nat}{wi:TI}{g:TG}{tt:TT}{te:TE}(B:BlkSc X N' nt js scope)(hc:X.calm=true)(hi:PI X tg iter wi)
  (hg:∀cl s0 H0 ex,PG (blk X N' scope cl s0 H0 ex) tg g) (ht:∀cl s0 H0 ex,PTs (blk X N' scope cl s0 H0 ex) ifs tt) (he:∀cl s0 H0 ex,PE (blk X N' scope cl s0 H0 ex) elt te)
  (hs:∀x,foldedSetIterable iter X.env x=pure x:=by intro _;rfl):PE X (.ListComp elt [⟨tg,iter,ifs,0⟩] scope pos) (tLC nt js wi g tt te) :=
 CG B (λJ fp it tn (T:Turn X.prog X.w X.K tg J fp it tn)=>⟨T,λ_ _ _ _ cl s0 ex _=>Turn.at T hc⟩)
  (λpins s σ H R I q=>thn (hi pins s σ H R I q) λv s1 h1=>thn h1 λitv s2 ⟨it,fp,tn,J,H',f0,f1,f2,f3,f4,f5⟩=>⟨it,fp,tn,J,H',f0,f1,f2,f3,f4,f5⟩) hg ht he hs
section
inductive D where
 | non | bl (b:Bool) | int (i:Int) | str (x:Str) | ty (n:String) | tup (ds:List D) | ref (n:Nat)
inductive MO where
 | lst (xs:List D)
 | fz (xs:List D)
 | kl (xs:List D)
 | dct (kvs:List (Str×D))
 | dkt (kvs:List (D×D))
 | dkq (e:Nat) (kvs:List (D×D))
 | dkm (kvs:List (D×D))
 | fdc (o:Obj) (kvs:List (Str×D))
 | tb (x:Str) (b:Bool)
 | exc (x:Str) (e:Addr)
 | ins (c:Str) (fs:List (Str×D))
 | tl (x:Str) (p:Pos) (q:Str) (e:Addr)
noncomputable abbrev Mem:=List MO
noncomputable def MO.isL:MO->Bool
 | .dct _=>false
 | .dkt _=>false
 | .dkq _ _=>false
 | .fdc _ _=>false
 | .dkm _=>false
 | .tb _ _=>false
 | .exc _ _=>false
 | .ins _ _=>false
 | .tl _ _ _ _=>false
 | _=>true
noncomputable def jx(ks:List Str)(vs:List V):List (Key×V):=(ks.zip vs).map λp=>(ABn p.1,p.2)
mutual
inductive Rep(K:AA2)(ρ:List Addr)(H:Hp):D->V->Prop
 | non:Rep K ρ H .non .non
 | bl (b:Bool):Rep K ρ H (.bl b) (.bl b)
 | int (i:Int):Rep K ρ H (.int i) (.int i)
 | str (x:Str):Rep K ρ H (.str x) (.str x)
 | ty (n:String):Rep K ρ H (.ty n) (.ty n)
 | tup {a:Addr}{vs:List V}{ds:List D} (h:SqT K H a vs) (r:Reps K ρ H ds vs):Rep K ρ H (.tup ds) (.ref a)
 | ref {n:Nat}{a:Addr} (h:ρ[n]?=some a):Rep K ρ H (.ref n) (.ref a)
inductive Reps(K:AA2)(ρ:List Addr)(H:Hp):List D->List V->Prop
 | nil:Reps K ρ H [] []
 | cons {d:D}{v:V}{ds:List D}{vs:List V} (h:Rep K ρ H d v) (t:Reps K ρ H ds vs):Reps K ρ H (d::ds) (v::vs)
end
def KList(K:AA2)(a:Addr)(xs:List V):Prop :=
 ∃(o:Obj) (its:Array Value) (n:Nat),K.lookup a=some o/\o.cls=.type "list"/\o.dict=none/\o.data=.seq its n/\its.size<=sizeLine/\ar xs its.toList
noncomputable def hV:Nat->D->Bool
 | _,.str _=>true
 | _,.int _=>true
 | n+1,.tup ds=>ds.all (hV n)
 | _,_=>false
noncomputable def hkD(w:World):Nat->D->Int
 | _,.str x=>hashStr w x
 | _,.int i=>hashInt i
 | n+1,.tup ds=>reduceHash (AC6 (ds.map (hkD w n)))
 | _,_=>0
def dX(a:Addr)(xs:List (D×Addr×Value)):Program->World->Heap->Prop:=λ_ w h =>
 ∃(o:Obj) (es:Array DictEntry),h.get? a=some o/\o.ExactDict/\o.data=.dict es xs.length/\es.toList=xs.map λx=>⟨hkD w 8 x.1,.ref x.2.1,x.2.2⟩
def dQ(a:Addr)(e:Nat)(xs:List (D×Addr×Value)):Program->World->Heap->Prop:=λ_ w h =>
 ∃(o:Obj) (es:Array DictEntry),h.get? a=some o/\o.ExactDict/\o.data=.dict es e/\es.toList=xs.map λx=>⟨hkD w 8 x.1,.ref x.2.1,x.2.2⟩
noncomputable def keyM:D->Bool
 | .non=>true
 | .tup ks=>hV 8 (.tup ks)
 | _=>false
noncomputable def hkM(w:World):D->Int
 | .non=>reduceHash 0xFCA86420
 | d=>hkD w 8 d
noncomputable def entM(hs:D->Int)(x:D×Value×Value):DictEntry:=⟨hs x.1,x.2.1,x.2.2⟩
def dM(a:Addr)(xs:List (D×Value×Value)):Program->World->Heap->Prop:=λ_ w h =>
 ∃(o:Obj) (es:Array DictEntry),h.get? a=some o/\o.ExactDict/\o.data=.dict es xs.length/\es.toList=xs.map (entM (hkM w))
def KvM(K:AA2)(ρ:List Addr)(H:Hp)(p:D×D)(q:D×Value×Value):Prop:=p.1=q.1/\keyM p.1=true/\(∃u,Rep K ρ H p.1 u/\aK u q.2.1)/\∃v,Rep K ρ H p.2 v/\aK v q.2.2
def om(K:AA2)(ρ:List Addr)(H:Hp)(p:D×D)(q:D×Addr×Value):Prop:=p.1=q.1/\hV 8 p.1=true/\Rep K ρ H p.1 (.ref q.2.1)/\∃v,Rep K ρ H p.2 v/\aK v q.2.2
def IsX(o:Obj)(C:Value):Prop:=o.cls=C/\∃vs,o.data=.fields vs/\vs[2]?=some .none
def sO(K:AA2)(ρ:List Addr)(H:Hp)(a:Addr):MO->Prop
 | .lst ds=>∃vs,H a=some (.lst vs)/\Reps K ρ H ds vs
 | .fz ds=>∃o vs,H a=some (.frz o (.lst vs))/\Reps K ρ H ds vs
 | .kl ds=>∃vs,KList K a vs/\Reps K ρ H ds vs
 | .dct kvs=>∃vs,H a=some (.dK (jx (kvs.map (·.1)) vs))/\Reps K ρ H (kvs.map (·.2)) vs
 | .dkt kvs=>kvs.length<=sizeLine/\(a==sysModules)=false/\(kvs.map (·.1)).Nodup/\∃xs,H a=some (.ext (dX a xs))/\Paired (om K ρ H) kvs xs
 | .dkq e kvs=>kvs.length<=sizeLine/\(a==sysModules)=false/\(kvs.map (·.1)).Nodup/\∃xs,H a=some (.ext (dQ a e xs))/\Paired (om K ρ H) kvs xs
 | .dkm kvs=>kvs.length<=sizeLine/\(a==sysModules)=false/\(kvs.map (·.1)).Nodup/\∃xs,H a=some (.ext (dM a xs))/\Paired (KvM K ρ H) kvs xs
 | .fdc o kvs=>∃vs,H a=some (.frz o (.dK (jx (kvs.map (·.1)) vs)))/\Reps K ρ H (kvs.map (·.2)) vs
 | .tb x b=>(∃c,PySem.W.tabIn K x=some (c,a)/\∀h:Heap,K.In h->PySem.W.CodeHd h c a)/\∃ps,H a=some (.tbl ps)/\(b=false->ps = #[])
 | .exc x e=>e=a/\∃C o,AC3 K mainGlobals x=some (some (.ref C))/\IsX o (.ref C)/\H a=some (.frz o (.own a))
 | .ins c fs=>∃C dx vs,AC3 K mainGlobals c=some (some (.ref C))/\H a=some (.ins C dx ((fs.map (·.1)).zip vs))/\Reps K ρ H (fs.map (·.2)) vs
 | .tl x p q e=>(∃c,PySem.W.tabIn K x=some (c,a)/\∀h:Heap,K.In h->PySem.W.CodeHd h c a)/\∃o vs t,H a=some (.tbl #[rawInt p.line,rawInt p.col,.ref e])/\H e=some (.frz o (.own e))/\o.data=.fields vs/\vs[1]?=some (.str q t)
def isK(mo:Option MO):Prop:=∃ds,mo=some (.kl ds)
def aq(M:Mem)(n:Nat)(xs:List D):Prop:=M[n]?=some (.lst xs)\/M[n]?=some (.fz xs)\/M[n]?=some (.kl xs)
structure Sim(K:AA2)(ρ:List Addr)(M:Mem)(H:Hp):Prop where
 nd:∀(n m:Nat) (a:Addr),n≠m->ρ[n]?=some a->ρ[m]?=some a->isK M[n]?\/isK M[m]?
 len:ρ.length=M.length
 obj:∀(n:Nat) (a:Addr) (mo:MO),ρ[n]?=some a->M[n]?=some mo->sO K ρ H a mo
structure Grow(K:AA2)(ρ:List Addr)(H:Hp)(ρ':List Addr)(H':Hp):Prop where
 pre:ρ <+: ρ'
 tup:∀a xs,SqT K H a xs->SqT K H' a xs
 fr:∀a o,H a=some (.frz o (.own a))->H' a=some (.frz o (.own a))
theorem Grow.refl{K:AA2}{ρ:List Addr}{H:Hp}:Grow K ρ H ρ H:=⟨ACV,λ_ _ h=>h,λ_ _ h=>h⟩
theorem Grow.trans{K:AA2}{ρ ρ1 ρ2:List Addr}{H H1 H2:Hp}(a:Grow K ρ H ρ1 H1)(b:Grow K ρ1 H1 ρ2 H2):Grow K ρ H ρ2 H2:=⟨a.pre.trans b.pre,λx xs h=>b.tup x xs (a.tup x xs h),λx o h=>b.fr x o (a.fr x o h)⟩
theorem av{α:Type}{l l':List α}(h:l <+: l'){n:Nat}{a:α}(e:l[n]?=some a):l'[n]?=some a:=by
 obtain⟨t,rfl⟩:=h
 rw[AAL (AA7.mp e).1]
 exact e
theorem Rep.grow{K:AA2}{ρ ρ':List Addr}{H H':Hp}(g:Grow K ρ H ρ' H'){d:D}{v:V}(h:Rep K ρ H d v):Rep K ρ' H' d v :=
 Rep.rec (motive_1:=λd v _=>Rep K ρ' H' d v) (motive_2:=λds vs _=>Reps K ρ' H' ds vs) .non .bl .int .str .ty (λh _ r=>.tup (g.tup _ _ h) r) (λh=>.ref (av g.pre h)) .nil (λ_ _ h t=>.cons h t) h
theorem Reps.grow{K:AA2}{ρ ρ':List Addr}{H H':Hp}(g:Grow K ρ H ρ' H'){ds:List D}{vs:List V}(h:Reps K ρ H ds vs):Reps K ρ' H' ds vs :=
 Reps.rec (motive_1:=λd v _=>Rep K ρ' H' d v) (motive_2:=λds vs _=>Reps K ρ' H' ds vs) .non .bl .int .str .ty (λh _ r=>.tup (g.tup _ _ h) r) (λh=>.ref (av g.pre h)) .nil (λ_ _ h t=>.cons h t) h
section
variable{K:AA2}{ρ ρ':List Addr}{H H':Hp}{M:Mem}
theorem Reps.length(h:Reps K ρ H ds vs):ds.length=vs.length :=
 Reps.rec (motive_1:=λ_ _ _=>True) (motive_2:=λds vs _=>ds.length=vs.length) trivial (λ_=>trivial) (λ_=>trivial) (λ_=>trivial) (λ_=>trivial) (λ_ _ _=>trivial) (λ_=>trivial) rfl (λ_ _ _ t=>congrArg Nat.succ t) h
theorem Reps.append(h:Reps K ρ H ds vs)(s:Reps K ρ H es ws):Reps K ρ H (ds++es) (vs++ws) :=
 Reps.rec (motive_1:=λ_ _ _=>True) (motive_2:=λds vs _=>Reps K ρ H (ds++es) (vs++ws)) trivial (λ_=>trivial) (λ_=>trivial) (λ_=>trivial) (λ_=>trivial) (λ_ _ _=>trivial) (λ_=>trivial) s (λh _ _ t=>.cons h t) h
theorem Reps.get:∀{ds:List D}{vs:List V}{i:Nat}{d:D},Reps K ρ H ds vs->ds[i]?=some d->∃v,vs[i]?=some v/\Rep K ρ H d v
 | _,_,_,_,.nil,e=>by simp at e
 | _,_,0,_,.cons r _,e=>by simp at e;subst e;exact⟨_,rfl,r⟩
 | _,_,i+1,d,.cons _ t,e=>by
  obtain⟨v,h1,h2⟩:=Reps.get (i:=i) (d:=d) t (by simpa using e)
  exact⟨v,by simpa using h1,h2⟩
theorem Reps.getV:∀{ds:List D}{vs:List V}{i:Nat}{v:V},Reps K ρ H ds vs->vs[i]?=some v->∃d,ds[i]?=some d/\Rep K ρ H d v
 | _,_,_,_,.nil,e=>by simp at e
 | _,_,0,_,.cons r _,e=>by simp at e;subst e;exact⟨_,rfl,r⟩
 | _,_,i+1,d,.cons _ t,e=>by
  obtain⟨v,h1,h2⟩:=Reps.getV (i:=i) (v:=d) t (by simpa using e)
  exact⟨v,by simpa using h1,h2⟩
theorem Reps.take:∀{ds:List D}{vs:List V} (n:Nat),Reps K ρ H ds vs->Reps K ρ H (ds.take n) (vs.take n)
 | _,_,0,_=>by simpa using .nil
 | _,_,_+1,.nil=>.nil
 | _,_,n+1,.cons r t=>.cons r (Reps.take n t)
theorem Reps.drop:∀{ds:List D}{vs:List V} (n:Nat),Reps K ρ H ds vs->Reps K ρ H (ds.drop n) (vs.drop n)
 | _,_,0,r=>r
 | _,_,_+1,.nil=>.nil
 | _,_,n+1,.cons _ t=>Reps.drop n t
theorem SqT.laid(hp:H p=none)(h:SqT K H a xs):SqT K (upd H p o) a xs:=by
 rcases h with h | h
 ·rcases h with h | ⟨ob,h⟩
  ·exact .inl (.inl (by rw[ak (ac h hp)];exact h))
  ·exact .inl (.inr ⟨ob,by rw[ak (ac h hp)];exact h⟩)
 ·exact .inr h
noncomputable def HO.noT:HO->Bool
 | .tup _=>false
 | .frz _ _=>false
 | _=>true
theorem SqT.written(hp:H p=some o')(nt:o'.noT=true)(h:SqT K H a xs):SqT K (upd H p o) a xs:=by
 have ne:∀u,u.noT=false->H a=some u->a≠p:=λu q e z=>by rw[z,hp]at e;cases e;rw[nt]at q;cases q
 rcases h with h | h
 ·rcases h with h | ⟨ob,h⟩
  ·exact .inl (.inl (by rw[ak (ne _ rfl h)];exact h))
  ·exact .inl (.inr ⟨ob,by rw[ak (ne _ rfl h)];exact h⟩)
 ·exact .inr h
theorem Grow.laid(hp:H p=none):Grow K ρ H ρ (upd H p o):=⟨ACV,λ_ _ h=>SqT.laid hp h,λ_ _ h=>(ak (ac h hp)).trans h⟩
theorem Grow.laidR(hp:H p=none):Grow K ρ H (ρ++[p]) (upd H p o):=⟨AAT _ _,λ_ _ h=>SqT.laid hp h,λ_ _ h=>(ak (ac h hp)).trans h⟩
theorem Sim.tracked(S:Sim K ρ M H){n:Nat}{a:Addr}(e:ρ[n]?=some a):(∃o,H a=some o)\/isK M[n]?:=by
 have hn:n<M.length:=by rw[<-S.len];exact(AA7.mp e).1
 have hm:M[n]?=some M[n]:=AA6 hn
 have h:=S.obj n a _ e hm
 rw[hm]
 cases hmo:M[n] with
 | lst ds=>rw[hmo]at h;obtain⟨vs,h,_⟩:=h;exact .inl ⟨_,h⟩
 | fz ds=>rw[hmo]at h;obtain⟨o,vs,h,_⟩:=h;exact .inl ⟨_,h⟩
 | kl ds=>exact .inr ⟨ds,rfl⟩
 | dct kvs=>rw[hmo]at h;obtain⟨vs,h,_⟩:=h;exact .inl ⟨_,h⟩
 | dkt kvs=>rw[hmo]at h;obtain⟨_,_,_,xs,h,_⟩:=h;exact .inl ⟨_,h⟩
 | dkq _ kvs=>rw[hmo]at h;obtain⟨_,_,_,xs,h,_⟩:=h;exact .inl ⟨_,h⟩
 | fdc o kvs=>rw[hmo]at h;obtain⟨vs,h,_⟩:=h;exact .inl ⟨_,h⟩
 | dkm kvs=>rw[hmo]at h;obtain⟨_,_,_,xs,h,_⟩:=h;exact .inl ⟨_,h⟩
 | tb x b=>rw[hmo]at h;obtain⟨_,ps,h,_⟩:=h;exact .inl ⟨_,h⟩
 | exc x e=>rw[hmo]at h;obtain⟨_,_,_,_,_,h⟩:=h;exact .inl ⟨_,h⟩
 | ins c fs=>rw[hmo]at h;obtain⟨_,_,_,_,h,_⟩:=h;exact .inl ⟨_,h⟩
 | tl x p q e=>rw[hmo]at h;obtain⟨_,_,_,_,h,_⟩:=h;exact .inl ⟨_,h⟩
theorem sO.grow(g:Grow K ρ H ρ' H')(hs:H' a=H a\/isK (some mo))(h:sO K ρ H a mo):sO K ρ' H' a mo:=by
 by_cases z:isK (some mo)
 ·obtain⟨ds,z⟩:=z
  cases z
  obtain⟨vs,e,r⟩:=h
  exact⟨vs,e,r.grow g⟩
 have hh:=hs.resolve_right z
 clear hs
 have kv:∀{kvs:List (D×D)}{xs:List (D×Addr×Value)},Paired (om K ρ H) kvs xs->Paired (om K ρ' H') kvs xs:=λr=>Paired.mapP r λ_ _ ⟨q1,q2,q3,v,q4,q5⟩=>⟨q1,q2,q3.grow g,v,q4.grow g,q5⟩
 cases mo with
 | lst ds=>obtain⟨vs,e,r⟩:=h;exact⟨vs,hh.trans e,r.grow g⟩
 | fz ds=>obtain⟨o,vs,e,r⟩:=h;exact⟨o,vs,hh.trans e,r.grow g⟩
 | kl ds=>exact absurd ⟨ds,rfl⟩ z
 | dct kvs=>obtain⟨vs,e,r⟩:=h;exact⟨vs,hh.trans e,r.grow g⟩
 | dkt kvs=>obtain⟨h1,h2,h3,xs,e,r⟩:=h;exact⟨h1,h2,h3,xs,hh.trans e,kv r⟩
 | dkq _ kvs=>obtain⟨h1,h2,h3,xs,e,r⟩:=h;exact⟨h1,h2,h3,xs,hh.trans e,kv r⟩
 | dkm kvs=>obtain⟨h1,h2,h3,xs,e,r⟩:=h;exact⟨h1,h2,h3,xs,hh.trans e,Paired.mapP r λ_ _ ⟨q1,q2,⟨u,q3,q3'⟩,v,q4,q5⟩=>⟨q1,q2,⟨u,q3.grow g,q3'⟩,v,q4.grow g,q5⟩⟩
 | fdc o kvs=>obtain⟨vs,e,r⟩:=h;exact⟨vs,hh.trans e,r.grow g⟩
 | tb x b=>obtain⟨c,ps,e,q⟩:=h;exact⟨c,ps,hh.trans e,q⟩
 | exc x e=>obtain⟨h0,C,o,e,i,q⟩:=h;exact⟨h0,C,o,e,i,hh.trans q⟩
 | ins c fs=>obtain⟨C,dx,vs,n,e,r⟩:=h;exact⟨C,dx,vs,n,hh.trans e,r.grow g⟩
 | tl x p q e'=>obtain⟨c,o,vs,t,e,f,r⟩:=h;exact⟨c,o,vs,t,hh.trans e,g.fr _ _ f,r⟩
theorem Sim.keeps{p:Addr}{o:HO}(S:Sim K ρ M H)(hp:H p=none){n:Nat}{a:Addr}{mo:MO}(e1:ρ[n]?=some a)(e2:M[n]?=some mo):upd H p o a=H a\/isK (some mo):=by
 rcases S.tracked e1 with⟨ob,hob⟩ | q
 ·exact .inl (ak (ac hob hp))
 ·rw[e2]at q
  exact .inr q
theorem Sim.laid{p:Addr}{o:HO}(S:Sim K ρ M H)(hp:H p=none):Sim K ρ M (upd H p o) :=
 ⟨S.nd,S.len,λn a mo e1 e2=>(S.obj n a mo e1 e2).grow (Grow.laid hp) (S.keeps hp e1 e2)⟩
theorem bu{α:Type}{l:List α}{x y:α}{n:Nat}(h:(l++[x])[n]?=some y):l[n]?=some y\/(n=l.length/\y=x):=by
 by_cases hn:n<l.length
 ·rw[AAL hn]at h
  exact .inl h
 ·have hn':n=l.length:=by
   have:=(AA7.mp h).1
   rw[AAH,AAy]at this
   lia
  subst hn'
  rw[AAY (AAA _),AD3]at h
  simp at h
  exact .inr ⟨rfl,h.symm⟩
theorem isK.more{mo:MO}{n:Nat}(h:isK M[n]?):isK (M++[mo])[n]?:=by
 obtain⟨ds,e⟩:=h
 exact⟨ds,by rw[AAL (AA7.mp e).1];exact e⟩
theorem Sim.laidM(S:Sim K ρ M H)(hp:H p=none)(ok:sO K (ρ++[p]) (upd H p o) p mo):Sim K (ρ++[p]) (M++[mo]) (upd H p o):=by
 have g:Grow K ρ H (ρ++[p]) (upd H p o):=Grow.laidR hp
 have old:∀(n:Nat),ρ[n]?=some p->isK M[n]?:=λn e=>by
  rcases S.tracked e with⟨o,q⟩ | q
  ·rw[hp]at q;cases q
  ·exact q
 refine⟨λn m a hnm e1 e2=>?_,by rw[AAH,AAH,S.len];rfl,λn a mo' e1 e2=>?_⟩
 ·rcases bu e1 with f1 | ⟨f1,g1⟩
  ·rcases bu e2 with f2 | ⟨f2,g2⟩
   ·exact(S.nd n m a hnm f1 f2).elim (λz=>.inl z.more) λz=>.inr z.more
   ·subst g2
    exact .inl (old n f1).more
  ·rcases bu e2 with f2 | ⟨f2,g2⟩
   ·subst g1
    exact .inr (old m f2).more
   ·exact absurd (f1.trans f2.symm) hnm
 ·rcases bu e1 with f1 | ⟨f1,g1⟩
  ·have hn:n<M.length:=by rw[<-S.len];exact(AA7.mp f1).1
   rw[AAL hn]at e2
   exact(S.obj n a mo' f1 e2).grow g (S.keeps hp f1 e2)
  ·subst g1 f1
   rw[S.len,AAY (AAA _),AD3]at e2
   simp at e2
   subst e2
   exact ok
theorem Sim.laidL{p:Addr}{ds:List D}{vs:List V}(S:Sim K ρ M H)(hp:H p=none)(r:Reps K ρ H ds vs):Sim K (ρ++[p]) (M++[.lst ds]) (upd H p (.lst vs)):=
 S.laidM hp ⟨vs,ay,r.grow (Grow.laidR hp)⟩
theorem Sim.last(S:Sim K ρ M H):(ρ++[p])[M.length]?=some p:=by
 rw[<-S.len,AAY (AAA _),AD3]
 rfl
theorem Sim.writeG(S:Sim K ρ M H)(e1:ρ[n]?=some a)(notK:¬isK M[n]?)(hH:H a=some o')(nt:o'.noT=true)(ok:Grow K ρ H ρ (upd H a o)->sO K ρ (upd H a o) a mo) :
  Sim K ρ (M.set n mo) (upd H a o)/\Grow K ρ H ρ (upd H a o):=by
 have g:Grow K ρ H ρ (upd H a o):=⟨ACV,λ_ _ h=>SqT.written hH nt h,λb _ h=>(ak λz=>by rw[z,hH]at h;cases h;cases nt).trans h⟩
 have hk:∀m,m≠n->(M.set n mo)[m]?=M[m]?:=λm hm=>ABf (AAr hm)
 refine⟨⟨λm m' b hne f1 f2=>?_,by rw[ABe];exact S.len,λm b mo' f1 f2=>?_⟩,g⟩
 ·have q:=S.nd m m' b hne f1 f2
  by_cases h1:m=n
  ·subst h1
   rw[hk m' (AAr hne)]
   exact .inr (q.resolve_left notK)
  ·rw[hk m h1]
   by_cases h2:m'=n
   ·subst h2
    exact .inl (q.resolve_right notK)
   ·rw[hk m' h2]
    exact q
 by_cases hm:m=n
 ·subst hm
  have hb:b=a:=AAM (f1.symm.trans e1)
  subst hb
  rw[ABQ (by rw[<-S.len];exact(AA7.mp e1).1)]at f2
  cases f2
  exact ok g
 ·rw[hk m hm]at f2
  by_cases hb:b=a
  ·subst hb
   have q':=(S.nd m n b hm f1 e1).resolve_right notK
   rw[f2]at q'
   exact(S.obj m b mo' f1 f2).grow g (.inr q')
  ·exact(S.obj m b mo' f1 f2).grow g (.inl (ak hb))
theorem Sim.write(S:Sim K ρ M H)(e1:ρ[n]?=some a)(hM:M[n]?=some (.lst ds))(hH:H a=some (.lst vs))(r:Reps K ρ H ds' vs') :
  Sim K ρ (M.set n (.lst ds')) (upd H a (.lst vs'))/\Grow K ρ H ρ (upd H a (.lst vs')):=
 S.writeG e1 (λ⟨_,z⟩=>by rw[hM]at z;cases z) hH rfl λg=>⟨vs',ay,r.grow g⟩
theorem aq.seq(S:Sim K ρ M H)(h:aq M n xs)(e:ρ[n]?=some a):∃vs,SqL K H a vs/\Reps K ρ H xs vs:=by
 rcases h with h | h | h
 ·obtain⟨vs,q,r⟩:=S.obj n a _ e h
  exact⟨vs,.inl (.inl q),r⟩
 ·obtain⟨o,vs,q,r⟩:=S.obj n a _ e h
  exact⟨vs,.inl (.inr ⟨o,q⟩),r⟩
 ·obtain⟨vs,q,r⟩:=S.obj n a _ e h
  exact⟨vs,.inr q,r⟩
theorem Sim.get(S:Sim K ρ M H){n:Nat}{mo:MO}(e:M[n]?=some mo):∃a,ρ[n]?=some a/\sO K ρ H a mo:=by
 have hn:n<ρ.length:=by rw[S.len];exact(AA7.mp e).1
 exact⟨ρ[n],AA6 hn,S.obj n _ mo (AA6 hn) e⟩
end
noncomputable abbrev SD:=List (Option D)
structure SRep(K:AA2)(ρ:List Addr)(H:Hp)(S:SD)(σ:St):Prop where
 len:S.length=σ.length
 get:∀(i:Nat) (d:D),S[i]?=some (some d)->∃v,σ[i]?=some (some v)/\Rep K ρ H d v
theorem SRep.grow{K:AA2}{ρ ρ':List Addr}{H H':Hp}{S:SD}{σ:St}(r:SRep K ρ H S σ)(g:Grow K ρ H ρ' H'):SRep K ρ' H' S σ :=
 ⟨r.len,λi d e=>let ⟨v,h1,h2⟩:=r.get i d e;⟨v,h1,h2.grow g⟩⟩
theorem SRep.set{K:AA2}{ρ:List Addr}{H:Hp}{S:SD}{σ:St}(r:SRep K ρ H S σ)(i:Nat){d:D}{v:V}(h:Rep K ρ H d v):SRep K ρ H (S.set i (some d)) (σ.set i (some v)):=by
 refine⟨by rw[ABe,ABe];exact r.len,λj e hj=>?_⟩
 by_cases hij:i=j
 ·subst hij
  by_cases hl:i<S.length
  ·rw[ABQ hl]at hj
   cases hj
   exact⟨v,by rw[ABQ (by rw[<-r.len];exact hl)],h⟩
  ·rw[ABo (by rw[ABe];lia)]at hj
   cases hj
 ·rw[ABf hij]at hj
  rw[ABf hij]
  exact r.get j e hj
abbrev DK:=D->Mem->Prop
abbrev DTE:=SD->Mem->DK->Prop
abbrev DTT:=SD->Mem->(Bool->Mem->Prop)->Prop
abbrev DTA:=SD->Mem->(List D->Mem->Prop)->Prop
structure DEnds where
 nx:SD->Mem->Prop
 rt:DK
 bk:SD->Mem->Prop:=λ_ _=>False
 ct:SD->Mem->Prop:=λ_ _=>False
abbrev DTS:=DEnds->SD->Mem->Prop
abbrev DTG:=D->SD->Mem->(SD->Mem->Prop)->Prop
abbrev BG:=List D->SD->Mem->(SD->Mem->Prop)->Prop
abbrev DR2:=D->D->Mem->DK->Prop
abbrev DR1:=D->Mem->DK->Prop
abbrev DRA:=List D->Mem->DK->Prop
section
variable(K:AA2)
inductive VQ(ρ:List Addr)(H:Hp)(Q:DK)(v:V)(H':Hp):Prop
 | mk (d:D) (M':Mem) (ρ':List Addr) (s:Sim K ρ' M' H') (g:Grow K ρ H ρ' H') (r:Rep K ρ' H' d v) (q:Q d M')
inductive BQ(ρ:List Addr)(H:Hp)(Q:Bool->Mem->Prop)(b:Bool)(H':Hp):Prop
 | mk (M':Mem) (ρ':List Addr) (s:Sim K ρ' M' H') (g:Grow K ρ H ρ' H') (q:Q b M')
inductive AQ(ρ:List Addr)(H:Hp)(Q:List D->Mem->Prop)(vs:List V)(H':Hp):Prop
 | mk (ds:List D) (M':Mem) (ρ':List Addr) (s:Sim K ρ' M' H') (g:Grow K ρ H ρ' H') (r:Reps K ρ' H' ds vs) (q:Q ds M')
inductive SQ(ρ:List Addr)(H:Hp)(Q:SD->Mem->Prop)(σ':St)(H':Hp):Prop
 | mk (S':SD) (M':Mem) (ρ':List Addr) (s:Sim K ρ' M' H') (g:Grow K ρ H ρ' H') (r:SRep K ρ' H' S' σ') (q:Q S' M')
structure Ups(ρ:List Addr)(H:Hp)(F:DEnds)(E:Ends):Prop where
 nx:∀σ' H',SQ K ρ H F.nx σ' H'->E.nx σ' H'
 rt:∀v H',VQ K ρ H F.rt v H'->E.rt v H'
 bk:∀σ' H',SQ K ρ H F.bk σ' H'->E.bk σ' H'
 ct:∀σ' H',SQ K ρ H F.ct σ' H'->E.ct σ' H'
inductive lowE(t:DTE)(σ:St)(H:Hp)(R:VK):Prop
 | mk (S:SD) (M:Mem) (ρ:List Addr) (Q:DK) (s:Sim K ρ M H) (sr:SRep K ρ H S σ) (q:t S M Q) (k:∀v H',VQ K ρ H Q v H'->R v H')
inductive lowT(t:DTT)(σ:St)(H:Hp)(R:Bool->Hp->Prop):Prop
 | mk (S:SD) (M:Mem) (ρ:List Addr) (Q:Bool->Mem->Prop) (s:Sim K ρ M H) (sr:SRep K ρ H S σ) (q:t S M Q) (k:∀v H',BQ K ρ H Q v H'->R v H')
inductive lowA(t:DTA)(σ:St)(H:Hp)(R:List V->Hp->Prop):Prop
 | mk (S:SD) (M:Mem) (ρ:List Addr) (Q:List D->Mem->Prop) (s:Sim K ρ M H) (sr:SRep K ρ H S σ) (q:t S M Q) (k:∀v H',AQ K ρ H Q v H'->R v H')
inductive lowS(t:DTS)(E:Ends)(σ:St)(H:Hp):Prop
 | mk (S:SD) (M:Mem) (ρ:List Addr) (F:DEnds) (s:Sim K ρ M H) (sr:SRep K ρ H S σ) (q:t F S M) (k:Ups K ρ H F E)
inductive lowG(g:DTG)(v:V)(σ:St)(H:Hp)(R:St->Hp->Prop):Prop
 | mk (d:D) (S:SD) (M:Mem) (ρ:List Addr) (Q:SD->Mem->Prop) (s:Sim K ρ M H) (sr:SRep K ρ H S σ) (r:Rep K ρ H d v) (q:g d S M Q) (k:∀σ' H',SQ K ρ H Q σ' H'->R σ' H')
inductive lowGs(g:BG)(vs:List V)(σ:St)(H:Hp)(R:St->Hp->Prop):Prop
 | mk (ds:List D) (S:SD) (M:Mem) (ρ:List Addr) (Q:SD->Mem->Prop) (s:Sim K ρ M H) (sr:SRep K ρ H S σ) (r:Reps K ρ H ds vs) (q:g ds S M Q) (k:∀σ' H',SQ K ρ H Q σ' H'->R σ' H')
inductive lowR(r:DR2)(vx vy:V)(H:Hp)(R:VK):Prop
 | mk (x y:D) (M:Mem) (ρ:List Addr) (Q:DK) (s:Sim K ρ M H) (r1:Rep K ρ H x vx) (r2:Rep K ρ H y vy) (q:r x y M Q) (k:∀v H',VQ K ρ H Q v H'->R v H')
inductive lowU(r:DR1)(vx:V)(H:Hp)(R:VK):Prop
 | mk (x:D) (M:Mem) (ρ:List Addr) (Q:DK) (s:Sim K ρ M H) (r1:Rep K ρ H x vx) (q:r x M Q) (k:∀v H',VQ K ρ H Q v H'->R v H')
inductive wH(r:DRA)(vs:List V)(H:Hp)(R:VK):Prop
 | mk (ds:List D) (M:Mem) (ρ:List Addr) (Q:DK) (s:Sim K ρ M H) (r1:Reps K ρ H ds vs) (q:r ds M Q) (k:∀v H',VQ K ρ H Q v H'->R v H')
end
def DE(X:Cx)(e:Expr)(t:DTE):Prop:=PE X e (lowE X.K t)
def DT(X:Cx)(e:Expr)(t:DTT):Prop:=PT X e (lowT X.K t)
def DW(X:Cx)(e:Expr)(t:DTT):Prop:=PW X e (lowT X.K t)
def DA(X:Cx)(es:List Expr)(t:DTA):Prop:=PA X es (lowA X.K t)
def DS(X:Cx)(st:Stmt)(t:DTS):Prop:=PS X st (lowS X.K t)
def DSs(X:Cx)(st:List Stmt)(t:DTS):Prop:=PSs X st (lowS X.K t)
def DG(X:Cx)(tg:Expr)(g:DTG):Prop:=PG X tg (lowG X.K g)
def DGs(X:Cx)(tg:List Expr)(g:BG):Prop:=PGs X tg (lowGs X.K g)
def OpD(X:Cx)(f:Value->Value->Sem Value)(r:DR2):Prop:=OpR X f (lowR X.K r)
def UnD(X:Cx)(f:Value->Sem Value)(r:DR1):Prop:=UnR X f (lowU X.K r)
def fZ(X:Cx)(f:Value)(r:DRA):Prop:=du X f (wH X.K r)
section
variable{K:AA2}{ρ ρ1:List Addr}{H H1:Hp}
theorem VQ.trans(g:Grow K ρ H ρ1 H1)(h:VQ K ρ1 H1 Q v H'):VQ K ρ H Q v H':=by
 obtain⟨d,M',ρ',s,g',r,q⟩:=h
 exact⟨d,M',ρ',s,g.trans g',r,q⟩
theorem BQ.trans(g:Grow K ρ H ρ1 H1)(h:BQ K ρ1 H1 Q v H'):BQ K ρ H Q v H':=by
 obtain⟨M',ρ',s,g',q⟩:=h
 exact⟨M',ρ',s,g.trans g',q⟩
theorem SQ.trans(g:Grow K ρ H ρ1 H1)(h:SQ K ρ1 H1 Q v H'):SQ K ρ H Q v H':=by
 obtain⟨d,M',ρ',s,g',r,q⟩:=h
 exact⟨d,M',ρ',s,g.trans g',r,q⟩
theorem Ups.trans(g:Grow K ρ H ρ1 H1)(h:Ups K ρ H F E):Ups K ρ1 H1 F E :=
 ⟨λσ' H' q=>h.nx σ' H' (SQ.trans g q),λv H' q=>h.rt v H' (VQ.trans g q),λσ' H' q=>h.bk σ' H' (SQ.trans g q),λσ' H' q=>h.ct σ' H' (SQ.trans g q)⟩
theorem VQ.now(s:Sim K ρ M H)(r:Rep K ρ H d v)(q:Q d M):VQ K ρ H Q v H:=⟨d,M,ρ,s,.refl,r,q⟩
end
section
variable{K:AA2}{ρ:List Addr}{H:Hp}{v:V}{vs:List V}
theorem Rep.inv_non(h:Rep K ρ H .non v):v=.non:=by cases h;rfl
theorem Rep.inv_bl(h:Rep K ρ H (.bl b) v):v=.bl b:=by cases h;rfl
theorem Rep.inv_int(h:Rep K ρ H (.int i) v):v=.int i:=by cases h;rfl
theorem Rep.inv_str(h:Rep K ρ H (.str x) v):v=.str x:=by cases h;rfl
theorem Rep.inv_ty(h:Rep K ρ H (.ty n) v):v=.ty n:=by cases h;rfl
theorem Rep.inv_tup(h:Rep K ρ H (.tup ds) v):∃a vs,v=.ref a/\SqT K H a vs/\Reps K ρ H ds vs:=by cases h with | tup h r=>exact⟨_,_,rfl,h,r⟩
theorem Rep.inv_ref(h:Rep K ρ H (.ref n) v):∃a,v=.ref a/\ρ[n]?=some a:=by cases h with | ref h=>exact⟨_,rfl,h⟩
theorem ar.inv_cons(h:ar (x::vs) us):∃u ws,us=u::ws/\aK x u/\ar vs ws:=by cases h with | cons h t=>exact⟨_,_,rfl,h,t⟩
theorem ar.inv_nil(h:ar [] us):us=[]:=by cases h;rfl
theorem Reps.inv_nil(h:Reps K ρ H [] vs):vs=[]:=by cases h;rfl
theorem Reps.inv_cons(h:Reps K ρ H (d::ds) vs):∃v ws,vs=v::ws/\Rep K ρ H d v/\Reps K ρ H ds ws:=by cases h with | cons h t=>exact⟨_,_,rfl,h,t⟩
end
end
theorem PE.imp(h:PE X e t')(i:∀σ H R,t σ H R->t' σ H R):PE X e t:=λpins s σ H R I q=>h pins s σ H R I (i σ H R q)
theorem PT.imp(h:PT X e t')(i:∀σ H R,t σ H R->t' σ H R):PT X e t:=λpins s σ H R I q=>h pins s σ H R I (i σ H R q)
theorem PW.imp(h:PW X e t')(i:∀σ H R,t σ H R->t' σ H R):PW X e t:=λw pins s σ H R I q=>h w pins s σ H R I (i σ H R q)
theorem PA.imp(h:PA X e t')(i:∀σ H R,t σ H R->t' σ H R):PA X e t:=λpos pins s σ H R I q=>h pos pins s σ H R I (i σ H R q)
theorem PS.imp(h:PS X e t')(i:∀E σ H,t E σ H->t' E σ H):PS X e t:=λpins s σ H R I q=>h pins s σ H R I (i R σ H q)
theorem PSs.imp(h:PSs X e t')(i:∀E σ H,t E σ H->t' E σ H):PSs X e t:=λpins s σ H R I q=>h pins s σ H R I (i R σ H q)
theorem OpR.imp(h:OpR X f r')(i:∀x y H R,r x y H R->r' x y H R):OpR X f r:=λpins s σ H x y v u R I a b q=>h pins s σ H x y v u R I a b (i x y H R q)
theorem du.imp(h:du X f r')(i:∀xs H R,r xs H R->r' xs H R):du X f r:=λpins s σ H xs us R I a q=>h pins s σ H xs us R I a (i xs H R q)
section
variable{X:Cx}{a b c:Expr}{ta tb tc:DTE}{pos:Pos}
def ab(i:Nat):DTE:=λS M Q=>match S[i]? with
 | some (some d)=>Q d M
 | _=>False
def dC(d:D):DTE:=λ_ M Q=>Q d M
theorem xK{K:AA2}{i:Nat}(σ:St)(H:Hp)(R:VK)(h:lowE K (ab i) σ H R):tVar i σ H R:=by
 obtain⟨S,M,ρ,Q,s,r,q,k⟩:=h
 unfold ab at q
 cases e:S[i]? with
 | none=>rw[e]at q;exact q.elim
 | some o =>
  cases o with
  | none=>rw[e]at q;exact q.elim
  | some d =>
   rw[e]at q
   obtain⟨v,hv,rv⟩:=r.get i d e
   exact⟨v,hv,k v H (VQ.now s rv q)⟩
theorem d_var(hN:X.N[i]?=some x:=by rfl)(hv:Vis X.env.scope x:=by first | exact Or.inl rfl | exact Or.inr (Or.inl rfl) | exact Or.inr (Or.inr rfl))(hd:(x==("__debug__":Str))=false:=by decide)
  (hcd:(x==("__classdict__":Str))=false:=by decide):DE X (.Name x pos) (ab i):=PE.imp (Cy hN hv hd hcd) xK
noncomputable def cV:D->Option V
 | .non=>some .non
 | .bl b=>some (.bl b)
 | .int i=>some (.int i)
 | .str x=>some (.str x)
 | .ty n=>some (.ty n)
 | _=>none
theorem ww{K:AA2}{ρ:List Addr}{H:Hp}{d:D}{v:V}(h:cV d=some v):Rep K ρ H d v:=by
 cases d with
 | non=>cases h;exact .non
 | bl b=>cases h;exact .bl b
 | int b=>cases h;exact .int b
 | str b=>cases h;exact .str b
 | ty b=>cases h;exact .ty b
 | tup b=>cases h
 | ref b=>cases h
theorem nb{K:AA2}{d:D}{v:V}(hd:cV d=some v)(σ:St)(H:Hp)(R:VK)(h:lowE K (dC d) σ H R):tC v σ H R:=by
 obtain⟨S,M,ρ,Q,s,r,q,k⟩:=h
 exact k v H (VQ.now s (ww hd) q)
theorem d_int{i:Int}{j:Nat}:DE X (.Constant (.int i) j pos) (dC (.int i)):=PE.imp CI (nb rfl)
theorem d_bl{i:Bool}{j:Nat}:DE X (.Constant (.bool i) j pos) (dC (.bl i)):=PE.imp pe_bl (nb rfl)
theorem d_non{j:Nat}:DE X (.Constant .none j pos) (dC .non):=PE.imp CD (nb rfl)
theorem d_str{i:Str}{j:Nat}:DE X (.Constant (.str i) j pos) (dC (.str i)):=PE.imp CA (nb rfl)
theorem EC{x:Str}{T:String}(hm:X.mg x=none)(hv:bootBuiltins x=some (.type T))(hg:Gl X x:=by rfl)(hn:x≠"__name__":=by decide)(hb:(x==("__debug__":Str))=false:=by decide):DE X (.Name x pos) (dC (.ty T)) :=
 PE.imp (zP (v:=.ty T) hg hm hv rfl hn hb) (nb rfl)
theorem low2{K:AA2}{S:SD}{M:Mem}{ρ:List Addr}{σ:St}{H:Hp}{P:D->D->Mem->Prop}{G:V->V->Hp->Prop}(s:Sim K ρ M H)(r:SRep K ρ H S σ)(h:ta S M λx M1=>tb S M1 λy M2=>P x y M2)
  (k:∀x y vx vy M2 ρ2 H2,Sim K ρ2 M2 H2->Grow K ρ H ρ2 H2->Rep K ρ2 H2 x vx->Rep K ρ2 H2 y vy->P x y M2->G vx vy H2):lowE K ta σ H λvx H1=>lowE K tb σ H1 λvy H2=>G vx vy H2:=by
 refine⟨S,M,ρ,_,s,r,h,?_⟩
 rintro vx H1 ⟨x,M1,ρ1,s1,g1,r1,q1⟩
 refine⟨S,M1,ρ1,_,s1,r.grow g1,q1,?_⟩
 rintro vy H2 ⟨y,M2,ρ2,s2,g2,r2,q2⟩
 exact k x y vx vy M2 ρ2 H2 s2 (g1.trans g2) (r1.grow g2) r2 q2
def dOp(r:DR2)(ta tb:DTE):DTE:=λS M Q=>ta S M λx M1=>tb S M1 λy M2=>r x y M2 Q
theorem kO{K:AA2}{r:DR2}(σ:St)(H:Hp)(R:VK)(h:lowE K (dOp r ta tb) σ H R):tOp (lowR K r) (lowE K ta) (lowE K tb) σ H R:=by
 obtain⟨S,M,ρ,Q,s,sr,q,k⟩:=h
 exact low2 s sr q λx y vx vy M2 ρ2 H2 s2 g2 r1 r2 q2=>⟨x,y,M2,ρ2,Q,s2,r1,r2,q2,λv H' w=>k v H' (VQ.trans g2 w)⟩
theorem d_op(ho:OpD X (binaryOp op) r)(ha:DE X a ta)(hb:DE X b tb):DE X (.BinOp a op b pos) (dOp r ta tb):=PE.imp (pe_op ho ha hb) kO
theorem d_cmp(ho:OpD X (compareOp op) r)(ha:DE X a ta)(hb:DE X b tb)(hm:behindInMarks op b=false:=by with_unfolding_all rfl):DE X (.Compare a [op] [b] pos) (dOp r ta tb):=PE.imp (zN ho ha hb hm) kO
def az(t:DTE):DTT:=λS M Q=>t S M λx M'=>match x with
 | .bl b=>Q b M'
 | _=>False
theorem mZ{K:AA2}{t:DTE}(σ:St)(H:Hp)(R:Bool->Hp->Prop)(h:lowT K (az t) σ H R):Cc (lowE K t) σ H R:=by
 obtain⟨S,M,ρ,Q,s,sr,q,k⟩:=h
 refine⟨S,M,ρ,_,s,sr,q,?_⟩
 rintro v H' ⟨d,M',ρ',s',g',r',q'⟩
 cases r' with
 | bl b=>exact⟨b,rfl,k b H' ⟨M',ρ',s',g',q'⟩⟩
 | _=>exact q'.elim
theorem Em(ho:OpD X (compareOp op) r)(ha:DE X a ta)(hb:DE X b tb)(hm:behindInMarks op b=false:=by with_unfolding_all rfl):DT X (.Compare a [op] [b] pos) (az (dOp r ta tb)):=by
 refine PT.imp (zC ho ha hb hm) λσ H R h=>?_
 obtain⟨S,M,ρ,Q,s,sr,q,k⟩:=mZ σ H R h
 exact kO σ H _ ⟨S,M,ρ,Q,s,sr,q,k⟩
theorem Ek(h:DE X e t)(he:∀whole,isTrue e X.env whole=(do let v <-whole;standAt e.pos;holding [v] (truthy v)):=by intro _;rfl):DT X e (az t):=PT.imp (Co h he) mZ
def onB(z:D)(k:Bool->Prop):Prop:=match z with
 | .bl b=>k b
 | _=>False
theorem CT{b:Bool}{k:Bool->Prop}:onB (.bl b) k=k b:=rfl
variable{tA tB:DTT}{aZ:List Expr}
def yY(t u:DTT):DTT:=λS M Q=>t S M λb M1=>if b=true then u S M1 Q else Q false M1
def dOr(t u:DTT):DTT:=λS M Q=>t S M λb M1=>if b=true then Q true M1 else u S M1 Q
def yX(t:DTT):DTT:=λS M Q=>t S M λb M1=>Q (!b) M1
theorem Bb(ha:DT X a tA):DW X (.BoolOp .And [a] pos) tA:=zv ha
theorem Ei(ha:DT X a tA):DW X (.BoolOp .Or [a] pos) tA:=Cm ha
theorem Ej(ha:DT X a tA)(hb:DW X (.BoolOp .And (b::aZ) pos) tB):DW X (.BoolOp .And (a::b::aZ) pos) (yY tA tB):=by
 refine PW.imp (Cn ha hb) ?_
 rintro σ H R ⟨S,M,ρ,Q,s,sr,q,k⟩
 refine⟨S,M,ρ,_,s,sr,q,?_⟩
 rintro c H1 ⟨M1,ρ1,s1,g1,q1⟩
 cases c with
 | true=>exact fy ⟨S,M1,ρ1,Q,s1,sr.grow g1,(show tB S M1 Q from q1),λv H' w=>k v H' (BQ.trans g1 w)⟩
 | false=>exact eE (k false H1 ⟨M1,ρ1,s1,g1,q1⟩)
theorem dw_or(ha:DT X a tA)(hb:DW X (.BoolOp .Or (b::aZ) pos) tB):DW X (.BoolOp .Or (a::b::aZ) pos) (dOr tA tB):=by
 refine PW.imp (pw_or ha hb) ?_
 rintro σ H R ⟨S,M,ρ,Q,s,sr,q,k⟩
 refine⟨S,M,ρ,_,s,sr,q,?_⟩
 rintro c H1 ⟨M1,ρ1,s1,g1,q1⟩
 cases c with
 | false=>exact eE ⟨S,M1,ρ1,Q,s1,sr.grow g1,(show tB S M1 Q from q1),λv H' w=>k v H' (BQ.trans g1 w)⟩
 | true=>exact fy (k true H1 ⟨M1,ρ1,s1,g1,q1⟩)
theorem dw_t(h:DW X e t):DT X e t:=PW.pt h
theorem El(ha:DT X a tA):DT X (.UnaryOp .Not a pos) (yX tA):=by
 refine PT.imp (Cp ha) ?_
 rintro σ H R ⟨S,M,ρ,Q,s,sr,q,k⟩
 refine⟨S,M,ρ,_,s,sr,q,?_⟩
 rintro c H1 ⟨M1,ρ1,s1,g1,q1⟩
 exact k (!c) H1 ⟨M1,ρ1,s1,g1,q1⟩
def pR(ta tb:DTE):DTE:=λS M Q=>ta S M λx M1=>onB x λb=>if b=true then tb S M1 Q else Q (.bl false) M1
def yx(ta:DTE):DTE:=λS M Q=>ta S M λx M1=>match x with
 | .bl b=>Q (.bl (!b)) M1
 | _=>False
theorem d_one{op}(h:DE X a ta):DE X (.BoolOp op [a] pos) ta:=CB h
theorem d_and(ha:DE X a ta)(hb:DE X (.BoolOp .And (b::aZ) pos) tb):DE X (.BoolOp .And (a::b::aZ) pos) (pR ta tb):=by
 refine PE.imp (CL ha hb) ?_
 rintro σ H R ⟨S,M,ρ,Q,s,sr,q,k⟩
 refine⟨S,M,ρ,_,s,sr,q,?_⟩
 rintro v H1 ⟨d,M1,ρ1,s1,g1,r1,q1⟩
 cases r1 with
 | bl c =>
  cases c with
  | true=>exact⟨true,rfl,fy ⟨S,M1,ρ1,Q,s1,sr.grow g1,(show tb S M1 Q from q1),λv H' w=>k v H' (VQ.trans g1 w)⟩⟩
  | false=>exact⟨false,rfl,eE (k _ H1 ⟨_,M1,ρ1,s1,g1,.bl false,(show Q (.bl false) M1 from q1)⟩)⟩
 | _=>exact q1.elim
theorem d_not(ha:DE X a ta):DE X (.UnaryOp .Not a pos) (yx ta):=by
 refine PE.imp (CC ha) ?_
 rintro σ H R ⟨S,M,ρ,Q,s,sr,q,k⟩
 refine⟨S,M,ρ,_,s,sr,q,?_⟩
 rintro v H1 ⟨d,M1,ρ1,s1,g1,r1,q1⟩
 cases r1 with
 | bl c=>exact⟨c,rfl,k _ H1 ⟨_,M1,ρ1,s1,g1,.bl (!c),q1⟩⟩
 | _=>exact q1.elim
def dIfE(t:DTT)(ta tb:DTE):DTE:=λS M Q=>t S M λb M1=>if b=true then ta S M1 Q else tb S M1 Q
theorem Bu(hc:DT X t tA)(ha:DE X a ta)(hb:DE X b tb):DE X (.IfExp t a b pos) (dIfE tA ta tb):=by
 refine PE.imp (xr hc ha hb) ?_
 rintro σ H R ⟨S,M,ρ,Q,s,sr,q,k⟩
 refine⟨S,M,ρ,_,s,sr,q,?_⟩
 rintro c H1 ⟨M1,ρ1,s1,g1,q1⟩
 cases c with
 | true=>exact fy ⟨S,M1,ρ1,Q,s1,sr.grow g1,(show ta S M1 Q from q1),λv H' w=>k v H' (VQ.trans g1 w)⟩
 | false=>exact eE ⟨S,M1,ρ1,Q,s1,sr.grow g1,(show tb S M1 Q from q1),λv H' w=>k v H' (VQ.trans g1 w)⟩
variable{e:Expr}{es:List Expr}{te:DTE}{t:DTA}
def ah:DTA:=λ_ M Q=>Q [] M
def aa(te:DTE)(t:DTA):DTA:=λS M Q=>te S M λd M1=>t S M1 λds M2=>Q (d::ds) M2
theorem EB:DA X [] ah:=by
 refine PA.imp CM ?_
 rintro σ H R ⟨S,M,ρ,Q,s,sr,q,k⟩
 exact k [] H ⟨[],M,ρ,s,.refl,.nil,q⟩
theorem Bs(ha:DE X e te)(hr:DA X es t)(hs:starEach (e::es) X.env=(false,eval e X.env)::starEach es X.env:=by rfl):DA X (e::es) (aa te t):=by
 refine PA.imp (zR ha hr hs) ?_
 rintro σ H R ⟨S,M,ρ,Q,s,sr,q,k⟩
 refine⟨S,M,ρ,_,s,sr,q,?_⟩
 rintro v H1 ⟨d,M1,ρ1,s1,g1,r1,q1⟩
 refine⟨S,M1,ρ1,_,s1,sr.grow g1,q1,?_⟩
 rintro vs H2 ⟨ds,M2,ρ2,s2,g2,r2,q2⟩
 exact k _ H2 ⟨d::ds,M2,ρ2,s2,g1.trans g2,.cons (r1.grow g2) r2,q2⟩
def bi(t:DTA):DTE:=λS M Q=>t S M λds M1=>ds.length<=sizeLine/\Q (.tup ds) M1
def gI(t:DTA):DTE:=λS M Q=>t S M λds M1=>ds.length<=sizeLine/\Q (.ref M1.length) (M1++[.lst ds])
theorem VQ.laidT{K:AA2}{ρ ρ1:List Addr}{H H1:Hp}{M1:Mem}{ds:List D}{vs:List V}{Q:DK}{p:Addr}(s1:Sim K ρ1 M1 H1)(g1:Grow K ρ H ρ1 H1)(r1:Reps K ρ1 H1 ds vs)(hp:H1 p=none)(q:Q (.tup ds) M1):VQ K ρ H Q (.ref p) (upd H1 p (.tup vs)) :=
 ⟨.tup ds,M1,ρ1,s1.laid hp,g1.trans (Grow.laid hp),.tup (SqT.of ay) (r1.grow (Grow.laid hp)),q⟩
theorem VQ.laidL{K:AA2}{ρ ρ1:List Addr}{H H1:Hp}{M1:Mem}{ds:List D}{vs:List V}{Q:DK}{p:Addr}(s1:Sim K ρ1 M1 H1)(g1:Grow K ρ H ρ1 H1)(r1:Reps K ρ1 H1 ds vs)(hp:H1 p=none)(q:Q (.ref M1.length) (M1++[.lst ds])):VQ K ρ H Q (.ref p) (upd H1 p (.lst vs)) :=
 ⟨.ref M1.length,M1++[.lst ds],ρ1++[p],s1.laidL hp r1,g1.trans (Grow.laidR hp),.ref s1.last,q⟩
theorem d_tup{x1}(h:DA X es t):DE X (.Tuple es x1 pos) (bi t):=by
 refine PE.imp (Cz h) ?_
 rintro σ H R ⟨S,M,ρ,Q,s,sr,q,k⟩
 refine⟨S,M,ρ,_,s,sr,q,?_⟩
 rintro vs H1 ⟨ds,M1,ρ1,s1,g1,r1,z,q1⟩
 exact⟨by rw[<-r1.length];exact z,λp hp=>k _ _ (VQ.laidT s1 g1 r1 hp q1)⟩
theorem d_lst(h:DA X es t):DE X (.List es pos) (gI t):=by
 refine PE.imp (CF h) ?_
 rintro σ H R ⟨S,M,ρ,Q,s,sr,q,k⟩
 refine⟨S,M,ρ,_,s,sr,q,?_⟩
 rintro vs H1 ⟨ds,M1,ρ1,s1,g1,r1,z,q1⟩
 exact⟨by rw[<-r1.length];exact z,λp hp=>k _ _ (VQ.laidL s1 g1 r1 hp q1)⟩
def dCB(r:DRA)(t:DTA):DTE:=λS M Q=>t S M λds M1=>r ds M1 Q
theorem uT{K:AA2}{r:DRA}(σ:St)(H:Hp)(R:VK)(h:lowE K (dCB r t) σ H R):tCB (wH K r) (lowA K t) σ H R:=by
 obtain⟨S,M,ρ,Q,s,sr,q,k⟩:=h
 refine⟨S,M,ρ,_,s,sr,q,?_⟩
 rintro vs H1 ⟨ds,M1,ρ1,s1,g1,r1,q1⟩
 exact⟨ds,M1,ρ1,Q,s1,r1,q1,λv H' w=>k v H' (VQ.trans g1 w)⟩
theorem Bv{x:Str}{p:Pos}{id:String}{r:DRA}(hc:fZ X (.builtin id) r)(hm:X.mg x=none)(hv:bootBuiltins x=some (.builtin id))(ha:DA X (e::es) t)(hg:Gl X x:=by rfl)(hn:x≠"__name__":=by decide)(hdb:(x==("__debug__":Str))=false:=by decide)
  (he:starEach (e::es) X.env=(false,eval e X.env)::starEach es X.env:=by rfl) (hpl:(backTo pos (starEach es X.env)).any (·.1)=false:=by rfl):DE X (.Call (.Name x p) (e::es) [] pos) (dCB r t) :=
 PE.imp (xu hc hg hm hv ha hn hdb he hpl) uT
theorem yw(hc:fZ X (.type T) r)(hm:X.mg x=none)(hv:bootBuiltins x=some (.type T))(ha:DA X (e::es) t)(hg:Gl X x:=by rfl)(hn:x≠"__name__":=by decide)(hdb:(x==("__debug__":Str))=false:=by decide)
  (he:starEach (e::es) X.env=(false,eval e X.env)::starEach es X.env:=by rfl) (hpl:(backTo pos (starEach es X.env)).any (·.1)=false:=by rfl):DE X (.Call (.Name x p) (e::es) [] pos) (dCB r t) :=
 PE.imp (uB hc hg hm hv ha hn hdb he hpl) uT
abbrev DSp:=List D->Mem->DK->Prop
def spL(K:AA2)(P:DSp):Sp:=λvs H Q _=>∃ds M ρ R,Sim K ρ M H/\Reps K ρ H ds vs/\P ds M R/\∀v H',VQ K ρ H R v H'->Q v H'
theorem uR{K:AA2}{P:DSp}(σ:St)(H:Hp)(R:VK)(h:lowE K (dCB P t) σ H R):zj (spL K P) [] E0 (lowA K t) σ H R:=by
 obtain⟨S,M,ρ,Q,s,sr,q,k⟩:=h
 exact⟨S,M,ρ,_,s,sr,q,λvs H1 ⟨ds,M1,ρ1,s1,g1,r1,q1⟩=>⟨ds,M1,ρ1,Q,s1,by rw[ABR];exact r1,q1,λv H' w=>k v H' (VQ.trans g1 w)⟩⟩
theorem EI(F:FnOk X.prog X.w X.K X.mg X.base CX0 k f fd ps (spL X.K P))(hr:Room k X.A)(hm:X.mg x=some (.ref f))(hk:ABK X.K (.ref f)=true)(hb:eD X.K fd ps [])
  (ha:DA X (e::es) t) (hg:Gl X x:=by rfl) (hdb:(x==("__debug__":Str))=false:=by decide) (he:starEach (e::es) X.env=(false,eval e X.env)::starEach es X.env:=by rfl) (hpl:(backTo pos (starEach es X.env)).any (·.1)=false:=by rfl) :
  DE X (.Call (.Name x p) (e::es) [] pos) (dCB P t):=PE.imp (zO F hr hg hm hk hb .nil xw ha hdb he hpl) uR
theorem Bw(F:FnOk X.prog X.w X.K X.mg X.base CX0 k f fd ps (spL X.K P))(hr:Room k X.A)(hm:X.mg x=some (.ref f))(hk:ABK X.K (.ref f)=true)(hb:eD X.K fd ps [])
  (hg:Gl X x:=by rfl) (hdb:(x==("__debug__":Str))=false:=by decide):DE X (.Call (.Name x p) [] [] pos) (dCB P ah) :=
 PE.imp (xv F hr hg hm hk hb .nil xw hdb) λσ H R h=>by
  obtain⟨S,M,ρ,Q,s,sr,q,k⟩:=h
  exact⟨[],M,ρ,Q,s,.nil,q,k⟩
end
def aI:DTS:=λE S M=>E.nx S M
def au(t u:DTS):DTS:=λE S M=>t { E with nx:=λS' M'=>u E S' M' } S M
theorem Er:DSs X [] aI:=by
 refine PSs.imp zE ?_
 rintro E σ H ⟨S,M,ρ,F,s,sr,q,k⟩
 exact k.nx σ H ⟨S,M,ρ,s,.refl,sr,q⟩
theorem Ep{X:Cx}{st:Stmt}{t:DTS}(h:DS X st t):DSs X [st] t:=zD h
theorem Bk{X:Cx}{st:Stmt}{aZ:List Stmt}{t u:DTS}(h1:DS X st t)(h2:DSs X aZ u):DSs X (st::aZ) (au t u):=by
 refine PSs.imp (xm h1 h2) ?_
 rintro E σ H ⟨S,M,ρ,F,s,sr,q,k⟩
 exact⟨S,M,ρ,_,s,sr,q,⟨λσ' H' ⟨S',M',ρ',s',g',sr',q'⟩=>⟨S',M',ρ',F,s',sr',q',k.trans g'⟩,k.rt,k.bk,k.ct⟩⟩
def jB(te:DTE):DTS:=λE S M=>te S M λ_ M1=>E.nx S M1
theorem Bi(he:DE X e te)(hs:swapsWith e none pos.line X.env=pure false:=by rfl):DS X (.Expr e pos) (jB te):=by
 refine PS.imp (zF he hs) ?_
 rintro E σ H ⟨S,M,ρ,F,s,sr,q,k⟩
 refine⟨S,M,ρ,_,s,sr,q,?_⟩
 rintro v H1 ⟨d,M1,ρ1,s1,g1,r1,q1⟩
 exact k.nx σ H1 ⟨S,M1,ρ1,s1,g1,sr.grow g1,q1⟩
def be(te:DTE):DTS:=λE S M=>te S M E.rt
theorem Eo(he:DE X e te):DS X (.Return (some e) pos) (be te):=by
 refine PS.imp (Cr he) ?_
 rintro E σ H ⟨S,M,ρ,F,s,sr,q,k⟩
 exact⟨S,M,ρ,_,s,sr,q,λv H1 w=>k.rt v H1 w⟩
def dIf(c:DTT)(t u:DTS):DTS:=λE S M=>c S M λb M1=>if b=true then t E S M1 else u E S M1
theorem ds_if(hc:DT X c tc)(ha:DSs X a t)(hb:DSs X b u):DS X (.If c a b pos) (dIf tc t u):=by
 refine PS.imp (ps_if hc ha hb) ?_
 rintro E σ H ⟨S,M,ρ,F,s,sr,q,k⟩
 refine⟨S,M,ρ,_,s,sr,q,?_⟩
 rintro c H1 ⟨M1,ρ1,s1,g1,q1⟩
 cases c with
 | true=>exact fy ⟨S,M1,ρ1,F,s1,sr.grow g1,(show t F S M1 from q1),k.trans g1⟩
 | false=>exact eE ⟨S,M1,ρ1,F,s1,sr.grow g1,(show u F S M1 from q1),k.trans g1⟩
def aJ(te:DTE)(i:Nat):DTS:=λE S M=>te S M λd M1=>E.nx (S.set i (some d)) M1
theorem En(hN:X.N.Nodup)(he:DE X e te)(hi:X.N[i]?=some x:=by rfl)(hx:Loc X.env.scope x:=by first | exact Or.inl rfl | exact Or.inr rfl)(hs:swapsWith e (some (.Name x pos')) pos.line X.env=pure false:=by rfl)
  (hf:X.fn x=true\/X.env.scope.names.lookup x=some .local:=by first | exact .inl rfl | exact .inr rfl | assumption):DS X (.Assign [.Name x pos'] e pos) (aJ te i):=by
 refine PS.imp (Cq hN hi hx he hs hf) ?_
 rintro E σ H ⟨S,M,ρ,F,s,sr,q,k⟩
 refine⟨S,M,ρ,_,s,sr,q,?_⟩
 rintro v H1 ⟨d,M1,ρ1,s1,g1,r1,q1⟩
 exact k.nx _ H1 ⟨_,M1,ρ1,s1,g1,(sr.grow g1).set i r1,q1⟩
def al(i:Nat):DTG:=λd S M Q=>Q (S.set i (some d)) M
theorem pN(hN:X.N.Nodup)(hi:X.N[i]?=some x:=by rfl)(hx:Loc X.env.scope x:=by first | exact Or.inl rfl | exact Or.inr rfl)(hf:X.fn x=true\/X.env.scope.names.lookup x=some .local:=by first | exact .inl rfl | exact .inr rfl | assumption):DG X (.Name x pos) (al i) :=
 λpins s σ H v u R I r ⟨d,S,M,ρ,Q,sm,sr,rd,q,k⟩=>zK hN hi hx hf pins s σ H v u R I r (k _ H ⟨_,M,ρ,sm,.refl,sr.set i rd,q⟩)
theorem rP{P:Program}{w:World}{K:AA2}{tg:Expr}(it:Addr)(n:Nat)(PV:Nat->Value->Prop)(PX:Nat->V->Prop)(Sx:Nat->Heap->Prop)
  (W:∀A':Around,A'.handled=none->Walks P w A' it [it] [it] n PV Sx) (hrel:∀i v,PV i v->∃x,aK x v/\PX i x)
  (hobj:∀i h,Sx i h->∃(o:Obj) (nm:String) (vs:Array Value),h.get? it=some o/\o.cls=.type nm/\o.data=.fields vs/\["enumerate","zip","dict_itemiterator","dict_reverseitemiterator","odict_iterator","itertools.zip_longest","itertools.pairwise"].contains nm=false)
  (hframe:∀(i:Nat) (h h':Heap),Sx i h->(∀o,h.get? it=some o->h'.get? it=some o)->Sx i h')
  (hself:∀(A:Around) (i:Nat) (s:Shared) (Q:Value->Shared->Prop) (E:Value->Shared->Prop),Sx i s.heap->Q (.ref it) s->wpAny (model P w) A (pyIter (.ref it)) Q E s) :
  Turn P w K tg ⟨λi _=>i<n,λi H x H'=>H'=H/\PX i x,λi _=>i=n⟩ [it] it Sx where
 mem:=by simp
 obj:=λi h st b hb=>by
  have e:b=it:=by simpa using hb
  subst e
  obtain⟨o,nm,vs,e,_,d,_⟩:=hobj i h st
  exact⟨o,e,λv z=>by rw[d]at z;cases z⟩
 keep:=λi h h' st k=>hframe i h h' st λo e=>k it (by simp) o e
 item:=by
  intro X hP hw hK hc i pins s σ H E I hf st hg
  subst hP hw hK
  obtain⟨f0,f1,f2,f3,f4,f5⟩:=hf it (by simp)
  refine(W X.A (I.ok.hd hc)).item i s _ _ hg st λv h' tk hv st' kk=>?_
  obtain⟨x,rx,px⟩:=hrel i v hv
  have I1:Inv X pins σ H { s with heap:=h',toks:=tk }:=I.turned (λb o hb e=>kk b o (by simpa using hb) e) f0 f1 f3 f4 f5
  obtain⟨o,nm,vs,e,c,d,hn⟩:=hobj _ _ st'
  exact⟨v,rfl,vV (s:={ s with heap:=h',toks:=tk }) e c d hn ⟨x,H,I1,rx,⟨rfl,px⟩,st',λb hb=>(hf b hb).1⟩⟩
 done:=by
  intro X hP hw hK hc i pins s σ H E I hf st hg
  subst hP hw hK
  obtain⟨f0,f1,f2,f3,f4,f5⟩:=hf it (by simp)
  have hi:i=n:=hg
  subst hi
  exact(W X.A (I.ok.hd hc)).done s _ _ st λh' tk kk=>⟨rfl,I.turned (λb o hb e=>kk b o (by simpa using hb) e) f0 f1 f3 f4 f5⟩
 self:=hself
noncomputable def uo(x:Str):List D:=x.cps.toList.map λc=>.str ⟨#[c]⟩
structure Src where
 items:List D
 ok:Mem->Prop
abbrev DTI:=SD->Mem->(Src->Mem->Prop)->Prop
structure ItD(K:AA2)(src:Src)(ρ0:List Addr)(H0:Hp)(J:It):Prop where
 go:∀(i:Nat) ρ M H,Sim K ρ M H->Grow K ρ0 H0 ρ H->src.ok M->i<src.items.length->J.go i H
 yld:∀(i:Nat) ρ M H x H',Sim K ρ M H->Grow K ρ0 H0 ρ H->src.ok M->i<src.items.length->J.yld i H x H'->∃d ρ',src.items[i]?=some d/\Sim K ρ' M H'/\Grow K ρ H ρ' H'/\Rep K ρ' H' d x
 stop:∀(ρ:List Addr) M H,Sim K ρ M H->Grow K ρ0 H0 ρ H->src.ok M->J.stop src.items.length H
def IQ(K:AA2)(ρ:List Addr)(H:Hp)(Q:Src->Mem->Prop):It->Hp->Prop:=λJ H'=>∃src M' ρ',Sim K ρ' M' H'/\Grow K ρ H ρ' H'/\ItD K src ρ' H' J/\Q src M'
def lowI(K:AA2)(di:DTI):TI:=λσ H R=>∃S M ρ Q,Sim K ρ M H/\SRep K ρ H S σ/\di S M Q/\∀J H',IQ K ρ H Q J H'->R J H'
def DI(X:Cx)(tg iter:Expr)(di:DTI):Prop:=PI X tg iter (lowI X.K di)
theorem ItD.tup{K:AA2}{ρ:List Addr}{H:Hp}{a:Addr}{vs:List V}{ds:List D}(h:SqT K H a vs)(r:Reps K ρ H ds vs)(uniq:∀ys,SqT K H a ys->ys=vs):ItD K ⟨ds,λ_=>True⟩ ρ H (Itt K a) where
 go:=λi ρ' M H' s g _ hi=>by
  have hl:i<vs.length:=by rw[<-r.length];exact hi
  exact⟨vs,vs[i],g.tup a vs h,AA6 hl⟩
 yld:=λi ρ' M H' x H2 s g _ hi y=>by
  obtain⟨rfl,y⟩:=y
  obtain⟨d,hd,rd⟩:=(r.grow g).getV (y vs (g.tup a vs h))
  exact⟨d,ρ',hd,s,.refl,rd⟩
 stop:=λρ' M H' s g _=>⟨vs,g.tup a vs h,by rw[<-r.length];exact AAA _⟩
theorem ItD.lst{K:AA2}{ρ:List Addr}{H:Hp}{n:Nat}{a:Addr}{ds:List D}(e:ρ[n]?=some a):ItD K ⟨ds,λM=>aq M n ds⟩ ρ H (Itl K a) where
 go:=λi ρ' M H' s g ok hi=>by
  obtain⟨vs,h,r⟩:=aq.seq s ok (av g.pre e)
  have hl:i<vs.length:=by rw[<-r.length];exact hi
  exact⟨vs,vs[i],h,AA6 hl⟩
 yld:=λi ρ' M H' x H2 s g ok hi y=>by
  obtain⟨rfl,y⟩:=y
  obtain⟨vs,h,r⟩:=aq.seq s ok (av g.pre e)
  obtain⟨d,hd,rd⟩:=r.getV (y vs h)
  exact⟨d,ρ',hd,s,.refl,rd⟩
 stop:=λρ' M H' s g ok=>by
  obtain⟨vs,h,r⟩:=aq.seq s ok (av g.pre e)
  exact⟨vs,h,by rw[<-r.length];exact AAA _⟩
theorem ItD.plain{K:AA2}{ρ:List Addr}{H:Hp}{ds:List D}{J:It}(hg:∀i H,i<ds.length->J.go i H)(hy:∀i H x H',i<ds.length->J.yld i H x H'->H'=H/\∃d,ds[i]?=some d/\cV d=some x)(hs:∀H,J.stop ds.length H):ItD K ⟨ds,λ_=>True⟩ ρ H J where
 go:=λi ρ' M H' s g _ hi=>hg i H' hi
 yld:=λi ρ' M H' x H2 s g _ hi y=>by
  obtain⟨rfl,d,hd,hv⟩:=hy i _ x H2 hi y
  exact⟨d,ρ',hd,s,.refl,ww hv⟩
 stop:=λρ' M H' s g _=>hs H'
def cy(te:DTE):DTI:=λS M R=>te S M λd M1=>match d with
 | .tup ds=>ds.length<=sizeLine->R ⟨ds,λ_=>True⟩ M1
 | .str x=>R ⟨uo x,λ_=>True⟩ M1
 | .ref n=>∃xs,aq M1 n xs/\(xs.length<=sizeLine->R ⟨xs,λM=>aq M n xs⟩ M1)
 | _=>False
theorem Ew(hl:DE X l tl):DI X tg l (cy tl):=by
 intro pins s σ H R I h
 obtain⟨S,M,ρ,Q,sm,sr,q,k⟩:=h
 refine thn (hl pins s σ H _ I ⟨S,M,ρ,_,sm,sr,q,λv H' w=>w⟩) ?_
 rintro u s1 ⟨v,H1,I1,rv,d,M1,ρ1,sm1,g1,r1,q1⟩
 cases r1 with
 | non=>exact q1.elim
 | bl b=>exact q1.elim
 | int i=>exact q1.elim
 | ty n=>exact q1.elim
 | @tup a vs ds hq r =>
  cases rv
  obtain⟨its,rr,p,hz⟩:=I1.tuple hq
  refine wpAny_pyIter_tuple (show s1.heap.IsTuple a its.toArray from p) ?_
  refine⟨s1.heap.objs.size,[s1.heap.objs.size],_,_,H1,rfl,I1.kept (t':=s1.toks) λb o e=>AA3 _ e,rQ a _,⟨_,AAD _ rfl,rfl,rfl⟩,λb hb=>?_,k _ H1 ⟨⟨ds,λ_=>True⟩,M1,ρ1,sm1,g1,ItD.tup hq r λys hy=>I1.tuple_inj hy hq,?_⟩⟩
  ·have e:b=s1.heap.objs.size:=by simpa using hb
   subst e
   exact I1.fpOk (AAA _) (I1.hok.fresh (AAA _))
  ·exact(show ds.length<=sizeLine->Q ⟨ds,λ_=>True⟩ M1 from q1) (by rw[r.length];exact hz)
 | @ref n a hn =>
  cases rv
  obtain⟨xs,hL,q2⟩:=(show ∃xs,aq M1 n xs/\(xs.length<=sizeLine->Q ⟨xs,λM=>aq M n xs⟩ M1)from q1)
  obtain⟨vs,hq,r⟩:=aq.seq sm1 hL hn
  obtain⟨its,rr,p,hz⟩:=I1.list hq
  refine wpAny_pyIter_list p.isList ?_
  refine⟨s1.heap.objs.size,[s1.heap.objs.size],_,_,H1,rfl,I1.kept (t':=s1.toks) λb o e=>AA3 _ e,tm a _,⟨_,AAD _ rfl,rfl,rfl⟩,λb hb=>?_,k _ H1 ⟨⟨xs,λM=>aq M n xs⟩,M1,ρ1,sm1,g1,ItD.lst hn,q2 (by rw[r.length];exact hz)⟩⟩
  have e:b=s1.heap.objs.size:=by simpa using hb
  subst e
  exact I1.fpOk (AAA _) (I1.hok.fresh (AAA _))
 | str x =>
  obtain⟨t,rfl⟩:=rv
  have fin:∀(nm:String) (ob:Obj),(ob.cls=.type nm/\ob.data=.fields #[.str x t,.int 0 0]) ->
    (∀A':Around,A'.handled=none->Walks X.prog X.w A' s1.heap.objs.size [s1.heap.objs.size] [s1.heap.objs.size] x.cps.size (SignAt x) (λi h=>h.IsStrIter s1.heap.objs.size nm x t i)) ->
    (∀(A:Around) (i:Nat) (s:Shared) (Q:Value->Shared->Prop) (E:Value->Shared->Prop),s.heap.IsStrIter s1.heap.objs.size nm x t i->Q (.ref s1.heap.objs.size) s->wpAny (model X.prog X.w) A (pyIter (.ref s1.heap.objs.size)) Q E s) ->
    ["enumerate","zip","dict_itemiterator","dict_reverseitemiterator","odict_iterator","itertools.zip_longest","itertools.pairwise"].contains nm=false->(s1.heap.push ob).IsStrIter s1.heap.objs.size nm x t 0 ->
    PIE X pins σ tg R (.ref s1.heap.objs.size) { s1 with heap:=s1.heap.push ob }:=λnm ob hob W hself hnm st=>by
   refine⟨s1.heap.objs.size,[s1.heap.objs.size],_,_,H1,rfl,I1.kept (t':=s1.toks) λb o e=>AA3 _ e,
    rP (PX:=λi v=>∃c,x.cps[i]?=some c/\v=.str ⟨#[c]⟩) _ _ _ _ W (λi v ⟨c,u,e1,e2⟩=>⟨.str ⟨#[c]⟩,⟨u,e2⟩,c,e1,rfl⟩) (λi h st=>?_) (λi h h' st k=>?_) hself,st,λb hb=>?_,k _ H1 ⟨⟨uo x,λ_=>True⟩,M1,ρ1,sm1,g1,ItD.plain ?_ ?_ ?_,q1⟩⟩
   ·obtain⟨o,e,c,d⟩:=st
    exact⟨o,nm,_,e,c,d,hnm⟩
   ·obtain⟨o,e,r⟩:=st
    exact⟨o,k o e,r⟩
   ·have e:b=s1.heap.objs.size:=by simpa using hb
    subst e
    exact I1.fpOk (AAA _) (I1.hok.fresh (AAA _))
   ·intro i _ hi
    simpa [uo]using hi
   ·rintro i H x' H' _ ⟨rfl,c,e,rfl⟩
    exact⟨rfl,.str ⟨#[c]⟩,by simp[uo,e],rfl⟩
   ·intro H
    simp[uo]
  cases ha:x.cps.all (· < 128)
  ·exact wpAny_pyIter_wide ha (fin _ _ ⟨rfl,rfl⟩ (λA' hA=>Walks.strWide hA _ x t) (λ_ _ _ _ _ st h=>wpAny_pyIter_striter_wide st h) (by decide) ⟨_,AAD _ rfl,rfl,rfl⟩)
  ·exact wpAny_pyIter_ascii ha (fin _ _ ⟨rfl,rfl⟩ (λA' hA=>Walks.strAscii hA _ x t) (λ_ _ _ _ _ st h=>wpAny_pyIter_striter_ascii st h) (by decide) ⟨_,AAD _ rfl,rfl,rfl⟩)
noncomputable def gm(lo:Int)(n:Nat):List D:=(AAl n).map λi=>.int (lo+((i:Nat):Int))
theorem ItD.rng{K:AA2}{ρ:List Addr}{H:Hp}(lo:Int)(n:Nat):ItD K ⟨gm lo n,λ_=>True⟩ ρ H (Itr lo n):=by
 refine ItD.plain (λi _ hi=>?_) (λi H x H' hi y=>?_) λH=>?_
 ·show i<n
  simpa [gm]using hi
 ·obtain⟨e,rfl⟩:=y
  have hi':i<n:=by simpa [gm]using hi
  exact⟨e,.int (lo+i),by simp[gm,hi'],rfl⟩
 ·show n<=(gm lo n).length
  simp[gm]
def aU(ta:DTA):DTI:=λS M R=>ta S M λds M1=>match ds with
 | [.int j]=>(-(2 ^ 62)<=j/\j<2 ^ 62)/\R ⟨gm 0 j.toNat,λ_=>True⟩ M1
 | _=>False
theorem PI.imp(h:PI X tg iter t')(i:∀σ H R,t σ H R->t' σ H R):PI X tg iter t:=λpins s σ H R I q=>h pins s σ H R I (i σ H R q)
theorem pc{K:AA2}{ta:DTA}(σ:St)(H:Hp)(R:It->Hp->Prop)(h:lowI K (aU ta) σ H R):DQ (lowA K ta) σ H R:=by
 obtain⟨S,M,ρ,Q,s,sr,q,k⟩:=h
 refine⟨S,M,ρ,_,s,sr,q,?_⟩
 rintro vs H1 ⟨ds,M1,ρ1,s1,g1,r1,q1⟩
 try dsimp only at q1
 split at q1
 ·rename_i j
  obtain⟨⟨h1,h2⟩,q2⟩:=q1
  first | have hzz:=Reps.inv_cons r1 | have hzz:=ar.inv_cons r1
  clear r1
  obtain⟨_,_,rfl,r,t⟩:=hzz
  cases r
  cases t
  exact⟨j,rfl,h1,h2,k _ H1 ⟨_,M1,ρ1,s1,g1,ItD.rng 0 j.toNat,q2⟩⟩
 ·exact q1.elim
theorem wf(hm:X.mg "range" = none)(ha:DA X [a] ta)(hg:Gl X "range":=by rfl)(hs:starEach [a] X.env=[(false,eval a X.env)]:=by rfl):DI X tg (.Call (.Name "range" p) [a] [] pos) (aU ta):=PI.imp (uA hg hm ha hs) pc
section
mutual
inductive Bel(k:Nat):D->Prop
 | non:Bel k .non
 | bl (b:Bool):Bel k (.bl b)
 | int (i:Int):Bel k (.int i)
 | str (x:Str):Bel k (.str x)
 | ty (n:String):Bel k (.ty n)
 | tup {ds:List D} (h:Bels k ds):Bel k (.tup ds)
 | ref {n:Nat} (h:n<k):Bel k (.ref n)
inductive Bels(k:Nat):List D->Prop
 | nil:Bels k []
 | cons {d:D}{ds:List D} (h:Bel k d) (t:Bels k ds):Bels k (d::ds)
end
noncomputable def MO.items:MO->List D
 | .lst xs=>xs
 | .fz xs=>xs
 | .kl xs=>xs
 | .dct kvs=>kvs.map (·.2)
 | .dkt kvs=>kvs.map (·.2)
 | .dkq _ kvs=>kvs.map (·.2)
 | .fdc _ kvs=>kvs.map (·.2)
 | .dkm kvs=>kvs.map (·.2)
 | .tb _ _=>[]
 | .exc _ _=>[]
 | .ins _ fs=>fs.map (·.2)
 | .tl _ _ _ _=>[]
theorem Rep.bel{K:AA2}{ρ:List Addr}{H:Hp}{d:D}{v:V}(h:Rep K ρ H d v):Bel ρ.length d :=
 Rep.rec (motive_1:=λd v _=>Bel ρ.length d) (motive_2:=λds vs _=>Bels ρ.length ds) .non .bl .int .str .ty (λ_ _ r=>.tup r) (λh=>.ref (AA7.mp h).1) .nil (λ_ _ h t=>.cons h t) h
theorem Reps.bel{K:AA2}{ρ:List Addr}{H:Hp}{ds:List D}{vs:List V}(h:Reps K ρ H ds vs):Bels ρ.length ds :=
 Reps.rec (motive_1:=λd v _=>Bel ρ.length d) (motive_2:=λds vs _=>Bels ρ.length ds) .non .bl .int .str .ty (λ_ _ r=>.tup r) (λh=>.ref (AA7.mp h).1) .nil (λ_ _ h t=>.cons h t) h
theorem Bel.inv(b:Bel k d):(∀ds,d=.tup ds->Bels k ds)/\∀n,d=.ref n->n<k:=by
 cases b with
 | tup b=>exact⟨(λ_ e=>by injection e with e;exact e ▸ b),(λ_ e=>by cases e)⟩
 | ref b=>exact⟨(λ_ e=>by cases e),(λ_ e=>by injection e with e;exact e ▸ b)⟩
 | _=>exact⟨(λ_ e=>by cases e),(λ_ e=>by cases e)⟩
theorem Bels.inv{k:Nat}{d:D}{ds:List D}(b:Bels k (d::ds)):Bel k d/\Bels k ds:=by
 cases b with
 | cons b c=>exact⟨b,c⟩
theorem Rep.cut{K:AA2}{ρ:List Addr}{H:Hp}{k:Nat}{d:D}{v:V}(h:Rep K ρ H d v):Bel k d->Rep K (ρ.take k) H d v :=
 Rep.rec (motive_1:=λd v _=>Bel k d->Rep K (ρ.take k) H d v) (motive_2:=λds vs _=>Bels k ds->Reps K (ρ.take k) H ds vs) (λ_=>.non) (λb _=>.bl b) (λb _=>.int b) (λb _=>.str b) (λb _=>.ty b) (λh _ r b=>.tup h (r (b.inv.1 _ rfl)))
  (λh b=>.ref (by rw[ABI (b.inv.2 _ rfl)];exact h)) (λ_=>.nil) (λ_ _ h t b=>.cons (h b.inv.1) (t b.inv.2)) h
theorem Reps.cut{K:AA2}{ρ:List Addr}{H:Hp}{k:Nat}{ds:List D}{vs:List V}(h:Reps K ρ H ds vs):Bels k ds->Reps K (ρ.take k) H ds vs :=
 Reps.rec (motive_1:=λd v _=>Bel k d->Rep K (ρ.take k) H d v) (motive_2:=λds vs _=>Bels k ds->Reps K (ρ.take k) H ds vs) (λ_=>.non) (λb _=>.bl b) (λb _=>.int b) (λb _=>.str b) (λb _=>.ty b) (λh _ r b=>.tup h (r (b.inv.1 _ rfl)))
  (λh b=>.ref (by rw[ABI (b.inv.2 _ rfl)];exact h)) (λ_=>.nil) (λ_ _ h t b=>.cons (h b.inv.1) (t b.inv.2)) h
theorem Bel.mono{j k:Nat}(h:j<=k){d:D}(b:Bel j d):Bel k d :=
 Bel.rec (motive_1:=λd _=>Bel k d) (motive_2:=λds _=>Bels k ds) .non .bl .int .str .ty (λ_ b=>.tup b) (λb=>.ref (AAP b h)) .nil (λ_ _ b c=>.cons b c) b
theorem Bels.mono{j k:Nat}(h:j<=k){ds:List D}(b:Bels j ds):Bels k ds :=
 Bels.rec (motive_1:=λd _=>Bel k d) (motive_2:=λds _=>Bels k ds) .non .bl .int .str .ty (λ_ b=>.tup b) (λb=>.ref (AAP b h)) .nil (λ_ _ b c=>.cons b c) b
theorem Bels.of:∀{xs:List D},(∀d∈xs,Bel k d)->Bels k xs
 | [],_=>.nil
 | d::ds,h=>.cons (h d AAE) (Bels.of λe he=>h e (AA9 _ he))
section
variable{K:AA2}{ρ ρ':List Addr}{H H':Hp}{M M':Mem}
theorem qT:∀(n:Nat) (d:D),hV n d=true->Bel k d:=by
 intro n
 induction n with
 | zero =>
  intro d h
  cases d with
  | str x=>exact .str x
  | int x=>exact .int x
  | _=>cases h
 | succ n ih =>
  intro d h
  cases d with
  | str x=>exact .str x
  | int x=>exact .int x
  | tup ds=>exact .tup (Bels.of λx hx=>ih x (AAb.mp (show ds.all (hV n)=true from h) x hx))
  | _=>cases h
theorem vm(r:Paired (om K ρ H) kvs xs):Bels ρ.length (kvs.map (·.2)):=by
 induction r with
 | nil=>exact .nil
 | cons q _ ih =>
  obtain⟨_,_,_,v,q4,_⟩:=q
  exact .cons q4.bel ih
theorem vj(r:Paired (om K ρ H) kvs xs)(b:Bels k (kvs.map (·.2))):Paired (om K (ρ.take k) H) kvs xs:=by
 induction r with
 | nil=>exact .nil
 | cons q _ ih =>
  obtain⟨q1,q2,q3,v,q4,q5⟩:=q
  rw[AAQ]at b
  cases b with
  | cons b1 b2=>exact .cons ⟨q1,q2,q3.cut (qT _ _ q2),v,q4.cut b1,q5⟩ (ih b2)
theorem xW:∀(d:D),keyM d=true->Bel k d
 | .non,_=>.non
 | .tup ks,h=>qT 8 _ h
 | .bl _,h=>nomatch h
 | .int _,h=>nomatch h
 | .str _,h=>nomatch h
 | .ty _,h=>nomatch h
 | .ref _,h=>nomatch h
theorem As(r:Paired (KvM K ρ H) kvs xs):Bels ρ.length (kvs.map (·.2)):=by
 induction r with
 | nil=>exact .nil
 | cons q _ ih =>
  obtain⟨_,_,_,v,q4,_⟩:=q
  exact .cons q4.bel ih
theorem Ar(r:Paired (KvM K ρ H) kvs xs)(b:Bels k (kvs.map (·.2))):Paired (KvM K (ρ.take k) H) kvs xs:=by
 induction r with
 | nil=>exact .nil
 | cons q _ ih =>
  obtain⟨q1,q2,⟨u,q3,q3'⟩,v,q4,q5⟩:=q
  rw[AAQ]at b
  cases b with
  | cons b1 b2=>exact .cons ⟨q1,q2,⟨u,q3.cut (xW _ q2),q3'⟩,v,q4.cut b1,q5⟩ (ih b2)
theorem sO.bels(h:sO K ρ H a mo):Bels ρ.length mo.items:=by
 cases mo with
 | lst ds=>obtain⟨vs,_,r⟩:=h;exact r.bel
 | fz ds=>obtain⟨o,vs,_,r⟩:=h;exact r.bel
 | kl ds=>obtain⟨vs,_,r⟩:=h;exact r.bel
 | dct kvs=>obtain⟨vs,_,r⟩:=h;exact r.bel
 | dkt kvs=>obtain⟨_,_,_,xs,_,r⟩:=h;exact vm r
 | dkq _ kvs=>obtain⟨_,_,_,xs,_,r⟩:=h;exact vm r
 | fdc o kvs=>obtain⟨vs,_,r⟩:=h;exact r.bel
 | dkm kvs=>obtain⟨_,_,_,xs,_,r⟩:=h;exact As r
 | tb x b=>exact .nil
 | exc x e=>exact .nil
 | ins c fs=>obtain⟨_,_,vs,_,_,r⟩:=h;exact r.bel
 | tl x p q e=>exact .nil
theorem sO.cut(h:sO K ρ H a mo)(b:Bels k mo.items):sO K (ρ.take k) H a mo:=by
 cases mo with
 | lst ds=>obtain⟨vs,e,r⟩:=h;exact⟨vs,e,r.cut b⟩
 | fz ds=>obtain⟨o,vs,e,r⟩:=h;exact⟨o,vs,e,r.cut b⟩
 | kl ds=>obtain⟨vs,e,r⟩:=h;exact⟨vs,e,r.cut b⟩
 | dct kvs=>obtain⟨vs,e,r⟩:=h;exact⟨vs,e,r.cut b⟩
 | dkt kvs=>obtain⟨h1,h2,h3,xs,e,r⟩:=h;exact⟨h1,h2,h3,xs,e,vj r b⟩
 | dkq _ kvs=>obtain⟨h1,h2,h3,xs,e,r⟩:=h;exact⟨h1,h2,h3,xs,e,vj r b⟩
 | fdc o kvs=>obtain⟨vs,e,r⟩:=h;exact⟨vs,e,r.cut b⟩
 | dkm kvs=>obtain⟨h1,h2,h3,xs,e,r⟩:=h;exact⟨h1,h2,h3,xs,e,Ar r b⟩
 | tb x b=>exact h
 | exc x e=>exact h
 | ins c fs=>obtain⟨C,dx,vs,n,e,r⟩:=h;exact⟨C,dx,vs,n,e,r.cut b⟩
 | tl x p q e=>exact h
theorem Sim.bels(S:Sim K ρ M H){n:Nat}{mo:MO}(e:M[n]?=some mo):Bels M.length mo.items:=by
 obtain⟨a,_,h⟩:=S.get e
 rw[<-S.len]
 exact h.bels
theorem Sim.cut(S:Sim K ρ M H)(k:Nat)(hb:∀(n:Nat) (mo:MO),n<k->M[n]?=some mo->Bels k mo.items):Sim K (ρ.take k) (M.take k) H:=by
 have lt:∀{n:Nat}{a:Addr},(ρ.take k)[n]?=some a->n<k/\ρ[n]?=some a:=λ{n a} e=>by
  have h1:=(AA7.mp e).1
  rw[ABM]at h1
  have h2:n<k:=by lia
  rw[ABI h2]at e
  exact⟨h2,e⟩
 refine⟨λn m a hne e1 e2=>?_,by rw[ABM,ABM,S.len],λn a mo e1 e2=>?_⟩
 ·obtain⟨l1,f1⟩:=lt e1
  obtain⟨l2,f2⟩:=lt e2
  rw[ABI l1,ABI l2]
  exact S.nd n m a hne f1 f2
 ·obtain⟨l1,f1⟩:=lt e1
  rw[ABI l1]at e2
  exact(S.obj n a mo f1 e2).cut (hb n mo l1 e2)
theorem SRep.cut(r:SRep K ρ H S σ)(hl:S'.length=S.length)(h:∀(i:Nat) d,S'[i]?=some (some d)->S[i]?=some (some d)/\Bel k d):SRep K (ρ.take k) H S' σ :=
 ⟨hl.trans r.len,λi d e=>let ⟨e',b⟩:=h i d e;let ⟨v,hv,rv⟩:=r.get i d e';⟨v,hv,rv.cut b⟩⟩
theorem Grow.cut(g:Grow K ρ H ρ' H')(h:ρ.length<=k):Grow K ρ H (ρ'.take k) H':=by
 refine⟨?_,g.tup,g.fr⟩
 obtain⟨t,rfl⟩:=g.pre
 rw[List.take_append]
 rw[List.take_of_length_le h]
 exact AAT _ _
end
inductive FgtS(k:Nat):SD->SD->Prop
 | nil:FgtS k [] []
 | keep {d:D}{S S':SD} (h:Bel k d) (t:FgtS k S S'):FgtS k (some d::S) (some d::S')
 | drop {o:Option D}{S S':SD} (t:FgtS k S S'):FgtS k (o::S) (none::S')
theorem FgtS.len(h:FgtS k S S'):S'.length=S.length:=by
 induction h with
 | nil=>rfl
 | keep _ _ ih=>rw[AAO,AAO,ih]
 | drop _ ih=>rw[AAO,AAO,ih]
theorem FgtS.get(h:FgtS k S S'):∀(i:Nat) d,S'[i]?=some (some d)->S[i]?=some (some d)/\Bel k d:=by
 induction h with
 | nil=>intro i d e;simp at e
 | keep b _ ih =>
  intro i d e
  cases i with
  | zero=>simp at e;subst e;exact⟨rfl,b⟩
  | succ i=>exact ih i d (by simpa using e)
 | drop _ ih =>
  intro i d e
  cases i with
  | zero=>simp at e
  | succ i=>exact ih i d (by simpa using e)
def Fgt(M0:Mem)(P:SD->Mem->Prop)(S:SD)(M:Mem):Prop :=
 P S M\/(∃k S',M0.length<=k/\FgtS k S S'/\(∀(n:Nat) mo,n<k->M[n]?=some mo->Bels k mo.items)/\P S' (M.take k))\/∃S',FgtS M0.length S S'/\M0 <+: M/\P S' M0
theorem wY{α:Type}{l l':List α}(h:l <+: l'):l'.take l.length=l:=by
 obtain⟨t,rfl⟩:=h
 rw[List.take_append_of_le_length (AAA _),ABN]
theorem SQ.fgt{K:AA2}{ρ:List Addr}{H:Hp}{M0:Mem}{P:SD->Mem->Prop}{σ':St}{H':Hp}(s0:Sim K ρ M0 H)(h:SQ K ρ H (Fgt M0 P) σ' H'):SQ K ρ H P σ' H':=by
 have hk:ρ.length<=M0.length:=by rw[s0.len];exact AAA _
 obtain⟨S',M',ρ',s',g',sr',q'⟩:=h
 rcases q' with q' | ⟨k,S2,h1,h2,h4,q⟩|⟨S2,h2,hp,q⟩
 ·exact⟨S',M',ρ',s',g',sr',q'⟩
 ·exact⟨S2,M'.take k,ρ'.take k,s'.cut k h4,g'.cut (AB4 hk h1),sr'.cut h2.len h2.get,q⟩
 ·have sc:=s'.cut M0.length λn mo hn e=>by
   obtain⟨t,rfl⟩:=hp
   rw[AAL hn]at e
   exact s0.bels e
  rw[wY hp]at sc
  exact⟨S2,M0,ρ'.take M0.length,sc,g'.cut hk,sr'.cut h2.len h2.get,q⟩
def lz(ok:Mem->Prop)(g:DTG)(tb:DTS)(E:DEnds)(k0:Mem):List D->SD->Mem->Prop
 | [],S,M=>ok M/\E.nx S M
 | x::xs,S,M=>ok M/\g x S M λS2 M2=>tb ⟨Fgt k0 (lz ok g tb E k0 xs),E.rt,E.nx,Fgt k0 (lz ok g tb E k0 xs)⟩ S2 M2
def gJ(di:DTI)(g:DTG)(tb:DTS):DTS:=λE S M=>di S M λsrc M1=>lz src.ok g tb E M1 src.items S M1
theorem nH{α:Type}{l:List α}{i:Nat}{x:α}(h:l[i]?=some x):l.drop i=x::l.drop (i+1):=by
 obtain⟨hi,e⟩:=AA7.mp h
 rw[List.drop_eq_getElem_cons hi,e]
theorem xJ{K:AA2}{di:DTI}{g:DTG}{tb:DTS}(E:Ends)(σ:St)(H:Hp)(h:lowS K (gJ di g tb) E σ H):tFor (lowI K di) (lowG K g) (lowS K tb) E σ H:=by
 obtain⟨S,M,ρ,F,s,sr,q,k⟩:=h
 refine⟨S,M,ρ,_,s,sr,q,?_⟩
 rintro J H1 ⟨src,M1,ρ1,s1,g1,it,q1⟩
 have k1:=k.trans g1
 refine⟨λi m τ H2=>∃S2 M2 ρ2,Sim K ρ2 M2 H2/\Grow K ρ1 H1 ρ2 H2/\SRep K ρ2 H2 S2 τ/\i<=src.items.length/\m=src.items.length-i/\lz src.ok g tb F M1 (src.items.drop i) S2 M2,
  ⟨_,S,M1,ρ1,s1,.refl,sr.grow g1,AAX _,rfl,q1⟩,?_⟩
 rintro i m τ H2 ⟨S2,M2,ρ2,s2,g2,sr2,hi,rfl,q2⟩
 by_cases hlt:i<src.items.length
 ·have hx:src.items[i]?=some src.items[i]:=AA6 hlt
  rw[nH hx]at q2
  obtain⟨ok,q3⟩:=(show src.ok M2/\g src.items[i] S2 M2 _ from q2)
  refine .inr ⟨it.go i ρ2 M2 H2 s2 g2 ok hlt,_,λτ' H' z=>z,λx H3 y=>?_⟩
  obtain⟨d,ρ3,hd,s3,g3,r3⟩:=it.yld i ρ2 M2 H2 x H3 s2 g2 ok hlt y
  have ed:d=src.items[i]:=AAM (hd.symm.trans hx)
  subst ed
  refine⟨_,S2,M2,ρ3,_,s3,sr2.grow g3,r3,q3,?_⟩
  rintro τ4 H4 ⟨S4,M4,ρ4,s4,g4,sr4,q4⟩
  have g14:=(g2.trans g3).trans g4
  refine⟨S4,M4,ρ4,_,s4,sr4,q4,?_⟩
  have again:∀τ5 H5,SQ K ρ4 H4 (Fgt M1 (lz src.ok g tb F M1 (src.items.drop (i+1)))) τ5 H5 ->
    ∃m',m' < src.items.length-i/\∃S2 M2 ρ2,Sim K ρ2 M2 H5/\Grow K ρ1 H1 ρ2 H5/\SRep K ρ2 H5 S2 τ5/\i+1<=src.items.length/\m'=src.items.length-(i+1)/\lz src.ok g tb F M1 (src.items.drop (i+1)) S2 M2:=λτ5 H5 z=>by
   obtain⟨S5,M5,ρ5,s5,g5,sr5,q5⟩:=SQ.fgt (ρ:=ρ1) (H:=H1) s1 (SQ.trans g14 z)
   exact⟨_,by lia,S5,M5,ρ5,s5,g5,sr5,hlt,rfl,q5⟩
  exact⟨again,λv H5 z=>k1.rt v H5 (VQ.trans g14 z),λτ5 H5 z=>k1.nx τ5 H5 (SQ.trans g14 z),again⟩
 ·have e:i=src.items.length:=by lia
  subst e
  rw[List.drop_of_length_le (AAA _)]at q2
  obtain⟨ok,q3⟩:=(show src.ok M2/\F.nx S2 M2 from q2)
  exact .inl ⟨it.stop ρ2 M2 H2 s2 g2 ok,k1.nx τ H2 ⟨S2,M2,ρ2,s2,g2,sr2,q3⟩⟩
theorem Es(hi:DI X tg iter di)(hg:DG X tg g)(hb:DSs X body tb)(hp:PassesOwn (model X.prog X.w) X.A X.env X.xe:=by exact PassesOwn.never)(hc:X.calm=true:=by rfl)
  (hs:∀x,foldedSetIterable iter X.env x=pure x:=by intro _;rfl):DS X (.For tg iter body [] pos) (gJ di g tb):=PS.imp (Cs hp hc hi hg hb hs) xJ
noncomputable def EA(nt:Nat)(js:List Nat)(S:SD):SD:=ADV nt none++js.map λj=>(S[j]?).join
def gK(ok:Mem->Prop)(g:DTG)(tt:DTT)(te:DTE)(Q:DK):List D->List D->SD->Mem->Prop
 | [],acc,S,M=>ok M/\Q (.ref M.length) (M++[.lst acc])
 | x::xs,acc,S,M=>ok M/\g x S M λS2 M2=>tt S2 M2 λb M3=>if b=true then te S2 M3 λy M4=>acc.length<sizeLine/\gK ok g tt te Q xs (acc++[y]) S2 M4 else gK ok g tt te Q xs acc S2 M3
def dLC(nt:Nat)(js:List Nat)(di:DTI)(g:DTG)(tt:DTT)(te:DTE):DTE:=λS M Q=>di S M λsrc M1=>gK src.ok g tt te Q src.items [] (EA nt js S) M1
theorem SRep.bst{K:AA2}{ρ:List Addr}{H:Hp}{S:SD}{σ:St}(r:SRep K ρ H S σ)(nt:Nat)(js:List Nat):SRep K ρ H (EA nt js S) (L2.bst nt js σ):=by
 refine⟨by simp[EA,wy],λi d e=>?_⟩
 unfold EA at e
 unfold L2.bst
 by_cases hi:i<nt
 ·rw[AAL (by simpa using hi),ACK]at e
  simp[hi]at e
 ·rw[AAY (by simpa using Nat.not_lt.mp hi),ACT,AAN]at e
  rw[AAY (by simpa using Nat.not_lt.mp hi),ACT,AAN]
  cases q:js[i-nt]? with
  | none=>rw[q]at e;cases e
  | some j =>
   rw[q]at e
   have e':(S[j]?).join=some d:=by simpa using e
   cases q2:S[j]? with
   | none=>rw[q2]at e';cases e'
   | some o =>
    rw[q2]at e'
    have e2:o=some d:=e'
    subst e2
    obtain⟨v,hv,rv⟩:=r.get j d q2
    exact⟨v,by simp[hv],rv⟩
theorem uS{K:AA2}{nt:Nat}{js:List Nat}{di:DTI}{g:DTG}{tt:DTT}{te:DTE}(σ:St)(H:Hp)(R:VK)(h:lowE K (dLC nt js di g tt te) σ H R):tLC nt js (lowI K di) (lowG K g) (lowT K tt) (lowE K te) σ H R:=by
 obtain⟨S,M,ρ,Q,s,sr,q,k⟩:=h
 refine⟨S,M,ρ,_,s,sr,q,?_⟩
 rintro J H1 ⟨src,M1,ρ1,s1,g1,it,q1⟩
 refine⟨λi m vs τ H2=>∃S2 M2 ρ2 acc,Sim K ρ2 M2 H2/\Grow K ρ1 H1 ρ2 H2/\SRep K ρ2 H2 S2 τ/\Reps K ρ2 H2 acc vs/\i<=src.items.length/\m=src.items.length-i/\gK src.ok g tt te Q (src.items.drop i) acc S2 M2,
  ⟨_,_,M1,ρ1,[],s1,.refl,(sr.grow g1).bst nt js,.nil,AAX _,rfl,q1⟩,?_⟩
 rintro i m vs τ H2 ⟨S2,M2,ρ2,acc,s2,g2,sr2,ra,hi,rfl,q2⟩
 by_cases hlt:i<src.items.length
 ·have hx:src.items[i]?=some src.items[i]:=AA6 hlt
  rw[nH hx]at q2
  obtain⟨ok,q3⟩:=(show src.ok M2/\g src.items[i] S2 M2 _ from q2)
  refine .inr ⟨it.go i ρ2 M2 H2 s2 g2 ok hlt,λx H3 y=>?_⟩
  obtain⟨d,ρ3,hd,s3,g3,r3⟩:=it.yld i ρ2 M2 H2 x H3 s2 g2 ok hlt y
  have ed:d=src.items[i]:=AAM (hd.symm.trans hx)
  subst ed
  refine⟨_,S2,M2,ρ3,_,s3,sr2.grow g3,r3,q3,?_⟩
  rintro τ4 H4 ⟨S4,M4,ρ4,s4,g4,sr4,q4⟩
  refine⟨S4,M4,ρ4,_,s4,sr4,q4,?_⟩
  rintro b H5 ⟨M5,ρ5,s5,g5,q5⟩
  have g15:=((g2.trans g3).trans g4).trans g5
  cases b with
  | false=>exact eE ⟨_,by lia,S4,M5,ρ5,acc,s5,g15,sr4.grow g5,ra.grow ((g3.trans g4).trans g5),hlt,rfl,(show gK src.ok g tt te Q (src.items.drop (i+1)) acc S4 M5 from q5)⟩
  | true =>
   refine fy ⟨S4,M5,ρ5,_,s5,sr4.grow g5,(show te S4 M5 _ from q5),?_⟩
   rintro v H6 ⟨y',M6,ρ6,s6,g6,r6,hl,q6⟩
   have ra6:=ra.grow (((g3.trans g4).trans g5).trans g6)
   exact⟨by rw[<-ra.length];exact hl,_,by lia,S4,M6,ρ6,acc++[y'],s6,g15.trans g6,sr4.grow (g5.trans g6),ra6.append (.cons r6 .nil),hlt,rfl,q6⟩
 ·have e:i=src.items.length:=by lia
  subst e
  rw[List.drop_of_length_le (AAA _)]at q2
  obtain⟨ok,q3⟩:=(show src.ok M2/\Q (.ref M2.length) (M2++[.lst acc])from q2)
  exact .inl ⟨it.stop ρ2 M2 H2 s2 g2 ok,λp hp=>k _ _ (VQ.laidL s2 (g1.trans g2) ra hp q3)⟩
theorem d_lc(B:BlkSc X N' nt js scope)(hi:DI X tg iter di)
  (hg:∀cl s0 H0 ex,DG (blk X N' scope cl s0 H0 ex) tg g) (ht:∀cl s0 H0 ex,PTs (blk X N' scope cl s0 H0 ex) ifs (lowT X.K tt)) (he:∀cl s0 H0 ex,DE (blk X N' scope cl s0 H0 ex) elt te) (hc:X.calm=true:=by rfl)
  (hs:∀x,foldedSetIterable iter X.env x=pure x:=by intro _;rfl):DE X (.ListComp elt [⟨tg,iter,ifs,0⟩] scope pos) (dLC nt js di g tt te):=PE.imp (pe_lc (g:=lowG X.K g) (tt:=lowT X.K tt) (te:=lowE X.K te) B hc hi (λcl s0 H0 ex=>hg cl s0 H0 ex) ht (λcl s0 H0 ex=>he cl s0 H0 ex) hs) uS
def lh:DTT:=λ_ M Q=>Q true M
theorem Bf:PTs X [] (lowT X.K lh):=λpins s σ H R I ⟨S,M,ρ,Q,sm,sr,q,k⟩=>zz pins s σ H R I (k true H ⟨M,ρ,sm,.refl,q⟩)
theorem Be(h:DT X c t):PTs X [c] (lowT X.K t):=zy h
def Chg(M M1:Mem):Prop:=M1.length=M.length/\∀(i:Nat) (mo:MO),M1[i]?=some mo->M[i]?=some mo\/Bels M.length mo.items
theorem Chg.refl:Chg M M:=⟨rfl,λ_ _ h=>.inl h⟩
theorem Chg.set(c:Chg M M1)(b:Bels M.length mo.items):Chg M (M1.set n mo):=by
 refine⟨by rw[ABe];exact c.1,λi mo' h=>?_⟩
 by_cases e:n=i
 ·subst e
  by_cases hl:n<M1.length
  ·rw[ABQ hl]at h
   cases h
   exact .inr b
  ·rw[ABo (by rw[ABe];lia)]at h
   cases h
 ·rw[ABf e]at h
  exact c.2 i mo' h
def aH(M:Mem)(R:DK):DK:=λd M'=>R d M'\/(∃M1,Chg M M1/\Bel M.length d/\M1 <+: M'/\R d M1)\/∃M1 n xs,Chg M M1/\d=.ref n/\M.length<=n/\M'[n]?=some (.lst xs)/\M1 <+: M'/\Bels M.length xs/\R (.ref M.length) (M1++[.lst xs])
theorem cM{α:Type}{l l':List α}(h:l <+: l'):l'.take l.length=l:=by
 obtain⟨t,rfl⟩:=h
 rw[List.take_append_of_le_length (AAA _),ABN]
theorem VQ.endq{K:AA2}{ρ:List Addr}{M:Mem}{H:Hp}{R:DK}{v:V}{H':Hp}(s:Sim K ρ M H)(h:VQ K ρ H (aH M R) v H'):VQ K ρ H R v H':=by
 obtain⟨d,M',ρ',s',g',r',q'⟩:=h
 have hρ:ρ'.take M.length=ρ:=by rw[<-s.len];exact cM g'.pre
 rcases q' with q | ⟨M1,c,b,pre,q⟩|⟨M1,n,xs,c,rfl,hnM,e,pre,b,q⟩
 ·exact⟨d,M',ρ',s',g',r',q⟩
 ·have sc:=s'.cut M.length λn mo hn e=>by
   have e':M1[n]?=some mo:=by
    obtain⟨t,rfl⟩:=pre
    rw[AAL (by rw[c.1];exact hn)]at e
    exact e
   exact(c.2 n mo e').elim (λz=>s.bels z) id
  have tk:M'.take M.length=M1:=by rw[<-c.1];exact cM pre
  rw[hρ,tk]at sc
  have rc:=r'.cut b
  rw[hρ]at rc
  exact⟨d,M1,ρ,sc,⟨ACV,g'.tup,g'.fr⟩,rc,q⟩
 ·have sc:=s'.cut M.length λn mo hn e=>by
   have e':M1[n]?=some mo:=by
    obtain⟨t,rfl⟩:=pre
    rw[AAL (by rw[c.1];exact hn)]at e
    exact e
   exact(c.2 n mo e').elim (λz=>s.bels z) id
  have tk:M'.take M.length=M1:=by rw[<-c.1];exact cM pre
  rw[hρ,tk]at sc
  obtain⟨a,rfl,hn⟩:=Rep.inv_ref r'
  obtain⟨vs,hH,rr⟩:=s'.obj n a _ hn e
  have rc:=rr.cut b
  rw[hρ]at rc
  have g2:Grow K ρ H' (ρ++[a]) H':=⟨AAT _ _,λ_ _ h=>h,λ_ _ h=>h⟩
  have old:∀(m:Nat),ρ[m]?=some a->isK M1[m]?:=λm em=>by
   have hm:m≠n:=λz=>by
    have:m<M.length:=by rw[<-s.len];exact(AA7.mp em).1
    lia
   have q:=s'.nd m n a hm (av g'.pre em) hn
   have hlt:m<M.length:=by rw[<-s.len];exact(AA7.mp em).1
   rcases q with⟨ds,z⟩|⟨ds,z⟩
   ·refine⟨ds,?_⟩
    have hlt1:m<M1.length:=by rw[c.1];exact hlt
    have:=av pre (AA6 hlt1)
    rw[z]at this
    rw[AA6 hlt1]
    exact this.symm
   ·rw[e]at z;cases z
  refine⟨.ref M.length,M1++[.lst xs],ρ++[a],⟨λn1 m1 a1 hne e1 e2=>?_,by rw[AAH,AAH,sc.len];rfl,λn1 a1 mo e1 e2=>?_⟩,⟨AAT _ _,g'.tup,g'.fr⟩,.ref (by have:=sc.last (p:=a);rw[c.1]at this;exact this),q⟩
  ·rcases bu e1 with f1 | ⟨f1,w1⟩
   ·rcases bu e2 with f2 | ⟨f2,w2⟩
    ·exact(sc.nd n1 m1 a1 hne f1 f2).elim (λz=>.inl z.more) λz=>.inr z.more
    ·subst w2
     exact .inl (old n1 f1).more
   ·rcases bu e2 with f2 | ⟨f2,w2⟩
    ·subst w1
     exact .inr (old m1 f2).more
    ·exact absurd (f1.trans f2.symm) hne
  ·rcases bu e1 with f1 | ⟨f1,w1⟩
   ·have hn1:n1<M1.length:=by rw[<-sc.len];exact(AA7.mp f1).1
    rw[AAL hn1]at e2
    exact(sc.obj n1 a1 mo f1 e2).grow g2 (.inl rfl)
   ·subst w1 f1
    rw[sc.len,AAY (AAA _),AD3]at e2
    simp at e2
    subst e2
    exact⟨vs,hH,rc.grow g2⟩
noncomputable def bw(N:List Str)(ds:List D):SD:=ds.map some++ADV (N.length-ds.length) none
theorem SRep.start{K:AA2}{ρ:List Addr}{H:Hp}{ds:List D}{vs:List V}(r:Reps K ρ H ds vs)(N:List Str):SRep K ρ H (bw N ds) (L2.start N vs):=by
 refine⟨by simp[bw,L2.start,r.length],λi d e=>?_⟩
 unfold bw at e
 unfold L2.start
 by_cases hi:i<ds.length
 ·rw[AAL (by simpa using hi),AAN]at e
  rw[AAL (by simpa [<-r.length]using hi),AAN]
  have e':ds[i]?=some d:=by
   rw[AA6 hi]at e ⊢
   simpa using e
  obtain⟨v,hv,rv⟩:=r.get e'
  exact⟨v,by rw[hv];rfl,rv⟩
 ·rw[AAY (by simpa using Nat.not_lt.mp hi),ACK]at e
  split at e<;>cases e
theorem d_fn{P:Program}{w:World}{K:AA2}{mg:Str->Option Value}{base:Heap}{x qual:Str}{st:Stmt}{f:Addr}{fd:FuncData}{N ps:List Str}{k:Nat}(Pr:DSp)(F:Fun K x qual st f fd)(Sc:FnScope N ps (ao st))
  (len:∀ds M R,Pr ds M R->ds.length=ps.length)
  (hbody:∀(cdv:Value) (A:Around) (outer:List Env) (s:Shared) (H:Hp) (E:XK),Room k (A.deeper (envOfC qual (ao st) s.heap.objs.size f cdv)) ->
   ∃t,DSs (nI CX0 P w K mg base N qual (ao st) f cdv A outer s H E).nox (aO st) t/\∀ds M R,Pr ds M R->t ⟨λ_ M'=>aH M R .non M',aH M R,λ_ _=>False,λ_ _=>False⟩ (bw N ds) M) :
  FnOk P w K mg base CX0 (k+1) f fd ps (spL K Pr):=by
 refine F.ok Sc (λvs H Q E ⟨ds,M,ρ,R,s,r,q,_⟩=>by rw[<-r.length];exact len ds M R q) λcdv A outer s H vs Q E hr h=>?_
 obtain⟨ds,M,ρ,R,sm,r,q,kk⟩:=h
 obtain⟨t,ht,hq⟩:=hbody cdv A outer s H E hr
 refine⟨lowS K t,ht,bw N ds,M,ρ,_,sm,SRep.start r N,hq ds M R q,⟨λσ' H' ⟨S',M',ρ',s',g',sr',q'⟩=>?_,λv H' z=>kk v H' (VQ.endq sm z),λσ' H' ⟨S',M',ρ',s',g',sr',q'⟩=>q'.elim,λσ' H' ⟨S',M',ρ',s',g',sr',q'⟩=>q'.elim⟩⟩
 exact kk .non H' (VQ.endq sm ⟨.non,M',ρ',s',g',.non,q'⟩)
end
theorem dfin(I:Inv X pins σ H s)(sm:Sim X.K ρ M H)(k:∀v H',VQ X.K ρ H Q v H'->R v H')(hv:cV d=some v)(rel:aK v u)(q:Q d M):EP X pins σ R u s :=
 ⟨v,H,I,rel,k v H (VQ.now sm (ww hv) q)⟩
theorem jz(I:Inv X pins σ H s)(sm:Sim X.K ρ M H)(k:∀v H',VQ X.K ρ H Q v H'->R v H')(q:Q (.bl b) M):EP X pins σ R (.bool b) s :=
 ⟨.bl b,H,I,rfl,k _ H (VQ.now sm (.bl b) q)⟩
def qAdd:DR2:=λx y M Q=>match x,y with
 | .int i,.int j=>Q (.int (i+j)) M
 | .str a,.str b=>a.length+b.length<=sizeLine/\Q (.str (a++b)) M
 | .ref n,.ref m=>∃xs ys,M[n]?=some (.lst xs)/\M[m]?=some (.lst ys)/\xs.length+ys.length<=sizeLine/\Q (.ref M.length) (M++[.lst (xs++ys)])
 | _,_=>False
theorem De:OpD X (binaryOp .Add) qAdd:=by
 refine OpR.imp (CS.or (sf.or CQ)) ?_
 rintro vx vy H R ⟨x,y,M,ρ,Q,sm,r1,r2,q,k⟩
 unfold qAdd at q
 split at q
 ·cases r1
  cases r2
  exact .inl ⟨_,_,rfl,rfl,k _ H (VQ.now sm (.int _) q)⟩
 ·cases r1
  cases r2
  exact .inr (.inl ⟨_,_,rfl,rfl,q.1,k _ H (VQ.now sm (.str _) q.2)⟩)
 ·obtain⟨xs,ys,e1,e2,hl,q⟩:=q
  obtain⟨_,rfl,h1⟩:=Rep.inv_ref r1
  obtain⟨_,rfl,h2⟩:=Rep.inv_ref r2
  obtain⟨vs,f1,g1⟩:=sm.obj _ _ _ h1 e1
  obtain⟨ws,f2,g2⟩:=sm.obj _ _ _ h2 e2
  exact .inr (.inr ⟨_,_,vs,ws,rfl,rfl,f1,f2,by rw[<-g1.length,<-g2.length];exact hl,λp hp=>k _ _ (VQ.laidL sm .refl (g1.append g2) hp q)⟩)
 ·exact q.elim
def zu:DR2:=λx y M Q=>match x,y with
 | .int i,.int j=>Q (.int (i-j)) M
 | _,_=>False
theorem CZ:OpD X (binaryOp .Sub) zu:=by
 refine OpR.imp CN ?_
 rintro vx vy H R ⟨x,y,M,ρ,Q,sm,r1,r2,q,k⟩
 unfold zu at q
 split at q
 ·cases r1
  cases r2
  exact⟨_,_,rfl,rfl,k _ H (VQ.now sm (.int _) q)⟩
 ·exact q.elim
def Fa(i j:Int):Prop:=0<j/\j<340282366920938463463374607431768211456
theorem xx:OpR X (binaryOp .FloorDiv) (rI Fa λi j=>.int (i / j)):=opI λi j _ _ _ _ _ hc q=>by
 have h1:(0:Int)<j:=hc.1
 have h2:j<340282366920938463463374607431768211456:=hc.2
 have h3:j.natAbs.log2<128:=(Nat.log2_lt (by lia)).mpr (by rw[show (2:Nat) ^ 128=340282366920938463463374607431768211456 by decide];lia)
 exact floordiv_int (by lia) (by rw[Int.fdiv_eq_ediv_of_nonneg i (by lia)];exact q) (.inl (PyProof.noPylong_of_log2 (by lia)))
def aC:DR2:=λx y M Q=>match x,y with
 | .int i,.int j=>Fa i j/\Q (.int (i / j)) M
 | _,_=>False
theorem Af:OpD X (binaryOp .FloorDiv) aC:=by
 refine OpR.imp xx ?_
 rintro vx vy H R ⟨x,y,M,ρ,Q,sm,r1,r2,q,k⟩
 unfold aC at q
 split at q
 ·cases r1
  cases r2
  exact⟨_,_,rfl,rfl,q.1,k _ H (VQ.now sm (.int _) q.2)⟩
 ·exact q.elim
def bC:DR2:=λx y M Q=>match x,y with
 | .int i,.int j=>0<j/\Q (.int (i % j)) M
 | _,_=>False
theorem Da:OpD X (binaryOp .Mod) bC:=by
 refine OpR.imp CP ?_
 rintro vx vy H R ⟨x,y,M,ρ,Q,sm,r1,r2,q,k⟩
 unfold bC at q
 split at q
 ·cases r1
  cases r2
  exact⟨_,_,rfl,rfl,q.1,k _ H (VQ.now sm (.int _) q.2)⟩
 ·exact q.elim
noncomputable def bB(a b:Str):Bool:=decide (a.cps.toList<b.cps.toList)
def qLt:DR2:=λx y M Q=>match x,y with
 | .int i,.int j=>Q (.bl (decide (i<j))) M
 | .str a,.str b=>Q (.bl (bB a b)) M
 | _,_=>False
def qGt:DR2:=λx y M Q=>match x,y with
 | .int i,.int j=>Q (.bl (decide (j<i))) M
 | .str a,.str b=>Q (.bl (bB b a)) M
 | _,_=>False
theorem Dc:OpD X (compareOp .Lt) qLt:=by
 rintro pins s σ H vx vy v u R I rx ry ⟨x,y,M,ρ,Q,sm,r1,r2,q,k⟩
 unfold qLt at q
 split at q
 ·cases r1
  cases r2
  exact op_lt pins s σ H _ _ v u R I rx ry ⟨_,_,rfl,rfl,k _ H (VQ.now sm (.bl _) q)⟩
 ·cases r1
  cases r2
  obtain⟨t,rfl⟩:=rx
  obtain⟨t',rfl⟩:=ry
  exact PySem.P.lt_str (jz I sm k q)
 ·exact q.elim
theorem od_gt:OpD X (compareOp .Gt) qGt:=by
 rintro pins s σ H vx vy v u R I rx ry ⟨x,y,M,ρ,Q,sm,r1,r2,q,k⟩
 unfold qGt at q
 split at q
 ·cases r1
  cases r2
  exact op_gt pins s σ H _ _ v u R I rx ry ⟨_,_,rfl,rfl,k _ H (VQ.now sm (.bl _) q)⟩
 ·cases r1
  cases r2
  obtain⟨t,rfl⟩:=rx
  obtain⟨t',rfl⟩:=ry
  exact PySem.P.gt_str (jz I sm k q)
 ·exact q.elim
def qIs:DR2:=λx y M Q=>match x,y with
 | .bl a,.bl b=>Q (.bl (a==b)) M
 | .non,.non=>Q (.bl true) M
 | _,.non=>Q (.bl false) M
 | _,_=>False
def mN:DR2:=λx y M Q=>match x,y with
 | .bl a,.bl b=>Q (.bl (a != b)) M
 | .non,.non=>Q (.bl false) M
 | _,.non=>Q (.bl true) M
 | _,_=>False
theorem uu{K:AA2}{ρ:List Addr}{H:Hp}{x:D}{v:V}(r:Rep K ρ H x v)(h:x≠.non):v≠.non:=by
 cases r<;>first | exact absurd rfl h | (intro z;cases z)
theorem od_is:OpD X (compareOp .Is) qIs:=by
 rintro pins s σ H vx vy v u R I rx ry ⟨x,y,M,ρ,Q,sm,r1,r2,q,k⟩
 unfold qIs at q
 split at q
 ·cases r1
  cases r2
  cases rx
  cases ry
  exact is_bool (jz I sm k q)
 ·cases r1
  cases r2
  cases rx
  cases ry
  exact is_none_gen (dfin (d:=.bl true) I sm k rfl rfl q)
 ·rename_i h1 h2
  cases r2
  cases ry
  refine is_none_gen (dfin (d:=.bl false) I sm k rfl ?_ q)
  have:=uu r1 λz=>by subst z;exact h2 rfl
  rw[rx.none_iff,dF_ this]
  rfl
 ·exact q.elim
theorem xD:OpD X (compareOp .IsNot) mN:=by
 rintro pins s σ H vx vy v u R I rx ry ⟨x,y,M,ρ,Q,sm,r1,r2,q,k⟩
 unfold mN at q
 split at q
 ·cases r1
  cases r2
  cases rx
  cases ry
  exact isnot_bool (jz I sm k q)
 ·cases r1
  cases r2
  cases rx
  cases ry
  exact isnot_none_gen (dfin (d:=.bl false) I sm k rfl rfl q)
 ·rename_i h1 h2
  cases r2
  cases ry
  refine isnot_none_gen (dfin (d:=.bl true) I sm k rfl ?_ q)
  have:=uu r1 λz=>by subst z;exact h2 rfl
  rw[rx.none_iff,dF_ this]
  rfl
 ·exact q.elim
noncomputable def tyD(M:Mem):D->String
 | .non=>"NoneType"
 | .bl _=>"bool"
 | .int _=>"int"
 | .str _=>"str"
 | .ty _=>"type"
 | .tup _=>"tuple"
 | .ref n=>match M[n]? with
  | some mo=>if mo.isL=true then "list" else "?"
  | none=>"?"
noncomputable def yU(t T:String):Bool:=t==T||(t == "bool" && T == "int")
noncomputable def BI:List String:=["NoneType","bool","int","str","list","tuple"]
noncomputable def BW:List String:=["bool","int","str","list","tuple"]
theorem Ay(K:AA2)(ht:t∈BI)(hT:T∈BW):ADu K (.type t) (.type T)=some (yU t T):=by
 simp only[BI,BW,AAG,ABF,or_false]at ht hT
 rcases ht with rfl | rfl | rfl | rfl | rfl | rfl<;>rcases hT with rfl | rfl | rfl | rfl | rfl<;>kernel_rfl
theorem yT(I:Inv X pins σ H s)(sm:Sim X.K ρ M H)(r:Rep X.K ρ H d v)(rv:aK v u)(hd:tyD M d∈BI)
  (step:∀(Hx:Heap->Prop),PySem.W.KitX X.K u (.type (tyD M d)) Hx->Hx s.heap->u≠.builtin "__main__.__loader__#opaque"->wpAny (model X.prog X.w) X.A (call (.builtin "isinstance") [u,c]) Q X.xe s):wpAny (model X.prog X.w) X.A (call (.builtin "isinstance") [u,c]) Q X.xe s:=by
 cases r with
 | non=>cases rv;exact step _ PySem.W.kitx_none ACN (λz=>nomatch z)
 | bl y=>cases rv;exact step _ PySem.W.kitx_bool ACN (λz=>nomatch z)
 | int i=>obtain⟨t,rfl⟩:=rv;exact step _ PySem.W.kitx_int ACN (λz=>nomatch z)
 | str i=>obtain⟨t,rfl⟩:=rv;exact step _ PySem.W.kitx_str ACN (λz=>nomatch z)
 | ty n=>exact absurd hd (by simp only[tyD];decide)
 | tup h rr =>
  cases rv
  obtain⟨its,_,⟨o,h1,h2,_⟩,_⟩:=I.tuple h
  exact step _ PySem.W.kitx_tuple ⟨o,h1,h2⟩ (λz=>nomatch z)
 | @ref n a e =>
  cases rv
  have hn:n<M.length:=by rw[<-sm.len];exact(AA7.mp e).1
  have hm:M[n]?=some M[n]:=AA6 hn
  have hd':(match M[n]? with | some mo=>if mo.isL=true then "list" else "?" | none=>"?")∈BI:=hd
  rw[hm]at hd'
  have hil:M[n].isL=true:=by
   cases q:M[n].isL with
   | true=>rfl
   | false =>
    simp only[q,AAZ,if_false]at hd'
    exact absurd hd' (by decide)
  have hL:aq M n M[n].items:=by
   cases q:M[n] with
   | lst xs=>exact .inl (by rw[hm,q];rfl)
   | fz xs=>exact .inr (.inl (by rw[hm,q];rfl))
   | kl xs=>exact .inr (.inr (by rw[hm,q];rfl))
   | dct xs=>rw[q]at hil;cases hil
   | dkt xs=>rw[q]at hil;cases hil
   | dkq _ xs=>rw[q]at hil;cases hil
   | fdc o xs=>rw[q]at hil;cases hil
   | dkm xs=>rw[q]at hil;cases hil
   | tb x b=>rw[q]at hil;cases hil
   | exc x e=>rw[q]at hil;cases hil
   | ins c fs=>rw[q]at hil;cases hil
   | tl x p q' e=>rw[q]at hil;cases hil
  obtain⟨vs,hq,_⟩:=aq.seq sm hL e
  obtain⟨its,_,⟨o,n',h1,h2,_⟩,_⟩:=I.list hq
  have ht:tyD M (.ref n) = "list":=by
   show (match M[n]? with | some mo=>if mo.isL=true then "list" else "?" | none=>"?") = "list"
   rw[hm]
   exact if_pos hil
  rw[ht]at step
  exact step _ PySem.W.kitx_list ⟨o,h1,h2⟩ (λz=>nomatch z)
def oJ:DRA:=λds M Q=>match ds with
 | [d,.ty T]=>(tyD M d∈BI/\T∈BW)/\Q (.bl (yU (tyD M d) T)) M
 | [d,.tup [.ty T,.ty T']]=>(tyD M d∈BI/\T∈BW/\T'∈BW)/\Q (.bl (yU (tyD M d) T||yU (tyD M d) T')) M
 | _=>False
theorem EM:fZ X (.builtin "isinstance") oJ:=by
 rintro pins s σ H vs us R I rv ⟨ds,M,ρ,Q,sm,rs,q,k⟩
 unfold oJ at q
 split at q
 ·rename_i d T
  obtain⟨⟨h1,h2⟩,q⟩:=q
  first | have hzz:=Reps.inv_cons rs | have hzz:=ar.inv_cons rs
  clear rs
  obtain⟨_,_,rfl,r1,rs⟩:=hzz
  first | have hzz:=Reps.inv_cons rs | have hzz:=ar.inv_cons rs
  clear rs
  obtain⟨_,_,rfl,r2,rs⟩:=hzz
  cases rs
  cases r2
  obtain⟨u,u',rfl,e1,e2⟩:=ar.two rv
  cases e2
  refine yT I sm r1 e1 h1 λHx Z p hx=>?_
  exact PySem.W.kia_one Z I.kIn p (Ay X.K h1 h2) hx λtk=>jz (I.tok tk) sm k q
 ·rename_i d T T'
  obtain⟨⟨h1,h2,h3⟩,q⟩:=q
  first | have hzz:=Reps.inv_cons rs | have hzz:=ar.inv_cons rs
  clear rs
  obtain⟨_,_,rfl,r1,rs⟩:=hzz
  first | have hzz:=Reps.inv_cons rs | have hzz:=ar.inv_cons rs
  clear rs
  obtain⟨_,_,rfl,r2,rs⟩:=hzz
  cases rs
  obtain⟨u,u',rfl,e1,e2⟩:=ar.two rv
  obtain⟨a,ws,rfl,hq,rt⟩:=Rep.inv_tup r2
  cases e2
  obtain⟨its,rr,⟨o,g1,g2,n,g3⟩,_⟩:=I.tuple hq
  first | have hzz:=Reps.inv_cons rt | have hzz:=ar.inv_cons rt
  clear rt
  obtain⟨_,_,rfl,t1,rt⟩:=hzz
  first | have hzz:=Reps.inv_cons rt | have hzz:=ar.inv_cons rt
  clear rt
  obtain⟨_,_,rfl,t2,rt⟩:=hzz
  cases rt
  cases t1
  cases t2
  obtain⟨w1,w2,rfl,f1,f2⟩:=ar.two rr
  cases f1
  cases f2
  obtain⟨oc,od,odt,osl⟩:=o
  cases g2
  cases g3
  refine yT I sm r1 e1 h1 λHx Z p hx=>?_
  refine PySem.W.kia_tup Z I.kIn p g1 (b:=yU (tyD M d) T||yU (tyD M d) T') ?_ hx λtk=>jz (I.tok tk) sm k q
  show (match ADu X.K (.type (tyD M d)) (.type T)with | some true=>some true | some false=>PySem.W.kitAny X.K (.type (tyD M d)) [.type T'] | none=>none)=_
  rw[Ay X.K h1 h2]
  cases yU (tyD M d) T with
  | true=>rfl
  | false =>
   show (match ADu X.K (.type (tyD M d)) (.type T')with | some true=>some true | some false=>some false | none=>none)=_
   rw[Ay X.K h1 h3]
   cases yU (tyD M d) T'<;>rfl
 ·exact q.elim
def ju:DRA:=λds M Q=>match ds with
 | [.str x]=>x.length<=sizeLine/\Q (.int x.length) M
 | [.tup xs]=>Q (.int xs.length) M
 | [.ref n]=>∃xs,aq M n xs/\Q (.int xs.length) M
 | _=>False
theorem EL:fZ X (.builtin "len") ju:=by
 refine du.imp (nO.or nL) ?_
 rintro vs H R ⟨ds,M,ρ,Q,sm,rs,q,k⟩
 unfold ju at q
 split at q
 ·first | have hzz:=Reps.inv_cons rs | have hzz:=ar.inv_cons rs
  clear rs
  obtain⟨_,_,rfl,r1,rs⟩:=hzz
  cases rs
  cases r1
  exact .inr ⟨_,rfl,q.1,k _ H (VQ.now sm (.int _) q.2)⟩
 ·first | have hzz:=Reps.inv_cons rs | have hzz:=ar.inv_cons rs
  clear rs
  obtain⟨_,_,rfl,r1,rs⟩:=hzz
  cases rs
  cases r1 with
  | tup h r=>exact .inl ⟨_,_,rfl,.inr h,k _ H (VQ.now sm (by rw[<-r.length];exact .int _) q)⟩
 ·obtain⟨xs,hL,q⟩:=q
  first | have hzz:=Reps.inv_cons rs | have hzz:=ar.inv_cons rs
  clear rs
  obtain⟨_,_,rfl,r1,rs⟩:=hzz
  cases rs
  obtain⟨_,rfl,e⟩:=Rep.inv_ref r1
  obtain⟨ws,hq,r⟩:=aq.seq sm hL e
  exact .inl ⟨_,_,rfl,.inl hq,k _ H (VQ.now sm (by rw[<-r.length];exact .int _) q)⟩
 ·exact q.elim
end L2
namespace L2
open PySem PySem.Spec PyProof.Rows DL _root_.HT
theorem kY{t sl:Addr}{items:Array Value}{vl vu:Value}{lo hi:Option Int}{Q:Value->Shared->Prop}(ht:IsTup s.heap t items)(hs:s.heap.IsSliceOf sl vl vu .none)(pl:IsPart vl lo)(pu:IsPart vu hi)
  (hw:sIx items.size 0 lo=0/\sIx items.size items.size hi=items.size) (h:Q (.ref t) s):wpAny (model prog w) A (getItem (.ref t) (.ref sl)) Q E s:=by
 obtain⟨os,hos,hcs,hds⟩:=id hs
 have hTs:s.TypeIs (.ref sl) "slice":=⟨os,hos,hcs⟩
 unfold getItem
 try with_reducible refine AAj ?_
 first | refine AA0 (AA5 ?_) | skip
 refine AA0 (wpAny_sequenceKey ht.typeIs (by decide) (AA0 (AAk (name:=AA1 "__getitem__") ht.typeIs AB8 (AAm AB8 ht.typeIs entry_tuple_getitem ?_ (args_tuple_getitem _ _)))))
 refine(show wpAny (model prog w) _ (ACj (.ref t) >>= _) _ _ s from AA0 (tupleItemsOf_ ht (AA0 (AD2 hTs ?_))))
 rw[if_pos (by decide)]
 refine AA0 (dy hs pl pu ?_)
 refine(show wpAny (model prog w) _ (if (((sIx items.size 0 lo:Nat):Int)==0&&(1:Int)==1&&(sIx items.size items.size hi-sIx items.size 0 lo)==items.size)=true then _ else _) _ _ s from ?_)
 rw[if_pos (by rw[hw.1,hw.2];simp)]
 unfold Builtin.Tuple.tupleIsExact
 refine AA0 (AA0 (AD2 ht.typeIs (AA5 ?_)))
 rw[if_pos (by decide)]
 exact AA0 (ACE (AA5 ⟨_,rfl,AA5 h⟩))
end L2
namespace L2
open PySem PySem.Spec PyProof.Rows DL
section
variable{X:Cx}{a b:Expr}{ta tb:DTE}{pos:Pos}
theorem IxR.imp(h:IxR X r')(i:∀x y H R,r x y H R->r' x y H R):IxR X r:=λvalue slice pins s σ H x y v u R I rx ry q hs=>h value slice pins s σ H x y v u R I rx ry (i x y H R q) hs
theorem Reps.atI{K:AA2}{ρ:List Addr}{H:Hp}{ds:List D}{vs:List V}{i:Int}{d:D}(r:Reps K ρ H ds vs)(h:L2.atI ds i=some d):∃v,L2.atI vs i=some v/\Rep K ρ H d v:=by
 unfold L2.atI at h ⊢
 rw[r.length]at h
 cases e:ixN vs.length i with
 | none=>rw[e]at h;cases h
 | some j =>
  rw[e]at h
  obtain⟨v,hv,rv⟩:=r.get (show ds[j]?=some d from h)
  exact⟨v,hv,rv⟩
def qIx:DR2:=λx y M Q=>match x,y with
 | .tup xs,.int i=>match L2.atI xs i with
  | some d=>Q d M
  | none=>False
 | .str z,.int i=>z.length<=sizeLine/\match L2.atI z.cps.toList i with
  | some c=>Q (.str ⟨#[c]⟩) M
  | none=>False
 | .ref n,.int i=>∃xs,aq M n xs/\match L2.atI xs i with
  | some d=>Q d M
  | none=>False
 | _,_=>False
theorem AJ:IxR X (lowR X.K qIx):=by
 refine IxR.imp DP ?_
 rintro vx vy H R ⟨x,y,M,ρ,Q,sm,r1,r2,q,k⟩
 unfold qIx at q
 split at q
 ·rename_i xs i
  split at q
  ·rename_i d e
   cases r2
   obtain⟨_,_,rfl,h,r⟩:=Rep.inv_tup r1
   obtain⟨v,hv,rv⟩:=r.atI e
   exact .inr (.inl ⟨_,_,_,v,rfl,rfl,h,hv,k _ H (VQ.now sm rv q)⟩)
  ·exact q.elim
 ·rename_i z i
  obtain⟨hz,q⟩:=q
  split at q
  ·rename_i c e
   cases r2
   cases r1
   exact .inr (.inr ⟨z,i,c,rfl,rfl,hz,e,k _ H (VQ.now sm (.str _) q)⟩)
  ·exact q.elim
 ·rename_i n i
  obtain⟨xs,hL,q⟩:=q
  split at q
  ·rename_i d e
   cases r2
   obtain⟨_,rfl,hn⟩:=Rep.inv_ref r1
   obtain⟨vs,hq,r⟩:=aq.seq sm hL hn
   obtain⟨v,hv,rv⟩:=r.atI e
   exact .inl ⟨_,_,_,v,rfl,rfl,hq,hv,k _ H (VQ.now sm rv q)⟩
  ·exact q.elim
 ·exact q.elim
theorem d_ix(ha:DE X a ta)(hb:DE X b tb)(hs:pW b:=by intro _ _;rfl):DE X (.Subscript a b pos) (dOp qIx ta tb):=PE.imp (pe_ix AJ ha hb hs) kO
abbrev DTO:=SD->Mem->(Option Int->Mem->Prop)->Prop
def Dg(K:AA2)(t:DTO):TO:=λσ H R=>∃S M ρ Q,Sim K ρ M H/\SRep K ρ H S σ/\t S M Q/\∀o H',(∃M' ρ',Sim K ρ' M' H'/\Grow K ρ H ρ' H'/\Q o M')->R o H'
def bO:DTO:=λ_ M Q=>Q none M
def fF(t:DTE):DTO:=λS M Q=>t S M λx M1=>match x with
 | .int i=>Q (some i) M1
 | _=>False
theorem PO.imp(h:PO X e t')(i:∀σ H R,t σ H R->t' σ H R):PO X e t:=λpins s σ H R I q=>h pins s σ H R I (i σ H R q)
theorem Bm:PO X none (Dg X.K bO):=by
 refine PO.imp zI ?_
 rintro σ H R ⟨S,M,ρ,Q,s,sr,q,k⟩
 exact k none H ⟨M,ρ,s,.refl,q⟩
theorem Bl(h:DE X e te):PO X (some e) (Dg X.K (fF te)):=by
 refine PO.imp (zH h) ?_
 rintro σ H R ⟨S,M,ρ,Q,s,sr,q,k⟩
 refine⟨S,M,ρ,_,s,sr,q,?_⟩
 rintro v H1 ⟨d,M1,ρ1,s1,g1,r1,q1⟩
 cases r1 with
 | int i=>exact⟨i,rfl,k _ H1 ⟨M1,ρ1,s1,g1,q1⟩⟩
 | _=>exact q1.elim
theorem Ch:SlR X (λx lo hi H Q=>∃z,x=.str z/\z.length<=sizeLine/\Q (.str (Txt.slice z lo hi)) H):=by
 intro pins s σ H x v vl vu lo hi sl Q I rx hs pl pu h
 obtain⟨z,rfl,hz,q⟩:=h
 obtain⟨t,rfl⟩:=rx
 have part:∀{v:Value}{o:Option Int},IsPart v o->∃p:Option (Int×Tok),v=partValue p/\p.map (·.1)=o:=λh=>by
  cases h with
  | none=>exact⟨none,rfl,rfl⟩
  | int i t=>exact⟨some (i,t),rfl,rfl⟩
 obtain⟨p1,rfl,e1⟩:=part pl
 obtain⟨p2,rfl,e2⟩:=part pu
 subst e1 e2
 refine⟨"str",_,slot_str_getitem.lookup,typeIs_str _ _ _,wpAny_getItem_str_slice (l:=p1) (u:=p2) (st:=none) hs rfl ?_⟩
 exact post_val_or_str ⟨AB4 (Txt.slice_le z _ _) hz,λt' k=>⟨.str _,H,I.tok k,⟨t',rfl⟩,q⟩⟩
noncomputable def cutD(xs:List D)(lo hi:Option Int):List D:=(xs.drop (HT.sIx xs.length 0 lo)).take (HT.sIx xs.length xs.length hi-HT.sIx xs.length 0 lo)
theorem Reps.cutD{K:AA2}{ρ:List Addr}{H:Hp}{ds:List D}{vs:List V}(r:Reps K ρ H ds vs)(lo hi:Option Int):Reps K ρ H (L2.cutD ds lo hi) (yZ vs lo hi):=by
 unfold L2.cutD yZ
 rw[r.length]
 exact(r.drop _).take _
def qSl:D->Option Int->Option Int->Mem->DK->Prop:=λx lo hi M Q=>match x with
 | .str z=>z.length<=sizeLine/\Q (.str (Txt.slice z lo hi)) M
 | .ref n=>∃xs,aq M n xs/\Q (.ref M.length) (M++[.lst (cutD xs lo hi)])
 | .tup xs=>Q (.tup (cutD xs lo hi)) M
 | _=>False
def lowSl(K:AA2)(r:D->Option Int->Option Int->Mem->DK->Prop):V->Option Int->Option Int->Hp->VK->Prop:=λvx lo hi H R=>∃x M ρ Q,Sim K ρ M H/\Rep K ρ H x vx/\r x lo hi M Q/\∀v H',VQ K ρ H Q v H'->R v H'
theorem sld:SlR X (lowSl X.K qSl):=by
 rintro pins s σ H x v vl vu lo hi sl R I rx hs pl pu ⟨d,M,ρ,Q,sm,r1,q,k⟩
 unfold qSl at q
 split at q
 ·cases r1
  exact Ch pins s σ H _ v vl vu lo hi sl R I rx hs pl pu ⟨_,rfl,q.1,k _ H (VQ.now sm (.str _) q.2)⟩
 ·obtain⟨xs,hL,q⟩:=q
  obtain⟨_,rfl,hn⟩:=Rep.inv_ref r1
  obtain⟨vs,hq,r⟩:=aq.seq sm hL hn
  exact zn pins s σ H _ v vl vu lo hi sl R I rx hs pl pu ⟨_,vs,rfl,hq,λp hp=>k _ _ (VQ.laidL sm .refl (r.cutD lo hi) hp q)⟩
 ·obtain⟨_,_,rfl,h,r⟩:=Rep.inv_tup r1
  rename_i xs a vs
  by_cases hw:HT.sIx xs.length 0 lo=0/\HT.sIx xs.length xs.length hi=xs.length
  ·cases rx
   obtain⟨its,rr,ht,hz⟩:=I.tuple h
   have hlen:its.toArray.size=xs.length:=by rw[AAC,r.length];exact rr.length.symm
   have e:L2.cutD xs lo hi=xs:=by unfold L2.cutD;rw[hw.1,hw.2,List.drop_zero,Nat.sub_zero,ABN]
   rw[e]at q
   exact⟨"tuple",_,AB8.lookup,ht.typeIs,kY ht hs pl pu (by rw[hlen];exact hw) ⟨.ref _,H,I,rfl,k _ H (VQ.now sm (.tup h r) q)⟩⟩
  ·exact Cg pins s σ H _ v vl vu lo hi sl R I rx hs pl pu ⟨_,_,rfl,h,by rw[<-r.length];exact hw,λp hp=>k _ _ (VQ.laidT sm .refl (r.cutD lo hi) hp q)⟩
 ·exact q.elim
def dSl(te:DTE)(tl th:DTO):DTE:=λS M Q=>te S M λx M1=>tl S M1 λl M2=>th S M2 λu M3=>qSl x l u M3 Q
theorem Bt{e:Expr}{te:DTE}{lo hi:Option Expr}{tl th:DTO}{p2:Pos}(he:DE X e te)(hl:PO X lo (Dg X.K tl))(hu:PO X hi (Dg X.K th)):DE X (.Subscript e (.Slice lo hi none p2) pos) (dSl te tl th):=by
 refine PE.imp (xq sld he hl hu) ?_
 rintro σ H R ⟨S,M,ρ,Q,s,sr,q,k⟩
 refine⟨S,M,ρ,_,s,sr,q,?_⟩
 rintro v H1 ⟨d,M1,ρ1,s1,g1,r1,q1⟩
 refine⟨S,M1,ρ1,_,s1,sr.grow g1,q1,?_⟩
 rintro l H2 ⟨M2,ρ2,s2,g2,q2⟩
 refine⟨S,M2,ρ2,_,s2,sr.grow (g1.trans g2),q2,?_⟩
 rintro u H3 ⟨M3,ρ3,s3,g3,q3⟩
 exact⟨d,M3,ρ3,Q,s3,r1.grow (g2.trans g3),q3,λv H' w=>k v H' (VQ.trans ((g1.trans g2).trans g3) w)⟩
def gF:DR2:=λx y M Q=>match x,y with
 | .int i,.int j=>CMul i j/\Q (.int (i*j)) M
 | .str z,.int n=>(0<=n/\n<2 ^ 63/\z.length*n.toNat<=sizeLine)/\Q (.str (Txt.mul z n)) M
 | _,_=>False
theorem oV(h0:0<=n)(h:z.length*n.toNat<=sizeLine)(hn:n<2 ^ 63):MulOk z n:=by
 refine⟨?_,λh1 h2=>?_,λh1 h2=>?_⟩
 ·have e1:decide (n < -(2 ^ 63:Int))=false:=dF_ (by lia)
  have e2:decide (n ≥ 2 ^ 63)=false:=dF_ (by lia)
  rw[e1,e2]
  rfl
 ·have hz:(z.length:Int)*n<=2 ^ 24:=by
   have e:((z.length*n.toNat:Nat):Int)=(z.length:Int)*n:=by
    rw[Int.natCast_mul,Int.toNat_of_nonneg h0]
   have h':((z.length*n.toNat:Nat):Int)<=(2 ^ 24:Nat):=Int.ofNat_le.mpr h
   rw[e]at h'
   exact h'
  have hpos:0<n:=by lia
  intro hgt
  have:=Int.lt_of_lt_of_le (Int.lt_mul_of_ediv_lt hpos hgt) hz
  lia
 ·unfold PySem.Builtin.Str.tooLong
  simpa using h
theorem Ae:OpD X (binaryOp .Mult) gF:=by
 rintro pins s σ H vx vy v u R I rx ry ⟨x,y,M,ρ,Q,sm,r1,r2,q,k⟩
 unfold gF at q
 split at q
 ·cases r1
  cases r2
  exact CO pins s σ H _ _ v u R I rx ry ⟨_,_,rfl,rfl,q.1,k _ H (VQ.now sm (.int _) q.2)⟩
 ·rename_i z n
  cases r1
  cases r2
  obtain⟨t,rfl⟩:=rx
  obtain⟨t',rfl⟩:=ry
  obtain⟨⟨h0,h2,h1⟩,q⟩:=q
  exact PySem.SB.mul (oV h0 h1 h2) λt' j=>⟨.str _,H,I.tok j,⟨t',rfl⟩,k _ H (VQ.now sm (.str _) q)⟩
 ·exact q.elim
variable{o e:Expr}{es:List Expr}{to:DTE}{t:DTA}{name:Str}{apos cpos:Pos}{id:String}
def lowMs(K:AA2)(r:Str->DRA):V->List V->Hp->VK->Prop:=λvx vs H R=>∃z ds M ρ Q,vx=.str z/\Sim K ρ M H/\Reps K ρ H ds vs/\r z ds M Q/\∀v H',VQ K ρ H Q v H'->R v H'
def uQ(K:AA2)(r:Nat->DRA):V->List V->Hp->VK->Prop:=λvx vs H R=>∃n a ds M ρ Q,vx=.ref a/\ρ[n]?=some a/\Sim K ρ M H/\Reps K ρ H ds vs/\r n ds M Q/\∀v H',VQ K ρ H Q v H'->R v H'
def dMl(r:Nat->DRA)(to:DTE)(t:DTA):DTE:=λS M Q=>to S M λx M1=>match x with
 | .ref n=>(∃xs,aq M1 n xs)/\t S M1 λds M2=>r n ds M2 Q
 | _=>False
theorem d_ml(slot:Slot "list" name id)(hty:typeOf (.builtin id)=pure (.type "method_descriptor"))(hm:MtR X id (uQ X.K r))(ho:DE X o to)(ha:DA X (e::es) t)
  (hbase:attributeBase o name X.env (eval o X.env)=eval o X.env:=by rfl)
  (hfew:((backTo cpos (starEach (e::es) X.env)).all (λx=>!x.1)&&(backToKw cpos (keywordEach [] X.env)).all (λx=>x.1.isSome)
   && decide ((e::es).length+([]:List Keyword).length+(if ([]:List Keyword).isEmpty then 0 else 1)<30))=true:=by rfl)
  (hline:(apos.endLine==cpos.line)=true:=by rfl) (hs:starEach (e::es) X.env=(false,eval e X.env)::starEach es X.env:=by rfl) (hplain:(backTo cpos (starEach es X.env)).any (·.1)=false:=by rfl) :
  DE X (.Call (.Attribute o name apos) (e::es) [] cpos) (dMl r to t):=by
 refine PE.imp (pe_bm PySem.F.plainAttrs_list slot hty hm ho ha hbase hfew hline hs hplain) ?_
 rintro σ H R ⟨S,M,ρ,Q,s,sr,q,k⟩
 refine⟨S,M,ρ,_,s,sr,q,?_⟩
 rintro v H1 ⟨d,M1,ρ1,s1,g1,r1,q1⟩
 cases r1 with
 | @ref n a hn =>
  obtain⟨⟨xs,hL⟩,q1⟩:=(show (∃xs,aq M1 n xs)/\t S M1 _ from q1)
  obtain⟨vs,hq,_⟩:=aq.seq s1 hL hn
  refine⟨.inl ⟨rfl,vs,hq⟩,S,M1,ρ1,_,s1,sr.grow g1,q1,?_⟩
  rintro vs H2 ⟨ds,M2,ρ2,s2,g2,r2,q2⟩
  exact⟨n,a,ds,M2,ρ2,Q,rfl,av g2.pre hn,s2,r2,q2,λv H' w=>k v H' (VQ.trans (g1.trans g2) w)⟩
 | _=>exact q1.elim
def cu(n:Nat):DRA:=λds M Q=>match ds with
 | [d]=>∃xs,M[n]?=some (.lst xs)/\xs.length<sizeLine/\Q .non (M.set n (.lst (xs++[d])))
 | _=>False
theorem sn:MtR X "list.append" (uQ X.K cu):=by
 rintro pins s σ H x xs v us R I rx rs ⟨n,a,ds,M,ρ,Q,ez,hn,sm,rr,q,k⟩
 unfold cu at q
 split at q
 ·rename_i d
  obtain⟨ys,e,hl,q⟩:=q
  first | have hzz:=Reps.inv_cons rr | have hzz:=ar.inv_cons rr
  clear rr
  obtain⟨_,_,rfl,r1,rr⟩:=hzz
  cases rr
  obtain⟨vs,hH,r⟩:=sm.obj n a _ hn e
  obtain⟨w1,w2⟩:=sm.write hn e hH (r.append (.cons r1 .nil))
  exact uL pins s σ H x _ v us R I rx rs ⟨a,vs,_,ez,rfl,hH,by rw[<-r.length];exact hl,k _ _ ⟨.non,_,ρ,w1,w2,.non,q⟩⟩
 ·exact q.elim
end
def eu(K:AA2)(mg:Str->Option Value)(x:Str)(st:Stmt)(ps:List Str):Prop :=
 ∃f fd,Fun K x x st f fd/\mg x=some (.ref f)/\eD K fd ps []
def Cal(P:Program)(w:World)(K:AA2)(mg:Str->Option Value)(base:Heap)(k:Nat)(x:Str)(ps:List Str)(Pr:DSp):Prop :=
 ∃f fd,FnOk P w K mg base CX0 k f fd ps (spL K Pr)/\mg x=some (.ref f)/\ABK K (.ref f)=true/\eD K fd ps []
theorem fnat_mk{K:AA2}{h:Heap}{mg:Str->Option Value}{x:Str}{st:Stmt}{ps:List Str}{f:Addr}{oc:Value}{od an:Option Addr}{osl:Array (Option Value)}{kV doc pm cdv ct:Value}
  (X:K.In h) (G:h.Ns mainGlobals mg) (a:AC3 K mainGlobals x=some (some (.ref f)))
  (l:K.lookup f=some ⟨oc,od,.func (ABg x x (cx st) (aO st) (ao st) .none kV doc pm an cdv ct),osl⟩)
  (c:ACo K cdv x=true) (k:ABK K (.ref f)=true)
  (h:∀(kV doc pm:Value) (an:Option Addr) (cdv ct:Value) (us:List Value),us.length=ps.length->bindArgs (ABg x x (cx st) (aO st) (ao st) .none kV doc pm an cdv ct) ⟨us,[]⟩=pure (ps.zip us)):eu K mg x st ps :=
 have F:=vW (st:=st) l c k
 ⟨f,_,F,PySem.W.mg_of X G a,F.binds h⟩
theorem Cal.of{P:Program}{w:World}{K:AA2}{mg:Str->Option Value}{base:Heap}{x:Str}{st:Stmt}{N ps:List Str}{k:Nat}{Pr:DSp}(F:eu K mg x st ps)(Sc:FnScope N ps (ao st))
  (len:∀ds M R,Pr ds M R->ds.length=ps.length) {t:DTS}
  (der:∀(f:Addr) (cdv:Value) (A:Around) (outer:List Env) (s:Shared) (H:Hp) (E:XK),Room k (A.deeper (envOfC x (ao st) s.heap.objs.size f cdv))->DSs (nI CX0 P w K mg base N x (ao st) f cdv A outer s H E).nox (aO st) t)
  (wp:∀ds M R,Pr ds M R->t ⟨λ_ M'=>aH M R .non M',aH M R,λ_ _=>False,λ_ _=>False⟩ (bw N ds) M):Cal P w K mg base (k+1) x ps Pr:=by
 obtain⟨f,fd,F1,hm,hb⟩:=F
 exact⟨f,fd,d_fn Pr F1 Sc len λcdv A outer s H E hr=>⟨t,der f cdv A outer s H E hr,wp⟩,hm,F1.kp,hb⟩
theorem AY{P:Program}{w:World}{K:AA2}{mg:Str->Option Value}{base:Heap}{x:Str}{st:Stmt}{N ps:List Str}{k:Nat}{Pr:DSp}{f:Addr}{fd:FuncData}(F:Fun K x x st f fd)(Sc:FnScope N ps (ao st))
  (len:∀ds M R,Pr ds M R->ds.length=ps.length) {t:DTS}
  (der:∀(f:Addr) (cdv:Value) (A:Around) (outer:List Env) (s:Shared) (H:Hp) (E:XK),Room k (A.deeper (envOfC x (ao st) s.heap.objs.size f cdv))->DSs (nI CX0 P w K mg base N x (ao st) f cdv A outer s H E).nox (aO st) t)
  (wp:∀ds M R,Pr ds M R->t ⟨λ_ M'=>aH M R .non M',aH M R,λ_ _=>False,λ_ _=>False⟩ (bw N ds) M):FnOk P w K mg base CX0 (k+1) f fd ps (spL K Pr) :=
 d_fn Pr F Sc len λcdv A outer s H E hr=>⟨t,der f cdv A outer s H E hr,wp⟩
theorem d_cal(C:Cal X.prog X.w X.K X.mg X.base j x ps P)(hr:Room k X.A)(ha:DA X (e::es) t)(hj:j<=k:=by decide)
  (hg:Gl X x:=by rfl) (hdb:(x==("__debug__":Str))=false:=by decide) (he:starEach (e::es) X.env=(false,eval e X.env)::starEach es X.env:=by rfl) (hpl:(backTo pos (starEach es X.env)).any (·.1)=false:=by rfl) :
  DE X (.Call (.Name x p) (e::es) [] pos) (dCB P t):=by
 obtain⟨f,fd,F,hm,hk,hb⟩:=C
 exact EI F (hr.mono hj) hm hk hb ha hg hdb he hpl
theorem EJ(C:Cal X.prog X.w X.K X.mg X.base j x ps P)(hr:Room k X.A)(hj:j<=k:=by decide)
  (hg:Gl X x:=by rfl) (hdb:(x==("__debug__":Str))=false:=by decide):DE X (.Call (.Name x p) [] [] pos) (dCB P ah):=by
 obtain⟨f,fd,F,hm,hk,hb⟩:=C
 exact Bw F (hr.mono hj) hm hk hb hg hdb
theorem mY(h:M[n]?=some mo)(hl:mo.isL=true):aq M n mo.items:=by
 cases mo with
 | lst xs=>exact .inl h
 | fz xs=>exact .inr (.inl h)
 | kl xs=>exact .inr (.inr h)
 | dct xs=>cases hl
 | dkt xs=>cases hl
 | dkq _ xs=>cases hl
 | fdc o xs=>cases hl
 | dkm xs=>cases hl
 | tb x b=>cases hl
 | exc x e=>cases hl
 | ins c fs=>cases hl
 | tl x p q e=>cases hl
theorem fj{K:AA2}{ρ:List Addr}{H:Hp}:∀(ns:List Int),Reps K ρ H (ns.map D.int) (ns.map V.int)
 | []=>.nil
 | n::ns=>.cons (.int n) (fj ns)
noncomputable def km(nm:List (Str×NameKind))(N N':List Str)(nt:Nat)(js:List Nat)(sc:Scope):Bool :=
 sc.kind==.function&&sc.names.all (λy=>y.2 != .cell&&(y.2 != .local||sc.names.lookup y.1==some .local)&&(y.2 != .free||(nm.lookup y.1==some .cell||nm.lookup y.1==some .free))) &&
 N'.length==nt+js.length&&(AAl js.length).all λk=>match js[k]?,N'[nt+k]? with
  | some j,some x=>N[j]?==some x&&sc.names.lookup x==some .free&&(nm.lookup x==some .cell||nm.lookup x==some .free)
  | _,_=>false
theorem BlkSc.chk(h:km X.env.scope.names X.N N' nt js scope=true):BlkSc X N' nt js scope:=by
 unfold km at h
 simp only[AAU,AAb,beq_iff_eq,Bool.or_eq_true,bne_iff_ne]at h
 obtain⟨⟨⟨h1,h2⟩,h3⟩,h4⟩:=h
 refine⟨h1,λy hy=>(h2 y hy).1.1,λy hy e=>((h2 y hy).1.2.resolve_left (λz=>z e)),λy hy e=>((h2 y hy).2.resolve_left (λz=>z e)),h3,λk j e=>?_⟩
 have hk:k<js.length:=(AA7.mp e).1
 have q:=h4 k (ABc.mpr hk)
 rw[e]at q
 cases f:N'[nt+k]? with
 | none=>rw[f]at q;exact absurd q (by simp)
 | some x =>
  rw[f]at q
  simp only[AAU,beq_iff_eq,Bool.or_eq_true]at q
  exact⟨x,rfl,q.1.1,q.1.2,q.2⟩
def dUn(r:DR1)(ta:DTE):DTE:=λS M Q=>ta S M λx M1=>r x M1 Q
theorem d_un(ho:UnD X (unaryOp op) r)(ha:DE X a ta):DE X (.UnaryOp op a pos) (dUn r ta):=by
 refine PE.imp (pe_un ho ha) ?_
 rintro σ H R ⟨S,M,ρ,Q,s,sr,q,k⟩
 refine⟨S,M,ρ,_,s,sr,q,?_⟩
 rintro v H1 ⟨d,M1,ρ1,s1,g1,r1,q1⟩
 exact⟨d,M1,ρ1,Q,s1,r1,q1,λv H' w=>k v H' (VQ.trans g1 w)⟩
def Ck:DR1:=λx M Q=>match x with
 | .int i=>Q (.int (-i)) M
 | _=>False
theorem BV:UnD X (unaryOp .USub) Ck:=by
 rintro pins s σ H vx v R I rx ⟨x,M,ρ,Q,sm,r1,q,k⟩
 unfold Ck at q
 split at q
 ·cases r1
  exact BU pins s σ H _ v R I rx ⟨_,rfl,k _ H (VQ.now sm (.int _) q)⟩
 ·exact q.elim
noncomputable def eqL(f:D->D->Bool):List D->List D->Bool
 | [],[]=>true
 | x::xs,y::ys=>f x y&&eqL f xs ys
 | _,_=>false
noncomputable def eqD(M:Mem):Nat->D->D->Bool
 | _,.non,.non=>true
 | _,.bl a,.bl b=>a==b
 | _,.bl a,.int b=>(if a then 1 else 0)==b
 | _,.int a,.bl b=>a==(if b then 1 else 0)
 | _,.int a,.int b=>a==b
 | _,.str a,.str b=>a==b
 | n+1,.tup xs,.tup ys=>eqL (eqD M n) xs ys
 | n+1,.ref i,.ref j=>match M[i]?,M[j]? with
  | some a,some b=>eqL (eqD M n) a.items b.items
  | _,_=>false
 | _,_,_=>false
noncomputable def okD(M:Mem):Nat->D->Bool
 | _,.ty _=>false
 | n+1,.tup xs=>xs.all (okD M n)
 | n+1,.ref i=>match M[i]? with
  | some a=>a.isL&&a.items.all (okD M n)
  | none=>false
 | 0,.tup _=>false
 | 0,.ref _=>false
 | _,_=>true
theorem vZ:∀{xs ys:List D},eqL f xs ys=true->xs.length=ys.length
 | [],[],_=>rfl
 | [],_::_,h=>by simp[eqL]at h
 | _::_,[],h=>by simp[eqL]at h
 | x::xs,y::ys,h=>by
  simp only[eqL,AAU]at h
  rw[AAO,AAO,vZ h.2]
theorem wD(n:Nat)(e:Nat->Bool):(AAl (n+1)).all e=(e 0&&(AAl n).all λj=>e (j+1)):=by
 rw[List.range_succ_eq_map,ABT,List.all_map]
 rfl
theorem jm:∀{xs ys:List D}{e:Nat->Bool},xs.length=ys.length->(∀(j:Nat) x y,xs[j]?=some x->ys[j]?=some y->e j=f x y)->(AAl xs.length).all e=eqL f xs ys
 | [],[],e,_,_=>by simp[eqL]
 | [],_::_,_,h,_=>by simp at h
 | _::_,[],_,h,_=>by simp at h
 | x::xs,y::ys,e,h,he=>by
  rw[AAO,wD,eqL,he 0 x y rfl rfl,jm (by simpa using h) λj x' y' h1 h2=>he (j+1) x' y' (by simpa using h1) (by simpa using h2)]
theorem vY(h:xs.length≠ys.length):eqL f xs ys=false:=by
 cases q:eqL f xs ys with
 | false=>rfl
 | true=>exact absurd (vZ q) h
theorem gL{vs:List V}{us:List Value}(h:ar vs us){j:Nat}{v:V}(e:vs[j]?=some v):∃u,us[j]?=some u/\aK v u:=by
 induction h generalizing j with
 | nil=>simp at e
 | cons r _ ih =>
  cases j with
  | zero=>simp at e;subst e;exact⟨_,rfl,r⟩
  | succ j=>exact ih (by simpa using e)
section
variable{X:Cx}{pins:List (Addr×Obj)}{σ:St}{H:Hp}{s:Shared}{ρ:List Addr}{M:Mem}
theorem qH(I:Inv X pins σ H s)(sm:Sim X.K ρ M H){i:Nat}{a:Addr}{mo:MO}(e:ρ[i]?=some a)(hm:M[i]?=some mo)(hl:mo.isL=true):∃vs its,SqL X.K H a vs/\Reps X.K ρ H mo.items vs/\ar vs its/\PlainL s.heap a its.toArray:=by
 obtain⟨vs,hq,r⟩:=aq.seq sm (mY hm hl) e
 obtain⟨its,rr,pl,_⟩:=I.list hq
 exact⟨vs,its,hq,r,rr,pl⟩
theorem gs(hm:M[i]?=some mo)(o:okD M (n+1) (.ref i)=true):mo.isL=true/\mo.items.all (okD M n)=true:=by
 have o':(match M[i]? with | some a=>a.isL&&a.items.all (okD M n) | none=>false)=true:=o
 rw[hm]at o'
 exact(AAU _ _).mp o'
theorem yk(I:Inv X pins σ H s)(sm:Sim X.K ρ M H):∀(n:Nat) (x y:D) (v:V),Rep X.K ρ H x v->Rep X.K ρ H y v->okD M n x=true->okD M n y=true->eqD M n x y=true:=by
 have all:∀(n:Nat),(∀(x y:D) (v:V),Rep X.K ρ H x v->Rep X.K ρ H y v->okD M n x=true->okD M n y=true->eqD M n x y=true) ->
   ∀(xs ys:List D) (vs:List V),Reps X.K ρ H xs vs->Reps X.K ρ H ys vs->xs.all (okD M n)=true->ys.all (okD M n)=true->eqL (eqD M n) xs ys=true:=by
  intro n ih xs
  induction xs with
  | nil=>intro ys vs h1 h2 _ _;cases h1;cases h2;rfl
  | cons x xs hi =>
   intro ys vs h1 h2 o1 o2
   cases h1 with
   | cons r1 t1 =>
    cases h2 with
    | cons r2 t2 =>
     rw[ABT,AAU]at o1 o2
     rw[eqL,ih _ _ _ r1 r2 o1.1 o2.1,hi _ _ t1 t2 o1.2 o2.2]
     rfl
 intro n
 induction n with
 | zero =>
  intro x y v h1 h2 o1 o2
  cases h1<;>cases h2<;>first | (simp[okD]at o1;done) | rfl | simp[eqD]
 | succ n ih =>
  intro x y v h1 h2 o1 o2
  cases h1 with
  | non=>cases h2;rfl
  | bl b=>cases h2;simp[eqD]
  | int b=>cases h2;simp[eqD]
  | str b=>cases h2;simp[eqD]
  | ty b=>simp[okD]at o1
  | @tup a vs ds hq r =>
   cases h2 with
   | tup hq' r' =>
    have e:=I.tuple_inj hq hq'
    subst e
    exact all n ih _ _ _ r r' (by simpa [okD]using o1) (by simpa [okD]using o2)
   | @ref i _ e =>
    exfalso
    obtain⟨its,_,⟨o,e1,e2,_⟩,_⟩:=I.tuple hq
    have hi:i<M.length:=by rw[<-sm.len];exact(AA7.mp e).1
    obtain⟨vs',its',_,_,_,⟨o',n',f1,f2,_⟩⟩:=qH I sm e (AA6 hi) (gs (AA6 hi) o2).1
    rw[e1]at f1;cases f1
    rw[e2]at f2;injection f2 with f3;exact absurd f3 (by decide)
  | @ref i a e =>
   have hi:i<M.length:=by rw[<-sm.len];exact(AA7.mp e).1
   have hm:=AA6 hi
   obtain⟨vs,its,hq,r,rr,pl⟩:=qH I sm e hm (gs hm o1).1
   cases h2 with
   | tup hq' r' =>
    exfalso
    obtain⟨its',_,⟨o,e1,e2,_⟩,_⟩:=I.tuple hq'
    obtain⟨o',n',f1,f2,_⟩:=pl
    rw[e1]at f1;cases f1
    rw[e2]at f2;injection f2 with f3;exact absurd f3 (by decide)
   | @ref j _ e' =>
    have hj:j<M.length:=by rw[<-sm.len];exact(AA7.mp e').1
    have hm':=AA6 hj
    obtain⟨vs',its',hq',r',rr',pl'⟩:=qH I sm e' hm' (gs hm' o2).1
    have ev:vs=vs':=I.list_inj hq hq'
    subst ev
    have o1':=(gs hm o1).2
    have o2':=(gs hm' o2).2
    simp only[eqD,hm,hm']
    exact all n ih _ _ _ r r' o1' o2'
theorem nF(I:Inv X pins σ H s)(sm:Sim X.K ρ M H):∀(n:Nat) (A:Around) (x y:D) (vx vy:V) (u v:Value),A.units+n<cLine->Rep X.K ρ H x vx->aK vx u->Rep X.K ρ H y vy->aK vy v->okD M n x=true->okD M n y=true ->
  ACf A s u v (eqD M n x y)/\SeqAt.RcAt A s u v (eqD M n x y)/\SeqAt.RcNeAt A s u v (!eqD M n x y):=by
 intro n
 induction n with
 | zero =>
  intro A x y vx vy u v hu r1 e1 r2 e2 o1 o2
  cases r1 with
  | ty b=>simp[okD]at o1
  | tup b=>simp[okD]at o1
  | ref b=>simp[okD]at o1
  | non =>
   cases e1
   cases r2 with
   | ty b=>simp[okD]at o2
   | tup b=>simp[okD]at o2
   | ref b=>simp[okD]at o2
   | non=>cases e2;exact⟨ADm _,SeqAt.RcAt.none_none,SeqAt.RcNeAt.none_none⟩
   | bl b=>cases e2;exact⟨SeqAt.EqAt.none_bool _,SeqAt.RcAt.none_bool _,SeqAt.RcNeAt.none_bool _⟩
   | int b=>obtain⟨t,rfl⟩:=e2;exact⟨SeqAt.EqAt.none_int _ _,SeqAt.RcAt.none_int _ _,SeqAt.RcNeAt.none_int _ _⟩
   | str b=>obtain⟨t,rfl⟩:=e2;exact⟨SeqAt.EqAt.none_str _ _,SeqAt.RcAt.none_str _ _,SeqAt.RcNeAt.none_str _ _⟩
  | bl a =>
   cases e1
   cases r2 with
   | ty b=>simp[okD]at o2
   | tup b=>simp[okD]at o2
   | ref b=>simp[okD]at o2
   | non=>cases e2;exact⟨SeqAt.EqAt.bool_none _,SeqAt.RcAt.bool_none _,SeqAt.RcNeAt.bool_none _⟩
   | bl b=>cases e2;exact⟨SeqAt.EqAt.bool_bool _ _,SeqAt.RcAt.bool_bool _ _,SeqAt.RcNeAt.bool_bool _ _⟩
   | int b=>obtain⟨t,rfl⟩:=e2;exact⟨SeqAt.EqAt.bool_int _ _ _,SeqAt.RcAt.bool_int _ _ _,SeqAt.RcNeAt.bool_int _ _ _⟩
   | str b=>obtain⟨t,rfl⟩:=e2;exact⟨SeqAt.EqAt.bool_str _ _ _,SeqAt.RcAt.bool_str _ _ _,SeqAt.RcNeAt.bool_str _ _ _⟩
  | int a =>
   obtain⟨t0,rfl⟩:=e1
   cases r2 with
   | ty b=>simp[okD]at o2
   | tup b=>simp[okD]at o2
   | ref b=>simp[okD]at o2
   | non=>cases e2;exact⟨SeqAt.EqAt.int_none _ _,SeqAt.RcAt.int_none _ _,SeqAt.RcNeAt.int_none _ _⟩
   | bl b=>cases e2;exact⟨SeqAt.EqAt.int_bool _ _ _,SeqAt.RcAt.int_bool _ _ _,SeqAt.RcNeAt.int_bool _ _ _⟩
   | int b=>obtain⟨t,rfl⟩:=e2;exact⟨AD7 _ _ _ _,SeqAt.RcAt.int_int _ _ _ _,SeqAt.RcNeAt.int_int _ _ _ _⟩
   | str b=>obtain⟨t,rfl⟩:=e2;exact⟨ACP _ _ _ _,SeqAt.RcAt.int_str _ _ _ _,SeqAt.RcNeAt.int_str _ _ _ _⟩
  | str a =>
   obtain⟨t0,rfl⟩:=e1
   cases r2 with
   | ty b=>simp[okD]at o2
   | tup b=>simp[okD]at o2
   | ref b=>simp[okD]at o2
   | non=>cases e2;exact⟨SeqAt.EqAt.str_none _ _,SeqAt.RcAt.str_none _ _,SeqAt.RcNeAt.str_none _ _⟩
   | bl b=>cases e2;exact⟨SeqAt.EqAt.str_bool _ _ _,SeqAt.RcAt.str_bool _ _ _,SeqAt.RcNeAt.str_bool _ _ _⟩
   | int b=>obtain⟨t,rfl⟩:=e2;exact⟨ACQ _ _ _ _,SeqAt.RcAt.str_int _ _ _ _,SeqAt.RcNeAt.str_int _ _ _ _⟩
   | str b=>obtain⟨t,rfl⟩:=e2;exact⟨AD8 _ _ _ _,SeqAt.RcAt.str_str _ _ _ _,SeqAt.RcNeAt.str_str _ _ _ _⟩
 | succ n ih =>
  intro A x y vx vy u v hu r1 e1 r2 e2 o1 o2
  have hu0:A.units<cLine:=by lia
  have hu1:A.in1.units+n<cLine:=by show A.units+1+n<cLine;lia
  -- what a list or a tuple is,as the heap has it
  have tupAt:∀{a:Addr}{vs:List V}{ds:List D},SqT X.K H a vs->Reps X.K ρ H ds vs->∃its:List Value,ar vs its/\s.heap.IsTuple a its.toArray/\ds.length=its.length:=λ{a vs ds} hq r=>by
   obtain⟨its,rr,pl,_⟩:=I.tuple hq
   exact⟨its,rr,pl,r.length.trans rr.length⟩
  have lstAt:∀{i:Nat}{a:Addr},ρ[i]?=some a->okD M (n+1) (.ref i)=true->∃mo,M[i]?=some mo/\∃vs its,Reps X.K ρ H mo.items vs/\ar vs its/\s.heap.IsList a its.toArray/\mo.items.length=its.length:=λ{i a} e ok=>by
   have hi:i<M.length:=by rw[<-sm.len];exact(AA7.mp e).1
   have hm:=AA6 hi
   obtain⟨vs,its,hq,r,rr,pl⟩:=qH I sm e hm (gs hm ok).1
   exact⟨_,hm,vs,its,r,rr,pl.isList,r.length.trans rr.length⟩
  have items:∀{xs ys:List D}{vs ws:List V}{its jts:List Value},Reps X.K ρ H xs vs->ar vs its->Reps X.K ρ H ys ws->ar ws jts->xs.all (okD M n)=true->ys.all (okD M n)=true ->
    ∀(j:Nat) (h1:j<its.toArray.size) (h2:j<jts.toArray.size),ACf A.in1 s its.toArray[j] jts.toArray[j] (eqD M n (xs.getD j .non) (ys.getD j .non)):=λ{xs ys vs ws its jts} r1 q1 r2 q2 o1 o2 j h1 h2=>by
   have l1:j<xs.length:=by rw[r1.length,q1.length];simpa using h1
   have l2:j<ys.length:=by rw[r2.length,q2.length];simpa using h2
   obtain⟨v1,g1,p1⟩:=r1.get (AA6 l1)
   obtain⟨v2,g2,p2⟩:=r2.get (AA6 l2)
   obtain⟨u1,k1,m1⟩:=gL q1 g1
   obtain⟨u2,k2,m2⟩:=gL q2 g2
   have z1:its.toArray[j]=u1:=by
    have:=(AA7.mp k1).2
    simpa using this
   have z2:jts.toArray[j]=u2:=by
    have:=(AA7.mp k2).2
    simpa using this
   rw[z1,z2]
   have y1:xs.getD j .non=xs[j]:=by simp[List.getD,AA6 l1]
   have y2:ys.getD j .non=ys[j]:=by simp[List.getD,AA6 l2]
   rw[y1,y2]
   exact(ih A.in1 _ _ _ _ _ _ hu1 p1 m1 p2 m2 (AAb.mp o1 _ (ABh l1)) (AAb.mp o2 _ (ABh l2))).1
  have rng:∀(xs ys:List D),xs.length=ys.length->(AAl xs.length).all (λj=>eqD M n (xs.getD j .non) (ys.getD j .non))=eqL (eqD M n) xs ys:=λxs ys h=>jm h λj x y h1 h2=>by
   simp[List.getD,h1,h2]
  have fin:∀{a b:Addr}{k:Bool},Rep X.K ρ H x (.ref a)->Rep X.K ρ H y (.ref b)->eqD M (n+1) x y=k->SeqAt.RcAt A s (.ref a) (.ref b) k->SeqAt.RcNeAt A s (.ref a) (.ref b) (!k) ->
    ACf A s (.ref a) (.ref b) (eqD M (n+1) x y)/\SeqAt.RcAt A s (.ref a) (.ref b) (eqD M (n+1) x y)/\SeqAt.RcNeAt A s (.ref a) (.ref b) (!eqD M (n+1) x y):=λ{a b k} p1 p2 ek h1 h2=>by
   subst ek
   refine⟨?_,h1,h2⟩
   by_cases hab:a=b
   ·subst hab
    rw[yk I sm (n+1) x y _ p1 p2 o1 o2]
    exact ADm _
   ·exact SeqAt.EqAt.of_refs hab h1
  cases r1 with
  | ty b=>simp[okD]at o1
  | non =>
   cases e1
   cases r2 with
   | ty b=>simp[okD]at o2
   | tup hq r=>cases e2;obtain⟨its,rr,pl,_⟩:=tupAt hq r;exact⟨SeqAt.EqAt.none_tuple pl hu0,SeqAt.RcAt.none_tuple pl hu0,SeqAt.RcNeAt.none_tuple pl hu0⟩
   | ref e=>cases e2;obtain⟨mo,hm,vs,its,r,rr,pl,_⟩:=lstAt e o2;exact⟨SeqAt.EqAt.none_list pl hu0,SeqAt.RcAt.none_list pl hu0,SeqAt.RcNeAt.none_list pl hu0⟩
   | non=>cases e2;exact⟨ADm _,SeqAt.RcAt.none_none,SeqAt.RcNeAt.none_none⟩
   | bl b=>cases e2;exact⟨SeqAt.EqAt.none_bool _,SeqAt.RcAt.none_bool _,SeqAt.RcNeAt.none_bool _⟩
   | int b=>obtain⟨t,rfl⟩:=e2;exact⟨SeqAt.EqAt.none_int _ _,SeqAt.RcAt.none_int _ _,SeqAt.RcNeAt.none_int _ _⟩
   | str b=>obtain⟨t,rfl⟩:=e2;exact⟨SeqAt.EqAt.none_str _ _,SeqAt.RcAt.none_str _ _,SeqAt.RcNeAt.none_str _ _⟩
  | bl a =>
   cases e1
   cases r2 with
   | ty b=>simp[okD]at o2
   | tup hq r=>cases e2;obtain⟨its,rr,pl,_⟩:=tupAt hq r;exact⟨SeqAt.EqAt.bool_tuple _ pl hu0,SeqAt.RcAt.bool_tuple _ pl hu0,SeqAt.RcNeAt.bool_tuple _ pl hu0⟩
   | ref e=>cases e2;obtain⟨mo,hm,vs,its,r,rr,pl,_⟩:=lstAt e o2;exact⟨SeqAt.EqAt.bool_list _ pl hu0,SeqAt.RcAt.bool_list _ pl hu0,SeqAt.RcNeAt.bool_list _ pl hu0⟩
   | non=>cases e2;exact⟨SeqAt.EqAt.bool_none _,SeqAt.RcAt.bool_none _,SeqAt.RcNeAt.bool_none _⟩
   | bl b=>cases e2;exact⟨SeqAt.EqAt.bool_bool _ _,SeqAt.RcAt.bool_bool _ _,SeqAt.RcNeAt.bool_bool _ _⟩
   | int b=>obtain⟨t,rfl⟩:=e2;exact⟨SeqAt.EqAt.bool_int _ _ _,SeqAt.RcAt.bool_int _ _ _,SeqAt.RcNeAt.bool_int _ _ _⟩
   | str b=>obtain⟨t,rfl⟩:=e2;exact⟨SeqAt.EqAt.bool_str _ _ _,SeqAt.RcAt.bool_str _ _ _,SeqAt.RcNeAt.bool_str _ _ _⟩
  | int a =>
   obtain⟨t0,rfl⟩:=e1
   cases r2 with
   | ty b=>simp[okD]at o2
   | tup hq r=>cases e2;obtain⟨its,rr,pl,_⟩:=tupAt hq r;exact⟨SeqAt.EqAt.int_tuple _ _ pl hu0,SeqAt.RcAt.int_tuple _ _ pl hu0,SeqAt.RcNeAt.int_tuple _ _ pl hu0⟩
   | ref e=>cases e2;obtain⟨mo,hm,vs,its,r,rr,pl,_⟩:=lstAt e o2;exact⟨SeqAt.EqAt.int_list _ _ pl hu0,SeqAt.RcAt.int_list _ _ pl hu0,SeqAt.RcNeAt.int_list _ _ pl hu0⟩
   | non=>cases e2;exact⟨SeqAt.EqAt.int_none _ _,SeqAt.RcAt.int_none _ _,SeqAt.RcNeAt.int_none _ _⟩
   | bl b=>cases e2;exact⟨SeqAt.EqAt.int_bool _ _ _,SeqAt.RcAt.int_bool _ _ _,SeqAt.RcNeAt.int_bool _ _ _⟩
   | int b=>obtain⟨t,rfl⟩:=e2;exact⟨AD7 _ _ _ _,SeqAt.RcAt.int_int _ _ _ _,SeqAt.RcNeAt.int_int _ _ _ _⟩
   | str b=>obtain⟨t,rfl⟩:=e2;exact⟨ACP _ _ _ _,SeqAt.RcAt.int_str _ _ _ _,SeqAt.RcNeAt.int_str _ _ _ _⟩
  | str a =>
   obtain⟨t0,rfl⟩:=e1
   cases r2 with
   | ty b=>simp[okD]at o2
   | tup hq r=>cases e2;obtain⟨its,rr,pl,_⟩:=tupAt hq r;exact⟨SeqAt.EqAt.str_tuple _ _ pl hu0,SeqAt.RcAt.str_tuple _ _ pl hu0,SeqAt.RcNeAt.str_tuple _ _ pl hu0⟩
   | ref e=>cases e2;obtain⟨mo,hm,vs,its,r,rr,pl,_⟩:=lstAt e o2;exact⟨SeqAt.EqAt.str_list _ _ pl hu0,SeqAt.RcAt.str_list _ _ pl hu0,SeqAt.RcNeAt.str_list _ _ pl hu0⟩
   | non=>cases e2;exact⟨SeqAt.EqAt.str_none _ _,SeqAt.RcAt.str_none _ _,SeqAt.RcNeAt.str_none _ _⟩
   | bl b=>cases e2;exact⟨SeqAt.EqAt.str_bool _ _ _,SeqAt.RcAt.str_bool _ _ _,SeqAt.RcNeAt.str_bool _ _ _⟩
   | int b=>obtain⟨t,rfl⟩:=e2;exact⟨ACQ _ _ _ _,SeqAt.RcAt.str_int _ _ _ _,SeqAt.RcNeAt.str_int _ _ _ _⟩
   | str b=>obtain⟨t,rfl⟩:=e2;exact⟨AD8 _ _ _ _,SeqAt.RcAt.str_str _ _ _ _,SeqAt.RcNeAt.str_str _ _ _ _⟩
  | @tup a vs ds hq r =>
   cases e1
   obtain⟨its,rr,pl,ll⟩:=tupAt hq r
   cases r2 with
   | ty b=>simp[okD]at o2
   | non=>cases e2;exact⟨SeqAt.EqAt.tuple_none pl hu0,SeqAt.RcAt.tuple_none pl hu0,SeqAt.RcNeAt.tuple_none pl hu0⟩
   | bl b=>cases e2;exact⟨SeqAt.EqAt.tuple_bool _ pl hu0,SeqAt.RcAt.tuple_bool _ pl hu0,SeqAt.RcNeAt.tuple_bool _ pl hu0⟩
   | int b=>obtain⟨t,rfl⟩:=e2;exact⟨SeqAt.EqAt.tuple_int _ _ pl hu0,SeqAt.RcAt.tuple_int _ _ pl hu0,SeqAt.RcNeAt.tuple_int _ _ pl hu0⟩
   | str b=>obtain⟨t,rfl⟩:=e2;exact⟨SeqAt.EqAt.tuple_str _ _ pl hu0,SeqAt.RcAt.tuple_str _ _ pl hu0,SeqAt.RcNeAt.tuple_str _ _ pl hu0⟩
   | ref e=>cases e2;obtain⟨mo,hm,vs',its',r',rr',pl',_⟩:=lstAt e o2;exact⟨SeqAt.EqAt.tuple_list pl pl' hu0,SeqAt.RcAt.tuple_list pl pl' hu0,SeqAt.RcNeAt.tuple_list pl pl' hu0⟩
   | @tup b ws es hq' r' =>
    cases e2
    obtain⟨jts,rr',pl',ll'⟩:=tupAt hq' r'
    have ok1:ds.all (okD M n)=true:=by simpa [okD]using o1
    have ok2:es.all (okD M n)=true:=by simpa [okD]using o2
    have key:((AAl (min its.toArray.size jts.toArray.size)).all (λj=>eqD M n (ds.getD j .non) (es.getD j .non))&&its.toArray.size==jts.toArray.size)=eqL (eqD M n) ds es:=by
     rw[AAC,AAC]
     by_cases hl:ds.length=es.length
     ·rw[<-ll,<-ll',<-hl,Nat.min_self,rng ds es hl]
      simp
     ·rw[vY hl,<-ll,<-ll']
      simp[hl]
    have h1:=SeqAt.RcAt.tuples pl pl' hu0 (items r rr r' rr' ok1 ok2)
    have h2:=SeqAt.RcNeAt.tuples pl pl' hu0 (items r rr r' rr' ok1 ok2)
    rw[key]at h1 h2
    exact fin (.tup hq r) (.tup hq' r') rfl h1 h2
  | @ref i a e =>
   cases e1
   obtain⟨mo,hm,vs,its,r,rr,pl,ll⟩:=lstAt e o1
   cases r2 with
   | ty b=>simp[okD]at o2
   | non=>cases e2;exact⟨SeqAt.EqAt.list_none pl hu0,SeqAt.RcAt.list_none pl hu0,SeqAt.RcNeAt.list_none pl hu0⟩
   | bl b=>cases e2;exact⟨SeqAt.EqAt.list_bool _ pl hu0,SeqAt.RcAt.list_bool _ pl hu0,SeqAt.RcNeAt.list_bool _ pl hu0⟩
   | int b=>obtain⟨t,rfl⟩:=e2;exact⟨SeqAt.EqAt.list_int _ _ pl hu0,SeqAt.RcAt.list_int _ _ pl hu0,SeqAt.RcNeAt.list_int _ _ pl hu0⟩
   | str b=>obtain⟨t,rfl⟩:=e2;exact⟨SeqAt.EqAt.list_str _ _ pl hu0,SeqAt.RcAt.list_str _ _ pl hu0,SeqAt.RcNeAt.list_str _ _ pl hu0⟩
   | tup hq' r'=>cases e2;obtain⟨its',rr',pl',_⟩:=tupAt hq' r';exact⟨SeqAt.EqAt.list_tuple pl pl' hu0,SeqAt.RcAt.list_tuple pl pl' hu0,SeqAt.RcNeAt.list_tuple pl pl' hu0⟩
   | @ref j b e' =>
    cases e2
    obtain⟨mo',hm',ws,jts,r',rr',pl',ll'⟩:=lstAt e' o2
    have ok1:mo.items.all (okD M n)=true:=(gs hm o1).2
    have ok2:mo'.items.all (okD M n)=true:=(gs hm' o2).2
    have ek:eqD M (n+1) (.ref i) (.ref j)=eqL (eqD M n) mo.items mo'.items:=by simp only[eqD,hm,hm']
    by_cases hl:mo.items.length=mo'.items.length
    ·have hsz:its.toArray.size=jts.toArray.size:=by rw[AAC,AAC,<-ll,<-ll',hl]
     have h1:=SeqAt.RcAt.lists pl pl' hsz hu0 (items r rr r' rr' ok1 ok2)
     have h2:=SeqAt.RcNeAt.lists pl pl' hsz hu0 (items r rr r' rr' ok1 ok2)
     rw[AAC,<-ll,rng _ _ hl]at h1 h2
     exact fin (.ref e) (.ref e') ek h1 h2
    ·have hsz:(its.toArray.size != jts.toArray.size)=true:=by
      rw[AAC,AAC,<-ll,<-ll']
      simpa using hl
     have h1:=SeqAt.RcAt.lists_lengths pl pl' hsz hu0
     have h2:=SeqAt.RcNeAt.lists_lengths pl pl' hsz hu0
     exact fin (.ref e) (.ref e') (ek.trans (vY hl)) h1 h2
noncomputable def eqN:Nat:=30
def qEq:DR2:=λx y M Q=>(okD M eqN x=true/\okD M eqN y=true)/\Q (.bl (eqD M eqN x y)) M
def qNe:DR2:=λx y M Q=>(okD M eqN x=true/\okD M eqN y=true)/\Q (.bl (!eqD M eqN x y)) M
end
theorem ky(hr:Room k A):A.units+eqN<cLine:=by have:=hr.un;unfold eqN;lia
theorem od_eq{X:Cx}(hr:Room k X.A):OpD X (compareOp .Eq) qEq:=by
 rintro pins s σ H vx vy v u R I rx ry ⟨x,y,M,ρ,Q,sm,r1,r2,⟨⟨o1,o2⟩,q⟩,k⟩
 exact(nF I sm eqN X.A x y vx vy v u (ky hr) r1 rx r2 ry o1 o2).2.1 _ _ _ _ (jz I sm k q)
theorem od_ne{X:Cx}(hr:Room k X.A):OpD X (compareOp .NotEq) qNe:=by
 rintro pins s σ H vx vy v u R I rx ry ⟨x,y,M,ρ,Q,sm,r1,r2,⟨⟨o1,o2⟩,q⟩,k⟩
 exact(nF I sm eqN X.A x y vx vy v u (ky hr) r1 rx r2 ry o1 o2).2.2 _ _ _ _ (jz I sm k q)
theorem EQ:bootBuiltins "len" = some (.builtin "len"):=by decide +kernel
theorem lC:bootBuiltins "isinstance" = some (.builtin "isinstance"):=by decide +kernel
theorem nV:bootBuiltins "sorted" = some (.builtin "sorted"):=by decide +kernel
theorem ER:bootBuiltins "int" = some (.type "int"):=by decide +kernel
theorem EN:bootBuiltins "str" = some (.type "str"):=by decide +kernel
theorem BD:bootBuiltins "bool" = some (.type "bool"):=by decide +kernel
theorem BB:bootBuiltins "list" = some (.type "list"):=by decide +kernel
theorem yE:bootBuiltins "tuple" = some (.type "tuple"):=by decide +kernel
theorem BC:bootBuiltins "dict" = some (.type "dict"):=by decide +kernel
noncomputable def visB(sc:Scope)(x:Str):Bool:=match sc.names.lookup x with
 | some .local=>true
 | some .cell=>true
 | some .free=>true
 | _=>false
theorem BT(h:visB sc x=true):Vis sc x:=by
 unfold visB at h
 unfold Vis
 split at h
 ·rename_i e;exact .inl e
 ·rename_i e;exact .inr (.inl e)
 ·rename_i e;exact .inr (.inr e)
 ·cases h
noncomputable def BJ(sc:Scope)(x:Str):Bool:=match sc.names.lookup x with
 | some .local=>true
 | some .cell=>true
 | _=>false
theorem uV(h:BJ sc x=true):Loc sc x:=by
 unfold BJ at h
 unfold Loc
 split at h
 ·rename_i e;exact .inl e
 ·rename_i e;exact .inr e
 ·cases h
structure HE(X:Cx)(e:Expr)(t:DTE):Prop where
 ok:DE X e t
structure HT(X:Cx)(e:Expr)(t:DTT):Prop where
 ok:DT X e t
structure HW(X:Cx)(e:Expr)(t:DTT):Prop where
 ok:DW X e t
structure HA(X:Cx)(es:List Expr)(t:DTA):Prop where
 ok:DA X es t
structure HS(X:Cx)(e:Stmt)(t:DTS):Prop where
 ok:DS X e t
structure HB(X:Cx)(e:List Stmt)(t:DTS):Prop where
 ok:DSs X e t
structure HG(X:Cx)(e:Expr)(t:DTG):Prop where
 ok:DG X e t
structure HI(X:Cx)(tg e:Expr)(t:DTI):Prop where
 ok:DI X tg e t
structure HTs(X:Cx)(e:List Expr)(t:DTT):Prop where
 ok:PTs X e (lowT X.K t)
structure HO'(X:Cx)(e:Option Expr)(t:DTO):Prop where
 ok:PO X e (Dg X.K t)
structure HOp(X:Cx)(f:Value->Value->Sem Value)(r:DR2):Prop where
 ok:OpD X f r
structure HUn(X:Cx)(f:Value->Sem Value)(r:DR1):Prop where
 ok:UnD X f r
structure HC(X:Cx)(f:Value)(r:DRA):Prop where
 ok:fZ X f r
structure HMs(X:Cx)(name:Str)(r:Str->DRA):Prop where
 ok:∃id,Slot "str" name id/\typeOf (.builtin id)=pure (.type "method_descriptor")/\MtR X id (lowMs X.K r)
structure HMl(X:Cx)(name:Str)(r:Nat->DRA):Prop where
 ok:∃id,Slot "list" name id/\typeOf (.builtin id)=pure (.type "method_descriptor")/\MtR X id (uQ X.K r)
theorem k_var(hN:X.N[i]?=some x:=by kernel_rfl)(hv:visB X.env.scope x=true:=by kernel_rfl)(hd:(x==("__debug__":Str))=false:=by kernel_rfl)
  (hcd:(x==("__classdict__":Str))=false:=by kernel_rfl):HE X (.Name x pos) (ab i):=⟨d_var hN (BT hv) hd hcd⟩
theorem k_int:HE X (.Constant (.int i) j pos) (dC (.int i)):=⟨d_int⟩
theorem k_bl:HE X (.Constant (.bool i) j pos) (dC (.bl i)):=⟨d_bl⟩
theorem k_non:HE X (.Constant .none j pos) (dC .non):=⟨d_non⟩
theorem k_str:HE X (.Constant (.str i) j pos) (dC (.str i)):=⟨d_str⟩
theorem Dz(hm:X.mg x=none)(hv:bootBuiltins x=some (.type T))(hg:X.env.kindOf x=some .globalImplicit:=by kernel_rfl)(hn:(x==("__name__":Str))=false:=by kernel_rfl)(hb:(x==("__debug__":Str))=false:=by kernel_rfl):HE X (.Name x pos) (dC (.ty T)) :=
 ⟨EC hm hv hg (by simpa using hn) hb⟩
theorem k_op(ho:HOp X (binaryOp op) r)(ha:HE X a ta)(hb:HE X b tb):HE X (.BinOp a op b pos) (dOp r ta tb):=⟨d_op ho.ok ha.ok hb.ok⟩
theorem k_un(ho:HUn X (unaryOp op) r)(ha:HE X a ta):HE X (.UnaryOp op a pos) (dUn r ta):=⟨d_un ho.ok ha.ok⟩
theorem k_cmp(ho:HOp X (compareOp op) r)(ha:HE X a ta)(hb:HE X b tb)(hm:behindInMarks op b=false:=by kernel_rfl):HE X (.Compare a [op] [b] pos) (dOp r ta tb):=⟨d_cmp ho.ok ha.ok hb.ok hm⟩
theorem Dl(ho:HOp X (compareOp op) r)(ha:HE X a ta)(hb:HE X b tb)(hm:behindInMarks op b=false:=by kernel_rfl):HT X (.Compare a [op] [b] pos) (az (dOp r ta tb)):=⟨Em ho.ok ha.ok hb.ok hm⟩
theorem Dj(h:HE X e te)(he:∀whole,isTrue e X.env whole=(do let v <-whole;standAt e.pos;holding [v] (truthy v)):=by intro _;kernel_rfl):HT X e (az te):=⟨Ek h.ok he⟩
theorem Aq(ha:HT X a tA):HW X (.BoolOp .And [a] pos) tA:=⟨Bb ha.ok⟩
theorem Dh(ha:HT X a tA):HW X (.BoolOp .Or [a] pos) tA:=⟨Ei ha.ok⟩
theorem yM{X:Cx}{a b:Expr}{aZ:List Expr}{pos:Pos}{tA tB:DTT}(ha:HT X a tA)(hb:HW X (.BoolOp .And (b::aZ) pos) tB):HW X (.BoolOp .And (a::b::aZ) pos) (yY tA tB):=⟨Ej ha.ok hb.ok⟩
theorem Di{X:Cx}{a b:Expr}{aZ:List Expr}{pos:Pos}{tA tB:DTT}(ha:HT X a tA)(hb:HW X (.BoolOp .Or (b::aZ) pos) tB):HW X (.BoolOp .Or (a::b::aZ) pos) (dOr tA tB):=⟨dw_or ha.ok hb.ok⟩
theorem kw_t(h:HW X e tA):HT X e tA:=⟨dw_t h.ok⟩
theorem Dk(ha:HT X a tA):HT X (.UnaryOp .Not a pos) (yX tA):=⟨El ha.ok⟩
theorem k_one{op}(h:HE X a ta):HE X (.BoolOp op [a] pos) ta:=⟨d_one h.ok⟩
theorem k_and{X:Cx}{a b:Expr}{aZ:List Expr}{ta tb:DTE}{pos:Pos}(ha:HE X a ta)(hb:HE X (.BoolOp .And (b::aZ) pos) tb):HE X (.BoolOp .And (a::b::aZ) pos) (pR ta tb):=⟨d_and ha.ok hb.ok⟩
theorem k_not(ha:HE X a ta):HE X (.UnaryOp .Not a pos) (yx ta):=⟨d_not ha.ok⟩
theorem AG(hc:HT X c tA)(ha:HE X a ta)(hb:HE X b tb):HE X (.IfExp c a b pos) (dIfE tA ta tb):=⟨Bu hc.ok ha.ok hb.ok⟩
theorem Dy:HA X [] ah:=⟨EB⟩
theorem AC(ha:HE X e te)(hr:HA X es t)(hs:starEach (e::es) X.env=(false,eval e X.env)::starEach es X.env:=by kernel_rfl):HA X (e::es) (aa te t):=⟨Bs ha.ok hr.ok hs⟩
theorem k_tup{x1}(h:HA X es t):HE X (.Tuple es x1 pos) (bi t):=⟨d_tup h.ok⟩
theorem k_lst(h:HA X es t):HE X (.List es pos) (gI t):=⟨d_lst h.ok⟩
theorem AH{id:String}{r:DRA}(hc:HC X (.builtin id) r)(hm:X.mg x=none)(hv:bootBuiltins x=some (.builtin id))(ha:HA X (e::es) t)(hg:X.env.kindOf x=some .globalImplicit:=by kernel_rfl)(hn:(x==("__name__":Str))=false:=by kernel_rfl)(hdb:(x==("__debug__":Str))=false:=by kernel_rfl)
  (he:starEach (e::es) X.env=(false,eval e X.env)::starEach es X.env:=by kernel_rfl) (hpl:(backTo pos (starEach es X.env)).any (·.1)=false:=by kernel_rfl):HE X (.Call (.Name x p) (e::es) [] pos) (dCB r t):=⟨Bv hc.ok hm hv ha.ok hg (by simpa using hn) hdb he hpl⟩
theorem ya(hc:HC X (.type T) r)(hm:X.mg x=none)(hv:bootBuiltins x=some (.type T))(ha:HA X (e::es) t)(hg:X.env.kindOf x=some .globalImplicit:=by kernel_rfl)(hn:(x==("__name__":Str))=false:=by kernel_rfl)(hdb:(x==("__debug__":Str))=false:=by kernel_rfl)
  (he:starEach (e::es) X.env=(false,eval e X.env)::starEach es X.env:=by kernel_rfl) (hpl:(backTo pos (starEach es X.env)).any (·.1)=false:=by kernel_rfl):HE X (.Call (.Name x p) (e::es) [] pos) (dCB r t):=⟨yw hc.ok hm hv ha.ok hg (by simpa using hn) hdb he hpl⟩
theorem k_cal(C:Cal X.prog X.w X.K X.mg X.base j x ps P)(hr:Room k X.A)(ha:HA X (e::es) t)(hj:Nat.ble j k=true:=by kernel_rfl)
  (hg:X.env.kindOf x=some .globalImplicit:=by kernel_rfl) (hdb:(x==("__debug__":Str))=false:=by kernel_rfl) (he:starEach (e::es) X.env=(false,eval e X.env)::starEach es X.env:=by kernel_rfl) (hpl:(backTo pos (starEach es X.env)).any (·.1)=false:=by kernel_rfl) :
  HE X (.Call (.Name x p) (e::es) [] pos) (dCB P t):=⟨d_cal C hr ha.ok (ACW hj) hg hdb he hpl⟩
theorem DM(C:Cal X.prog X.w X.K X.mg X.base j x ps P)(hr:Room k X.A)(hj:Nat.ble j k=true:=by kernel_rfl)
  (hg:X.env.kindOf x=some .globalImplicit:=by kernel_rfl) (hdb:(x==("__debug__":Str))=false:=by kernel_rfl):HE X (.Call (.Name x p) [] [] pos) (dCB P ah):=⟨EJ C hr (ACW hj) hg hdb⟩
theorem k_ix(ha:HE X a ta)(hb:HE X b tb)(hs:pW b:=by intro _ _;kernel_rfl):HE X (.Subscript a b pos) (dOp qIx ta tb):=⟨d_ix ha.ok hb.ok hs⟩
theorem Ax:HO' X none bO:=⟨Bm⟩
theorem Aw(h:HE X e te):HO' X (some e) (fF te):=⟨Bl h.ok⟩
theorem AE{lo hi:Option Expr}{tl th:DTO}{p2:Pos}(he:HE X e te)(hl:HO' X lo tl)(hu:HO' X hi th):HE X (.Subscript e (.Slice lo hi none p2) pos) (dSl te tl th):=⟨Bt he.ok hl.ok hu.ok⟩
theorem k_ml(hm:HMl X name r)(ho:HE X o to)(ha:HA X (e::es) t)
  (hbase:attributeBase o name X.env (eval o X.env)=eval o X.env:=by kernel_rfl)
  (hfew:((backTo cpos (starEach (e::es) X.env)).all (λx=>!x.1)&&(backToKw cpos (keywordEach [] X.env)).all (λx=>x.1.isSome)
   && decide ((e::es).length+([]:List Keyword).length+(if ([]:List Keyword).isEmpty then 0 else 1)<30))=true:=by kernel_rfl)
  (hline:(apos.endLine==cpos.line)=true:=by kernel_rfl) (hs:starEach (e::es) X.env=(false,eval e X.env)::starEach es X.env:=by kernel_rfl) (hplain:(backTo cpos (starEach es X.env)).any (·.1)=false:=by kernel_rfl) :
  HE X (.Call (.Attribute o name apos) (e::es) [] cpos) (dMl r to t):=let ⟨_,h1,h2,h3⟩:=hm.ok;⟨d_ml h1 h2 h3 ho.ok ha.ok hbase hfew hline hs hplain⟩
theorem Do:HB X [] aI:=⟨Er⟩
theorem Dm{X:Cx}{st:Stmt}{ts:DTS}(h:HS X st ts):HB X [st] ts:=⟨Ep h.ok⟩
theorem Av{X:Cx}{st:Stmt}{sts:List Stmt}{ts us:DTS}(h1:HS X st ts)(h2:HB X sts us):HB X (st::sts) (au ts us):=⟨Bk h1.ok h2.ok⟩
theorem vt(he:HE X e te)(hs:swapsWith e none pos.line X.env=pure false:=by kernel_rfl):HS X (.Expr e pos) (jB te):=⟨Bi he.ok hs⟩
theorem yP(he:HE X e te):HS X (.Return (some e) pos) (be te):=⟨Eo he.ok⟩
theorem Dp(hc:HT X c tA)(ha:HB X aS ts)(hb:HB X bS us):HS X (.If c aS bS pos) (dIf tA ts us):=⟨ds_if hc.ok ha.ok hb.ok⟩
theorem yO(hN:X.N.Nodup)(he:HE X e te)(hi:X.N[i]?=some x:=by kernel_rfl)(hx:BJ X.env.scope x=true:=by kernel_rfl)(hs:swapsWith e (some (.Name x pos')) pos.line X.env=pure false:=by kernel_rfl)
  (hf:X.fn x=true:=by kernel_rfl):HS X (.Assign [.Name x pos'] e pos) (aJ te i):=⟨En hN he.ok hi (uV hx) hs (.inl hf)⟩
theorem AA(hN:X.N.Nodup)(hi:X.N[i]?=some x:=by kernel_rfl)(hx:BJ X.env.scope x=true:=by kernel_rfl)(hf:X.fn x=true:=by kernel_rfl):HG X (.Name x pos) (al i):=⟨pN hN hi (uV hx) (.inl hf)⟩
theorem Du(hN:X.N.Nodup)(hi:X.N[i]?=some x:=by kernel_rfl)(hf:X.env.scope.names.lookup x=some .local:=by kernel_rfl):HG X (.Name x pos) (al i):=⟨pN hN hi (.inl hf) (.inr hf)⟩
theorem Dr(h:HE X e te):HI X tg e (cy te):=⟨Ew h.ok⟩
theorem yQ{body:List Stmt}{tb:DTS}(hi:HI X tg iter di)(hg:HG X tg g)(hb:HB X body tb)(hp:PassesOwn (model X.prog X.w) X.A X.env X.xe:=by exact PassesOwn.never)(hc:X.calm=true:=by kernel_rfl)
  (hs:∀x,foldedSetIterable iter X.env x=pure x:=by intro _;kernel_rfl):HS X (.For tg iter body [] pos) (gJ di g tb):=⟨Es hi.ok hg.ok hb.ok hp hc hs⟩
theorem Au:HTs X [] lh:=⟨Bf⟩
theorem At(h:HT X c tA):HTs X [c] tA:=⟨Be h.ok⟩
theorem k_lc(hi:HI X tg iter di)
  (hg:∀cl s0 H0 ex,HG (blk X N' scope cl s0 H0 ex) tg g) (ht:∀cl s0 H0 ex,HTs (blk X N' scope cl s0 H0 ex) ifs tt) (he:∀cl s0 H0 ex,HE (blk X N' scope cl s0 H0 ex) elt te) (B:km X.env.scope.names X.N N' nt js scope=true:=by kernel_rfl) (hc:X.calm=true:=by kernel_rfl)
  (hs:∀x,foldedSetIterable iter X.env x=pure x:=by intro _;kernel_rfl):HE X (.ListComp elt [⟨tg,iter,ifs,0⟩] scope pos) (dLC nt js di g tt te):=⟨d_lc (BlkSc.chk B) hi.ok (λcl s0 H0 ex=>(hg cl s0 H0 ex).ok) (λcl s0 H0 ex=>(ht cl s0 H0 ex).ok) (λcl s0 H0 ex=>(he cl s0 H0 ex).ok) hc hs⟩
theorem vB(hm:X.mg "range" = none)(ha:HA X [a] t)(hg:X.env.kindOf "range" = some .globalImplicit:=by kernel_rfl)(hs:starEach [a] X.env=[(false,eval a X.env)]:=by kernel_rfl):HI X tg (.Call (.Name "range" p) [a] [] pos) (aU t):=⟨wf hm ha.ok hg hs⟩
theorem DU:HOp X (binaryOp .Sub) zu:=⟨CZ⟩
theorem DV:HOp X (binaryOp .Mult) gF:=⟨Ae⟩
theorem AN:HOp X (binaryOp .FloorDiv) aC:=⟨Af⟩
theorem DY:HOp X (binaryOp .Mod) bC:=⟨Da⟩
theorem ho_lt:HOp X (compareOp .Lt) qLt:=⟨Dc⟩
theorem ho_gt:HOp X (compareOp .Gt) qGt:=⟨od_gt⟩
theorem ho_is:HOp X (compareOp .Is) qIs:=⟨od_is⟩
theorem yb:HOp X (compareOp .IsNot) mN:=⟨xD⟩
theorem ho_eq(hr:Room k X.A):HOp X (compareOp .Eq) qEq:=⟨od_eq hr⟩
theorem ho_ne(hr:Room k X.A):HOp X (compareOp .NotEq) qNe:=⟨od_ne hr⟩
theorem DR:HUn X (unaryOp .USub) Ck:=⟨BV⟩
theorem Ec:HC X (.builtin "len") ju:=⟨EL⟩
theorem Ed:HC X (.builtin "isinstance") oJ:=⟨EM⟩
theorem vN:HMl X "append" cu:=⟨_,PySem.F.slot_list_append,PySem.F.type_list_append,sn⟩
theorem Cal.byH{P:Program}{w:World}{K:AA2}{mg:Str->Option Value}{base:Heap}{x:Str}{st:Stmt}{N ps:List Str}{k:Nat}{Pr:DSp}(F:eu K mg x st ps)(Sc:FnScope N ps (ao st))
  (len:∀ds M R,Pr ds M R->ds.length=ps.length) {t:DTS}
  (der:∀(f:Addr) (cdv:Value) (A:Around) (outer:List Env) (s:Shared) (H:Hp) (E:XK),Room k (A.deeper (envOfC x (ao st) s.heap.objs.size f cdv))->HB (nI CX0 P w K mg base N x (ao st) f cdv A outer s H E).nox (aO st) t)
  (wp:∀ds M R,Pr ds M R->t ⟨λ_ M'=>aH M R .non M',aH M R,λ_ _=>False,λ_ _=>False⟩ (bw N ds) M):Cal P w K mg base (k+1) x ps Pr :=
 Cal.of F Sc len (λf cdv A outer s H E hr=>(der f cdv A outer s H E hr).ok) wp
theorem yi{P:Program}{w:World}{K:AA2}{mg:Str->Option Value}{base:Heap}{x:Str}{st:Stmt}{N ps:List Str}{k:Nat}{Pr:DSp}{f:Addr}{fd:FuncData}(F:Fun K x x st f fd)(Sc:FnScope N ps (ao st))
  (len:∀ds M R,Pr ds M R->ds.length=ps.length) {t:DTS}
  (der:∀(f:Addr) (cdv:Value) (A:Around) (outer:List Env) (s:Shared) (H:Hp) (E:XK),Room k (A.deeper (envOfC x (ao st) s.heap.objs.size f cdv))->HB (nI CX0 P w K mg base N x (ao st) f cdv A outer s H E).nox (aO st) t)
  (wp:∀ds M R,Pr ds M R->t ⟨λ_ M'=>aH M R .non M',aH M R,λ_ _=>False,λ_ _=>False⟩ (bw N ds) M):FnOk P w K mg base CX0 (k+1) f fd ps (spL K Pr) :=
 AY F Sc len (λf cdv A outer s H E hr=>(der f cdv A outer s H E hr).ok) wp
theorem lx(I:List D->SD->Mem->Prop)(h0:∀S M,I [] S M->ok M/\E.nx S M)
  (h1:∀x xs S M,I (x::xs) S M->∀L:SD->Mem->Prop,(∀S' M',I xs S' M'->L S' M')->ok M/\g x S M λS2 M2=>tb ⟨Fgt k0 L,E.rt,E.nx,Fgt k0 L⟩ S2 M2) :
  ∀xs S M,I xs S M->lz ok g tb E k0 xs S M
 | [],S,M,h=>h0 S M h
 | x::xs,S,M,h=>h1 x xs S M h _ (lx I h0 h1 xs)
theorem aF(I:Nat->SD->Mem->Prop)(h0:∀S M,I xs.length S M->ok M/\E.nx S M)
  (h1:∀i x S M,xs[i]?=some x->I i S M->∀L:SD->Mem->Prop,(∀S' M',I (i+1) S' M'->L S' M')->ok M/\g x S M λS2 M2=>tb ⟨Fgt k0 L,E.rt,E.nx,Fgt k0 L⟩ S2 M2)
 (h:I 0 S M):lz ok g tb E k0 xs S M:=by
 refine lx (λys S M=>∃i,xs.drop i=ys/\i+ys.length=xs.length/\I i S M) ?_ ?_ xs S M ⟨0,rfl,by simp,h⟩
 ·rintro S M ⟨i,_,e,q⟩
  have:i=xs.length:=by simpa using e
  subst this
  exact h0 S M q
 ·rintro x ys S M ⟨i,e,el,q⟩ L hL
  have hx:xs[i]?=some x:=by
   have:(xs.drop i)[0]?=some x:=by rw[e];rfl
   simpa using this
  refine h1 i x S M hx q L λS' M' q'=>hL S' M' ⟨i+1,?_,by simp at el;lia,q'⟩
  rw[<-List.drop_drop,e]
  rfl
theorem Fgt.now(h:P S M):Fgt k0 P S M:=.inl h
theorem bj{lo:Int}{n i:Nat}{x:D}:(gm lo n)[i]?=some x↔i<n/\x=.int (lo+(i:Int)):=by
 unfold gm
 rw[AAN]
 by_cases h:i<n
 ·simp[h,eq_comm]
 ·simp[h]
theorem aM{lo:Int}{n:Nat}:(gm lo n).length=n:=by simp[gm]
theorem fY(p:D->Bool)(f:D->D)(I:SD->Prop)(hok:ok M) :
  ∀(xs acc:List D) (S:SD),(∀x∈xs,∀S,I S->∃S',I S'/\∀(Y:D->SD->Mem->Prop) (Z:SD->Mem->Prop),(if p x=true then Y (f x) S' M else Z S' M) ->
    g x S M λS2 M2=>tt S2 M2 λb M3=>if b=true then te S2 M3 λy M4=>Y y S2 M4 else Z S2 M3) ->
   I S->acc.length+xs.length<=sizeLine->Q (.ref M.length) (M++[.lst (acc++(xs.filter p).map f)])->gK ok g tt te Q xs acc S M
 | [],acc,S,_,_,_,q=>⟨hok,by simpa using q⟩
 | x::xs,acc,S,step,hS,hl,q=>by
  obtain⟨S',hS',k⟩:=step x AAE S hS
  refine⟨hok,k (λy S2 M4=>acc.length<sizeLine/\gK ok g tt te Q xs (acc++[y]) S2 M4) (λS2 M3=>gK ok g tt te Q xs acc S2 M3) ?_⟩
  have step':=λy hy=>step y (AA9 _ hy)
  rw[AAO]at hl
  by_cases hp:p x=true
  ·rw[if_pos hp]
   refine⟨by lia,fY p f I hok xs _ S' step' hS' (by rw[AAH,AAy];lia) ?_⟩
   rw[List.filter_cons_of_pos hp,AAQ]at q
   rw[AAR]
   exact q
  ·rw[if_neg hp]
   refine fY p f I hok xs acc S' step' hS' (by lia) ?_
   rw[List.filter_cons_of_neg hp]at q
   exact q
theorem aR(f:D->D)(I:SD->Prop)(hok:ok M)
  (xs acc:List D) (S:SD) (step:∀x∈xs,∀S,I S->∃S',I S'/\∀(Y:D->SD->Mem->Prop),Y (f x) S' M->g x S M λS2 M2=>te S2 M2 λy M4=>Y y S2 M4)
  (hS:I S) (hl:acc.length+xs.length<=sizeLine) (q:Q (.ref M.length) (M++[.lst (acc++xs.map f)])):gK ok g lh te Q xs acc S M:=by
 refine fY (λ_=>true) f I hok xs acc S (λx hx S hS=>?_) hS hl (by rw[List.filter_eq_self.mpr λ_ _=>rfl];exact q)
 obtain⟨S',hS',k⟩:=step x hx S hS
 refine⟨S',hS',λY Z h=>?_⟩
 rw[if_pos rfl]at h
 have:=k Y h
 simp only[lh,if_true]
 exact this
theorem ae:(M++[mo])[M.length]?=some mo:=by simp
theorem am:aq (M++[.lst xs]) M.length xs:=.inl ae
theorem aq.more(h:aq M n xs)(L:Mem):aq (M++L) n xs:=by
 have key:∀{mo:MO},M[n]?=some mo->(M++L)[n]?=some mo:=λe=>by
  rw[AAL (AA7.mp e).1];exact e
 rcases h with h | h | h
 ·exact .inl (key h)
 ·exact .inr (.inl (key h))
 ·exact .inr (.inr (key h))
theorem aH.keep(h:R d M)(b:Bel M.length d)(p:M <+: M'):aH M R d M':=.inr (.inl ⟨M,.refl,b,p,h⟩)
theorem aH.now(h:R d M):aH M R d M:=.inl h
theorem aH.int(h:R (.int b) M)(p:M <+: M'):aH M R (.int b) M':=.keep h (.int b) p
theorem aH.str(h:R (.str b) M)(p:M <+: M'):aH M R (.str b) M':=.keep h (.str b) p
theorem cv:M <+: M++[mo]:=AAT _ _
theorem oG{a b:Str}(h:a.cps.toList=b.cps.toList):a=b:=by
 cases a;cases b
 simp only[Array.toList_inj]at h
 simpa using h
theorem jc{a:Str}:a.length=a.cps.toList.length:=by show a.cps.size=_;simp
theorem wC{a b:Str}:(a++b).cps.toList=a.cps.toList++b.cps.toList:=by
 show (a.cps++b.cps).toList=_
 simp
theorem bp{a b:Str}:(a++b).length=a.length+b.length:=by
 rw[jc,jc,jc,wC,AAH]
theorem iW:(⟨#[c]⟩:Str).length=1:=rfl
theorem af(h:n<=1000):n<=sizeLine:=ADq (aB h)
theorem zb{α:Type}{xs:List α}{i:Int}(h0:0<=i)(h1:i<xs.length):∃(j:Nat) (hj:j<xs.length),atI xs i=some xs[j]/\(j:Int)=i:=by
 have hj:i.toNat<xs.length:=by lia
 refine⟨i.toNat,hj,?_,by lia⟩
 have e:i=((i.toNat:Nat):Int):=by lia
 have q:atI xs ((i.toNat:Nat):Int)=some xs[i.toNat]:=aA (AA6 hj)
 rw[<-e]at q
 exact q
theorem wA{α:Type}{xs:List α}{r:Int}(h:0<xs.length):∃(j:Nat) (hj:j<xs.length),atI xs (r % (xs.length:Int))=some xs[j]/\(j:Int)=r % (xs.length:Int) :=
 zb (AAn _ (by lia)) (AAg _ (by lia))
theorem aq.get(h:aq M n xs):∃mo,M[n]?=some mo/\mo.items=xs/\mo.isL=true:=by
 rcases h with h | h | h<;>exact⟨_,h,rfl,rfl⟩
theorem kZ(h1:aq M i xs)(h2:aq M j ys):eqD M (n+1) (.ref i) (.ref j)=eqL (eqD M n) xs ys:=by
 obtain⟨a,ha,rfl,hl1⟩:=h1.get
 obtain⟨b,hb,rfl,hl2⟩:=h2.get
 simp only[eqD,ha,hb]
theorem fV(h1:aq M i xs)(h:∀x∈xs,okD M n x=true):okD M (n+1) (.ref i)=true:=by
 obtain⟨a,ha,rfl,hl1⟩:=h1.get
 simp only[okD,ha,hl1,Bool.true_and]
 exact AAb.mpr h
theorem Ac(h:∀x∈xs,okD M n x=true):okD M (n+1) (.tup xs)=true:=by
 simp only[okD]
 exact AAb.mpr h
theorem ad:okD M n (.str x)=true:=by cases n<;>rfl
theorem uK:okD M n (.int x)=true:=by cases n<;>rfl
theorem yK:okD M n (.bl x)=true:=by cases n<;>rfl
theorem uJ:okD M n .non=true:=by cases n<;>rfl
theorem pI:eqL f xs []=xs.isEmpty:=by cases xs<;>rfl
theorem pJ:eqD M n (.int a) (.int b)=(a==b):=by cases n<;>rfl
theorem dj:eqD M n (.str a) (.str b)=(a==b):=by cases n<;>rfl
def dJ:BG:=λds S M Q=>match ds with
 | []=>Q S M
 | _=>False
def aE(t:DTG)(u:BG):BG:=λds S M Q=>match ds with
 | d::r=>t d S M λS' M'=>u r S' M' Q
 | []=>False
def dI(n:Nat)(t:BG):DTG:=λd S M Q=>match d with
 | .tup ds=>ds.length=n/\t ds S M Q
 | _=>False
theorem Bp:DGs X [] dJ:=by
 rintro pins s σ H vs us R I r ⟨ds,S,M,ρ,Q,sm,sr,rr,q,k⟩
 cases rr with
 | nil=>exact zJ pins s σ H _ us R I r ⟨rfl,k σ H ⟨S,M,ρ,sm,.refl,sr,q⟩⟩
 | cons _ _=>exact q.elim
theorem yr(h1:DG X e t)(h2:DGs X es u)
  (hs:(assignEach (e::es) X.env).map (·.2)=assign e X.env::(assignEach es X.env).map (·.2):=by rfl):DGs X (e::es) (aE t u):=by
 rintro pins s σ H vs us R I r ⟨ds,S,M,ρ,Q,sm,sr,rr,q,k⟩
 cases rr with
 | nil=>exact q.elim
 | cons r1 rr =>
  refine xp h1 h2 hs pins s σ H _ us R I r ⟨_,_,rfl,_,S,M,ρ,_,sm,sr,r1,q,?_⟩
  rintro σ1 H1 ⟨S1,M1,ρ1,s1,g1,sr1,q1⟩
  exact⟨_,S1,M1,ρ1,Q,s1,sr1,rr.grow g1,q1,λσ' H' w=>k σ' H' (SQ.trans g1 w)⟩
theorem Ey(h:DGs X es t)(hc:X.calm=true:=by rfl)
  (hn:(assignEach es X.env).length=n:=by rfl) (hst:(assignEach es X.env).findIdx? (·.1)=none:=by rfl):DG X (.Tuple es j pos) (dI n t):=by
 rintro pins s σ H v u R I r ⟨d,S,M,ρ,Q,sm,sr,rd,q,k⟩
 cases rd with
 | tup hq rr=>exact Cv hc h hn hst pins s σ H _ u R I r ⟨_,_,rfl,hq,by rw[<-rr.length];exact q.1,_,S,M,ρ,Q,sm,sr,rr,q.2,k⟩
 | _=>exact q.elim
def wJ(te:DTE)(g:DTG):DTS:=λE S M=>te S M λd M1=>g d S M1 E.nx
theorem Et(he:DE X e te)(hg:DG X tg g)(hs:swapsWithSole [tg] e pos.line X.env=pure false:=by rfl)(hw:swappedStores [tg] e X.env=pure none:=by rfl)
  (h1:(assignEach [tg] X.env).map (·.2)=[assign tg X.env]:=by rfl):DS X (.Assign [tg] e pos) (wJ te g):=by
 refine PS.imp (Cu he hg hs hw h1) ?_
 rintro E σ H ⟨S,M,ρ,F,s,sr,q,k⟩
 refine⟨S,M,ρ,_,s,sr,q,?_⟩
 rintro v H1 ⟨d,M1,ρ1,s1,g1,r1,q1⟩
 exact⟨d,S,M1,ρ1,_,s1,sr.grow g1,r1,q1,λσ' H' w=>k.nx σ' H' (SQ.trans g1 w)⟩
def qSet:D->D->D->Mem->(Mem->Prop)->Prop:=λo i v M Q=>match o,i with
 | .ref n,.int k=>∃xs j,M[n]?=some (.lst xs)/\ixN xs.length k=some j/\Q (M.set n (.lst (xs.set j v)))
 | _,_=>False
theorem Reps.set{K:AA2}{ρ:List Addr}{H:Hp}{d:D}{v:V}(r:Rep K ρ H d v):∀{ds:List D}{vs:List V} (i:Nat),Reps K ρ H ds vs->Reps K ρ H (ds.set i d) (vs.set i v)
 | _,_,_,.nil=>.nil
 | _,_,0,.cons _ t=>.cons r t
 | _,_,i+1,.cons q t=>.cons q (Reps.set r i t)
def yt(to ti:DTE):DTG:=λv S M Q=>to S M λo M1=>ti S M1 λi M2=>qSet o i v M2 λM3=>Q S M3
theorem Ez(ho:DE X o to)(hi:DE X i ti)
  (ha:∀v,assign (.Subscript o i pos) X.env v=(do
   let ov <-holding [v] (eval o X.env)
   let iv <-holding [v,ov] (eval i X.env)
   standAt pos
   holding [v,ov,iv] (setItem ov iv v)
   release [v,ov,iv] []):=by intro _;rfl):DG X (.Subscript o i pos) (yt to ti):=by
 rintro pins s σ H v u R I r ⟨d,S,M,ρ,Q,sm,sr,rd,q,k⟩
 refine Cw ho hi xf ha pins s σ H v u R I r ⟨S,M,ρ,_,sm,sr,q,?_⟩
 rintro vo H1 ⟨o',M1,ρ1,s1,g1,r1,q1⟩
 refine⟨S,M1,ρ1,_,s1,sr.grow g1,q1,?_⟩
 rintro vi H2 ⟨i',M2,ρ2,s2,g2,r2,q2⟩
 have r1':=r1.grow g2
 cases r1' with
 | @ref n a hn =>
  cases r2 with
  | int j =>
   obtain⟨xs,jj,e,hj,q3⟩:=(show ∃xs j',M2[n]?=some (.lst xs)/\ixN xs.length j=some j'/\Q S (M2.set n (.lst (xs.set j' d)))from q2)
   obtain⟨vs,hH,rr⟩:=s2.obj n a _ hn e
   obtain⟨w1,w2⟩:=s2.write hn e hH (Reps.set (rd.grow (g1.trans g2)) jj rr)
   exact⟨a,vs,j,jj,rfl,rfl,hH,by rw[<-rr.length];exact hj,k σ _ ⟨S,_,ρ2,w1,(g1.trans g2).trans w2,sr.grow ((g1.trans g2).trans w2),q3⟩⟩
  | _=>exact q2.elim
 | _=>exact q2.elim
def rZ:DRA:=λds M Q=>match ds with
 | [.ref n]=>∃xs,aq M n xs/\Q (.ref M.length) (M++[.lst xs])
 | [.tup xs]=>Q (.ref M.length) (M++[.lst xs])
 | _=>False
theorem Bz:fZ X (.type "list") rZ:=by
 refine du.imp nK ?_
 rintro vs H R ⟨ds,M,ρ,Q,sm,rs,q,k⟩
 unfold rZ at q
 split at q
 ·obtain⟨xs,hL,q⟩:=q
  first | have hzz:=Reps.inv_cons rs | have hzz:=ar.inv_cons rs
  clear rs
  obtain⟨_,_,rfl,r1,rs⟩:=hzz
  cases rs
  obtain⟨_,rfl,e⟩:=Rep.inv_ref r1
  obtain⟨ws,hq,r⟩:=aq.seq sm hL e
  exact⟨_,ws,rfl,.inl hq,λl hl=>k _ _ (VQ.laidL sm .refl r hl q)⟩
 ·first | have hzz:=Reps.inv_cons rs | have hzz:=ar.inv_cons rs
  clear rs
  obtain⟨_,_,rfl,r1,rs⟩:=hzz
  cases rs
  cases r1 with
  | tup hq r=>exact⟨_,_,rfl,.inr hq,λl hl=>k _ _ (VQ.laidL sm .refl r hl q)⟩
 ·exact q.elim
def bD:DRA:=λds M Q=>match ds with
 | [.ref n]=>∃xs,aq M n xs/\Q (.tup xs) M
 | [.tup xs]=>Q (.tup xs) M
 | _=>False
theorem yA:fZ X (.type "tuple") bD:=by
 refine du.imp lB ?_
 rintro vs H R ⟨ds,M,ρ,Q,sm,rs,q,k⟩
 unfold bD at q
 split at q
 ·obtain⟨xs,hL,q⟩:=q
  first | have hzz:=Reps.inv_cons rs | have hzz:=ar.inv_cons rs
  clear rs
  obtain⟨_,_,rfl,r1,rs⟩:=hzz
  cases rs
  obtain⟨_,rfl,e⟩:=Rep.inv_ref r1
  obtain⟨ws,hq,r⟩:=aq.seq sm hL e
  exact⟨_,ws,rfl,.inl ⟨hq,λl hl=>k _ _ (VQ.laidT sm .refl r hl q)⟩⟩
 ·first | have hzz:=Reps.inv_cons rs | have hzz:=ar.inv_cons rs
  clear rs
  obtain⟨_,_,rfl,r1,rs⟩:=hzz
  cases rs
  cases r1 with
  | tup hq r=>exact⟨_,_,rfl,.inr ⟨hq,k _ H (VQ.now sm (.tup hq r) q)⟩⟩
 ·exact q.elim
theorem xy:OpR X (binaryOp .Add) (λx y H Q=>∃a b ys,x=.ref a/\y=.ref b/\SqT X.K H a []/\SqT X.K H b ys/\Q (.ref b) H):=by
 intro pins s σ H x y v u Q I rx ry h
 obtain⟨a,b,ys,rfl,rfl,ha,hb,q⟩:=h
 cases rx
 cases ry
 obtain⟨its,r1,p1,_⟩:=I.tuple ha
 obtain⟨its2,r2,p2,_⟩:=I.tuple hb
 have e:its=[]:=r1.nil_iff.mpr rfl
 subst e
 obtain⟨⟨cls,dd,data,sl⟩,ho,hc,n,hd⟩:=id p1
 obtain⟨⟨cls2,dd2,data2,sl2⟩,ho2,hc2,n2,hd2⟩:=id p2
 simp only at hc hd hc2 hd2
 subst hc hd hc2 hd2
 exact concat_meets ⟨_,ho,rfl⟩ ⟨_,ho2,rfl⟩ noFill_tuple_add seq_tuple_add ADJ AD6 (AD1 _ _)
  (tuple_addW0 a b _ _ n n2 dd dd2 sl sl2 (by simp)) ⟨ho,ho2,⟨.ref b,H,I,rfl,q⟩⟩
def aG:DR2:=λx y M Q=>match x,y with
 | .tup xs,.tup ys=>xs.length+ys.length<=sizeLine/\Q (.tup (xs++ys)) M
 | _,_=>qAdd x y M Q
theorem Ag:OpD X (binaryOp .Add) aG:=by
 rintro pins s σ H vx vy v u R I rx ry ⟨x,y,M,ρ,Q,sm,r1,r2,q,k⟩
 unfold aG at q
 split at q
 ·rename_i xs ys
  obtain⟨a,vs,rfl,h1,t1⟩:=Rep.inv_tup r1
  obtain⟨b,ws,rfl,h2,t2⟩:=Rep.inv_tup r2
  have l1:=t1.length
  have l2:=t2.length
  cases xs with
  | nil =>
   cases t1
   exact xy pins s σ H _ _ v u R I rx ry ⟨a,b,ws,rfl,rfl,h1,h2,k _ H (VQ.now sm (.tup h2 t2) q.2)⟩
  | cons x0 xs0 =>
   refine zY pins s σ H _ _ v u R I rx ry ⟨a,b,vs,ws,rfl,rfl,h1,h2,?_,by rw[<-l1,<-l2];exact q.1,λz=>?_,λ_ p hp=>k _ _ (VQ.laidT sm .refl (t1.append t2) hp q.2)⟩
   ·intro z
    subst z
    simp at l1
   ·subst z
    have:ys=[]:=by simpa using l2
    subst this
    rw[ABR]at q
    exact k _ H (VQ.now sm (.tup h1 t1) q.2)
 ·exact De pins s σ H vx vy v u R I rx ry ⟨x,y,M,ρ,Q,sm,r1,r2,q,k⟩
end L2
namespace Srt
open PySem PySem.W PyProof.Rows
noncomputable def run{α:Type}(c:Nat->Nat->Bool):KasT α->α
 | .ret a=>a
 | .ask i j k=>run c (k (c i j))
theorem dU{α β:Type}{c:Nat->Nat->Bool}{f:α->KasT β}:∀t:KasT α,run c (t.bind f)=run c (f (run c t))
 | .ret a=>rfl
 | .ask i j k=>dU (k (c i j))
def Bd{α:Type}(n:Nat):KasT α->Prop
 | .ret _=>True
 | .ask i j k=>i<n/\j<n/\∀b,Bd n (k b)
def All{α:Type}(P:α->Prop):KasT α->Prop
 | .ret a=>P a
 | .ask _ _ k=>∀b,All P (k b)
theorem All.mono{α:Type}{P Q:α->Prop}(h:∀a,P a->Q a):∀t:KasT α,All P t->All Q t
 | .ret a,q=>h a q
 | .ask _ _ k,q=>λb=>All.mono h (k b) (q b)
theorem All.bind{α β:Type}{P:β->Prop}{f:α->KasT β}:∀t:KasT α,All (λa=>All P (f a)) t->All P (t.bind f)
 | .ret a,q=>q
 | .ask _ _ k,q=>λb=>All.bind (k b) (q b)
theorem Bd.bindA{α β:Type}{n:Nat}{f:α->KasT β}:∀t:KasT α,Bd n t->All (λa=>Bd n (f a)) t->Bd n (t.bind f)
 | .ret a,_,q=>q
 | .ask _ _ k,b,q=>⟨b.1,b.2.1,λx=>Bd.bindA (k x) (b.2.2 x) (q x)⟩
theorem All.run{α:Type}{P:α->Prop}{c:Nat->Nat->Bool}:∀t:KasT α,All P t->P (Srt.run c t)
 | .ret a,q=>q
 | .ask i j k,q=>All.run (k (c i j)) (q _)
theorem wp_run{α:Type}{cmp:Nat->Nat->(Bool->Shared->Prop)->Shared->Prop}{c:Nat->Nat->Bool}{n:Nat}{s:Shared}{Q:α->Shared->Prop}(hc:∀i j (C:Bool->Shared->Prop),i<n->j<n->C (c i j) s->cmp i j C s) :
  ∀t:KasT α,Bd n t->Q (run c t) s->t.kasWp cmp Q s
 | .ret a,_,q=>q
 | .ask i j k,b,q=>hc i j _ b.1 b.2.1 (wp_run hc (k (c i j)) (b.2.2 _) q)
structure Ord(c:Nat->Nat->Bool):Prop where
 irr:∀a,c a a=false
 tr:∀a b d,c a b=true->c b d=true->c a d=true
 neg:∀a b d,c a d=true->c a b=true\/c b d=true
section
variable{c:Nat->Nat->Bool}(O:Ord c)
def le(c:Nat->Nat->Bool)(a b:Nat):Prop:=c b a=false
theorem le_refl(O:Ord c)(a:Nat):le c a a:=O.irr a
theorem le_trans(O:Ord c)(h1:le c a b)(h2:le c b d):le c a d:=by
 unfold le at *
 cases q:c d a with
 | false=>rfl
 | true =>
  rcases O.neg d b a q with h | h
  ·rw[h2]at h;cases h
  ·rw[h1]at h;cases h
theorem le_of_lt(O:Ord c)(h:c a b=true):le c a b:=by
 unfold le
 cases q:c b a with
 | false=>rfl
 | true=>have:=O.tr a b a h q;rw[O.irr]at this;cases this
noncomputable abbrev at_(p:Array Nat)(k:Nat):Nat:=p.getD k 0
def Up(c:Nat->Nat->Bool)(p:Array Nat)(m:Nat):Prop:=∀i j,i<=j->j<m->le c (at_ p i) (at_ p j)
def Dn(c:Nat->Nat->Bool)(p:Array Nat)(m:Nat):Prop:=∀i j,i<=j->j<m->le c (at_ p j) (at_ p i)
def Eqs(c:Nat->Nat->Bool)(p:Array Nat)(a b:Nat):Prop:=∀i j,a<=i->i<b->a<=j->j<b->le c (at_ p i) (at_ p j)
theorem Up.one(O:Ord c)(p:Array Nat):Up c p 1:=λi j hij hj=>by
 have:i=j:=by lia
 subst this;exact le_refl O _
theorem Up.snoc(O:Ord c)(h:Up c p n)(h1:1<=n)(hl:le c (at_ p (n-1)) (at_ p n)):Up c p (n+1):=λi j hij hj=>by
 by_cases hjn:j<n
 ·exact h i j hij hjn
 ·have:j=n:=by lia
  subst this
  by_cases hi:i=j
  ·subst hi;exact le_refl O _
  ·exact le_trans O (h i (j-1) (by lia) (by lia)) hl
theorem Dn.snoc(O:Ord c)(h:Dn c p n)(h1:1<=n)(hl:le c (at_ p n) (at_ p (n-1))):Dn c p (n+1):=λi j hij hj=>by
 by_cases hjn:j<n
 ·exact h i j hij hjn
 ·have:j=n:=by lia
  subst this
  by_cases hi:i=j
  ·subst hi;exact le_refl O _
  ·exact le_trans O hl (h i (j-1) (by lia) (by lia))
theorem eG(hj:j<=p.size)(k:Nat):at_ (ACk p i j) k=if i<=k/\k<j then at_ p (i+j-1-k)else at_ p k:=by
 have e:=getElem?_mirror_all (xs:=p) (i:=i) hj k
 unfold at_ ACk
 rw[AAs,e]
 by_cases h:i<=k/\k<j
 ·rw[if_pos h,if_pos h,AAs]
 ·rw[if_neg h,if_neg h,AAs]
theorem nW(hk:k<p.size)(hd:d<=k)(i:Nat):at_ (bubble p k d) i=if i=k-d then at_ p k else if k-d<i/\i<=k then at_ p (i-1)else at_ p i:=by
 have e:=getElem?_bubble (xs:=p) hk d hd i
 unfold at_
 rw[AAs,e]
 by_cases h:i=k-d
 ·rw[if_pos h,if_pos h,AAs]
 ·rw[if_neg h,if_neg h]
  by_cases h':k-d<i/\i<=k
  ·rw[if_pos h',if_pos h',AAs]
  ·rw[if_neg h',if_neg h',AAs]
theorem Dn.rev(h:Dn c p n)(hn:n<=p.size):Up c (ACk p 0 n) n:=λi j hij hj=>by
 rw[eG hn,eG hn,if_pos ⟨AAX _,by lia⟩,if_pos ⟨AAX _,hj⟩]
 exact h _ _ (by lia) (by lia)
theorem Dn.revEq(O:Ord c)(h:Dn c p n)(hn:n<=p.size)(he:Eqs c p a n):Dn c (ACk p a n) n:=λi j hij hj=>by
 rw[eG hn,eG hn]
 by_cases h1:a<=i/\i<n
 ·by_cases h2:a<=j/\j<n
  ·rw[if_pos h1,if_pos h2]
   exact he _ _ (by lia) (by lia) (by lia) (by lia)
  ·exact absurd ⟨by lia,hj⟩ h2
 ·by_cases h2:a<=j/\j<n
  ·rw[if_neg h1,if_pos h2]
   exact h _ _ (by lia) (by lia)
  ·rw[if_neg h1,if_neg h2]
   exact h _ _ hij hj
theorem pV(O:Ord c):∀(f n:Nat),1<=n->Up c p n->Up c p (run c (ADR p f n))/\n<=run c (ADR p f n)/\run c (ADR p f n)<=n+f /\
  (run c (ADR p f n)<n+f->c (at_ p (run c (ADR p f n))) (at_ p (run c (ADR p f n)-1))=true)
 | 0,n,_,h=>⟨h,AAA _,AAA _,λz=>absurd z (AAW _)⟩
 | f+1,n,h1,h=>by
  show Up c p (run c (if c (at_ p n) (at_ p (n-1))=true then .ret n else ADR p f (n+1)))/\n<=run c (if c (at_ p n) (at_ p (n-1))=true then .ret n else ADR p f (n+1)) /\
   run c (if c (at_ p n) (at_ p (n-1))=true then .ret n else ADR p f (n+1))<=n+(f+1)/\(run c (if c (at_ p n) (at_ p (n-1))=true then .ret n else ADR p f (n+1))<n+(f+1) ->
    c (at_ p (run c (if c (at_ p n) (at_ p (n-1))=true then .ret n else ADR p f (n+1)))) (at_ p (run c (if c (at_ p n) (at_ p (n-1))=true then .ret n else ADR p f (n+1))-1))=true)
  by_cases q:c (at_ p n) (at_ p (n-1))=true
  ·rw[if_pos q]
   exact⟨h,AAA _,ADc _ _,λ_=>q⟩
  ·rw[if_neg q]
   obtain⟨a1,a2,a3,a4⟩:=pV O f (n+1) (by lia) (h.snoc O h1 (by unfold le;simpa using q))
   exact⟨a1,by lia,by lia,λz=>a4 (by lia)⟩
theorem de:(ACk p i j).size=p.size:=mirror_size _ _ _ _
def wG(c:Nat->Nat->Bool)(z n m:Nat)(r:Array Nat×Nat×Nat):Prop:=r.1.size=z/\Dn c r.1 r.2.1/\n<=r.2.1/\r.2.1<=m/\r.2.2+1<=r.2.1/\Eqs c r.1 (r.2.1-(r.2.2+1)) r.2.1
def lH(c:Nat->Nat->Bool)(z nrem:Nat)(r:Nat×Array Nat):Prop:=r.2.size=z/\Up c r.2 r.1/\1<=r.1/\r.1<=nrem
def pX(c:Nat->Nat->Bool)(p:Array Nat)(k m:Nat):Prop:=m<=k/\(∀i,i<m->le c (at_ p i) (at_ p k))/\∀i,m<=i->i<k->c (at_ p k) (at_ p i)=true
theorem ik(O:Ord c):∀(f:Nat) (p:Array Nat) (n q:Nat),q+1<=n->n+f<=p.size->Dn c p n->Eqs c p (n-(q+1)) n ->
  wG c p.size n (n+f) (run c (ABr f p n q))
 | 0,p,n,q,h1,h2,hd,he=>⟨rfl,hd,AAA _,AAA _,h1,he⟩
 | f+1,p,n,q,h1,h2,hd,he=>by
  have hn:n<=p.size:=by lia
  show wG c p.size n (n+(f+1)) (run c (if c (at_ p n) (at_ p (n-1))=true then(if q > 0 then ABr f (ACk p (n-(q+1)) n) (n+1) 0 else ABr f p (n+1) 0)
   else .ask (at_ p (n-1)) (at_ p n) λd=>if d=true then .ret (p,n,q)else ABr f p (n+1) (q+1)))
  by_cases hc:c (at_ p n) (at_ p (n-1))=true
  ·rw[if_pos hc]
   by_cases hq:q > 0
   ·rw[if_pos hq]
    have hd':Dn c (ACk p (n-(q+1)) n) (n+1):=by
     refine(hd.revEq O hn he).snoc O (by lia) ?_
     rw[eG hn,eG hn,if_neg (by lia),if_pos ⟨by lia,by lia⟩]
     exact le_trans O (le_of_lt O hc) (he _ _ (by lia) (by lia) (by lia) (by lia))
    have r:=ik O f (ACk p (n-(q+1)) n) (n+1) 0 (by lia) (by rw[de];lia) hd' (λi j a1 a2 a3 a4=>by
     have:i=n:=by lia
     have:j=n:=by lia
     subst_vars
     exact le_refl O _)
    obtain⟨a1,a2,a3,a4,a5,a6⟩:=r
    exact⟨a1.trans de,a2,by lia,by lia,a5,a6⟩
   ·rw[if_neg hq]
    have r:=ik O f p (n+1) 0 (by lia) (by lia) (hd.snoc O (by lia) (le_of_lt O hc)) (λi j a1 a2 a3 a4=>by
     have:i=n:=by lia
     have:j=n:=by lia
     subst_vars
     exact le_refl O _)
    obtain⟨a1,a2,a3,a4,a5,a6⟩:=r
    exact⟨a1,a2,by lia,by lia,a5,a6⟩
  ·rw[if_neg hc]
   show wG c p.size n (n+(f+1)) (run c (if c (at_ p (n-1)) (at_ p n)=true then .ret (p,n,q)else ABr f p (n+1) (q+1)))
   by_cases hc':c (at_ p (n-1)) (at_ p n)=true
   ·rw[if_pos hc']
    exact⟨rfl,hd,AAA _,by show n<=_;lia,h1,he⟩
   ·rw[if_neg hc']
    have l1:le c (at_ p n) (at_ p (n-1)):=by unfold le;simpa using hc'
    have l2:le c (at_ p (n-1)) (at_ p n):=by unfold le;simpa using hc
    have r:=ik O f p (n+1) (q+1) (by lia) (by lia) (hd.snoc O (by lia) l1) (λi j a1 a2 a3 a4=>by
     by_cases hi:i=n
     ·by_cases hj:j=n
      ·subst hi hj;exact le_refl O _
      ·subst hi
       exact le_trans O l1 (he _ _ (by lia) (by lia) (by lia) (by lia))
     ·by_cases hj:j=n
      ·subst hj
       exact le_trans O (he _ _ (by lia) (by lia) (by lia) (by lia)) l2
      ·exact he _ _ (by lia) (by lia) (by lia) (by lia))
    obtain⟨a1,a2,a3,a4,a5,a6⟩:=r
    exact⟨a1,a2,by lia,by lia,a5,a6⟩
theorem lV(O:Ord c)(h1:1<=n)(hn:n<=nrem)(hz:nrem<=p.size)(hd:Dn c p n) :
  lH c p.size nrem (run c (kas_tail3 n nrem p)):=by
 unfold kas_tail3
 rw[dU]
 obtain⟨a1,a2,a3,_⟩:=pV O (nrem-n) n h1 (hd.rev (by lia))
 exact⟨de,a1,AB4 h1 a2,AB4 a3 (by lia)⟩
theorem gy(O:Ord c)(h1:1<=n)(hn:n+1<=nrem)(hz:nrem<=p.size)(he:Eqs c p 0 n)(hc:c (at_ p n) (at_ p (n-1))=true) :
  lH c p.size nrem (run c (ADa n nrem p)):=by
 have hd:Dn c p (n+1):=by
  refine Dn.snoc O (λi j hij hj=>he _ _ (by lia) (by lia) (by lia) (by lia)) h1 (le_of_lt O hc)
 unfold ADa
 rw[dU]
 obtain⟨b1,b2,b3,b4,b5,b6⟩:=ik O (nrem-(n+1)) p (n+1) 0 (by lia) (by lia) hd (λi j a1 a2 a3 a4=>by
  have:i=n:=by lia
  have:j=n:=by lia
  subst_vars
  exact le_refl O _)
 by_cases hq:(run c (ABr (nrem-(n+1)) p (n+1) 0)).2.2 > 0
 ·rw[if_pos hq]
  obtain⟨d1,d2,d3,d4⟩:=lV O (p:=ACk (run c (ABr (nrem-(n+1)) p (n+1) 0)).1 ((run c (ABr (nrem-(n+1)) p (n+1) 0)).2.1-((run c (ABr (nrem-(n+1)) p (n+1) 0)).2.2+1)) (run c (ABr (nrem-(n+1)) p (n+1) 0)).2.1)
   (n:=(run c (ABr (nrem-(n+1)) p (n+1) 0)).2.1) (nrem:=nrem) (by lia) (by lia) (by rw[de,b1];exact hz) (b2.revEq O (by rw[b1];lia) b6)
  exact⟨d1.trans (de.trans b1),d2,d3,d4⟩
 ·rw[if_neg hq]
  obtain⟨d1,d2,d3,d4⟩:=lV O (p:=(run c (ABr (nrem-(n+1)) p (n+1) 0)).1) (n:=(run c (ABr (nrem-(n+1)) p (n+1) 0)).2.1) (nrem:=nrem) (by lia) (by lia) (by rw[b1];exact hz) b2
  exact⟨d1.trans b1,d2,d3,d4⟩
theorem wo(O:Ord c)(h1:1<=nrem)(hz:nrem<=p.size) :
  lH c p.size nrem (run c (kas_count nrem p)):=by
 unfold kas_count
 rw[dU]
 obtain⟨a1,a2,a3,a4⟩:=pV O (nrem-1) 1 (AAA _) (Up.one O p)
 generalize run c (ADR p (nrem-1) 1)=n at a1 a2 a3 a4
 by_cases hn:(n==nrem)=true
 ·rw[if_pos hn]
  exact⟨rfl,a1,a2,by show n<=nrem;lia⟩
 ·rw[if_neg hn]
  have hn':n≠nrem:=by simpa using hn
  have hlt:c (at_ p n) (at_ p (n-1))=true:=a4 (by lia)
  by_cases h2:n > 1
  ·rw[if_pos h2]
   show lH c p.size nrem (run c (if c (at_ p 0) (at_ p (n-1))=true then .ret (n,p)else ADa n nrem (ACk p 0 n)))
   by_cases hc:c (at_ p 0) (at_ p (n-1))=true
   ·rw[if_pos hc]
    exact⟨rfl,a1,a2,by show n<=nrem;lia⟩
   ·rw[if_neg hc]
    have hz':n<=p.size:=by lia
    have l0:le c (at_ p (n-1)) (at_ p 0):=by unfold le;simpa using hc
    have he:Eqs c p 0 n:=λi j b1 b2 b3 b4=>le_trans O (a1 i (n-1) (by lia) (by lia)) (le_trans O l0 (a1 0 j (by lia) b4))
    have he':Eqs c (ACk p 0 n) 0 n:=λi j b1 b2 b3 b4=>by
     rw[eG hz',eG hz',if_pos ⟨b1,b2⟩,if_pos ⟨b3,b4⟩]
     exact he _ _ (by lia) (by lia) (by lia) (by lia)
    have hc':c (at_ (ACk p 0 n) n) (at_ (ACk p 0 n) (n-1))=true:=by
     rw[eG hz',eG hz',if_neg (by lia),if_pos ⟨by lia,by lia⟩]
     rcases O.neg _ (at_ p (0+n-1-(n-1))) _ hlt with z | z
     ·exact z
     ·have:=he (n-1) (0+n-1-(n-1)) (by lia) (by lia) (by lia) (by lia)
      unfold le at this
      rw[this]at z;cases z
    obtain⟨d1,d2,d3,d4⟩:=gy O (p:=ACk p 0 n) (n:=n) (nrem:=nrem) (by lia) (by lia) (by rw[de];exact hz) he' hc'
    exact⟨d1.trans de,d2,d3,d4⟩
  ·rw[if_neg h2]
   have:n=1:=by lia
   subst this
   exact gy O (by lia) (by lia) hz (λi j b1 b2 b3 b4=>by
    have:i=0:=by lia
    have:j=0:=by lia
    subst_vars
    exact le_refl O _) hlt
theorem iQ(O:Ord c)(hu:Up c p k):∀(f l r:Nat),l<=r->r<=k->r-l<=f->(∀i,i<l->le c (at_ p i) (at_ p k))->(∀i,r<=i->i<k->c (at_ p k) (at_ p i)=true) ->
  pX c p k (run c (ACq p k f l r))
 | 0,l,r,h1,h2,h3,h4,h5=>⟨by show l<=k;lia,h4,λi a1 a2=>h5 i (by have a1':l<=i:=a1;lia) a2⟩
 | f+1,l,r,h1,h2,h3,h4,h5=>by
  show pX c p k (run c (if l ≥ r then .ret l else .ask (at_ p k) (at_ p ((l+r) / 2)) λc=>if c=true then ACq p k f l ((l+r) / 2)else ACq p k f ((l+r) / 2+1) r))
  by_cases hl:l ≥ r
  ·rw[if_pos hl]
   exact⟨by show l<=k;lia,h4,λi a1 a2=>h5 i (by have a1':l<=i:=a1;lia) a2⟩
  ·rw[if_neg hl]
   show pX c p k (run c (if c (at_ p k) (at_ p ((l+r) / 2))=true then ACq p k f l ((l+r) / 2)else ACq p k f ((l+r) / 2+1) r))
   by_cases hc:c (at_ p k) (at_ p ((l+r) / 2))=true
   ·rw[if_pos hc]
    refine iQ O hu f l ((l+r) / 2) (by lia) (by lia) (by lia) h4 λi a1 a2=>?_
    rcases O.neg _ (at_ p i) _ hc with z | z
    ·exact z
    ·have:=hu ((l+r) / 2) i a1 a2
     unfold le at this
     rw[this]at z;cases z
   ·rw[if_neg hc]
    have lm:le c (at_ p ((l+r) / 2)) (at_ p k):=by unfold le;simpa using hc
    refine iQ O hu f ((l+r) / 2+1) r (by lia) h2 (by lia) (λi hi=>?_) h5
    exact le_trans O (hu i ((l+r) / 2) (by lia) (by lia)) lm
theorem wx(O:Ord c)(hk:k<p.size)(hu:Up c p k)(hm:m<=k)(h1:∀i,i<m->le c (at_ p i) (at_ p k))(h2:∀i,m<=i->i<k->c (at_ p k) (at_ p i)=true):Up c (bubble p k (k-m)) (k+1):=by
 intro i j hij hj
 have e:k-(k-m)=m:=by lia
 rw[nW hk (by lia),nW hk (by lia),e]
 by_cases hi:i=m
 ·rw[if_pos hi]
  by_cases hjm:j=m
  ·rw[if_pos hjm];exact le_refl O _
  ·rw[if_neg hjm,if_pos ⟨by lia,by lia⟩]
   exact le_of_lt O (h2 _ (by lia) (by lia))
 ·rw[if_neg hi]
  by_cases hi2:m<i/\i<=k
  ·rw[if_pos hi2,if_neg (by lia),if_pos ⟨by lia,by lia⟩]
   exact hu _ _ (by lia) (by lia)
  ·rw[if_neg hi2]
   by_cases hjm:j=m
   ·rw[if_pos hjm];exact h1 i (by lia)
   ·rw[if_neg hjm]
    by_cases hj2:m<j/\j<=k
    ·rw[if_pos hj2]
     exact hu _ _ (by lia) (by lia)
    ·rw[if_neg hj2]
     exact hu _ _ hij (by lia)
theorem wz(O:Ord c):∀(f:Nat) (p:Array Nat) (k:Nat),k+f<=p.size->Up c p k->(run c (kas_bin f p k)).size=p.size/\Up c (run c (kas_bin f p k)) (k+f)
 | 0,p,k,_,h=>⟨rfl,h⟩
 | f+1,p,k,hz,h=>by
  show (run c ((ACq p k k 0 k).bind λl=>kas_bin f (bubble p k (k-l)) (k+1))).size=p.size/\Up c (run c ((ACq p k k 0 k).bind λl=>kas_bin f (bubble p k (k-l)) (k+1))) (k+(f+1))
  rw[dU]
  obtain⟨a1,a2,a3⟩:=iQ O h k 0 k (AAX _) (AAA _) (by lia) (λi hi=>absurd hi (Nat.not_lt_zero _)) λi a1 a2=>absurd a2 (by lia)
  obtain⟨b1,b2⟩:=wz O f (bubble p k (k-run c (ACq p k k 0 k))) (k+1) (by rw[bubble_size];lia) (wx O (by lia) h a1 a2 a3)
  exact⟨b1.trans (bubble_size _ _ _),by rw[show k+(f+1)=k+1+f by lia];exact b2⟩
theorem zm(O:Ord c)(h1:1<=n):(run c (ADW n)).size=n/\Up c (run c (ADW n)) n:=by
 have hs:(ABi (AAl n)).size=n:=by simp
 unfold ADW
 rw[dU]
 obtain⟨a1,a2,a3,a4⟩:=wo O (p:=ABi (AAl n)) h1 (by rw[hs];exact AAA _)
 rw[hs]at a1
 generalize run c (kas_count n (ABi (AAl n)))=r at a1 a2 a3 a4
 by_cases hl:r.1<n
 ·rw[if_pos hl]
  obtain⟨b1,b2⟩:=wz O (n-max r.1 1) r.2 (max r.1 1) (by rw[a1];lia) (by rw[show max r.1 1=r.1 by lia];exact a2)
  exact⟨b1.trans a1,by rw[show n=max r.1 1+(n-max r.1 1) by lia];simpa using b2⟩
 ·rw[if_neg hl]
  have e1:r.1=n:=by lia
  rw[e1]at a2
  exact⟨a1,a2⟩
def Ent(n:Nat)(p:Array Nat):Prop:=p.toList.Perm (AAl n)
theorem Ent.lt(h:Ent n p)(h0:0<n)(k:Nat):at_ p k<n:=by
 unfold at_
 rw[AAs]
 cases e:p[k]? with
 | none=>simpa using h0
 | some x =>
  have:x∈p.toList:=by
   rw[<-ACX]at e
   exact AAc e
  have:=h.mem_iff.mp this
  simpa using this
theorem Ent.rev(h:Ent n p):Ent n (ACk p i j):=(Array.perm_iff_toList_perm.mp (mirror_perm p i j ((j-i) / 2))).trans h
theorem Ent.bub(h:Ent n p):Ent n (bubble p i j):=(Array.perm_iff_toList_perm.mp (bubble_perm p i j)).trans h
section
variable{n:Nat}(h0:0<n)
theorem wB(h0:0<n)(h:Ent n p):∀(f k:Nat),Bd n (ADR p f k)
 | 0,_=>trivial
 | f+1,k=>⟨h.lt h0 _,h.lt h0 _,λb=>by cases b with
  | true=>exact trivial
  | false=>exact wB h0 h f (k+1)⟩
theorem lg(h0:0<n):∀(f:Nat) (p:Array Nat) (k q:Nat),Ent n p->Bd n (ABr f p k q)/\All (λr=>Ent n r.1) (ABr f p k q)
 | 0,p,k,q,h=>⟨trivial,h⟩
 | f+1,p,k,q,h=>by
  have key:∀b,(Bd n (if b=true then(if q > 0 then ABr f (ACk p (k-(q+1)) k) (k+1) 0 else ABr f p (k+1) 0)
    else KasT.ask (p.getD (k-1) 0) (p.getD k 0) λd=>if d=true then KasT.ret (p,k,q)else ABr f p (k+1) (q+1)))/\All (λr=>Ent n r.1) (if b=true then(if q > 0 then ABr f (ACk p (k-(q+1)) k) (k+1) 0 else ABr f p (k+1) 0)
    else KasT.ask (p.getD (k-1) 0) (p.getD k 0) λd=>if d=true then KasT.ret (p,k,q)else ABr f p (k+1) (q+1)):=λb=>by
   cases b with
   | true =>
    rw[if_pos rfl]
    by_cases hq:q > 0
    ·rw[if_pos hq];exact lg h0 f _ _ _ h.rev
    ·rw[if_neg hq];exact lg h0 f _ _ _ h
   | false =>
    rw[if_neg (by simp)]
    have a:=lg h0 f p (k+1) (q+1) h
    refine⟨⟨h.lt h0 _,h.lt h0 _,λb=>?_⟩,λb=>?_⟩
    ·cases b with
     | true=>exact trivial
     | false=>exact a.1
    ·cases b with
     | true=>exact h
     | false=>exact a.2
  exact⟨⟨h.lt h0 _,h.lt h0 _,λb=>(key b).1⟩,λb=>(key b).2⟩
theorem gM(h0:0<n)(h:Ent n p):Bd n (kas_tail3 k m p)/\All (λr=>Ent n r.2) (kas_tail3 k m p):=by
 have triv:∀{t:KasT Nat}{Q:Prop},Q->All (λ_=>Q) t:=λ{t Q} q=>by
  induction t with
  | ret a=>exact q
  | ask i j k ih=>exact λb=>ih b
 unfold kas_tail3
 exact⟨Bd.bindA _ (wB h0 h.rev _ _) (triv trivial),All.bind _ (triv h.rev)⟩
theorem dm(h0:0<n)(h:Ent n p):Bd n (ADa k m p)/\All (λr=>Ent n r.2) (ADa k m p):=by
 unfold ADa
 obtain⟨b1,b2⟩:=lg h0 (m-(k+1)) p (k+1) 0 h
 refine⟨Bd.bindA _ b1 (b2.mono (λr hr=>?_)),All.bind _ (b2.mono (λr hr=>?_))⟩
 ·by_cases hq:r.2.2 > 0
  ·rw[if_pos hq];exact(gM h0 hr.rev).1
  ·rw[if_neg hq];exact(gM h0 hr).1
 ·by_cases hq:r.2.2 > 0
  ·rw[if_pos hq];exact(gM h0 hr.rev).2
  ·rw[if_neg hq];exact(gM h0 hr).2
theorem yz(h0:0<n)(h:Ent n p):Bd n (kas_count m p)/\All (λr=>Ent n r.2) (kas_count m p):=by
 have triv:∀{t:KasT Nat}{Q:Nat->Prop},(∀a,Q a)->All Q t:=λ{t Q} q=>by
  induction t with
  | ret a=>exact q a
  | ask i j k ih=>exact λb=>ih b
 unfold kas_count
 refine⟨Bd.bindA _ (wB h0 h _ _) (triv λk=>?_),All.bind _ (triv λk=>?_)⟩
 ·by_cases h1:(k==m)=true
  ·rw[if_pos h1];exact trivial
  ·rw[if_neg h1]
   by_cases h2:k > 1
   ·rw[if_pos h2]
    refine⟨h.lt h0 _,h.lt h0 _,λb=>?_⟩
    cases b with
    | true=>exact trivial
    | false=>exact(dm h0 h.rev).1
   ·rw[if_neg h2];exact(dm h0 h).1
 ·by_cases h1:(k==m)=true
  ·rw[if_pos h1];exact h
  ·rw[if_neg h1]
   by_cases h2:k > 1
   ·rw[if_pos h2]
    intro b
    cases b with
    | true=>exact h
    | false=>exact(dm h0 h.rev).2
   ·rw[if_neg h2];exact(dm h0 h).2
theorem kI(h0:0<n)(h:Ent n p):∀(f l r:Nat),Bd n (ACq p k f l r)
 | 0,_,_=>trivial
 | f+1,l,r=>by
  show Bd n (if l ≥ r then KasT.ret l else KasT.ask (p.getD k 0) (p.getD ((l+r) / 2) 0) λc=>if c=true then ACq p k f l ((l+r) / 2)else ACq p k f ((l+r) / 2+1) r)
  by_cases hl:l ≥ r
  ·rw[if_pos hl];exact trivial
  ·rw[if_neg hl]
   refine⟨h.lt h0 _,h.lt h0 _,λb=>?_⟩
   cases b with
   | true=>exact kI h0 h f _ _
   | false=>exact kI h0 h f _ _
theorem rD(h0:0<n):∀(f:Nat) (p:Array Nat) (k:Nat),Ent n p->Bd n (kas_bin f p k)/\All (λr=>Ent n r) (kas_bin f p k)
 | 0,p,k,h=>⟨trivial,h⟩
 | f+1,p,k,h=>by
  have triv:∀{t:KasT Nat}{Q:Nat->Prop},(∀a,Q a)->All Q t:=λ{t Q} q=>by
   induction t with
   | ret a=>exact q a
   | ask i j k ih=>exact λb=>ih b
  exact⟨Bd.bindA _ (kI h0 h _ _ _) (triv λl=>(rD h0 f _ _ h.bub).1),All.bind _ (triv λl=>(rD h0 f _ _ h.bub).2)⟩
theorem sort_bd(h0:0<n):Bd n (ADW n)/\All (λr=>Ent n r) (ADW n):=by
 have h:Ent n (ABi (AAl n)):=by unfold Ent;simp
 obtain⟨b1,b2⟩:=yz h0 (m:=n) h
 unfold ADW
 refine⟨Bd.bindA _ b1 (b2.mono λr hr=>?_),All.bind _ (b2.mono λr hr=>?_)⟩
 ·by_cases hl:r.1<n
  ·rw[if_pos hl];exact(rD h0 _ _ _ hr).1
  ·rw[if_neg hl];exact trivial
 ·by_cases hl:r.1<n
  ·rw[if_pos hl];exact(rD h0 _ _ _ hr).2
  ·rw[if_neg hl];exact hr
end
theorem sort_list{α:Type}[Inhabited α]{lt:α->α->Bool}(xs:List α)(h1:1<=xs.length)(irr:∀a∈xs,lt a a=false)(tr:∀a∈xs,∀b∈xs,∀d∈xs,lt a b=true->lt b d=true->lt a d=true)
  (neg:∀a∈xs,∀b∈xs,∀d∈xs,lt a d=true->lt a b=true\/lt b d=true) :
  let c:=λi j=>if i<xs.length then(if j<xs.length then lt (xs.getD i default) (xs.getD j default)else true)else false
  let p:=run c (ADW xs.length)
  let ys:=p.toList.map λi=>xs.getD i default
  ys.Perm xs/\ys.Pairwise λa b=>lt b a=false:=by
 intro c p ys
 have mem:∀i,i<xs.length->xs.getD i default∈xs:=λi hi=>by
  rw[AAJ,AA6 hi]
  exact ABh hi
 have O:Ord c:=by
  refine⟨λa=>?_,λa b d=>?_,λa b d=>?_⟩
  ·show (if a<xs.length then(if a<xs.length then lt _ _ else true)else false)=false
   by_cases ha:a<xs.length
   ·rw[if_pos ha,if_pos ha];exact irr _ (mem a ha)
   ·rw[if_neg ha]
  ·show (if a<xs.length then(if b<xs.length then lt _ _ else true)else false)=true->(if b<xs.length then(if d<xs.length then lt _ _ else true)else false)=true->(if a<xs.length then(if d<xs.length then lt _ _ else true)else false)=true
   by_cases ha:a<xs.length
   ·by_cases hb:b<xs.length
    ·by_cases hd:d<xs.length
     ·rw[if_pos ha,if_pos hb,if_pos hb,if_pos hd,if_pos ha,if_pos hd];exact tr _ (mem a ha) _ (mem b hb) _ (mem d hd)
     ·intro _ _;rw[if_pos ha,if_neg hd]
    ·rw[if_neg (show ¬b<xs.length from hb)]
     intro _ z
     rw[if_neg hb]at z;cases z
   ·intro z;rw[if_neg ha]at z;cases z
  ·show (if a<xs.length then(if d<xs.length then lt _ _ else true)else false)=true->(if a<xs.length then(if b<xs.length then lt _ _ else true)else false)=true\/(if b<xs.length then(if d<xs.length then lt _ _ else true)else false)=true
   by_cases ha:a<xs.length
   ·by_cases hb:b<xs.length
    ·by_cases hd:d<xs.length
     ·rw[if_pos ha,if_pos hd,if_pos ha,if_pos hb,if_pos hb,if_pos hd];exact neg _ (mem a ha) _ (mem b hb) _ (mem d hd)
     ·intro _;right;rw[if_pos hb,if_neg hd]
    ·intro _;left;rw[if_pos ha,if_neg hb]
   ·intro z;rw[if_neg ha]at z;cases z
 have hE:Ent xs.length p:=All.run _ (sort_bd (by lia)).2
 obtain⟨hs,hU⟩:=zm O h1
 refine⟨?_,?_⟩
 ·have e:(AAl xs.length).map (λi=>xs.getD i default)=xs:=by
   apply List.ext_getElem?
   intro i
   rw[AAN]
   by_cases hi:i<xs.length
   ·rw[ACw hi]
    simp[AAJ,AA6 hi]
   ·rw[ABo (by simpa using hi),ABo (by simpa using hi)]
    rfl
  have:=hE.map λi=>xs.getD i default
  rw[e]at this
  exact this
 ·show (p.toList.map λi=>xs.getD i default).Pairwise λa b=>lt b a=false
  rw[List.pairwise_iff_getElem]
  intro i j hi hj hij
  rw[AA4,ABU]at hi hj
  have hs':p.size=xs.length:=hs
  have l:=hU i j (by lia) (by lia)
  have hl:∀k,at_ p k<xs.length:=λk=>hE.lt (by lia) k
  unfold le at l
  have l':(if at_ p j<xs.length then(if at_ p i<xs.length then lt (xs.getD (at_ p j) default) (xs.getD (at_ p i) default)else true)else false)=false:=l
  rw[if_pos (hl j),if_pos (hl i)]at l'
  have ai:p.toList[i]=at_ p i:=by unfold at_;simp[Array.getD,hi]
  have aj:p.toList[j]=at_ p j:=by unfold at_;simp[Array.getD,hj]
  rw[List.getElem_map,List.getElem_map,ai,aj]
  exact l'
end
end Srt
namespace L2
open PySem PySem.Spec PyProof.Rows DL
def sP(A:Around)(s:Shared)(x y:Value)(k:Bool):Prop:=∀(prog:Program) (w:World) (E:Value->Shared->Prop) (Q:Value->Shared->Prop),Q (.bool k) s->wpAny (model prog w) A (richCompare .Lt x y) Q E s
inductive LexAt(A:Around)(s:Shared):List Value->List Value->Bool->Prop
 | nn:LexAt A s [] [] false
 | nc {y:Value}{ys:List Value}:LexAt A s [] (y::ys) true
 | cn {x:Value}{xs:List Value}:LexAt A s (x::xs) [] false
 | eq {x y:Value}{xs ys:List Value}{k:Bool} (h:ACf A s x y true) (t:LexAt A s xs ys k):LexAt A s (x::xs) (y::ys) k
 | ne {x y:Value}{xs ys:List Value}{k:Bool} (h:ACf A s x y false) (t:sP A s x y k):LexAt A s (x::xs) (y::ys) k
section
open PySem.SeqAt
open PySem.AutoSeq1 (wpAny_loadPart')
open PySem.MeetsSeq PySem.MeetsSeq2 PySem.MeetsSeq3
theorem lU(l b:Addr)(items items2:Array Value)(n n2:Nat)(dd dd2:Option Addr)(sl sl2:Array (Option Value))(k:Bool) :
  Meets (Builtin.«tuple.__lt__» ⟨[.ref l,.ref b],[]⟩)
   (λA R s=>s.heap.get? l=some (⟨.type "tuple",dd,.seq items n,sl⟩:Obj)/\s.heap.get? b=some { cls:=.type "tuple",dict:=dd2,data:=.seq items2 n2,slots:=sl2 } /\
    LexAt A.in1 s items.toList items2.toList k/\R (.ok (.ret (.bool k))) s) :=
 .of_wp λprog w A R s h=>by
  obtain⟨hp,g,d,tk,os⟩:=s;obtain⟨hl,hb,hx,h⟩:=h
  have f2:=AutoSeq1.sub_tuple_tuple
  wp_walk using ACU hl,ACU hb,wpAny_forIn_list _ (λaZ b s'=>b.1=none/\s'=⟨hp,g,d,tk,os⟩/\∃(vs ws:List Value),aZ=vs.zip ws /\
   LexAt A.in1 ⟨hp,g,d,tk,os⟩ vs ws k/\vs.length+items2.size=ws.length+items.size) _
  case turn =>
   rintro⟨y,x⟩ aZ b s' ⟨hb',rfl,vs,ws,hz,hlex,hlen⟩
   cases hlex with
   | nn=>cases hz
   | nc=>cases hz
   | cn=>cases hz
   | eq he t =>
    rw[ABP]at hz
    injection hz with hyx hrest
    injection hyx with hy hx
    subst hy hx
    refine AA0 (he prog w _ _ ?_)
    wp_walk
    exact⟨rfl,rfl,_,_,hrest,t,by simp only[AAO]at hlen;lia⟩
   | ne he t =>
    rw[ABP]at hz
    injection hz with hyx hrest
    injection hyx with hy hx
    subst hy hx
    refine AA0 (he prog w _ _ ?_)
    have hri:=t prog w
    wp_walk using hri
    exact⟨_,rfl,by simpa using h⟩
  case fin =>
   rintro⟨b1,b2⟩ s' ⟨hb',rfl,vs,ws,hz,hlex,hlen⟩
   simp only at hb'
   subst hb'
   have hv:k=decide (items.size<items2.size):=by
    cases hlex with
    | nn=>simp only[AAa]at hlen;exact(dF_ (by lia)).symm
    | nc=>simp only[AAa,AAO]at hlen;exact(dT_ (by lia)).symm
    | cn=>simp only[AAa,AAO]at hlen;exact(dF_ (by lia)).symm
    | eq _ _=>rw[ABP]at hz;cases hz
    | ne _ _=>rw[ABP]at hz;cases hz
   rw[hv]at h
   wp_walk
   exact⟨_,rfl,by simpa [Builtin.Tuple.tupleCompareSizes]using h⟩
  case h =>
   exact⟨rfl,rfl,items.toList,items2.toList,rfl,hx,by simp;lia⟩
end
theorem sP.tuples(hl:s.heap.IsTuple l items)(hb:s.heap.IsTuple b items2)(hu:A.units<cLine)(hx:LexAt A.in1 s items.toList items2.toList k):sP A s (.ref l) (.ref b) k:=λprog w E Q h=>by
 obtain⟨⟨cls,dd,data,sl⟩,ho,hc,n,hd⟩:=id hl
 obtain⟨⟨cls2,dd2,data2,sl2⟩,ho2,hc2,n2,hd2⟩:=id hb
 simp only at hc hd hc2 hd2
 subst hc hd hc2 hd2
 exact richCompare_meets_room (op:=.Lt) ⟨_,ho,rfl⟩ ⟨_,ho2,rfl⟩ PySem.F.slot_tuple_lt PySem.F.entry_tuple_lt (PySem.F.args_tuple_lt_2 _ _) (lU l b items items2 n n2 dd dd2 sl sl2 k)
  ⟨ho,ho2,hx,show ADN k≠Value.notImplemented/\Q (.bool k) s from⟨(λx=>nomatch x),h⟩⟩ hu
noncomputable def oi(f g:D->D->Bool):List D->List D->Bool
 | [],[]=>false
 | [],_::_=>true
 | _::_,[]=>false
 | x::xs,y::ys=>if f x y=true then oi f g xs ys else g x y
noncomputable def ltD(M:Mem):Nat->D->D->Bool
 | _,.int a,.int b=>decide (a<b)
 | _,.str a,.str b=>bB a b
 | n+1,.tup xs,.tup ys=>oi (eqD M n) (ltD M n) xs ys
 | _,_,_=>false
noncomputable def rB(f g:D->D->Bool):List D->List D->Bool
 | x::xs,y::ys=>if f x y=true then rB f g xs ys else g x y
 | _,_=>true
noncomputable def cC(M:Mem):Nat->D->D->Bool
 | _,.int _,.int _=>true
 | _,.str _,.str _=>true
 | n+1,.tup xs,.tup ys=>rB (eqD M n) (cC M n) xs ys
 | _,_,_=>false
theorem sP.ints(A:Around)(s:Shared)(a:Int)(t:Tok)(c:Int)(u:Tok):sP A s (.int a t) (.int c u) (decide (a<c)):=λprog w E Q h=>HT.rcLt_int A s a t c u prog w E Q h
theorem sP.texts(A:Around)(s:Shared)(a:Str)(t:Tok)(c:Str)(u:Tok):sP A s (.str a t) (.str c u) (bB a c):=λprog w E Q h =>
 (PySem.P.lt_str (show Q (.bool (decide (a.cps.toList<c.cps.toList))) s from h):wpAny (model prog w) A (compareOp .Lt (.str a t) (.str c u)) Q E s)
theorem uN(I:Inv X pins σ H s)(sm:Sim X.K ρ M H):∀(n:Nat) (A:Around) (x y:D) (vx vy:V) (u v:Value),A.units+n<cLine->Rep X.K ρ H x vx->aK vx u->Rep X.K ρ H y vy->aK vy v->okD M n x=true->okD M n y=true->cC M n x y=true ->
  sP A s u v (ltD M n x y):=by
 intro n
 induction n with
 | zero =>
  intro A x y vx vy u v hu r1 e1 r2 e2 o1 o2 cm
  cases r1 with
  | int a =>
   cases r2 with
   | int b=>obtain⟨t,rfl⟩:=e1;obtain⟨t',rfl⟩:=e2;exact sP.ints A s a t b t'
   | _=>simp[cC]at cm
  | str a =>
   cases r2 with
   | str b=>obtain⟨t,rfl⟩:=e1;obtain⟨t',rfl⟩:=e2;exact sP.texts A s a t b t'
   | _=>simp[cC]at cm
  | _=>simp[cC]at cm
 | succ n ih =>
  intro A x y vx vy u v hu r1 e1 r2 e2 o1 o2 cm
  have hu0:A.units<cLine:=by lia
  have hu1:A.in1.units+n<cLine:=by show A.units+1+n<cLine;lia
  have lex:∀(ds es:List D) (vs ws:List V) (its jts:List Value),Reps X.K ρ H ds vs->ar vs its->Reps X.K ρ H es ws->ar ws jts->ds.all (okD M n)=true->es.all (okD M n)=true->rB (eqD M n) (cC M n) ds es=true ->
    LexAt A.in1 s its jts (oi (eqD M n) (ltD M n) ds es):=by
   intro ds
   induction ds with
   | nil =>
    intro es vs ws its jts p1 q1 p2 q2 _ _ _
    cases p1;cases q1
    cases p2 with
    | nil=>cases q2;exact .nn
    | cons _ _=>cases q2;exact .nc
   | cons d ds hi =>
    intro es vs ws its jts p1 q1 p2 q2 k1 k2 k3
    cases p1 with
    | cons a1 p1 =>
     cases q1 with
     | cons b1 q1 =>
      cases p2 with
      | nil=>cases q2;exact .cn
      | @cons e _ es' _ a2 p2 =>
       cases q2 with
       | cons b2 q2 =>
        rw[ABT,AAU]at k1 k2
        have he:=(nF I sm n A.in1 d _ _ _ _ _ hu1 a1 b1 a2 b2 k1.1 k2.1).1
        rw[oi]
        rw[rB]at k3
        by_cases hq:eqD M n d e=true
        ·rw[hq]at he
         rw[if_pos hq]at k3 ⊢
         exact .eq he (hi _ _ _ _ _ p1 q1 p2 q2 k1.2 k2.2 k3)
        ·have hq':=ADS.mpr hq
         rw[hq']at he
         rw[if_neg hq]at k3 ⊢
         exact .ne he (ih A.in1 _ _ _ _ _ _ hu1 a1 b1 a2 b2 k1.1 k2.1 k3)
  cases r1 with
  | int a =>
   cases r2 with
   | int b=>obtain⟨t,rfl⟩:=e1;obtain⟨t',rfl⟩:=e2;exact sP.ints A s a t b t'
   | _=>simp[cC]at cm
  | str a =>
   cases r2 with
   | str b=>obtain⟨t,rfl⟩:=e1;obtain⟨t',rfl⟩:=e2;exact sP.texts A s a t b t'
   | _=>simp[cC]at cm
  | tup hq r =>
   cases r2 with
   | tup hq' r' =>
    cases e1;cases e2
    obtain⟨its,rr,pl,_⟩:=I.tuple hq
    obtain⟨jts,rr',pl',_⟩:=I.tuple hq'
    refine sP.tuples pl pl' hu0 ?_
    exact lex _ _ _ _ _ _ r rr r' rr' (by simpa [okD]using o1) (by simpa [okD]using o2) cm
   | _=>simp[cC]at cm
  | _=>simp[cC]at cm
def Cl:DR2:=λx y M Q=>match x,y with
 | .tup xs,.tup ys=>(okD M eqN (.tup xs)=true/\okD M eqN (.tup ys)=true/\cC M eqN (.tup xs) (.tup ys)=true)/\Q (.bl (ltD M eqN (.tup xs) (.tup ys))) M
 | _,_=>qLt x y M Q
theorem Db(hr:Room k X.A):OpD X (compareOp .Lt) Cl:=by
 rintro pins s σ H vx vy v u R I rx ry ⟨x,y,M,ρ,Q,sm,r1,r2,q,k⟩
 unfold Cl at q
 split at q
 ·obtain⟨⟨o1,o2,o3⟩,q⟩:=q
  exact uN I sm eqN X.A _ _ vx vy v u (ky hr) r1 rx r2 ry o1 o2 o3 _ _ _ _ (jz I sm k q)
 ·exact Dc pins s σ H vx vy v u R I rx ry ⟨x,y,M,ρ,Q,sm,r1,r2,q,k⟩
noncomputable def okP:Nat->D->Bool
 | _,.int _=>true
 | _,.str _=>true
 | n+1,.tup xs=>xs.all (okP n)
 | _,_=>false
noncomputable def yV(f:D->List Int):List D->List Int
 | []=>[0]
 | x::xs=>1::(f x++yV f xs)
noncomputable def enc:Nat->D->List Int
 | _,.int i=>[0,i]
 | _,.str x=>1::(x.cps.toList.map (λ(c:Nat)=>(c:Int)+1)++[0])
 | n+1,.tup xs=>2::yV (enc n) xs
 | _,_=>[3]
def bH(x y:List Int):Prop:=∀a b,x++a<y++b
theorem bH.cons(i:Int)(h:bH x y):bH (i::x) (i::y):=λa b=>AAV.mpr (.inr ⟨rfl,h a b⟩)
theorem bH.head(x y:List Int)(h:i<j):bH (i::x) (j::y):=λa b=>AAV.mpr (.inl h)
theorem bH.lt(h:bH x y):x<y:=by have:=h [] [];simpa using this
theorem bH.pre(z:List Int)(h:bH x y):bH (z++x) (z++y):=by
 induction z with
 | nil=>exact h
 | cons i z ih=>exact ih.cons i
theorem bH.more(u v:List Int)(h:bH x y):bH (x++u) (y++v):=λa b=>by
 rw[AAR,AAR]
 exact h _ _
def Tri(x y:D)(n:Nat)(l:Bool)(r:Bool):Prop:=(x=y/\l=false/\r=false)\/(x≠y/\l=true/\r=false/\bH (enc n x) (enc n y))\/(x≠y/\l=false/\r=true/\bH (enc n y) (enc n x))
theorem nJ:∀(x y:List Nat),(x=y)\/(x<y/\¬y<x/\bH (x.map (λ(c:Nat)=>(c:Int)+1)++[0]) (y.map (λ(c:Nat)=>(c:Int)+1)++[0]))\/(¬x<y/\y<x/\bH (y.map (λ(c:Nat)=>(c:Int)+1)++[0]) (x.map (λ(c:Nat)=>(c:Int)+1)++[0]))
 | [],[]=>.inl rfl
 | [],c::y=>.inr (.inl ⟨List.nil_lt_cons _ _,List.not_lt_nil _,bH.head _ _ (by dsimp only;lia)⟩)
 | c::x,[]=>.inr (.inr ⟨List.not_lt_nil _,List.nil_lt_cons _ _,bH.head _ _ (by dsimp only;lia)⟩)
 | c::x,e::y=>by
  rcases Nat.lt_trichotomy c e with h | h | h
  ·refine .inr (.inl ⟨AAV.mpr (.inl h),λz=>?_,bH.head _ _ (by dsimp only;lia)⟩)
   rcases AAV.mp z with z | ⟨z,_⟩<;>lia
  ·subst h
   rcases nJ x y with q | ⟨q1,q2,q3⟩|⟨q1,q2,q3⟩
   ·exact .inl (by rw[q])
   ·refine .inr (.inl ⟨AAV.mpr (.inr ⟨rfl,q1⟩),λz=>?_,q3.cons _⟩)
    rcases AAV.mp z with z | ⟨_,z⟩
    ·lia
    ·exact q2 z
   ·refine .inr (.inr ⟨λz=>?_,AAV.mpr (.inr ⟨rfl,q2⟩),q3.cons _⟩)
    rcases AAV.mp z with z | ⟨_,z⟩
    ·lia
    ·exact q1 z
  ·refine .inr (.inr ⟨λz=>?_,AAV.mpr (.inl h),bH.head _ _ (by dsimp only;lia)⟩)
   rcases AAV.mp z with z | ⟨z,_⟩<;>lia
theorem Eh(M:Mem):∀(n:Nat) (x y:D),okP n x=true->okP n y=true->(eqD M n x y=true↔x=y):=by
 have all:∀(n:Nat),(∀(x y:D),okP n x=true->okP n y=true->(eqD M n x y=true↔x=y))->∀(xs ys:List D),xs.all (okP n)=true->ys.all (okP n)=true->(eqL (eqD M n) xs ys=true↔xs=ys):=by
  intro n ih xs
  induction xs with
  | nil=>intro ys _ _;cases ys<;>simp[eqL]
  | cons x xs hi =>
   intro ys h1 h2
   cases ys with
   | nil=>simp[eqL]
   | cons y ys =>
    rw[ABT,AAU]at h1 h2
    rw[eqL,AAU,ih x y h1.1 h2.1,hi ys h1.2 h2.2,List.cons.injEq]
 intro n
 induction n with
 | zero =>
  intro x y h1 h2
  cases x<;>simp[okP]at h1<;>cases y<;>simp[okP]at h2<;>simp[eqD]
 | succ n ih =>
  intro x y h1 h2
  cases x with
  | int a=>cases y<;>simp[okP]at h2<;>simp[eqD]
  | str a=>cases y<;>simp[okP]at h2<;>simp[eqD]
  | tup xs =>
   cases y with
   | tup ys =>
    simp only[eqD,D.tup.injEq]
    exact all n ih xs ys (by simpa [okP]using h1) (by simpa [okP]using h2)
   | int a=>simp[eqD]
   | str a=>simp[eqD]
   | _=>simp[okP]at h2
  | _=>simp[okP]at h1
theorem CY(M:Mem):∀(n:Nat) (x:D),okP n x=true->okD M n x=true:=by
 intro n
 induction n with
 | zero=>intro x h;cases x<;>simp[okP]at h<;>rfl
 | succ n ih =>
  intro x h
  cases x with
  | int a=>rfl
  | str a=>rfl
  | tup xs =>
   simp only[okD]
   rw[AAb]
   intro y hy
   exact ih y (AAb.mp (show xs.all (okP n)=true from h) y hy)
  | _=>simp[okP]at h
theorem wW(M:Mem):∀(n:Nat) (x y:D),okP n x=true->okP n y=true->cC M n x y=true->Tri x y n (ltD M n x y) (ltD M n y x):=by
 have base:∀(n:Nat) (a b:Int),Tri (.int a) (.int b) n (decide (a<b)) (decide (b<a)):=λn a b=>by
  have e:∀a,enc n (.int a)=[0,a]:=λa=>by cases n<;>rfl
  rcases Int.lt_trichotomy a b with h | h | h
  ·exact .inr (.inl ⟨by simp;lia,dT_ h,dF_ (by lia),by rw[e,e];exact(bH.head [] [] h).cons 0⟩)
  ·subst h;exact .inl ⟨rfl,dF_ (by lia),dF_ (by lia)⟩
  ·exact .inr (.inr ⟨by simp;lia,dF_ (by lia),dT_ h,by rw[e,e];exact(bH.head [] [] h).cons 0⟩)
 have bases:∀(n:Nat) (a b:Str),Tri (.str a) (.str b) n (bB a b) (bB b a):=λn a b=>by
  have e:∀a:Str,enc n (.str a)=1::(a.cps.toList.map (λ(c:Nat)=>(c:Int)+1)++[0]):=λa=>by cases n<;>rfl
  unfold bB
  rcases nJ a.cps.toList b.cps.toList with h | ⟨h1,h2,h3⟩|⟨h1,h2,h3⟩
  ·have:a=b:=oG h
   subst this
   exact .inl ⟨rfl,dF_ (AB1 _),dF_ (AB1 _)⟩
  ·exact .inr (.inl ⟨λz=>by cases z;exact h2 h1,dT_ h1,dF_ h2,by rw[e,e];exact h3.cons 1⟩)
  ·exact .inr (.inr ⟨λz=>by cases z;exact h1 h2,dF_ h1,dT_ h2,by rw[e,e];exact h3.cons 1⟩)
 intro n
 induction n with
 | zero =>
  intro x y h1 h2 h3
  cases x<;>simp[okP]at h1<;>cases y<;>simp[okP]at h2<;>first | exact base 0 _ _ | exact bases 0 _ _ | simp[cC]at h3
 | succ n ih =>
  intro x y h1 h2 h3
  have lists:∀(xs ys:List D),xs.all (okP n)=true->ys.all (okP n)=true->rB (eqD M n) (cC M n) xs ys=true ->
    (xs=ys/\oi (eqD M n) (ltD M n) xs ys=false/\oi (eqD M n) (ltD M n) ys xs=false) \/
    (xs≠ys/\oi (eqD M n) (ltD M n) xs ys=true/\oi (eqD M n) (ltD M n) ys xs=false/\bH (yV (enc n) xs) (yV (enc n) ys)) \/
    (xs≠ys/\oi (eqD M n) (ltD M n) xs ys=false/\oi (eqD M n) (ltD M n) ys xs=true/\bH (yV (enc n) ys) (yV (enc n) xs)):=by
   intro xs
   induction xs with
   | nil =>
    intro ys _ _ _
    cases ys with
    | nil=>exact .inl ⟨rfl,rfl,rfl⟩
    | cons y ys=>exact .inr (.inl ⟨by simp,rfl,rfl,bH.head _ _ (by decide)⟩)
   | cons x xs hi =>
    intro ys h1 h2 h3
    cases ys with
    | nil=>exact .inr (.inr ⟨by simp,rfl,rfl,bH.head _ _ (by decide)⟩)
    | cons y ys =>
     rw[ABT,AAU]at h1 h2
     rw[rB]at h3
     have qe:=Eh M n x y h1.1 h2.1
     have qe':=Eh M n y x h2.1 h1.1
     rw[oi,oi]
     by_cases hq:x=y
     ·subst hq
      rw[if_pos (qe.mpr rfl)]at h3
      rw[if_pos (qe.mpr rfl),if_pos (qe.mpr rfl)]
      rcases hi ys h1.2 h2.2 h3 with⟨a1,a2,a3⟩|⟨a1,a2,a3,a4⟩|⟨a1,a2,a3,a4⟩
      ·exact .inl ⟨by rw[a1],a2,a3⟩
      ·exact .inr (.inl ⟨λz=>a1 (ADw z).2,a2,a3,(a4.pre (enc n x)).cons 1⟩)
      ·exact .inr (.inr ⟨λz=>a1 (ADw z).2,a2,a3,(a4.pre (enc n x)).cons 1⟩)
     ·have n1:¬eqD M n x y=true:=λz=>hq (qe.mp z)
      have n2:¬eqD M n y x=true:=λz=>hq (qe'.mp z).symm
      rw[if_neg n1]at h3
      rw[if_neg n1,if_neg n2]
      rcases ih x y h1.1 h2.1 h3 with⟨a1,_⟩|⟨a1,a2,a3,a4⟩|⟨a1,a2,a3,a4⟩
      ·exact absurd a1 hq
      ·exact .inr (.inl ⟨λz=>hq (ADw z).1,a2,a3,(a4.more _ _).cons 1⟩)
      ·exact .inr (.inr ⟨λz=>hq (ADw z).1,a2,a3,(a4.more _ _).cons 1⟩)
  cases x with
  | int a=>cases y<;>simp[okP]at h2<;>first | exact base (n+1) _ _ | simp[cC]at h3
  | str a=>cases y<;>simp[okP]at h2<;>first | exact bases (n+1) _ _ | simp[cC]at h3
  | tup xs =>
   cases y with
   | tup ys =>
    rcases lists xs ys (by simpa [okP]using h1) (by simpa [okP]using h2) h3 with⟨a1,a2,a3⟩|⟨a1,a2,a3,a4⟩|⟨a1,a2,a3,a4⟩
    ·exact .inl ⟨by rw[a1],a2,a3⟩
    ·exact .inr (.inl ⟨λz=>a1 (D.tup.inj z),a2,a3,a4.cons 2⟩)
    ·exact .inr (.inr ⟨λz=>a1 (D.tup.inj z),a2,a3,a4.cons 2⟩)
   | _=>simp[cC]at h3
  | _=>simp[okP]at h1
theorem oY(h1:okP n x=true)(h2:okP n y=true)(h3:cC M n x y=true):ltD M n x y=decide (enc n x<enc n y):=by
 rcases wW M n x y h1 h2 h3 with⟨a1,a2,a3⟩|⟨a1,a2,a3,a4⟩|⟨a1,a2,a3,a4⟩
 ·subst a1;rw[a2,dF_ (AB1 _)]
 ·rw[a2,dT_ a4.lt]
 ·rw[a2,dF_ (λz=>AB1 _ (AD9 z a4.lt))]
end L2
namespace L2
open PySem PySem.Spec PyProof.Rows DL PySem.W
theorem Inv.laidF(I:Inv X pins σ H s)(k:∀b u,b≠X.env.locals->s.heap.get? b=some u->h'.get? b=some u)(hn:s.heap.Ns X.env.locals m)(hn':h'.Ns X.env.locals m)
  (hp:s.heap.get? a=none) (fa:H a=none) (new:br X.prog X.w (upd H a o) h' a o):Inv X pins σ (upd H a o) { s with heap:=h',toks:=t' }:=by
 have nea:∀b u,s.heap.get? b=some u->b≠a:=λb u e z=>by subst z;rw[hp]at e;cases e
 refine I.step (g':=s.gens) (d':=s.drawn) (ch:=[]) (λ_ z=>nomatch z) (λb u hL _ _ e _=>k b u hL e) (λb u hL _ _ e _=>⟨u.slots,k b u hL e⟩) (λb u _ e n=>by rw[ak (nea b u e)];exact n) (λb u _ e=>?_)
  (λb xs q=>by rw[ak (ac q fa)];exact q) (λb u xs q=>by rw[ak (ac q fa)];exact q) (λb ps q=>⟨#[],by rw[ak (ac q fa),q];simp⟩) (λm' hm=>?_) (λb w q=>?_) I.bare
 ·by_cases hb:b=X.env.locals
  ·subst hb
   obtain⟨o',_,_,ho,_⟩:=hn'
   exact⟨o',ho⟩
  ·exact⟨u,k b u hb e⟩
 ·have:m=m':=funext λx=>hn.agree hm x
  subst this
  exact hn'
 ·by_cases hb:b=a
  ·subst hb
   rw[ay]at q
   cases q
   exact new
  ·rw[ak hb]at q
   refine(I.hok b w q).stay (λc v hc r=>k c v ?_ r) (λc z=>by rw[ak (ac z fa)];exact z) λc xs z=>by rw[ak (ac z fa)];exact z
   rcases hc with rfl | hc
   ·exact ac q I.free
   ·exact ac hc I.free
theorem Inv.keptF(I:Inv X pins σ H s)(k:∀b u,b≠X.env.locals->s.heap.get? b=some u->h'.get? b=some u)(hn:s.heap.Ns X.env.locals m)(hn':h'.Ns X.env.locals m):Inv X pins σ H { s with heap:=h',toks:=t' }:=by
 refine I.step (g':=s.gens) (d':=s.drawn) (ch:=[]) (λ_ z=>nomatch z) (λb u hL _ _ e _=>k b u hL e) (λb u hL _ _ e _=>⟨u.slots,k b u hL e⟩) (λb u _ e n=>n) (λb u _ e=>?_)
  (λb xs q=>q) (λb u xs q=>q) (λb ps q=>⟨#[],by rw[q];simp⟩) (λm' hm=>?_) (λb w q=>?_) I.bare
 ·by_cases hb:b=X.env.locals
  ·subst hb
   obtain⟨o',_,_,ho,_⟩:=hn'
   exact⟨o',ho⟩
  ·exact⟨u,k b u hb e⟩
 ·have:m=m':=funext λx=>hn.agree hm x
  subst this
  exact hn'
 ·refine(I.hok b w q).stay (λc v hc r=>k c v ?_ r) (λc z=>z) λc xs z=>z
  rcases hc with rfl | hc
  ·exact ac q I.free
  ·exact ac hc I.free
theorem mH{prog:Program}{w:World}{A:Around}{E:Value->Shared->Prop}{s:Shared}{l:Addr}{vs:List Value}{Q:Value->Shared->Prop}(hl:s.heap.IsList l vs.toArray)(h2:vs.length<2)
  (h:∀D h' n,s.heap.objs.size<=D->(∀b o,s.heap.get? b=some o->h'.get? b=some o)->h'.get? D=some { cls:=.type "list",data:=.seq vs.toArray n }->Q (.ref D) { s with heap:=h' }) :
  wpAny (model prog w) A (call (.builtin "sorted") ([AAe l])) Q E s:=by
 have few:vs.length<=sizeLine:=by rw[ABV];lia
 refine Calls.call_function_entry kind_sorted plain_sorted entry_sorted (args_sorted1 (.ref l)) ?_
 unfold Builtin.«sorted»
 refine AA0 (m:=checkCount "sorted" 1 1 _) (AA5 (AA0 (collect_list hl (AA0 (ACg ?_ few)) few)))
 generalize hg:((s.heap.push (seqObj "list" #[] 0)).update s.heap.objs.size (AB3 (· ++ vs.toArray)))=g1
 have hsz:g1.objs.size=s.heap.objs.size+1:=by rw[<-hg,Heap.size_update,size_push']
 have k1:∀b o,s.heap.get? b=some o->g1.get? b=some o:=λb o q=>by
  have hlt:=AAF q
  rw[<-hg,ABj _ _ _ _ (AAK hlt),Heap.get?_push_ne _ _ _ (AAK hlt)]
  exact q
 show wpAny _ _ _ _ _ { s with heap:=g1.push (seqObj "list" vs.toArray 0) }
 have hoL:(g1.push (seqObj "list" vs.toArray 0)).get? g1.objs.size=some (seqObj "list" vs.toArray 0):=AAD _ rfl
 refine AA0 (AAj (AAm slot_list_sort (⟨_,hoL,rfl⟩) entry_list_sort ?body (args_list_sort (.ref _))))
 case body =>
  rw[list_sort_plain]
  refine AA0 (ADb hoL rfl ?_)
  refine AA0 (ACh hoL rfl ?_ (by rw[AAC,ABV];lia) (AAX _))
  obtain⟨e1,ho1⟩:∃e1,((g1.push (seqObj "list" vs.toArray 0)).update g1.objs.size (AB3 λ_=>(#[]:Array Value))).get? g1.objs.size=some (seqObj "list" #[] e1):=⟨_,ACF hoL λ_=>#[]⟩
  refine AA0 (seqEpoch_at ho1 rfl (AA0 (ADX (AA0 (ACg (AAj ?_) (AAX _))) few)))
  dsimp only
  have hv2:vs.toArray.size<2:=by rw[AAC];exact h2
  rw[if_pos hv2,if_pos hv2]
  refine AA0 (AA5 ?_)
  rw[StateT.run_pure]
  refine AA0 (AA5 ?_)
  dsimp only
  generalize hg3:(((g1.push (seqObj "list" vs.toArray 0)).update g1.objs.size (AB3 λ_=>(#[]:Array Value))).push (seqObj "tuple" vs.toArray 0)).push (seqObj "list" #[] 0)=g3
  have ho3:g3.get? g1.objs.size=some (seqObj "list" #[] e1):=by rw[<-hg3];exact AA3 _ (AA3 _ ho1)
  have k3:∀b o,b≠g1.objs.size->s.heap.get? b=some o->g3.get? b=some o:=λb o hb q=>by
   have q1:=k1 b o q
   rw[<-hg3]
   refine AA3 _ (AA3 _ ?_)
   rw[ABj _ _ _ _ hb]
   exact AA3 _ q1
  refine AA0 (seqEpoch_at ho3 rfl ?_)
  have eo:∀us:List Value,us.length<2->(us.toArray.zip us.toArray).map (·.2)=us.toArray:=λus hu=>by
   match us,hu with
   | [],_=>simp
   | [v],_=>simp
   | _::_::_,hu=>simp at hu;lia
  have eout:(arrOf (SortSt.mk' general' (vs.toArray.zip vs.toArray) #[] 7 none)).map (·.2)=vs.toArray:=eo vs h2
  rw[eout]
  refine AA0 (ACh ho3 rfl ?_ (AAX _) (by rw[AAC,ABV];lia))
  simp only[show failedOf (SortSt.mk' general' (vs.toArray.zip vs.toArray) #[] 7 none)=none from rfl,bne_self_eq_false,AAZ,if_false]
  refine AA5 ⟨_,rfl,AA5 ⟨_,rfl,?_⟩⟩
  obtain⟨c2,hc2⟩:∃c2,(g3.update g1.objs.size (AB3 λ_=>vs.toArray)).get? g1.objs.size=some (seqObj "list" vs.toArray c2):=⟨_,ACF ho3 λ_=>vs.toArray⟩
  refine h g1.objs.size _ c2 (by lia) (λb o q=>?_) hc2
  have hb:b≠g1.objs.size:=AAK (by rw[hsz];exact ACD (AAF q))
  rw[ABj _ _ _ _ hb]
  exact k3 b o hb q
structure SrtOk(M:Mem)(xs:List D):Prop where
 len:xs.length<64
 ok:∀x∈xs,okP eqN x=true
 cm:∀x∈xs,∀y∈xs,cC M eqN x y=true
 kd:(∀x∈xs,∃z,x=.str z)\/(∀x∈xs,∃i,x=.int i)\/(∀x∈xs,∃z r,x=.tup (.str z::r))\/(∀x∈xs,∃i r,x=.tup (.int i::r))\/(∀x∈xs,∃z r,x=.tup (.tup z::r))
structure SrtG(M:Mem)(xs:List D):Prop where
 len:xs.length<64
 okd:∀x∈xs,okD M eqN x=true
 cm:∀x∈xs,∀y∈xs,cC M eqN x y=true
 kd:(∀x∈xs,∃z,x=.str z)\/(∀x∈xs,∃i,x=.int i)\/(∀x∈xs,∃z r,x=.tup (.str z::r))\/(∀x∈xs,∃i r,x=.tup (.int i::r))\/(∀x∈xs,∃z r,x=.tup (.tup z::r))
 od:∃en:D->List Int,∀a∈xs,∀b∈xs,ltD M eqN a b=decide (en a<en b)
theorem SrtOk.g(so:SrtOk M xs):SrtG M xs :=
 ⟨so.len,λx hx=>CY M _ _ (so.ok x hx),so.cm,so.kd,enc eqN,λa ha b hb=>oY (so.ok a ha) (so.ok b hb) (so.cm a ha b hb)⟩
def lK(M:Mem)(ys:List D):Prop:=ys.Pairwise λa b=>ltD M eqN b a=false
def uv:DRA:=λds M Q=>match ds with
 | [.ref n]=>∃xs,aq M n xs/\SrtG M xs/\∀ys,ys.Perm xs->lK M ys->Q (.ref M.length) (M++[.lst ys])
 | _=>False
theorem Reps.perm{K:AA2}{ρ:List Addr}{H:Hp}{ds:List D}{vs:List V}(r:Reps K ρ H ds vs)(is:List Nat)(hi:∀i∈is,i<ds.length):Reps K ρ H (is.map λi=>ds.getD i .non) (is.map λi=>vs.getD i .non):=by
 induction is with
 | nil=>exact .nil
 | cons i is ih =>
  have h:=hi i AAE
  obtain⟨v,e,rv⟩:=r.get (AA6 h)
  refine .cons ?_ (ih λj hj=>hi j (AA9 _ hj))
  show Rep K ρ H (ds.getD i .non) (vs.getD i .non)
  rw[AAJ,AAJ,e,AA6 h]
  exact rv
theorem ar.perm(r:ar vs us)(is:List Nat)(hi:∀i∈is,i<vs.length):ar (is.map λi=>vs.getD i .non) (is.map λi=>us.getD i .none):=by
 induction is with
 | nil=>exact .nil
 | cons i is ih =>
  have h:=hi i AAE
  obtain⟨v,e,rv⟩:=gL r (AA6 h)
  refine .cons ?_ (ih λj hj=>hi j (AA9 _ hj))
  show aK (vs.getD i .non) (us.getD i .none)
  rw[AAJ,AAJ,e,AA6 h]
  exact rv
instance:Inhabited D:=⟨.non⟩
theorem Ah(o:HO)(x:br P w H h a o):∃u,h.get? a=some u:=by
 cases o with
 | lst _=>obtain⟨_,_,_,_,e⟩:=x;exact⟨_,e⟩
 | tup _=>obtain⟨_,_,_,o,e,_⟩:=x;exact⟨o,e⟩
 | dK _=>obtain⟨_,_,_,_,_,_,_,e,_⟩:=x;exact⟨_,e⟩
 | dT _=>obtain⟨_,_,_,_,o,_,_,e,_⟩:=x;exact⟨o,e⟩
 | set _ _=>obtain⟨o,_,_,_,e,_⟩:=x;exact⟨_,e⟩
 | ins _ _ _=>obtain⟨_,_,_,e,_⟩:=x;exact⟨_,e⟩
 | own _=>exact x
 | xd _=>obtain⟨_,⟨_,_,_,e,_⟩,_⟩:=x;exact⟨_,e⟩
 | rng _ _=>obtain⟨_,_,_,e⟩:=x;exact⟨_,e⟩
 | frz _ _=>obtain⟨e,_⟩:=x;exact⟨_,e⟩
 | tbl _=>exact⟨_,x⟩
 | met _ _=>exact⟨_,x⟩
 | ext _=>obtain⟨_,e,_⟩:=x;exact e
theorem HOk.none(x:HOk P w H h)(e:h.get? a=none):H a=none:=by
 cases q:H a with
 | none=>rfl
 | some o =>
  exfalso
  obtain⟨u,hu⟩:=Ah o (x a o q)
  rw[e]at hu;cases hu
theorem Ak(I:Inv X pins σ H s)(sm:Sim X.K ρ M H)(n:Nat)(A:Around)(hu:A.units+n<cLine):∀(ds es:List D) (vs ws:List V) (its jts:List Value),Reps X.K ρ H ds vs->ar vs its->Reps X.K ρ H es ws->ar ws jts->ds.all (okD M n)=true->es.all (okD M n)=true ->
  rB (eqD M n) (cC M n) ds es=true->LexAt A s its jts (oi (eqD M n) (ltD M n) ds es):=by
 intro ds
 induction ds with
 | nil =>
  intro es vs ws its jts p1 q1 p2 q2 _ _ _
  cases p1;cases q1
  cases p2 with
  | nil=>cases q2;exact .nn
  | cons _ _=>cases q2;exact .nc
 | cons d ds hi =>
  intro es vs ws its jts p1 q1 p2 q2 k1 k2 k3
  cases p1 with
  | cons a1 p1 =>
   cases q1 with
   | cons b1 q1 =>
    cases p2 with
    | nil=>cases q2;exact .cn
    | @cons e _ es' _ a2 p2 =>
     cases q2 with
     | cons b2 q2 =>
      rw[ABT,AAU]at k1 k2
      have he:=(nF I sm n A d _ _ _ _ _ hu a1 b1 a2 b2 k1.1 k2.1).1
      rw[oi]
      rw[rB]at k3
      by_cases hq:eqD M n d e=true
      ·rw[hq]at he
       rw[if_pos hq]at k3 ⊢
       exact .eq he (hi _ _ _ _ _ p1 q1 p2 q2 k1.2 k2.2 k3)
      ·have hq':=ADS.mpr hq
       rw[hq']at he
       rw[if_neg hq]at k3 ⊢
       exact .ne he (uN I sm n A _ _ _ _ _ _ hu a1 b1 a2 b2 k1.1 k2.1 k3)
theorem xZ(h:LexAt A s its jts k):∀(i:Nat),(b&&i==0)=false->(b&&i+1==0)=false->Q k s->KatLex prog w A b (decide (its.length<jts.length)) Q (its.zip jts) i s:=by
 have un:∀i:Nat,(b&&i+1==0)=false:=λi=>by cases b<;>simp
 induction h with
 | nn=>intro i _ _ q;exact q
 | nc=>intro i _ _ q;exact(show Q (decide (0<_+1)) s by rw[dT_ (Nat.succ_pos _)];exact q)
 | cn=>intro i _ _ q;exact(show Q (decide (_+1<0)) s by rw[dF_ (Nat.not_lt_zero _)];exact q)
 | @eq x y xs ys k he t ih =>
  intro i hb _ q
  refine kat_cons (he prog w _ _ (kat_yes ?_))
  have:=ih (i+1) (un i) (un (i+1)) q
  rw[show decide ((x::xs).length<(y::ys).length)=decide (xs.length<ys.length) by simp]
  exact this
 | @ne x y xs ys k he t =>
  intro i hb _ q
  refine kat_cons (he prog w _ _ (kat_no ?_))
  rw[hb]
  exact kat_one _ _ (t prog w _ _ q)
theorem vJ(he:ACf A s p q e)(hl:e=false->∀Q':Bool->Shared->Prop,Q' l s->wpAny (model prog w) A (oneLt' (b&&0==0) p q) Q' (λ_ _=>False) s)(ht:e=true->LexAt A s its jts k)(h:Q (if e=true then k else l) s) :
  KatLex prog w A b (decide ((p::its).length<(q::jts).length)) Q ((p::its).zip (q::jts)) 0 s:=by
 refine kat_cons (he prog w _ _ ?_)
 cases e with
 | true =>
  refine kat_yes ?_
  rw[show decide ((p::its).length<(q::jts).length)=decide (its.length<jts.length) by simp]
  exact xZ (ht rfl) 1 (by cases b<;>rfl) (by cases b<;>rfl) h
 | false=>exact kat_no (hl rfl _ h)
section
variable{X:Cx}{pins:List (Addr×Obj)}{σ:St}{H:Hp}{s:Shared}{ρ:List Addr}{M:Mem}
theorem ng{M:Model}{h:Heap}{x:Str}{t:Tok}:Looks M h (typeOf (.str x t)) (.type "str"):=Looks.of_pure rfl
theorem nh{M:Model}{h:Heap}{x:Int}{t:Tok}:Looks M h (typeOf (.int x t)) (.type "int"):=Looks.of_pure rfl
theorem Reps.getD'(r:Reps X.K ρ H ds vs)(rr:ar vs its)(h:i<ds.length):∃v,Rep X.K ρ H (ds.getD i default) v/\aK v (its.getD i .none)/\ds.getD i default∈ds:=by
 obtain⟨v,e,rv⟩:=r.get (AA6 h)
 obtain⟨u,e',ru⟩:=gL rr e
 refine⟨v,?_,?_,?_⟩
 ·rw[AAJ,AA6 h];exact rv
 ·rw[AAJ,e'];exact ru
 ·rw[AAJ,AA6 h];exact ABh h
theorem Reps.mem(r:Reps X.K ρ H ds vs)(rr:ar vs its)(h:u∈its):∃d v,d∈ds/\Rep X.K ρ H d v/\aK v u:=by
 induction ds generalizing vs its with
 | nil=>cases r;cases rr;cases h
 | cons d0 ds ih =>
  cases r with
  | cons r1 r =>
   cases rr with
   | cons q1 q =>
    rcases(AAG (a:=u)).mp h with rfl | h
    ·exact⟨_,_,AAE,r1,q1⟩
    ·obtain⟨d,v,h1,h2,h3⟩:=ih r q h
     exact⟨d,v,AA9 _ h1,h2,h3⟩
theorem pC(I:Inv X pins σ H s)(r:Reps X.K ρ H xs ws)(rr:ar ws its)(hx:∀x∈xs,∃f r,x=.tup (f::r)) :
  ∃fs,KatTups s.heap its fs/\fs.length=its.length/\∀u∈fs,∃d v,Rep X.K ρ H d v/\aK v u/\∃r,D.tup (d::r)∈xs:=by
 induction xs generalizing ws its with
 | nil=>cases r;cases rr;exact⟨[],.nil,rfl,λ_ z=>nomatch z⟩
 | cons d ds ih =>
  cases r with
  | cons r1 r =>
   cases rr with
   | cons q1 q =>
    obtain⟨fs,h1,h2,h3⟩:=ih r q λx hx'=>hx x (AA9 _ hx')
    obtain⟨f,aZ,rfl⟩:=hx d AAE
    cases r1 with
    | tup hq rs =>
     cases q1
     obtain⟨its,rv,pl,hz⟩:=I.tuple hq
     cases rs with
     | cons a1 rs =>
      cases rv with
      | cons b1 rv =>
       obtain⟨o,ho,hc,n,hd⟩:=pl
       refine⟨_::fs,.cons ho hc hd rfl h1,by simp[h2],λu hu=>?_⟩
       rcases AAG.mp hu with rfl | hu
       ·exact⟨_,_,a1,b1,_,AAE⟩
       ·obtain⟨d,v,e1,e2,r',e3⟩:=h3 u hu
        exact⟨d,v,e1,e2,r',AA9 _ e3⟩
noncomputable def ltc(M:Mem)(xs:List D)(i j:Nat):Bool:=ltD M eqN (xs.getD i default) (xs.getD j default)
theorem iO(I:Inv X pins σ H s)(sm:Sim X.K ρ M H){xs:List D}{ws:List V}{its:List Value}(so:SrtG M xs)(r:Reps X.K ρ H xs ws)(rr:ar ws its)(h2:2<=its.length){A:Around}(hu:A.units+eqN<cLine) :
  wpAny (model X.prog X.w) A (keyKind' its.toArray) (λκ s'=>s'=s/\∀i j (C:Bool->Shared->Prop),i<its.length->j<its.length->C (ltc M xs i j) s->kas_ask X.prog X.w A κ its i j C s) (λ_ _=>False) s:=by
 have lw:=r.length
 have li:=rr.length
 have le:xs.length=its.length:=by lia
 have tups:∀(b:Bool),(∀x∈xs,∃f r,x=.tup (f::r))->(∀(f g:D) (vf vg:V) (p q:Value) (r r':List D),D.tup (f::r)∈xs->D.tup (g::r')∈xs->Rep X.K ρ H f vf->aK vf p->Rep X.K ρ H g vg->aK vg q ->
   (eqD M 29 f g=false->∀Q':Bool->Shared->Prop,Q' (ltD M 29 f g) s->wpAny (model X.prog X.w) A (oneLt' (b&&0==0) p q) Q' (λ_ _=>False) s)) ->
   ∀i j (C:Bool->Shared->Prop),i<its.length->j<its.length->C (ltc M xs i j) s->kas_ask X.prog X.w A (tuples' b) its i j C s:=by
  intro b hx hone i j C hi hj hc
  unfold kas_ask
  obtain⟨v1,r1,e1,m1⟩:=r.getD' rr (show i<xs.length by lia)
  obtain⟨v2,r2,e2,m2⟩:=r.getD' rr (show j<xs.length by lia)
  unfold ltc at hc
  have k1:=so.okd _ m1
  have k2:=so.okd _ m2
  have k3:=so.cm _ m1 _ m2
  generalize xs.getD i default=x at *
  generalize xs.getD j default=y at *
  obtain⟨f,rf,rfl⟩:=hx _ m1
  obtain⟨g,rg,rfl⟩:=hx _ m2
  cases r1 with
  | tup hq rs =>
   cases r2 with
   | tup hq' rs' =>
    generalize its.getD i .none=u1 at *
    generalize its.getD j .none=u2 at *
    cases e1;cases e2
    obtain⟨as,ra,pa,_⟩:=I.tuple hq
    obtain⟨bs,rb,pb,_⟩:=I.tuple hq'
    obtain⟨o,ho,_,n,hd⟩:=pa
    obtain⟨o',ho',_,n',hd'⟩:=pb
    refine kat_lt ho hd ho' hd' ?_
    cases rs with
    | cons a1 rs =>
     cases ra with
     | @cons _ p _ la b1 ra =>
      cases rs' with
      | cons a2 rs' =>
       cases rb with
       | @cons _ q _ lb b2 rb =>
        have hu':A.units+29<cLine:=by have:eqN=30:=rfl;lia
        have z1:okD M 29 f=true/\rf.all (okD M 29)=true:=by
         have:(f::rf).all (okD M 29)=true:=k1
         rwa [ABT,AAU]at this
        have z2:okD M 29 g=true/\rg.all (okD M 29)=true:=by
         have:(g::rg).all (okD M 29)=true:=k2
         rwa [ABT,AAU]at this
        have z3:(if eqD M 29 f g=true then rB (eqD M 29) (cC M 29) rf rg else cC M 29 f g)=true:=k3
        have he:=(nF I sm 29 A _ _ _ _ _ _ hu' a1 b1 a2 b2 z1.1 z2.1).1
        have hc':C (if eqD M 29 f g=true then oi (eqD M 29) (ltD M 29) rf rg else ltD M 29 f g) s:=hc
        cases hq3:eqD M 29 f g with
        | true =>
         rw[hq3]at he hc' z3
         have:=vJ (prog:=X.prog) (w:=X.w) (b:=b) (Q:=C) (l:=true) he (λz=>nomatch z) (λ_=>Ak I sm 29 A hu' _ _ _ _ _ _ rs ra rs' rb z1.2 z2.2 z3) hc'
         simpa using this
        | false =>
         rw[hq3]at he hc'
         have:=vJ (prog:=X.prog) (w:=X.w) (b:=b) (Q:=C) (l:=ltD M 29 f g) (its:=la) (jts:=lb) (k:=true) he (λ_=>hone f g _ _ _ _ _ _ m1 m2 a1 b1 a2 b2 hq3) (λz=>nomatch z) hc'
         simpa using this
 have fin:∀(κ:SortKind),(∀i j (C:Bool->Shared->Prop),i<its.length->j<its.length->C (ltc M xs i j) s->kas_ask X.prog X.w A κ its i j C s)->(s=s/\∀i j (C:Bool->Shared->Prop),i<its.length->j<its.length->C (ltc M xs i j) s->kas_ask X.prog X.w A κ its i j C s):=λκ h=>⟨rfl,h⟩
 have eqn:A.units+29<cLine:=by have:eqN=30:=rfl;lia
 rcases so.kd with hk | hk | hk | hk | hk
 ·refine kas_kind (T:=.type "str") h2 (λu hu=>?_) (by decide) (by decide) (fin _ λi j C hi hj hc=>?_)
  ·obtain⟨d,v,m1,r1,e1⟩:=r.mem rr hu
   obtain⟨z,rfl⟩:=hk d m1
   cases r1
   obtain⟨t,rfl⟩:=e1
   exact ng
  ·unfold kas_ask
   obtain⟨v1,r1,e1,m1⟩:=r.getD' rr (show i<xs.length by lia)
   obtain⟨v2,r2,e2,m2⟩:=r.getD' rr (show j<xs.length by lia)
   unfold ltc at hc
   obtain⟨z,hz⟩:=hk _ m1
   obtain⟨z',hz'⟩:=hk _ m2
   rw[hz]at r1 hc
   rw[hz']at r2 hc
   cases r1;cases r2
   obtain⟨t,h1⟩:=e1
   obtain⟨t',h2⟩:=e2
   rw[h1,h2]
   exact kas_lt_str hc
 ·refine kas_kind (T:=.type "int") h2 (λu hu=>?_) (by decide) (by decide) (fin _ λi j C hi hj hc=>?_)
  ·obtain⟨d,v,m1,r1,e1⟩:=r.mem rr hu
   obtain⟨z,rfl⟩:=hk d m1
   cases r1
   obtain⟨t,rfl⟩:=e1
   exact nh
  ·unfold kas_ask
   obtain⟨v1,r1,e1,m1⟩:=r.getD' rr (show i<xs.length by lia)
   obtain⟨v2,r2,e2,m2⟩:=r.getD' rr (show j<xs.length by lia)
   unfold ltc at hc
   obtain⟨z,hz⟩:=hk _ m1
   obtain⟨z',hz'⟩:=hk _ m2
   rw[hz]at r1 hc
   rw[hz']at r2 hc
   cases r1;cases r2
   obtain⟨t,h1⟩:=e1
   obtain⟨t',h2⟩:=e2
   rw[h1,h2]
   exact kat_lt_int hc
 ·obtain⟨fs,t1,t2,t3⟩:=pC I r rr λx hx=>(hk x hx).elim λz ⟨r,e⟩=>⟨_,_,e⟩
  refine kat_kind (T:=.type "str") t1 (by lia) (λu hu=>?_) (by decide) (fin _ (tups _ (λx hx=>(hk x hx).elim λz ⟨r,e⟩=>⟨_,_,e⟩) λf g vf vg p q r r' m1 m2 r1 e1 r2 e2 hq Q' h=>?_))
  ·obtain⟨d,v,r1,e1,r',m1⟩:=t3 u hu
   obtain⟨z,r'',e⟩:=hk _ m1
   cases e
   cases r1
   obtain⟨t,rfl⟩:=e1
   exact ng
  ·obtain⟨z,_,e⟩:=hk _ m1
   cases e
   obtain⟨z',_,e'⟩:=hk _ m2
   cases e'
   cases r1;cases r2
   obtain⟨t,rfl⟩:=e1
   obtain⟨t',rfl⟩:=e2
   exact oneLt_str h
 ·obtain⟨fs,t1,t2,t3⟩:=pC I r rr λx hx=>(hk x hx).elim λz ⟨r,e⟩=>⟨_,_,e⟩
  refine kat_kind (T:=.type "int") t1 (by lia) (λu hu=>?_) (by decide) (fin _ (tups _ (λx hx=>(hk x hx).elim λz ⟨r,e⟩=>⟨_,_,e⟩) λf g vf vg p q r r' m1 m2 r1 e1 r2 e2 hq Q' h=>?_))
  ·obtain⟨d,v,r1,e1,r',m1⟩:=t3 u hu
   obtain⟨z,r'',e⟩:=hk _ m1
   cases e
   cases r1
   obtain⟨t,rfl⟩:=e1
   exact nh
  ·obtain⟨z,_,e⟩:=hk _ m1
   cases e
   obtain⟨z',_,e'⟩:=hk _ m2
   cases e'
   cases r1;cases r2
   obtain⟨t,rfl⟩:=e1
   obtain⟨t',rfl⟩:=e2
   exact oneLt_int h
 ·obtain⟨fs,t1,t2,t3⟩:=pC I r rr λx hx=>(hk x hx).elim λz ⟨r,e⟩=>⟨_,_,e⟩
  refine kat_kind (T:=.type "tuple") t1 (by lia) (λu hu=>?_) (by decide) (fin _ (tups _ (λx hx=>(hk x hx).elim λz ⟨r,e⟩=>⟨_,_,e⟩) λf g vf vg p q r r' m1 m2 r1 e1 r2 e2 hq Q' h=>?_))
  ·obtain⟨d,v,r1,e1,r',m1⟩:=t3 u hu
   obtain⟨z,r'',e⟩:=hk _ m1
   cases e
   cases r1 with
   | tup hq rs =>
    cases e1
    obtain⟨_,_,pl,_⟩:=I.tuple hq
    obtain⟨o,ho,hc,_⟩:=pl
    rw[<-hc]
    exact(show Looks _ s.heap (typeOf (.ref _)) o.cls from(Looks.ld ho).andThen .now)
  ·have k1:okD M 29 f=true:=by
    have:(f::r).all (okD M 29)=true:=so.okd _ m1
    rw[ABT,AAU]at this
    exact this.1
   have k2:okD M 29 g=true:=by
    have:(g::r').all (okD M 29)=true:=so.okd _ m2
    rw[ABT,AAU]at this
    exact this.1
   have k3:(if eqD M 29 f g=true then rB (eqD M 29) (cC M 29) r r' else cC M 29 f g)=true:=so.cm _ m1 _ m2
   rw[hq]at k3
   exact kat_one _ _ (uN I sm 29 A _ _ _ _ _ _ eqn r1 e1 r2 e2 k1 k2 k3 _ _ _ _ h)
end
theorem zW{xs:List D}{lt:D->D->Bool}{en:D->List Int}(e:∀a∈xs,∀b∈xs,lt a b=decide (en a<en b)):(∀a∈xs,lt a a=false)/\(∀a∈xs,∀b∈xs,∀d∈xs,lt a b=true->lt b d=true->lt a d=true)/\∀a∈xs,∀b∈xs,∀d∈xs,lt a d=true->lt a b=true\/lt b d=true:=by
 refine⟨λa ha=>?_,λa ha b hb d hd h1 h2=>?_,λa ha b hb d hd h=>?_⟩
 ·rw[e a ha a ha,dF_ (AB1 _)]
 ·rw[e a ha b hb,decide_eq_true_eq]at h1
  rw[e b hb d hd,decide_eq_true_eq]at h2
  rw[e a ha d hd,decide_eq_true_eq]
  exact AD9 h1 h2
 ·rw[e a ha d hd,decide_eq_true_eq]at h
  rw[e a ha b hb,e b hb d hd,decide_eq_true_eq,decide_eq_true_eq]
  by_cases z:en a<en b
  ·exact .inl z
  ·have z':en b<=en a:=z
   exact .inr (List.lt_of_le_of_lt z' h)
theorem zX{xs:List D}(so:SrtG M xs):(∀a∈xs,ltD M eqN a a=false)/\(∀a∈xs,∀b∈xs,∀d∈xs,ltD M eqN a b=true->ltD M eqN b d=true->ltD M eqN a d=true)/\∀a∈xs,∀b∈xs,∀d∈xs,ltD M eqN a d=true->ltD M eqN a b=true\/ltD M eqN b d=true :=
 so.od.elim λ_ e=>zW e
theorem um{l:Addr}{xs:List D}{ws:List V}{its:List Value}{R:VK}{lt:D->D->Bool}(I:Inv X pins σ H s)(sm:Sim X.K ρ M H)
  (keys:∀h',Inv X pins σ H { s with heap:=h' }->wpAny (model X.prog X.w) X.A.in1.in1 (keyKind' its.toArray) (λκ s'=>s'={ s with heap:=h' }/\∀i j (C:Bool->Shared->Prop),i<its.length->j<its.length->C (lt (xs.getD i default) (xs.getD j default)) { s with heap:=h' }->kas_ask X.prog X.w X.A.in1.in1 κ its i j C { s with heap:=h' }) (λ_ _=>False) { s with heap:=h' })
  (o1:∀a∈xs,lt a a=false) (o2:∀a∈xs,∀b∈xs,∀d∈xs,lt a b=true->lt b d=true->lt a d=true) (o3:∀a∈xs,∀b∈xs,∀d∈xs,lt a d=true->lt a b=true\/lt b d=true) (r:Reps X.K ρ H xs ws) (rr:ar ws its) (hl:s.heap.IsList l its.toArray) (hz:ws.length<=sizeLine) (h2:2<=its.length) (h64:its.length<64)
  (hne:l≠X.env.locals) (kk:∀v H',((∀Q:DK,(∀ys,ys.Perm xs->(ys.Pairwise λa b=>lt b a=false)->Q (.ref M.length) (M++[.lst ys]))->VQ X.K ρ H Q v H'))->R v H') :
  wpAny (model X.prog X.w) X.A (call (.builtin "sorted") [.ref l]) (EP X pins σ R) X.xe s:=by
 obtain⟨m,hn,hm⟩:=I.loc
 have lw:=r.length
 have li:=rr.length
 obtain⟨ol,hol,_⟩:=id hl
 have mem:∀a o,(a,o)∈[]++(l,ol)::Att.ledger s.heap X.env.locals l↔a≠X.env.locals/\s.heap.get? a=some o:=λa o=>by
  rw[AAo,AAG,Att.mem_ledger]
  constructor
  ·rintro(h | ⟨h1,_,h3⟩)
   ·cases h;exact⟨hne,hol⟩
   ·exact⟨h1,h3⟩
  ·rintro⟨h1,h2⟩
   by_cases hal:a=l
   ·subst hal
    rw[hol]at h2;cases h2
    exact .inl rfl
   ·exact .inr ⟨h1,hal,h2⟩
 refine kat_sorted (Att.fr_all hn) (Att.news_ledger hne hol) hl h2 h64 λD e1 h' F' N' lw'=>?_
 have kp:∀b u,b≠X.env.locals->s.heap.get? b=some u->h'.get? b=some u:=λb u hb e=>(N' (b,u) (AA9 _ ((mem b u).mpr ⟨hb,e⟩))).1
 have hDL:D≠X.env.locals:=(N' _ AAE).2.1
 have hD:s.heap.get? D=none:=by
  cases q:s.heap.get? D with
  | none=>rfl
  | some o=>exact absurd (lw' (D,o) ((mem D o).mpr ⟨hDL,q⟩)) (AAW _)
 have I':Inv X pins σ H { s with heap:=h' }:=I.keptF (t':=s.toks) kp hn F'.ns
 refine ABC (keys h' I') (λκ s' hk=>?_) λ_ _ x=>x
 obtain⟨rfl,hask⟩:=hk
 refine Srt.wp_run (n:=its.length) (c:=λi j=>if i<xs.length then(if j<xs.length then lt (xs.getD i default) (xs.getD j default)else true)else false) (λi j C hi hj hc=>?_) _ (Srt.sort_bd (by lia)).1 ?_
 ·refine hask i j C hi hj ?_
  rw[if_pos (by lia),if_pos (by lia)]at hc
  exact hc
 ·have hent:=Srt.All.run (c:=λi j=>if i<xs.length then(if j<xs.length then lt (xs.getD i default) (xs.getD j default)else true)else false) _ (Srt.sort_bd (n:=its.length) (by lia)).2
  have hsl:=Srt.sort_list xs (by lia) o1 o2 o3
  try dsimp only at hsl
  rw[show xs.length=its.length by lia]at hsl hent ⊢
  generalize Srt.run _ (ADW its.length)=p at hent hsl ⊢
  have hi:∀i∈p.toList,i<xs.length:=λi h=>by
   have:=hent.mem_iff.mp h
   rw[ABc]at this
   lia
  refine KasFin.intro F' N' (UpdF.head λq hq=>AAK (lw' q hq)) λh2 c F2 N2=>?_
  have r':=r.perm p.toList hi
  have rr':=rr.perm p.toList (λi h=>by have:=hi i h;lia)
  have hD':H D=none:=HOk.none I.hok hD
  refine⟨.ref D,_,I.laidF (t':=s.toks) (o:=.lst (p.toList.map λi=>ws.getD i .non)) (λb u hb e=>(N2 (b,u) (AA9 _ ((mem b u).mpr ⟨hb,e⟩))).1) hn F2.ns hD hD' ⟨?_,_,c,rr',(N2 _ AAE).1⟩,rfl,
   kk _ _ λQ hQ=>VQ.laidL sm .refl r' hD' (hQ _ hsl.1 hsl.2)⟩
  rw[AA4]
  have:=hsl.1.length_eq
  rw[AA4]at this
  lia
theorem sY{X:Cx}(hr:Room k X.A):X.A.in1.in1.units+eqN<cLine:=by
 have:=hr.un
 have:eqN=30:=rfl
 show X.A.units+1+1+eqN<cLine
 lia
theorem xa{k:Nat}{l:Addr}{xs:List D}{ws:List V}{its:List Value}{R:VK}(hr:Room k X.A)(I:Inv X pins σ H s)(sm:Sim X.K ρ M H)(so:SrtG M xs)(r:Reps X.K ρ H xs ws)(rr:ar ws its)(hl:s.heap.IsList l its.toArray)(hz:ws.length<=sizeLine)(h2:2<=its.length)(h64:its.length<64)
  (hne:l≠X.env.locals) (kk:∀v H',((∀Q:DK,(∀ys,ys.Perm xs->lK M ys->Q (.ref M.length) (M++[.lst ys]))->VQ X.K ρ H Q v H'))->R v H') :
  wpAny (model X.prog X.w) X.A (call (.builtin "sorted") [.ref l]) (EP X pins σ R) X.xe s :=
 have o:=zX so
 um (lt:=ltD M eqN) I sm (λ_ I'=>iO I' sm so r rr h2 (sY hr)) o.1 o.2.1 o.2.2 r rr hl hz h2 h64 hne kk
theorem Inv.sqL_ne(I:Inv X pins σ H s)(h:SqL X.K H a xs):a≠X.env.locals:=by
 rcases h with h | ⟨o,its,n,hk,_⟩
 ·rcases h with h | ⟨_,h⟩
  ·exact ac h I.free
  ·exact ac h I.free
 ·have:=AAF (I.mod.kin a o hk)
  exact AAK (AAP this (AB4 I.ok.bsz I.ok.above))
theorem wt(hr:Room k X.A):fZ X (.builtin "sorted") uv:=by
 rintro pins s σ H vs us R I rv ⟨ds,M,ρ,Q,sm,rs,q,kk⟩
 unfold uv at q
 split at q
 ·obtain⟨xs,hL,so,q⟩:=q
  cases rs with
  | cons r1 rs =>
   cases rs
   obtain⟨u,rfl,e1⟩:=ar.one rv
   cases r1 with
   | ref e =>
    cases e1
    obtain⟨ws,hq,r⟩:=aq.seq sm hL e
    obtain⟨its,rr,pl,hz⟩:=I.list hq
    have lw:=r.length
    have li:=rr.length
    by_cases h2:its.length<2
    ·refine mH pl.isList h2 λD h' n hD hk ho=>?_
     refine⟨.ref D,_,I.laid (t':=s.toks) (o:=.lst ws) hk hD ⟨hz,its,n,rr,ho⟩,rfl,kk _ _ (VQ.laidL sm .refl r (I.hok.fresh hD) (q xs (List.Perm.refl _) ?_))⟩
     unfold lK
     match xs,(show xs.length<2 by lia) with
     | [],_=>exact ADP
     | [x],_=>exact ABu _ _
     | _::_::_,hx=>simp at hx;lia
    ·have h2':2<=its.length:=by lia
     have h64:its.length<64:=by have:=so.len;lia
     exact xa hr I sm so r rr pl.isList hz h2' h64 (I.sqL_ne hq) λv H' x=>kk v H' (x Q q)
 ·exact q.elim
theorem mW(hit:s.heap.IsTupleIter it t i)(ht:s.heap.IsTuple t items)(hx:items[i]?=some x)
  (hQ:∀h',h'.IsTupleIter it t (i+1)->ABA it s.heap h'->Q x { s with heap:=h' }):wpAny (model prog w) A (AB2 (.ref it)) Q E s:=by
 obtain⟨o,ho,hc,hd⟩:=id hit
 obtain⟨ol,hol,_,nl,hdl⟩:=ht
 unfold AB2
 refine AA0 (AAk (name:=AA1 "__next__") hit.typeIs F.slot_tuple_iterator_next (AAm F.slot_tuple_iterator_next hit.typeIs F.entry_tuple_iterator_next ?_ (F.args_tuple_iterator_next_1 (.ref it))))
 refine(show wpAny (model prog w) _ (field (.ref it) 0 >>= _) _ _ s from AA0 (AB7 ho hd (x:=.ref t) rfl ?_))
 refine(show wpAny (model prog w) _ (if (AAe t==ABO)=true then _ else field (.ref it) 1 >>= _) _ _ s from ?_)
 rw[if_neg (show ¬(AAe t==ABO)=true from AB9)]
 refine AA0 (AB7 ho hd (x:=.int i 0) rfl (show wpAny (model prog w) _ (seqItems? (.ref t) >>= _) _ _ s from AA0 (ABl hol hdl ?_)))
 simp only[AAw,hx]
 refine AA0 (ADY ho hd (by simp) (AA5 ⟨x,rfl,AA5 (hQ _ ⟨_,AAx _ ho (Obj.isFreed_of_fields (ADA hd _)),(Obj.cls_mapFields ..).trans hc,?_⟩ (ABE ..))⟩))
 rw[ADA hd];simp[rawInt]
theorem gH(hh:A.handled=none)(hit:s.heap.IsTupleIter it t i)(ht:s.heap.IsTuple t items)(hx:items[i]?=none)
  (hE:∀h' e,Heap.ExtBut it s.heap h'->(∃o,h'.get? e=some o/\o.cls=.type "StopIteration")->E (.ref e) { s with heap:=h' }):wpAny (model prog w) A (AB2 (.ref it)) Q E s:=by
 obtain⟨o,ho,hc,hd⟩:=id hit
 obtain⟨ol,hol,_,nl,hdl⟩:=ht
 unfold AB2
 refine AA0 (AAk (name:=AA1 "__next__") hit.typeIs F.slot_tuple_iterator_next (AAm F.slot_tuple_iterator_next hit.typeIs F.entry_tuple_iterator_next ?_ (F.args_tuple_iterator_next_1 (.ref it))))
 refine(show wpAny (model prog w) _ (field (.ref it) 0 >>= _) _ _ s from AA0 (AB7 ho hd (x:=.ref t) rfl ?_))
 refine(show wpAny (model prog w) _ (if (AAe t==ABO)=true then _ else field (.ref it) 1 >>= _) _ _ s from ?_)
 rw[if_neg (show ¬(AAe t==ABO)=true from AB9)]
 refine AA0 (AB7 ho hd (x:=.int i 0) rfl (show wpAny (model prog w) _ (seqItems? (.ref t) >>= _) _ _ s from AA0 (ABl hol hdl ?_)))
 simp only[AAw,hx]
 refine AA0 (ACE (AA0 (ADY ho hd (by simp) (show wpAny (model prog w) _ (newExc (.type "StopIteration") [] >>= _) _ _ _ from AA0 ?_))))
 simp only[newExc,newTuple]
 refine AA0 (AAh (AA0 (m:=firstArgMember _ _) (wpAny_of_eq (a:=ABO) (by first | rfl | (simp only[firstArgMember];rfl)) (AAh ?_ (by size_fits)))) (by size_fits))
 simp only[raiseNew]
 refine AA0 (wpAny_handled ?_)
 first | rw[show A.in1.handled=none from hh] | rw[hh]
 exact AA0 (AA5 (wpAny_throw (hE _ _ (((ABE ..).extBut.push _).push _) (⟨_,AAD _ rfl,rfl⟩))))
theorem pK(hh:A.handled=none)(it t:Addr)(hne:t≠it)(items:Array Value):Draws prog w A it [it,t] items.size (λi v=>items[i]?=some v) (λi h=>h.IsTupleIter it t i/\h.IsTuple t items) where
 live:=λ_ _ ⟨⟨o,ho,_⟩,_⟩=>⟨o,ho⟩
 frame:=λ_ _ _ ⟨h1,o,e,r⟩ hk=>⟨h1.at λo e=>hk it (AAE) o e,o,hk t (by simp) o e,r⟩
 item:=λi s Q E hi ⟨h1,h2⟩ hQ=>by
  refine mW h1 h2 (x:=items[i]) (AAq hi) λh' hit' hs'=>hQ _ h' s.toks (AAq hi) ⟨hit',?_⟩ hs'
  obtain⟨o,e,r⟩:=h2
  exact⟨o,hs'.extBut _ _ hne e,r⟩
 done:=λs Q E ⟨h1,h2⟩ hE=>gH hh h1 h2 (ADL (AAA _)) hE
structure ZA(z TI TO i1 i2:Addr)(f1 f2:List Addr):Prop where
 nd:[z,TI,TO,i1,i2].Nodup
 z1:z∉f1
 o1:TO∉f1
 y1:i2∉f1
 z2:z∉f2
 o2:TO∉f2
 x2:i1∉f2
theorem cX{prog:Program}{w:World}{A:Around}{it c:Addr}{fp:List Addr}{n k:Nat}{P:Nat->Value->Prop}{St:Nat->Heap->Prop}{h h':Heap}(D:Draws prog w A it fp n P St)(hc:c∉fp)(hs:Heap.ExtBut c h h')(st:St k h):St k h' :=
 D.frame k h h' st λb hb o e=>hs b o (λq=>hc (q ▸ hb)) e
section
variable{prog:Program}{w:World}{A:Around}{E:Value->Shared->Prop}{s:Shared}{z TI TO i1 i2:Addr}{f1 f2:List Addr}{n1 n2 k:Nat}{P1 P2:Nat->Value->Prop}{S1 S2:Nat->Heap->Prop}{a b:Value}
theorem wK{Q:Value->Shared->Prop}(D1:Draws prog w A i1 f1 n1 P1 S1)(D2:Draws prog w A i2 f2 n2 P2 S2)(Z:ZA z TI TO i1 i2 f1 f2)(hz:IsZip s.heap z TI TO .none)(hTI:IsPair s.heap TI (.ref i1) (.ref i2))(hTO:IsPair s.heap TO a b)
  (st1:S1 k s.heap) (st2:S2 k s.heap) (l1:k<n1) (l2:k<n2)
  (hQ:∀h' tk x y T,P1 k x->P2 k y->s.heap.objs.size<=T->IsZip h' z TI TO (rawInt T)->IsPair h' TO x y->S1 (k+1) h'->S2 (k+1) h'->IsPair h' T x y->(∀c o,c≠z->c≠TO->c≠i1->c≠i2->s.heap.get? c=some o->h'.get? c=some o)->Q (.ref T) { s with heap:=h',toks:=tk }) :
  wpAny (model prog w) A (Builtin.«zip.__next__» ⟨[.ref z],[]⟩) (λfin s'=>∃v,fin=.done (.ret v)/\Q v s') E s:=by
 have nd:=Z.nd
 simp only[AAf,AAG,ABF,or_false,not_or]at nd
 obtain⟨⟨zTI,zTO,zi1,zi2⟩,⟨TITO,TIi1,TIi2⟩,⟨TOi1,TOi2⟩,i12,_⟩:=nd
 refine(show wpAny (model prog w) A (field (.ref z) 2 >>= _) _ _ _ from AA0 (AB7 hz rfl (x:=.bool false) rfl ?_))
 refine(show wpAny (model prog w) A (field (.ref z) 3 >>= _) _ _ _ from AA0 (AB7 hz rfl (x:=.ref TI) rfl (AA0 (ABl hTI rfl ?_))))
 refine(show wpAny (model prog w) A (ABW (.ref z) >>= _) _ _ _ from AA0 ?_)
 unfold ABW
 refine AA0 (AB7 hz rfl (x:=ABO) rfl (AA5 ?_))
 simp only[if_true]
 refine AA0 (ACE (AA0 (AB7 hz rfl (x:=.ref TO) rfl (AA0 (AAz hz (by simp) λh₁ (hz₁:IsZip h₁ z TI TO .ellipsis) hs₁=>AA0 ?_)))))
 simp only[List.zipIdx_cons,List.zipIdx_nil,ADl,List.forIn_nil]
 refine AA0 (AA0 (wpAny_onRaise (show wpAny (model prog w) A (AB2 (.ref i1) >>= _) _ _ _ from AA0 ?_)))
 refine D1.item k _ _ _ l1 (cX D1 Z.z1 hs₁.extBut st1) λx h₂ tk₂ px s1₂ hs₂=>AA5 ?_
 have hTO₂:IsPair h₂ TO a b:=hs₂.extBut _ _ TOi1 (hs₁.extBut _ _ (AAr zTO) hTO)
 refine AA0 (ABl hTO₂ rfl (AA0 (wpAny_updateSeq_pair hTO₂ λh₃ (hTO₃:IsPair h₃ TO x b) hs₃=>AA0 (wpAny_letGo (AA5 ?_)))))
 refine AA0 (AA0 (wpAny_onRaise (show wpAny (model prog w) A (AB2 (.ref i2) >>= _) _ _ _ from AA0 ?_)))
 refine D2.item k _ _ _ l2 (cX D2 Z.o2 hs₃.extBut (cX D2 Z.x2 hs₂.extBut (cX D2 Z.z2 hs₁.extBut st2))) λy h₄ tk₄ py s2₄ hs₄=>AA5 ?_
 have hTO₄:IsPair h₄ TO x b:=hs₄.extBut _ _ TOi2 hTO₃
 refine AA0 (ABl hTO₄ rfl (AA0 (wpAny_updateSeq_pair hTO₄ λh₅ (hTO₅:IsPair h₅ TO x y) hs₅=>AA0 (wpAny_letGo (AA5 (AA5 ?_))))))
 refine AA0 (ABl hTO₅ rfl (AA0 (ADX ?_)))
 have hz₅:IsZip h₅ z TI TO .ellipsis:=hs₅.extBut _ _ zTO (hs₄.extBut _ _ zi2 (hs₃.extBut _ _ zTO (hs₂.extBut _ _ zi1 hz₁)))
 have kp:∀c o,c≠z->c≠TO->c≠i1->c≠i2->s.heap.get? c=some o->h₅.get? c=some o:=λc o c1 c2 c3 c4 e=>hs₅.extBut _ _ c2 (hs₄.extBut _ _ c4 (hs₃.extBut _ _ c2 (hs₂.extBut _ _ c3 (hs₁.extBut _ _ c1 e))))
 have sz:h₅.objs.size=s.heap.objs.size:=by rw[hs₅.1,hs₄.1,hs₃.1,hs₂.1];exact hs₁.1
 have t1:=cX D1 Z.o1 hs₅.extBut (cX D1 Z.y1 hs₄.extBut (cX D1 Z.o1 hs₃.extBut s1₂))
 have t2:=cX D2 Z.o2 hs₅.extBut s2₄
 refine(show wpAny (model prog w) A (ACr (.ref z) (.ref h₅.objs.size) >>= _) _ _ _ from AA0 ?_)
 unfold ACr
 have hz₆:IsZip (h₅.push { cls:=.type "tuple",data:=.seq #[x,y] }) z TI TO .ellipsis:=AA3 _ hz₅
 refine AA0 (AAz hz₆ (by simp) λh₇ (hz₇:IsZip h₇ z TI TO (rawInt h₅.objs.size)) hs₇=>AAz hz₇ (by simp) λh₈ (hz₈:IsZip h₈ z TI TO (rawInt h₅.objs.size)) hs₈=>?_)
 have up:∀c o,c≠z->h₅.get? c=some o->h₈.get? c=some o:=λc o c1 e=>hs₈.extBut _ _ c1 (hs₇.extBut _ _ c1 (AA3 _ e))
 have ne:h₅.objs.size≠z:=ABY (AAF hz₅)
 refine AA5 ⟨_,rfl,hQ h₈ _ x y h₅.objs.size px py (Nat.le_of_eq sz.symm) hz₈ (up _ _ (AAr zTO) hTO₅) ?_ ?_ (hs₈.extBut _ _ ne (hs₇.extBut _ _ ne (AAD _ rfl))) λc o c1 c2 c3 c4 e=>up c o c1 (kp c o c1 c2 c3 c4 e)⟩
 ·exact D1.frame _ _ _ t1 λc hc o e=>up c o (λq=>Z.z1 (q ▸ hc)) e
 ·exact D2.frame _ _ _ t2 λc hc o e=>up c o (λq=>Z.z2 (q ▸ hc)) e
theorem wM{Q:Fin->Shared->Prop}(D1:Draws prog w A i1 f1 n1 P1 S1)(D2:Draws prog w A i2 f2 n2 P2 S2)(Z:ZA z TI TO i1 i2 f1 f2)(hz:IsZip s.heap z TI TO .none)(hTI:IsPair s.heap TI (.ref i1) (.ref i2))(hTO:IsPair s.heap TO a b)
  (st1:S1 k s.heap) (st2:S2 k s.heap) (hk:k=n1\/(k<n1/\k=n2))
  (hE:∀h' tk e,(∀c o,c≠z->c≠TO->c≠i1->c≠i2->s.heap.get? c=some o->h'.get? c=some o)->(∃o,h'.get? e=some o/\o.cls=.type "StopIteration")->E (.ref e) { s with heap:=h',toks:=tk }) :
  wpAny (model prog w) A (Builtin.«zip.__next__» ⟨[.ref z],[]⟩) Q E s:=by
 have nd:=Z.nd
 simp only[AAf,AAG,ABF,or_false,not_or]at nd
 obtain⟨⟨zTI,zTO,zi1,zi2⟩,⟨TITO,TIi1,TIi2⟩,⟨TOi1,TOi2⟩,i12,_⟩:=nd
 refine(show wpAny (model prog w) A (field (.ref z) 2 >>= _) _ _ _ from AA0 (AB7 hz rfl (x:=.bool false) rfl ?_))
 refine(show wpAny (model prog w) A (field (.ref z) 3 >>= _) _ _ _ from AA0 (AB7 hz rfl (x:=.ref TI) rfl (AA0 (ABl hTI rfl ?_))))
 refine(show wpAny (model prog w) A (ABW (.ref z) >>= _) _ _ _ from AA0 ?_)
 unfold ABW
 refine AA0 (AB7 hz rfl (x:=ABO) rfl (AA5 ?_))
 simp only[if_true]
 refine AA0 (ACE (AA0 (AB7 hz rfl (x:=.ref TO) rfl (AA0 (AAz hz (by simp) λh₁ (hz₁:IsZip h₁ z TI TO .ellipsis) hs₁=>AA0 ?_)))))
 simp only[List.zipIdx_cons,List.zipIdx_nil,ADl,List.forIn_nil]
 refine AA0 (AA0 (wpAny_onRaise (show wpAny (model prog w) A (AB2 (.ref i1) >>= _) _ _ _ from AA0 ?_)))
 rcases hk with rfl | ⟨l1,rfl⟩
 ·refine D1.done _ _ _ (cX D1 Z.z1 hs₁.extBut st1) ?_
  rintro h₂ e hs₂ ⟨oe,hoe,hce⟩
  have hz₂:IsZip h₂ z TI TO .ellipsis:=hs₂ _ _ zi1 hz₁
  have hez:e≠z:=λq=>by subst q;rw[hz₂]at hoe;cases hoe;simp at hce
  exact AAz hz₂ (by simp) λh₃ _ hs₃=>hE h₃ _ e (λc o c1 _ c3 _ q=>hs₃.extBut _ _ c1 (hs₂ _ _ c3 (hs₁.extBut _ _ c1 q))) ⟨oe,hs₃.extBut _ _ hez hoe,hce⟩
 ·refine D1.item k _ _ _ l1 (cX D1 Z.z1 hs₁.extBut st1) λx h₂ tk₂ px s1₂ hs₂=>AA5 ?_
  have hTO₂:IsPair h₂ TO a b:=hs₂.extBut _ _ TOi1 (hs₁.extBut _ _ (AAr zTO) hTO)
  refine AA0 (ABl hTO₂ rfl (AA0 (wpAny_updateSeq_pair hTO₂ λh₃ (hTO₃:IsPair h₃ TO x b) hs₃=>AA0 (wpAny_letGo (AA5 ?_)))))
  refine AA0 (AA0 (wpAny_onRaise (show wpAny (model prog w) A (AB2 (.ref i2) >>= _) _ _ _ from AA0 ?_)))
  refine D2.done _ _ _ (cX D2 Z.o2 hs₃.extBut (cX D2 Z.x2 hs₂.extBut (cX D2 Z.z2 hs₁.extBut st2))) ?_
  rintro h₄ e hs₄ ⟨oe,hoe,hce⟩
  have hz₄:IsZip h₄ z TI TO .ellipsis:=hs₄ _ _ zi2 (hs₃.extBut _ _ zTO (hs₂.extBut _ _ zi1 hz₁))
  have hez:e≠z:=λq=>by subst q;rw[hz₄]at hoe;cases hoe;simp at hce
  exact AAz hz₄ (by simp) λh₅ _ hs₅=>hE h₅ _ e (λc o c1 c2 c3 c4 q=>hs₅.extBut _ _ c1 (hs₄ _ _ c4 (hs₃.extBut _ _ c2 (hs₂.extBut _ _ c3 (hs₁.extBut _ _ c1 q))))) ⟨oe,hs₅.extBut _ _ hez hoe,hce⟩
end
section
variable{X:Cx}{pins:List (Addr×Obj)}{σ:St}{H:Hp}{s:Shared}{h':Heap}
theorem Inv.turnedL{t':Nat}{fp:List Addr}(I:Inv X pins σ H s)(hf:∀b∈fp,nY X pins H b)(k:∀b o,b∉fp->s.heap.get? b=some o->h'.get? b=some o):Inv X pins σ H { s with heap:=h',toks:=t' }:=by
 have nfp:∀b u,H b=some u->b∉fp:=λb u e z=>by rw[(hf b z).1]at e;cases e
 refine I.step (g':=s.gens) (d':=s.drawn) (ch:=fp) (λb hb=>⟨(hf b hb).2.2.2.1,(hf b hb).2.1,(hf b hb).2.2.2.2.1,(hf b hb).2.2.2.2.2⟩) (λb o _ _ hc e _=>k b o hc e) (λb o _ _ hc e _=>⟨o.slots,k b o hc e⟩) (λ_ _ _ _ n=>n)
  (λb o hc e=>⟨o,k b o hc e⟩) (λ_ _ e=>e) (λ_ _ _ e=>e) (λb ps e=>⟨#[],by rw[e];simp⟩) (λm hm=>?_) (λb u e=>?_) I.bare
 ·obtain⟨o,es,ep,ho,r⟩:=hm
  exact⟨o,es,ep,k _ o (λz=>(hf _ z).2.1 rfl) ho,r⟩
 ·refine(I.hok b u e).stay (λc v hc q=>k c v ?_ q) (λ_ q=>q) λ_ _ q=>q
  rcases hc with rfl | z
  ·exact nfp _ u e
  ·exact nfp _ _ z
theorem Inv.turnedT{t':Nat}{fp:List Addr}{T:Addr}{o:HO}(I:Inv X pins σ H s)(hf:∀b∈fp,nY X pins H b)(k:∀b o,b∉fp->s.heap.get? b=some o->h'.get? b=some o)(hT:s.heap.objs.size<=T)(new:br X.prog X.w (upd H T o) h' T o):Inv X pins σ (upd H T o) { s with heap:=h',toks:=t' }:=by
 have fa:H T=none:=I.hok.fresh hT
 have neT:∀b u,s.heap.get? b=some u->b≠T:=λb u e=>AAK (AAP (AAF e) hT)
 have nfp:∀b u,H b=some u->b∉fp:=λb u e z=>by rw[(hf b z).1]at e;cases e
 refine I.step (g':=s.gens) (d':=s.drawn) (ch:=fp) (λb hb=>⟨(hf b hb).2.2.2.1,(hf b hb).2.1,(hf b hb).2.2.2.2.1,(hf b hb).2.2.2.2.2⟩) (λb o _ _ hc e _=>k b o hc e) (λb o _ _ hc e _=>⟨o.slots,k b o hc e⟩) (λb u _ e n=>by rw[ak (neT b u e)];exact n)
  (λb o hc e=>⟨o,k b o hc e⟩) (λb xs q=>by rw[ak (ac q fa)];exact q) (λb u xs q=>by rw[ak (ac q fa)];exact q) (λb ps q=>⟨#[],by rw[ak (ac q fa),q];simp⟩) (λm hm=>?_) (λb u e=>?_) I.bare
 ·obtain⟨o,es,ep,ho,r⟩:=hm
  exact⟨o,es,ep,k _ o (λz=>(hf _ z).2.1 rfl) ho,r⟩
 ·by_cases hb:b=T
  ·subst hb
   rw[ay]at e
   cases e
   exact new
  ·rw[ak hb]at e
   refine(I.hok b u e).stay (λc v hc q=>k c v ?_ q) (λc q=>by rw[ak (ac q fa)];exact q) λc xs q=>by rw[ak (ac q fa)];exact q
   rcases hc with rfl | z
   ·exact nfp _ u e
   ·exact nfp _ _ z
def Sq(t:Bool)(K:AA2)(H:Hp)(a:Addr)(xs:List V):Prop:=if t=true then SqT K H a xs else SqL K H a xs
def SIt(t:Bool)(h:Heap)(i l:Addr)(k:Nat):Prop:=if t=true then h.IsTupleIter i l k else h.IsListIter i l k
def SIs(t:Bool)(h:Heap)(l:Addr)(xs:Array Value):Prop:=if t=true then h.IsTuple l xs else h.IsList l xs
theorem SIt.at(x:SIt t h i l k)(e:∀o,h.get? i=some o->h'.get? i=some o):SIt t h' i l k:=by
 cases t with
 | true=>exact(show h.IsTupleIter i l k from x).at e
 | false=>exact(show h.IsListIter i l k from x).at e
theorem SIt.obj(x:SIt t h i l k):∃o,h.get? i=some o/\∀v,o.data≠.cell v:=by
 cases t with
 | true =>
  obtain⟨o,e,c,d⟩:=(show h.IsTupleIter i l k from x)
  exact⟨o,e,λv z=>by rw[d]at z;cases z⟩
 | false =>
  obtain⟨o,e,c,d⟩:=(show h.IsListIter i l k from x)
  exact⟨o,e,λv z=>by rw[d]at z;cases z⟩
theorem Sq.is(I:Inv X pins σ H s)(h:Sq t X.K H a xs):∃its,ar xs its/\SIs t s.heap a its.toArray/\xs.length<=sizeLine:=by
 cases t with
 | true=>exact I.tuple (show SqT X.K H a xs from h)
 | false =>
  obtain⟨its,rr,pl,hz⟩:=I.list (show SqL X.K H a xs from h)
  exact⟨its,rr,pl.isList,hz⟩
theorem Sq.inj(I:Inv X pins σ H s)(h:Sq t X.K H a xs)(h':Sq t X.K H a ys):xs=ys:=by
 cases t with
 | true=>exact I.tuple_inj h h'
 | false=>exact I.list_inj h h'
theorem Sq.ne(I:Inv X pins σ H s)(h:Sq t X.K H a xs)(f:nY X pins H b):a≠b:=by
 have kc:∀o,X.K.lookup a=some o->a≠b:=λo hk=>by
  have hb:=I.mod.kin a o hk
  rcases f.2.2.2.1 with z | z
  ·intro q;subst q;exact I.ok.noex a o hb z
  ·exact AAK (AAP (AAF hb) (AB4 I.ok.bsz z))
 cases t with
 | true =>
  rcases(show SqT X.K H a xs from h)with(h | ⟨_,h⟩) | ⟨o,its,n,hk,_⟩
  ·exact ac h f.1
  ·exact ac h f.1
  ·exact kc o hk
 | false =>
  rcases(show SqL X.K H a xs from h)with(h | ⟨_,h⟩) | ⟨o,its,n,hk,_⟩
  ·exact ac h f.1
  ·exact ac h f.1
  ·exact kc o hk
theorem fE(hh:A.handled=none)(t:Bool)(it l:Addr)(hne:l≠it)(items:Array Value):Draws prog w A it [it,l] items.size (λi v=>items[i]?=some v) (λi h=>SIt t h it l i/\SIs t h l items):=by
 cases t with
 | true=>exact pK hh it l hne items
 | false=>exact Draws.list hh it l hne items
noncomputable def Itz(K:AA2)(t1 t2:Bool)(l1 l2:Addr):It :=
 ⟨λi H=>∃xs ys x y,Sq t1 K H l1 xs/\Sq t2 K H l2 ys/\xs[i]?=some x/\ys[i]?=some y,
  λi H v H'=>∃T x y,v=.ref T/\H T=none/\H'=upd H T (.tup [x,y])/\(∀xs,Sq t1 K H l1 xs->xs[i]?=some x)/\∀ys,Sq t2 K H l2 ys->ys[i]?=some y,
  λi H=>∃xs ys,Sq t1 K H l1 xs/\Sq t2 K H l2 ys/\(i=xs.length\/(i<xs.length/\i=ys.length))⟩
def ZSt(t1 t2:Bool)(z TI TO i1 i2 l1 l2:Addr)(i:Nat)(h:Heap):Prop:=IsZip h z TI TO .none/\IsPair h TI (.ref i1) (.ref i2)/\(∃a b,IsPair h TO a b)/\SIt t1 h i1 l1 i/\SIt t2 h i2 l2 i
theorem wT{P:Program}{w:World}{K:AA2}{elts:List Expr}{x1:Nat}{pos:Pos}{t1 t2:Bool}{z TI TO i1 i2 l1 l2:Addr}(nd:[z,TI,TO,i1,i2].Nodup) :
  Turn P w K (.Tuple elts x1 pos) (Itz K t1 t2 l1 l2) [z,TI,TO,i1,i2] z (ZSt t1 t2 z TI TO i1 i2 l1 l2) where
 mem:=AAE
 obj:=λi h ⟨hz,hTI,⟨a,b,hTO⟩,h1,h2⟩ c hc=>by
  simp only[AAG,ABF,or_false]at hc
  rcases hc with rfl | rfl | rfl | rfl | rfl
  ·exact⟨_,hz,λv q=>nomatch q⟩
  ·exact⟨_,hTI,λv q=>nomatch q⟩
  ·exact⟨_,hTO,λv q=>nomatch q⟩
  ·exact h1.obj
  ·exact h2.obj
 keep:=λi h h' ⟨hz,hTI,⟨a,b,hTO⟩,h1,h2⟩ k=>⟨k z (by simp) _ hz,k TI (by simp) _ hTI,⟨a,b,k TO (by simp) _ hTO⟩,h1.at λo e=>k i1 (by simp) o e,h2.at λo e=>k i2 (by simp) o e⟩
 item:=by
  rintro X hP hw hK hc i pins s σ H E I hf ⟨hz,hTI,⟨a,b,hTO⟩,h1,h2⟩ ⟨xs,ys,x,y,q1,q2,hx,hy⟩
  subst hP hw hK
  obtain⟨us,ru,iu,hzu⟩:=q1.is I
  obtain⟨vs,rv,iv,hzv⟩:=q2.is I
  have lu:=ru.length
  have lv:=rv.length
  have f:=hf
  have nd':=nd
  simp only[AAf,AAG,ABF,or_false,not_or]at nd'
  obtain⟨⟨zTI,zTO,zi1,zi2⟩,⟨TITO,TIi1,TIi2⟩,⟨TOi1,TOi2⟩,i12,_⟩:=nd'
  have a1:l1≠i1:=q1.ne I (f i1 (by simp))
  have a2:l2≠i2:=q2.ne I (f i2 (by simp))
  have Z:ZA z TI TO i1 i2 [i1,l1] [i2,l2]:=⟨nd,by simp[zi1,AAr (q1.ne I (f z (by simp)))],by simp[TOi1,AAr (q1.ne I (f TO (by simp)))],by simp[AAr i12,AAr (q1.ne I (f i2 (by simp)))],
   by simp[zi2,AAr (q2.ne I (f z (by simp)))],by simp[TOi2,AAr (q2.ne I (f TO (by simp)))],by simp[i12,AAr (q2.ne I (f i1 (by simp)))]⟩
  have ix:i<us.length:=by have:=(AA7.mp hx).1;lia
  have iy:i<vs.length:=by have:=(AA7.mp hy).1;lia
  have hT:s.TypeIs (.ref z) "zip":=⟨_,hz,rfl⟩
  unfold pyNext
  refine AA0 (ACi (AAk (name:=AA1 "__next__") hT F.slot_zip_next (AAm F.slot_zip_next hT F.entry_zip_next ?_ (F.args_zip_next_1 (.ref z)))))
  refine wK (k:=i) (fE (show X.A.in1.handled=none from I.ok.hd hc) t1 i1 l1 a1 us.toArray) (fE (show X.A.in1.handled=none from I.ok.hd hc) t2 i2 l2 a2 vs.toArray) Z hz hTI hTO ⟨h1,iu⟩ ⟨h2,iv⟩ (by simpa using ix) (by simpa using iy)
   λh' tk px py T hpx hpy hT' hz' hTO' s1 s2 hp hk=>AA5 ⟨_,rfl,?_⟩
  refine wpAny_letOwnedTupleGo_zip hz' λh2 hz2 hs2=>?_
  have zne:T≠z:=λq=>by subst q;exact absurd (AAF hz) (Nat.not_lt_of_le hT')
  obtain⟨px',epx,rpx⟩:=ru.get hx
  obtain⟨py',epy,rpy⟩:=rv.get hy
  have e1:px'=px:=by rw[List.getElem?_toArray,epx]at hpx;exact AAM hpx
  have e2:py'=py:=by rw[List.getElem?_toArray,epy]at hpy;exact AAM hpy
  subst e1 e2
  have hp2:IsPair h2 T px' py':=hs2.extBut _ _ zne hp
  refine⟨.ref T,upd H T (.tup [x,y]),?_,rfl,⟨T,x,y,rfl,I.hok.fresh hT',rfl,λzs hq=>by rw[hq.inj I q1];exact hx,λzs hq=>by rw[hq.inj I q2];exact hy⟩,
   ⟨hz2,hs2.extBut _ _ (AAr zTI) (hk _ _ (AAr zTI) TITO TIi1 TIi2 hTI),⟨_,_,hs2.extBut _ _ (AAr zTO) hTO'⟩,s1.1.at λo e=>hs2.extBut _ _ (AAr zi1) e,s2.1.at λo e=>hs2.extBut _ _ (AAr zi2) e⟩,λc hc=>?_⟩
  ·refine I.turnedT (t':=tk) hf (λc o hc e=>?_) hT' ⟨by simp[ABV],[px',py'],.cons rpx (.cons rpy .nil),⟨_,hp2,rfl,⟨0,rfl⟩,rfl⟩⟩
   simp only[AAG,ABF,or_false,not_or]at hc
   exact hs2.extBut _ _ hc.1 (hk _ _ hc.1 hc.2.2.1 hc.2.2.2.1 hc.2.2.2.2 e)
  ·obtain⟨oc,ec⟩:∃o,s.heap.get? c=some o:=by
    simp only[AAG,ABF,or_false]at hc
    rcases hc with rfl | rfl | rfl | rfl | rfl
    ·exact⟨_,hz⟩
    ·exact⟨_,hTI⟩
    ·exact⟨_,hTO⟩
    ·obtain⟨o,e,_⟩:=h1.obj;exact⟨o,e⟩
    ·obtain⟨o,e,_⟩:=SIt.obj ‹SIt t2 s.heap _ l2 i›;exact⟨o,e⟩
   rw[ak (AAK (AAP (AAF ec) hT'))]
   exact(hf c hc).1
 done:=by
  rintro X hP hw hK hc i pins s σ H E I hf ⟨hz,hTI,⟨a,b,hTO⟩,h1,h2⟩ ⟨xs,ys,q1,q2,hend⟩
  subst hP hw hK
  obtain⟨us,ru,iu,hzu⟩:=q1.is I
  obtain⟨vs,rv,iv,hzv⟩:=q2.is I
  have lu:=ru.length
  have lv:=rv.length
  have f:=hf
  have nd':=nd
  simp only[AAf,AAG,ABF,or_false,not_or]at nd'
  obtain⟨⟨zTI,zTO,zi1,zi2⟩,⟨TITO,TIi1,TIi2⟩,⟨TOi1,TOi2⟩,i12,_⟩:=nd'
  have a1:l1≠i1:=q1.ne I (f i1 (by simp))
  have a2:l2≠i2:=q2.ne I (f i2 (by simp))
  have Z:ZA z TI TO i1 i2 [i1,l1] [i2,l2]:=⟨nd,by simp[zi1,AAr (q1.ne I (f z (by simp)))],by simp[TOi1,AAr (q1.ne I (f TO (by simp)))],by simp[AAr i12,AAr (q1.ne I (f i2 (by simp)))],
   by simp[zi2,AAr (q2.ne I (f z (by simp)))],by simp[TOi2,AAr (q2.ne I (f TO (by simp)))],by simp[i12,AAr (q2.ne I (f i1 (by simp)))]⟩
  have hT:s.TypeIs (.ref z) "zip":=⟨_,hz,rfl⟩
  unfold pyNext
  refine AA0 (ACi (AAk (name:=AA1 "__next__") hT F.slot_zip_next (AAm F.slot_zip_next hT F.entry_zip_next ?_ (F.args_zip_next_1 (.ref z)))))
  refine wM (k:=i) (fE (show X.A.in1.handled=none from I.ok.hd hc) t1 i1 l1 a1 us.toArray) (fE (show X.A.in1.handled=none from I.ok.hd hc) t2 i2 l2 a2 vs.toArray) Z hz hTI hTO ⟨h1,iu⟩ ⟨h2,iv⟩ ?_ λh' tk e hk ⟨o,ho,ho'⟩=>?_
  ·rw[AAC,AAC,<-lu,<-lv]
   exact hend
  ·refine AA0 (ADd (T:="StopIteration") (b:=true) ⟨o,ho,ho'⟩ isSubtype_stop (AA5 ⟨rfl,?_⟩))
   refine I.turnedL (t':=tk) hf λc o hc e=>?_
   simp only[AAG,ABF,or_false,not_or]at hc
   exact hk _ _ hc.1 hc.2.2.1 hc.2.2.2.1 hc.2.2.2.2 e
 self:=λ_ _ _ _ _ st h=>wpAny_pyIter_zip st.1 h
end
noncomputable abbrev itO(t:Bool)(l:Addr):Obj:={ cls:=.type (if t=true then "tuple_iterator" else "list_iterator"),data:=.fields #[.ref l,.int 0 0] }
theorem qU(h:SIs t s.heap l xs)(q:Q (.ref s.heap.objs.size) { s with heap:=s.heap.push (itO t l) }):wpAny (model prog w) A (pyIter (.ref l)) Q E s:=by
 cases t with
 | true=>exact wpAny_pyIter_tuple (show s.heap.IsTuple l xs from h) q
 | false=>exact wpAny_pyIter_list (show s.heap.IsList l xs from h) q
noncomputable abbrev zp1(h:Heap)(t1:Bool)(l1:Addr):Heap:=h.push (itO t1 l1)
noncomputable abbrev zp2(h:Heap)(t1 t2:Bool)(l1 l2:Addr):Heap:=(zp1 h t1 l1).push (itO t2 l2)
noncomputable abbrev zp3(h:Heap)(t1 t2:Bool)(l1 l2:Addr):Heap:=(zp2 h t1 t2 l1 l2).push { cls:=.type "tuple",data:=.seq #[.ref h.objs.size,.ref (zp1 h t1 l1).objs.size] }
noncomputable abbrev zp4(h:Heap)(t1 t2:Bool)(l1 l2:Addr):Heap:=(zp3 h t1 t2 l1 l2).push { cls:=.type "tuple",data:=.seq #[.none,.none] }
noncomputable abbrev zp5(h:Heap)(t1 t2:Bool)(l1 l2:Addr):Heap:=(zp4 h t1 t2 l1 l2).push { cls:=.type "zip",data:=.fields #[.none,.bool false,.bool false,.ref (zp2 h t1 t2 l1 l2).objs.size,.ref (zp3 h t1 t2 l1 l2).objs.size] }
theorem SIs.push(x:SIs t h l xs)(o:Obj):SIs t (h.push o) l xs:=by
 cases t with
 | true=>obtain⟨u,e,r⟩:=(show h.IsTuple l xs from x);exact(show (h.push o).IsTuple l xs from⟨u,AA3 _ e,r⟩)
 | false=>obtain⟨u,e,r⟩:=(show h.IsList l xs from x);exact(show (h.push o).IsList l xs from⟨u,AA3 _ e,r⟩)
theorem wL(t1 t2:Bool)(l1 l2:Addr)(xs ys:Array Value):Meets (Builtin.«zip.__new__» ⟨[.type "zip",.ref l1,.ref l2],[]⟩) (λ_ R s=>SIs t1 s.heap l1 xs/\SIs t2 s.heap l2 ys/\R (.ok (.ret (.ref (zp4 s.heap t1 t2 l1 l2).objs.size))) { s with heap:=zp5 s.heap t1 t2 l1 l2 }) :=
 .of_wp λprog w A R s h=>by
  obtain⟨hp,g,d,tk,os⟩:=s;obtain⟨hl1,hl2,h⟩:=h
  have hsub:=sub_zip
  have r1:SIs t1 (Shared.heap ⟨hp,g,d,tk,os⟩) l1 xs:=hl1
  have r2:SIs t2 (Shared.heap ⟨hp.push (itO t1 l1),g,d,tk,os⟩) l2 ys:=hl2.push _
  wp_walk using qU r1,qU r2
  exact⟨_,rfl,h⟩
theorem wu(h1:SIs t1 s.heap l1 xs)(h2:SIs t2 s.heap l2 ys)
  (h:∀h',ZSt t1 t2 (s.heap.objs.size+4) (s.heap.objs.size+2) (s.heap.objs.size+3) s.heap.objs.size (s.heap.objs.size+1) l1 l2 0 h'->(∀c o,s.heap.get? c=some o->h'.get? c=some o)->Q (.ref (s.heap.objs.size+4)) { s with heap:=h' }) :
  wpAny (model prog w) A (call (.type "zip") [.ref l1,.ref l2]) Q E s:=by
 refine callType_new F.called_zip (by decide) (F.typeCall_zip_2 _ _) (F.newCall_zip_2 _ _) (λobj=>F.args_object_init_3 obj _ _) F.entry_zip_new (wL t1 t2 l1 l2 xs ys) ⟨h1,h2,?_⟩
 have z1:(zp1 s.heap t1 l1).objs.size=s.heap.objs.size+1:=ABL ..
 have z2:(zp2 s.heap t1 t2 l1 l2).objs.size=s.heap.objs.size+2:=by rw[ABL,z1]
 have z3:(zp3 s.heap t1 t2 l1 l2).objs.size=s.heap.objs.size+3:=by rw[ABL,z2]
 have z4:(zp4 s.heap t1 t2 l1 l2).objs.size=s.heap.objs.size+4:=by rw[ABL,z3]
 have up:∀{h:Heap}{c:Addr}{o:Obj} (u:Obj),h.get? c=some o->(h.push u).get? c=some o:=λu e=>AA3 _ e
 have g5:(zp5 s.heap t1 t2 l1 l2).get? (zp4 s.heap t1 t2 l1 l2).objs.size=some _:=AAD _ rfl
 have g4:(zp5 s.heap t1 t2 l1 l2).get? (zp3 s.heap t1 t2 l1 l2).objs.size=some _:=up _ (AAD _ rfl)
 have g3:(zp5 s.heap t1 t2 l1 l2).get? (zp2 s.heap t1 t2 l1 l2).objs.size=some _:=up _ (up _ (AAD _ rfl))
 have g2:(zp5 s.heap t1 t2 l1 l2).get? (zp1 s.heap t1 l1).objs.size=some _:=up _ (up _ (up _ (AAD _ rfl)))
 have g1:(zp5 s.heap t1 t2 l1 l2).get? s.heap.objs.size=some _:=up _ (up _ (up _ (up _ (AAD _ rfl))))
 have si:∀(t:Bool) (h:Heap) (a l:Addr),h.get? a=some (itO t l)->SIt t h a l 0:=λt h a l e=>by cases t<;>exact⟨_,e,rfl,rfl⟩
 show _/\_
 rw[z2,z3,z4]at g5
 rw[z1,z2]at g3
 rw[z3]at g4
 rw[z1]at g2
 rw[z4]
 exact⟨⟨_,g5,rfl⟩,h _ ⟨g5,g3,⟨_,_,g4⟩,si _ _ _ _ g1,si _ _ _ _ g2⟩ λc o q=>up _ (up _ (up _ (up _ (up _ q))))⟩
noncomputable def zipD(xs ys:List D):List D:=(xs.zip ys).map λp=>.tup [p.1,p.2]
def wF(M:Mem)(x:D)(xs:List D)(ok:Mem->Prop):Prop:=match x with
 | .tup ds=>xs=ds/\ok=λ_=>True
 | .ref n=>aq M n xs/\ok=λM=>aq M n xs
 | _=>False
def dZip(ta:DTA):DTI:=λS M R=>ta S M λds M1=>match ds with
 | [x,y]=>∃xs ys o1 o2,wF M1 x xs o1/\wF M1 y ys o2/\R ⟨zipD xs ys,λM=>o1 M/\o2 M⟩ M1
 | _=>False
theorem yD:bootBuiltins "zip" = some (.type "zip"):=by decide +kernel
theorem wF.sq{X:Cx}(sm:Sim X.K ρ M H)(h:wF M x xs ok)(r:Rep X.K ρ H x v)(e:aK v u) :
  ∃(t:Bool) (l:Addr),u=.ref l/\ok M/\∀ρ' M' H',Sim X.K ρ' M' H'->Grow X.K ρ H ρ' H'->ok M'->∃vs,Sq t X.K H' l vs/\Reps X.K ρ' H' xs vs:=by
 unfold wF at h
 split at h
 ·obtain⟨rfl,rfl⟩:=h
  obtain⟨a,vs,rfl,hq,r⟩:=Rep.inv_tup r
  cases e
  exact⟨true,a,rfl,trivial,λρ' M' H' sm' g _=>⟨vs,g.tup a vs hq,r.grow g⟩⟩
 ·obtain⟨h,rfl⟩:=h
  cases r with
  | @ref n a hn =>
   cases e
   exact⟨false,a,rfl,h,λρ' M' H' sm' g ok=>aq.seq sm' ok (av g.pre hn)⟩
 ·exact h.elim
theorem ItD.zip{ρ:List Addr}{H:Hp}{xs ys:List D}{o1 o2:Mem->Prop}{t1 t2:Bool}{l1 l2:Addr}{K:AA2}
  (h1:∀ρ' M' H',Sim K ρ' M' H'->Grow K ρ H ρ' H'->o1 M'->∃vs,Sq t1 K H' l1 vs/\Reps K ρ' H' xs vs) (h2:∀ρ' M' H',Sim K ρ' M' H'->Grow K ρ H ρ' H'->o2 M'->∃vs,Sq t2 K H' l2 vs/\Reps K ρ' H' ys vs) :
  ItD K ⟨zipD xs ys,λM=>o1 M/\o2 M⟩ ρ H (Itz K t1 t2 l1 l2) where
 go:=λi ρ' M' H' sm g ok hi=>by
  obtain⟨vs,q1,r1⟩:=h1 ρ' M' H' sm g ok.1
  obtain⟨ws,q2,r2⟩:=h2 ρ' M' H' sm g ok.2
  have hi':i<xs.length/\i<ys.length:=by simpa [zipD,Nat.lt_min]using hi
  have e1:=r1.length
  have e2:=r2.length
  exact⟨vs,ws,_,_,q1,q2,AA6 (by lia),AA6 (by lia)⟩
 yld:=λi ρ' M' H' x H2 sm g ok hi y=>by
  obtain⟨vs,q1,r1⟩:=h1 ρ' M' H' sm g ok.1
  obtain⟨ws,q2,r2⟩:=h2 ρ' M' H' sm g ok.2
  obtain⟨T,a,b,rfl,hT,rfl,ha,hb⟩:=y
  obtain⟨d,hd,rd⟩:=r1.getV (ha vs q1)
  obtain⟨e,he,re⟩:=r2.getV (hb ws q2)
  refine⟨.tup [d,e],ρ',?_,sm.laid hT,Grow.laid hT,.tup (SqT.of ay) (.cons (rd.grow (Grow.laid hT)) (.cons (re.grow (Grow.laid hT)) .nil))⟩
  show (zipD xs ys)[i]?=_
  have:(xs.zip ys)[i]?=some (d,e):=ACs.mpr ⟨hd,he⟩
  rw[zipD,AAN,this]
  rfl
 stop:=λρ' M' H' sm g ok=>by
  obtain⟨vs,q1,r1⟩:=h1 ρ' M' H' sm g ok.1
  obtain⟨ws,q2,r2⟩:=h2 ρ' M' H' sm g ok.2
  have e1:=r1.length
  have e2:=r2.length
  refine⟨vs,ws,q1,q2,?_⟩
  show (zipD xs ys).length=_\/_
  rw[zipD,AA4,List.length_zip]
  lia
theorem Ev(hm:X.mg "zip" = none)(ha:DA X [a,b] ta)(hg:Gl X "zip":=by rfl)(hs:starEach [a,b] X.env=[(false,eval a X.env),(false,eval b X.env)]:=by rfl)(hs2:starEach [b] X.env=[(false,eval b X.env)]:=by rfl) :
  DI X (.Tuple elts x1 q) (.Call (.Name "zip" p) [a,b] [] pos) (dZip ta):=by
 intro pins s σ H R I h
 obtain⟨S,M,ρ,Q,sm,sr,hq,k⟩:=h
 refine Call_ (je I hg hm yD (ACR (thn (ha pos pins s σ H _ I ⟨S,M,ρ,_,sm,sr,hq,λv H' w=>w⟩) ?_) (by rw[hs,hs2]) (by rw[hs2];rfl)))
 rintro us s1 ⟨vs,H1,I1,r1,ds,M1,ρ1,sm1,g1,rr,q1⟩
 try dsimp only at q1
 split at q1
 ·obtain⟨xs,ys,o1,o2,w1,w2,q2⟩:=q1
  first | have hzz:=Reps.inv_cons rr | have hzz:=ar.inv_cons rr
  clear rr
  obtain⟨_,_,rfl,d1,rr⟩:=hzz
  first | have hzz:=Reps.inv_cons rr | have hzz:=ar.inv_cons rr
  clear rr
  obtain⟨_,_,rfl,d2,rr⟩:=hzz
  cases rr
  first | have hzz:=Reps.inv_cons r1 | have hzz:=ar.inv_cons r1
  clear r1
  obtain⟨_,_,rfl,b1,r1⟩:=hzz
  first | have hzz:=Reps.inv_cons r1 | have hzz:=ar.inv_cons r1
  clear r1
  obtain⟨_,_,rfl,b2,r1⟩:=hzz
  cases r1
  obtain⟨t1,l1,rfl,k1,f1⟩:=w1.sq sm1 d1 b1
  obtain⟨t2,l2,rfl,k2,f2⟩:=w2.sq sm1 d2 b2
  obtain⟨as,qa,_⟩:=f1 ρ1 M1 H1 sm1 .refl k1
  obtain⟨bs,qb,_⟩:=f2 ρ1 M1 H1 sm1 .refl k2
  obtain⟨is,_,ia,_⟩:=qa.is I1
  obtain⟨js,_,ib,_⟩:=qb.is I1
  refine wu ia ib λh' st kp=>?_
  refine wpAny_pyIter_zip st.1 ?_
  have nd:[s1.heap.objs.size+4,s1.heap.objs.size+2,s1.heap.objs.size+3,s1.heap.objs.size,s1.heap.objs.size+1].Nodup:=by simp
  refine⟨s1.heap.objs.size+4,_,_,_,H1,rfl,I1.kept (t':=s1.toks) kp,wT nd,st,λc hc=>?_,k _ H1 ⟨_,M1,ρ1,sm1,g1,ItD.zip f1 f2,q2⟩⟩
  have hc':s1.heap.objs.size<=c:=by
   simp only[AAG,ABF,or_false]at hc
   rcases hc with rfl | rfl | rfl | rfl | rfl<;>first | exact ADc _ _ | exact AAA _
  exact I1.fpOk hc' (I1.hok.fresh hc')
 ·exact q1.elim
theorem mM{K:AA2}{ρ:List Addr}{H:Hp}:∀xs:List Str,Reps K ρ H (xs.map D.str) (xs.map V.str)
 | []=>.nil
 | x::xs=>.cons (.str x) (mM xs)
theorem oZ{D:Addr}{vs:List Value}{n:Nat}{Q:Value->Shared->Prop}(ho:s.heap.get? D=some (seqObj "list" vs.toArray n))(h2:vs.length<2)
  (h:∀h' c,(∀b o,b≠D->s.heap.get? b=some o->h'.get? b=some o)->h'.get? D=some (seqObj "list" vs.toArray c)->Q .none { s with heap:=h' }):wpAny (model prog w) A (call (.builtin "list.sort") [.ref D]) Q E s:=by
 have few:vs.length<=sizeLine:=by rw[ABV];lia
 refine AAm slot_list_sort (⟨_,ho,rfl⟩) entry_list_sort ?_ (args_list_sort (.ref D))
 rw[list_sort_plain]
 refine AA0 (ADb ho rfl (AA0 (ACh ho rfl ?_ (by rw[AAC];exact few) (AAX _))))
 obtain⟨e1,ho1⟩:∃e1,(s.heap.update D (AB3 λ_=>(#[]:Array Value))).get? D=some (seqObj "list" #[] e1):=⟨_,ACF ho λ_=>#[]⟩
 refine AA0 (seqEpoch_at ho1 rfl (AA0 (ADX (AA0 (ACg (AAj ?_) (AAX _))) few)))
 dsimp only
 have hv2:vs.toArray.size<2:=by rw[AAC];exact h2
 rw[if_pos hv2,if_pos hv2]
 refine AA0 (AA5 ?_)
 rw[StateT.run_pure]
 refine AA0 (AA5 ?_)
 dsimp only
 generalize hg3:((s.heap.update D (AB3 λ_=>(#[]:Array Value))).push (seqObj "tuple" vs.toArray 0)).push (seqObj "list" #[] 0)=g3
 have ho3:g3.get? D=some (seqObj "list" #[] e1):=by rw[<-hg3];exact AA3 _ (AA3 _ ho1)
 have k3:∀b o,b≠D->s.heap.get? b=some o->g3.get? b=some o:=λb o hb q=>by
  rw[<-hg3]
  refine AA3 _ (AA3 _ ?_)
  rw[ABj _ _ _ _ hb]
  exact q
 refine AA0 (seqEpoch_at ho3 rfl ?_)
 have eo:∀us:List Value,us.length<2->(us.toArray.zip us.toArray).map (·.2)=us.toArray:=λus hu=>by
  match us,hu with
  | [],_=>simp
  | [v],_=>simp
  | _::_::_,hu=>simp at hu;lia
 have eout:(arrOf (SortSt.mk' general' (vs.toArray.zip vs.toArray) #[] 7 none)).map (·.2)=vs.toArray:=eo vs h2
 rw[eout]
 refine AA0 (ACh ho3 rfl ?_ (AAX _) (by rw[AAC];exact Nat.le_succ_of_le few))
 simp only[show failedOf (SortSt.mk' general' (vs.toArray.zip vs.toArray) #[] 7 none)=none from rfl,bne_self_eq_false,AAZ,if_false]
 obtain⟨c2,hc2⟩:∃c2,(g3.update D (AB3 λ_=>vs.toArray)).get? D=some (seqObj "list" vs.toArray c2):=⟨_,ACF ho3 λ_=>vs.toArray⟩
 refine AA5 ⟨_,rfl,h _ c2 (λb o hb q=>?_) hc2⟩
 rw[ABj _ _ _ _ hb]
 exact k3 b o hb q
theorem oH{k:Nat}{D:Addr}{xs:List L2.D}{ws:List V}{its:List Value}{R:VK}{h1:Heap}{tk n:Nat}{m:Str->Option Value}{A:Around}{E:Value->Shared->Prop}(hr:Room k X.A)(hA:A.units<=X.A.units+4)(I:Inv X pins σ H s)(sm:Sim X.K ρ M H)(so:SrtG M xs)(r:Reps X.K ρ H xs ws)(rr:ar ws its)
  (hn:s.heap.Ns X.env.locals m) (hn1:h1.Ns X.env.locals m) (kp1:∀b u,b≠X.env.locals->s.heap.get? b=some u->h1.get? b=some u) (hD:s.heap.get? D=none) (hne:D≠X.env.locals) (ho:h1.get? D=some (seqObj "list" its.toArray n))
  (kk:∀v H',((∀Q:DK,(∀ys,ys.Perm xs->lK M ys->Q (.ref M.length) (M++[.lst ys]))->VQ X.K ρ H Q v H'))->R v H') :
  wpAny (model X.prog X.w) A (call (.builtin "list.sort") [.ref D]) (λ_ s'=>EP X pins σ R (.ref D) s') E { s with heap:=h1,toks:=tk }:=by
 have lw:=r.length
 have li:=rr.length
 have l64:=so.len
 have hH:H D=none:=HOk.none I.hok hD
 have neD:∀b u,s.heap.get? b=some u->b≠D:=λb u e q=>by subst q;rw[hD]at e;cases e
 by_cases h2:its.length<2
 ·refine oZ ho h2 λh' c kp' ho'=>?_
  have hn':h'.Ns X.env.locals m:=by
   obtain⟨o,es,ep,e,aZ⟩:=hn1
   exact⟨o,es,ep,kp' _ _ (AAr hne) e,aZ⟩
  refine⟨.ref D,_,I.laidF (t':=tk) (o:=.lst ws) (λb u hb e=>kp' b u (neD b u e) (kp1 b u hb e)) hn hn' hD hH ⟨by rw[ABV];lia,its,c,rr,ho'⟩,rfl,kk _ _ λQ hQ=>VQ.laidL sm .refl r hH (hQ xs (List.Perm.refl _) ?_)⟩
  unfold lK
  match xs,(show xs.length<2 by lia) with
  | [],_=>exact ADP
  | [x],_=>exact ABu _ _
  | _::_::_,hx=>simp at hx;lia
 ·have h2':2<=its.length:=by lia
  have mem:∀a o,(a,o)∈Att.ledger h1 X.env.locals D↔a≠X.env.locals/\a≠D/\h1.get? a=some o:=λa o=>Att.mem_ledger
  have U:UpdF D (seqObj "list" its.toArray n) ([]++(D,seqObj "list" its.toArray n)::Att.ledger h1 X.env.locals D) λo'=>(D,o')::Att.ledger h1 X.env.locals D:=UpdF.head λp hp=>((mem p.1 p.2).mp hp).2.1
  refine kat_lsort (s:={ s with heap:=h1,toks:=tk }) (vs:=its) (Att.fr_all hn1) (Att.news_ledger hne ho) U rfl h2' (by lia) λe1 h' F' N'=>?_
  have kp:∀b u,b≠X.env.locals->s.heap.get? b=some u->h'.get? b=some u:=λb u hb e=>(N' (b,u) (AA9 _ ((mem b u).mpr ⟨hb,neD b u e,kp1 b u hb e⟩))).1
  have I':Inv X pins σ H { s with heap:=h',toks:=tk }:=I.keptF (t':=tk) kp hn F'.ns
  have hu:A.in1.units+eqN<cLine:=by
   have:=hr.un
   have:eqN=30:=rfl
   show A.units+1+eqN<cLine
   lia
  refine ABC (iO I' sm so r rr h2' hu) (λκ s' hk=>?_) λ_ _ x=>x
  obtain⟨rfl,hask⟩:=hk
  refine Srt.wp_run (n:=its.length) (c:=λi j=>if i<xs.length then(if j<xs.length then ltD M eqN (xs.getD i default) (xs.getD j default)else true)else false) (λi j C hi hj hc=>?_) _ (Srt.sort_bd (by lia)).1 ?_
  ·refine hask i j C hi hj ?_
   rw[if_pos (by lia),if_pos (by lia)]at hc
   exact hc
  ·have hent:=Srt.All.run (c:=λi j=>if i<xs.length then(if j<xs.length then ltD M eqN (xs.getD i default) (xs.getD j default)else true)else false) _ (Srt.sort_bd (n:=its.length) (by lia)).2
   obtain⟨o1,o2,o3⟩:=zX so
   have hsl:=Srt.sort_list xs (by lia) o1 o2 o3
   try dsimp only at hsl
   rw[show xs.length=its.length by lia]at hsl hent ⊢
   generalize Srt.run _ (ADW its.length)=p at hent hsl ⊢
   have hi:∀i∈p.toList,i<xs.length:=λi h=>by
    have:=hent.mem_iff.mp h
    rw[ABc]at this
    lia
   refine KasFin.intro F' N' (UpdF.head λq hq=>((mem q.1 q.2).mp hq).2.1) λh2 c F2 N2=>?_
   have r':=r.perm p.toList hi
   have rr':=rr.perm p.toList (λi h=>by have:=hi i h;lia)
   refine⟨.ref D,_,I.laidF (t':=tk) (o:=.lst (p.toList.map λi=>ws.getD i .non)) (λb u hb e=>(N2 (b,u) (AA9 _ ((mem b u).mpr ⟨hb,neD b u e,kp1 b u hb e⟩))).1) hn F2.ns hD hH ⟨?_,_,c,rr',(N2 _ AAE).1⟩,rfl,
    kk _ _ λQ hQ=>VQ.laidL sm .refl r' hH (hQ _ hsl.1 hsl.2)⟩
   rw[AA4]
   have:=hsl.1.length_eq
   rw[AA4]at this
   rw[ABV]
   lia
section
variable{K:AA2}{ρ:List Addr}{H:Hp}{M:Mem}
theorem Sim.writeD(S:Sim K ρ M H)(e1:ρ[n]?=some a)(hM:M[n]?=some (.dct kvs))(hH:H a=some (.dK kv))(r:Reps K ρ H (kvs'.map (·.2)) vs') :
  Sim K ρ (M.set n (.dct kvs')) (upd H a (.dK (jx (kvs'.map (·.1)) vs')))/\Grow K ρ H ρ (upd H a (.dK (jx (kvs'.map (·.1)) vs'))):=
 S.writeG e1 (λ⟨_,z⟩=>by rw[hM]at z;cases z) hH rfl λg=>⟨vs',ay,r.grow g⟩
noncomputable def eU(kvs:List (Str×D))(k:Str):Option D:=(kvs.find? λp=>decide (p.1=k)).map (·.2)
noncomputable def sd(kvs:List (Str×D))(k:Str)(d:D):List (Str×D):=if (kvs.any λp=>decide (p.1=k))=true then kvs.map (λp=>if p.1=k then(p.1,d)else p)else kvs++[(k,d)]
theorem AM(a b:Str):decide ((ABn a:Key)=ABn b)=decide (a=b):=yS a b
theorem pZ:∀{kvs:List (Str×D)}{vs:List V},Reps K ρ H (kvs.map (·.2)) vs->eU kvs k=some d->∃v,rO (jx (kvs.map (·.1)) vs) (ABn k)=some v/\Rep K ρ H d v
 | [],_,_,e=>by simp[eU]at e
 | (k',d')::kvs,_,.cons h t,e=>by
  by_cases q:k'=k
  ·subst q
   have:d'=d:=by simpa [eU]using e
   subst this
   exact⟨_,by simp[jx,rO],h⟩
  ·have e':eU kvs k=some d:=by simpa [eU,ABS,q]using e
   obtain⟨v,h1,h2⟩:=pZ t e'
   refine⟨v,?_,h2⟩
   have:¬(ABn k':Key)=ABn k:=λz=>q (Sum.inr.inj z)
   simpa [jx,rO,ABS,this]using h1
theorem rF:∀{kvs:List (Str×D)}{vs:List V},Reps K ρ H (kvs.map (·.2)) vs->((jx (kvs.map (·.1)) vs).any λkv=>decide (kv.1=ABn k))=kvs.any λp=>decide (p.1=k)
 | [],_,_=>rfl
 | (k',d')::kvs,_,.cons h t=>by
  have ih:=rF (k:=k) t
  show (decide ((ABn k':Key)=ABn k)||(jx (kvs.map (·.1)) _).any _)=(decide (k'=k)||kvs.any _)
  rw[ih,AM]
theorem qP(hd:Rep K ρ H d v):∀{kvs:List (Str×D)}{vs:List V},Reps K ρ H (kvs.map (·.2)) vs->∃vs',(jx (kvs.map (·.1)) vs).map (λkv=>if kv.1=ABn k then(kv.1,v)else kv)=jx ((kvs.map λp=>if p.1=k then(p.1,d)else p).map (·.1)) vs'/\Reps K ρ H ((kvs.map λp=>if p.1=k then(p.1,d)else p).map (·.2)) vs'
 | [],_,.nil=>⟨[],rfl,.nil⟩
 | (k',d')::kvs,_,.cons (v:=v') h t=>by
  obtain⟨vs',e,r⟩:=qP (k:=k) hd t
  by_cases q:k'=k
  ·subst q
   refine⟨v::vs',?_,?_⟩
   ·simp only[AAQ,if_true,jx,ABP]at e ⊢
    rw[e]
   ·simp only[AAQ,if_true]
    exact .cons hd r
  ·have q':¬(ABn k':Key)=ABn k:=λz=>q (Sum.inr.inj z)
   refine⟨v'::vs',?_,?_⟩
   ·simp only[AAQ,if_neg q,if_neg q',jx,ABP]at e ⊢
    rw[e]
   ·simp only[AAQ,if_neg q]
    exact .cons h r
theorem mJ:∀{kvs:List (Str×D)}{vs:List V},Reps K ρ H (kvs.map (·.2)) vs->jx (kvs.map (·.1)) vs++[(ABn k,v)]=jx (kvs.map (·.1)++[k]) (vs++[v])
 | [],_,.nil=>rfl
 | (k',d')::kvs,_,.cons h t=>by
  have:=mJ (k:=k) (v:=v) t
  simp only[AAQ,jx,ABP,List.cons_append]at this ⊢
  rw[this]
theorem zw(hd:Rep K ρ H d v)(r:Reps K ρ H (kvs.map (·.2)) vs):∃vs',sR (jx (kvs.map (·.1)) vs) (ABn k) v=jx ((sd kvs k d).map (·.1)) vs'/\Reps K ρ H ((sd kvs k d).map (·.2)) vs':=by
 unfold sR sd
 rw[rF r]
 by_cases q:(kvs.any λp=>decide (p.1=k))=true
 ·rw[if_pos q,if_pos q]
  exact qP hd r
 ·rw[if_neg q,if_neg q]
  refine⟨vs++[v],?_,?_⟩
  ·rw[mJ r,AAp]
   rfl
  ·rw[AAp]
   exact r.append (.cons hd .nil)
end
section
variable{X:Cx}{o i value:Expr}{td ty tv:DTE}{pos pos':Pos}
def wk:DTE:=λ_ M Q=>Q (.ref M.length) (M++[.dct []])
theorem EG:DE X (.Dict [] [] pos) wk:=by
 refine PE.imp xt ?_
 rintro σ H R ⟨S,M,ρ,Q,s,sr,q,k⟩
 refine λp hp=>?_
 have q':Q (.ref M.length) (M++[.dct []]):=q
 exact k _ _ ⟨.ref M.length,M++[.dct []],ρ++[p],s.laidM (mo:=.dct []) hp ⟨[],ay,.nil⟩,Grow.laidR hp,.ref s.last,q'⟩
def wn(td ty:DTE):DTE:=λS M Q=>td S M λx M1=>ty S M1 λy M2=>match x,y with
 | .ref n,.str k=>∃kvs d,M2[n]?=some (.dct kvs)/\eU kvs k=some d/\Q d M2
 | _,_=>False
theorem EH(hu:X.A.units+1<cLine)(ho:DE X o td)(hi:DE X i ty)(hs:BK i):DE X (.Subscript o i pos) (wn td ty):=by
 refine PE.imp (zM hu ho hi hs) ?_
 rintro σ H R ⟨S,M,ρ,Q,s,sr,q,k⟩
 refine⟨S,M,ρ,_,s,sr,q,?_⟩
 rintro v H1 ⟨d,M1,ρ1,s1,g1,r1,q1⟩
 refine⟨S,M1,ρ1,_,s1,sr.grow g1,q1,?_⟩
 rintro u H2 ⟨e,M2,ρ2,s2,g2,r2,q2⟩
 try dsimp only at q2
 split at q2
 ·obtain⟨kvs,d,hM,hv,q3⟩:=q2
  obtain⟨_,rfl,hn⟩:=Rep.inv_ref r1
  cases r2
  obtain⟨vs,hH,rr⟩:=s2.obj _ _ _ (av g2.pre hn) hM
  obtain⟨w,e1,rw'⟩:=pZ rr hv
  exact⟨_,w,rfl,.inl ⟨_,ABn _,.inl hH,rfl,e1.symm⟩,k _ _ ⟨d,M2,ρ2,s2,g1.trans g2,rw',q3⟩⟩
 ·exact q2.elim
def wm(td ty tv:DTE):DTS:=λE S M=>tv S M λv M1=>td S M1 λx M2=>ty S M2 λy M3=>match x,y with
 | .ref n,.str k=>∃kvs,M3[n]?=some (.dct kvs)/\kvs.length<sizeLine/\E.nx S (M3.set n (.dct (sd kvs k v)))
 | _,_=>False
theorem Bj(hu:X.A.units+1<cLine)(ho:DE X o td)(hi:DE X i ty)(hv:DE X value tv)(hs:swapsWith value (some (.Subscript o i pos')) pos.line X.env=pure false):DS X (.Assign [.Subscript o i pos'] value pos) (wm td ty tv):=by
 refine PS.imp (zG hu ho hi hv hs) ?_
 rintro E σ H ⟨S,M,ρ,F,s,sr,q,k⟩
 refine⟨S,M,ρ,_,s,sr,q,?_⟩
 rintro v H1 ⟨d,M1,ρ1,s1,g1,r1,q1⟩
 refine⟨S,M1,ρ1,_,s1,sr.grow g1,q1,?_⟩
 rintro x H2 ⟨e,M2,ρ2,s2,g2,r2,q2⟩
 refine⟨S,M2,ρ2,_,s2,(sr.grow g1).grow g2,q2,?_⟩
 rintro y H3 ⟨f,M3,ρ3,s3,g3,r3,q3⟩
 try dsimp only at q3
 split at q3
 ·obtain⟨kvs,hM,hl,q4⟩:=q3
  obtain⟨_,rfl,hn⟩:=Rep.inv_ref r2
  cases r3
  obtain⟨vs,hH,rr⟩:=s3.obj _ _ _ (av g3.pre hn) hM
  obtain⟨vs',e1,rr'⟩:=zw ((r1.grow g2).grow g3) rr
  obtain⟨w1,w2⟩:=s3.writeD (av g3.pre hn) hM hH rr'
  refine⟨_,_,rfl,.inl ⟨_,ABn _,hH,rfl,?_,by rw[e1]⟩,k.nx σ _ (SQ.trans ((g1.trans g2).trans g3) ⟨S,_,ρ3,w1,w2,(((sr.grow g1).grow g2).grow g3).grow w2,q4⟩)⟩
  have:=rr.length
  rw[AA4]at this
  rw[jx,AA4,List.length_zip,AA4]
  lia
 ·exact q3.elim
def bn:DRA:=λds M Q=>match ds with
 | [.ref n]=>∃xs,(aq M n xs\/∃kvs,M[n]?=some (.dct kvs)/\xs=kvs.map λp=>.str p.1)/\SrtOk M xs/\∀ys,ys.Perm xs->lK M ys->Q (.ref M.length) (M++[.lst ys])
 | _=>False
theorem vC:∀{kvs:List (Str×D)}{vs:List V}{us:List (Key×Value)},kvs.length=vs.length->KV (jx (kvs.map (·.1)) vs) us->us.map (·.1)=kvs.map (λp=>(ABn p.1:Key))
 | [],_,_,_,h=>by cases h;rfl
 | _::_,[],_,e,_=>by simp at e
 | p::kvs,v::vs,_,e,h=>by
  have h':KV ((ABn p.1,v)::jx (kvs.map (·.1)) vs) _:=h
  cases h' with
  | cons a t =>
   rw[AAQ,AAQ,<-a.1,vC (by simpa using e) t]
theorem lR:∀(ks:List Str) (vs:List Value),vs.length=ks.length->(∀(j:Nat) (v:Value),vs[j]?=some v->∃k,ks[j]?=some k/\pv (ABn k) v=true)->ar (ks.map V.str) vs
 | [],[],_,_=>.nil
 | [],_::_,e,_=>by simp at e
 | _::_,[],e,_=>by simp at e
 | k::ks,v::vs,e,h=>by
  obtain⟨k',e1,e2⟩:=h 0 v rfl
  have:k=k':=by simpa using e1
  subst this
  rcases aL e2 with⟨i,t,z,_⟩|⟨x,t,z,rfl⟩
  ·cases z
  ·cases z
   exact .cons ⟨t,rfl⟩ (lR ks vs (by simpa using e) λj u hj=>by simpa using h (j+1) u (by simpa using hj))
theorem sL{k:Nat}(hr:Room k X.A)(hc:X.calm=true):fZ X (.builtin "sorted") bn:=by
 rintro pins s σ H vs us R I rv ⟨ds,M,ρ,Q,sm,rs,q,kk⟩
 unfold bn at q
 split at q
 ·obtain⟨xs,hL | ⟨kvs,hM,rfl⟩,so,q⟩:=q
  ·exact wt hr pins s σ H vs us R I rv ⟨_,M,ρ,Q,sm,rs,⟨xs,hL,so.g,q⟩,kk⟩
  ·first | have hzz:=Reps.inv_cons rs | have hzz:=ar.inv_cons rs
   clear rs
   obtain⟨_,_,rfl,r1,rs⟩:=hzz
   cases rs
   obtain⟨u,rfl,e1⟩:=ar.one rv
   obtain⟨a,rfl,e⟩:=Rep.inv_ref r1
   cases e1
   obtain⟨ws,hH,r⟩:=sm.obj _ _ _ e hM
   obtain⟨z1,z2,pvs,rel,dd⟩:=(show br X.prog X.w H s.heap a (.dK _)from I.hok a _ hH)
   obtain⟨ep,hat⟩:=dd.dictAt
   obtain⟨m,hn,hm⟩:=I.loc
   have hne:a≠X.env.locals:=ac hH I.free
   obtain⟨oa,_,hoa,_⟩:=id hat
   have lk:kvs.length=ws.length:=by have:=r.length;rwa [AA4]at this
   have kk':=vC lk rel
   have lp:pvs.length=kvs.length:=by have:=congrArg ACS kk';simpa using this
   have mem:∀b o,(b,o)∈[]++(a,oa)::Att.ledger s.heap X.env.locals a↔b≠X.env.locals/\s.heap.get? b=some o:=λb o=>by
    rw[AAo,AAG,Att.mem_ledger]
    constructor
    ·rintro(h | ⟨h1,_,h3⟩)
     ·cases h;exact⟨hne,hoa⟩
     ·exact⟨h1,h3⟩
    ·rintro⟨h1,h2⟩
     by_cases hal:b=a
     ·subst hal
      rw[hoa]at h2;cases h2
      exact .inl rfl
     ·exact .inr ⟨h1,hal,h2⟩
   refine kdu_sorted (kdl_dict (knd:=bx X.prog X.w) (kvs:=pvs) (ep:=ep) z2) (I.ok.hd hc) (Att.fr_all hn) (Att.news_ledger hne hoa) hat (by rw[lp,ABV];have:=so.len;rw[AA4]at this;lia) λD h' tk vs F' N' lt hl hP=>?_
   have kp:∀b u,b≠X.env.locals->s.heap.get? b=some u->h'.get? b=some u:=λb u hb e=>(N' (b,u) (AA9 _ ((mem b u).mpr ⟨hb,e⟩))).1
   have hDL:D≠X.env.locals:=(N' _ AAE).2.1
   have hD:s.heap.get? D=none:=by
    cases q:s.heap.get? D with
    | none=>rfl
    | some o=>exact absurd (lt (D,o) ((mem D o).mpr ⟨hDL,q⟩)) (AAW _)
   have rvs:ar ((kvs.map (·.1)).map V.str) vs:=by
    refine lR _ _ (by rw[AA4];lia) λj v hj=>?_
    obtain⟨key,x,e1,e2⟩:=hP j v hj
    have e3:(pvs.map (·.1))[j]?=some key:=by rw[AAN,e1];rfl
    rw[kk',AAN]at e3
    cases e4:kvs[j]? with
    | none=>rw[e4]at e3;cases e3
    | some p =>
     rw[e4]at e3
     have:key=ABn p.1:=(AAM e3).symm
     subst this
     exact⟨p.1,by rw[AAN,e4];rfl,e2⟩
   have rps:Reps X.K ρ H (kvs.map λp=>L2.D.str p.1) ((kvs.map (·.1)).map V.str):=by
    have:=mM (K:=X.K) (ρ:=ρ) (H:=H) (kvs.map (·.1))
    rw[AAS]at this
    exact this
   exact oH (n:=0) hr (by show X.A.units+1<=X.A.units+4;lia) I sm so.g rps rvs hn F'.ns kp hD hDL (N' _ AAE).1 λv H' x=>kk v H' (x Q q)
 ·exact q.elim
end
structure HGs(X:Cx)(es:List Expr)(t:BG):Prop where
 ok:DGs X es t
theorem Az:HGs X [] dJ:=⟨Bp⟩
theorem xV(h1:HG X e g)(h2:HGs X es u)(hs:(assignEach (e::es) X.env).map (·.2)=assign e X.env::(assignEach es X.env).map (·.2):=by kernel_rfl):HGs X (e::es) (aE g u):=⟨yr h1.ok h2.ok hs⟩
theorem Ds(h:HGs X es u)(hc:X.calm=true:=by kernel_rfl)(hn:(assignEach es X.env).length=n:=by kernel_rfl)(hst:(assignEach es X.env).findIdx? (·.1)=none:=by kernel_rfl):HG X (.Tuple es j pos) (dI n u):=⟨Ey h.ok hc hn hst⟩
theorem Dt(ho:HE X o to)(hi:HE X i ti)
  (ha:∀v,assign (.Subscript o i pos) X.env v=(do
   let ov <-holding [v] (eval o X.env)
   let iv <-holding [v,ov] (eval i X.env)
   standAt pos
   holding [v,ov,iv] (setItem ov iv v)
   release [v,ov,iv] []):=by intro _;kernel_rfl):HG X (.Subscript o i pos) (yt to ti):=⟨Ez ho.ok hi.ok ha⟩
theorem yR(he:HE X e te)(hg:HG X tg g)(hs:swapsWithSole [tg] e pos.line X.env=pure false:=by kernel_rfl)(hw:swappedStores [tg] e X.env=pure none:=by kernel_rfl)
  (h1:(assignEach [tg] X.env).map (·.2)=[assign tg X.env]:=by kernel_rfl):HS X (.Assign [tg] e pos) (wJ te g):=⟨Et he.ok hg.ok hs hw h1⟩
theorem Dq(hm:X.mg "zip" = none)(ha:HA X [a,b] t)(hg:X.env.kindOf "zip" = some .globalImplicit:=by kernel_rfl)(hs:starEach [a,b] X.env=[(false,eval a X.env),(false,eval b X.env)]:=by kernel_rfl)(hs2:starEach [b] X.env=[(false,eval b X.env)]:=by kernel_rfl) :
  HI X (.Tuple es x1 q) (.Call (.Name "zip" p) [a,b] [] pos) (dZip t):=⟨Ev hm ha.ok hg hs hs2⟩
theorem AO:HOp X (binaryOp .Add) aG:=⟨Ag⟩
theorem DZ(hr:Room k X.A):HOp X (compareOp .Lt) Cl:=⟨Db hr⟩
theorem AV:HC X (.type "list") rZ:=⟨Bz⟩
theorem yf:HC X (.type "tuple") bD:=⟨yA⟩
theorem vS(hr:Room k X.A)(hc:X.calm=true:=by kernel_rfl):HC X (.builtin "sorted") bn:=⟨sL hr hc⟩
theorem DH:HE X (.Dict [] [] pos) wk:=⟨EG⟩
theorem qI{X:Cx}{k:Nat}(hr:Room k X.A):X.A.units+1<cLine:=by have:=hr.un;lia
theorem DJ(hr:Room k X.A)(ho:HE X o to)(hi:HE X i ti)(hs:BK i:=by intro _ _;kernel_rfl):HE X (.Subscript o i pos) (wn to ti):=⟨EH (qI hr) ho.ok hi.ok hs⟩
theorem vA(hr:Room k X.A)(ho:HE X o to)(hi:HE X i ti)(hv:HE X e te)(hs:swapsWith e (some (.Subscript o i pos')) pos.line X.env=pure false:=by kernel_rfl):HS X (.Assign [.Subscript o i pos'] e pos) (wm to ti te):=⟨Bj (qI hr) ho.ok hi.ok hv.ok hs⟩
theorem Cal.never{P:Program}{w:World}{K:AA2}{mg:Str->Option Value}{base:Heap}{k:Nat}{x:Str}{st:Stmt}{ps:List Str}{Pr:DSp}(F:eu K mg x st ps)(h:∀ds M R,¬Pr ds M R):Cal P w K mg base k x ps Pr:=by
 obtain⟨f,fd,F1,hm,hb⟩:=F
 refine⟨f,fd,⟨λvs H Q E q=>?_,λA outer s H args us vs Q E _ _ _ _ q=>?_⟩,hm,F1.kp,hb⟩
 ·obtain⟨ds,M,ρ,R,_,_,q,_⟩:=q
  exact(h ds M R q).elim
 ·obtain⟨ds,M,ρ,R,_,_,q,_⟩:=q
  exact(h ds M R q).elim
def Cd(nt:Nat)(js:List Nat)(wi:TI)(g:TG)(tt:TT)(te:TE)(gN:TG):TS:=λD σ H=>tLC nt js wi g tt te σ H λv H1=>gN v σ H1 D.nx
theorem xn(B:BlkSc X N' nt js scope)(hc:X.calm=true)(hi:PI X tg iter wi)
  (hg:∀cl s0 H0 ex,PG (blk X N' scope cl s0 H0 ex) tg g) (ht:∀cl s0 H0 ex,PTs (blk X N' scope cl s0 H0 ex) ifs tt) (he:∀cl s0 H0 ex,PE (blk X N' scope cl s0 H0 ex) elt te) (hn:PG X (.Name x pos') gN)
  (hs:∀x,foldedSetIterable iter X.env x=pure x) (hsw:swapsWith (.ListComp elt [⟨tg,iter,ifs,0⟩] scope pos) (some (.Name x pos')) pos2.line X.env=pure true) :
  PS X (.Assign [.Name x pos'] (.ListComp elt [⟨tg,iter,ifs,0⟩] scope pos) pos2) (Cd nt js wi g tt te gN):=by
 intro pins s σ H Dn I h
 rw[exec_Assign_Name_used _ _ _ _ hsw]
 refine AA0 (wpAny_standAt ?_)
 obtain⟨cl,ecl,hcl1,hcl2⟩:=gz (scope:=scope) (env:=X.env) λp hp hf=>I.ok.has p.1 (B.free p hp hf)
 refine AA0 (show wpAny (model X.prog X.w) X.A (comprehension (.ListComp elt [⟨tg,iter,ifs,0⟩] scope pos) scope X.env _ (newList []) false (eval iter X.env) (some (assign (.Name x pos') X.env)) >>= λ_=>pure ()) _ _ _ from AA0 ?_)
 refine wpAny_comprehension_free (use:=some (assign (.Name x pos') X.env)) (Q:=λ_ s''=>wpAny (model X.prog X.w) X.A (pure ()) (λ_ s3=>wpAny (model X.prog X.w) X.A (pure Flow.next) (SP X pins Dn) X.xe s3) X.xe s'') rfl hs ecl B.kind B.loc ?_
 refine thn (hi pins s σ H _ I h) λv s1 h1=>thn h1 λitv s2 h2=>?_
 obtain⟨it,fp,tn,J,H2,e,I2,T,st2,f2,W,⟨m0,w0⟩,turn⟩:=h2
 subst e
 refine AAh (wpAny_newFunctionEnv B.nocell (by intro y hy;simp at hy) (λh1 hns1 hsb1=>?_) B.kind)
 have hfs:∀b∈fp,b<s2.heap.objs.size:=λb hb=>by
  obtain⟨o,e,_⟩:=T.obj _ _ st2 b hb
  exact AAF e
 have hC:(s2.heap.push (bU [] 0)).objs.size=s2.heap.objs.size+1:=ABL ..
 have old:∀b o,(s2.heap.push (bU [] 0)).get? b=some o->h1.get? b=some o:=λb o e=>(hsb1.2 b (AAK (AAF e))).trans (AA3 _ e)
 have I3:=I2.blkStart (tk:=s2.toks+([]:List (Str×Value)).length) B hcl1 hcl2 f2 hfs old hns1
 have st3:tn 0 h1:=T.keep _ _ _ st2 λb _ o e=>old b o (AA3 _ e)
 have hDf:s2.heap.objs.size∉fp:=λz=>AAW _ (hfs _ z)
 have hDs:s2.heap.objs.size∉frs X.stack:=λz=>by
  rcases AAG.mp (I2.stkSub _ z)with q | q
  ·exact absurd I2.lt (by rw[<-q];exact AAW _)
  ·exact I2.nofs (AAA _) q
 have hDC:s2.heap.objs.size≠(s2.heap.push (bU [] 0)).objs.size:=by rw[hC];exact AAK (AC2 _)
 have ltc:∀z c,cl.lookup z=some c->c<s2.heap.objs.size:=λz c e=>by
  obtain⟨v,q⟩:=I2.cell z c (hcl1 z c e)
  exact q.lt
 have hstat:∀b∈fp,b≠(s2.heap.push (bU [] 0)).objs.size/\b∉frs X.stack/\∀x c,cl.lookup x=some c->c≠b:=λb hb=>by
  refine⟨by rw[hC];exact AAK (ACD (hfs b hb)),λz=>?_,λx c e=>(f2 b hb).2.2.2.2.1 x c (hcl1 x c e)⟩
  rcases AAG.mp (I2.stkSub b z)with q | q
  ·exact(f2 b hb).2.1 q
  ·exact(f2 b hb).2.2.1 q
 have leC:s2.heap.objs.size<=(s2.heap.push (bU [] 0)).objs.size:=by rw[hC];exact Nat.le_succ _
 have loop:codeAny (model X.prog X.w) X.A (.compLoop (.ListComp elt [⟨tg,iter,ifs,0⟩] scope pos) 0 (.ref it) (.ref s2.heap.objs.size) (compEnvC scope cl (s2.heap.push (bU [] 0)).objs.size X.env))
   (compPost (model X.prog X.w) X.A X.xe (some (assign (.Name x pos') X.env)) (λ_ s''=>wpAny (model X.prog X.w) X.A (pure ()) (λ_ s3=>wpAny (model X.prog X.w) X.A (pure Flow.next) (SP X pins Dn) X.xe s3) X.xe s'') (.ref s2.heap.objs.size) (s2.heap.push (bU [] 0)).objs.size) { s2 with heap:=h1,toks:=s2.toks+([]:List (Str×Value)).length }:=by
  refine va (s0:={ s2 with heap:=s2.heap.push (bU [] 0) }) (H0:=H2) (N':=N') (Q:=λv H1=>gN v σ H1 Dn.nx) (Turn.at T hc) (hg _ _ _ _) (ht _ _ _ _) (he _ _ _ _) T hDf turn hstat hDC hDs (λx c e=>AAK (ltc x c e)) ?_ m0 I3 st3 (λb hb=>(f2 b hb).1) w0
  intro τ H' s' vs its k I4 rv hl q
  obtain⟨mm,hn4,_⟩:=id I4.loc
  obtain⟨oC,es,ep,eC,aZ⟩:=id hn4
  have I5:Inv X pins σ (upd H' s2.heap.objs.size (.lst vs)) s':=I2.blkEnd f2 I4 rv hl ⟨rfl,λ_ _=>rfl⟩
  have fC:upd H' s2.heap.objs.size (.lst vs) (s2.heap.push (bU [] 0)).objs.size=none:=by rw[ak (AAr hDC)];exact I4.free
  have fk:∀Hx:Hp,Hx (s2.heap.push (bU [] 0)).objs.size=none->nY X pins Hx (s2.heap.push (bU [] 0)).objs.size:=λHx hx=>I2.fpOk leC hx
  have dC:∀v,oC.data≠.cell v:=λv z=>by
   have:∃es ep,oC.data=.dict es ep:=by
    first
     | (obtain⟨d,_⟩:=aZ;exact⟨_,_,d⟩)
     | (obtain⟨_,d,_⟩:=aZ;exact⟨_,_,d⟩)
     | (obtain⟨_,_,d,_⟩:=aZ;exact⟨_,_,d⟩)
   obtain⟨_,_,d⟩:=this
   rw[d]at z;cases z
  have I6:Inv X (pins++[((s2.heap.push (bU [] 0)).objs.size,oC)]) σ (upd H' s2.heap.objs.size (.lst vs)) s':=I5.pins_of λp hp=>by
   rcases AB6.mp hp with hp | hp
   ·exact I5.pin p (AAI _ hp)
   ·have:p=((s2.heap.push (bU [] 0)).objs.size,oC):=by simpa using hp
    subst this
    exact⟨eC,fC,(fk _ fC).2.1,(fk _ fC).2.2.1,dC⟩
  refine thn (hn _ s' σ _ (.ref s2.heap.objs.size) (.ref s2.heap.objs.size) _ I6 rfl q) ?_
  rintro _ s7 ⟨σ7,H7,I7,q7⟩
  obtain⟨p1,p2,_⟩:=I7.pin ((s2.heap.push (bU [] 0)).objs.size,oC) (AAI _ (AAI _ AAE))
  refine⟨mm,⟨oC,es,ep,p1,aZ⟩,λh' sb=>AA5 (AA5 ⟨σ7,H7,?_,q7⟩)⟩
  have I8:Inv X pins σ7 H7 s7:=I7.pins_of λp hp=>I7.pin p (AAI _ (AAi _ hp))
  refine I8.turnedL (t':=s7.toks) (fp:=[(s2.heap.push (bU [] 0)).objs.size]) (λb hb=>?_) λb o hb e=>(sb.2 b (by simpa using hb)).trans e
  have:b=(s2.heap.push (bU [] 0)).objs.size:=by simpa using hb
  subst this
  exact fk H7 p2
 exact codeAny_compStart_list loop (T.self _ 0 _ _ _ st3 loop)
def jo(nt:Nat)(js:List Nat)(di:DTI)(g:DTG)(tt:DTT)(te:DTE)(i:Nat):DTS:=λE S M=>dLC nt js di g tt te S M λd M1=>al i d S M1 E.nx
theorem yo(B:BlkSc X N' nt js scope)(hc:X.calm=true)(hi:DI X tg iter di)
  (hg:∀cl s0 H0 ex,DG (blk X N' scope cl s0 H0 ex) tg g) (ht:∀cl s0 H0 ex,PTs (blk X N' scope cl s0 H0 ex) ifs (lowT X.K tt)) (he:∀cl s0 H0 ex,DE (blk X N' scope cl s0 H0 ex) elt te) (hn:DG X (.Name x pos') (al i))
  (hs:∀x,foldedSetIterable iter X.env x=pure x) (hsw:swapsWith (.ListComp elt [⟨tg,iter,ifs,0⟩] scope pos) (some (.Name x pos')) pos2.line X.env=pure true) :
  DS X (.Assign [.Name x pos'] (.ListComp elt [⟨tg,iter,ifs,0⟩] scope pos) pos2) (jo nt js di g tt te i) :=
 PS.imp (xn (g:=lowG X.K g) (tt:=lowT X.K tt) (te:=lowE X.K te) B hc hi (λcl s0 H0 ex=>hg cl s0 H0 ex) ht (λcl s0 H0 ex=>he cl s0 H0 ex) hn hs hsw) λE σ H ⟨S,M,ρ,F,s,sr,q,k⟩ =>
  uS σ H _ ⟨S,M,ρ,_,s,sr,q,λv H1 ⟨d,M1,ρ1,s1,g1,r1,q1⟩=>⟨d,S,M1,ρ1,_,s1,sr.grow g1,r1,q1,λσ' H' w=>k.nx σ' H' (SQ.trans g1 w)⟩⟩
theorem xT(hN:X.N.Nodup)(hi:HI X tg iter di)
  (hg:∀cl s0 H0 ex,HG (blk X N' scope cl s0 H0 ex) tg g) (ht:∀cl s0 H0 ex,HTs (blk X N' scope cl s0 H0 ex) ifs tt) (he:∀cl s0 H0 ex,HE (blk X N' scope cl s0 H0 ex) elt te) (B:km X.env.scope.names X.N N' nt js scope=true:=by kernel_rfl) (hc:X.calm=true:=by kernel_rfl)
  (hs:∀x,foldedSetIterable iter X.env x=pure x:=by intro _;kernel_rfl) (hsw:swapsWith (.ListComp elt [⟨tg,iter,ifs,0⟩] scope pos) (some (.Name x pos')) pos2.line X.env=pure true:=by kernel_rfl)
  (hix:X.N[i]?=some x:=by kernel_rfl) (hx:BJ X.env.scope x=true:=by kernel_rfl) (hf:X.fn x=true:=by kernel_rfl):HS X (.Assign [.Name x pos'] (.ListComp elt [⟨tg,iter,ifs,0⟩] scope pos) pos2) (jo nt js di g tt te i) :=
 ⟨yo (BlkSc.chk B) hc hi.ok (λcl s0 H0 ex=>(hg cl s0 H0 ex).ok) (λcl s0 H0 ex=>(ht cl s0 H0 ex).ok) (λcl s0 H0 ex=>(he cl s0 H0 ex).ok) (pN hN hix (uV hx) (.inl hf)) hs hsw⟩
theorem at0:atI (a::r) 0=some a:=by
 have:=aA (xs:=a::r) (j:=0) (v:=a) rfl
 simpa using this
theorem at1:atI (a::b::r) 1=some b:=by
 have:=aA (xs:=a::b::r) (j:=1) (v:=b) rfl
 simpa using this
theorem at2:atI (a::b::c::r) 2=some c:=by
 have:=aA (xs:=a::b::c::r) (j:=2) (v:=c) rfl
 simpa using this
theorem aH.lst(h:R (.ref M.length) (M++[.lst xs]))(hn:M.length<=n)(e:(M++L)[n]?=some (.lst xs))(b:Bels M.length xs):aH M R (.ref n) (M++L) :=
 .inr (.inr ⟨M,n,xs,.refl,rfl,hn,e,AAT _ _,b,h⟩)
theorem aH.chg(c:Chg M M1)(h:R d M1)(b:Bel M.length d)(p:M1 <+: M'):aH M R d M':=.inr (.inl ⟨M1,c,b,p,h⟩)
theorem aH.chgL(c:Chg M M1)(h:R (.ref M.length) (M1++[.lst xs]))(hn:M.length<=n)(e:M'[n]?=some (.lst xs))(p:M1 <+: M')(b:Bels M.length xs):aH M R (.ref n) M':=.inr (.inr ⟨M1,n,xs,c,rfl,hn,e,p,b,h⟩)
theorem dc:(M++a::L).set M.length b=M++b::L:=by
 rw[AC4 _ _ (AAA _)]
 simp
theorem aX:(M++a::L)[M.length]?=some a:=by simp
theorem lA(I:List D->List D->SD->Mem->Prop)(h0:∀acc S M,I [] acc S M->ok M/\Q (.ref M.length) (M++[.lst acc]))
  (h1:∀x xs acc S M,I (x::xs) acc S M->∀K:List D->SD->Mem->Prop,(∀acc S M,I xs acc S M->K acc S M)->ok M/\g x S M λS2 M2=>tt S2 M2 λb M3=>if b=true then te S2 M3 λy M4=>acc.length<sizeLine/\K (acc++[y]) S2 M4 else K acc S2 M3) :
  ∀xs acc S M,I xs acc S M->gK ok g tt te Q xs acc S M
 | [],acc,S,M,h=>h0 acc S M h
 | x::xs,acc,S,M,h=>h1 x xs acc S M h _ (lA I h0 h1 xs)
noncomputable def unS:D->Str
 | .str x=>x
 | _=>ACn
theorem iR{ys:List D}{ks:List Str}(h:ys.Perm (ks.map D.str)):∃ns:List Str,ys=ns.map D.str/\ns.Perm ks:=by
 refine⟨ys.map unS,?_,?_⟩
 ·rw[AAS]
  have:∀y∈ys,(D.str ∘ unS) y=y:=λy hy=>by
   obtain⟨x,_,rfl⟩:=AAB.mp (h.mem_iff.mp hy)
   rfl
  exact(ABx this ▸ (List.map_id' ys).symm:ys=ys.map (D.str ∘ unS))
 ·have:=h.map unS
  rw[AAS]at this
  have e:(unS ∘ D.str)=id:=rfl
  rwa [e,ACY]at this
theorem fN{M:Mem}{ks:List Str}(h:ks.length<64):SrtOk M (ks.map D.str):=by
 refine⟨by rw[AA4];exact h,λx hx=>?_,λx hx y hy=>?_,.inl λx hx=>?_⟩
 ·obtain⟨z,_,rfl⟩:=AAB.mp hx;rfl
 ·obtain⟨z,_,rfl⟩:=AAB.mp hx
  obtain⟨z',_,rfl⟩:=AAB.mp hy
  rfl
 ·obtain⟨z,_,rfl⟩:=AAB.mp hx;exact⟨z,rfl⟩
theorem mP(h:(kvs.map (·.1)).Nodup):((sd kvs k d).map (·.1)).Nodup:=by
 unfold sd
 by_cases q:(kvs.any λp=>decide (p.1=k))=true
 ·rw[if_pos q,AAS]
  have:((λx:Str×D=>x.1) ∘ λp:Str×D=>if p.1=k then(p.1,d)else p)=λx=>x.1:=by
   funext p
   show (if p.1=k then(p.1,d)else p).1=p.1
   split<;>rfl
  rw[this];exact h
 ·rw[if_neg q,AAp,ACG]
  refine⟨h,by simp,λa ha b hb e=>?_⟩
  simp at hb
  subst hb e
  obtain⟨p,hp,e⟩:=AAB.mp ha
  exact q (List.any_eq_true.mpr ⟨p,hp,by simpa using e⟩)
theorem gZ:(sd kvs k d).length<=kvs.length+1/\1<=(sd kvs k d).length:=by
 unfold sd
 by_cases q:(kvs.any λp=>decide (p.1=k))=true
 ·rw[if_pos q,AA4]
  obtain⟨p,hp,_⟩:=List.any_eq_true.mp q
  have:0<kvs.length:=List.length_pos_of_mem hp
  lia
 ·rw[if_neg q,AAH,AAy]
  lia
theorem qK{P:Str×D->Prop}{kvs:List (Str×D)}{k:Str}{d:D}(h:∀p∈kvs,P p)(hk:P (k,d)):∀p∈sd kvs k d,P p:=by
 unfold sd
 intro p hp
 by_cases q:(kvs.any λp=>decide (p.1=k))=true
 ·rw[if_pos q]at hp
  obtain⟨p',hp',rfl⟩:=AAB.mp hp
  by_cases e:p'.1=k
  ·rw[if_pos e,e];exact hk
  ·rw[if_neg e];exact h p' hp'
 ·rw[if_neg q]at hp
  rcases AB6.mp hp with hp | hp
  ·exact h p hp
  ·rw[AB0.mp hp];exact hk
theorem wS(h:k∈kvs.map (·.1)):∃d,eU kvs k=some d/\(k,d)∈kvs:=by
 obtain⟨p,hp,rfl⟩:=AAB.mp h
 cases e:kvs.find? λq=>decide (q.1=p.1) with
 | none=>exact absurd (List.find?_eq_none.mp e p hp) (by simp)
 | some q =>
  have h1:=List.mem_of_find?_eq_some e
  have h2:q.1=p.1:=by simpa using ADn e
  exact⟨q.2,by rw[eU,e];rfl,by rw[<-h2];exact h1⟩
theorem fB:(M++a::b::L)[M.length+1]?=some b:=by
 rw[AAY (by lia),show M.length+1-M.length=1 by lia];rfl
theorem kX:(M++a::b::c::L)[M.length+2]?=some c:=by
 rw[AAY (by lia),show M.length+2-M.length=2 by lia];rfl
theorem xc:(M++a::b::c::L).set (M.length+2) d=M++a::b::d::L:=by
 rw[AC4 _ _ (by lia),show M.length+2-M.length=2 by lia];rfl
theorem qL{α:Type}(f:α->D)(g:D->α)(hg:∀a,g (f a)=a){ys:List D}{l:List α}(h:ys.Perm (l.map f)):∃l':List α,ys=l'.map f/\l'.Perm l:=by
 refine⟨ys.map g,?_,?_⟩
 ·rw[AAS]
  have:∀y∈ys,(f ∘ g) y=y:=λy hy=>by
   obtain⟨x,_,rfl⟩:=AAB.mp (h.mem_iff.mp hy)
   show f (g (f x))=f x
   rw[hg]
  exact(ABx this ▸ (List.map_id' ys).symm:ys=ys.map (f ∘ g))
 ·have:=h.map g
  rw[AAS]at this
  have e:(g ∘ f)=id:=funext hg
  rwa [e,ACY]at this
theorem lE{α:Type}{f:α->D}{l:List α}{j:Nat}(h:j<l.length):atI (l.map f) (j:Int)=some (f l[j]):=aA (by rw[AAN,AA6 h];rfl)
theorem rA:∀xs ys:List Str,rB (eqD M n) (cC M n) (xs.map D.str) (ys.map D.str)=true
 | [],ys=>by cases ys<;>rfl
 | _::_,[]=>rfl
 | x::xs,y::ys=>by
  show (if eqD M n (.str x) (.str y)=true then rB _ _ (xs.map D.str) (ys.map D.str)else cC M n (.str x) (.str y))=true
  split
  ·exact rA xs ys
  ·cases n<;>rfl
structure TxSrc(prog:Program)(w:World)(h:Heap)(l:Addr)(T:String)(n:Nat)(P:Nat->Value->Prop):Prop where
 obj:∃o,h.get? l=some o/\o.cls=.type T
 ns:isSubtype (.type T) (.type "set")=pure false
 nf:isSubtype (.type T) (.type "frozenset")=pure false
 nd:(ACd T==ACd "dict")=false
 iter:∀(A:Around) (s':Shared),A.handled=none->(∀o,h.get? l=some o->s'.heap.get? l=some o)->∃(oI:Obj) (St:Nat->Heap->Prop),
  (∀(E:Value->Shared->Prop) (Q:Value->Shared->Prop),Q (.ref s'.heap.objs.size) { s' with heap:=s'.heap.push oI }->wpAny (model prog w) A (pyIter (.ref l)) Q E s') /\
  Walks prog w A s'.heap.objs.size [s'.heap.objs.size,l] [s'.heap.objs.size] n P St/\St 0 (s'.heap.push oI)
theorem oF:isSubtype (.type "tuple") (.type "set")=pure false:=by rw[isSubtype_type];kernel_rfl
theorem mG:isSubtype (.type "tuple") (.type "frozenset")=pure false:=by rw[isSubtype_type];kernel_rfl
theorem TxSrc.tuple(hl:h.IsTuple l its):TxSrc prog w h l "tuple" its.size (λi v=>its[i]?=some v):=by
 refine⟨let ⟨o,e,c,_⟩:=hl;⟨o,e,c⟩,oF,mG,by decide,λA s' hh hk=>?_⟩
 have hl':s'.heap.IsTuple l its:=let ⟨o,e,r⟩:=hl;⟨o,hk o e,r⟩
 have lt:l<s'.heap.objs.size:=let ⟨o,e,_⟩:=hl';AAF e
 exact⟨_,_,λE Q q=>wpAny_pyIter_tuple hl' q,Walks.tuple hh _ l (AAK lt) its,⟨_,AAD _ rfl,rfl,rfl⟩,let ⟨o,e,r⟩:=hl';⟨o,AA3 _ e,r⟩⟩
structure SetAt(h:Heap)(a:Addr)(o:Obj)(es:Array (Int×Value))(ep:Nat)(t:SetTable):Prop where
 ob:h.get? a=some o
 dt:o.data=.set es ep t
 ft:t.fits es.size=true
end L2
namespace L2
end L2
namespace Ht
open PySem
noncomputable def adv(m:Nat)(p:ACt):ACt :=
 if p.more > 0 then { p with j:=p.j+1,more:=p.more-1 } else
 { p with j:=(ADB m p.i p.perturb).1,more:=SetTable.runEnd m (ADB m p.i p.perturb).1-(ADB m p.i p.perturb).1,i:=(ADB m p.i p.perturb).1,perturb:=(ADB m p.i p.perturb).2 }
noncomputable def zl(m i pt:Nat):ACt:={ j:=i,more:=SetTable.runEnd m i-i,i,perturb:=pt,dummy:=none }
noncomputable def Cf(m:Nat)(p:ACt):Nat->ACt
 | 0=>p
 | n+1=>adv m (Cf m p n)
noncomputable def sq(m:Nat)(h:Int)(n:Nat):ACt:=Cf m (zl m (ADx h % (m+1)) (ADx h)) n
noncomputable def runs(m:Nat)(h:Int):Nat->Nat×Nat
 | 0=>(ADx h % (m+1),ADx h)
 | k+1=>ADB m (runs m h k).1 (runs m h k).2
noncomputable def ET(m:Nat)(h:Int):Nat->Nat
 | 0=>0
 | k+1=>ET m h k+(SetTable.runEnd m (runs m h k).1-(runs m h k).1+1)
def EV(m:Nat):Prop:=m=7\/m=31\/m=127
structure TOk(t:SetTable)(hs:List Int):Prop where
 msk:EV t.mask
 len:t.place.size=hs.length
 nod:t.dummies = #[]
 ris:t.place.toList.Pairwise (· < ·)
 rng:∀j∈t.place.toList,j<=t.mask
 few:t.place.size*5<t.mask*3
 path:∀(i:Nat) (h:Int) (j:Nat),hs[i]?=some h->t.place[i]?=some j->∃n,(sq t.mask h n).j=j/\∀n',n' < n->(sq t.mask h n').j∈t.place.toList
end Ht
namespace L2
open PySem PySem.Spec PyProof.Rows DL PySem.W
end L2
namespace L2
open PySem PySem.Spec PyProof.Rows DL PySem.W PySem.Calls PyProof.V
end L2
namespace L2
open PySem PySem.Spec PyProof.Rows DL PySem.W
end L2
namespace L2
open PySem PySem.Spec PyProof.Rows DL PySem.Builtin PySem.Builtin.Str PySem.StrLaws
end L2
namespace L2
open PySem PySem.Spec PyProof.Rows DL PySem.W
end L2
namespace Ht
open PySem
def Occ(ow:Array (Option Nat))(s:Nat):Prop:=∃i,ow[s]?=some (some i)
structure Laid(m:Nat)(hs:List Int)(ow:Array (Option Nat))(k:Nat):Prop where
 sz:ow.size=m+1
 lt:∀s i:Nat,ow[s]?=some (some i)->i<k
 inj:∀s s' i:Nat,ow[s]?=some (some i)->ow[s']?=some (some i)->s=s'
 all:∀i:Nat,i<k->∃s:Nat,ow[s]?=some (some i)
 path:∀(s i:Nat) (h:Int),ow[s]?=some (some i)->hs[i]?=some h->∃n,(sq m h n).j=s/\∀n',n' < n->Occ ow (sq m h n').j
structure TPre(t:SetTable)(hs:List Int):Prop where
 msk:EV t.mask
 len:t.place.size=hs.length
 nod:t.dummies = #[]
 ris:t.place.toList.Pairwise (· < ·)
 rng:∀j∈t.place.toList,j<=t.mask
 path:∀(i:Nat) (h:Int) (j:Nat),hs[i]?=some h->t.place[i]?=some j->∃n,(sq t.mask h n).j=j/\∀n',n' < n->(sq t.mask h n').j∈t.place.toList
end Ht
namespace L2
open PySem PySem.Spec PyProof.Rows DL PySem.W
theorem vH:∀(n:Nat) (x y:D),hV n x=true->hV n y=true->(eqD M n x y=true↔x=y):=by
 intro n
 induction n with
 | zero =>
  intro x y h1 h2
  cases x with
  | str a =>
   cases y with
   | str b=>simp[eqD]
   | int b=>simp[eqD]
   | _=>cases h2
  | int a =>
   cases y with
   | str b=>simp[eqD]
   | int b=>simp[eqD]
   | _=>cases h2
  | _=>cases h1
 | succ n ih =>
  have go:∀xs ys:List D,xs.all (hV n)=true->ys.all (hV n)=true->(eqL (eqD M n) xs ys=true↔xs=ys):=by
   intro xs
   induction xs with
   | nil=>intro ys _ _;cases ys<;>simp[eqL]
   | cons x xs ih2 =>
    intro ys a1 a2
    cases ys with
    | nil=>simp[eqL]
    | cons y ys =>
     rw[ABT,AAU]at a1 a2
     show (eqD M n x y&&eqL (eqD M n) xs ys)=true↔_
     rw[AAU,ih x y a1.1 a2.1,ih2 ys a1.2 a2.2,List.cons.injEq]
  intro x y h1 h2
  cases x with
  | str a =>
   cases y with
   | str b=>simp[eqD]
   | int b=>simp[eqD]
   | tup ys=>simp[eqD]
   | _=>cases h2
  | int a =>
   cases y with
   | str b=>simp[eqD]
   | int b=>simp[eqD]
   | tup ys=>simp[eqD]
   | _=>cases h2
  | tup xs =>
   cases y with
   | str b=>simp[eqD]
   | int b=>simp[eqD]
   | tup ys=>rw[D.tup.injEq];exact go _ _ h1 h2
   | _=>cases h2
  | _=>cases h1
noncomputable def qV:D->Bool
 | .tup _=>true
 | _=>false
def Ent(X:Cx)(ρ:List Addr)(H:Hp)(n:Nat)(d:D)(e:Int×Value):Prop:=(∃v,Rep X.K ρ H d v/\aK v e.2)/\e.1=hkD X.w n d/\hV n d=true/\qV d=true
structure KSet(X:Cx)(ρ:List Addr)(H:Hp)(h:Heap)(a:Addr)(n:Nat)(ds:List D)(o:Obj)(es:Array (Int×Value))(ep:Nat)(t:SetTable):Prop where
 ob:h.get? a=some o
 ex:o.ExactSet
 dt:o.data=.set es ep t
 en:Paired (Ent X ρ H n) ds es.toList
 nd:ds.Nodup
 tk:Ht.TOk t (es.toList.map (·.1))
 ld:t.led = !X.w.params.followText "set-order"
theorem fQ{α β:Type}{R:α->β->Prop}:∀{xs:List α}{ys:List β}{i:Nat}{y:β},Paired R xs ys->ys[i]?=some y->∃x,xs[i]?=some x/\R x y
 | _,_,i,y,.nil,e=>by simp at e
 | _,_,0,y,.cons r _,e=>by simp at e;subst e;exact⟨_,rfl,r⟩
 | _,_,i+1,y,.cons _ t,e=>by
  obtain⟨x,h1,h2⟩:=fQ (i:=i) t (by simpa using e)
  exact⟨x,by simpa using h1,h2⟩
def SqAt(M:Mem)(d:D)(xs:List D):Prop:=(∃n,d=.ref n/\aq M n xs)\/d=.tup xs
theorem sX{X:Cx}:∀{ds:List D}{vs:List V}{its:List Value}{i:Nat}{u:Value}{ρ:List Addr}{H:Hp},Reps X.K ρ H ds vs->ar vs its->its[i]?=some u->∃d v,ds[i]?=some d/\Rep X.K ρ H d v/\aK v u
 | _,_,_,i,u,_,_,.nil,h,e=>by cases h;simp at e
 | _,_,_,0,u,_,_,.cons r _,h,e=>by
  cases h with
  | cons a _=>simp at e;subst e;exact⟨_,_,rfl,r,a⟩
 | _,_,_,i+1,u,_,_,.cons _ t,h,e=>by
  cases h with
  | cons _ b =>
   obtain⟨d,v,e1,r,rv⟩:=sX (i:=i) t b (by simpa using e)
   exact⟨d,v,by simpa using e1,r,rv⟩
def dP(h:Heap):Nat->D->Value->Prop
 | _,.str x,v=>∃t,v=.str x t
 | _,.int i,v=>∃t,v=.int i t
 | n+1,.tup ds,v=>∃a its,v=.ref a/\h.IsTuple a its/\Paired (dP h n) ds its.toList
 | _,_,_=>False
noncomputable def drD:Nat->D->Nat
 | n+1,.tup ds=>(ds.map (drD n)).sum+1
 | _,_=>1
theorem fx:∀(n:Nat) (d:D) (v:Value),dP h n d v->hV n d=true:=by
 intro n
 induction n with
 | zero=>intro d v k;cases d<;>first | rfl | exact k.elim
 | succ n ih =>
  intro d v k
  cases d with
  | str x=>rfl
  | int x=>rfl
  | tup ds =>
   obtain⟨a,its,_,_,p⟩:=k
   show ds.all (hV n)=true
   generalize its.toList=l at p
   induction p with
   | nil=>rfl
   | cons r _ i2=>rw[ABT,ih _ _ r,i2];rfl
  | _=>exact k.elim
theorem pF{h:Heap}{a:Addr}{xs ys:Array Value}(h1:h.IsTuple a xs)(h2:h.IsTuple a ys):xs=ys:=by
 obtain⟨o,e1,_,n,d1⟩:=h1
 obtain⟨o',e2,_,n',d2⟩:=h2
 obtain rfl:o=o':=AAM (e1.symm.trans e2)
 rw[d1]at d2
 injection d2
theorem nA{h:Heap}:∀(n:Nat) (x y:D) (v:Value),dP h n x v->dP h n y v->x=y:=by
 intro n
 induction n with
 | zero =>
  intro x y v k1 k2
  cases x with
  | str a =>
   obtain⟨t,rfl⟩:=k1
   cases y with
   | str b=>obtain⟨t',e⟩:=k2;injection e with e;rw[e]
   | int b=>obtain⟨t',e⟩:=k2;cases e
   | _=>exact k2.elim
  | int a =>
   obtain⟨t,rfl⟩:=k1
   cases y with
   | str b=>obtain⟨t',e⟩:=k2;cases e
   | int b=>obtain⟨t',e⟩:=k2;injection e with e;rw[e]
   | _=>exact k2.elim
  | _=>exact k1.elim
 | succ n ih =>
  intro x y v k1 k2
  cases x with
  | str a =>
   obtain⟨t,rfl⟩:=k1
   cases y with
   | str b=>obtain⟨t',e⟩:=k2;injection e with e;rw[e]
   | int b=>obtain⟨t',e⟩:=k2;cases e
   | tup b=>obtain⟨_,_,e,_⟩:=k2;cases e
   | _=>exact k2.elim
  | int a =>
   obtain⟨t,rfl⟩:=k1
   cases y with
   | str b=>obtain⟨t',e⟩:=k2;cases e
   | int b=>obtain⟨t',e⟩:=k2;injection e with e;rw[e]
   | tup b=>obtain⟨_,_,e,_⟩:=k2;cases e
   | _=>exact k2.elim
  | tup xs =>
   obtain⟨a,its,rfl,t1,p1⟩:=k1
   cases y with
   | str b=>obtain⟨t',e⟩:=k2;cases e
   | int b=>obtain⟨t',e⟩:=k2;cases e
   | tup ys =>
    obtain⟨_,its',e,t2,p2⟩:=k2
    cases e
    obtain rfl:=pF t1 t2
    congr 1
    generalize its.toList=l at p1 p2
    induction p1 generalizing ys with
    | nil=>cases p2;rfl
    | cons r _ i2=>cases p2 with
     | cons r' t'=>rw[ih _ _ _ r r',i2 _ t']
   | _=>exact k2.elim
  | _=>exact k1.elim
theorem sC(k:∀a its,h.IsTuple a its->h'.IsTuple a its):∀(n:Nat) (d:D) (v:Value),dP h n d v->dP h' n d v:=by
 intro n
 induction n with
 | zero=>intro d v q;cases d<;>first | exact q | exact q.elim
 | succ n ih =>
  intro d v q
  cases d with
  | str x=>exact q
  | int x=>exact q
  | tup ds =>
   obtain⟨a,its,e,t,p⟩:=q
   exact⟨a,its,e,k _ _ t,Paired.mapP p λx y r=>ih x y r⟩
  | _=>exact q.elim
theorem pA{es ep}(q:dP h n k v)(ho:h.get? d=some o)(hd:o.data=.dict es ep)(hs:ABA d h h'):dP h' n k v:=by
 refine sC (λa its ⟨o',e,c,m,t⟩=>?_) n k v q
 have hne:a≠d:=by
  rintro rfl
  obtain rfl:o'=o:=AAM (e.symm.trans ho)
  rw[hd]at t;cases t
 exact⟨o',(hs.2 a hne).trans e,c,m,t⟩
theorem sD:∀(n:Nat) (A:Around) (s:Shared) (d:D) (u:Value) (E:Value->Shared->Prop) (Q:Int->Shared->Prop),A.units+n<cLine->dP s.heap n d u ->
  Q (hkD w n d) { s with toks:=s.toks+drD n d }->wpAny (model prog w) A (pyHash u) Q E s:=by
 intro n
 induction n with
 | zero =>
  intro A s d u E Q hu k h
  cases d with
  | str x=>obtain⟨t,rfl⟩:=k;exact wpAny_pyHash_str h
  | int x=>obtain⟨t,rfl⟩:=k;exact wpAny_pyHash_int h
  | _=>exact k.elim
 | succ n ih =>
  intro A s d u E Q hu k h
  cases d with
  | str x=>obtain⟨t,rfl⟩:=k;exact wpAny_pyHash_str h
  | int x=>obtain⟨t,rfl⟩:=k;exact wpAny_pyHash_int h
  | tup ds =>
   obtain⟨a,its,rfl,⟨o,ho,hc,nn,hd⟩,p⟩:=k
   have hT:s.TypeIs (.ref a) "tuple":=⟨o,ho,hc⟩
   unfold pyHash
   first | unfold pyHashByItsType | skip
   first | refine AA0 (wpAny_cRoomFor_or (.inr (by lia)) ?_) | skip
   refine AA0 (ADj hT F.slot_tuple_hash.lookup ?_)
   refine(show wpAny (model prog w) _ (if (some (Value.builtin "tuple.__hash__")==some ABO)=true then _ else _) Q E s from ?_)
   rw[if_neg (by rw[beq_builtin_none];exact AB9)]
   refine AA0 (ADj hT F.slot_tuple_hash.lookup ?_)
   refine(show wpAny (model prog w) _ (callSpecialIfBoundUnlessNone? (.ref a) "__hash__" _ >>= _) Q E s from AA0 (wpAny_callSpecialIfBoundUnlessNone?_slot hT F.slot_tuple_hash (AAm F.slot_tuple_hash hT F.entry_tuple_hash ?_ (F.args_tuple_hash_1 _))))
   refine(show wpAny (model prog w) _ (ACj (.ref a) >>= _) _ _ s from AA0 (wpAny_tupleItemsOf ho hd (AA0 ?_)))
   rw[<-ADC]
   refine wpAny_forIn_list _ (λaZ (b:Array Int) s'=>∃done left,ds=done++left/\Paired (dP s.heap n) left aZ/\b.toList=done.map (hkD w n)/\s'={ s with toks:=s.toks+(done.map (drD n)).sum }) _ ?_ ?_ _ _ ⟨[],ds,rfl,p,rfl,rfl⟩
   ·rintro x aZ b s' ⟨done,left,e,h1,hb,rfl⟩
    cases h1 with
    | @cons d0 _ left' _ r0 t0 =>
     refine AA0 (ih _ _ d0 x _ _ (by show A.units+1+n<cLine;lia) r0 ?_)
     first
      | exact AA5 ⟨done++[d0],left',by rw[e];simp,t0,by simp[hb],by simp[Nat.add_assoc]⟩
      | exact AA0 (AA5 (AA5 ⟨done++[d0],left',by rw[e];simp,t0,by simp[hb],by simp[Nat.add_assoc]⟩))
   ·rintro b s' ⟨done,left,e,h1,hb,rfl⟩
    cases h1
    rw[ABR]at e
    subst e
    refine(show wpAny (model prog w) _ (retInt (AC6 b.toList)) _ _ _ from ?_)
    rw[hb]
    refine wpAny_ret_mkInt ?_
    have key:hkD w (n+1) (.tup ds)=reduceHash (AC6 (ds.map (hkD w n))):=rfl
    have h':Q (hkD w (n+1) (.tup ds)) { s with toks:=s.toks+(ds.map (drD n)).sum+1 }:=h
    generalize AC6 (ds.map (hkD w n))=z at key
    refine(show wpAny (model prog w) _ (if (decide (-(2:Int) ^ 63<=z)&&decide (z<2 ^ 63))=true then _ else _) Q E _ from ?_)
    unfold reduceHash at key
    by_cases hr:(decide (-(2:Int) ^ 63<=z)&&decide (z<2 ^ 63))=true
    ·rw[if_pos hr]at key ⊢
     exact AA5 (by rw[<-key];exact h')
    ·rw[if_neg hr]at key ⊢
     exact AA0 (ACE (AA5 (by rw[<-key];exact h')))
  | _=>exact k.elim
theorem pz:∀(n k:Nat) (A:Around) (s:Shared) (d:D) (u:Value) (E:Value->Shared->Prop) (Q:Bool->Shared->Prop),n<=k->dP s.heap n d u->Q true s->wpAny (model prog w) A (eqIsQuiet k u) Q E s:=by
 intro n
 induction n with
 | zero =>
  intro k A s d u E Q hk q h
  cases d with
  | str x=>obtain⟨t,rfl⟩:=q;rw[ADT k (v:=.str x t) rfl];exact AA5 h
  | int x=>obtain⟨t,rfl⟩:=q;rw[ADT k (v:=.int x t) rfl];exact AA5 h
  | _=>exact q.elim
 | succ n ih =>
  intro k A s d u E Q hk q h
  cases d with
  | str x=>obtain⟨t,rfl⟩:=q;rw[ADT k (v:=.str x t) rfl];exact AA5 h
  | int x=>obtain⟨t,rfl⟩:=q;rw[ADT k (v:=.int x t) rfl];exact AA5 h
  | tup ds =>
   obtain⟨a,its,rfl,⟨o,ho,hc,nn,hd⟩,p⟩:=q
   obtain⟨k,rfl⟩:∃k',k=k'+1:=⟨k-1,by lia⟩
   have hT:s.TypeIs (.ref a) "tuple":=⟨o,ho,hc⟩
   unfold eqIsQuiet
   refine AA0 (ADj hT F.slot_tuple_eq.lookup ?_)
   refine(show wpAny (model prog w) A (isInstance (.ref a) (.type "tuple") >>= _) _ _ s from AA0 (ADd hT isSubtype_tuple_tuple ?_))
   simp only[Bool.not_true,AAZ,if_false]
   refine AA0 (ABl ho hd ?_)
   simp only[ADe]
   refine AA0 ?_
   refine(show wpAny (model prog w) A (forIn its _ _) _ _ s from ?_)
   rw[<-ADC]
   refine wpAny_forIn_list _ (λaZ r s'=>r.1=none/\s'=s/\∃left,Paired (dP s.heap n) left aZ) _ ?_ ?_ _ _ ⟨rfl,rfl,ds,p⟩
   ·rintro x aZ r s' ⟨hr,rfl,left,h1⟩
    cases h1 with
    | cons r0 t0 =>
     refine AA0 (ih k _ _ _ x _ _ (by lia) r0 ?_)
     simp only[Bool.not_true,AAZ,if_false]
     exact AA5 ⟨rfl,rfl,_,t0⟩
   ·rintro⟨r1,r2⟩ s' ⟨hr,rfl,_⟩
    simp only at hr
    subst hr
    exact AA5 h
  | _=>exact q.elim
theorem gw{h:Heap}{n:Nat}{ds:List D}{its:Array Value}(p:Paired (dP h n) ds its.toList):ds.length=its.size:=by
 rw[<-ABU]
 generalize its.toList=l at p
 induction p with
 | nil=>rfl
 | cons _ _ ih=>rw[AAO,AAO,ih]
theorem xX:∀(n:Nat) (A:Around) (s:Shared) (x y:D) (u v:Value),A.units+n<cLine->dP s.heap n x u->dP s.heap n y v->ACf A s u v (eqD [] n x y):=by
 intro n
 induction n with
 | zero =>
  intro A s x y u v hu k1 k2
  cases x with
  | str a =>
   obtain⟨t,rfl⟩:=k1
   cases y with
   | str b=>obtain⟨t',rfl⟩:=k2;exact AD8 _ _ _ _
   | int b=>obtain⟨t',rfl⟩:=k2;exact ACQ _ _ _ _
   | _=>exact k2.elim
  | int a =>
   obtain⟨t,rfl⟩:=k1
   cases y with
   | str b=>obtain⟨t',rfl⟩:=k2;exact ACP _ _ _ _
   | int b=>obtain⟨t',rfl⟩:=k2;exact AD7 _ _ _ _
   | _=>exact k2.elim
  | _=>exact k1.elim
 | succ n ih =>
  intro A s x y u v hu k1 k2
  have hu0:A.units<cLine:=by lia
  have hu1:A.in1.units+n<cLine:=by show A.units+1+n<cLine;lia
  cases x with
  | str a =>
   obtain⟨t,rfl⟩:=k1
   cases y with
   | str b=>obtain⟨t',rfl⟩:=k2;exact AD8 _ _ _ _
   | int b=>obtain⟨t',rfl⟩:=k2;exact ACQ _ _ _ _
   | tup b=>obtain⟨_,_,rfl,pl,_⟩:=k2;exact SeqAt.EqAt.str_tuple _ _ pl hu0
   | _=>exact k2.elim
  | int a =>
   obtain⟨t,rfl⟩:=k1
   cases y with
   | str b=>obtain⟨t',rfl⟩:=k2;exact ACP _ _ _ _
   | int b=>obtain⟨t',rfl⟩:=k2;exact AD7 _ _ _ _
   | tup b=>obtain⟨_,_,rfl,pl,_⟩:=k2;exact SeqAt.EqAt.int_tuple _ _ pl hu0
   | _=>exact k2.elim
  | tup xs =>
   obtain⟨a,its,rfl,pl,p1⟩:=id k1
   cases y with
   | str b=>obtain⟨t',rfl⟩:=k2;exact SeqAt.EqAt.tuple_str _ _ pl hu0
   | int b=>obtain⟨t',rfl⟩:=k2;exact SeqAt.EqAt.tuple_int _ _ pl hu0
   | tup ys =>
    obtain⟨b,jts,rfl,pl',p2⟩:=id k2
    by_cases hab:a=b
    ·subst hab
     have e:=nA (n+1) _ _ _ k1 k2
     rw[e,(vH (M:=[]) (n+1) _ _ (fx _ _ _ k2) (fx _ _ _ k2)).mpr rfl]
     exact ADm _
    ·have ll:=gw p1
     have ll':=gw p2
     have items:∀(j:Nat) (h1:j<its.size) (h2:j<jts.size),ACf A.in1 s its[j] jts[j] (eqD [] n (xs.getD j .non) (ys.getD j .non)):=λj h1 h2=>by
      obtain⟨x0,e1,r1⟩:=fQ p1 (i:=j) (y:=its[j]) (by rw[ACX];exact AAq h1)
      obtain⟨y0,e2,r2⟩:=fQ p2 (i:=j) (y:=jts[j]) (by rw[ACX];exact AAq h2)
      have z1:xs.getD j .non=x0:=by rw[AAJ,e1];rfl
      have z2:ys.getD j .non=y0:=by rw[AAJ,e2];rfl
      rw[z1,z2]
      exact ih A.in1 s x0 y0 _ _ hu1 r1 r2
     have key:((AAl (min its.size jts.size)).all (λj=>eqD [] n (xs.getD j .non) (ys.getD j .non))&&its.size==jts.size)=eqL (eqD [] n) xs ys:=by
      by_cases hl:xs.length=ys.length
      ·have rng:(AAl xs.length).all (λj=>eqD [] n (xs.getD j .non) (ys.getD j .non))=eqL (eqD [] n) xs ys:=jm hl λj x y h1 h2=>by simp[List.getD,h1,h2]
       rw[<-ll,<-ll',<-hl,Nat.min_self,rng]
       simp
      ·rw[vY hl,<-ll,<-ll']
       simp[hl]
     have h1:=SeqAt.RcAt.tuples pl pl' hu0 items
     rw[key]at h1
     exact SeqAt.EqAt.of_refs hab h1
   | _=>exact k2.elim
  | _=>exact k1.elim
noncomputable instance decD:DecidableEq D:=λa b=>Classical.propDecidable (a=b)
noncomputable def bA(prog:Program)(w:World):HeapKind prog w D where
 is:=λh d a=>dP h 8 d (.ref a)
 hash:=hkD w 8
 draws:=drD 8
 room:=λA=>A.units+8<cLine
 inj:=λx y=>nA 8 _ _ _ x y
 keeps:=λx ho hd hs=>pA x ho hd hs
 pyHash:=λhu k h=>sD 8 _ _ _ _ _ _ hu k h
 eqBool:=λ{A E s x y a b Q} hu k1 k2 h=>by
  refine xX 8 A s x y _ _ hu k1 k2 _ _ _ _ ?_
  have e:eqD [] 8 x y=decide (x=y):=by
   rw[Bool.eq_iff_iff,vH 8 x y (fx _ _ _ k1) (fx _ _ _ k2),decide_eq_true_eq]
  rw[e]
  exact h
 quiet:=λk h=>pz 8 8 _ _ _ _ _ _ (AAA _) k h
noncomputable def dY(kvs:List (D×D))(k:D):Option D:=(kvs.find? λp=>decide (p.1=k)).map (·.2)
noncomputable def gG(kvs:List (D×D))(k d:D):List (D×D):=if (dY kvs k).isSome then kvs.map (λp=>if p.1=k then(p.1,d)else p)else kvs++[(k,d)]
section
variable{K:AA2}{ρ:List Addr}{H:Hp}{M:Mem}{kvs:List (D×D)}{xs:List (D×Addr×Value)}
theorem qS(r:Paired (om K ρ H) kvs xs)(k:D):(dY kvs k=none/\atKey xs k=none)\/∃d p v,dY kvs k=some d/\atKey xs k=some p/\Rep K ρ H d v/\aK v p.2:=by
 unfold dY atKey
 induction r with
 | nil=>exact .inl ⟨rfl,rfl⟩
 | @cons p q ps qs h t ih =>
  obtain⟨h1,_,_,v,h4,h5⟩:=h
  rw[ABS,ABS]
  by_cases e:p.1=k
  ·rw[dT_ e,dT_ (h1.symm.trans e)]
   exact .inr ⟨_,_,v,rfl,rfl,h4,h5⟩
  ·rw[dF_ e,dF_ (λz=>e (h1.trans z))]
   exact ih
theorem yN(r:Paired (om K ρ H) kvs xs)(kd:hV 8 k=true)(rk:Rep K ρ H k (.ref b))(rd:Rep K ρ H d v)(rv:aK v u):Paired (om K ρ H) (gG kvs k d) (storedH xs k b u):=by
 unfold gG storedH
 have is:(dY kvs k).isSome=(atKey xs k).isSome:=by
  rcases qS r k with⟨e1,e2⟩|⟨_,_,_,e1,e2,_⟩<;>rw[e1,e2]<;>rfl
 rw[is]
 by_cases q:(atKey xs k).isSome=true
 ·rw[if_pos q,if_pos q]
  clear is q
  induction r with
  | nil=>exact .nil
  | @cons p q ps qs h t ih =>
   rw[AAQ,AAQ]
   refine .cons ?_ ih
   obtain⟨h1,h2,h3,w,h4,h5⟩:=h
   by_cases e:p.1=k
   ·rw[if_pos e,putAt,if_pos (h1.symm.trans e)]
    exact⟨h1,h2,h3,v,rd,rv⟩
   ·rw[if_neg e,putAt,if_neg (λz=>e (h1.trans z))]
    exact⟨h1,h2,h3,w,h4,h5⟩
 ·rw[if_neg q,if_neg q]
  clear is q
  induction r with
  | nil=>exact .cons ⟨rfl,kd,rk,v,rd,rv⟩ .nil
  | cons h t ih=>exact .cons h ih
theorem jf(r:Paired (om K ρ H) kvs xs):xs.map (·.1)=kvs.map (·.1):=by
 induction r with
 | nil=>rfl
 | cons h t ih=>rw[AAQ,AAQ,ih,h.1]
theorem kH:(gG kvs k d).length<=kvs.length+1:=by
 unfold gG
 split
 ·rw[AA4];lia
 ·rw[AAH];exact AAA _
theorem Sim.writeT(S:Sim K ρ M H)(e1:ρ[n]?=some a)(hM:M[n]?=some (.dkt kvs))(hH:H a=some (.ext (dX a xs)))(hl:kvs'.length<=sizeLine)(hs:(a==sysModules)=false)(nd:(kvs'.map (·.1)).Nodup)(r:Paired (om K ρ H) kvs' xs') :
  Sim K ρ (M.set n (.dkt kvs')) (upd H a (.ext (dX a xs')))/\Grow K ρ H ρ (upd H a (.ext (dX a xs'))):=
 S.writeG e1 (λ⟨_,z⟩=>by rw[hM]at z;cases z) hH rfl λg=>⟨hl,hs,nd,xs',ay,Paired.mapP r λ_ _ ⟨q1,q2,q3,v,q4,q5⟩=>⟨q1,q2,q3.grow g,v,q4.grow g,q5⟩⟩
end
theorem eI(I:Inv X pins σ H s):∀(n:Nat) (d:D) (v:V) (u:Value),Rep X.K ρ H d v->aK v u->hV n d=true->dP s.heap n d u:=by
 intro n
 induction n with
 | zero =>
  intro d v u r rv k
  cases r with
  | str x=>exact rv
  | int x=>exact rv
  | _=>cases k
 | succ n ih =>
  intro d v u r rv k
  cases r with
  | str x=>exact rv
  | int x=>exact rv
  | @tup a vs ds hq rr =>
   cases rv
   obtain⟨its,r2,p,hz⟩:=I.tuple hq
   have hk:∀x∈ds,hV n x=true:=AAb.mp (show ds.all (hV n)=true from k)
   refine⟨a,its.toArray,rfl,p,?_⟩
   rw[List.toList_toArray]
   clear p hq k hz
   induction r2 generalizing ds with
   | nil=>cases rr;exact .nil
   | cons q1 q2 i2 =>
    cases rr with
    | cons h1 t1=>exact .cons (ih _ _ _ h1 q1 (hk _ AAE)) (i2 t1 λx hx=>hk x (AA9 _ hx))
  | _=>cases k
theorem gx{X:Cx}{pins:List (Addr×Obj)}{σ:St}{H:Hp}{s:Shared}{ρ:List Addr}{M:Mem}(I:Inv X pins σ H s)(sm:Sim X.K ρ M H){n:Nat}{a:Addr}{kvs:List (D×D)}(e:ρ[n]?=some a)(hM:M[n]?=some (.dkt kvs)) :
  ∃xs,H a=some (.ext (dX a xs))/\Paired (om X.K ρ H) kvs xs/\s.heap.DictOfH (bA X.prog X.w) a xs/\(a==sysModules)=false/\kvs.length<=sizeLine/\xs.length=kvs.length/\(kvs.map (·.1)).Nodup:=by
 obtain⟨h1,h2,h3,xs,hH,r⟩:=sm.obj _ _ _ e hM
 obtain⟨⟨o,es,e1,e2,e3,e4⟩,_⟩:=(show br X.prog X.w H s.heap a (.ext (dX a xs))from I.hok a _ hH)
 have ek:=jf r
 refine⟨xs,hH,r,⟨o,es,_,e1,e2,e3,e4,λx hx=>?_,by rw[ek];exact h3⟩,h2,h1,?_,h3⟩
 ·obtain⟨i,hi⟩:=AC9 hx
  obtain⟨p,_,q1,q2,q3,_⟩:=fQ r hi
  rw[<-q1]
  exact eI I 8 _ _ _ q3 rfl q2
 ·have:=congrArg ACS ek
  rwa [AA4,AA4]at this
theorem pH(d:dX a xs P w h'):br P w H' h' a (.ext (dX a xs)):=by
 obtain⟨o,es,e1,e2,e3,e4⟩:=d
 refine⟨⟨o,es,e1,e2,e3,e4⟩,⟨o,e1⟩,?_⟩
 rintro h1 h2 ⟨o,es,e1,e2,e3,e4⟩ k
 exact⟨o,es,k _ e1,e2,e3,e4⟩
theorem yW(I:Inv X pins σ H s)(hH:H a=some (.ext (dX a xs))):dX a xs X.prog X.w s.heap :=
 (show br X.prog X.w H s.heap a (.ext (dX a xs))from I.hok a _ hH).1
theorem setE(hu:(bA prog w).room A.in1)(kat:(bA prog w).is s.heap k b)
  (hm:s.heap.DictOfH (bA prog w) d xs) (hx:dX d xs prog w s.heap) (hz:xs.length<=sizeLine)
  (hQ:∀h',dX d (storedH xs k b v) prog w h'->ABA d s.heap h'->Q () { s with heap:=h',toks:=s.toks+(bA prog w).draws k }):wpAny (model prog w) A (setItem (.ref d) (.ref b) v) Q E s:=by
 have hT:=hm.typeIs
 obtain⟨_,_,_,_,_,_,_,his,hn⟩:=hm
 obtain⟨o,es,ho,hc,hd,he'⟩:=hx
 have he:es.toList=xs.map (entryOfKey (bA prog w)):=he'
 unfold setItem
 try with_reducible refine AAj ?_
 refine AA0 (wpAny_sequenceKey hT (by decide) (AA0 (AAk (name:=AA1 "__setitem__") hT slot_dict_setitem (AAm slot_dict_setitem hT entry_dict_setitem ?_ (args_dict_setitem _ _ _)))))
 refine(show wpAny (model prog w) _ (Builtin.Dict.notOrdered "__setitem__" ⟨[.ref d,.ref b,v],[]⟩ >>= _) _ _ s from AA0 (ACZ hT ?_))
 refine(show wpAny (model prog w) _ (dictSet d (.ref b) v >>= _) _ _ s from AA0 ?_)
 unfold dictSet
 try with_reducible refine AAj ?_
 refine AA0 ((bA prog w).pyHash hu kat ?_)
 unfold dictSetHashed
 try with_reducible refine AAj ?_
 have hl:es.size=xs.length:=size_of_entries he
 refine AA0 (wpAny_dictFind_heap (s:={ s with toks:=s.toks+(bA prog w).draws k }) hu kat ho hd he his hn (λhno=>?_) λj p hj=>?_)
 ·refine AA0 (ACE (wpAny_updateDictKeys (hz:=by lia) (s:={ s with toks:=s.toks+(bA prog w).draws k }) ho hd (AA5 ⟨.none,rfl,AA5 (hQ _ ⟨_,es.push ⟨(bA prog w).hash k,.ref b,v⟩,AAx _ ho (ACx (ACl hd _)),hc.mapDictKeys _,?_,?_⟩ (ABE ..))⟩)))
  ·rw[ACl hd,storedH_new (ADU hno),AAH];rfl
  ·rw[storedH_new (ADU hno)]
   rw[Array.toList_push,he,AAp]
   rfl
 ·refine AA0 (ACE (AA0 (wpAny_updateDict (s:={ s with toks:=s.toks+(bA prog w).draws k }) ho hd (wpAny_point (AA5 ⟨.none,rfl,AA5 (hQ _ ⟨_,es.modify j λe=>{ e with val:=v },AAx _ ho (ACx (ADf hd _)),hc.mapDict _,?_,?_⟩ (ABE ..))⟩)))))
  ·rw[ADf hd,storedH_old (atKey_of_get hn hj),AA4]
  ·rw[storedH_old (atKey_of_get hn hj)]
   have q:=modify_map_putAt (entryOfKey (bA prog w)) (λe:DictEntry=>{ e with val:=v }) k v (λ_ _=>rfl) hn hj
   rw[<-he]at q
   obtain⟨l⟩:=es
   have q2:(Array.modify ⟨l⟩ j λe:DictEntry=>{ e with val:=v }).toList=(xs.map (putAt k v)).map (entryOfKey (bA prog w)):=by simpa using q
   exact q2
section
variable{X:Cx}{o i value:Expr}{td ty tv:DTE}{pos pos':Pos}{k:Nat}
def jA:DTE:=λ_ M Q=>Q (.ref M.length) (M++[.dkt []])
theorem ED:DE X (.Dict [] [] pos) jA:=by
 rintro pins s σ H R I ⟨S,M,ρ,Q,sm,sr,q,kk⟩
 have hf:H s.heap.objs.size=none:=I.hok.fresh (AAA _)
 have hb:(s.heap.objs.size==sysModules)=false:=beq_eq_false_iff_ne.mpr (AAr (AAK I.big))
 refine wpAny_Dict_empty ⟨.ref s.heap.objs.size,_,I.laid (a:=s.heap.objs.size) (o:=.ext (dX s.heap.objs.size [])) (t':=s.toks) (λ_ _ q=>AA3 _ q) (AAA _) (pH ⟨_,#[],AAD _ rfl,⟨rfl,rfl,rfl⟩,rfl,rfl⟩),rfl,?_⟩
 exact kk _ _ ⟨.ref M.length,M++[.dkt []],ρ++[s.heap.objs.size],sm.laidM (mo:=.dkt []) hf ⟨AAX _,hb,ACO,[],ay,.nil⟩,Grow.laidR hf,.ref sm.last,(show Q (.ref M.length) (M++[.dkt []])from q)⟩
def lq(td ty:DTE):DTE:=λS M Q=>td S M λx M1=>ty S M1 λy M2=>match x,y with
 | .ref n,.tup ks=>∃kvs d,M2[n]?=some (.dkt kvs)/\hV 8 (.tup ks)=true/\dY kvs (.tup ks)=some d/\Q d M2
 | _,_=>False
theorem EF(hr:Room k X.A)(ho:DE X o td)(hi:DE X i ty)(hs:BK i):DE X (.Subscript o i pos) (lq td ty):=by
 rintro pins s σ H R I ⟨S,M,ρ,Q,sm,sr,q,kk⟩
 have un:=hr.un
 refine ug PySem.F.slot_dict_getitem.lookup hs (thn (ho pins s σ H _ I ⟨S,M,ρ,_,sm,sr,q,λv H' z=>z⟩) ?_)
 rintro u s1 ⟨v,H1,I1,rv,x,M1,ρ1,sm1,g1,r1,q1⟩
 refine thn (hi pins s1 σ H1 _ I1 ⟨S,M1,ρ1,_,sm1,sr.grow g1,q1,λv H' z=>z⟩) ?_
 rintro iv s2 ⟨w,H2,I2,rw',y,M2,ρ2,sm2,g2,r2,q2⟩
 cases x with
 | ref n =>
  cases y with
  | tup ks =>
   obtain⟨kvs,d,hM,kd,hg,q3⟩:=q2
   obtain⟨a,rfl,hn⟩:=Rep.inv_ref r1
   obtain rfl:u=AAe a:=rv
   obtain⟨xs,hH,r,dd,hsm,hl,hx,_⟩:=gx I2 sm2 (av g2.pre hn) hM
   have kat:=eI I2 8 _ _ _ r2 rw' kd
   rcases qS r (.tup ks)with⟨z,_⟩|⟨d',p,v',e1,e2,e3,e4⟩
   ·rw[hg]at z;cases z
   ·rw[hg]at e1
    cases e1
    obtain⟨b,_,rfl,_⟩:=id kat
    refine⟨dd.typeIs,wpAny_getItem_heap (knd:=bA X.prog X.w) (k:=.tup ks) (by show X.A.units+1+8<cLine;lia) kat dd e2 ⟨v',H2,I2.tok _,e4,kk _ _ ⟨d,M2,ρ2,sm2,g1.trans g2,e3,q3⟩⟩⟩
  | _=>exact q2.elim
 | _=>exact q2.elim
def jn(td ty tv:DTE):DTS:=λE S M=>tv S M λv M1=>td S M1 λx M2=>ty S M2 λy M3=>match x,y with
 | .ref n,.tup ks=>∃kvs,M3[n]?=some (.dkt kvs)/\hV 8 (.tup ks)=true/\kvs.length<sizeLine/\E.nx S (M3.set n (.dkt (gG kvs (.tup ks) v)))
 | _,_=>False
theorem fO(h:(kvs.map (·.1)).Nodup):((gG kvs y v).map (·.1)).Nodup:=by
 unfold gG
 split
 ·rw[AAS]
  have:((λx:D×D=>x.1) ∘ λp:D×D=>if p.1=y then(p.1,v)else p)=λx=>x.1:=by
   funext p
   show (if p.1=y then(p.1,v)else p).1=p.1
   split<;>rfl
  rw[this];exact h
 ·rename_i q
  rw[AAp,ADD,ACG]
  refine⟨h,by simp,λa ha b hb=>?_⟩
  rw[AB0.mp hb]
  rintro rfl
  obtain⟨p,hp,e⟩:=AAB.mp ha
  refine q ?_
  unfold dY
  rw[ADQ,List.find?_isSome]
  exact⟨p,hp,by simpa using e⟩
theorem Bh(hr:Room k X.A)(ho:DE X o td)(hi:DE X i ty)(hv:DE X value tv)(hs:swapsWith value (some (.Subscript o i pos')) pos.line X.env=pure false):DS X (.Assign [.Subscript o i pos'] value pos) (jn td ty tv):=by
 rintro pins s σ H E I ⟨S,M,ρ,F,sm,sr,q,kk⟩
 have un:=hr.un
 refine wpAny_Assign_Subscript (thn (hv pins s σ H _ I ⟨S,M,ρ,_,sm,sr,q,λv H' z=>z⟩) λr s1 ⟨v,H1,I1,rv,dv,M1,ρ1,sm1,g1,r1,q1⟩=>thn (ho pins s1 σ H1 _ I1 ⟨S,M1,ρ1,_,sm1,sr.grow g1,q1,λv H' z=>z⟩) λu s2 ⟨vx,H2,I2,rx,x,M2,ρ2,sm2,g2,r2,q2⟩=>thn (hi pins s2 σ H2 _ I2 ⟨S,M2,ρ2,_,sm2,(sr.grow g1).grow g2,q2,λv H' z=>z⟩) ?_) hs
 rintro iv s3 ⟨vy,H3,I3,ry,y,M3,ρ3,sm3,g3,r3,q3⟩
 cases x with
 | ref n =>
  cases y with
  | tup ks =>
   obtain⟨kvs,hM,kd,hl,q4⟩:=q3
   obtain⟨a,rfl,hn⟩:=Rep.inv_ref r2
   obtain rfl:u=AAe a:=rx
   have hn3:=av g3.pre hn
   obtain⟨xs,hH,r,dd,hsm,_,hx,nd⟩:=gx I3 sm3 hn3 hM
   have kat:=eI I3 8 _ _ _ r3 ry kd
   obtain⟨b,_,rfl,_⟩:=id kat
   obtain⟨_,_,rfl,hq,rr⟩:=Rep.inv_tup r3
   cases ry
   have r':=yN r kd (.tup hq rr) ((r1.grow g2).grow g3) rv
   have pl:=kH (kvs:=kvs) (k:=.tup ks) (d:=dv)
   obtain⟨w1,w2⟩:=sm3.writeT hn3 hM hH (by have:=pl;lia) hsm (fO nd) r'
   refine setE (k:=.tup ks) (by show X.A.units+1+8<cLine;lia) kat dd (yW I3 hH) (by lia) λh' dd' hsb=>?_
   have he:∃q,h'.get? a=some q:=let ⟨q,_,hq,_⟩:=dd';⟨q,hq⟩
   exact⟨σ,_,pO I3 (by rw[hH];exact ACN) hsb he (pH dd'),kk.nx σ _ (SQ.trans ((g1.trans g2).trans g3) ⟨S,_,ρ3,w1,w2,(((sr.grow g1).grow g2).grow g3).grow w2,q4⟩)⟩
  | _=>exact q3.elim
 | _=>exact q3.elim
def dMt(r:Nat->DRA)(to:DTE)(t:DTA):DTE:=λS M Q=>to S M λx M1=>match x with
 | .ref n=>(∃kvs,M1[n]?=some (.dkt kvs))/\t S M1 λds M2=>r n ds M2 Q
 | _=>False
variable{name:Str}{id:String}{e:Expr}{es:List Expr}{to:DTE}{t:DTA}{apos cpos:Pos}
theorem d_mt{r:Nat->DRA}(slot:Slot "dict" name id)(hty:typeOf (.builtin id)=pure (.type "method_descriptor"))(hm:MtR X id (uQ X.K r))(ho:DE X o to)(ha:DA X (e::es) t)
  (hbase:attributeBase o name X.env (eval o X.env)=eval o X.env:=by rfl)
  (hfew:((backTo cpos (starEach (e::es) X.env)).all (λx=>!x.1)&&(backToKw cpos (keywordEach [] X.env)).all (λx=>x.1.isSome)
   && decide ((e::es).length+([]:List Keyword).length+(if ([]:List Keyword).isEmpty then 0 else 1)<30))=true:=by rfl)
  (hline:(apos.endLine==cpos.line)=true:=by rfl) (hs:starEach (e::es) X.env=(false,eval e X.env)::starEach es X.env:=by rfl) (hplain:(backTo cpos (starEach es X.env)).any (·.1)=false:=by rfl) :
  DE X (.Call (.Attribute o name apos) (e::es) [] cpos) (dMt r to t):=by
 rintro pins s σ H R I ⟨S,M,ρ,Q,sm,sr,q,kk⟩
 refine wpAny_Call_method_late hbase hfew hline rfl (thn (ho pins s σ H _ I ⟨S,M,ρ,_,sm,sr,q,λv H' z=>z⟩) ?_)
 rintro u s1 ⟨v,H1,I1,rv,x,M1,ρ1,sm1,g1,r1,q1⟩
 cases r1 with
 | @ref n a hn =>
  cases rv
  obtain⟨⟨kvs,hM⟩,q1⟩:=(show (∃kvs,M1[n]?=some (.dkt kvs))/\t S M1 _ from q1)
  obtain⟨xs,hH,r,dd,hsm,hl,hx,nd⟩:=gx I1 sm1 hn hM
  refine⟨"dict",id,PySem.F.plainAttrs_dict,slot,hty,dd.typeIs,λb z=>?_,?_⟩
  ·cases z
   obtain⟨ob,_,_,h1,h2,_⟩:=dd
   exact⟨ob,h1,h2.2.1⟩
  ·have hA:=ha cpos pins s1 σ H1 _ I1 ⟨S,M1,ρ1,_,sm1,sr.grow g1,q1,λvs H' z=>z⟩
   rw[hs]at hA ⊢
   refine ADK (by show (false||(backTo cpos (starEach es X.env)).any (·.1))=false;rw[hplain]<;>rfl) (Calls.evalArgs_plain ?_)
   refine thn hA ?_
   rintro us s2 ⟨vs,H2,I2,rvs,ds,M2,ρ2,sm2,g2,rr,q2⟩
   exact hm pins s2 σ H2 (.ref a) vs (.ref a) us R I2 rfl rvs ⟨n,a,ds,M2,ρ2,Q,rfl,av g2.pre hn,sm2,rr,q2,λv H' w=>kk v H' (VQ.trans (g1.trans g2) w)⟩
 | _=>exact q1.elim
def dG(n:Nat):DRA:=λds M Q=>match ds with
 | [.tup ks,d]=>∃kvs,M[n]?=some (.dkt kvs)/\hV 8 (.tup ks)=true/\Q ((dY kvs (.tup ks)).getD d) M
 | _=>False
theorem xG(hr:Room k X.A):MtR X "dict.get" (uQ X.K dG):=by
 rintro pins s σ H x xs v us R I rx rs ⟨n,a,ds,M,ρ,Q,ez,hn,sm,rr,q,kk⟩
 have un:=hr.un
 unfold dG at q
 split at q
 ·rename_i ks d
  obtain⟨kvs,hM,kd,q⟩:=q
  first | have hzz:=Reps.inv_cons rr | have hzz:=ar.inv_cons rr
  clear rr
  obtain⟨_,_,rfl,r1,rr⟩:=hzz
  first | have hzz:=Reps.inv_cons rr | have hzz:=ar.inv_cons rr
  clear rr
  obtain⟨_,_,rfl,r2,rr⟩:=hzz
  cases rr
  obtain⟨u1,u2,rfl,e1,e2⟩:=ar.two rs
  subst ez
  cases rx
  obtain⟨ys,hH,r,dd,hsm,hl,hx,nd⟩:=gx I sm hn hM
  have kat:=eI I 8 _ _ _ r1 e1 kd
  obtain⟨b,_,rfl,_⟩:=id kat
  refine call_meetsIn PySem.F.slot_dict_get dd.typeIs PySem.F.entry_dict_get (PySem.F.args_dict_get_3 _ _ _) (meetsH_dict_get_default (bA X.prog X.w) a b hsm u2) ⟨by show X.A.units+1+8<cLine;lia,.tup ks,ys,kat,dd,?_⟩
  rcases qS r (.tup ks)with⟨z1,z2⟩|⟨d',p,v',z1,z2,z3,z4⟩
  ·rw[z2]
   rw[z1]at q
   exact⟨_,H,I.tok _,e2,kk _ _ ⟨d,M,ρ,sm,.refl,r2,q⟩⟩
  ·rw[z2]
   rw[z1]at q
   exact⟨_,H,I.tok _,z4,kk _ _ ⟨d',M,ρ,sm,.refl,z3,q⟩⟩
 ·exact q.elim
end
def cB(h:Heap)(d:Addr)(es:Array DictEntry)(ep:Nat):Prop:=∃o,h.get? d=some o/\o.ExactDict/\o.data=.dict es ep
theorem cB.ty{s:Shared}{d:Addr}{es:Array DictEntry}{ep:Nat}(x:cB s.heap d es ep):s.TypeIs (.ref d) "dict":=by
 obtain⟨o,h1,h2,_⟩:=x
 exact⟨o,h1,h2.1⟩
theorem cB.lt(x:cB h d es ep):d<h.objs.size:=by
 obtain⟨o,h1,_⟩:=x
 exact AAF h1
theorem cB.to(x:cB h d es ep)(k:∀o,h.get? d=some o->h'.get? d=some o):cB h' d es ep:=by
 obtain⟨o,h1,h2⟩:=x
 exact⟨o,k o h1,h2⟩
theorem rm{Q:Value->Shared->Prop}(hd:(d==sysModules)=false)(hm:cB s.heap d es ep)
  (hQ:Q (.ref s.heap.objs.size) { s with heap:=s.heap.push { cls:=.type "dict_keyiterator",data:=.fields #[.ref d,.int 0 0,.int es.size 0,.int ep 0] } }) :
  wpAny (model prog w) A (pyIter (.ref d)) Q E s:=by
 have hT:=hm.ty
 obtain⟨o,h1,h2,h3⟩:=hm
 refine wpAny_pyIter_slot hT F.slot_dict_iter (AAm F.slot_dict_iter hT F.entry_dict_iter ?_ (F.args_dict_iter_1 _))
 unfold Builtin.«dict.__iter__»
 refine AA0 ?_
 unfold Builtin.Dict.dictSlotNone
 refine AA0 (ACZ hT (AA5 ?_))
 refine(show wpAny (model prog w) _ (ACa d >>= _) _ _ s from ?_)
 unfold ACa
 rw[hd]
 refine AA0 (AA5 (AA0 (ACH h1 h3 (AA0 (ACb h1 h3 ?_)))))
 exact AA0 (AAh (AA5 ⟨_,rfl,"dict_keyiterator",_,⟨_,AAD _ rfl,rfl⟩,F.slot_dict_keyiterator_next.lookup,by simpa [rawInt]using hQ⟩))
theorem rj(hit:s.heap.IsKeyIter it d i es.size ep)(hm:cB s.heap d es ep)(hi:i<es.size)
  (hQ:∀h',h'.IsKeyIter it d (i+1) es.size ep->ABA it s.heap h'->Q (some es[i].key) { s with heap:=h' }):wpAny (model prog w) A (pyNext (.ref it)) Q E s:=by
 obtain⟨o,ho,hc,hd⟩:=id hit
 obtain⟨od,k1,k2,k3⟩:=id hm
 unfold pyNext
 refine AA0 (ACi (AAk (name:=AA1 "__next__") hit.typeIs F.slot_dict_keyiterator_next (AAm F.slot_dict_keyiterator_next hit.typeIs F.entry_dict_keyiterator_next ?_ (F.args_dict_keyiterator_next_1 _))))
 refine AA0 (AA5 (AA0 (AA0 ?_)))
 first | refine AA0 (ABs hit.typeIs (AA5 (AA0 (AC7 ho hd ?_)))) | refine AA0 (ACI hit.typeIs (AA5 (AA0 (AC7 ho hd ?_))))
 rw[show ABb "dict_keyiterator" = false by decide]
 refine(show wpAny (model prog w) _ (if (AAe d==ABO)=true then _ else _) _ _ s from ?_)
 rw[if_neg (by exact AB9)]
 refine AA0 (AA5 (AA0 (ACH k1 k3 ?_)))
 rw[if_neg (by simp)]
 refine AA0 (AA5 (AA0 (ACb k1 k3 ?_)))
 rw[if_neg (by simp)]
 refine AA5 ?_
 dsimp only
 rw[if_neg (show ¬((i:Int)<0)from by lia),AAw,AAq hi]
 dsimp only
 refine AA0 ?_
 first | refine AA0 (ABs hit.typeIs (AA5 ?_)) | refine AA0 (ACI hit.typeIs (AA5 ?_))
 refine AA0 (wpAny_isOneOf_keyiter hit.typeIs ?_)
 refine(show wpAny (model prog w) _ (setField (.ref it) 1 (rawInt ((i:Int)+1)) >>= _) _ _ s from AA0 (ADY ho hd (by simp) ?_))
 have hit':(s.heap.update it (Obj.mapFields (·.setIfInBounds 1 (rawInt ((i:Int)+1))))).IsKeyIter it d (i+1) es.size ep:=by
  refine⟨_,AAx _ ho (Obj.isFreed_of_fields (ADA hd _)),(Obj.cls_mapFields ..).trans hc,?_⟩
  rw[ADA hd];simp[rawInt]
 refine AA0 (AAj (AA0 (wpAny_isOneOf_keyiter (s:={ s with heap:=s.heap.update it (Obj.mapFields (·.setIfInBounds 1 (rawInt ((i:Int)+1)))) }) hit'.typeIs ?_)))
 refine(show wpAny (model prog w) _ (pure es[i].key) _ _ _ from ?_)
 exact AA5 (AA5 ⟨_,rfl,AA5 (hQ _ hit' (ABE ..))⟩)
theorem we(hh:A.handled=none)(hit:s.heap.IsKeyIter it d es.size es.size ep)(hm:cB s.heap d es ep)
  (hQ:∀h',Heap.ExtBut it s.heap h'->Q none { s with heap:=h' }):wpAny (model prog w) A (pyNext (.ref it)) Q E s:=by
 obtain⟨o,ho,hc,hd⟩:=id hit
 obtain⟨od,k1,k2,k3⟩:=id hm
 unfold pyNext
 refine AA0 (ACi (AAk (name:=AA1 "__next__") hit.typeIs F.slot_dict_keyiterator_next (AAm F.slot_dict_keyiterator_next hit.typeIs F.entry_dict_keyiterator_next ?_ (F.args_dict_keyiterator_next_1 _))))
 refine AA0 (AA5 (AA0 (AA0 ?_)))
 first | refine AA0 (ABs hit.typeIs (AA5 (AA0 (AC7 ho hd ?_)))) | refine AA0 (ACI hit.typeIs (AA5 (AA0 (AC7 ho hd ?_))))
 rw[show ABb "dict_keyiterator" = false by decide]
 refine(show wpAny (model prog w) _ (if (AAe d==ABO)=true then _ else _) _ _ s from ?_)
 rw[if_neg (by exact AB9)]
 refine AA0 (AA5 (AA0 (ACH k1 k3 ?_)))
 rw[if_neg (by simp)]
 refine AA0 (AA5 (AA0 (ACb k1 k3 ?_)))
 rw[if_neg (by simp)]
 refine AA5 ?_
 dsimp only
 rw[if_neg (show ¬((es.size:Int)<0)from by lia),AAw,ADL (AAA es.size)]
 dsimp only
 refine AA0 ?_
 first | refine AA0 (ABs hit.typeIs (AA5 ?_)) | refine AA0 (ACI hit.typeIs (AA5 ?_))
 refine(show wpAny (model prog w) _ (setField (.ref it) 0 .none >>= _) _ _ s from AA0 (ADY ho hd (by simp) ?_))
 refine(show wpAny (model prog w) _ (newExc (.type "StopIteration") [] >>= _) _ _ _ from AA0 ?_)
 simp only[newExc,newTuple]
 refine AA0 (AAh ?_ (by size_fits))
 refine AA0 (m:=firstArgMember _ _) (wpAny_of_eq (a:=ABO) (by first | rfl | (simp only[firstArgMember];rfl)) ?_)
 refine AAh ?_ (by size_fits)
 simp only[raiseNew]
 refine AA0 (wpAny_handled ?_)
 rw[show A.in1.handled=none from hh]
 refine AA0 (AA5 (wpAny_throw ?_))
 refine AA0 (ADd (b:=true) (T:="StopIteration") ⟨_,AAD _ rfl,rfl⟩ isSubtype_stop ?_)
 exact AA5 (hQ _ (((ABE ..).extBut.push _).push _))
theorem wa(hh:A.handled=none)(I:Addr)(hne:d≠I):Walks prog w A I [I,d] [I] es.size (λi v=>∃e,es[i]?=some e/\v=e.key) (λi h=>h.IsKeyIter I d i es.size ep/\cB h d es ep) where
 sub:=λb hb=>by simp at hb;simp[hb]
 frame:=λ_ _ _ st hk=>⟨st.1.at λo e=>hk I (by simp) o e,st.2.to λo e=>hk d (by simp) o e⟩
 item:=λi s Q E hi st hQ=>rj st.1 st.2 hi λh' hit' hs'=>hQ _ h' s.toks ⟨es[i],by simp[hi],rfl⟩ ⟨hit',st.2.to λo e=>hs'.extBut d o hne e⟩ λb o hb e=>hs'.extBut b o (λh=>hb (by simp[h])) e
 done:=λs Q E st hQ=>we hh st.1 st.2 λh' he'=>hQ h' s.toks λb o hb e=>he' b o (λh=>hb (by simp[h])) e
 self:=λ_ _ _ _ st hQ=>wpAny_pyIter_keyiter st.1 hQ
theorem AZ(lo:(d==sysModules)=false):KdlSrc prog w "dict" d d es.size (λi v=>∃e,es[i]?=some e/\v=e.key) (λh=>cB h d es ep) where
 type:=λ_ hm=>hm.ty
 there:=λ_ hm=>⟨hm.lt,hm.lt⟩
 keep:=λ_ _ hm hk=>hm.to λo e=>hk d (.inl rfl) o e
 notList:=by decide
 notTuple:=by decide
 hint:=λ_ _ _ _ hm hq=>kdl_hint_dict hm.ty hq
 iter:=λ_ _ hh hm=>⟨_,_,(λ_ _ hq=>rm lo hm hq),wa hh _ (AAK hm.lt),⟨⟨_,AAD _ rfl,rfl,rfl⟩,hm.to λo e=>AA3 _ e⟩⟩
noncomputable def Ite(a:Addr)(n:Nat):It :=
 ⟨λi H=>∃xs,H a=some (.ext (dX a xs))/\xs.length=n/\i<n,λi H v H'=>H'=H/\∀xs,H a=some (.ext (dX a xs))->∃x,xs[i]?=some x/\v=.ref x.2.1,λi H=>(∃xs,H a=some (.ext (dX a xs))/\xs.length=n)/\i=n⟩
theorem ki(I:Inv X pins σ H s)(hH:H a=some (.ext (dX a xs))):∃es,cB s.heap a es xs.length/\es.size=xs.length/\∀(i:Nat) x,xs[i]?=some x->∃e,es[i]?=some e/\e.key=.ref x.2.1/\e.val=x.2.2:=by
 obtain⟨o,es,h1,h2,h3,h4⟩:=yW I hH
 refine⟨es,⟨o,h1,h2,h3⟩,?_,λi x hx=>?_⟩
 ·have:=congrArg ACS h4
  rwa [ABU,AA4]at this
 ·refine⟨⟨hkD X.w 8 x.1,.ref x.2.1,x.2.2⟩,?_,rfl,rfl⟩
  rw[<-ACX,h4,AAN,hx]
  rfl
theorem ym(x:cB h a es ep)(y:cB h a es' ep'):es=es'/\ep=ep':=by
 obtain⟨o,h1,_,h3⟩:=x
 obtain⟨o',h1',_,h3'⟩:=y
 obtain rfl:o=o':=AAM (h1.symm.trans h1')
 rw[h3]at h3'
 injection h3' with e1 e2
 exact⟨e1,e2⟩
theorem wU{P:Program}{w:World}{K:AA2}{tg:Expr}(a it:Addr)(n:Nat):Turn P w K tg (Ite a n) [it] it (λi h=>h.IsKeyIter it a i n n) where
 mem:=by simp
 obj:=λi h st b hb=>by
  obtain rfl:b=it:=by simpa using hb
  obtain⟨o,e,c,d⟩:=st
  exact⟨o,e,λv z=>by rw[d]at z;cases z⟩
 keep:=λi h h' st k=>st.at λo e=>k it (by simp) o e
 item:=by
  intro X hP hw hK hc i pins s σ H E I hf st hg
  subst hP hw hK
  obtain⟨xs,hH,rfl,hi⟩:=hg
  obtain⟨es,em,el,eg⟩:=ki I hH
  obtain⟨e,e1,e2,e3⟩:=eg i xs[i] (AA6 hi)
  obtain⟨f0,f1,f2,f3,f4,f5⟩:=hf it (by simp)
  have hi':i<es.size:=by lia
  have ee:es[i]=e:=by
   rw[AAq hi']at e1
   exact AAM e1
  rw[<-el]at em st
  refine rj st em hi' λh' st' sb=>?_
  rw[ee,e2]
  have I1:Inv X pins σ H { s with heap:=h' }:=I.turned (t':=s.toks) (λb o hb e=>(sb.2 b hb).trans e) f0 f1 f3 f4 f5
  obtain⟨o,q1,q2,q3⟩:=id st'
  refine⟨_,rfl,vV (s:={ s with heap:=h' }) q1 q2 q3 (by decide) ⟨.ref xs[i].2.1,H,I1,rfl,⟨rfl,λys hy=>?_⟩,by rw[el]at st';exact st',λb hb=>(hf b hb).1⟩⟩
  obtain⟨es',em',el',eg'⟩:=ki I hy
  obtain⟨rfl,ep⟩:=ym em em'
  have hj:i<ys.length:=by lia
  obtain⟨e',z1,z2,_⟩:=eg' i ys[i] (AA6 hj)
  rw[AAq hi',ee]at z1
  obtain rfl:=AAM z1
  rw[e2]at z2
  injection z2 with z2
  exact⟨ys[i],AA6 hj,by rw[z2]⟩
 done:=by
  intro X hP hw hK hc i pins s σ H E I hf st hg
  subst hP hw hK
  obtain⟨⟨xs,hH,rfl⟩,rfl⟩:=hg
  obtain⟨es,em,el,eg⟩:=ki I hH
  obtain⟨f0,f1,f2,f3,f4,f5⟩:=hf it (by simp)
  rw[<-el]at em st
  exact we (I.ok.hd hc) st em λh' he=>⟨rfl,I.turned (t':=s.toks) (λb o hb e=>he b o hb e) f0 f1 f3 f4 f5⟩
 self:=λA i s Q E st hQ=>wpAny_pyIter_keyiter st hQ
def rz(tl:DTE):DTI:=λS M R=>tl S M λd M1=>match d with
 | .ref n=>∃kvs,M1[n]?=some (.dkt kvs)/\(kvs.length<=sizeLine->R ⟨kvs.map (·.1),λM=>M[n]?=some (.dkt kvs)⟩ M1)
 | _=>False
theorem yq{l:Expr}{tl:DTE}(hl:DE X l tl):DI X tg l (rz tl):=by
 intro pins s σ H R I h
 obtain⟨S,M,ρ,Q,sm,sr,q,k⟩:=h
 refine thn (hl pins s σ H _ I ⟨S,M,ρ,_,sm,sr,q,λv H' w=>w⟩) ?_
 rintro u s1 ⟨v,H1,I1,rv,d,M1,ρ1,sm1,g1,r1,q1⟩
 cases r1 with
 | @ref n a hn =>
  cases rv
  obtain⟨kvs,hM,q2⟩:=(show ∃kvs,M1[n]?=some (.dkt kvs)/\(kvs.length<=sizeLine->Q ⟨kvs.map (·.1),λM=>M[n]?=some (.dkt kvs)⟩ M1)from q1)
  obtain⟨xs,hH,r,dd,hsm,hz,hx,nd⟩:=gx I1 sm1 hn hM
  obtain⟨es,em,el,_⟩:=ki I1 hH
  refine rm hsm em ?_
  rw[el]
  refine⟨s1.heap.objs.size,[s1.heap.objs.size],_,_,H1,rfl,I1.kept (t':=s1.toks) λb o e=>AA3 _ e,wU a _ xs.length,⟨_,AAD _ rfl,rfl,rfl⟩,λb hb=>?_,k _ H1 ⟨⟨kvs.map (·.1),λM=>M[n]?=some (.dkt kvs)⟩,M1,ρ1,sm1,g1,?_,q2 hz⟩⟩
  ·obtain rfl:b=s1.heap.objs.size:=by simpa using hb
   exact I1.fpOk (AAA _) (I1.hok.fresh (AAA _))
  ·refine⟨λi ρ' M' H' s' g ok hi=>?_,λi ρ' M' H' x H2 s' g ok hi y=>?_,λρ' M' H' s' g ok=>?_⟩
   ·obtain⟨_,_,_,ys,hy,ry⟩:=s'.obj _ _ _ (av g.pre hn) ok
    have ly:ys.length=kvs.length:=by have:=congrArg ACS (jf ry);rwa [AA4,AA4]at this
    exact⟨ys,hy,by lia,by rw[AA4]at hi;lia⟩
   ·obtain⟨rfl,hall⟩:=y
    obtain⟨_,_,_,ys,hy,ry⟩:=s'.obj _ _ _ (av g.pre hn) ok
    obtain⟨z,hz1,rfl⟩:=hall ys hy
    obtain⟨p,hp,_,_,rp,_⟩:=fQ ry hz1
    exact⟨p.1,ρ',by rw[AAN,hp];rfl,s',.refl,rp⟩
   ·obtain⟨_,_,_,ys,hy,ry⟩:=s'.obj _ _ _ (av g.pre hn) ok
    have ly:ys.length=kvs.length:=by have:=congrArg ACS (jf ry);rwa [AA4,AA4]at this
    exact⟨⟨ys,hy,by lia⟩,by rw[AA4];lia⟩
 | _=>exact q1.elim
theorem rX{K:AA2}{ρ:List Addr}{H:Hp}{kvs:List (D×D)}{xs:List (D×Addr×Value)}(r:Paired (om K ρ H) kvs xs):Reps K ρ H (kvs.map (·.1)) (xs.map λx=>V.ref x.2.1):=by
 induction r with
 | nil=>exact .nil
 | cons h t ih=>exact .cons h.2.2.1 ih
theorem lQ:∀(xs:List (D×Addr×Value)) (vs:List Value),vs.length=xs.length->(∀(j:Nat) (v:Value) x,vs[j]?=some v->xs[j]?=some x->v=.ref x.2.1)->ar (xs.map λx=>V.ref x.2.1) vs
 | [],[],_,_=>.nil
 | [],_::_,e,_=>by simp at e
 | _::_,[],e,_=>by simp at e
 | x::xs,v::vs,e,h=>.cons (h 0 v x rfl rfl) (lQ xs vs (by simpa using e) λj u y h1 h2=>h (j+1) u y (by simpa using h1) (by simpa using h2))
def cI:DRA:=λds M Q=>match ds with
 | [.ref n]=>∃kvs,M[n]?=some (.dkt kvs)/\SrtOk M (kvs.map (·.1))/\∀ys,ys.Perm (kvs.map (·.1))->lK M ys->Q (.ref M.length) (M++[.lst ys])
 | _=>False
theorem sK{k:Nat}(hr:Room k X.A)(hc:X.calm=true):fZ X (.builtin "sorted") cI:=by
 rintro pins s σ H vs us R I rv ⟨ds,M,ρ,Q,sm,rs,q,kk⟩
 unfold cI at q
 split at q
 ·obtain⟨kvs,hM,so,q⟩:=q
  first | have hzz:=Reps.inv_cons rs | have hzz:=ar.inv_cons rs
  clear rs
  obtain⟨_,_,rfl,r1,rs⟩:=hzz
  cases rs
  obtain⟨u,rfl,e1⟩:=ar.one rv
  obtain⟨a,rfl,e⟩:=Rep.inv_ref r1
  cases e1
  obtain⟨xs,hH,r,dd,z2,hz,hx,nd⟩:=gx I sm e hM
  obtain⟨es,em,el,eg⟩:=ki I hH
  obtain⟨m,hn,hm⟩:=I.loc
  have hne:a≠X.env.locals:=ac hH I.free
  obtain⟨oa,hoa,_⟩:=id em
  have mem:∀b o,(b,o)∈[]++(a,oa)::Att.ledger s.heap X.env.locals a↔b≠X.env.locals/\s.heap.get? b=some o:=λb o=>by
   rw[AAo,AAG,Att.mem_ledger]
   constructor
   ·rintro(h | ⟨h1,_,h3⟩)
    ·cases h;exact⟨hne,hoa⟩
    ·exact⟨h1,h3⟩
   ·rintro⟨h1,h2⟩
    by_cases hal:b=a
    ·subst hal
     rw[hoa]at h2;cases h2
     exact .inl rfl
    ·exact .inr ⟨h1,hal,h2⟩
  have sl:=so.len
  rw[AA4]at sl
  refine kdu_sorted (AZ (es:=es) (ep:=xs.length) z2) (I.ok.hd hc) (Att.fr_all hn) (Att.news_ledger hne hoa) em (by rw[ABV];lia) λD h' tk vs F' N' lt hl hP=>?_
  have kp:∀b u,b≠X.env.locals->s.heap.get? b=some u->h'.get? b=some u:=λb u hb e=>(N' (b,u) (AA9 _ ((mem b u).mpr ⟨hb,e⟩))).1
  have hDL:D≠X.env.locals:=(N' _ AAE).2.1
  have hD:s.heap.get? D=none:=by
   cases q:s.heap.get? D with
   | none=>rfl
   | some o=>exact absurd (lt (D,o) ((mem D o).mpr ⟨hDL,q⟩)) (AAW _)
  have rvs:ar (xs.map λx=>V.ref x.2.1) vs:=by
   refine lQ xs vs (by lia) λj v x hj hx'=>?_
   obtain⟨e0,g1,rfl⟩:=hP j v hj
   obtain⟨e2,g2,g3,_⟩:=eg j x hx'
   rw[g1]at g2
   obtain rfl:=AAM g2
   exact g3
  have rps:=rX r
  exact oH (n:=0) hr (by show X.A.units+1<=X.A.units+4;lia) I sm so.g rps rvs hn F'.ns kp hD hDL (N' _ AAE).1 λv H' x=>kk v H' (x Q q)
 ·exact q.elim
def qInT:DR2:=λx y M Q=>match x,y with
 | .tup ks,.ref n=>∃kvs,M[n]?=some (.dkt kvs)/\hV 8 (.tup ks)=true/\Q (.bl (dY kvs (.tup ks)).isSome) M
 | _,_=>False
theorem Dd(hr:Room k X.A):OpD X (compareOp .In) qInT:=by
 rintro pins s σ H vx vy v u R I rx ry ⟨x,y,M,ρ,Q,sm,r1,r2,q,kk⟩
 have un:=hr.un
 cases x with
 | tup ks =>
  cases y with
  | ref n =>
   obtain⟨kvs,hM,kd,q⟩:=q
   obtain⟨a,rfl,hn⟩:=Rep.inv_ref r2
   cases ry
   obtain⟨xs,hH,r,dd,hsm,hl,hx,_⟩:=gx I sm hn hM
   have kat:=eI I 8 _ _ _ r1 rx kd
   obtain⟨b,_,rfl,_⟩:=id kat
   refine wpAny_in_heap (knd:=bA X.prog X.w) (k:=.tup ks) (by show X.A.units+1+8<cLine;lia) kat hsm dd ?_
   have e:(atKey xs (.tup ks)).isSome=(dY kvs (.tup ks)).isSome:=by
    rcases qS r (.tup ks)with⟨z1,z2⟩|⟨_,_,_,z1,z2,_⟩<;>rw[z1,z2]<;>rfl
   rw[e]
   exact jz (I.tok _) sm kk q
  | _=>exact q.elim
 | _=>exact q.elim
theorem DB:HE X (.Dict [] [] pos) jA:=⟨ED⟩
theorem DC(hr:Room k X.A)(ho:HE X o to)(hi:HE X i ti)(hs:BK i:=by intro _ _;kernel_rfl):HE X (.Subscript o i pos) (lq to ti):=⟨EF hr ho.ok hi.ok hs⟩
theorem vq(hr:Room k X.A)(ho:HE X o to)(hi:HE X i ti)(hv:HE X e te)(hs:swapsWith e (some (.Subscript o i pos')) pos.line X.env=pure false:=by kernel_rfl):HS X (.Assign [.Subscript o i pos'] e pos) (jn to ti te):=⟨Bh hr ho.ok hi.ok hv.ok hs⟩
theorem AD(hr:Room k X.A)(ho:HE X o to)(ha:HA X (e::es) t)(hbase:attributeBase o "get" X.env (eval o X.env)=eval o X.env:=by kernel_rfl)
  (hfew:((backTo cpos (starEach (e::es) X.env)).all (λx=>!x.1)&&(backToKw cpos (keywordEach [] X.env)).all (λx=>x.1.isSome)
   && decide ((e::es).length+([]:List Keyword).length+(if ([]:List Keyword).isEmpty then 0 else 1)<30))=true:=by kernel_rfl)
  (hline:(apos.endLine==cpos.line)=true:=by kernel_rfl) (hs:starEach (e::es) X.env=(false,eval e X.env)::starEach es X.env:=by kernel_rfl) (hplain:(backTo cpos (starEach es X.env)).any (·.1)=false:=by kernel_rfl) :
  HE X (.Call (.Attribute o "get" apos) (e::es) [] cpos) (dMt dG to t):=⟨d_mt PySem.F.slot_dict_get PySem.F.type_dict_get (xG hr) ho.ok ha.ok hbase hfew hline hs hplain⟩
theorem xU(h:HE X e te):HI X tg e (rz te):=⟨yq h.ok⟩
theorem sF(hr:Room k X.A)(hc:X.calm=true:=by kernel_rfl):HC X (.builtin "sorted") cI:=⟨sK hr hc⟩
theorem Ea(hr:Room k X.A):HOp X (compareOp .In) qInT:=⟨Dd hr⟩
theorem qX{K:AA2}{ρ:List Addr}{H:Hp}:∀{ns:List Int}{ws:List V}{its:List Value},Reps K ρ H (ns.map D.int) ws->ar ws its->IntsAre its ns
 | [],_,_,r,v=>by cases r;cases v;exact .nil
 | n::ns,_,_,r,v=>by
  rw[AAQ]at r
  first | have hzz:=Reps.inv_cons r | have hzz:=ar.inv_cons r
  clear r
  obtain⟨_,_,rfl,h,t⟩:=hzz
  cases h
  cases v with
  | cons q q' =>
   obtain⟨tk,rfl⟩:=q
   exact .cons _ _ (qX t q')
def uw:DRA:=λds M Q=>match ds with
 | [.ref n]=>∃ns:List Int,aq M n (ns.map D.int)/\ns≠[]/\∀m,m∈ns->(∀a∈ns,a<=m)->Q (.int m) M
 | _=>False
theorem Bx(hc:X.calm=true):fZ X (.builtin "max") uw:=by
 rintro pins s σ H vs us R I rv ⟨ds,M,ρ,Q,sm,rs,q,kk⟩
 unfold uw at q
 split at q
 ·obtain⟨ns,hL,hne0,q⟩:=q
  first | have hzz:=Reps.inv_cons rs | have hzz:=ar.inv_cons rs
  clear rs
  obtain⟨_,_,rfl,r1,rs⟩:=hzz
  cases rs
  obtain⟨u,rfl,e1⟩:=ar.one rv
  obtain⟨a,rfl,e⟩:=Rep.inv_ref r1
  cases e1
  obtain⟨ws,hq,r⟩:=aq.seq sm hL e
  obtain⟨its,rr,pl,hz⟩:=I.list hq
  obtain⟨m,hn,hm⟩:=I.loc
  obtain⟨oa,nn,hoa,hca,hdict,hdata⟩:=id pl
  have hne:a≠X.env.locals:=λz=>by
   subst z
   obtain⟨o,es,ep,e,hd,_⟩:=hn
   rw[hoa]at e
   cases e
   rw[hd]at hdata
   cases hdata
  have mem:∀b o,b≠X.env.locals->s.heap.get? b=some o->(b,o)∈[]++(a,oa)::Att.ledger s.heap X.env.locals a:=λb o h1 h2=>by
   rw[AAo,AAG,Att.mem_ledger]
   by_cases hal:b=a
   ·subst hal
    rw[hoa]at h2;cases h2
    exact .inl rfl
   ·exact .inr ⟨h1,hal,h2⟩
  refine max_list_N (I.ok.hd hc) (Att.fr_all hn) (Att.news_ledger hne hoa) pl.isList (qX r rr) (List.length_pos_iff.mpr hne0) λh' mm t tk F' N' h1 h2=>?_
  have kp:∀b u,b≠X.env.locals->s.heap.get? b=some u->h'.get? b=some u:=λb u hb e=>(N' (b,u) (mem b u hb e)).1
  exact⟨.int mm,H,I.keptF (t':=tk) kp hn F'.ns,⟨t,rfl⟩,kk _ _ ⟨.int mm,M,ρ,sm,.refl,.int mm,q mm h1 h2⟩⟩
 ·exact q.elim
theorem EO:bootBuiltins "max" = some (.builtin "max"):=by decide +kernel
theorem AT(hc:X.calm=true:=by kernel_rfl):HC X (.builtin "max") uw:=⟨Bx hc⟩
end L2
namespace L2
open PySem PySem.Spec PyProof.Rows DL PySem.W PySem.Calls PyProof.V
def cA(h:Heap)(it d:Addr)(i n ep:Nat)(x0 x1 ok ov:Value):Prop :=
 h.get? it=some { cls:=.type "dict_itemiterator",dict:=none,data:=.fields #[x0,x1,.ref d,.int i 0,.int n 0,.int ep 0,ok,ov],slots:=#[] }
def gD(h:Heap)(it d S:Addr)(i n ep:Nat):Prop:=∃x0 x1 ok ov,cA h it d i n ep x0 x1 ok ov/\((x0=.none/\x1=.bool false)\/∃(a:Addr) (f:Bool) (oa:Obj),x0=rawInt a/\x1=.bool f/\h.get? a=some oa/\a≠it/\a≠S)
theorem gD.to(x:gD h it d S i n ep)(hk:∀b o,b≠S->h.get? b=some o->h'.get? b=some o)(hI:it≠S):gD h' it d S i n ep:=by
 obtain⟨x0,x1,ok,ov,p,q⟩:=x
 refine⟨x0,x1,ok,ov,hk _ _ hI p,q.imp id ?_⟩
 rintro⟨a,f,oa,e0,e1,ha,hai,haS⟩
 exact⟨a,f,oa,e0,e1,hk _ _ haS ha,hai,haS⟩
theorem wb(hd:(d==sysModules)=false)(hm:cB s.heap d es ep)(hQ:Q (.ref s.heap.objs.size) { s with heap:=s.heap.push { cls:=.type "dict_items",data:=.fields #[.ref d] } }) :
  wpAny (model prog w) A (call (.builtin "dict.items") [.ref d]) Q E s:=by
 refine call_meetsIn PySem.F.slot_dict_items hm.ty PySem.F.entry_dict_items (PySem.F.args_dict_items_1 _) (S:=λ_ R s'=>s'=s/\R (.ok (.ret (.ref s.heap.objs.size))) { s with heap:=s.heap.push { cls:=.type "dict_items",data:=.fields #[.ref d] } }) (.of_wp ?_) ⟨rfl,hQ⟩
 rintro A R s' ⟨rfl,h⟩
 unfold Builtin.«dict.items»
 refine AA0 ?_
 unfold Builtin.Dict.noArgs
 refine AA0 (ACZ hm.ty (AA5 ?_))
 refine(show wpAny (model prog w) _ (ACa d >>= _) _ _ s' from ?_)
 unfold ACa
 rw[hd]
 exact AA0 (AA5 (AA0 (AAh (AA5 ⟨_,rfl,h⟩))))
theorem wd(hv:s.heap.IsItemsView v d)(hm:cB s.heap d es ep)
  (hQ:Q (.ref s.heap.objs.size) { s with heap:=s.heap.push { cls:=.type "dict_itemiterator",data:=.fields #[.none,.bool false,.ref d,.int 0 0,.int es.size 0,.int ep 0,.none,.none] } }):wpAny (model prog w) A (pyIter (.ref v)) Q E s:=by
 obtain⟨ov,v1,v2,v3⟩:=id hv
 obtain⟨o,h1,h2,h3⟩:=hm
 refine wpAny_pyIter_slot hv.typeIs F.slot_dict_items_iter (AAm F.slot_dict_items_iter hv.typeIs F.entry_dict_items_iter ?_ (F.args_dict_items_iter_1 _))
 unfold Builtin.«dict_items.__iter__»
 refine AA0 (AA5 (AA0 ?_))
 unfold Builtin.Dict_items.dictOf
 refine AA0 (AB7 v1 v3 (x:=.ref d) rfl (AA5 (AA0 ?_)))
 unfold Builtin.Dict_items.newIterator
 refine AA0 (ACH h1 h3 (AA0 (ACb h1 h3 ?_)))
 simp only[show ABb "dict_itemiterator" = true by decide,if_true]
 exact AAh (AA5 ⟨_,rfl,"dict_itemiterator",_,⟨_,AAD _ rfl,rfl⟩,F.slot_dict_itemiterator_next.lookup,by simpa [rawInt,ACy]using hQ⟩)
  (by simp only[sizeOk,ACy,AAC,AAH,AAO,AAa,ABV];lia)
theorem wc(hst:gD s.heap it d S i es.size ep)(hS:S<s.heap.objs.size)(hm:cB s.heap d es ep)(hi:i<es.size)
  (hQ:∀h',gD h' it d S (i+1) es.size ep->h'.get? s.heap.objs.size=some { cls:=.type "tuple",data:=.seq #[es[i].key,es[i].val] }->h'.objs.size=s.heap.objs.size+1 ->
   (∀b o,b≠it->s.heap.get? b=some o->h'.get? b=some o)->(∀ok ov,cA s.heap it d i es.size ep .none (.bool false) ok ov->cA h' it d (i+1) es.size ep (rawInt s.heap.objs.size) (.bool false) es[i].key es[i].val)->Q (some (.ref s.heap.objs.size)) { s with heap:=h' }):wpAny (model prog w) A (pyNext (.ref it)) Q E s:=by
 obtain⟨hp,g,dr,tk,os⟩:=s
 obtain⟨x0,x1,ok,ov,hit,own⟩:=hst
 obtain⟨od,k1,k2,k3⟩:=id hm
 have hT:ADy ⟨hp,g,dr,tk,os⟩ (.ref it) "dict_itemiterator":=⟨_,hit,rfl⟩
 unfold pyNext
 refine AA0 (ACi (AAk (name:=AA1 "__next__") hT ABX (AAm ABX hT ACu ?_ (ACm _))))
 refine AA0 (AA5 (AA0 (AA0 ?_)))
 first | refine AA0 (ABp hT (AA5 (AA0 (AC7 hit rfl ?_)))) | refine AA0 (AC8 hT (AA5 (AA0 (AC7 hit rfl ?_))))
 rw[show ABb "dict_itemiterator" = true by decide]
 refine(show wpAny (model prog w) _ (if (AAe d==ABO)=true then _ else _) _ _ _ from ?_)
 rw[if_neg (by exact AB9)]
 refine AA0 (AA5 (AA0 (ACH k1 k3 ?_)))
 rw[if_neg (by simp)]
 refine AA0 (AA5 (AA0 (ACb k1 k3 ?_)))
 rw[if_neg (by simp)]
 refine AA5 ?_
 dsimp only
 rw[if_neg (show ¬((i:Int)<0)from by lia),AAw,AAq hi]
 dsimp only
 refine AA0 ?_
 first | refine AA0 (ABp hT (AA5 ?_)) | refine AA0 (AC8 hT (AA5 ?_))
 refine AA0 (ADM hT ?_)
 refine(show wpAny (model prog w) _ (setField (.ref it) 3 (rawInt ((i:Int)+1)) >>= _) _ _ ⟨hp,g,dr,tk,os⟩from AA0 (AAz hit (by simp) λha he hs=>?_))
 have hsA:ABA it hp ha:=hs
 have heA:cA ha it d (i+1) es.size ep x0 x1 ok ov:=by
  unfold cA
  rw[show ((i+1:Nat):Int)=(i:Int)+1 by lia]
  simpa [rawInt]using he
 have hTA:ADy ⟨ha,g,dr,tk,os⟩ (.ref it) "dict_itemiterator":=⟨_,heA,rfl⟩
 refine AA0 (AAj (AA0 (ADM hTA (AA0 (ADM hTA ?_)))))
 refine(show wpAny (model prog w) _ (ADH (.ref it) 6 es[i].key es[i].val) _ _ ⟨ha,g,dr,tk,os⟩from ?_)
 unfold ADH
 refine AA0 (ADX ?_)
 have heB:cA (ha.push { cls:=.type "tuple",data:=.seq #[es[i].key,es[i].val] }) it d (i+1) es.size ep x0 x1 ok ov:=AA3 _ heA
 generalize eB:ha.push { cls:=.type "tuple",data:=.seq #[es[i].key,es[i].val] }=hB at heB
 have zA:ha.objs.size=hp.objs.size:=hsA.1
 have hil:it<hp.objs.size:=AAF hit
 have tB:hB.get? hp.objs.size=some { cls:=.type "tuple",data:=.seq #[es[i].key,es[i].val] }:=by rw[<-eB,<-zA];exact AAD _ rfl
 have zB:hB.objs.size=hp.objs.size+1:=by rw[<-eB,ABL,zA]
 have kB:∀b o,b≠it->hp.get? b=some o->hB.get? b=some o:=λb o hb e=>by rw[<-eB];exact AA3 _ (hsA.extBut b o hb e)
 refine(show wpAny (model prog w) _ (ACz (.ref it) >>= _) _ _ ⟨hB,g,dr,tk,os⟩from ?_)
 rw[zA]
 have fin:∀hC:Heap,gD hC it d S (i+1) es.size ep->ABA it hB hC->(∀ok ov,cA hp it d i es.size ep .none (.bool false) ok ov->cA hC it d (i+1) es.size ep (rawInt hp.objs.size) (.bool false) es[i].key es[i].val)->Q (some (.ref hp.objs.size)) ⟨hC,g,dr,tk,os⟩:=λhC st sb =>
  hQ hC st (sb.extBut _ _ (ABY hil) tB) (by show hC.objs.size=hp.objs.size+1;rw[sb.1,zB]) λb o hb e=>sb.extBut b o hb (kB b o hb e)
 refine AA0 ?_
 unfold ACz
 rcases own with⟨rfl,rfl⟩|⟨a,f,oa,rfl,rfl,ga,hai,haS⟩
 ·refine AA0 (AB7 heB rfl (x:=.none) rfl (AA5 ?_))
  simp only[if_true]
  refine AA0 (AB7 heB rfl (x:=ok) rfl (AA0 (AB7 heB rfl (x:=ov) rfl ?_)))
  refine AA0 (AAz heB (by simp) λh3 e3 s3=>?_)
  refine AA0 (AAz (show cA h3 it d (i+1) es.size ep .none (.bool false) es[i].key ov from e3) (by simp) λh4 e4 s4=>?_)
  refine AA0 (AAz (show cA h4 it d (i+1) es.size ep .none (.bool false) es[i].key es[i].val from e4) (by simp) λh5 e5 s5=>?_)
  refine AA0 (AAz (show cA h5 it d (i+1) es.size ep (rawInt hp.objs.size) (.bool false) es[i].key es[i].val from e5) (by simp) λh6 e6 s6=>?_)
  have p6:cA h6 it d (i+1) es.size ep (rawInt hp.objs.size) (.bool false) es[i].key es[i].val:=e6
  have sb:ABA it hB h6:=by
   have s3':ABA it hB h3:=s3
   have s4':ABA it h3 h4:=s4
   have s5':ABA it h4 h5:=s5
   have s6':ABA it h5 h6:=s6
   exact⟨by rw[s6'.1,s5'.1,s4'.1,s3'.1],λb hb=>by rw[s6'.2 b hb,s5'.2 b hb,s4'.2 b hb,s3'.2 b hb]⟩
  exact AA0 (wpAny_letGo (AA5 (AA5 ⟨_,rfl,AA5 (fin h6 ⟨_,_,_,_,p6,.inr ⟨_,false,_,rfl,rfl,sb.extBut _ _ (ABY hil) tB,ABY hil,ABY hS⟩⟩ sb λ_ _ _=>p6)⟩)))
 ·have gB:hB.get? a=some oa:=kB a oa hai ga
  have no:∀{hC:Heap} (ok' ov':Value),cA hp it d i es.size ep .none (.bool false) ok' ov'->cA hC it d (i+1) es.size ep (rawInt hp.objs.size) (.bool false) es[i].key es[i].val:=λok' ov' z=>absurd (hit.symm.trans z) (by simp[rawInt])
  refine AA0 (AB7 heB rfl (x:=rawInt a) rfl ?_)
  refine(show wpAny (model prog w) _ (loadIfAlive ((a:Int).toNat) >>= _) _ _ _ from ?_)
  rw[AAw]
  refine AA0 (kdx_alive gB ?_)
  simp only[Option.isNone_some,AAZ,if_false]
  refine AA0 (AB7 heB rfl (x:=.bool f) rfl ?_)
  cases f with
  | true =>
   rw[if_neg (show ¬((ADN true != ADN true)=true)from AB9)]
   refine AA5 ?_
   simp only[AAZ,if_false]
   exact AA5 (AA5 ⟨_,rfl,AA5 (fin hB ⟨_,_,_,_,heB,.inr ⟨a,true,oa,rfl,rfl,gB,hai,haS⟩⟩ (Heap.SameBut.refl _ _) no)⟩)
  | false =>
   rw[if_pos (show (ADN false != ADN true)=true from rfl)]
   refine AA0 (AAz heB (by simp) λh3 e3 s3=>?_)
   have p3:cA h3 it d (i+1) es.size ep (rawInt a) (.bool true) ok ov:=e3
   have s3':ABA it hB h3:=s3
   refine AA5 ?_
   simp only[AAZ,if_false]
   exact AA5 (AA5 ⟨_,rfl,AA5 (fin h3 ⟨_,_,_,_,p3,.inr ⟨a,true,oa,rfl,rfl,s3'.extBut a oa hai gB,hai,haS⟩⟩ s3' no)⟩)
theorem yn(hh:A.handled=none)(hst:gD s.heap it d S es.size es.size ep)(hm:cB s.heap d es ep)
  (hQ:∀h',Heap.ExtBut it s.heap h'->Q none { s with heap:=h' }):wpAny (model prog w) A (pyNext (.ref it)) Q E s:=by
 obtain⟨x0,x1,ok,ov,hit,own⟩:=hst
 obtain⟨od,k1,k2,k3⟩:=id hm
 have hT:s.TypeIs (.ref it) "dict_itemiterator":=⟨_,hit,rfl⟩
 unfold pyNext
 refine AA0 (ACi (AAk (name:=AA1 "__next__") hT ABX (AAm ABX hT ACu ?_ (ACm _))))
 refine AA0 (AA5 (AA0 (AA0 ?_)))
 first | refine AA0 (ABp hT (AA5 (AA0 (AC7 hit rfl ?_)))) | refine AA0 (AC8 hT (AA5 (AA0 (AC7 hit rfl ?_))))
 rw[show ABb "dict_itemiterator" = true by decide]
 refine(show wpAny (model prog w) _ (if (AAe d==ABO)=true then _ else _) _ _ s from ?_)
 rw[if_neg (by exact AB9)]
 refine AA0 (AA5 (AA0 (ACH k1 k3 ?_)))
 rw[if_neg (by simp)]
 refine AA0 (AA5 (AA0 (ACb k1 k3 ?_)))
 rw[if_neg (by simp)]
 refine AA5 ?_
 dsimp only
 rw[if_neg (show ¬((es.size:Int)<0)from by lia),AAw,ADL (AAA es.size)]
 dsimp only
 refine AA0 ?_
 first | refine AA0 (ABp hT (AA5 ?_)) | refine AA0 (AC8 hT (AA5 ?_))
 refine(show wpAny (model prog w) _ (setField (.ref it) 2 .none >>= _) _ _ s from AA0 (ADY hit rfl (by simp) ?_))
 refine(show wpAny (model prog w) _ (newExc (.type "StopIteration") [] >>= _) _ _ _ from AA0 ?_)
 simp only[newExc,newTuple]
 refine AA0 (AAh ?_ (by size_fits))
 refine AA0 (m:=firstArgMember _ _) (wpAny_of_eq (a:=ABO) (by first | rfl | (simp only[firstArgMember];rfl)) ?_)
 refine AAh ?_ (by size_fits)
 simp only[raiseNew]
 refine AA0 (wpAny_handled ?_)
 rw[show A.in1.handled=none from hh]
 refine AA0 (AA5 (wpAny_throw ?_))
 refine AA0 (ADd (b:=true) (T:="StopIteration") ⟨_,AAD _ rfl,rfl⟩ isSubtype_stop ?_)
 exact AA5 (hQ _ (((ABE ..).extBut.push _).push _))
structure PairsAt(es:Array DictEntry)(lo:Addr)(h:Heap)(as:List Addr):Prop where
 nd:as.Nodup
 above:∀a∈as,lo<a
 tup:∀(j:Nat) (a:Addr),as[j]?=some a->∃e,es[j]?=some e/\h.get? a=some { cls:=.type "tuple",data:=.seq #[e.key,e.val] }
theorem PairsAt.lt{es:Array DictEntry}{lo:Addr}{h:Heap}{as:List Addr}(g:PairsAt es lo h as){a:Addr}(m:a∈as):a<h.objs.size:=by
 obtain⟨j,hj⟩:=AC9 m
 obtain⟨_,_,e⟩:=g.tup j a hj
 exact AAF e
theorem PairsAt.to{es:Array DictEntry}{lo:Addr}{h h':Heap}{as:List Addr}(g:PairsAt es lo h as)(k:∀b o,lo<b->h.get? b=some o->h'.get? b=some o):PairsAt es lo h' as :=
 ⟨g.nd,g.above,λj a hj=>by
  obtain⟨e,e1,e2⟩:=g.tup j a hj
  exact⟨e,e1,k a _ (g.above a (AAc hj)) e2⟩⟩
theorem PairsAt.snoc{es:Array DictEntry}{lo:Addr}{h:Heap}{as:List Addr}{a:Addr}{e:DictEntry}(g:PairsAt es lo h as)(fresh:a∉as)(la:lo<a)(he:es[as.length]?=some e)(ha:h.get? a=some { cls:=.type "tuple",data:=.seq #[e.key,e.val] }):PairsAt es lo h (as++[a]):=by
 refine⟨?_,?_,λj b hj=>?_⟩
 ·rw[ACG]
  refine⟨g.nd,by simp,λx hx y hy=>?_⟩
  rw[AB0.mp hy]
  rintro rfl
  exact fresh hx
 ·intro x hx
  rcases AB6.mp hx with hx | hx
  ·exact g.above x hx
  ·rw[AB0.mp hx];exact la
 ·rcases Nat.lt_trichotomy j as.length with h1 | h1 | h1
  ·rw[AAL h1]at hj
   exact g.tup j b hj
  ·subst h1
   have:a=b:=by simpa using hj
   subst this
   exact⟨e,he,ha⟩
  ·rw[ABo (by simp;lia)]at hj
   cases hj
section
variable{prog:Program}{w:World}{A:Around}{E:Value->Shared->Prop}{s:Shared}{d:Addr}{es:Array DictEntry}{ep:Nat}
theorem sE{R:Result->Shared->Prop}{S I:Addr}(hh:A.handled=none)(hSI:S<I)(hSd:d≠S)(hId:d≠I)(hn:es.size<=sizeLine)(res:Value){h0:Heap}
  (hR:∀h' tk acc c as,(∀b o,b≠S->b≠I->h0.get? b=some o->h'.get? b=some o)->h'.get? S=some { cls:=.type "list",data:=.seq acc c }->as.length=es.size->PairsAt es I h' as->acc.toList=as.map AAe->R (.ok (.ret res)) { s with heap:=h',toks:=tk }) :
  ∀(k i:Nat) (h:Heap) (tk c:Nat) (acc:Array Value) (as:List Addr),es.size-i=k->i<=es.size->gD h I d S i es.size ep->cB h d es ep->(∀b o,b≠S->b≠I->h0.get? b=some o->h.get? b=some o) ->
   h.get? S=some { cls:=.type "list",data:=.seq acc c }->acc.toList=as.map AAe->as.length=i->PairsAt es I h as->I<h.objs.size ->
   codeAny (model prog w) A (.builtin "list.extend.loop" ⟨[.ref S,.ref I,res],[]⟩) R { s with heap:=h,toks:=tk }:=by
 have hne:S≠I:=AAK hSI
 intro k
 induction k with
 | zero =>
  intro i h tk c acc as hk hi hst hD keep hS hacc hal hG hIs
  obtain rfl:i=es.size:=by lia
  refine ABy PySem.F.entry_extend_loop ?_
  rw[ABt ABm _]
  refine(show wpAny (model prog w) A.in1 (pyNext (.ref I) >>= _) _ _ _ from ?_)
  refine AA0 (yn (s:={ s with heap:=h,toks:=tk }) (A:=A.in1) hh hst hD λh' he=>?_)
  exact AA5 (hR h' tk acc c as (λb o h1 h2 e=>he b o h2 (keep b o h1 h2 e)) (he S _ hne hS) hal (hG.to λb o hb e=>he b o (ABY hb) e) hacc)
 | succ k ih =>
  intro i h tk c acc as hk hi hst hD keep hS hacc hal hG hIs
  have hlt:i<es.size:=by lia
  have hsz:acc.size=i:=by rw[<-ABU,hacc,AA4,hal]
  refine ABy PySem.F.entry_extend_loop ?_
  rw[ABt ABm _]
  refine(show wpAny (model prog w) A.in1 (pyNext (.ref I) >>= _) _ _ _ from ?_)
  refine AA0 (wc (s:={ s with heap:=h,toks:=tk }) (S:=S) hst (AAF hS) hD hlt λh' hst' ht hz hkp _=>?_)
  try dsimp only at ht hz hkp ⊢
  have hS':=hkp S _ hne hS
  have hSl:S<h.objs.size:=AAF hS
  have up:∀b o,b≠S->h'.get? b=some o->(h'.update S (AB3 (·.push (AAe h.objs.size)))).get? b=some o:=λb o hb e=>(AC0 _ _ (AAr hb)).trans e
  refine(show wpAny (model prog w) A.in1 (updateSeq S (·.push (AAe h.objs.size)) >>= _) _ _ _ from AA0 ?_)
  have tT:(h'.update S (AB3 (·.push (AAe h.objs.size)))).get? h.objs.size=some { cls:=.type "tuple",data:=.seq #[es[i].key,es[i].val] }:=up _ _ (ABY hSl) ht
  refine wpAny_updateSeq hS' rfl (AA5 ⟨ADE ABm _,ih (i+1) _ tk _ (acc.push (AAe h.objs.size)) (as++[h.objs.size]) (by lia) hlt (hst'.to up (AAr hne)) (hD.to λo e=>up d o hSd (hkp d o hId e)) (λb o h1 h2 e=>up b o h1 (hkp b o h2 (keep b o h1 h2 e))) (AAx _ hS' rfl)
   (by rw[Array.toList_push,hacc,AAp];rfl) (by rw[AAH,hal];rfl) ?_ (ADs hIs (AAF tT))⟩) (by rw[hsz];lia) (by show (acc.push (AAe h.objs.size)).size<=sizeLine+1;rw[Array.size_push,hsz];lia)
  refine(hG.to λb o hb e=>up b o (ABY (ADs hSI hb)) (hkp b o (ABY hb) e)).snoc (e:=es[i]) (λz=>AAW _ (hG.lt z)) hIs (by rw[hal];exact AAq hlt) tT
theorem nE{R:Result->Shared->Prop}{r D:Addr}{c0:Nat}(hh:A.handled=none)(hv:s.heap.IsItemsView r d)(hm:cB s.heap d es ep)(hDr:D≠r)(hDd:d≠D)(hn:es.size<=sizeLine)(res:Value)(hD:s.heap.get? D=some { cls:=.type "list",data:=.seq #[] c0 })
  (hR:∀h' tk acc c as,(∀b o,b≠D->s.heap.get? b=some o->h'.get? b=some o)->h'.get? D=some { cls:=.type "list",data:=.seq acc c }->as.length=es.size->PairsAt es s.heap.objs.size h' as->acc.toList=as.map AAe->R (.ok (.ret res)) { s with heap:=h',toks:=tk }) :
  wpAny (model prog w) A.in1 (ABz (.ref D) (.ref r) res)
   (λfin s'=>match fin with | .done f=>R (.ok f) s' | .again c'=>c'.quiet=true/\codeAny (model prog w) A c' R s') (λe s'=>R (.error e) s') s:=by
 have lD:D<s.heap.objs.size:=AAF hD
 have ld:d<s.heap.objs.size:=hm.lt
 have go:∀(h:Heap) (c1 tk:Nat),(∀b o,b≠D->(s.heap.push { cls:=.type "dict_itemiterator",data:=.fields #[.none,.bool false,.ref d,.int 0 0,.int es.size 0,.int ep 0,.none,.none] }).get? b=some o->h.get? b=some o) ->
   h.get? D=some { cls:=.type "list",data:=.seq #[] c1 }->codeAny (model prog w) A (.builtin "list.extend.loop" ⟨[.ref D,.ref s.heap.objs.size,res],[]⟩) R { s with heap:=h,toks:=tk }:=λh c1 tk kk hD1=>by
  have hI:=kk s.heap.objs.size _ (ABY lD) (AAD _ rfl)
  exact sE (h0:=s.heap) hh lD hDd (AAK ld) hn res (λh' tk' acc c as k' hS' hl hG hacc=>hR h' tk' acc c as (λb o hb e=>k' b o hb (AAK (AAF e)) e) hS' hl hG hacc)
   es.size 0 h tk c1 #[] [] (Nat.sub_zero _) (AAX _) ⟨_,_,_,_,hI,.inl ⟨rfl,rfl⟩⟩ (hm.to λo e=>kk d o hDd (AA3 _ e)) (λb o hb _ e=>kk b o hb (AA3 _ e)) hD1 rfl rfl ⟨ACO,(λ_ z=>nomatch z),(λj a z=>by simp at z)⟩ (AAF hI)
 unfold ABz
 refine AA0 (AD2 (T:="dict_items") hv.typeIs ?_)
 have e1:Builtin.List.listSameRef (.ref D) (.ref r)=false:=by simp[Builtin.List.listSameRef,hDr]
 have e2:(ACd "dict_items" == ACd "list")=false:=by decide
 have e3:(ACd "dict_items" == ACd "tuple")=false:=by decide
 simp only[e1,e2,e3,Bool.or_false,AAZ,if_false]
 refine AA0 (wd hv hm ?_)
 have hD1:=AA3 { cls:=.type "dict_itemiterator",data:=.fields #[.none,.bool false,.ref d,.int 0 0,.int es.size 0,.int ep 0,.none,.none] } hD
 refine AA0 (AAj (kdx_hint (let ⟨o,ho,hc,_⟩:=hv;⟨o,AA3 _ ho,hc⟩) ?_))
 refine wpAny_ite_split (λ_=>?_) (λ_=>AA5 ⟨ADE ABm _,go _ c0 _ (λb o _ e=>e) hD1⟩)
 refine AA0 (ACE (AA0 (show wpAny (model prog w) _ (updateSeq D (·.push .none) >>= λ_=>updateSeq D (·.pop)) _ _ _ from AA0 (wpAny_updateSeq hD1 rfl ?_))))
 have hD2:=AAx (AB3 (·.push ABO)) hD1 rfl
 refine wpAny_updateSeq (hz:=by seq_fits) hD2 rfl ?_
 have hD3:=AAx (AB3 (·.pop)) hD2 rfl
 exact AA5 ⟨ADE ABm _,go _ _ _ (λb o hb e=>(AC0 _ _ (AAr hb)).trans ((AC0 _ _ (AAr hb)).trans e)) hD3⟩
theorem mI{Q:Value->Shared->Prop}{r:Addr}(hh:A.handled=none)(hv:s.heap.IsItemsView r d)(hm:cB s.heap d es ep)(hz:es.size<=sizeLine)
  (h:∀h' tk as,(∀b u,s.heap.get? b=some u->h'.get? b=some u)->as.length=es.size->PairsAt es s.heap.objs.size h' as ->
   wpAny (model prog w) A.in1 (call (.builtin "list.sort") [.ref h'.objs.size]) (λ_ s'=>Q (.ref h'.objs.size) s') E { s with heap:=h'.push { cls:=.type "list",data:=.seq (as.map AAe).toArray },toks:=tk }):wpAny (model prog w) A (call (.builtin "sorted") [.ref r]) Q E s:=by
 have lr:r<s.heap.objs.size:=let ⟨_,ho,_⟩:=hv;AAF ho
 refine call_function_entry kind_sorted plain_sorted entry_sorted (args_sorted1 _) ?_
 unfold Builtin.«sorted»
 refine AA0 (m:=checkCount "sorted" 1 1 _) (AA5 ?_)
 unfold collect
 refine AA0 (AA0 (wpAny_runValue (ABy F.entry_proto_collect ?_)))
 rw[ABt F.plain_proto_collect _]
 refine(show wpAny (model prog w) _ (newList [] >>= λl=>again (.builtin "list.__iadd__" ⟨[l,.ref r],[]⟩)) _ _ s from AA0 (AAh (AA5 ⟨ADE F.plain_list_iadd _,ABy F.entry_list_iadd ?_⟩)))
 rw[ABt F.plain_list_iadd _]
 have key:=nE (prog:=prog) (w:=w) (A:=A.in1) (d:=d) (es:=es) (ep:=ep) (r:=r) (s:={ s with heap:=s.heap.push { cls:=.type "list",data:=.seq ([]:List Value).toArray } }) (D:=s.heap.objs.size) (c0:=0) (res:=.ref s.heap.objs.size)
  (R:=λr s'=>∃h' tk acc c as,r=.ok (.ret (.ref s.heap.objs.size))/\s'={ s with heap:=h',toks:=tk }/\(∀b u,s.heap.get? b=some u->h'.get? b=some u)/\h'.get? s.heap.objs.size=some { cls:=.type "list",data:=.seq acc c }/\as.length=es.size/\PairsAt es s.heap.objs.size h' as/\acc.toList=as.map AAe)
  (by simp[hh]) (let ⟨o,ho,x⟩:=hv;⟨o,AA3 _ ho,x⟩) (hm.to λo e=>AA3 _ e) (ABY lr) (AAK hm.lt) hz (AAD _ rfl)
  λh' tk acc c as k hD hl hG hacc=>⟨h',tk,acc,c,as,rfl,rfl,λb u e=>k b u (AAK (AAF e)) (AA3 _ e),hD,hl,⟨hG.nd,λa ha=>Nat.lt_of_le_of_lt (by show s.heap.objs.size<=(s.heap.push _).objs.size;rw[ABL];exact Nat.le_succ _) (hG.above a ha),hG.tup⟩,hacc⟩
 have last:∀h' tk (acc:Array Value) c as,(∀b u,s.heap.get? b=some u->h'.get? b=some u)->h'.get? s.heap.objs.size=some { cls:=.type "list",data:=.seq acc c }->as.length=es.size->PairsAt es s.heap.objs.size h' as->acc.toList=as.map AAe ->
   wpAny (model prog w) A.in1 (do let ob <-load s.heap.objs.size;match ob.data with | .seq xs _=>pure xs.toList | _=>unsupported "internal:collect":Sem (List Value))
    (λxs s'=>wpAny (model prog w) A.in1 (do let l <-newList xs;let _ <-holding [l] (call (.builtin "list.sort") [l] []);ret l) (λfin s'=>∃v,fin=Fin.done (Flow.ret v)/\Q v s') E s') E { s with heap:=h',toks:=tk }:=λh' tk acc c as kk hD hl hG hacc=>by
  refine AA0 (wpAny_load hD (AA5 (AA0 (ACg ?_ (by rw[hacc,AA4];lia)))))
  rw[hacc]
  exact AA0 (AAj (ABC (h h' tk as kk hl hG) (λ_ s' q=>AA5 ⟨_,rfl,q⟩) λ_ _ z=>z))
 refine ABC key (λfin s' x=>?_) λe s' ⟨_,_,_,_,_,z,_⟩=>by cases z
 cases fin with
 | done f =>
  obtain⟨h',tk,acc,c,as,z,rfl,kk,hD,hl,hG,hacc⟩:=x
  cases z
  exact last h' tk acc c as kk hD hl hG hacc
 | again c' =>
  refine⟨x.1,ADZ x.2 ?_⟩
  rintro r s2 ⟨h',tk,acc,c,as,z,e,kk,hD,hl,hG,hacc⟩
  subst z e
  exact last h' tk acc c as kk hD hl hG hacc
end
noncomputable def nZ(H:Hp)(ts:List (Addr×List V)):Hp:=λb=>match ts.lookup b with
 | some vs=>some (.tup vs)
 | none=>H b
theorem qR{ts:List (Addr×List V)}{b:Addr}{vs:List V}(h:ts.lookup b=some vs):(b,vs)∈ts:=by
 induction ts with
 | nil=>cases h
 | cons t ts ih =>
  rw[AB5]at h
  cases e:(b==t.1) with
  | true =>
   rw[e]at h
   have:b=t.1:=by simpa using e
   cases h
   rw[this];simp
  | false =>
   rw[e]at h
   exact AA9 _ (ih h)
theorem qQ:∀{as:List Addr}{us:List (List V)}{j:Nat}{a:Addr}{q:List V},as.Nodup->as[j]?=some a->us[j]?=some q->(as.zip us).lookup a=some q
 | [],_,_,_,_,_,h,_=>by simp at h
 | _::_,[],_,_,_,_,_,h=>by simp at h
 | b::as,u::us,0,a,q,_,h1,h2=>by
  simp at h1 h2
  subst h1 h2
  simp[ABP,AB5]
 | b::as,u::us,j+1,a,q,nd,h1,h2=>by
  rw[AAf]at nd
  have m:a∈as:=AAc (by simpa using h1)
  have ne:(a==b)=false:=by
   rw[beq_eq_false_iff_ne]
   rintro rfl
   exact nd.1 m
  rw[ABP,AB5,ne]
  exact qQ nd.2 (by simpa using h1) (by simpa using h2)
theorem kx{ts:List (Addr×List V)}{b:Addr}(h:∀p∈ts,p.1≠b):nZ H ts b=H b:=by
 unfold nZ
 cases e:ts.lookup b with
 | none=>rfl
 | some vs=>exact absurd rfl (h _ (qR e))
theorem Inv.laidT(I:Inv X pins σ H s)(k:∀b u,b≠X.env.locals->s.heap.get? b=some u->h'.get? b=some u)(hn:s.heap.Ns X.env.locals m)(hn':h'.Ns X.env.locals m)
  (fr:∀p∈ts,s.heap.get? p.1=none) (new:∀b vs,ts.lookup b=some vs->br X.prog X.w (nZ H ts) h' b (.tup vs)):Inv X pins σ (nZ H ts) { s with heap:=h',toks:=t' }:=by
 have fa:∀p∈ts,H p.1=none:=λp hp=>HOk.none I.hok (fr p hp)
 have old:∀b u,s.heap.get? b=some u->nZ H ts b=H b:=λb u e=>kx λp hp z=>by rw[<-z,fr p hp]at e;cases e
 have trk:∀b u,H b=some u->nZ H ts b=some u:=λb u e=>by
  rw[kx λp hp z=>by rw[<-z,fa p hp]at e;cases e];exact e
 refine I.step (g':=s.gens) (d':=s.drawn) (ch:=[]) (λ_ z=>nomatch z) (λb u hL _ _ e _=>k b u hL e) (λb u hL _ _ e _=>⟨u.slots,k b u hL e⟩) (λb u _ e n=>by rw[old b u e];exact n) (λb u _ e=>?_)
  (λb xs q=>trk b _ q) (λb u xs q=>trk b _ q) (λb ps q=>⟨#[],by rw[trk b _ q];simp⟩) (λm' hm=>?_) (λb w q=>?_) I.bare
 ·by_cases hb:b=X.env.locals
  ·subst hb
   obtain⟨o',_,_,ho,_⟩:=hn'
   exact⟨o',ho⟩
  ·exact⟨u,k b u hb e⟩
 ·have:m=m':=funext λx=>hn.agree hm x
  subst this
  exact hn'
 ·cases e:ts.lookup b with
  | some vs =>
   have:nZ H ts b=some (.tup vs):=by unfold nZ;rw[e]
   rw[this]at q
   cases q
   exact new b vs e
  | none =>
   have:nZ H ts b=H b:=by unfold nZ;rw[e]
   rw[this]at q
   refine(I.hok b w q).stay (λc v hc r=>k c v ?_ r) (λc z=>trk c _ z) λc xs z=>trk c _ z
   rcases hc with rfl | hc
   ·exact ac q I.free
   ·exact ac hc I.free
section
variable{K:AA2}{ρ:List Addr}{H H':Hp}{M:Mem}
theorem Grow.more(ag:∀b u,H b=some u->H' b=some u):Grow K ρ H ρ H':=⟨ACV,λa xs h=>by
 rcases h with h | h
 ·rcases h with h | ⟨ob,h⟩
  ·exact .inl (.inl (ag _ _ h))
  ·exact .inl (.inr ⟨ob,ag _ _ h⟩)
 ·exact .inr h,λ_ _ h=>ag _ _ h⟩
theorem Sim.more(S:Sim K ρ M H)(ag:∀b u,H b=some u->H' b=some u):Sim K ρ M H' :=
 ⟨S.nd,S.len,λn a mo e1 e2=>(S.obj n a mo e1 e2).grow (Grow.more ag) (by
  rcases S.tracked e1 with⟨ob,hob⟩ | q
  ·exact .inl ((ag _ _ hob).trans hob.symm)
  ·rw[e2]at q;exact .inr q)⟩
end
section
variable{X:Cx}{o:Expr}{to:DTE}{apos cpos p pos:Pos}{k:Nat}
noncomputable def cT(kvs:List (D×D)):List D:=kvs.map λp=>.tup [p.1,p.2]
def cY(to:DTE):DTE:=λS M Q=>to S M λd M1=>match d with
 | .ref n=>∃kvs,M1[n]?=some (.dkt kvs)/\SrtOk M1 (cT kvs)/\∀ys,ys.Perm (cT kvs)->lK M1 ys->Q (.ref M1.length) (M1++[.lst ys])
 | _=>False
theorem zQ{K:AA2}{ρ:List Addr}{H:Hp}{kvs:List (D×D)}{xs:List (D×Addr×Value)}(r:Paired (om K ρ H) kvs xs):∃us:List (List V),us.length=kvs.length/\∀(j:Nat) x,xs[j]?=some x->∃p v,kvs[j]?=some p/\us[j]?=some [.ref x.2.1,v]/\Rep K ρ H p.1 (.ref x.2.1)/\Rep K ρ H p.2 v/\aK v x.2.2:=by
 induction r with
 | nil=>exact⟨[],rfl,λj x e=>by simp at e⟩
 | @cons p q ps qs h t ih =>
  obtain⟨us,hl,hu⟩:=ih
  obtain⟨_,_,h3,v,h4,h5⟩:=h
  refine⟨[.ref q.2.1,v]::us,by rw[AAO,AAO,hl],λj x e=>?_⟩
  cases j with
  | zero=>simp at e;subst e;exact⟨p,v,rfl,rfl,h3,h4,h5⟩
  | succ j=>exact hu j x (by simpa using e)
theorem ut{K:AA2}{ρ:List Addr}{H:Hp}:∀(ds:List D) (as:List Addr),ds.length=as.length->(∀(j:Nat) d a,ds[j]?=some d->as[j]?=some a->Rep K ρ H d (.ref a))->Reps K ρ H ds (as.map V.ref)
 | [],[],_,_=>.nil
 | [],_::_,e,_=>by simp at e
 | _::_,[],e,_=>by simp at e
 | d::ds,a::as,e,h=>.cons (h 0 d a rfl rfl) (ut ds as (by simpa using e) λj d' a' h1 h2=>h (j+1) d' a' (by simpa using h1) (by simpa using h2))
theorem jC:∀as:List Addr,ar (as.map V.ref) (as.map AAe)
 | []=>.nil
 | a::as=>.cons rfl (jC as)
theorem pP(hr:Room k X.A)(hc:X.calm=true)(ho:DE X o to)(hm:X.mg "sorted" = none)(hg:X.env.kindOf "sorted" = some .globalImplicit)
  (hs:starEach [Expr.Call (.Attribute o "items" apos) [] [] cpos] X.env=[(false,eval (Expr.Call (.Attribute o "items" apos) [] [] cpos) X.env)])
  (hbase:attributeBase o "items" X.env (eval o X.env)=eval o X.env) (hline:(apos.endLine==cpos.line)=true) :
  DE X (.Call (.Name "sorted" p) [.Call (.Attribute o "items" apos) [] [] cpos] [] pos) (cY to):=by
 rintro pins s σ H R I ⟨S,M,ρ,Q,sm,sr,q,kk⟩
 refine ABq (je I hg hm (by rfl) ?_)
 refine callWith_builtin1 ?_ (by rw[hs];rfl) rfl
 rw[hs]
 refine Calls.spliced_cons (wpAny_Call_method0_late hbase hline (thn (ho pins s σ H _ I ⟨S,M,ρ,_,sm,sr,q,λv H' w=>w⟩) ?_))
 rintro u s1 ⟨v,H1,I1,rv,x,M1,ρ1,sm1,g1,r1,q1⟩
 cases r1 with
 | @ref n a hn =>
  cases rv
  obtain⟨kvs,hM,so,q2⟩:=(show ∃kvs,M1[n]?=some (.dkt kvs)/\SrtOk M1 (cT kvs)/\∀ys,ys.Perm (cT kvs)->lK M1 ys->Q (.ref M1.length) (M1++[.lst ys])from q1)
  obtain⟨xs,hH,r,dd,hsm,hz,hx,nd⟩:=gx I1 sm1 hn hM
  obtain⟨es,em,el,eg⟩:=ki I1 hH
  refine⟨"dict","dict.items",PySem.F.plainAttrs_dict,PySem.F.slot_dict_items,PySem.F.type_dict_items,dd.typeIs,λb z=>?_,ADK rfl (PySem.evalArgs_none (wb hsm em ?_))⟩
  ·cases z
   obtain⟨ob,_,_,h1,h2,_⟩:=dd
   exact⟨ob,h1,h2.2.1⟩
  refine Calls.spliced_nil ?_
  have I2:Inv X pins σ H1 { s1 with heap:=s1.heap.push { cls:=.type "dict_items",data:=.fields #[.ref a] } }:=I1.kept (t':=s1.toks) λb o e=>AA3 _ e
  have em2:cB ({ s1 with heap:=s1.heap.push { cls:=.type "dict_items",data:=.fields #[.ref a] } }:Shared).heap a es xs.length:=em.to λo e=>AA3 _ e
  have vw:({ s1 with heap:=s1.heap.push { cls:=.type "dict_items",data:=.fields #[.ref a] } }:Shared).heap.IsItemsView s1.heap.objs.size a:=⟨_,AAD _ rfl,rfl,rfl⟩
  generalize ({ s1 with heap:=s1.heap.push { cls:=.type "dict_items",data:=.fields #[.ref a] } }:Shared)=s2 at I2 em2 vw ⊢
  refine mI (I2.ok.hd hc) vw em2 (by lia) λhb tk as kp hl hG=>?_
  obtain⟨us,ul,hu⟩:=zQ r
  obtain⟨m,hns,hm'⟩:=I2.loc
  have hns':hb.Ns X.env.locals m:=by
   obtain⟨o',es',ep',e,aZ⟩:=hns
   exact⟨o',es',ep',kp _ _ e,aZ⟩
  have fr:∀p∈as.zip us,s2.heap.get? p.1=none:=λp hp=>by
   have lo:=hG.above p.1 (AD5 hp).1
   cases qq:s2.heap.get? p.1 with
   | none=>rfl
   | some o'=>exact absurd (ADs (AAF qq) lo) (AAW _)
  have ag:∀b u,H1 b=some u->nZ H1 (as.zip us) b=some u:=λb u e=>by
   rw[kx λp hp z=>by rw[<-z,HOk.none I2.hok (fr p hp)]at e;cases e];exact e
  have at_:∀(j:Nat) b,as[j]?=some b->∃pp x vv,kvs[j]?=some pp/\xs[j]?=some x/\us[j]?=some [.ref x.2.1,vv]/\Rep X.K ρ1 H1 pp.1 (.ref x.2.1)/\Rep X.K ρ1 H1 pp.2 vv/\aK vv x.2.2/\hb.get? b=some { cls:=.type "tuple",data:=.seq #[.ref x.2.1,x.2.2] }:=λj b hj=>by
   have lj:=(AA7.mp hj).1
   have hxj:xs[j]?=some (xs[j]'(by lia)):=AA6 (by lia)
   obtain⟨pp,vv,e1,e2,e3,e4,e5⟩:=hu j _ hxj
   obtain⟨e,f1,f2⟩:=hG.tup j b hj
   obtain⟨e',f3,f4,f5⟩:=eg j _ hxj
   rw[f1]at f3
   obtain rfl:=AAM f3
   rw[f4,f5]at f2
   exact⟨pp,_,vv,e1,hxj,e2,e3,e4,e5,f2⟩
  have I3:Inv X pins σ (nZ H1 (as.zip us)) { s2 with heap:=hb,toks:=tk }:=I2.laidT (λb u _ e=>kp b u e) hns hns' fr λb vs e=>by
   obtain⟨j,hj⟩:=AC9 (qR e)
   obtain⟨z1,z2⟩:=ACs.mp hj
   obtain⟨pp,x,vv,_,_,e2,_,_,e5,f2⟩:=at_ j b z1
   rw[show us[j]?=some vs from z2]at e2
   obtain rfl:=AAM e2
   exact⟨by show (2:Nat)<=sizeLine;rw[ABV];lia,[.ref x.2.1,x.2.2],.cons rfl (.cons e5 .nil),⟨_,f2,rfl,⟨0,rfl⟩,rfl⟩⟩
  have gr:Grow X.K ρ1 H1 ρ1 (nZ H1 (as.zip us)):=Grow.more ag
  have rps:Reps X.K ρ1 (nZ H1 (as.zip us)) (cT kvs) (as.map V.ref):=ut _ _ (by unfold cT;rw[AA4];lia) λj dd' b h1 h2=>by
   obtain⟨pp,x,vv,e0,_,e2,e3,e4,_,_⟩:=at_ j b h2
   unfold cT at h1
   rw[AAN,e0]at h1
   obtain rfl:=AAM h1
   refine .tup (SqT.of (show nZ H1 (as.zip us) b=some (.tup [.ref x.2.1,vv])from ?_)) (.cons (e3.grow gr) (.cons (e4.grow gr) .nil))
   unfold nZ
   rw[qQ hG.nd h2 e2]
  have lL:X.env.locals<hb.objs.size:=by
   obtain⟨o',_,_,e,_⟩:=hns'
   exact AAF e
  have hD:hb.get? hb.objs.size=none:=by
   cases qq:hb.get? hb.objs.size with
   | none=>rfl
   | some o'=>exact absurd (AAF qq) (AAW _)
  refine oH (s:={ s2 with heap:=hb,toks:=tk }) (tk:=tk) (n:=0) hr (by show X.A.units+1<=X.A.units+4;lia) I3 (sm1.more ag) so.g rps (jC as) hns' ?_ (λb u _ e=>AA3 _ e) hD (ABY lL) (AAD _ rfl) λv H' z=>kk v H' (VQ.trans (g1.trans gr) (z Q q2))
  obtain⟨o',es',ep',e,aZ⟩:=hns'
  exact⟨o',es',ep',AA3 _ e,aZ⟩
 | _=>exact q1.elim
theorem pD(hr:Room k X.A)(ho:HE X o to)(hm:X.mg "sorted" = none)(hc:X.calm=true:=by kernel_rfl)(hg:X.env.kindOf "sorted" = some .globalImplicit:=by kernel_rfl)
  (hs:starEach [Expr.Call (.Attribute o "items" apos) [] [] cpos] X.env=[(false,eval (Expr.Call (.Attribute o "items" apos) [] [] cpos) X.env)]:=by kernel_rfl)
  (hbase:attributeBase o "items" X.env (eval o X.env)=eval o X.env:=by kernel_rfl) (hline:(apos.endLine==cpos.line)=true:=by kernel_rfl) :
  HE X (.Call (.Name "sorted" p) [.Call (.Attribute o "items" apos) [] [] cpos] [] pos) (cY to):=⟨pP hr hc ho.ok hm hg hs hbase hline⟩
end
end L2
namespace L2
open PySem PySem.Spec PyProof.Rows DL PySem.W
def rY:DRA:=λds M Q=>match ds with
 | [.int i,.int j]=>Q (.int (if j > i then j else i)) M
 | _=>False
theorem By(hc:X.calm=true):fZ X (.builtin "max") rY:=by
 refine du.imp (wv hc) ?_
 rintro vs H R ⟨ds,M,ρ,Q,sm,rs,q,k⟩
 unfold rY at q
 split at q
 ·first | have hzz:=Reps.inv_cons rs | have hzz:=ar.inv_cons rs
  clear rs
  obtain⟨_,_,rfl,r1,rs⟩:=hzz
  first | have hzz:=Reps.inv_cons rs | have hzz:=ar.inv_cons rs
  clear rs
  obtain⟨_,_,rfl,r2,rs⟩:=hzz
  cases rs
  cases r1
  cases r2
  exact⟨_,_,rfl,k _ H (VQ.now sm (.int _) q)⟩
 ·exact q.elim
theorem AU(hc:X.calm=true:=by kernel_rfl):HC X (.builtin "max") rY:=⟨By hc⟩
noncomputable def dictOf(ps:List (D×D)):List (D×D):=ps.foldl (λkvs p=>gG kvs p.1 p.2) []
theorem eP:dictOf (ps++[p])=gG (dictOf ps) p.1 p.2:=by
 unfold dictOf
 rw[List.foldl_append];rfl
theorem nD:∀(ps kvs:List (D×D)),(ps.foldl (λkvs p=>gG kvs p.1 p.2) kvs).length<=kvs.length+ps.length
 | [],_=>AAA _
 | p::ps,kvs=>by
  have h1:=nD ps (gG kvs p.1 p.2)
  have h2:=kH (kvs:=kvs) (k:=p.1) (d:=p.2)
  rw[List.foldl_cons,AAO];lia
theorem kj:(dictOf ps).length<=ps.length:=by
 have:=nD ps []
 rw[AAa,Nat.zero_add]at this
 exact this
theorem nG:entryFor table "dict.update.loop" = some Builtin.«dict.update.loop»:=entryFor_of_tree (by kernel_rfl)
theorem fo:plainId "dict.update.loop" = true:=by decide +kernel
theorem dsetE(hu:(bA prog w).room A)(kat:(bA prog w).is s.heap k b)
  (hm:s.heap.DictOfH (bA prog w) d xs) (hx:dX d xs prog w s.heap) (hz:xs.length<=sizeLine)
  (hQ:∀h',dX d (storedH xs k b v) prog w h'->ABA d s.heap h'->Q () { s with heap:=h',toks:=s.toks+(bA prog w).draws k }):wpAny (model prog w) A (dictSet d (.ref b) v) Q E s:=by
 obtain⟨_,_,_,_,_,_,_,his,hn⟩:=hm
 obtain⟨o,es,ho,hc,hd,he'⟩:=hx
 have he:es.toList=xs.map (entryOfKey (bA prog w)):=he'
 unfold dictSet
 try with_reducible refine AAj ?_
 refine AA0 ((bA prog w).pyHash hu kat ?_)
 unfold dictSetHashed
 try with_reducible refine AAj ?_
 have hl:es.size=xs.length:=size_of_entries he
 refine AA0 (wpAny_dictFind_heap (s:={ s with toks:=s.toks+(bA prog w).draws k }) hu kat ho hd he his hn (λhno=>?_) λj p hj=>?_)
 ·refine AA0 (ACE (wpAny_updateDictKeys (hz:=by lia) (s:={ s with toks:=s.toks+(bA prog w).draws k }) ho hd (hQ _ ⟨_,es.push ⟨(bA prog w).hash k,.ref b,v⟩,AAx _ ho (ACx (ACl hd _)),hc.mapDictKeys _,?_,?_⟩ (ABE ..))))
  ·rw[ACl hd,storedH_new (ADU hno),AAH];rfl
  ·rw[storedH_new (ADU hno)]
   rw[Array.toList_push,he,AAp]
   rfl
 ·refine AA0 (ACE (AA0 (wpAny_updateDict (s:={ s with toks:=s.toks+(bA prog w).draws k }) ho hd (wpAny_point (hQ _ ⟨_,es.modify j λe=>{ e with val:=v },AAx _ ho (ACx (ADf hd _)),hc.mapDict _,?_,?_⟩ (ABE ..))))))
  ·rw[ADf hd,storedH_old (atKey_of_get hn hj),AA4]
  ·rw[storedH_old (atKey_of_get hn hj)]
   have q:=modify_map_putAt (entryOfKey (bA prog w)) (λe:DictEntry=>{ e with val:=v }) k v (λ_ _=>rfl) hn hj
   rw[<-he]at q
   obtain⟨l⟩:=es
   have q2:(Array.modify ⟨l⟩ j λe:DictEntry=>{ e with val:=v }).toList=(xs.map (putAt k v)).map (entryOfKey (bA prog w)):=by simpa using q
   exact q2
structure DD(X:Cx)(ρ:List Addr)(H:Hp)(h:Heap)(a:Addr)(kvs:List (D×D))(xs:List (D×Addr×Value)):Prop where
 dx:dX a xs X.prog X.w h
 kv:Paired (om X.K ρ H) kvs xs
 nd:(kvs.map (·.1)).Nodup
theorem DD.at(x:DD X ρ H h a kvs xs)(k:∀o,h.get? a=some o->h'.get? a=some o):DD X ρ H h' a kvs xs:=by
 obtain⟨⟨o,es,e1,e2,e3,e4⟩,kv,nd⟩:=x
 exact⟨⟨o,es,k _ e1,e2,e3,e4⟩,kv,nd⟩
theorem DD.len(x:DD X ρ H h a kvs xs):xs.length=kvs.length:=by
 have:=congrArg ACS (jf x.kv)
 rwa [AA4,AA4]at this
theorem DD.of(I:Inv X pins σ H s)(x:DD X ρ H s.heap a kvs xs):s.heap.DictOfH (bA X.prog X.w) a xs:=by
 obtain⟨o,es,e1,e2,e3,e4⟩:=x.dx
 have ek:=jf x.kv
 refine⟨o,es,_,e1,e2,e3,e4,λy hy=>?_,by rw[ek];exact x.nd⟩
 obtain⟨i,hi⟩:=AC9 hy
 obtain⟨p,_,q1,q2,q3,_⟩:=fQ x.kv hi
 rw[<-q1]
 exact eI I 8 _ _ _ q3 rfl q2
theorem Br(I:Inv X pins σ H s)(hu:A.units+20<cLine)(W:Walks X.prog X.w A.in1 J fp wr m P Sx)(S:Addr)(hSf:S∉fp)
  (hS0:s.heap.get? S=none) (hw0:∀b∈wr,s.heap.get? b=none) (ps:List (D×D)) (hm:ps.length=m) (hval:∀i v,P i v->∃p,ps[i]?=some p/\(∃vv,Rep X.K ρ H (.tup [p.1,p.2]) vv/\aK vv v)/\hV 8 p.1=true/\qV p.1=true) (hb:m<=1000) :
  ∀(k i:Nat) (h:Heap) (tk:Nat) (xs:List (D×Addr×Value)) (j:Int) (t:Tok),m-i=k->i<=m->Sx i h->DD X ρ H h S (dictOf (ps.take i)) xs->(∀b u,s.heap.get? b=some u->h.get? b=some u) ->
   (∀h' tk xs',(∀b u,s.heap.get? b=some u->h'.get? b=some u)->DD X ρ H h' S (dictOf ps) xs'->R (.ok (.ret .none)) { s with heap:=h',toks:=tk }) ->
   codeAny (model X.prog X.w) A (.builtin "dict.update.loop" ⟨[.ref S,.ref J,.int j t,.none],[]⟩) R { s with heap:=h,toks:=tk }:=by
 have hSw:S∉wr:=λh=>hSf (W.sub _ h)
 intro k
 induction k with
 | zero =>
  intro i h tk xs j t hk hi hst hS hold hR
  obtain rfl:i=m:=by lia
  refine ABy nG ?_
  rw[ABt fo _]
  refine(show wpAny (model X.prog X.w) A.in1 (pyNext (.ref J) >>= _) _ _ _ from AA0 (W.done _ _ _ hst λh' tk hk'=>?_))
  rw[<-hm,ABN]at hS
  refine(show wpAny (model X.prog X.w) A.in1 (Builtin.Dict.addKeywords S [] >>= _) _ _ _ from AA0 (AA5 (AA5 ?_)))
  exact hR h' tk xs (λb u e=>hk' b u (λz=>by rw[hw0 b z]at e;cases e) (hold b u e)) (hS.at λo e=>hk' S o hSw e)
 | succ k ih =>
  intro i h tk xs j t hk hi hst hS hold hR
  refine ABy nG ?_
  rw[ABt fo _]
  refine(show wpAny (model X.prog X.w) A.in1 (pyNext (.ref J) >>= _) _ _ _ from AA0 (W.item i _ _ _ (by lia) hst λv h' tk hP hst' hk'=>?_))
  obtain⟨p,hp,⟨vv,r,rv⟩,kd,it⟩:=hval i v hP
  have old':∀b u,s.heap.get? b=some u->h'.get? b=some u:=λb u e=>hk' b u (λz=>by rw[hw0 b z]at e;cases e) (hold b u e)
  have I':Inv X pins σ H { s with heap:=h',toks:=tk }:=I.kept old'
  have hS':=hS.at λo e=>hk' S o hSw e
  have hl:=hS'.len
  have dl:=kj (ps:=ps.take i)
  have dd:=hS'.of (s:={ s with heap:=h',toks:=tk }) I'
  obtain⟨a,vs,rfl,hq,rr⟩:=Rep.inv_tup r
  cases rv
  first | have hzz:=Reps.inv_cons rr | have hzz:=ar.inv_cons rr
  clear rr
  obtain⟨_,_,rfl,r1,rr⟩:=hzz
  first | have hzz:=Reps.inv_cons rr | have hzz:=ar.inv_cons rr
  clear rr
  obtain⟨_,_,rfl,r2,rr⟩:=hzz
  cases rr
  obtain⟨its,r2',pl,hz⟩:=I'.tuple hq
  obtain⟨u1,u2,rfl,e1,e2⟩:=ar.two r2'
  obtain⟨k0,d0⟩:=p
  cases k0 with
  | tup ks =>
   have kat:=eI I' 8 _ _ _ r1 e1 kd
   obtain⟨b,_,rfl,_⟩:=id kat
   obtain⟨_,_,rfl,hq1,rr1⟩:=Rep.inv_tup r1
   cases e1
   obtain⟨o,ho,hc,nn,hd⟩:=pl
   have hT:({ s with heap:=h',toks:=tk }:Shared).TypeIs (.ref a) "tuple":=⟨o,ho,hc⟩
   refine AA0 (AAj (AA0 (wpAny_tryCatch ?_)))
   unfold Builtin.Dict.pairItems
   refine AA0 (AD2 hT ?_)
   rw[if_pos (by decide)]
   refine AA0 (ABl ho hd (AA5 ?_))
   refine(show wpAny (model X.prog X.w) _ (holding [.ref b,u2] (dictSet S (.ref b) u2)) _ _ _ from AAj ?_)
   refine dsetE (k:=.tup ks) (s:={ s with heap:=h',toks:=tk }) (by show A.units+1+8<cLine;lia) kat dd hS'.dx (af (by rw[hl];rw[ABM]at dl;lia)) λh2 dx2 sb=>?_
   have k2:∀b u,b≠S->h'.get? b=some u->h2.get? b=some u:=λb u hb e=>(sb.2 b hb).trans e
   have kv2:=yN hS'.kv kd (.tup hq1 rr1) r2 e2
   have et:ps.take (i+1)=ps.take i++[(.tup ks,d0)]:=by rw[ABa,hp];rfl
   refine AA5 ⟨ADE fo _,ih (i+1) h2 _ _ _ _ (by lia) (by lia) (W.frame _ h' h2 hst' λb' hb' o e=>k2 b' o (λz=>hSf (z ▸ hb')) e) ⟨dx2,?_,?_⟩ (λb u e=>k2 b u (λz=>by rw[z,hS0]at e;cases e) (old' b u e)) hR⟩
   ·rw[et,eP];exact kv2
   ·rw[et,eP];exact fO hS'.nd
  | _=>cases it
noncomputable abbrev EE(M:Mem)(R:DK):DEnds:=⟨λ_ M'=>aH M R .non M',aH M R,λ_ _=>False,λ_ _=>False⟩
noncomputable def dst(n:Nat)(ds:List D):SD:=ds.map some++ADV (n-ds.length) none
abbrev WpT(Pr:DSp)(n:Nat)(t:DTS):Prop:=∀ds M R,Pr ds M R->t (EE M R) (dst n ds) M
abbrev er(Pr:DSp)(p:List Str):Prop:=∀ds M R,Pr ds M R->ds.length=p.length
abbrev EY(P:Program)(w:World)(K:AA2)(mg:Str->Option Value)(base:Heap)(k:Nat)(x:Str)(N:List Str)(st:Stmt)(t:DTS):Prop :=
 ∀(f:Addr) (cdv:Value) (A:Around) (outer:List Env) (s:Shared) (H:Hp) (E:XK),Room k (A.deeper (PyProof.Rows.envOfC x (ao st) s.heap.objs.size f cdv))->HB (nI CX0 P w K mg base N x (ao st) f cdv A outer s H E).nox (aO st) t
theorem kz:typeLookup (.type "tuple") "keys" = pure none:=by rw[typeLookup_type,builtinLookup_eq_fast];kernel_rfl
section
variable{prog:Program}{w:World}{A:Around}{E:Value->Shared->Prop}{h:Heap}{g:Array GenState}{d:Drawn}{t:Nat}{os:OsState}{a:Addr}{o:Obj}
theorem wV(hx:h.get? a=some o)(hc:o.cls=.type "tuple")(hdict:o.dict=none)(hdat:o.data=.seq its nn)(hA:A.handled=none)(hq:∀h' tk e,Heap.NewAttrErr h h' e (.ref a) "keys"->R (.error (.ref e)) ⟨h',g,d,tk,os⟩) :
  codeAny (model prog w) A (.call (.builtin "tuple.__getattribute__") ⟨[.ref a,.str "keys" u],[]⟩) R ⟨h,g,d,t,os⟩:=by
 obtain⟨oc,od,odt,osl⟩:=o
 obtain rfl:oc=.type "tuple":=hc
 obtain rfl:od=none:=hdict
 obtain rfl:odt=.seq its nn:=hdat
 have hT:(⟨h,g,d,t,os⟩:Shared).TypeIs (.ref a) "tuple":=⟨_,hx,rfl⟩
 have f4:=kz
 refine codeAny_call_builtin ABk.plain PySem.F.entry_tuple_ga (ABk.check _ _ _ _ _ _ _ _ hT (PySem.F.args_tuple_getattribute_2 _ _) ?_)
 unfold Builtin.«object.__getattribute__»
 repeat (any_goals (first | assumption | wp_step))
 refine wpAny_raiseAttrError (o:=.ref a) (name:="keys") (by first | exact hA | simpa using hA) hq ?_
 exact attrMsg_fits (by decide +kernel) (by size_fits)
theorem rS(hx:h.get? a=some o)(hc:o.cls=.type "tuple")(hdict:o.dict=none)(hdat:o.data=.seq its nn)(hA:A.handled=none)(hq:∀h' tk,(∀b ob,h.get? b=some ob->h'.get? b=some ob)->Q none ⟨h',g,d,tk,os⟩) :
  wpAny (model prog w) A (getAttr? (.ref a) "keys") Q E ⟨h,g,d,t,os⟩:=by
 obtain⟨oc,od,odt,osl⟩:=o
 obtain rfl:oc=.type "tuple":=hc
 obtain rfl:od=none:=hdict
 obtain rfl:odt=.seq its nn:=hdat
 have hT:∀tk,(⟨h,g,d,tk,os⟩:Shared).TypeIs (.ref a) "tuple":=λ_=>⟨_,hx,rfl⟩
 have f1:=sub_AttributeError
 have f2:=ABk.lookup
 have f3:=ABk.bind (.ref a)
 have f5:=PySem.am_tuple_getattr_none
 unfold getAttr? getAttrBy? getAttrBy
 repeat (any_goals (first | assumption | exact hT _ | wp_step))
 refine wV hx rfl rfl rfl (by first | exact hA | simpa using hA) λh' tk e hx'=>?_
 obtain⟨t',u',he⟩:=hx'.there
 unfold getattributeRaised
 repeat (any_goals (first | assumption | wp_step))
 exact hq _ _ hx'.keeps
end
theorem Inv.tupN(I:Inv X pins σ H s)(h:SqT X.K H a xs):∃its:List Value,ar xs its/\yF s.heap a its.toArray/\xs.length<=sizeLine:=by
 rcases h with h | ⟨o,its,n,hk,hc,hd,hs,hz,r⟩
 ·obtain⟨z,its,r,p⟩:=h.ok I.hok
  exact⟨its,r,p,z⟩
 ·refine⟨its.toList,r,⟨o,I.kIn a o hk,hc,⟨n,by simpa using hs⟩,hd⟩,?_⟩
  have e:=r.length
  simp only[ABU]at e
  lia
theorem yC(I:Inv X pins σ H s)(hu:A.units+30<cLine)(hh:A.handled=none)(hl:s.heap.IsTuple l its)(hol:s.heap.get? l=some ol)(hdict:ol.dict=none)(ps:List (D×D))(hm:ps.length=its.size)
  (hval:∀(i:Nat) v,its[i]?=some v->∃p:D×D,ps[i]?=some p/\(∃vv,Rep X.K ρ H (.tup [p.1,p.2]) vv/\aK vv v)/\hV 8 p.1=true/\qV p.1=true) (hb:its.size<=1000)
  (h:∀h' tk xs,(∀b u,s.heap.get? b=some u->h'.get? b=some u)->DD X ρ H h' s.heap.objs.size (dictOf ps) xs->Q (.ref s.heap.objs.size) { s with heap:=h',toks:=tk }) :
  wpAny (model X.prog X.w) A (call (.type "dict") [.ref l]) Q E s:=by
 refine callType_codes (Q₁:=λobj s₁=>obj=.ref s.heap.objs.size/\s₁={ s with heap:=s.heap.push { cls:=.type "dict",data:=.dict #[] } }) PySem.F.kt_called_dict (PySem.F.kt_typeCall_dict_1 _) PySem.F.entry_dict_init (kt_code_dict_new _ ⟨rfl,rfl⟩) ?_
 rintro obj s₁ ⟨rfl,rfl⟩
 have hS:(s.heap.push { cls:=.type "dict",data:=.dict #[] }).get? s.heap.objs.size=some { cls:=.type "dict",data:=.dict #[] }:=AAD _ rfl
 have hT:ADy { s with heap:=s.heap.push { cls:=.type "dict",data:=.dict #[] } } (.ref s.heap.objs.size) "dict":=⟨_,hS,rfl⟩
 obtain⟨ol',e1,hcl,nn,hdd⟩:=id hl
 obtain rfl:ol'=ol:=AAM (e1.symm.trans hol)
 have hol':(s.heap.push { cls:=.type "dict",data:=.dict #[] }).get? l=some ol':=AA3 _ hol
 have hTl:ADy { s with heap:=s.heap.push { cls:=.type "dict",data:=.dict #[] } } (.ref l) "tuple":=⟨ol',hol',hcl⟩
 have ll:l<s.heap.objs.size:=AAF hol
 refine⟨hT,PySem.F.args_dict_init_2 _ _,?_⟩
 unfold Builtin.«dict.__init__»
 refine AA0 ?_
 unfold Builtin.Dict.selfAndRest
 refine AA0 (ACZ hT ?_)
 refine(show wpAny _ _ (pure (s.heap.objs.size,[AAe l])) _ _ _ from AA5 ?_)
 refine(show wpAny _ _ (Builtin.Dict.updateFrom "dict.__init__" s.heap.objs.size (.ref l) [] .none) _ _ _ from ?_)
 unfold Builtin.Dict.updateFrom
 refine AA0 (AD2 hTl ?_)
 rw[if_pos (by decide)]
 refine AA0 (rS hol' hcl hdict hdd (by simpa using hh) λh1 tk1 k1=>?_)
 have kp1:∀b u,s.heap.get? b=some u->h1.get? b=some u:=λb u e=>k1 b u (AA3 _ e)
 rw[if_pos (show (none:Option Value).isNone=true from rfl)]
 refine AA0 (ACE ?_)
 obtain⟨oI,St,hit,W,st⟩:=(TxSrc.tuple (prog:=X.prog) (w:=X.w) hl).iter A.in1.in1 { s with heap:=h1,toks:=tk1 } (by simpa using hh) λo e=>kp1 _ _ e
 refine AA0 (hit _ _ ?_)
 have hS1:=k1 _ _ hS
 have lS:s.heap.objs.size<h1.objs.size:=AAF hS1
 have hS0:s.heap.get? s.heap.objs.size=none:=by
  cases q:s.heap.get? s.heap.objs.size with
  | none=>rfl
  | some o=>exact absurd (AAF q) (AAW _)
 refine AA5 ⟨ADE fo _,Br (A:=A.in1) (s:=s) I (by show A.units+1+20<cLine;lia) W s.heap.objs.size ?_ hS0 ?_ ps hm hval hb its.size 0 _ _ [] _ _ rfl (AAX _) st ⟨⟨_,#[],AA3 _ hS1,⟨rfl,rfl,rfl⟩,rfl,rfl⟩,.nil,ACO⟩ (λb u e=>AA3 _ (kp1 b u e)) λh2 tk2 xs k2 dd=>⟨rfl,h h2 tk2 xs k2 dd⟩⟩
 ·simp only[AAG,ABF,or_false,not_or]
  exact⟨AAK lS,ABY ll⟩
 ·intro b hb'
  rw[AB0.mp hb']
  cases q:s.heap.get? h1.objs.size with
  | none=>rfl
  | some o=>exact absurd (ADs (AAF q) lS) (AAW _)
def mO:DRA:=λds M Q=>match ds with
 | [.tup xs]=>∃ps:List (D×D),xs=ps.map (λp=>.tup [p.1,p.2])/\(∀p∈ps,hV 8 p.1=true/\qV p.1=true)/\ps.length<=1000/\Q (.ref M.length) (M++[.dkt (dictOf ps)])
 | _=>False
theorem yB(hr:Room k X.A)(hc:X.calm=true):fZ X (.type "dict") mO:=by
 rintro pins s σ H vs us R I rv ⟨ds,M,ρ,Q,sm,rs,q,kk⟩
 have un:=hr.un
 unfold mO at q
 split at q
 ·obtain⟨ps,hL,hk,hl,q⟩:=q
  first | have hzz:=Reps.inv_cons rs | have hzz:=ar.inv_cons rs
  clear rs
  obtain⟨_,_,rfl,r1,rs⟩:=hzz
  cases rs
  obtain⟨u,rfl,e1⟩:=ar.one rv
  subst hL
  obtain⟨a,ws,rfl,hq,r⟩:=Rep.inv_tup r1
  cases e1
  obtain⟨its,rr,pl,hz⟩:=I.tupN hq
  obtain⟨oa,hoa,hca,⟨nn,hdata⟩,hdict⟩:=id pl
  have lw:=r.length
  have li:=rr.length
  rw[AA4]at lw
  have hf:H s.heap.objs.size=none:=I.hok.fresh (AAA _)
  have hb:(s.heap.objs.size==sysModules)=false:=beq_eq_false_iff_ne.mpr (AAr (AAK I.big))
  refine yC (A:=X.A) (ρ:=ρ) I (by lia) (I.ok.hd hc) pl.tup hoa hdict ps (by rw[AAC];lia) (λi v hv=>?_) (by rw[AAC];lia) λh' tk xs kp dd=>?_
  ·obtain⟨d,vv,e1,r1,rv1⟩:=sX r rr (i:=i) (u:=v) (by simpa using hv)
   rw[AAN]at e1
   obtain⟨p,hp,rfl⟩:=ABH.mp e1
   exact⟨p,hp,⟨vv,r1,rv1⟩,hk p (AAc hp)⟩
  ·have dl:=kj (ps:=ps)
   refine⟨.ref s.heap.objs.size,_,I.laid (a:=s.heap.objs.size) (o:=.ext (dX s.heap.objs.size xs)) (t':=tk) kp (AAA _) (pH dd.dx),rfl,?_⟩
   exact kk _ _ ⟨.ref M.length,M++[.dkt (dictOf ps)],ρ++[s.heap.objs.size],sm.laidM (mo:=.dkt (dictOf ps)) hf ⟨af (by lia),hb,dd.nd,xs,ay,Paired.mapP dd.kv λ_ _ ⟨q1,q2,q3,v,q4,q5⟩=>⟨q1,q2,q3.grow (Grow.laidR hf),v,q4.grow (Grow.laidR hf),q5⟩⟩,Grow.laidR hf,.ref sm.last,q⟩
 ·exact q.elim
theorem yg(hr:Room k X.A)(hc:X.calm=true:=by kernel_rfl):HC X (.type "dict") mO:=⟨yB hr hc⟩
inductive TopB(mg:Str->Option Value):List Str->List (Str×Int)->Prop
 | nil:TopB mg [] []
 | b {x:Str}{B:List Str}{C:List (Str×Int)} (h:mg x=none) (t:TopB mg B C):TopB mg (x::B) C
 | c {x:Str}{i:Int}{C:List (Str×Int)} (h:∃t,mg x=some (.int i t)) (t:TopB mg [] C):TopB mg [] ((x,i)::C)
theorem TopB.no(h:TopB mg B C)(c:B.contains x=true):mg x=none:=by
 induction h with
 | nil=>simp at c
 | b h _ ih =>
  simp only[List.contains_cons,Bool.or_eq_true,beq_iff_eq]at c
  rcases c with rfl | c
  ·exact h
  ·exact ih c
 | c _ _ _=>simp at c
noncomputable def nodB:List Str->Bool
 | []=>true
 | x::xs=>!xs.contains x&&nodB xs
theorem Df:∀{l:List Str},nodB l=true->l.Nodup
 | [],_=>ACO
 | x::xs,h=>by
  simp only[nodB,AAU,Bool.not_eq_true',List.contains_eq_mem,decide_eq_false_iff_not]at h
  exact AAf.mpr ⟨h.1,Df h.2⟩
noncomputable def tgN:Expr->List Str
 | .Name x _=>[x]
 | .Tuple es _ _=>es.filterMap fun | .Name x _=>some x | _=>none
 | _=>[]
noncomputable abbrev lcN(N:List Str)(js:List Nat)(tg:Expr):List Str:=tgN tg++js.map λj=>N.getD j ""
theorem k_lcN(hi:HI X tg iter di)(hg:∀cl s0 H0 ex,HG (blk X (lcN X.N js tg) scope cl s0 H0 ex) tg g)(ht:∀cl s0 H0 ex,HTs (blk X (lcN X.N js tg) scope cl s0 H0 ex) ifs tt)(he:∀cl s0 H0 ex,HE (blk X (lcN X.N js tg) scope cl s0 H0 ex) elt te)
  (B:km X.env.scope.names X.N (lcN X.N js tg) nt js scope=true:=by kernel_rfl) (hc:X.calm=true:=by kernel_rfl) (hs:∀x,foldedSetIterable iter X.env x=pure x:=by intro _;kernel_rfl):HE X (.ListComp elt [⟨tg,iter,ifs,0⟩] scope pos) (dLC nt js di g tt te):=k_lc hi hg ht he B hc hs
theorem nv(hN:X.N.Nodup)(hi:HI X tg iter di)(hg:∀cl s0 H0 ex,HG (blk X (lcN X.N js tg) scope cl s0 H0 ex) tg g)(ht:∀cl s0 H0 ex,HTs (blk X (lcN X.N js tg) scope cl s0 H0 ex) ifs tt)(he:∀cl s0 H0 ex,HE (blk X (lcN X.N js tg) scope cl s0 H0 ex) elt te)
  (B:km X.env.scope.names X.N (lcN X.N js tg) nt js scope=true:=by kernel_rfl) (hc:X.calm=true:=by kernel_rfl) (hs:∀x,foldedSetIterable iter X.env x=pure x:=by intro _;kernel_rfl) (hsw:swapsWith (.ListComp elt [⟨tg,iter,ifs,0⟩] scope pos) (some (.Name x pos')) pos2.line X.env=pure true:=by kernel_rfl)
  (hix:X.N[i]?=some x:=by kernel_rfl) (hx:BJ X.env.scope x=true:=by kernel_rfl) (hf:X.fn x=true:=by kernel_rfl):HS X (.Assign [.Name x pos'] (.ListComp elt [⟨tg,iter,ifs,0⟩] scope pos) pos2) (jo nt js di g tt te i):=xT hN hi hg ht he B hc hs hsw hix hx hf
theorem gA(h:HA X es t):HA X es t:=h
theorem gE(h:HE X e te):HE X e te:=h
theorem gCall(h:HE X (.Call a b c pos) te):HE X (.Call a b c pos) te:=h
theorem gIx(h:HE X (.Subscript a b pos) te):HE X (.Subscript a b pos) te:=h
theorem Ef(h:HE X (.Constant a b pos) te):HE X (.Constant a b pos) te:=h
theorem gT(h:HT X e tt):HT X e tt:=h
theorem gS{st:Stmt}{t:DTS}(h:HS X st t):HS X st t:=h
theorem gOp(h:HOp X f r):HOp X f r:=h
theorem gC(h:HC X f r):HC X f r:=h
theorem vT{b:List Stmt}{st:Stmt}{sts:List Stmt}{t:DTS}(h:b=st::sts)(q:HB X (st::sts) t):HB X b t:=h ▸ q
section
variable{P:Program}{w:World}{K:AA2}{mg:Str->Option Value}{base:Heap}{x:Str}{st:Stmt}{N ps:List Str}{k:Nat}{Pr:DSp}{B:List Str}{C:List (Str×Int)}{t:DTS}
theorem Cal.byD(T:TopB mg B C)(F:eu K mg x st ps)(Sc:FnScope N ps (ao st))(len:er Pr ps)(der:TopB mg B C->N.Nodup->EY P w K mg base k x N st t)(wp:∀ds M R,Pr ds M R->t (EE M R) (bw N ds) M):Cal P w K mg base (k+1) x ps Pr :=
 Cal.byH F Sc len (der T Sc.nd) wp
theorem yj(T:TopB mg B C)(F:Fun K x x st f fd)(Sc:FnScope N ps (ao st))(len:er Pr ps)(der:TopB mg B C->N.Nodup->EY P w K mg base k x N st t)(wp:∀ds M R,Pr ds M R->t (EE M R) (bw N ds) M):FnOk P w K mg base CX0 (k+1) f fd ps (spL K Pr) :=
 yi F Sc len (der T Sc.nd) wp
end
theorem pS(ho:s.heap.get? l=some o)(hc:o.cls=.type "list"\/o.cls=.type "tuple")(hd:o.data=.seq vs.toArray n)
  (h:Q vs { s with heap:=(s.heap.push (seqObj "list" #[] 0)).update s.heap.objs.size (AB3 (· ++ vs.toArray)) }) (hsz:vs.length<=sizeLine):wpAny (model prog w) A (collect (.ref l)) Q E s:=by
 rcases hc with hc | hc
 ·exact collect_list ⟨o,ho,hc,n,hd⟩ h hsz
 unfold collect
 refine AA0 (wpAny_runValue (ABy entry_proto_collect' ?_))
 show wpAny _ _ (do again (.builtin "list.__iadd__" ⟨[<-newList [],.ref l],[]⟩)) _ _ s
 refine AA0 (ACg (AA5 ⟨Code.quiet_builtin _ (by decide +kernel),ABy entry_list_iadd' ?_⟩) (AAX _))
 show wpAny _ _ (ABz (.ref s.heap.objs.size) (.ref l) (.ref s.heap.objs.size)) _ _ { s with heap:=s.heap.push (seqObj "list" #[] 0) }
 unfold ABz
 have ho':(s.heap.push (seqObj "list" #[] 0)).get? l=some o:=AA3 _ ho
 refine AA0 (AD2 (T:="tuple") ⟨o,ho',hc⟩ ?_)
 have ht:(ACd "tuple" == ACd "tuple")=true:=by rfl
 rw[if_pos (by rw[ht];simp)]
 refine AA0 (ADb ho' hd ?_)
 refine AA0 (ADb (xs:=#[]) (n:=0) (AAD _ rfl) rfl ?_)
 rw[if_neg (by simp)]
 refine AA0 (ACh (xs:=#[]) (n:=0) (AAD _ rfl) rfl ?_ (AAX _) (by show (#[]++vs.toArray).size<=sizeLine+1;simp only[Array.size_append,AAC,AAa];lia))
 refine AA5 ?_
 show wpAny (model prog w) A (do
   let o <-load s.heap.objs.size
   match o.data with
   | .seq xs _=>pure xs.toList
   | _=>unsupported "internal:collect") Q E { s with heap:=(s.heap.push (seqObj "list" #[] 0)).update s.heap.objs.size (AB3 (· ++ vs.toArray)) }
 refine AA0 (wpAny_load (ACF (AAD _ rfl) _) ?_)
 show wpAny _ _ (pure ((#[]:Array Value)++vs.toArray).toList) Q E _
 rw[show ((#[]:Array Value)++vs.toArray).toList=vs by simp]
 exact AA5 h
theorem zq(hl:ks.length=vs.length)(h2:vs.length<2)(h:KatFin h₀ L m kS a ks e e1 vs (λs3=>P (.done (.ret .none)) s3) s) :
  wpAny (model prog w) A (ksk_end a false vs.toArray e1 (.ref kS) (ABi ks)) P E s:=by
 have hn2:vs.toArray.size<2:=by rw[AAC];exact h2
 unfold ksk_end
 dsimp only
 simp only[AAZ,if_false]
 rw[if_pos hn2,if_pos hn2]
 refine AA0 (AA5 ?_)
 rw[StateT.run_pure]
 refine AA0 (AA5 ?_)
 dsimp only
 refine kat_tail (out:=vs) ?_ (by lia) (by lia) rfl h
 show ((ABi ks).zip vs.toArray).map (·.2)=vs.toArray
 match ks,vs,hl,h2 with
 | [],[],_,_=>simp
 | [k],[v],_,_=>simp
 | [],_::_,hl,_=>simp at hl
 | _::_,[],hl,_=>simp at hl
 | _::_::_,[_],hl,_=>simp at hl
 | _,_::_::_,_,h2=>simp at h2;lia
theorem zo{f:Value}{e1:Nat}{P:PySem.Fin->Shared->Prop}{Fin:List Value->Nat->Shared->Prop}(hk:s.heap.get? kS=some (seqObj "list" #[] 0))(h64:vs.length<64)
  (hend:∀ks e s',ks.length=vs.length->Fin ks e s'->wpAny (model prog w) A (ksk_end a false vs.toArray e1 (.ref kS) (ABi ks)) P E s') (h:KatKeys prog w A h₀ L m kS f Fin vs [] 0 s) :
  wpAny (model prog w) A (ksk_rest a f false vs.toArray e1 (.ref kS)) P E s:=by
 unfold ksk_rest
 refine AA0 (ACE ?_)
 first
  | rw[List.forIn_toArray]
  | (rw[<-ADC];simp only[List.toList_toArray])
  | rw[<-ADC]
 refine AA0 (ABC (kat_fold h64 (λx ks e s' C hz hx=>?_) vs [] 0 s (by simp) hk h) (λ_ s' hd=>?_) λ_ _ x=>x)
 ·refine AA0 (ACi (ABC hx (λk s'' hk=>?_) λ_ _ hF=>hF.elim))
  obtain⟨news',g,F',N',U,c⟩:=hk
  obtain⟨pre,post,e0,hg,x1,x2⟩:=U.split
  rw[e0]at N'
  have nk:=N' (kS,seqObj "list" (ABi ks) e) (AAI _ (.head _))
  have s1:=ABE s''.heap kS (AB3 (·.push k))
  have ea:(ABi ks).push k=ABi (ks++[k]):=by simp
  obtain⟨c2,hc2⟩:∃c2,(s''.heap.update kS (AB3 (·.push k))).get? kS=some (seqObj "list" (ABi (ks++[k])) c2):=⟨_,by rw[<-ea];exact ACF nk.1 (·.push k)⟩
  try dsimp only
  refine AA0 (ACh nk.1 rfl ?_ (by rw[AAC,ABV];lia) (AB4 (Nat.le_of_eq (Array.size_push ..)) (by rw[AAC,ABV];lia)))
  exact AA5 ⟨rfl,k,c2,hc2,c _ c2 (kas_fr F' s1 nk.2.1 nk.2.2) (by rw[hg];exact news_set N' x1 x2 s1 hc2)⟩
 ·obtain⟨ks,e,hk',hl,fin⟩:=hd
  try dsimp only
  exact AA0 (ADb hk' rfl (hend ks e s' hl fin))
structure Own(X:Cx)(pins:List (Addr×Obj))(H:Hp)(a:Addr):Prop where
 un:H a=none
 ne:a≠X.env.locals
 fs:a∉X.fs
 s0:X.s₀.heap.objs.size<=a
 cl:∀x c,X.env.cells.lookup x=some c->c≠a
 pn:∀p∈X.pn++pins,p.1≠a
theorem Inv.own(I:Inv X pins σ H s)(h:s.heap.objs.size<=a):Own X pins H a :=
 ⟨I.hok.fresh h,λe=>by rw[e]at h;exact absurd (AAP I.lt h) (AAW _),I.nofs h,AB4 I.sz h,λx c e z=>by
  obtain⟨v,o,ho,_⟩:=I.cell x c e
  rw[z]at ho
  exact absurd (AAP (AAF ho) h) (AAW _),λp hp e=>by
  have:=AAF (I.pin p hp).1
  rw[e]at this
  exact absurd (AAP this h) (AAW _)⟩
theorem Inv.turnF(I:Inv X pins σ H s)(w:Own X pins H a)(k:∀b u,b≠X.env.locals->b≠a->s.heap.get? b=some u->h'.get? b=some u)(hn:s.heap.Ns X.env.locals m)(hn':h'.Ns X.env.locals m):Inv X pins σ H { s with heap:=h' }:=by
 have na:∀b u,H b=some u->b≠a:=λb u e=>ac e w.un
 refine I.step (g':=s.gens) (d':=s.drawn) (t':=s.toks) (ch:=[a]) (λb hb=>?_) (λb u hL _ hc e _=>k b u hL (by simpa using hc) e) (λb u hL _ hc e _=>⟨u.slots,k b u hL (by simpa using hc) e⟩) (λb u _ e n=>n) (λb u hc e=>?_)
  (λb xs q=>q) (λb u xs q=>q) (λb ps q=>⟨#[],by rw[q];simp⟩) (λm' hm=>?_) (λb u q=>?_) I.bare
 ·obtain rfl:b=a:=by simpa using hb
  exact⟨.inr w.s0,w.ne,w.cl,w.pn⟩
 ·by_cases hb:b=X.env.locals
  ·subst hb
   obtain⟨o',_,_,ho,_⟩:=hn'
   exact⟨o',ho⟩
  ·exact⟨u,k b u hb (by simpa using hc) e⟩
 ·have:m=m':=funext λx=>hn.agree hm x
  subst this
  exact hn'
 ·refine(I.hok b u q).stay (λc v hc r=>k c v ?_ ?_ r) (λc z=>z) λc xs z=>z
  ·rcases hc with rfl | hc
   ·exact ac q I.free
   ·exact ac hc I.free
  ·rcases hc with rfl | hc
   ·exact na _ _ q
   ·exact na _ _ hc
theorem Inv.adoptF(I:Inv X pins σ H s)(w:Own X pins H a)(k:∀b u,b≠X.env.locals->b≠a->s.heap.get? b=some u->h'.get? b=some u)(hn:s.heap.Ns X.env.locals m)(hn':h'.Ns X.env.locals m)
  (new:br X.prog X.w (upd H a o) h' a o):Inv X pins σ (upd H a o) { s with heap:=h' }:=by
 have fa:=w.un
 refine I.step (g':=s.gens) (d':=s.drawn) (t':=s.toks) (ch:=[a]) (λb hb=>?_) (λb u hL _ hc e _=>k b u hL (by simpa using hc) e) (λb u hL _ hc e _=>⟨u.slots,k b u hL (by simpa using hc) e⟩) (λb u hc e n=>by rw[ak (by simpa using hc)];exact n) (λb u hc e=>?_)
  (λb xs q=>by rw[ak (ac q fa)];exact q) (λb u xs q=>by rw[ak (ac q fa)];exact q) (λb ps q=>⟨#[],by rw[ak (ac q fa),q];simp⟩) (λm' hm=>?_) (λb u q=>?_) I.bare
 ·obtain rfl:b=a:=by simpa using hb
  exact⟨.inr w.s0,w.ne,w.cl,w.pn⟩
 ·by_cases hb:b=X.env.locals
  ·subst hb
   obtain⟨o',_,_,ho,_⟩:=hn'
   exact⟨o',ho⟩
  ·exact⟨u,k b u hb (by simpa using hc) e⟩
 ·have:m=m':=funext λx=>hn.agree hm x
  subst this
  exact hn'
 ·by_cases hb:b=a
  ·subst hb
   rw[ay]at q
   cases q
   exact new
  ·rw[ak hb]at q
   refine(I.hok b u q).stay (λc v hc r=>k c v ?_ ?_ r) (λc z=>by rw[ak (ac z fa)];exact z) λc xs z=>by rw[ak (ac z fa)];exact z
   ·rcases hc with rfl | hc
    ·exact ac q I.free
    ·exact ac hc I.free
   ·rcases hc with rfl | hc
    ·exact ac q fa
    ·exact ac hc fa
structure KySt(X:Cx)(pins:List (Addr×Obj))(σ:St)(ρ:List Addr)(M:Mem)(m:Str->Option Value)(kS aD:Addr)(e1:Nat)(H0 H:Hp)(s:Shared)(ks:List Value)(e:Nat):Prop where
 inv:Inv X pins σ H s
 ns:s.heap.Ns X.env.locals m
 sm:Sim X.K ρ M H
 gr:Grow X.K ρ H0 ρ H
 hk:s.heap.get? kS=some (seqObj "list" (ABi ks) e)
 hd:s.heap.get? aD=some (seqObj "list" #[] e1)
 ok:Own X pins H kS
 od:Own X pins H aD
 ne:aD≠kS
theorem AX(n:h.Ns L m):Fr (Att.noObjs h0) L h m :=
 ⟨n,λb o e=>(by rw[Att.noObjs_get]at e;cases e),AAX _⟩
theorem oU(hne:d≠L)(ho:h.get? d=some od):News (Att.noObjs h0) L h ((d,od)::Att.ledger h L d):=by
 rintro⟨a,o⟩ hp
 rcases AAG.mp hp with e | hp
 ·cases e
  exact⟨ho,hne,Att.noObjs_get _ _⟩
 ·obtain⟨n1,n2,e⟩:=Att.mem_ledger.mp hp
  exact⟨e,n1,Att.noObjs_get _ _⟩
theorem iX(N:News (Att.noObjs h0) L h' ((d,o)::Att.ledger h L d)):∀b u,b≠L->b≠d->h.get? b=some u->h'.get? b=some u :=
 λb u h1 h2 e=>(N (b,u) (AA9 _ (Att.mem_ledger.mpr ⟨h1,h2,e⟩))).1
abbrev KeyG(X:Cx)(pins:List (Addr×Obj))(σ:St)(ρ:List Addr)(M:Mem)(f:Addr)(key:D->D)(xs:List D):Prop:=∀(s:Shared) (H:Hp) (d:D) (v:V) (u:Value),d∈xs->Inv X pins σ H s->Sim X.K ρ M H->Rep X.K ρ H d v->aK v u ->
 codeAny (model X.prog X.w) X.A.in1.in1 (.call (.ref f) ⟨[u],[]⟩) (CR CX0 X.stack X.prog X.w H s (λv' H'=>VQ X.K ρ H (λx M'=>x=key d/\M'=M) v' H') E0) s
theorem zp{f:Addr}{key:D->D}{xs:List D}(G:KeyG X pins σ ρ M f key xs){h0:Heap}{m:Str->Option Value}{aD kS:Addr}{e1:Nat}{H0:Hp}
  {Fin:List Value->Nat->Shared->Prop}{keys:List D} (fin:∀H s kvs ks e,KySt X pins σ ρ M m kS aD e1 H0 H s ks e->Reps X.K ρ H keys kvs->ar kvs ks->Fin ks e s) :
  ∀(r:List D) (ws:List V) (its:List Value) (done:List D) (kvs:List V) (ks:List Value) (e:Nat) (H:Hp) (s:Shared),KySt X pins σ ρ M m kS aD e1 H0 H s ks e->Reps X.K ρ H r ws->ar ws its->Reps X.K ρ H done kvs->ar kvs ks ->
   done++r.map key=keys->(∀d∈r,d∈xs)->KatKeys X.prog X.w X.A.in1.in1 (Att.noObjs h0) X.env.locals m kS (.ref f) Fin its ks e s:=by
 intro r
 induction r with
 | nil =>
  intro ws its done kvs ks e H s g r v rd vd hk _
  obtain rfl:=Reps.inv_nil r
  obtain rfl:=ar.inv_nil v
  refine KatKeys.nil (fin H s kvs ks e g ?_ vd)
  rw[<-hk,List.map_nil,ABR]
  exact rd
 | cons d r ih =>
  intro ws its done kvs ks e H s g rr v rd vd hk hP
  obtain⟨vd1,ws,rfl,r1,rr⟩:=Reps.inv_cons rr
  obtain⟨u,its,rfl,ru,v⟩:=ar.inv_cons v
  have I:=g.inv
  refine KatKeys.cons (wpAny_call (ADZ (G s H d vd1 u (hP d AAE) I g.sm r1 ru) λres s' hq=>?_))
  cases res with
  | error e=>exact hq.elim
  | ok fl =>
   cases fl with
   | next=>exact hq.elim
   | brk=>exact hq.elim
   | cont=>exact hq.elim
   | ret u' =>
    obtain⟨v',H',os,bare,un,hok,rv,q⟩:=hq
    obtain⟨hh,gg,dr,tk,os'⟩:=s'
    obtain rfl:os'=s.os:=os
    obtain⟨_,_,ρ',s1,g1,r1',rfl,rfl⟩:=q
    have eρ:ρ'=ρ:=by
     obtain⟨t,rfl⟩:=g1.pre
     have h1:=s1.len
     have h2:=g.sm.len
     rw[AAH]at h1
     rw[List.eq_nil_of_length_eq_zero (show t.length=0 by lia),ABR]
    subst eρ
    have J:Inv X ((kS,seqObj "list" (ABi ks) e)::(aD,seqObj "list" #[] e1)::pins) σ H s:=I.pins_of λp hp=>by
     rcases AAG.mp hp with rfl | hp
     ·exact⟨g.hk,g.ok.un,g.ok.ne,g.ok.fs,λ_ z=>nomatch z⟩
     ·rcases AAG.mp hp with rfl | hp
      ·exact⟨g.hd,g.od.un,g.od.ne,g.od.fs,λ_ z=>nomatch z⟩
      ·exact I.pin p (AAI _ hp)
    have J':=J.call (h':=hh) (g':=gg) (d':=dr) (t':=tk) (ch:=[]) un hok bare (λb z=>absurd z (by simp))
    have pk:=J'.pin (kS,_) (AAI _ AAE)
    have pd:=J'.pin (aD,_) (AAI _ (AA9 _ AAE))
    have I':Inv X pins σ H' ⟨hh,gg,dr,tk,s.os⟩:=J'.pins_of λp hp=>J'.pin p (AAI _ (AA9 _ (AA9 _ hp)))
    have ns':hh.Ns X.env.locals m:=by
     obtain⟨o,es,ep,ho,aZ⟩:=g.ns
     obtain⟨sl,hL⟩:=un.any ho I.free (by simp)
     exact⟨_,es,ep,hL,aZ⟩
    have ok':Own X pins H' kS:=⟨pk.2.1,g.ok.ne,g.ok.fs,g.ok.s0,g.ok.cl,g.ok.pn⟩
    have od':Own X pins H' aD:=⟨pd.2.1,g.od.ne,g.od.fs,g.od.s0,g.od.cl,g.od.pn⟩
    refine KatBack.intro (s:=⟨hh,gg,dr,tk,s.os⟩) (AX ns') (oU ok'.ne pk.1) (UpdF.head λp hp=>(Att.mem_ledger.mp hp).2.1) λh2 c F2 N2=>?_
    have kp:=iX N2
    refine ih ws its (done++[key d]) (kvs++[v']) (ks++[u']) c H' _ ⟨I'.turnF ok' kp ns' F2.ns,F2.ns,s1,⟨g.gr.pre,λx xs h=>g1.tup x xs (g.gr.tup x xs h),λx o h=>g1.fr x o (g.gr.fr x o h)⟩,(N2 _ AAE).1,kp aD _ od'.ne g.ne pd.1,ok',od',g.ne⟩ (rr.grow g1) v
     ((rd.grow g1).append (.cons r1' .nil)) (vd.append (.cons rv .nil)) (by rw[<-hk,AAQ,AAR];rfl) λx hx=>hP x (AA9 _ hx)
theorem qG{k n:Nat}{f l:Addr}{o:Obj}{s:Shared}{H:Hp}{xs:List D}{ws:List V}{its:List Value}{key:D->D}{R:VK}(G:KeyG X pins σ ρ M f key xs)(hr:Room (k+2) X.A)
  (I:Inv X pins σ H s) (sm:Sim X.K ρ M H) (r:Reps X.K ρ H xs ws) (rr:ar ws its) (ho:s.heap.get? l=some o) (hc:o.cls=.type "list"\/o.cls=.type "tuple") (hd:o.data=.seq its.toArray n) (h64:its.length<64) (so:SrtG M (xs.map key)) (kk:∀v H',(∀Q:DK,(∀ys,ys.Perm xs->ys.Pairwise (λa b=>ltD M eqN (key b) (key a)=false)->Q (.ref M.length) (M++[.lst ys]))->VQ X.K ρ H Q v H')->R v H') :
  wpAny (model X.prog X.w) X.A (call (.builtin "sorted") [.ref l] [(AA1 "key",.ref f)]) (EP X pins σ R) X.xe s:=by
 have lw:=r.length
 have li:=rr.length
 have few:its.length<=sizeLine:=by rw[ABV];lia
 refine call_function_entry_kw kind_sorted plain_sorted entry_sorted (ksk_s1 _ _) ?_
 unfold Builtin.«sorted»
 refine AA0 (m:=checkCount "sorted" 1 1 _) (AA5 (AA0 (pS ho hc hd (AA0 (ACg ?_ few)) few)))
 generalize hg:((s.heap.push (seqObj "list" #[] 0)).update s.heap.objs.size (AB3 (· ++ its.toArray)))=g1
 have hsz:g1.objs.size=s.heap.objs.size+1:=by rw[<-hg,Heap.size_update,size_push']
 have k1:∀b o,s.heap.get? b=some o->g1.get? b=some o:=λb o q=>by
  have hlt:=AAF q
  rw[<-hg,ABj _ _ _ _ (AAK hlt),Heap.get?_push_ne _ _ _ (AAK hlt)]
  exact q
 show wpAny _ _ _ _ _ { s with heap:=g1.push (seqObj "list" its.toArray 0) }
 have hoL:(g1.push (seqObj "list" its.toArray 0)).get? g1.objs.size=some (seqObj "list" its.toArray 0):=AAD _ rfl
 refine AA0 (AAj (wpAny_call_entry_kw slot_list_sort (⟨_,hoL,rfl⟩) entry_list_sort ?body (ksk_l1 _ _)))
 case body =>
  show wpAny (model X.prog X.w) X.A.in1.in1 (Builtin.«list.sort» ⟨[.ref g1.objs.size],[(AA1 "key",.ref f)]⟩) _ _ _
  rw[ksk_t1]
  unfold ksk_tree
  refine AA0 (ADb hoL rfl (AA0 (ACh hoL rfl ?_ (by rw[AAC];exact few) (AAX _))))
  obtain⟨e1,ho1⟩:∃e1,((g1.push (seqObj "list" its.toArray 0)).update g1.objs.size (AB3 λ_=>(#[]:Array Value))).get? g1.objs.size=some (seqObj "list" #[] e1):=⟨_,ACF hoL λ_=>#[]⟩
  refine AA0 (seqEpoch_at ho1 rfl (AA0 (ADX (AA0 (ACg (AAj ?_) (AAX _))) few)))
  have k2:∀b o,s.heap.get? b=some o->((g1.push (seqObj "list" its.toArray 0)).update g1.objs.size (AB3 λ_=>(#[]:Array Value))).get? b=some o:=λb o q=>by
   rw[ABj _ _ _ _ (AAK (by rw[hsz];exact ACD (AAF q)))]
   exact AA3 _ (k1 b o q)
  have hsz2:((g1.push (seqObj "list" its.toArray 0)).update g1.objs.size (AB3 λ_=>(#[]:Array Value))).objs.size=g1.objs.size+1:=by rw[Heap.size_update,size_push']
  generalize ((g1.push (seqObj "list" its.toArray 0)).update g1.objs.size (AB3 λ_=>(#[]:Array Value)))=g2 at ho1 k2 hsz2 ⊢
  dsimp only
  have k3:∀b o,g2.get? b=some o->((g2.push (seqObj "tuple" its.toArray 0)).push (seqObj "list" #[] 0)).get? b=some o:=λb o q=>AA3 _ (AA3 _ q)
  have hk3:((g2.push (seqObj "tuple" its.toArray 0)).push (seqObj "list" #[] 0)).get? (g2.push (seqObj "tuple" its.toArray 0)).objs.size=some (seqObj "list" #[] 0):=AAD _ rfl
  have hsz3:(g2.push (seqObj "tuple" its.toArray 0)).objs.size=g2.objs.size+1:=size_push' _ _
  generalize (g2.push (seqObj "tuple" its.toArray 0)).objs.size=kS at hk3 hsz3 ⊢
  generalize ((g2.push (seqObj "tuple" its.toArray 0)).push (seqObj "list" #[] 0))=g3 at hk3 k3 ⊢
  generalize g1.objs.size=aD at ho1 hsz hsz2 ⊢
  obtain⟨m,hn,_⟩:=I.loc
  have st:KySt X pins σ ρ M m kS aD e1 H H { s with heap:=g3 } [] 0 :=
   ⟨I.kept (t':=s.toks) λb o q=>k3 b o (k2 b o q),(by obtain⟨o',es,ep,ho',aZ⟩:=hn;exact⟨o',es,ep,k3 _ _ (k2 _ _ ho'),aZ⟩),sm,.refl,hk3,k3 _ _ ho1,I.own (by rw[hsz3,hsz2,hsz];exact ADc _ 3),I.own (by rw[hsz];exact ADc _ 1),by rw[hsz3,hsz2];exact AAK (Nat.lt_add_of_pos_right (by decide:0<2))⟩
  have hr2:Room k X.A.in1.in1:=(Room.in1 (k:=k+1) hr).in1
  refine zo (h₀:=Att.noObjs s.heap) (L:=X.env.locals) (m:=m) (Fin:=λks e s'=>∃H' kvs,KySt X pins σ ρ M m kS aD e1 H H' s' ks e/\Reps X.K ρ H' (xs.map key) kvs/\ar kvs ks) hk3 h64 (λks e s' hl ⟨H',kvs,g,rk,vk⟩=>?_)
   (zp G (λH' s' kvs ks e g r v=>⟨H',kvs,g,r,v⟩) xs ws its [] [] [] 0 H _ st r rr .nil .nil rfl λ_ q=>q)
  have fin:∀ys zs out,Reps X.K ρ H' ys zs->ar zs out->ys.Perm xs->ys.Pairwise (λa b=>ltD M eqN (key b) (key a)=false)->KatFin (Att.noObjs s.heap) X.env.locals m kS aD ks e e1 out (λs4=>EP X pins σ R (.ref aD) s4) s':=λys zs out ry vy hp hw=>by
   refine KatFin.intro (AX g.ns) (oU g.ok.ne g.hk) (UpdF.head λp hp=>(Att.mem_ledger.mp hp).2.1) λh2 c F2 N2=>?_
   have kp:=iX N2
   refine KasFin.intro (s:={ s' with heap:=h2 }) (AX F2.ns) (oU g.od.ne (kp aD _ g.od.ne g.ne g.hd)) (UpdF.head λp hp=>(Att.mem_ledger.mp hp).2.1) λh3 c3 F3 N3=>?_
   refine⟨.ref aD,_,(g.inv.turnF g.ok kp g.ns F2.ns).adoptF (o:=.lst zs) g.od (iX N3) F2.ns F3.ns ⟨?_,out,c3,vy,(N3 _ AAE).1⟩,rfl,kk _ _ λQ hQ=>VQ.laidL g.sm g.gr ry g.od.un (hQ ys hp hw)⟩
   rw[<-ry.length,hp.length_eq,lw,li]
   exact few
  by_cases h2:its.length<2
  ·refine zq (hl) h2 ((fin xs ws its (r.grow g.gr) rr (List.Perm.refl _) ?_).mono λs4 hq=>⟨_,rfl,AA5 ⟨_,rfl,hq⟩⟩)
   match xs,(show xs.length<2 by lia) with
   | [],_=>exact ADP
   | [x],_=>exact ABu _ _
   | _::_::_,hx=>simp at hx;lia
  ·have h2':2<=its.length:=by lia
   refine kat_end (b:=false) (h₀:=Att.noObjs s.heap) (L:=X.env.locals) (m:=m) (e:=e) hl h2' h64 ?_
   have hu:X.A.in1.in1.units+eqN<cLine:=by
    have:=hr.un
    have:eqN=30:=rfl
    show X.A.units+1+1+eqN<cLine
    lia
   have kl:ks.length=xs.length:=by lia
   refine ABC (iO g.inv g.sm so rk vk (by lia) hu) (λκ s'' hk=>?_) λ_ _ x=>x
   obtain⟨rfl,hask⟩:=hk
   show (ADW its.length).kasWp (kas_ask X.prog X.w X.A.in1.in1 κ ks) (λp s3=>KatFin (Att.noObjs s.heap) X.env.locals m kS aD ks e e1 (p.toList.map λi=>its.getD i ABO) _ s3) _
   have kget:∀i,i<xs.length->(xs.map key).getD i default=key (xs.getD i default):=λi hi=>by
    rw[AAJ,AAJ,AAN,AA6 hi]
    rfl
   refine Srt.wp_run (n:=its.length) (c:=λi j=>if i<xs.length then(if j<xs.length then ltD M eqN (key (xs.getD i default)) (key (xs.getD j default))else true)else false) (λi j C hi hj hc=>?_) _ (Srt.sort_bd (by lia)).1 ?_
   ·refine hask i j C (by lia) (by lia) ?_
    rw[if_pos (by lia),if_pos (by lia)]at hc
    unfold ltc
    rw[kget i (by lia),kget j (by lia)]
    exact hc
   ·have hent:=Srt.All.run (c:=λi j=>if i<xs.length then(if j<xs.length then ltD M eqN (key (xs.getD i default)) (key (xs.getD j default))else true)else false) _ (Srt.sort_bd (n:=its.length) (by lia)).2
    obtain⟨o1,o2,o3⟩:=zX so
    have hm:∀x∈xs,key x∈xs.map key:=λx hx=>AAt hx
    have hsl:=Srt.sort_list (lt:=λa b=>ltD M eqN (key a) (key b)) xs (by lia) (λa ha=>o1 _ (hm a ha)) (λa ha b hb d hd=>o2 _ (hm a ha) _ (hm b hb) _ (hm d hd)) (λa ha b hb d hd=>o3 _ (hm a ha) _ (hm b hb) _ (hm d hd))
    try dsimp only at hsl
    rw[show xs.length=its.length by lia]at hsl hent ⊢
    generalize Srt.run _ (ADW its.length)=p at hent hsl ⊢
    have hi:∀i∈p.toList,i<xs.length:=λi h=>by
     have:=hent.mem_iff.mp h
     rw[ABc]at this
     lia
    exact(fin _ _ _ ((r.grow g.gr).perm p.toList hi) (rr.perm p.toList λi h=>by have:=hi i h;lia) hsl.1 hsl.2).mono λs4 hq=>⟨_,rfl,AA5 ⟨_,rfl,hq⟩⟩
structure BlkScC(X:Cx)(N':List Str)(nt:Nat)(js:List Nat)(scope:Scope):Prop where
 kind:scope.kind=.function
 kinds:∀y∈scope.names,scope.names.lookup y.1=some y.2
 free:∀y∈scope.names,y.2=.free->(X.env.kindOf y.1=some .cell\/X.env.kindOf y.1=some .free)
 len:N'.length=nt+js.length
 fr:∀(k j:Nat),js[k]?=some j->∃x,N'[nt+k]?=some x/\X.N[j]?=some x/\scope.names.lookup x=some .free/\(X.env.kindOf x=some .cell\/X.env.kindOf x=some .free)
structure CfOk(h:Heap)(k:Nat)(names:List (Str×NameKind))(acc cs:List (Str×Addr)):Prop where
 look:∀z c,cs.lookup z=some c->(acc.lookup z=some c/\(z,ACL)∉names)\/((z,ACL)∈names/\k<=c/\h.IsCell c none)
 inj:∀y z c,cs.lookup y=some c->cs.lookup z=some c->y=z
 old:∀z c,acc.lookup z=some c->∃c',cs.lookup z=some c'
 new:∀z,(z,ACL)∈names->∃c,cs.lookup z=some c
def Bq(i:Nat):DTG:=al i
def BMain(mg:Str->Option Value)(base:Heap):Prop:=∃bm o,mg "__builtins__" = some (.ref bm)/\bm≠builtinsNs/\bm≠mainGlobals/\base.get? bm=some o/\o.cls=.type "module"/\o.dict=some builtinsNs/\o.data=.plain
def Self(X:Cx)(x:Str):Prop:=∃(f:Addr) (oc:Value) (od:Option Addr) (fd:FuncData) (sl:Array (Option Value)),X.mg x=some (.ref f)/\X.K.lookup f=some ⟨oc,od,.func fd,sl⟩/\X.env.code=fd.code
theorem Self.code(S:Self X x)(I:Inv X pins σ H s)(h:tabIn X.K x=some (c,P)):X.env.code=.ref c:=by
 obtain⟨f,oc,od,fd,sl,h1,h2,h3⟩:=S
 unfold tabIn at h
 split at h
 ·rename_i f' hf
  have e1:=mg_of I.mod.kin I.mod.glob hf
  rw[h1]at e1
  cases e1
  split at h
  ·rename_i e2
   rw[h2]at e2
   cases e2
   split at h
   ·rename_i c' hc
    split at h
    ·split at h
     ·cases h
      rw[h3,hc]
     ·cases h
    ·cases h
   ·cases h
  ·cases h
 ·cases h
theorem Sim.writeB{K:AA2}{ρ:List Addr}{M:Mem}{H:Hp}(S:Sim K ρ M H)(e1:ρ[n]?=some a)(hM:M[n]?=some (.tb x b))(hH:H a=some (.tbl ps)) :
  Sim K ρ (M.set n (.tb x true)) (upd H a (.tbl ps'))/\Grow K ρ H ρ (upd H a (.tbl ps')):=
 S.writeG e1 (λ⟨_,z⟩=>by rw[hM]at z;cases z) hH rfl λg=>⟨(S.obj n a _ e1 hM).1,ps',ay,λz=>by cases z⟩
theorem Ap{P:Program}{w:World}{K:AA2}{mg:Str->Option Value}{base:Heap}{A:Around}{outer:List Env}{s:Shared}{H:Hp}{k:Nat}{f c':Addr}{nm qual:Str}{params:Arguments}{body:Expr}{scope:Scope}{pm ctv:Value}{N ps:List Str}{te:DTE}
  {ρ:List Addr}{M:Mem}{d:D}{v:V}{u:Value}{R:DK} (e0:Env0 P w K mg base A outer s H) (ho:s.heap.get? f=some (kla_obj nm qual params body scope [] pm c' ctv)) (hcd:s.heap.CodeRec (.ref c') qual) (S:FnScope N ps scope) (hr:Room (k+1) A)
  (hb:BindsTo s (kla_fn nm qual params body scope [] pm (.ref c') ctv) ⟨[u],[]⟩ (ps.zip [u])) (hl:1=ps.length) (der:∀E,Room k (A.deeper (envOfC qual scope s.heap.objs.size f (.ref c')))->DE (nI CX0 P w K mg base N qual scope f (.ref c') A outer s H E).nox body te)
  (sm:Sim K ρ M H) (r:Rep K ρ H d v) (ru:aK v u) (hq:te (bw N [d]) M (aH M R)) :
  codeAny (model P w) A (.call (.ref f) ⟨[u],[]⟩) (CR CX0 outer P w H s (λv' H'=>VQ K ρ H R v' H') E0) s:=by
 have lim:s.heap.NoLimit:=e0.mod.nolimit.keeps λb o e=>(e0.bs b o e).1
 have hkind:∀y∈ps.zip [u],scope.names.lookup y.1=some .local\/(scope.names.lookup y.1=some .cell/\((cellsFrom (s.heap.objs.size+1) scope.names []).lookup y.1).isSome=true):=λ⟨n,v⟩ hy=>by
  rcases S.par n (AD5 hy).1 with q | q
  ·exact .inl q
  ·exact .inr ⟨q,ADI _ _ _ (.inl q)⟩
 refine kla_callFunE hr.depth ho rfl S.co S.gen rfl hcd (hb _ _ _ _ ?_)
 refine wpAny_newFunctionEnv_cells S.kind hkind λenv he s1 x=>?_
 subst he
 refine⟨lim.keeps x.toInCall.keep,kla_codeExpr ?_⟩
 have I:Inv (nI CX0 P w K mg base N qual scope f (.ref c') A outer s H E0) [] (start N [v]) H s1:=nC S hr.hd e0 hl (.cons ru .nil) x
 have dd:=PE.nox (der E0 (hr.deeper _))
 refine ABC (dd [] s1 (start N [v]) H (λv' H'=>VQ K ρ H (aH M R) v' H') I ⟨bw N [d],M,ρ,_,sm,SRep.start (.cons r .nil) N,hq,λ_ _ z=>z⟩) (λu' s' hs=>?_) λe s' hs=>hs
 obtain⟨v',H',J,rv,q⟩:=hs
 exact⟨v',H',J.os,J.bare,J.base,J.hok,rv,VQ.endq sm q⟩
theorem Inv.writeB(I:Inv X pins σ H s)(hH:H P=some (.tbl ps))(k:∀b u,b≠P->s.heap.get? b=some u->h'.get? b=some u)(hP:h'.get? P=some (tabObj (ps++more))):Inv X pins σ (upd H P (.tbl (ps++more))) { s with heap:=h',toks:=t' }:=by
 have nn:∀b,H b=none->b≠P:=λb n z=>by rw[z,hH]at n;cases n
 have ne:∀b u,H b=some u->(∀q,u≠.tbl q)->b≠P:=λb u e q z=>by
  rw[z,hH]at e
  exact q ps (AAM e).symm
 refine I.un ⟨λb u q n _ _=>k b u (nn b n) q,λb u q n _ _=>⟨u.slots,k b u (nn b n) q⟩,λb u q n _=>by rw[ak (nn b n)];exact n,λb u q _=>?_,λb xs q=>by rw[ak (ne b _ q λ_ z=>by cases z)];exact q,λb u xs q=>by rw[ak (ne b _ q λ_ z=>by cases z)];exact q,λb qs q=>?_⟩ λb u q=>?_
 ·by_cases hb:b=P
  ·subst hb;exact⟨_,hP⟩
  ·exact⟨u,k b u hb q⟩
 ·by_cases hb:b=P
  ·subst hb
   rw[hH]at q
   cases q
   exact⟨more,ay⟩
  ·exact⟨#[],by rw[ak hb,q];simp⟩
 ·by_cases hb:b=P
  ·subst hb
   rw[ay]at q
   cases q
   exact hP
  ·rw[ak hb]at q
   refine(I.hok b u q).stay (λc v hc r=>k c v ?_ r) (λc r=>by rw[ak (ne c _ r λ_ z=>by cases z)];exact r) λc xs r=>by rw[ak (ne c _ r λ_ z=>by cases z)];exact r
   rcases hc with rfl | hc
   ·exact hb
   ·exact ne c _ hc λ_ z=>by cases z
theorem xS(I:Inv X pins σ H s)(hH:H P=some (.tbl #[]))(C:∀h:Heap,X.K.In h->CodeHd h c P)(hcode:X.env.code=.ref c)(B:BMain X.mg X.base)
  (hcl:closureFor scope X.env=pure []) (hdef:defaultsOf params X.env=([],[]))
  (h:∀f c' oc vs t ctv ps' s',Inv X ((f,kla_obj "<lambda>" (X.env.qual ++ "<lambda>") params body scope [] ((X.mg "__name__").getD .none) c' ctv)::(c',oc)::pins) σ (upd H P (.tbl ps')) s'->oc.data=.fields vs->vs[1]?=some (.str (X.env.qual ++ "<lambda>") t)->Q (.ref f) s') :
  wpAny (model X.prog X.w) A (eval (.Lambda params body scope pos) X.env) Q E s:=by
 have hP:s.heap.get? P=some (tabObj #[]):=I.hok P _ hH
 have hg:s.heap.Ns mainGlobals X.mg:=I.mod.glob.keeps I.bk
 have nP:∀b o,X.base.get? b=some o->b≠P:=λb o e z=>by
  have:=(I.bs b o e).2
  rw[z,hH]at this
  cases this
 obtain⟨bm,ob,b1,b2,b3,b4,b5⟩:=B
 have hgP:mainGlobals≠P:=by
  obtain⟨o,es,ep,e,_⟩:=I.mod.glob
  exact nP _ _ e
 refine kla_eval hdef (kla_makeFunction hcl I.ok.glob hg hcode (C _ I.kIn) hP trivial rfl hgP ⟨bm,ob,b1,b2,b3,nP _ _ b4,I.bk _ _ b4,b5⟩ λc' ctv h' tk hx hge hlt hrec htb=>?_)
 obtain⟨c2,oc,vs,t,e2,hoc,hd,hv⟩:=hrec
 cases e2
 have Pn:P≠h'.objs.size:=λz=>by rw[z]at htb;exact absurd (AAF htb) (AAW _)
 have hs:s.heap.objs.size<=h'.objs.size:=AB4 hge (ADq hlt)
 have J:Inv X pins σ (upd H P (.tbl (#[] ++ #[rawInt pos.line,rawInt pos.col,.ref c']))) { s with heap:=h'.push (kla_obj "<lambda>" (X.env.qual ++ "<lambda>") params body scope [] ((X.mg "__name__").getD .none) c' ctv),toks:=tk }:=by
  exact I.writeB hH (λb u hb e=>AA3 _ (hx b u hb e)) (AA3 _ htb)
 have fresh:∀b,s.heap.objs.size<=b->b≠P->upd H P (.tbl (#[] ++ #[rawInt pos.line,rawInt pos.col,.ref c'])) b=none/\b≠X.env.locals/\b∉X.fs:=λb hb hn=>by
  refine⟨by rw[ak hn];exact I.hok.fresh hb,λz=>?_,I.nofs hb⟩
  rw[z]at hb
  exact absurd (AAP I.lt hb) (AAW _)
 have cP:c'≠P:=λz=>by
  rw[z]at hge
  exact absurd (AAP (AAF hP) hge) (AAW _)
 refine h h'.objs.size c' oc vs t ctv _ _ (J.pins_of λp hp=>?_) hd hv
 rcases AAG.mp hp with rfl | hp
 ·obtain⟨a1,a2,a3⟩:=fresh h'.objs.size hs (AAr Pn)
  exact⟨AAD _ rfl,a1,a2,a3,λv z=>by cases z⟩
 rcases AAG.mp hp with rfl | hp
 ·obtain⟨a1,a2,a3⟩:=fresh c' hge cP
  exact⟨AA3 _ hoc,a1,a2,a3,λv z=>by rw[hd]at z;cases z⟩
 ·exact J.pin p (AAI _ hp)
noncomputable def lamB(sc:Scope)(y:Str):Bool:=decide (sc.kind=.function) && !sc.isCoroutine && !sc.isGenerator&&decide (sc.names.lookup y=some .local)&&sc.names.all λp=>decide (p.2≠.free)
theorem ve(h:lamB sc y=true):FnScope [y] [y] sc:=by
 simp only[lamB,AAU,decide_eq_true_eq,Bool.not_eq_true',AAb]at h
 obtain⟨⟨⟨⟨h1,h2⟩,h3⟩,h4⟩,h5⟩:=h
 refine⟨h1,h2,h3,AAf.mpr ⟨ABF,ACO⟩,rfl,λx hx=>?_,λp hp=>h5 p hp⟩
 obtain rfl:x=y:=by simpa using hx
 exact .inl h4
def il(x:Str)(N:List Str)(te:DTE)(t:DTA):DTE:=λS M Q=>t S M λds M1=>match ds with
 | [y]=>∃q xs key,M1[q]?=some (.tb x false)/\(y=.tup xs\/∃n,y=.ref n/\aq (M1.set q (.tb x true)) n xs)/\(∀d∈xs,te (bw N [d]) (M1.set q (.tb x true)) (aH (M1.set q (.tb x true)) λz M'=>z=key d/\M'=M1.set q (.tb x true)))/\SrtG (M1.set q (.tb x true)) (xs.map key) /\
   ∀ys,ys.Perm xs->ys.Pairwise (λa b=>ltD (M1.set q (.tb x true)) eqN (key b) (key a)=false)->Q (.ref M1.length) (M1.set q (.tb x true)++[.lst ys])
 | _=>False
theorem vK(Sf:Self X x)(B:BMain X.mg X.base)(hr:Room (k+3) X.A)(he:HA X [e] t)(hm:X.mg "sorted" = none)
  (der:∀(s:Shared) (H:Hp) (f:Addr) (cdv:Value) (A:Around) (outer:List Env) (E:XK),Room k (A.deeper (envOfC (X.env.qual ++ "<lambda>") scope s.heap.objs.size f cdv))->HE (nI CX0 X.prog X.w X.K X.mg X.base [y] (X.env.qual ++ "<lambda>") scope f cdv A outer s H E).nox body te)
  (Sc:FnScope [y] [y] scope) (hcl:closureFor scope X.env=pure []) (hdef:defaultsOf params X.env=([],[]))
  (hb:∀(pm ctv:Value) (c':Addr) (u:Value),bindArgs (kla_fn "<lambda>" (X.env.qual ++ "<lambda>") params body scope [] pm (.ref c') ctv) ⟨[u],[]⟩=pure [(y,u)])
  (hg1:X.env.kindOf "sorted" = some .globalImplicit:=by kernel_rfl) (hs:starEach [e] X.env=[(false,eval e X.env)]:=by kernel_rfl) :
  HE X (.Call (.Name "sorted" p) [e] [⟨some "key",.Lambda params body scope lpos,kpos⟩] pos) (il x [y] te t):=by
 refine⟨λpins s σ H R I h=>?_⟩
 obtain⟨S,M,ρ,Q,sm,sr,q,kk⟩:=h
 refine ABq (je I hg1 hm nV ?_ (by decide) (by decide))
 unfold il at q
 refine callWith_kw (thn (he.ok pos pins s σ H (λvs H1=>AQ X.K ρ H _ vs H1) I ⟨S,M,ρ,_,sm,sr,q,λ_ _ z=>z⟩) ?_) (by rw[hs];rfl) (by rw[hs];rfl)
 rintro us s1 ⟨vs,H1,I1,r1,q1⟩
 obtain⟨ds,M1,ρ1,sm1,g1,rs,q1⟩:=q1
 split at q1
 ·rename_i y0
  obtain⟨qn,xs,key,hq,hx,hP,so,fin⟩:=q1
  obtain⟨v1,_,rfl,rx,rs⟩:=Reps.inv_cons rs
  obtain rfl:=Reps.inv_nil rs
  obtain⟨u,rfl,ru⟩:=ar.one r1
  obtain⟨Pa,ep,mo⟩:=sm1.get hq
  obtain⟨⟨c,tc,C⟩,ps,hH,h0⟩:=mo
  obtain rfl:=h0 rfl
  refine kws_cons (xS I1 hH C (Sf.code I1 tc) B hcl hdef λf c' oc vs t' ctv ps' s2 I2 hd hv=>kws_nil ?_)
  obtain⟨sm2,g2⟩:=sm1.writeB (ps':=ps') ep hq hH
  show wpAny _ _ (call (.builtin "sorted") [u] [(AA1 "key",.ref f)]) _ _ _
  have l64:=so.len
  rw[AA4]at l64
  have hr2:Room (k+1+2) X.A:=hr
  generalize upd H1 Pa (.tbl ps')=H2 at sm2 g2 I2
  have ml:(M1.set qn (.tb x true)).length=M1.length:=ABe ..
  generalize M1.set qn (.tb x true)=M2 at sm2 hP so fin hx ml
  have G:KeyG X ((f,kla_obj "<lambda>" (X.env.qual ++ "<lambda>") params body scope [] ((X.mg "__name__").getD .none) c' ctv)::(c',oc)::pins) σ ρ1 M2 f key xs:=λs H d v u hm I sm r ru=>by
   have p1:=(I.pin _ (AAI _ AAE)).1
   have p2:=(I.pin (c',oc) (AAI _ (AA9 _ AAE))).1
   exact Ap (k:=k) I.env0.in1.in1 p1 ⟨c',oc,vs,t',rfl,p2,hd,hv⟩ Sc (Room.in1 (k:=k+2) hr2).in1 (.of_eq (hb _ _ _ _)) rfl (λE hr=>(der s H f _ _ _ E hr).ok) sm r ru (hP d hm)
  have back:∀{v:Value}{s':Shared},EP X ((f,kla_obj "<lambda>" (X.env.qual ++ "<lambda>") params body scope [] ((X.mg "__name__").getD .none) c' ctv)::(c',oc)::pins) σ R v s'->EP X pins σ R v s':=λ{v s'} ⟨v',H',J,rv,q⟩=>⟨v',H',J.pins_of λp hp=>J.pin p (AAI _ (AA9 _ (AA9 _ hp))),rv,q⟩
  have fin':∀ys,ys.Perm xs->ys.Pairwise (λa b=>ltD M2 eqN (key b) (key a)=false)->Q (.ref M2.length) (M2++[.lst ys]):=λys h1 h2=>by rw[ml];exact fin ys h1 h2
  rcases hx with rfl | ⟨n,rfl,hL⟩
  ·obtain⟨a,vs,rfl,hq',r⟩:=Rep.inv_tup (rx.grow g2)
   cases ru
   obtain⟨its,rr,⟨o,ho,hc,n,hd'⟩,_⟩:=I2.tuple hq'
   have h1:=r.length
   have h2:=rr.length
   exact ABC (qG G hr2 I2 sm2 r rr ho (.inr hc) hd' (by lia) so λv H' z=>kk v H' (VQ.trans g1 (VQ.trans g2 (z Q fin')))) (λ_ _ z=>back z) λ_ _ z=>z
  ·obtain⟨a,rfl,en⟩:=Rep.inv_ref rx
   cases ru
   obtain⟨vs,hq',r⟩:=aq.seq sm2 hL en
   obtain⟨its,rr,⟨o,n,ho,hc,_,hd'⟩,_⟩:=I2.list hq'
   have h1:=r.length
   have h2:=rr.length
   exact ABC (qG G hr2 I2 sm2 r rr ho (.inl hc) hd' (by lia) so λv H' z=>kk v H' (VQ.trans g1 (VQ.trans g2 (z Q fin')))) (λ_ _ z=>back z) λ_ _ z=>z
 ·exact q1.elim
abbrev DerL(P:Program)(w:World)(K:AA2)(mg:Str->Option Value)(base:Heap)(k:Nat)(x:Str)(N:List Str)(st:Stmt)(t:DTS):Prop :=
 ∀(f:Addr) (cdv:Value) (A:Around) (outer:List Env) (s:Shared) (H:Hp) (E:XK),Room k (A.deeper (PyProof.Rows.envOfC x (ao st) s.heap.objs.size f cdv))->Self (nI CX0 P w K mg base N x (ao st) f cdv A outer s H E).nox x->HB (nI CX0 P w K mg base N x (ao st) f cdv A outer s H E).nox (aO st) t
theorem Cal.byL{P:Program}{w:World}{K:AA2}{mg:Str->Option Value}{base:Heap}{x:Str}{st:Stmt}{N ps:List Str}{k:Nat}{Pr:DSp}{B:List Str}{C:List (Str×Int)}{t:DTS}(T:TopB mg B C)(F:eu K mg x st ps)(Sc:FnScope N ps (ao st))(len:er Pr ps)(der:TopB mg B C->N.Nodup->DerL P w K mg base k x N st t)(wp:∀ds M R,Pr ds M R->t (EE M R) (bw N ds) M):Cal P w K mg base (k+1) x ps Pr:=by
 obtain⟨f,fd,F1,hm,hb⟩:=F
 refine⟨f,fd,?_,hm,F1.kp,hb⟩
 obtain⟨oc,od,kV,doc,pm,an,cdv,ct,osl,rfl,lk,hcd⟩:=F1.ex
 refine Eg lk hcd Sc (λvs H Q E ⟨ds,M,ρ,R,s,r,q,_⟩=>by rw[<-r.length];exact len ds M R q) λA outer s H vs Q E hr h=>?_
 obtain⟨ds,M,ρ,R,sm,r,q,kk⟩:=h
 have ht:=der T Sc.nd f cdv A outer s H E hr ⟨f,oc,od,_,osl,hm,lk,rfl⟩
 refine⟨lowS K t,PSs.nox ht.ok,bw N ds,M,ρ,_,sm,SRep.start r N,wp ds M R q,⟨λσ' H' ⟨S',M',ρ',s',g',sr',q'⟩=>?_,λv H' z=>kk v H' (VQ.endq sm z),λσ' H' ⟨S',M',ρ',s',g',sr',q'⟩=>q'.elim,λσ' H' ⟨S',M',ρ',s',g',sr',q'⟩=>q'.elim⟩⟩
 exact kk .non H' (VQ.endq sm ⟨.non,M',ρ',s',g',.non,q'⟩)
def sB(z:Str):DSp:=λds M R=>∃(ns:List Int) (mo:MO),ns.length<=63/\(mo.items=ns.map D.int/\mo.isL=true)/\ds=[.ref 0]/\M=[mo,.tb z false]/\∀M',R (.bl true) M'
theorem pr{K:AA2}{H:Hp}{a Pt c:Addr}{z:Str}{ns:List Int}(hl:ns.length<=63)(hS:SqL K H a (ns.map V.int))(hP:H Pt=some (.tbl #[]))(tc:tabIn K z=some (c,Pt))(C:∀h:Heap,K.In h->CodeHd h c Pt)(ne:a≠Pt):spL K (sB z) [.ref a] H (λv _=>v=.bl true) λ_ _ _=>False:=by
 have one:∀{mo:MO},mo.items=ns.map D.int/\mo.isL=true->sO K [a,Pt] H a mo->spL K (sB z) [.ref a] H (λv _=>v=.bl true) λ_ _ _=>False:=λ{mo} e ok=>by
  refine⟨[.ref 0],[mo,.tb z false],[a,Pt],λd _=>d=.bl true,⟨λn m b hne e1 e2=>?_,rfl,λn b mo' e1 e2=>?_⟩,.cons (.ref rfl) .nil,⟨ns,mo,hl,e,rfl,rfl,λ_=>rfl⟩,λv H' ⟨d,M',ρ',_,_,r,q⟩=>?_⟩
  ·match n,m,e1,e2 with
   | 0,0,_,_=>exact absurd rfl hne
   | 1,1,_,_=>exact absurd rfl hne
   | 0,1,e1,e2=>simp at e1 e2;exact absurd (e1.trans e2.symm) ne
   | 1,0,e1,e2=>simp at e1 e2;exact absurd (e2.trans e1.symm) ne
   | n+2,_,e1,_=>simp at e1
   | _,m+2,_,e2=>simp at e2
  ·match n,e1,e2 with
   | 0,e1,e2 =>
    simp at e1 e2
    subst e1 e2
    exact ok
   | 1,e1,e2 =>
    simp at e1 e2
    subst e1 e2
    exact⟨⟨c,tc,C⟩,#[],hP,λ_=>rfl⟩
   | n+2,e1,_=>simp at e1
  ·have q':d=.bl true:=q
   subst q'
   obtain rfl:=Rep.inv_bl r
   rfl
 rcases hS with(h | ⟨o,h⟩) | h
 ·exact one (mo:=.lst _) ⟨rfl,rfl⟩ ⟨_,h,fj ns⟩
 ·exact one (mo:=.fz _) ⟨rfl,rfl⟩ ⟨o,_,h,fj ns⟩
 ·exact one (mo:=.kl _) ⟨rfl,rfl⟩ ⟨_,h,fj ns⟩
theorem vb{P:Program}{w:World}{K:AA2}{mg mb:Str->Option Value}{k:Nat}{fa a Pt:Addr}{fd:FuncData}{x:Str}{sp:Sp}{s₁:Shared}{vs:List Value}{ns:List Int}
  (KX:K.In s₁.heap) (hns:s₁.heap.Ns mainGlobals mg) (hb:s₁.heap.Ns builtinsNs mb) (hbb:∀x:Str,x≠"__name__"->mb x=bootBuiltins x) (hlim:s₁.heap.NoLimit) (hg:s₁.gens = #[])
  (ha:s₁.heap.get? a=some { cls:=.type "list",data:=.seq vs.toArray }) (hi:IntsAre vs ns) (hl:ns.length<=sizeLine) (hr:Room k callerA) (nt:noTabs K=true) (hP:s₁.heap.get? Pt=some (tabObj #[])) (isT:isCodeTable s₁.heap Pt) (BM:BMain mg s₁.heap)
  (F:∀base:Heap,K.In base->base.Ns mainGlobals mg->BMain mg base->FnOk P w K mg base CX0 k fa fd [x] sp) (hbind:∀(s:Shared) (u:Value),BindsTo s fd ⟨[u],[]⟩ [(x,u)])
  (hsp:∀H:Hp,SqL K H a (ns.map V.int)->H Pt=some (.tbl #[])->sp [.ref a] H (λv _=>v=.bl true) λ_ _ _=>False) :
  codeAny (model P w) callerA (.call (.ref fa) ⟨[.ref a],[]⟩) (λr s'=>r=.ok (.ret (.bool true))/\OldK s₁.heap s'.heap/\s'.os=s₁.os/\AllBare s'.gens) s₁:=by
 have rv:=lT hi
 have lenV:=hi.length
 have aP:a≠Pt:=λe=>by rw[e,hP]at ha;cases ha
 have core:∀H:Hp,(∀b,b≠Pt->H b=none\/∃o xs,H b=some (.frz o (.lst xs)))->SqL K H a (ns.map V.int)->H Pt=some (.tbl #[])->HOk P w H s₁.heap->(∀b,H b≠none->b=a\/b=Pt)->(H a≠none->K.lookup a=none) ->
   codeAny (model P w) callerA (.call (.ref fa) ⟨[.ref a],[]⟩) (λr s'=>r=.ok (.ret (.bool true))/\OldK s₁.heap s'.heap/\s'.os=s₁.os/\AllBare s'.gens) s₁:=by
  intro H hO hS hT hok hA hK
  have base_of:∀{b:Addr}{o:Obj},s₁.heap.get? b=some o->H b=none->(wI s₁.heap H).get? b=some o:=λe n=>yc e n
  have noA:∀{b:Addr}{o:Obj},s₁.heap.get? b=some o->o.cls≠.type "list"\/(∀v n,o.data≠.seq v n)->o≠tabObj #[]->H b=none:=λ{b o} e d1 d2=>by
   cases q:H b with
   | none=>rfl
   | some u =>
    rcases hA b (by rw[q];simp)with e' | e'
    ·subst e'
     rw[ha]at e;cases e
     rcases d1 with d1 | d1
     ·exact absurd rfl d1
     ·exact absurd rfl (d1 _ _)
    ·subst e'
     rw[hP]at e;cases e
     exact absurd rfl d2
  have nsK:∀{b:Addr}{m:Str->Option Value},s₁.heap.Ns b m->(wI s₁.heap H).Ns b m:=λ{b m} ⟨o,es,ep,e,d,r⟩=>⟨o,es,ep,base_of e (noA e (.inr λv n z=>by rw[d]at z;cases z) λz=>by rw[z]at d;cases d),d,r⟩
  have hKb:K.In (wI s₁.heap H):=λb o e=>base_of (KX b o e) (by
   cases q:H b with
   | none=>rfl
   | some u =>
    rcases hA b (by rw[q];simp)with e' | e'
    ·subst e'
     rw[hK (by rw[q];simp)]at e;cases e
    ·subst e'
     have h2:=AAb.mp nt (b,o) (mem_of_lookupK e)
     have h3:=KX b o e
     rw[hP]at h3
     cases h3
     exact absurd (show false=true from h2) AB9)
  have hM:Mod K mg (wI s₁.heap H):=⟨hKb,nsK hns,⟨mb,nsK hb,hbb⟩,let ⟨mc,h1,h2⟩:=hlim;⟨mc,nsK h1,h2⟩⟩
  have e0:Env0 P w K mg (wI s₁.heap H) callerA [] s₁ H:=⟨rfl,hM,λb o e=>Ad e,Nat.le_of_eq (vO _ _),trivial,λb hb=>absurd (show b∈([]:List Addr)from hb) (by simp),hok,.of_eq hg⟩
  have bm:BMain mg (wI s₁.heap H):=by
   obtain⟨bm,ob,b1,b2,b3,b4,b5,b6⟩:=BM
   exact⟨bm,ob,b1,b2,b3,base_of b4 (noA b4 (.inl λz=>by rw[z]at b5;injection b5 with h;exact absurd h (by decide)) λz=>by rw[z]at b5;cases b5),b5,b6⟩
  refine ADZ ((F _ hKb (nsK hns) bm).run callerA [] s₁ H ⟨[.ref a],[]⟩ [.ref a] [.ref a] _ _ hr e0 (hbind s₁ (.ref a)) (.cons rfl .nil) (hsp H hS hT)) λr s' h=>?_
  cases r with
  | error e=>exact h.elim
  | ok fl =>
   cases fl with
   | next=>exact ABv h
   | brk=>exact ABv h
   | cont=>exact ABv h
   | ret u =>
    obtain⟨v,H',os,bare,un,hok',r',q⟩:=h
    have q':v=.bl true:=q
    subst q'
    obtain rfl:u=ADN true:=r'
    obtain⟨more,hT'⟩:=un.tbls Pt _ hT
    have hP':s'.heap.get? Pt=some (tabObj (#[]++more)):=hok' Pt _ hT'
    have old:∀b o,b≠Pt->s₁.heap.get? b=some o->s'.heap.get? b=some o:=λb o hb e=>by
     cases q:H b with
     | none=>exact un.keep b o e q (by intro z;exact absurd (show b∈([]:List Addr)from z) (by simp)) (by simp)
     | some u =>
      rcases hO b hb with z | ⟨ob,xs,z⟩
      ·rw[q]at z;cases z
      ·have z2:=un.frzs b ob _ z
       obtain⟨e1,_⟩:=hok b _ z
       obtain⟨e2,_⟩:=hok' b _ z2
       rw[e]at e1;cases e1
       exact e2
    refine⟨rfl,⟨λb o e=>?_,λb o e=>?_⟩,os,bare⟩
    ·by_cases hb:b=Pt
     ·subst hb
      rw[hP]at e;cases e
      exact .inr (.inl ⟨isT,rfl,#[],more,rfl,hP'⟩)
     ·exact .inl (old b o hb e)
    ·by_cases hb:b=Pt
     ·subst hb;exact⟨_,hP'⟩
     ·exact⟨o,old b o hb e⟩
 cases hk:K.lookup a with
 | some o =>
  have e:=KX a o hk
  rw[ha]at e
  cases e
  refine core (upd (λ_=>none) Pt (.tbl #[])) (λb hb=>.inl (ak hb)) (.inr ⟨_,vs.toArray,_,hk,rfl,rfl,rfl,by rw[AAC,lenV];exact hl,by simpa using rv⟩) ay (λb u z=>?_) (λb z=>?_) λz=>absurd (ak aP) z
  ·by_cases hb:b=Pt
   ·subst hb
    rw[ay]at z
    cases z
    exact hP
   ·rw[ak hb]at z
    cases z
  ·by_cases hb:b=Pt
   ·exact .inr hb
   ·exact absurd (ak hb) z
 | none =>
  refine core (upd (λb=>if b=a then some (.frz { cls:=.type "list",data:=.seq vs.toArray } (.lst (ns.map V.int)))else none) Pt (.tbl #[])) (λb hp=>?_) (.inl (.inr ⟨{ cls:=.type "list",data:=.seq vs.toArray },(ak aP).trans (if_pos rfl)⟩)) ay (λb u z=>?_) (λb z=>?_) λ_=>hk
  ·rw[ak hp]
   by_cases hb:b=a
   ·exact .inr ⟨_,_,if_pos hb⟩
   ·exact .inl (if_neg hb)
  ·by_cases hp:b=Pt
   ·subst hp
    rw[ay]at z
    cases z
    exact hP
   rw[ak hp]at z
   by_cases hb:b=a
   ·have z':=(if_pos hb).symm.trans z
    cases z'
    subst hb
    exact⟨ha,by rw[AA4];exact hl,vs,_,rv,ha⟩
   ·have z':=(if_neg hb).symm.trans z
    cases z'
  ·by_cases hp:b=Pt
   ·exact .inr hp
   rw[ak hp]at z
   by_cases hb:b=a
   ·exact .inl hb
   ·exact absurd (if_neg hb) z
theorem wZ{K:AA2}{x:Str}{c P:Addr}(h:tabIn K x=some (c,P)):∃o,K.lookup c=some o:=by
 unfold tabIn at h
 split at h
 ·split at h
  ·split at h
   ·rename_i c' _
    split at h
    ·rename_i e
     split at h
     ·cases h;exact⟨_,e⟩
     ·cases h
    ·cases h
   ·cases h
  ·cases h
 ·cases h
theorem law_walkL{l:PySem.W.OpenLaw}{q:Program}{loose:List Str}{XP:(Str->Option Value)->Heap->Prop}{YP:World->Heap->Prop}{d dz:DefRec}{K:Params->AA2}{k:Nat}{st:Stmt}{x z:Str}{cz Pz:Params->Addr}(hn:l.most=some 63)(hdf:d.params.defaults=[])(hd:d.name = "law")(hr:Room k callerA)
  (hY:∀(w:World) (h:Heap),YP w h->(K w.params).In h) (nt:∀p,noTabs (K p)=true) (hz:(recsOf q).find? (λe=>e.name==z)=some dz) (tz:∀p,tabIn (K p) z=some (cz p,Pz p))
  (F:∀(w:World) (mg:Str->Option Value) (h:Heap),(K w.params).In h->h.Ns mainGlobals mg->eu (K w.params) mg "law" st [x] /\
   ∀(base:Heap) (f:Addr) (fd:FuncData),BMain mg base->Fun (K w.params) "law" "law" st f fd->FnOk l.prog w (K w.params) mg base CX0 k f fd [x] (spL (K w.params) (sB z)))
  (hb:∀(kV doc pm:Value) (an:Option Addr) (cdv ct:Value) (u:Value),bindArgs (ABg "law" "law" (cx st) (aO st) (ao st) .none kV doc pm an cdv ct) ⟨[u],[]⟩=pure [(x,u)]) :
  PySem.W.WalkO q loose XP YP l.row.toRowW d [] (λf vs=>PySem.call f vs):=by
 refine Att.attach_call hn hdf λw s₀ s₁ mg mb fa o pm cd doc a vs ns G Y ho hdd hcd hmg hobj hints hlen hg=>?_
 have KX:=hY w _ Y
 rw[hd]at hmg
 obtain⟨⟨f,fd,F1,hm,_⟩,C⟩:=F w mg _ KX G.T.g
 have e:=hmg.symm.trans hm
 cases e
 obtain⟨CH,hP⟩:=tab_of G.T KX hz (tz w.params)
 obtain⟨oc',hlc⟩:=wZ (tz w.params)
 have CK:∀h:Heap,(K w.params).In h->CodeHd h (cz w.params) (Pz w.params):=λh X=>by
  obtain⟨o2,vs2,file,tf,flags,tg,inF,text,tt,e1,r⟩:=CH
  have e2:=KX _ _ hlc
  rw[e1]at e2
  cases e2
  exact⟨_,vs2,file,tf,flags,tg,inF,text,tt,X _ _ hlc,r⟩
 have bmn:BMain mg s₁.heap:=by
  obtain⟨bm,ob,b1,b2,b3,b4,b5,b6⟩:=G.T.bmain
  refine⟨bm,ob,b1,b2,λz=>?_,b3,b4,b5,b6⟩
  obtain⟨og,es,ep,eg,dg,_⟩:=G.T.g
  rw[z,eg]at b3
  cases b3
  rw[dg]at b6
  cases b6
 have aP:a≠Pz w.params:=λe=>by rw[e,hP]at hobj;cases hobj
 obtain⟨oc,od,kV,doc',pm',an,cdv,ct,osl,rfl,lk,hcd'⟩:=id F1.ex
 exact vb KX G.T.g G.T.b G.T.builtins G.T.nolimit hg hobj hints (AB4 hlen (by decide)) hr (nt _) hP (CH.tab hP).isCodeTable bmn (λbase _ _ B=>C base _ _ B F1) (λs v=>.of_eq (hb kV doc' pm' an cdv ct v)) λH hS hT=>pr hlen hS hT (tz w.params) CK aP
end L2
namespace L2
open PySem PySem.Spec PyProof.Rows DL
def GtAt(A:Around)(s:Shared)(x y:Value)(k:Bool):Prop:=∀(prog:Program) (w:World) (E:Value->Shared->Prop) (Q:Value->Shared->Prop),Q (.bool k) s->wpAny (model prog w) A (richCompare .Gt x y) Q E s
inductive GexAt(A:Around)(s:Shared):List Value->List Value->Bool->Prop
 | nn:GexAt A s [] [] false
 | nc {y:Value}{ys:List Value}:GexAt A s [] (y::ys) false
 | cn {x:Value}{xs:List Value}:GexAt A s (x::xs) [] true
 | eq {x y:Value}{xs ys:List Value}{k:Bool} (h:ACf A s x y true) (t:GexAt A s xs ys k):GexAt A s (x::xs) (y::ys) k
 | ne {x y:Value}{xs ys:List Value}{k:Bool} (h:ACf A s x y false) (t:GtAt A s x y k):GexAt A s (x::xs) (y::ys) k
noncomputable def pM(es:Array DictEntry)(h:Int)(i:Nat):Bool:=(es[i]?.map (·.hash))==some h
section
open PySem.W
structure ExcK(K:Frag)(D:Addr):Prop where
 ga:findIn K (.ref D) "__getattribute__" = some (some (.builtin "BaseException.__getattribute__"))
 gt:findIn K (.ref D) "__getattr__" = some none
 mb:mroIn K D (.type "BaseException")=some true
 mo:mroIn K D (.type "object")=some true
 cl:findIn K (.ref D) "__class__" = some (some (.builtin "object.__class__"))
end
noncomputable def trO(o:Obj)(T:Addr):Obj:=o.mapFields (·.setIfInBounds 1 (.ref T))
inductive TrX(h base:Heap)(l:List Env)(e:Addr)(o:Obj)(fl:Value):Prop
 | mk (T:Addr) (oT:Obj) (vs ts:Array Value) (st:base.StaysIn h) (nw:base.get? e=none) (ff:h.FunFrames base l) (d:o.data=.fields vs) (sz:1<vs.size) (at_:h.get? e=some (trO o T))
  (nT:base.get? T=none) (ne:T≠e) (aT:h.get? T=some oT) (dT:oT.data=.fields ts) (h3:ts[3]?=some fl)
inductive Fly(P:Program)(w:World)(stk:List Env)(H:Hp)(h0:Heap)(a:Addr)(C:Value)(H1:Hp)(h:Heap):Prop
 | mk (B:Heap) (o:Obj) (ix:IsX o C) (fly:TrX h B stk a o .none) (un:Un (frs stk) [] H H1 h0 h) (hok:HOk P w H1 h)
  (old:∀b o,h0.get? b=some o->b∉frs stk->∃o',B.get? b=some o'/\(H b=none->o'=o)) (trk:∀b u,H1 b=some u->∃o,B.get? b=some o)
structure DefX(X:Cx):Prop where
 stk:X.stack=X.env::X.outer
 fr:X.env.frame=some X.env.locals
 ex:X.ex=[]
def CXe(P:Program)(w:World):CXT:=λstk H s E e s'=>∃a C H1,e=.ref a/\s'.os=s.os/\AllBare s'.gens/\Fly P w stk H s.heap a C H1 s'.heap/\E C none H1
noncomputable abbrev vE:List Value:=[.type "ValueError",.type "Exception",.type "BaseException",.type "object"]
abbrev DX:=Str->Mem->Prop
abbrev DTX:=DX->DTS
abbrev DTEX:=DX->DTE
abbrev DSpX:=List D->Mem->DK->DX->Prop
inductive XQ(K:AA2)(ρ:List Addr)(H:Hp)(R:DX)(C:Value)(dx:Option Addr)(H':Hp):Prop
 | mk (x:Str) (c:Addr) (M':Mem) (ρ':List Addr) (e:C=.ref c) (hx:AC3 K mainGlobals x=some (some (.ref c))) (s:Sim K ρ' M' H') (g:Grow K ρ H ρ' H') (q:R x M')
inductive lowX(K:AA2)(E:XK)(t:DTX)(D:Ends)(σ:St)(H:Hp):Prop
 | mk (S:SD) (M:Mem) (ρ:List Addr) (F:DEnds) (R:DX) (s:Sim K ρ M H) (sr:SRep K ρ H S σ) (q:t R F S M) (k:Ups K ρ H F D) (x:∀C dx H',XQ K ρ H R C dx H'->E C dx H')
inductive lowXE(K:AA2)(E:XK)(t:DTEX)(σ:St)(H:Hp)(Q:VK):Prop
 | mk (S:SD) (M:Mem) (ρ:List Addr) (F:DK) (R:DX) (s:Sim K ρ M H) (sr:SRep K ρ H S σ) (q:t R S M F) (k:∀v H',VQ K ρ H F v H'->Q v H') (x:∀C dx H',XQ K ρ H R C dx H'->E C dx H')
structure XA(b:Bool)(X:Cx)(pins:List (Addr×Obj))(E:XK)(P:St->Prop)(Ex:Value->Shared->Prop):Prop where
 on:∀σ H1 s1 e s',P σ->Inv X pins σ H1 s1->CXe X.prog X.w X.stack H1 s1 E e s'->Ex e s'
 all:b=true->∀σ,P σ
 made:b=true->∀σ H1 s1 h' e C vs,Inv X pins σ H1 s1->Heap.MadeExcOf s1.heap h' e C vs->E C none H1->Ex (.ref e) { s1 with heap:=h' }
structure HX(b:Bool)(X:Cx)(st:Stmt)(t:DTX):Prop where
 ok:∀(pins:List (Addr×Obj)) (s:Shared) (σ:St) (H:Hp) (D:Ends) (E:XK) (P:St->Prop) (Ex:Value->Shared->Prop),XA b X pins E P Ex->P σ->Inv X pins σ H s->lowX X.K E t D σ H->wpAny (model X.prog X.w) X.A (exec st X.env) (SP X pins D) Ex s
structure HXs(b:Bool)(X:Cx)(st:List Stmt)(t:DTX):Prop where
 ok:∀(pins:List (Addr×Obj)) (s:Shared) (σ:St) (H:Hp) (D:Ends) (E:XK) (P:St->Prop) (Ex:Value->Shared->Prop),XA b X pins E P Ex->P σ->Inv X pins σ H s->lowX X.K E t D σ H->wpAny (model X.prog X.w) X.A (execs st X.env) (SP X pins D) Ex s
structure HXE(b:Bool)(X:Cx)(e:Expr)(t:DTEX):Prop where
 ok:∀(pins:List (Addr×Obj)) (s:Shared) (σ:St) (H:Hp) (Q:VK) (E:XK) (P:St->Prop) (Ex:Value->Shared->Prop),XA b X pins E P Ex->P σ->Inv X pins σ H s->lowXE X.K E t σ H Q->wpAny (model X.prog X.w) X.A (eval e X.env) (EP X pins σ Q) Ex s
structure ClsX(K:AA2)(x:Str)(C:Addr):Prop where
 at_:AC3 K mainGlobals x=some (some (.ref C))
 exc:PySem.W.excIn K C vE "ValueError.__new__" = true
 own:ExcK K C
 val:ADu K (.ref C) (.type "ValueError")=some true
structure RoomH(k:Nat)(A:Around):Prop where
 dp:A.depth+3*k+5<recursionLimit
 un:A.units+16*k+200<cLine
def EX(A:Around)(H:Hp):Prop:=∃a o C,A.handled=some (.ref a)/\H a=some (.frz o (.own a))/\IsX o C
structure FnH(P:Program)(w:World)(K:AA2)(mg:Str->Option Value)(base:Heap)(k:Nat)(f:Addr)(fd:FuncData)(ps:List Str)(sp:Sp):Prop where
 len:∀vs H Q E,sp vs H Q E->vs.length=ps.length
 run:∀(A:Around) (outer:List Env) (s:Shared) (H:Hp) (args:Args) (us:List Value) (vs:List V) (Q:VK) (E:XK),RoomH k A->EX A H->Env0 P w K mg base A outer s H->BindsTo s fd args (ps.zip us)->ar vs us->sp vs H Q E ->
  codeAny (model P w) A (.call (.ref f) args) (CR CX0 outer P w H s Q E) s
end L2
namespace L2
open PySem PySem.Spec PyProof.Rows DL PySem.W
end L2
namespace L2
open PySem PySem.Spec PyProof.Rows DL
abbrev DTAX:=DX->DTA
inductive lowXA(K:AA2)(E:XK)(t:DTAX)(σ:St)(H:Hp)(Q:List V->Hp->Prop):Prop
 | mk (S:SD) (M:Mem) (ρ:List Addr) (F:List D->Mem->Prop) (R:DX) (s:Sim K ρ M H) (sr:SRep K ρ H S σ) (q:t R S M F) (k:∀v H',AQ K ρ H F v H'->Q v H') (x:∀C dx H',XQ K ρ H R C dx H'->E C dx H')
structure HXA(b:Bool)(X:Cx)(es:List Expr)(t:DTAX):Prop where
 ok:∀(pos:Pos) (pins:List (Addr×Obj)) (s:Shared) (σ:St) (H:Hp) (Q:List V->Hp->Prop) (E:XK) (P:St->Prop) (Ex:Value->Shared->Prop),XA b X pins E P Ex->P σ->Inv X pins σ H s->lowXA X.K E t σ H Q->wpAny (model X.prog X.w) X.A (spliced (backTo pos (starEach es X.env))) (AP X pins σ Q) Ex s
end L2
namespace L2
open PySem PySem.Spec PyProof.Rows DL PySem.W
end L2
namespace L2
open PySem PySem.Spec PyProof.Rows DL
noncomputable def asT(M:Mem):D->D
 | .ref i=>match M[i]? with
  | some a=>.tup a.items
  | none=>.non
 | _=>.non
structure SrtR(M:Mem)(xs:List D):Prop where
 len:xs.length<64
 ls:∀x∈xs,∃n a,x=.ref n/\M[n]?=some a/\a.isL=true
 ok:∀x∈xs,okP eqN (asT M x)=true
 cm:∀x∈xs,∀y∈xs,cC M eqN (asT M x) (asT M y)=true
def EW(K:AA2)(c:Str)(C:Addr):Prop:=AC3 K mainGlobals c=some (some (.ref C))/\Cls K C
def sQ(K:AA2)(c f:Str):Prop:=∃C,EW K c C/\jt K C f
def BH(P:Program)(w:World)(K:AA2)(mg:Str->Option Value)(base:Heap)(k:Nat)(c m:Str)(ps:List Str)(Pr:DSp):Prop :=
 ∃C f fd,EW K c C/\Meth K C m f/\FnOk P w K mg base CX0 k f fd ps (spL K Pr)/\eD K fd ps []
def EZ(P:Program)(w:World)(K:AA2)(mg:Str->Option Value)(base:Heap)(k:Nat)(c:Str)(ps:List Str)(Pr:DSp):Prop :=
 ∃C f fd,EW K c C/\mg c=some (.ref C)/\Mk K C f/\FnOk P w K mg base CX0 k f fd ps (spL K Pr)/\eD K fd ps []
def MtAt(K:AA2)(c m q:Str)(st:Stmt)(ps:List Str):Prop :=
 ∃C f fd,EW K c C/\Meth K C m f/\Fun K m q st f fd/\eD K fd ps []
def InAt(K:AA2)(mg:Str->Option Value)(c q:Str)(st:Stmt)(ps:List Str):Prop :=
 ∃C f fd,EW K c C/\mg c=some (.ref C)/\Mk K C f/\Fun K "__init__" q st f fd/\eD K fd ps []
section
variable{P:Program}{w:World}{K:AA2}{mg:Str->Option Value}{base:Heap}{k:Nat}{c m q:Str}{st:Stmt}{N ps:List Str}{Pr:DSp}{t:DTS}{B:List Str}{C:List (Str×Int)}
theorem BH.byD(T:TopB mg B C)(F:MtAt K c m q st ps)(Sc:FnScope N ps (ao st))(len:er Pr ps)(der:TopB mg B C->N.Nodup->EY P w K mg base k q N st t)(wp:∀ds M R,Pr ds M R->t (EE M R) (bw N ds) M):BH P w K mg base (k+1) c m ps Pr:=by
 obtain⟨C',f,fd,i,h,F,b⟩:=F
 exact⟨C',f,fd,i,h,d_fn Pr F Sc len (λcdv A outer s H E hr=>⟨t,(der T Sc.nd f cdv A outer s H E hr).ok,wp⟩),b⟩
theorem EZ.byD(T:TopB mg B C)(F:InAt K mg c q st ps)(Sc:FnScope N ps (ao st))(len:er Pr ps)(der:TopB mg B C->N.Nodup->EY P w K mg base k q N st t)(wp:∀ds M R,Pr ds M R->t (EE M R) (bw N ds) M):EZ P w K mg base (k+1) c ps Pr:=by
 obtain⟨C',f,fd,i,g,h,F,b⟩:=F
 exact⟨C',f,fd,i,g,h,d_fn Pr F Sc len (λcdv A outer s H E hr=>⟨t,(der T Sc.nd f cdv A outer s H E hr).ok,wp⟩),b⟩
variable{h:Heap}{D f:Addr}{oc:Value}{od an:Option Addr}{osl:Array (Option Value)}{kV doc pm cdv ct:Value}
theorem fld_mk(X:K.In h)(a:AC3 K mainGlobals c=some (some (.ref D)))(p:AC1 K D ACn=true)(hd:ACA K D=true)(po:ACe K D=true)(sa:AAu K (.ref D) "__setattr__" = some (some (.builtin "object.__setattr__")))
  (n:AAu K (.ref D) m=some none):sQ K c m:=⟨D,⟨a,p,hd,po,sa⟩,n⟩
theorem mtat_mk(X:K.In h)(a:AC3 K mainGlobals c=some (some (.ref D)))(p:AC1 K D ACn=true)(hd:ACA K D=true)(po:ACe K D=true)(sa:AAu K (.ref D) "__setattr__" = some (some (.builtin "object.__setattr__")))
  (n:AAu K (.ref D) m=some (some (.ref f))) (i:ADr K (.ref f)=true) (l:K.lookup f=some ⟨oc,od,.func (ABg m q (cx st) (aO st) (ao st) .none kV doc pm an cdv ct),osl⟩) (cd:ACo K cdv q=true) (kp:ABK K (.ref f)=true)
  (b:∀(kV doc pm:Value) (an:Option Addr) (cdv ct:Value) (us:List Value),us.length=ps.length->bindArgs (ABg m q (cx st) (aO st) (ao st) .none kV doc pm an cdv ct) ⟨us,[]⟩=pure (ps.zip us)):MtAt K c m q st ps :=
 have F:=vW (st:=st) l cd kp
 ⟨D,f,_,⟨a,p,hd,po,sa⟩,⟨n,i,kp⟩,F,F.binds b⟩
theorem inat_mk(X:K.In h)(G:h.Ns mainGlobals mg)(a:AC3 K mainGlobals c=some (some (.ref D)))(p:AC1 K D ACn=true)(hd:ACA K D=true)(po:ACe K D=true)(sa:AAu K (.ref D) "__setattr__" = some (some (.builtin "object.__setattr__")))
  (mk:PySem.W.makesIn K D=true) (kc:ABK K (.ref D)=true) (n:AAu K (.ref D) "__init__" = some (some (.ref f))) (i:ADr K (.ref f)=true) (l:K.lookup f=some ⟨oc,od,.func (ABg "__init__" q (cx st) (aO st) (ao st) .none kV doc pm an cdv ct),osl⟩) (cd:ACo K cdv q=true) (kp:ABK K (.ref f)=true)
  (b:∀(kV doc pm:Value) (an:Option Addr) (cdv ct:Value) (us:List Value),us.length=ps.length->bindArgs (ABg "__init__" q (cx st) (aO st) (ao st) .none kV doc pm an cdv ct) ⟨us,[]⟩=pure (ps.zip us)):InAt K mg c q st ps :=
 have F:=vW (st:=st) l cd kp
 ⟨D,f,_,⟨a,p,hd,po,sa⟩,PySem.W.mg_of X G a,⟨mk,n,i,kc⟩,F,F.binds b⟩
end
noncomputable def zx(f:Str)(v:D):List (Str×D)->List (Str×D)
 | []=>[(f,v)]
 | (g,x)::r=>if g=f then(g,v)::r else(g,x)::zx f v r
theorem qJ{K:AA2}{ρ:List Addr}{H:Hp}{f:Str}{d:D}{v:V}(h:Rep K ρ H d v):∀{fs:List (Str×D)}{vs:List V},Reps K ρ H (fs.map (·.2)) vs->∃us,lJ f v ((fs.map (·.1)).zip vs)=((zx f d fs).map (·.1)).zip us/\Reps K ρ H ((zx f d fs).map (·.2)) us
 | [],vs,r=>by
  obtain rfl:=Reps.inv_nil r
  exact⟨[v],rfl,.cons h .nil⟩
 | (g,x)::fs,vs,r=>by
  obtain⟨u,us,rfl,r1,r2⟩:=Reps.inv_cons r
  by_cases e:g=f
  ·refine⟨v::us,?_,?_⟩
   ·show (if g=f then _ else _)=_
    rw[if_pos e]
    show _=((if g=f then _ else _:List (Str×D)).map (·.1)).zip _
    rw[if_pos e];rfl
   ·show Reps K ρ H ((if g=f then _ else _:List (Str×D)).map (·.2)) _
    rw[if_pos e];exact .cons h r2
  ·obtain⟨us',e1,r'⟩:=qJ (f:=f) h (fs:=fs) r2
   refine⟨u::us',?_,?_⟩
   ·show (if g=f then _ else(g,u)::lJ f v ((fs.map (·.1)).zip us))=_
    rw[if_neg e,e1]
    show _=((if g=f then _ else _:List (Str×D)).map (·.1)).zip _
    rw[if_neg e];rfl
   ·show Reps K ρ H ((if g=f then _ else _:List (Str×D)).map (·.2)) _
    rw[if_neg e];exact .cons r1 r'
theorem fI{K:AA2}{ρ:List Addr}{H:Hp}{f:Str}:∀{fs:List (Str×D)}{vs:List V},Reps K ρ H (fs.map (·.2)) vs->(∀d,fs.lookup f=some d->∃v,((fs.map (·.1)).zip vs).lookup f=some v/\Rep K ρ H d v)/\(fs.lookup f=none->((fs.map (·.1)).zip vs).lookup f=none)
 | [],_,r=>⟨(λ_ z=>nomatch z),λ_=>by obtain rfl:=Reps.inv_nil r;rfl⟩
 | (g,x)::fs,vs,r=>by
  obtain⟨u,us,rfl,r1,r2⟩:=Reps.inv_cons r
  have ih:=fI (f:=f) r2
  show (∀d,((g,x)::fs).lookup f=some d->∃v,((g,u)::(fs.map (·.1)).zip us).lookup f=some v/\_)/\(((g,x)::fs).lookup f=none->((g,u)::(fs.map (·.1)).zip us).lookup f=none)
  rw[AB5,AB5]
  cases f==g with
  | true=>exact⟨λd e=>⟨u,rfl,by cases e;exact r1⟩,λe=>nomatch e⟩
  | false=>exact ih
theorem Sim.writeI{K:AA2}{ρ:List Addr}{M:Mem}{H:Hp}(S:Sim K ρ M H)(e1:ρ[n]?=some a)(hM:M[n]?=some (.ins c fs))(hC:AC3 K mainGlobals c=some (some (.ref C)))(hH:H a=some (.ins C dx us))(r:Reps K ρ H (fs'.map (·.2)) vs') :
  Sim K ρ (M.set n (.ins c fs')) (upd H a (.ins C dx ((fs'.map (·.1)).zip vs')))/\Grow K ρ H ρ (upd H a (.ins C dx ((fs'.map (·.1)).zip vs'))) :=
 S.writeG e1 (λ⟨_,z⟩=>by rw[hM]at z;cases z) hH rfl λg=>⟨C,dx,vs',hC,ay,r.grow g⟩
def dFld(c f:Str)(te:DTE):DTE:=λS M Q=>te S M λd M1=>match d with
 | .ref n=>∃fs v,M1[n]?=some (.ins c fs)/\fs.lookup f=some v/\Q v M1
 | _=>False
def jp(c f:Str)(te tv:DTE):DTS:=λE S M=>tv S M λv M1=>te S M1 λd M2=>match d with
 | .ref n=>∃fs,M2[n]?=some (.ins c fs)/\fs.length<1000/\E.nx S (M2.set n (.ins c (zx f v fs)))
 | _=>False
def pQ(c m:Str)(P:DSp)(te:DTE)(t:DTA):DTE:=λS M Q=>te S M λd M1=>match d with
 | .ref n=>(∃fs,M1[n]?=some (.ins c fs)/\fs.lookup m=none)/\t S M1 λds M2=>P (.ref n::ds) M2 Q
 | _=>False
def yy(c:Str)(P:DSp)(t:DTA):DTE:=λS M Q=>t S M λds M1=>P (.ref M1.length::ds) (M1++[.ins c []]) λv M2=>v=.non/\Q (.ref M1.length) M2
theorem k_fld(F:sQ X.K c f)(he:HE X e te)(hb:attributeBase e f X.env (eval e X.env)=eval e X.env:=by kernel_rfl):HE X (.Attribute e f pos) (dFld c f te):=⟨by
 obtain⟨C,⟨hC,cl⟩,na⟩:=F
 refine PE.imp (CJ he.ok hb) ?_
 rintro σ H R ⟨S,M,ρ,Q,s,sr,q,k⟩
 refine⟨S,M,ρ,_,s,sr,q,?_⟩
 rintro v H1 ⟨d,M1,ρ1,s1,g1,r1,q1⟩
 cases d with
 | ref n =>
  obtain⟨fs,d,hn,hf,q1⟩:=q1
  obtain⟨a,rfl,ea⟩:=Rep.inv_ref r1
  obtain⟨C',dx,vs,hC',hH,rr⟩:=s1.obj n a _ ea hn
  obtain rfl:C'=C:=by rw[hC]at hC';cases hC';rfl
  obtain⟨v,hv,rv⟩:=(fI (f:=f) rr).1 d hf
  exact⟨a,C',dx,_,v,rfl,hH,cl,na,hv,k v H1 ⟨d,M1,ρ1,s1,g1,rv,q1⟩⟩
 | _=>exact q1.elim⟩
theorem nz{X:Cx}{o value:Expr}{tv to:DTE}{pos pos':Pos}{c f:Str}(F:sQ X.K c f)(ho:HE X o to)(hv:HE X value tv)(hs:swapsWith value (some (.Attribute o f pos')) pos.line X.env=pure false:=by kernel_rfl):HS X (.Assign [.Attribute o f pos'] value pos) (jp c f to tv):=⟨by
 obtain⟨C,⟨hC,cl⟩,na⟩:=F
 refine PS.imp (Ct ho.ok hv.ok hs) ?_
 rintro E σ H ⟨S,M,ρ,F,s,sr,q,k⟩
 refine⟨S,M,ρ,_,s,sr,q,?_⟩
 rintro v H1 ⟨d,M1,ρ1,s1,g1,r1,q1⟩
 refine⟨S,M1,ρ1,_,s1,sr.grow g1,q1,?_⟩
 rintro v2 H2 ⟨d2,M2,ρ2,s2,g2,r2,q2⟩
 cases d2 with
 | ref n =>
  obtain⟨fs,hn,hl,q2⟩:=q2
  obtain⟨a,rfl,ea⟩:=Rep.inv_ref r2
  obtain⟨C',dx,vs,hC',hH,rr⟩:=s2.obj n a _ ea hn
  obtain rfl:C'=C:=by rw[hC]at hC';cases hC';rfl
  obtain⟨us,e1,r'⟩:=qJ (f:=f) (r1.grow g2) rr
  have w:=s2.writeI ea hn hC hH r'
  refine⟨a,C',dx,_,rfl,hH,cl,na,?_,?_⟩
  ·rw[List.length_zip,AA4];lia
  ·rw[e1]
   exact k.nx _ _ ⟨S,_,ρ2,w.1,(g1.trans g2).trans w.2,sr.grow ((g1.trans g2).trans w.2),q2⟩
 | _=>exact q2.elim⟩
theorem xH{args:List Expr}{pins:List (Addr×Obj)}{s:Shared}{σ:St}{H:Hp}{Q:Value->Shared->Prop}{C f:Addr}{ta:TE}(he:PE X o ta)(hm:Meth X.K C m f)(cl:Cls X.K C)(I:Inv X pins σ H s)
  (hbase:attributeBase o m X.env (eval o X.env)=eval o X.env) (hfew:methodCallForm (args.length+([]:List Keyword).length) (backTo cpos (starEach args X.env)) (backToKw cpos (keywordEach [] X.env))=true) (hline:(apos.endLine==cpos.line)=true)
  (h:ta σ H λx H1=>∃a dx fs,x=.ref a/\H1 a=some (.ins C dx fs)/\fs.lookup m=none/\∀s1,Inv X pins σ H1 s1->wpAny (model X.prog X.w) X.A (callWith cpos (.ref f) [.ref a] (backTo cpos (starEach args X.env)) (backToKw cpos (keywordEach [] X.env))) Q X.xe s1) :
  wpAny (model X.prog X.w) X.A (eval (.Call (.Attribute o m apos) args [] cpos) X.env) Q X.xe s:=by
 have hpos:methodCallPos true o X.env apos cpos=pure cpos:=by unfold methodCallPos;simp[hline]
 rw[arm_eval_Call,hbase]
 refine AA0 (thn (he pins s σ H _ I h) ?_)
 rintro u s1 ⟨x,H1,I1,rx,a,dx,fs,ex,ea,l,q⟩
 refine AA0 (wpAny_standAt ?_)
 subst ex
 obtain rfl:u=AAe a:=rx
 unfold methodCall
 rw[hfew]
 exact AA0 (AAj (sH I1 ea cl hm l (AA0 (wpAny_of_eq hpos (q s1 I1)))))
theorem AF(C:BH X.prog X.w X.K X.mg X.base j c m ps P)(hr:Room k X.A)(ho:HE X o to)(hj:Nat.ble j k=true:=by kernel_rfl)
  (hbase:attributeBase o m X.env (eval o X.env)=eval o X.env:=by kernel_rfl) (hfew:methodCallForm (([]:List Expr).length+([]:List Keyword).length) (backTo cpos (starEach [] X.env)) (backToKw cpos (keywordEach [] X.env))=true:=by kernel_rfl) (hline:(apos.endLine==cpos.line)=true:=by kernel_rfl) :
  HE X (.Call (.Attribute o m apos) [] [] cpos) (pQ c m P to ah):=⟨by
 rintro pins s σ H Q I ⟨S,M,ρ,F,sm,sr,q,kk⟩
 obtain⟨C,f,fd,⟨hC,cl⟩,hm,Fk,hb⟩:=C
 refine xH ho.ok hm cl I hbase hfew hline ⟨S,M,ρ,_,sm,sr,q,?_⟩
 rintro v H1 ⟨d,M1,ρ1,s1,g1,r1,q1⟩
 cases d with
 | ref n =>
  obtain⟨⟨fs,hn,hf⟩,q1⟩:=q1
  obtain⟨a,rfl,ea⟩:=Rep.inv_ref r1
  obtain⟨C',dx,vs,hC',hH,rr⟩:=s1.obj n a _ ea hn
  obtain rfl:C'=C:=by rw[hC]at hC';cases hC';rfl
  refine⟨a,dx,_,rfl,hH,(fI (f:=m) rr).2 hf,λs2 I2=>?_⟩
  refine PySem.W.callWith_K0 (first:=[.ref a]) I2.kIn hm.kp (ur (us:=[.ref a]) (vs:=[.ref a]) (dvs:=[]) (ds:=[]) (E:=E0) Fk (hr.mono (ACW hj)) hb .nil xw I2 (.cons rfl .nil) ?_)
  exact⟨_,M1,ρ1,F,s1,.cons (.ref ea) .nil,q1,λv H' w=>kk v H' (VQ.trans g1 w)⟩
 | _=>exact q1.elim⟩
theorem DF(C:EZ X.prog X.w X.K X.mg X.base j c ps P)(hr:Room k X.A)(ha:HA X (e::es) t)(hj:Nat.ble (j+1) k=true:=by kernel_rfl)(hg:X.env.kindOf c=some .globalImplicit:=by kernel_rfl)(hdb:(c==("__debug__":Str))=false:=by kernel_rfl)
  (he:starEach (e::es) X.env=(false,eval e X.env)::starEach es X.env:=by kernel_rfl) (hpl:(backTo pos (starEach es X.env)).any (·.1)=false:=by kernel_rfl):HE X (.Call (.Name c p) (e::es) [] pos) (yy c P t):=⟨by
 obtain⟨C,f,fd,⟨hC,cl⟩,hm,mk,Fk,hb⟩:=C
 refine PE.imp (zL mk Fk (hr.mono (ACW hj)) hg hm hb .nil xw ha.ok hdb he hpl) ?_
 rintro σ H R ⟨S,M,ρ,Q,s,sr,q,kk⟩
 refine⟨S,M,ρ,_,s,sr,q,?_⟩
 rintro vs H1 ⟨ds,M1,ρ1,s1,g1,r1,q1⟩ x dx hx hdx ne
 have s2:=s1.laid (o:=.own x) hdx
 have hx':upd H1 dx (.own x) x=none:=by rw[ak (AAr ne)];exact hx
 have g2:Grow X.K ρ1 H1 (ρ1++[x]) (upd (upd H1 dx (.own x)) x (.ins C dx [])):=(Grow.laid hdx).trans (Grow.laidR hx')
 have s3:=s2.laidM (o:=.ins C dx []) (mo:=.ins c []) hx' ⟨C,dx,[],hC,ay,.nil⟩
 rw[ABR]
 refine⟨_,_,_,_,s3,.cons (.ref s1.last) (r1.grow g2),q1,?_⟩
 rintro v H2 ⟨d,M',ρ',s',g',r',ed,q'⟩
 subst ed
 refine⟨Rep.inv_non r',kk _ _ ⟨.ref M1.length,M',ρ',s',(g1.trans g2).trans g',.ref (av g'.pre s1.last),q'⟩⟩⟩
end L2
namespace L2
open PySem PySem.Spec PyProof.Rows DL PySem.W
end L2
namespace LW
open PySem L2
local macro_rules | `(tactic| walk_at "sc")=>`(tactic| exact⟨rfl,rfl,rfl,by decide +kernel,rfl,by decide +kernel,by decide +kernel⟩)
local macro_rules | `(tactic| walk_at "dl")=>`(tactic| simp only[EE,dFld,jp,pQ,yy,au,dIf,yX,yY,dOr,az,dCB,aa,ah,aI,pR,yx,dIfE,dLC,lh,cy,al,be,aJ,jB,gJ,dOp,dUn,dC,ab,bi,gI,dSl,fF,bO,dMl,aU,CT,qAdd,aG,zu,gF,aC,bC,Ck,qLt,Cl,qGt,qIs,mN,qEq,qNe,oJ,ju,qIx,qSl,cu,wJ,yt,dI,aE,dJ,dZip,rZ,bD,wk,wn,wm,jA,lq,jn,dMt,dG,rz,qInT,cI,uw,rY,il,Bq,mO,cY,SqAt,jo,at0,at1,at2,tyD,dst,bw,EA,AAQ,List.map_nil,List.cons_append,AAo,List.getElem?_cons_zero,List.getElem?_cons_succ,AAO,AAa,List.replicate_zero,List.replicate_succ,List.set_cons_zero,List.set_cons_succ,AD3,Nat.reduceAdd,Nat.reduceSub,Option.join_some,if_true,if_false,AAZ])
noncomputable def top(i:Nat):Stmt:=PySem.Challenge.pw_talkmarks_k60_what_a_pack_keeps.main.body.getD i (.Pass ⟨0,0,0,0⟩)
noncomputable abbrev B_:List Str:=["sorted","tuple","dict","max","len","range","bool","isinstance","str","int","list","zip"]
noncomputable abbrev C_:List (Str×Int):=[]
noncomputable def meth(i j:Nat):Stmt:=match top i with
 | .ClassDef _ _ _ b ..=>b.getD j (.Pass ⟨0,0,0,0⟩)
 | s=>s
noncomputable abbrev fS:List Str:=["deed"]
noncomputable abbrev eK:List Str:=["deed"]
noncomputable abbrev eJ:List Str:=["log"]
noncomputable abbrev fT:List Str:=["deed"]
noncomputable abbrev bN:List Str:=["one","other"]
noncomputable abbrev eL:List Str:=["one","other"]
noncomputable abbrev fR:List Str:=["entries"]
noncomputable abbrev eM:List Str:=["self","house","log"]
noncomputable abbrev dH:List Str:=["self"]
noncomputable abbrev df:List Str:=["self"]
noncomputable abbrev iV:List Str:=["_law_script","_law_k"]
noncomputable abbrev kL:List Str:=["_law_cell","_law_many"]
noncomputable abbrev oM:List Str:=["_law_cell","_law_many"]
noncomputable abbrev iS:List Str:=["_law_rest_here"]
noncomputable abbrev bF:List Str:=["_law_rest_here"]
noncomputable abbrev oO:List Str:=["_law_cell"]
noncomputable abbrev uE:List Str:=["_law_cell"]
noncomputable abbrev oP:List Str:=["_law_house_here"]
noncomputable abbrev iT:List Str:=["_law_rest_here","_law_hands_here","_law_stamps"]
noncomputable abbrev oN:List Str:=[]
noncomputable abbrev kM:List Str:=["_law_rest_here","_law_names"]
noncomputable abbrev kK:List Str:=["_law_rest_here","_law_hands_here"]
noncomputable abbrev uC:List Str:=["_law_rest_here","_law_house_here","_law_hands_here","_law_stamps"]
noncomputable abbrev zV:List Str:=["_law_rest_here","_law_house_here","_law_hands_here","_law_stamps"]
noncomputable abbrev zS:List Str:=["_law_cells","_law_house_here"]
noncomputable abbrev uD:List Str:=["_law_found","_law_due_here"]
noncomputable abbrev uF:List Str:=["_law_deed"]
noncomputable abbrev iU:List Str:=["_law_one","_law_other"]
noncomputable abbrev zU:List Str:=["_law_log_here"]
noncomputable abbrev zT:List Str:=["_law_script"]
structure Tops(P:Program)(w:World)(K:AA2)(mg:Str->Option Value)(base:Heap):Prop where
 f_stamp_of:eu K mg "stamp_of" (top 2) fS
 f_person_of:eu K mg "person_of" (top 3) eK
 f_vector_of:eu K mg "vector_of" (top 5) eJ
 f_entry_of:eu K mg "entry_of" (top 7) fT
 f_greater_counts:eu K mg "greater_counts" (top 8) bN
 f_one_entry:eu K mg "one_entry" (top 9) eL
 f_table_of:eu K mg "table_of" (top 10) fR
 f_Pack_init:InAt K mg "Pack" "Pack.__init__" (meth 11 0) eM
 f_Pack_table:MtAt K "Pack" "table" "Pack.table" (meth 11 1) dH
 f_Pack_vector:MtAt K "Pack" "vector" "Pack.vector" (meth 11 2) df
 f_cell_at:eu K mg "_law_cell_at" (top 13) iV
 f_stream:eu K mg "_law_stream" (top 14) kL
 f_words:eu K mg "_law_words" (top 15) oM
 f_name_in:eu K mg "_law_name_in" (top 16) iS
 f_house_by_digits:eu K mg "_law_house_by_digits" (top 17) bF
 f_house:eu K mg "_law_house" (top 18) oO
 f_rest:eu K mg "_law_rest" (top 19) uE
 f_hands:eu K mg "_law_hands" (top 20) oP
 f_message:eu K mg "_law_message" (top 21) iT
 f_signs:eu K mg "_law_signs" (top 22) oN
 f_saying:eu K mg "_law_saying" (top 23) kM
 f_vector:eu K mg "_law_vector" (top 24) kK
 f_what:eu K mg "_law_what" (top 25) uC
 f_act:eu K mg "_law_act" (top 26) zV
 f_log:eu K mg "_law_log" (top 27) zS
 f_same:eu K mg "_law_same" (top 28) uD
 f_kept:eu K mg "_law_kept" (top 29) uF
 f_greater:eu K mg "_law_greater" (top 30) iU
 f_due:eu K mg "_law_due" (top 31) zU
 f_law:eu K mg "law" (top 32) zT
 a_house:sQ K "Pack" "house"
 a_reach:sQ K "Pack" "reach"
 a_entries:sQ K "Pack" "entries"
 b:TopB mg B_ C_
 bm:BMain mg base
local macro_rules | `(tactic| walk_at "bb")=>`(tactic| first | exact BD | exact BC | exact ER | exact lC | exact EQ | exact BB | exact EO | exact nV | exact EN | exact yE)
local macro_rules | `(tactic| walk_at "tb")=>`(tactic| exact TopB.no (by k_dflt assumption) (by kernel_rfl))
local macro_rules | `(tactic| walk_at "dvr")=>`(tactic| (repeat' (first | (with_reducible first | (refine gA ?_;first | exact Dy | refine AC ?_ ?_) | exact k_var | (refine Ef ?_;first | exact k_int | exact k_bl | exact k_non | exact k_str) | (refine gCall ?_;first | refine pD (by k_dflt assumption) ?_ (by walk_at "tb") | refine vK (by k_dflt assumption) (by k_dflt assumption) (by k_dflt assumption) ?_ (by walk_at "tb") (λ_ _ _ _ _ _ _ _=>?_) (by k_dflt (exact ve (by kernel_rfl))) (by k_dflt kernel_rfl) (by k_dflt kernel_rfl) (by k_dflt (intro _ _ _ _;kernel_rfl)) | refine AH ?_ (by walk_at "tb") (by walk_at "bb") ?_ | refine ya ?_ (by walk_at "tb") (by walk_at "bb") ?_ | refine k_cal (by k_dflt assumption) (by k_dflt assumption) ?_ (hj:=Nat.ble_eq_true_of_le (by lia)) | exact DM (by k_dflt assumption) (by k_dflt assumption) | refine AF (by k_dflt assumption) (by k_dflt assumption) ?_ | refine DF (by k_dflt assumption) (by k_dflt assumption) ?_ | refine AD (by k_dflt assumption) ?_ ?_ | refine k_ml ?_ ?_ ?_) | (refine gIx ?_;first | refine AE ?_ ?_ ?_ | refine DC (by k_dflt assumption) ?_ ?_ (hs:=by k_dflt (intro _ _;kernel_rfl)) | refine DJ (by k_dflt assumption) ?_ ?_ (hs:=by k_dflt (intro _ _;kernel_rfl)) | refine k_ix ?_ ?_ (hs:=by k_dflt (intro _ _;kernel_rfl))) | (refine gT ?_;first | refine Dl ?_ ?_ ?_ | refine Dk ?_ | refine kw_t (yM ?_ ?_) | refine kw_t (Di ?_ ?_) | refine Dj ?_) | (refine gE ?_;first | exact DH | exact DB | exact Dz (by walk_at "tb") (by walk_at "bb") | refine k_op ?_ ?_ ?_ | refine k_un DR ?_ | refine k_not ?_ | refine k_cmp ?_ ?_ ?_ | refine k_one ?_ | refine k_and ?_ ?_ | refine AG ?_ ?_ ?_ | refine k_tup ?_ | refine k_lst ?_ | refine k_fld (by k_dflt assumption) ?_ | refine k_lcN ?_ (λ_ _ _ _=>?_) (λ_ _ _ _=>?_) (λ_ _ _ _=>?_)) | (refine gS ?_;first | refine nz (by k_dflt assumption) ?_ ?_ | refine vt ?_ | refine yP ?_ | refine Dp ?_ ?_ ?_ | refine nv (by k_dflt assumption) ?_ (λ_ _ _ _=>?_) (λ_ _ _ _=>?_) (λ_ _ _ _=>?_) | refine yO (by k_dflt assumption) ?_ | refine yR ?_ ?_ | refine vq (by k_dflt assumption) ?_ ?_ ?_ | refine vA (by k_dflt assumption) ?_ ?_ ?_ | refine yQ ?_ ?_ ?_) | (refine gOp ?_;first | exact AO | exact ho_eq (by k_dflt assumption) | exact AN | exact ho_gt | exact Ea (by k_dflt assumption) | exact ho_is | exact yb | exact ho_lt | exact DZ (by k_dflt assumption) | exact DY | exact DV | exact ho_ne (by k_dflt assumption) | exact DU) | (refine gC ?_;first | exact yg (by k_dflt assumption) | exact Ed | exact Ec | exact AV | exact AU | exact AT | exact vS (by k_dflt assumption) | exact sF (by k_dflt assumption) | exact yf) | exact Do | exact Au | exact Ax | exact Az | refine Dm ?_ | refine yM ?_ ?_ | refine Di ?_ ?_ | refine Aq ?_ | refine Dh ?_ | refine At ?_ | refine Aw ?_ | refine vB (by walk_at "tb") ?_ | refine Dq (by walk_at "tb") ?_ | refine xU ?_ | refine Dr ?_ | exact AA (by k_dflt assumption) | exact Du (Df (by kernel_rfl)) | refine xV ?_ ?_ | refine Ds ?_ | refine Dt ?_ ?_ | exact vN) | refine Av ?_ ?_ | refine nz (by k_dflt assumption) ?_ ?_ | refine vt ?_ | refine yP ?_ | refine Dp ?_ ?_ ?_ | refine nv (by k_dflt assumption) ?_ (λ_ _ _ _=>?_) (λ_ _ _ _=>?_) (λ_ _ _ _=>?_) | refine yO (by k_dflt assumption) ?_ | refine yR ?_ ?_ | refine vq (by k_dflt assumption) ?_ ?_ ?_ | refine vA (by k_dflt assumption) ?_ ?_ ?_ | refine yQ ?_ ?_ ?_)))
local macro_rules | `(tactic| walk_at "dv")=>`(tactic| (intro _ _ _ _ _ _ _ _ _ _;refine vT rfl ?_;walk_at "dvr"))
local macro_rules | `(tactic| walk_at "dvl")=>`(tactic| (intro _ _ _ _ _ _ _ _ _ _ _;refine vT rfl ?_;walk_at "dvr"))
section
variable{P:Program}{w:World}{K:AA2}{mg:Str->Option Value}{base:Heap}
noncomputable def bf(p:Str×Int):D:=.tup [.str p.1,.int p.2]
def Hd(d:D):Prop:=∃(x:Str) (k:Int),d=.tup [.str x,.int k]
noncomputable def BS(hs:List (D×Int))(hd:D)(num:Int):Bool:=match hs.find? λp=>decide (p.1=hd) with
 | some p=>decide (num<p.2)
 | none=>false
noncomputable def plD:Nat->D->Bool
 | n+1,.tup xs=>xs.all (plD n)
 | 0,.tup _=>false
 | _,.ref _=>false
 | _,.ty _=>false
 | _,_=>true
def Pln(n:Nat)(d:D):Prop:=plD n d=true
def sN(n:Nat)(ds:List D):Prop:=ds.all (plD n)=true
theorem Pln.non:Pln n .non:=by cases n<;>rfl
theorem Pln.bl(b:Bool):Pln n (.bl b):=by cases n<;>rfl
theorem Pln.int(i:Int):Pln n (.int i):=by cases n<;>rfl
theorem Pln.str(x:Str):Pln n (.str x):=by cases n<;>rfl
theorem sN.nil:sN n []:=rfl
theorem sN.cons(h:Pln n d)(t:sN n ds):sN n (d::ds):=by
 unfold sN Pln at *
 rw[ABT,h,t];rfl
theorem Pln.tup(h:sN n ds):Pln (n+1) (.tup ds):=h
theorem sN.of(h:∀d∈ds,Pln n d):sN n ds:=AAb.mpr h
theorem bo:∀(n:Nat) (d:D),Pln n d->Bel k d:=by
 intro n
 induction n with
 | zero =>
  intro d h
  cases d with
  | tup xs=>cases h
  | ref i=>cases h
  | ty t=>cases h
  | non=>exact .non
  | bl b=>exact .bl b
  | int i=>exact .int i
  | str x=>exact .str x
 | succ n ih =>
  intro d h
  cases d with
  | tup xs=>exact .tup (Bels.of λx hx=>ih x (AAb.mp h x hx))
  | ref i=>cases h
  | ty t=>cases h
  | non=>exact .non
  | bl b=>exact .bl b
  | int i=>exact .int i
  | str x=>exact .str x
theorem rh:∀{xs:List D},(∀x∈xs,f x x=true)->eqL f xs xs=true
 | [],_=>rfl
 | x::xs,h=>by
  show (f x x&&eqL f xs xs)=true
  rw[h x (by simp),rh λy hy=>h y (AA9 _ hy)];rfl
theorem yJ:∀(n m:Nat) (d:D),n<=m->Pln n d->okD M m d=true/\eqD M m d d=true:=by
 intro n
 induction n with
 | zero =>
  intro m d _ h
  cases d with
  | tup xs=>cases h
  | ref i=>cases h
  | ty t=>cases h
  | non=>exact⟨uJ,by cases m<;>rfl⟩
  | bl b=>exact⟨yK,by cases m<;>cases b<;>rfl⟩
  | int i=>exact⟨uK,by rw[pJ];exact beq_self_eq_true i⟩
  | str x=>exact⟨ad,by rw[dj];exact beq_self_eq_true x⟩
 | succ n ih =>
  intro m d hm h
  cases m with
  | zero=>lia
  | succ m =>
   cases d with
   | tup xs=>exact⟨Ac λx hx=>(ih m x (by lia) (AAb.mp h x hx)).1,rh λx hx=>(ih m x (by lia) (AAb.mp h x hx)).2⟩
   | ref i=>cases h
   | ty t=>cases h
   | non=>exact⟨uJ,rfl⟩
   | bl b=>exact⟨yK,by cases b<;>rfl⟩
   | int i=>exact⟨uK,by rw[pJ];exact beq_self_eq_true i⟩
   | str x=>exact⟨ad,by rw[dj];exact beq_self_eq_true x⟩
theorem AS(h:Hd d):Pln (n+1) d:=by
 obtain⟨x,i,rfl⟩:=h
 exact .tup (.cons (.str _) (.cons (.int _) .nil))
theorem vR(h:Hd d):Bel k d:=bo 1 d (AS h)
noncomputable def bh:D->D
 | .tup (_::h::_)=>h
 | _=>.non
noncomputable def numD:D->Int
 | .tup (_::_::.int n::_)=>n
 | _=>0
noncomputable def many(log:List D)(hd:D):Nat:=(log.filter λd=>decide (bh d=hd)).length
theorem ic:dY (gG kvs k d) k=some d:=by
 unfold gG
 split
 ·rename_i hs
  unfold dY at hs ⊢
  rw[ADQ]at hs
  obtain⟨q,hq⟩:=AD0.mp hs
  rw[List.find?_map]
  have e:((λp:D×D=>decide (p.1=k)) ∘ λp:D×D=>if p.1=k then(p.1,d)else p)=λp=>decide (p.1=k):=by
   funext p
   show decide ((if p.1=k then(p.1,d)else p).1=k)=decide (p.1=k)
   split<;>rfl
  rw[e,hq]
  have hk:q.1=k:=by
   have:=ADn hq
   exact oT_ this
  show some (if q.1=k then(q.1,d)else q).2=_
  rw[if_pos hk]
 ·rename_i hs
  unfold dY at hs ⊢
  rw[ADQ,Option.not_isSome_iff_eq_none]at hs
  rw[List.find?_append,hs]
  simp
theorem fA(h:j≠k):dY (gG kvs k d) j=dY kvs j:=by
 unfold gG
 split
 ·unfold dY
  rw[List.find?_map]
  have e:((λp:D×D=>decide (p.1=j)) ∘ λp:D×D=>if p.1=k then(p.1,d)else p)=λp=>decide (p.1=j):=by
   funext p
   show decide ((if p.1=k then(p.1,d)else p).1=j)=decide (p.1=j)
   split<;>rfl
  rw[e]
  cases hf:kvs.find? λp=>decide (p.1=j) with
  | none=>rfl
  | some q =>
   have hq:q.1=j:=by
    have:=ADn hf
    exact oT_ this
   show some (if q.1=k then(q.1,d)else q).2=some q.2
   rw[if_neg (by rw[hq];exact h)]
 ·unfold dY
  rw[List.find?_append]
  cases hf:kvs.find? λp=>decide (p.1=j) with
  | none=>simp[AAr h]
  | some q=>rfl
theorem fW:∀{kvs:List (D×D)}{p:D×D},(kvs.map (·.1)).Nodup->p∈kvs->dY kvs p.1=some p.2
 | q::kvs,p,nd,h=>by
  rw[AAQ,AAf]at nd
  unfold dY
  rw[ABS]
  rcases AAG.mp h with rfl | h
  ·rw[dT_ rfl];rfl
  ·have:q.1≠p.1:=λz=>nd.1 (by rw[z];exact AAt h)
   rw[dF_ this]
   exact fW nd.2 h
theorem jl(h:dY kvs k=some d):(k,d)∈kvs:=by
 unfold dY at h
 obtain⟨q,hq,rfl⟩:=ABH.mp h
 have e:q.1=k:=by
  have:=ADn hq
  exact oT_ this
 rw[<-e]
 exact List.mem_of_find?_eq_some hq
theorem db{α:Type}{P:List α->Prop}(h0:P [])(h1:∀l x,P l->P (l++[x]))(l:List α):P l:=by
 rw[<-List.reverse_reverse l]
 induction l.reverse with
 | nil=>exact h0
 | cons x xs ih=>rw[List.reverse_cons];exact h1 _ _ ih
theorem xE(hL:aq M n xs)(ok:∀x∈xs,okD (M++[MO.lst []]) 29 x=true):(okD (M++[MO.lst []]) eqN (.ref n)=true/\okD (M++[MO.lst []]) eqN (.ref M.length)=true)/\eqD (M++[MO.lst []]) eqN (.ref n) (.ref M.length)=xs.isEmpty:=by
 have h1:aq (M++[MO.lst []]) n xs:=hL.more _
 have h2:aq (M++[MO.lst []]) M.length []:=am
 refine⟨⟨fV (n:=29) h1 ok,fV (n:=29) h2 λ_ z=>nomatch z⟩,?_⟩
 exact(kZ (n:=29) h1 h2).trans pI
theorem bE{M:Mem}{m n:Nat}{x y:MO}(h:m≠n)(l:M[m]?=some y):(M.set n x)[m]?=some y:=by rw[ABf (AAr h)];exact l
theorem fv{M:Mem}{m:Nat}{y:MO}(l:M[m]?=some y):m<M.length:=(AA7.mp l).1
theorem uM(l:aq M m xs):m<M.length:=by
 rcases l with l | l | l<;>exact fv l
theorem ap{B:Mem}{q:Nat}{x a:MO}(h:B[q]?=some x):(B++[a])[q]?=some x:=by
 rw[AAL (AA7.mp h).1];exact h
theorem cO{B:Mem}{q:Nat}{x a:MO}(h:B[q]?=some x):(B.set q a)[q]?=some a:=ABQ (AA7.mp h).1
theorem bz(p:M <+: B)(l:aq M q xs):aq B q xs:=by
 obtain⟨L,rfl⟩:=p
 exact l.more L
theorem fX{M B:Mem}{q:Nat}{x:MO}(p:M <+: B)(l:M[q]?=some x):B[q]?=some x:=by
 obtain⟨L,rfl⟩:=p
 rw[AAL (fv l)];exact l
theorem gv{a b:Int}(h:0<b):0<=a % b:=AAn _ (by lia)
theorem kb{a b:Int}(h:0<b):a % b<b:=AAg _ h
theorem fG{α:Type}{xs:List α}{i:Int}(h:1<=xs.length):∃x∈xs,atI xs (i % (xs.length:Int))=some x:=by
 obtain⟨j,hj,ej,_⟩:=zb (xs:=xs) (gv (a:=i) (b:=xs.length) (by lia)) (kb (by lia))
 exact⟨xs[j],ABh hj,ej⟩
theorem dE(p:M <+: B)(h:M.length<=q):M <+: B.set q x:=by
 obtain⟨L,rfl⟩:=p
 rw[AC4 _ _ h]
 exact AAT _ _
noncomputable def cN(p:Str×Int):List D:=(gm 0 p.2.toNat).map λk=>.tup [.str p.1,k]
noncomputable def aw(ps:List (Str×Int)):List D:=ps.flatMap cN
def Few(ps:List (Str×Int)):Prop:=ps.length<=4/\∀p∈ps,0<=p.2/\p.2<=3
theorem eO:(cN p).length=p.2.toNat:=by simp[cN,gm]
theorem kh(h:∀p∈ps,0<=p.2/\p.2<=3):(aw ps).length<=3*ps.length:=by
 induction ps with
 | nil=>simp[aw]
 | cons p ps ih =>
  have:=ih λq hq=>h q (AA9 _ hq)
  have h1:=h p AAE
  have e:(aw (p::ps)).length=p.2.toNat+(aw ps).length:=by
   rw[aw,List.flatMap_cons,AAH,eO];rfl
  rw[e,AAO]
  lia
theorem qZ:∀d∈aw ps,Hd d:=λd hd=>by
 unfold aw at hd
 obtain⟨p,_,hp⟩:=List.mem_flatMap.mp hd
 unfold cN gm at hp
 simp only[AAS,List.mem_map]at hp
 obtain⟨i,_,rfl⟩:=hp
 exact⟨_,_,rfl⟩
theorem sG:Bels k (aw ps):=Bels.of λd hd=>vR (qZ d hd)
noncomputable def ba(p:Str×List Str):D:=.tup [.str p.1,.tup (p.2.map .str)]
noncomputable def bL(ps:List (Str×Int))(rs:List (Str×List Str)):D:=.tup [.tup (ps.map bf),.tup (rs.map ba)]
def St(d:D):Prop:=∃(t:Int) (z:Str) (k:Int),d=.tup [.int t,.tup [.str z,.int k]]
theorem St.ok(h:St d):okD M eqN d=true:=by obtain⟨t,z,k,rfl⟩:=h;rfl
theorem St.pl(h:St d):Pln (n+2) d:=by
 obtain⟨t,z,k,rfl⟩:=h
 exact .tup (.cons (.int _) (.cons (.tup (.cons (.str _) (.cons (.int _) .nil))) .nil))
theorem St.tup(h:St d):∃ks,d=.tup ks:=by obtain⟨t,z,k,rfl⟩:=h;exact⟨_,rfl⟩
noncomputable def stD:D->D
 | .tup (t::h::_)=>.tup [t,h]
 | _=>.non
theorem St.cm(ha:St a)(hb:St b):cC M eqN a b=true:=by
 obtain⟨t,z,k,rfl⟩:=ha
 obtain⟨t',z',k',rfl⟩:=hb
 show (if eqD M 29 (.int t) (.int t')=true then(if eqD M 29 (.tup [.str z,.int k]) (.tup [.str z',.int k'])=true then true else(if eqD M 28 (.str z) (.str z')=true then(if eqD M 28 (.int k) (.int k')=true then true else true)else true))else true)=true
 repeat' split
 all_goals rfl
theorem zk(h:∀x∈xs,St x)(l:xs.length<64):SrtOk M xs:=by
 refine⟨l,λx hx=>?_,λx hx y hy=>(h x hx).cm (h y hy),.inr (.inr (.inr (.inl λx hx=>?_)))⟩
 ·obtain⟨t,z,k,rfl⟩:=h x hx;rfl
 ·obtain⟨t,z,k,rfl⟩:=h x hx;exact⟨_,_,rfl⟩
theorem cU{l l':List D}(nd:l.Nodup)(h:∀x∈l,x∈l'):l.length<=l'.length:=by
 induction l generalizing l' with
 | nil=>exact AAX _
 | cons x l ih =>
  obtain⟨n1,n2⟩:=AAf.mp nd
  obtain⟨s,t,rfl⟩:=List.append_of_mem (h x (by simp))
  have:=ih (l':=s++t) n2 λy hy=>by
   have:=h y (AA9 _ hy)
   rcases AB6.mp this with q | q
   ·exact AAi _ q
   ·rcases AAG.mp q with rfl | q
    ·exact absurd hy n1
    ·exact AAI _ q
  rw[AAH]at this
  rw[AAH,AAO,AAO]
  lia
theorem xi{α:Type}{lt:α->α->Prop}:∀{xs ys:List α},(∀a∈xs,∀b∈xs,lt a b->¬lt b a)->xs.Pairwise lt->ys.Pairwise lt->(∀x,x∈ys↔x∈xs)->xs=ys
 | [],[],_,_,_,_=>rfl
 | [],y::ys,_,_,_,h=>absurd ((h y).mp AAE) (by simp)
 | x::xs,[],_,_,_,h=>absurd ((h x).mpr AAE) (by simp)
 | x::xs,y::ys,as,hx,hy,h=>by
  rw[ADF]at hx hy
  have e:x=y:=by
   rcases AAG.mp ((h x).mpr AAE)with e | m1
   ·exact e
   ·rcases AAG.mp ((h y).mp AAE)with e | m2
    ·exact e.symm
    ·exact absurd (hx.1 y m2) (as _ (AA9 _ m2) _ AAE (hy.1 x m1))
  subst e
  rw[xi (λa ha b hb=>as a (AA9 _ ha) b (AA9 _ hb)) hx.2 hy.2 λz=>⟨λm=>by
   rcases AAG.mp ((h z).mp (AA9 _ m))with e | m'
   ·subst e;exact absurd (hy.1 z m) (λq=>as z AAE z AAE q q)
   ·exact m',λm=>by
   rcases AAG.mp ((h z).mpr (AA9 _ m))with e | m'
   ·subst e;exact absurd (hx.1 z m) (λq=>as z AAE z AAE q q)
   ·exact m'⟩]
structure Vec(hs:List D)(f:D->Int)(u:List D):Prop where
 is:∀x∈u,∃h∈hs,x=.tup [h,.int (f h)]/\1<=f h
 all:∀h,1<=f h->D.tup [h,.int (f h)]∈u
 up:u.Pairwise λa b=>enc eqN a<enc eqN b
 pos:∀h,0<=f h
theorem Vec.uni(a:Vec hs f u)(b:Vec hs f u'):u=u':=by
 refine xi (lt:=λa b=>enc eqN a<enc eqN b) (λa _ b _ h h'=>AB1 _ (AD9 h h')) a.up b.up λx=>⟨λq=>?_,λq=>?_⟩
 ·obtain⟨h,_,rfl,p⟩:=b.is x q;exact a.all h p
 ·obtain⟨h,_,rfl,p⟩:=a.is x q;exact b.all h p
theorem Vec.fn(a:Vec hs f u)(b:Vec hs g u):f=g:=by
 funext h
 have key:∀{f g:D->Int},Vec hs f u->Vec hs g u->1<=f h->f h=g h:=λa b p=>by
  obtain⟨h',_,e,_⟩:=b.is _ (a.all h p)
  injection e with e
  injection e with e1 e
  injection e with e2
  injection e2 with e2
  subst e1
  exact e2
 have p:=a.pos h
 have q:=b.pos h
 by_cases z:1<=f h
 ·exact key a b z
 ·by_cases z':1<=g h
  ·exact(key b a z').symm
  ·lia
theorem vP(q:Hd h):okP 29 h=true/\okP eqN h=true:=by obtain⟨x,k,rfl⟩:=q;exact⟨rfl,rfl⟩
theorem vQ(ha:Hd a)(hb:Hd b):cC M (n+1) a b=true:=by
 obtain⟨x,k,rfl⟩:=ha
 obtain⟨y,l,rfl⟩:=hb
 show (if eqD M n (.str x) (.str y)=true then(if eqD M n (.int k) (.int l)=true then true else cC M n (.int k) (.int l))else cC M n (.str x) (.str y))=true
 split
 ·split
  ·rfl
  ·cases n<;>rfl
 ·cases n<;>rfl
theorem oK(ha:Hd a)(hb:Hd b)(h:enc eqN a<enc eqN b):enc eqN (.tup [a,.int i])<enc eqN (.tup [b,.int j]):=by
 have q:enc 29 a=enc eqN a/\enc 29 b=enc eqN b:=by
  obtain⟨x,k,rfl⟩:=ha
  obtain⟨y,l,rfl⟩:=hb
  exact⟨rfl,rfl⟩
 rcases wW [] 29 a b (vP ha).1 (vP hb).1 (vQ ha hb)with⟨e,_⟩|⟨_,_,_,z⟩|⟨_,_,_,z⟩
 ·rw[e]at h;exact absurd h (AB1 _)
 ·show 2::1::(enc 29 a++yV (enc 29) [.int i])<2::1::(enc 29 b++yV (enc 29) [.int j])
  exact AAV.mpr (.inr ⟨rfl,AAV.mpr (.inr ⟨rfl,z _ _⟩)⟩)
 ·rw[q.1,q.2]at z;exact absurd (AD9 h z.lt) (AB1 _)
structure KvF(hs:List D)(f:D->Int)(kvs:List (D×D)):Prop where
 nd:(kvs.map (·.1)).Nodup
 is:∀p∈kvs,p.1∈hs/\p.2=.int (f p.1)/\1<=f p.1
 all:∀h,1<=f h->h∈kvs.map (·.1)
 pos:∀h,0<=f h
theorem KvF.nil:KvF hs (λ_=>0) []:=⟨.nil,(λ_ z=>nomatch z),λ_ z=>absurd z (by decide),λ_=>Int.le_refl _⟩
theorem KvF.get(k:KvF hs f kvs)(h:D):dY kvs h=if 1<=f h then some (.int (f h))else none:=by
 split
 ·rename_i q
  obtain⟨p,hp,rfl⟩:=AAB.mp (k.all h q)
  rw[fW k.nd hp,(k.is p hp).2.1]
 ·rename_i q
  cases e:dY kvs h with
  | none=>rfl
  | some d=>exact absurd (k.is _ (jl e)).2.2 q
theorem KvF.got(k:KvF hs f kvs)(h:D):(dY kvs h).getD (.int 0)=.int (f h):=by
 rw[k.get]
 split
 ·rfl
 ·have:=k.pos h
  show D.int 0=.int (f h)
  rw[show f h=0 by lia]
theorem KvF.len(k:KvF hs f kvs):kvs.length<=hs.length:=by
 have:=cU k.nd (l':=hs) λx hx=>by
  obtain⟨p,hp,rfl⟩:=AAB.mp hx
  exact(k.is p hp).1
 rw[AA4]at this
 exact this
theorem KvF.put(k:KvF hs f kvs)(hh:h∈hs)(hc:1<=c)(e1:g h=c)(e2:∀x,x≠h->g x=f x):KvF hs g (gG kvs h (.int c)):=by
 have gt:∀x d,(x,d)∈gG kvs h (.int c)->(x=h/\d=.int c)\/((x,d)∈kvs/\x≠h):=λx d q=>by
  have nd:=fO (y:=h) (v:=.int c) k.nd
  have e:=fW nd q
  by_cases z:x=h
  ·subst z
   rw[ic]at e
   exact .inl ⟨rfl,(AAM e).symm⟩
  ·rw[fA z]at e
   exact .inr ⟨jl e,z⟩
 refine⟨fO k.nd,λp hp=>?_,λx hx=>?_,λx=>?_⟩
 ·rcases gt p.1 p.2 hp with⟨q1,q2⟩|⟨q1,q2⟩
  ·rw[q1,q2,e1];exact⟨hh,rfl,hc⟩
  ·rw[e2 _ q2];exact k.is p q1
 ·have:dY (gG kvs h (.int c)) x≠none:=by
   by_cases z:x=h
   ·subst z;rw[ic];exact λq=>nomatch q
   ·rw[e2 x z]at hx
    rw[fA z,k.get,if_pos hx];exact λq=>nomatch q
  cases e:dY (gG kvs h (.int c)) x with
  | none=>exact absurd e this
  | some d=>exact AAt (f:=(·.1)) (jl e)
 ·by_cases z:x=h
  ·subst z;lia
  ·rw[e2 x z];exact k.pos x
theorem KvF.vec{hs ys:List D}{f:D->Int}{kvs:List (D×D)}(k:KvF hs f kvs)(hh:∀h∈hs,Hd h)(p:ys.Perm (kvs.map (·.1)))(up:ys.Pairwise λa b=>enc eqN a<enc eqN b):Vec hs f (ys.map λh=>.tup [h,.int (f h)]):=by
 have my:∀y∈ys,y∈hs/\1<=f y:=λy hy=>by
  obtain⟨q,hq,rfl⟩:=AAB.mp (p.mem_iff.mp hy)
  exact⟨(k.is q hq).1,(k.is q hq).2.2⟩
 refine⟨λx hx=>?_,λh q=>AAt (f:=λh=>D.tup [h,.int (f h)]) (p.mem_iff.mpr (k.all h q)),?_,k.pos⟩
 ·obtain⟨y,hy,rfl⟩:=AAB.mp hx
  exact⟨y,(my y hy).1,rfl,(my y hy).2⟩
 ·rw[AAd]
  exact(ABB.mp up).imp λ{a b} ⟨ha,hb,q⟩=>oK (hh a (my a ha).1) (hh b (my b hb).1) q
theorem AR(h:∀x∈xs,Hd x)(l:xs.length<64):SrtOk M xs :=
 ⟨l,λx hx=>(vP (h x hx)).2,λx hx y hy=>vQ (h x hx) (h y hy),.inr (.inr (.inl λx hx=>by obtain⟨z,k,rfl⟩:=h x hx;exact⟨_,_,rfl⟩))⟩
theorem gY(so:SrtOk M ys)(nd:ys.Nodup)(h:lK M ys):ys.Pairwise λa b=>enc eqN a<enc eqN b:=by
 refine(ABB.mp (List.Pairwise.and h nd)).imp λ{a b} ⟨ha,hb,q,ne⟩=>?_
 rcases wW M eqN a b (so.ok a ha) (so.ok b hb) (so.cm a ha b hb)with⟨z,_⟩|⟨_,_,_,z⟩|⟨_,_,z,_⟩
 ·exact absurd z ne
 ·exact z.lt
 ·rw[z]at q;cases q
theorem gU(so:SrtOk M xs)(p:ys.Perm xs):SrtOk M ys :=
 ⟨by rw[p.length_eq];exact so.len,λx hx=>so.ok x (p.mem_iff.mp hx),λx hx y hy=>so.cm x (p.mem_iff.mp hx) y (p.mem_iff.mp hy),
  so.kd.imp (λh x hx=>h x (p.mem_iff.mp hx)) (Or.imp (λh x hx=>h x (p.mem_iff.mp hx)) (Or.imp (λh x hx=>h x (p.mem_iff.mp hx)) (Or.imp (λh x hx=>h x (p.mem_iff.mp hx)) λh x hx=>h x (p.mem_iff.mp hx))))⟩
theorem KvF.items(k:KvF hs f kvs)(so:SrtOk M (cT kvs))(p:ys.Perm (cT kvs))(r:lK M ys):Vec hs f ys:=by
 have pd:(cT kvs).Nodup:=by
  unfold cT List.Nodup
  rw[AAd]
  exact(AAd.mp k.nd).imp λ{a b} ne e=>ne (by injection e with e;injection e)
 refine⟨λx hx=>?_,λh q=>p.mem_iff.mpr ?_,gY (gU so p) (p.nodup_iff.mpr pd) r,k.pos⟩
 ·obtain⟨q,hq,rfl⟩:=AAB.mp (p.mem_iff.mp hx)
  obtain⟨h1,h2,h3⟩:=k.is q hq
  exact⟨q.1,h1,by rw[h2],h3⟩
 ·obtain⟨q',hq,e⟩:=AAB.mp (k.all h q)
  subst e
  exact AAB.mpr ⟨q',hq,by rw[(k.is q' hq).2.1]⟩
theorem KvF.srt(k:KvF hs f kvs)(hh:∀h∈hs,Hd h)(l:hs.length<64):SrtOk M (cT kvs)/\SrtOk M (kvs.map (·.1)):=by
 have kl:=k.len
 have hk:∀p∈kvs,Hd p.1:=λp hp=>hh _ (k.is p hp).1
 refine⟨⟨by unfold cT;rw[AA4];lia,λx hx=>?_,λx hx y hy=>?_,.inr (.inr (.inr (.inr λx hx=>?_)))⟩,AR (λx hx=>?_) (by rw[AA4];lia)⟩
 ·obtain⟨p,hp,rfl⟩:=AAB.mp hx
  obtain⟨z,n,e⟩:=hk p hp
  rw[e,(k.is p hp).2.1];rfl
 ·obtain⟨p,hp,rfl⟩:=AAB.mp hx
  obtain⟨q,hq,rfl⟩:=AAB.mp hy
  rw[(k.is p hp).2.1,(k.is q hq).2.1]
  show (if eqD M 29 p.1 q.1=true then(if eqD M 29 (.int (f p.1)) (.int (f q.1))=true then true else true)else cC M 29 p.1 q.1)=true
  split
  ·split<;>rfl
  ·exact vQ (hk p hp) (hk q hq)
 ·obtain⟨p,hp,rfl⟩:=AAB.mp hx
  obtain⟨z,n,e⟩:=hk p hp
  rw[e];exact⟨_,_,rfl⟩
 ·obtain⟨p,hp,rfl⟩:=AAB.mp hx
  exact hk p hp
noncomputable def isS(x:Str):Bool:=x==AA1 "change" || x==AA1 "like" || x==AA1 "hush"
def wE(d:D):Prop:=(∃x r:Str,d=.tup [.str x,.str r]/\x≠AA1 "under")\/∃m,d=.tup [.str (AA1 "under"),m]/\St m
inductive PlaceP:Str->D->Prop
 | say {m:D} (h:St m):PlaceP (AA1 "say") m
 | like {m:D}{z s:Str} (h:St m):PlaceP (AA1 "like") (.tup [m,.str z,.str s])
 | hush {z:Str}{w:D} (h:wE w):PlaceP (AA1 "hush") (.tup [.str z,w])
 | read {z r:Str}:PlaceP (AA1 "read") (.tup [.str z,.str r])
 | more {x z:Str}{m:D} (n:x≠AA1 "say"/\x≠AA1 "like"/\x≠AA1 "hush"/\x≠AA1 "read") (h:St m):PlaceP x (.tup [m,.str z])
theorem k_ne:AA1 "say"≠AA1 "like"/\AA1 "say"≠AA1 "hush"/\AA1 "say"≠AA1 "read"/\AA1 "like"≠AA1 "hush"/\AA1 "like"≠AA1 "read"/\AA1 "hush"≠AA1 "read":=by decide +kernel
theorem qF(ha:St a)(hb:St b):cC M (n+3) a b=true:=by
 obtain⟨t,z,k,rfl⟩:=ha
 obtain⟨t',z',k',rfl⟩:=hb
 show (if eqD M (n+2) (.int t) (.int t')=true then(if eqD M (n+2) (.tup [.str z,.int k]) (.tup [.str z',.int k'])=true then true else cC M (n+2) (.tup [.str z,.int k]) (.tup [.str z',.int k']))else true)=true
 split
 ·split
  ·rfl
  ·exact vQ ⟨_,_,rfl⟩ ⟨_,_,rfl⟩
 ·rfl
theorem dA:cC M n (.str x) (.str y)=true:=by cases n<;>rfl
theorem aY(h:cC M n x y=true)(t:eqD M n x y=true->cC M (n+1) (.tup xs) (.tup ys)=true):cC M (n+1) (.tup (x::xs)) (.tup (y::ys))=true:=by
 show (if eqD M n x y=true then rB (eqD M n) (cC M n) xs ys else cC M n x y)=true
 split
 ·rename_i q;exact t q
 ·exact h
theorem zg(ha:wE a)(hb:wE b):cC M (n+4) a b=true:=by
 rcases ha with⟨x,r,rfl,n1⟩|⟨m,rfl,h1⟩
 ·rcases hb with⟨y,s,rfl,n2⟩|⟨m',rfl,h2⟩
  ·exact aY dA λ_=>aY dA λ_=>rfl
  ·exact aY dA λq=>by rw[dj]at q;exact absurd (eq_of_beq q) n1
 ·rcases hb with⟨y,s,rfl,n2⟩|⟨m',rfl,h2⟩
  ·exact aY dA λq=>by rw[dj]at q;exact absurd (eq_of_beq q).symm n2
  ·exact aY dA λ_=>aY (qF h1 h2) λ_=>rfl
theorem PlaceP.cm(ha:PlaceP x a)(hb:PlaceP y b):cC M eqN (.tup [.str x,a]) (.tup [.str y,b])=true:=by
 refine aY (n:=29) dA λq=>?_
 rw[dj]at q
 have q:=eq_of_beq q
 have fin:cC M 29 a b=true->cC M 30 (.tup [a]) (.tup [b])=true:=λh=>aY h λ_=>rfl
 obtain⟨n1,n2,n3,n4,n5,n6⟩:=k_ne
 refine fin ?_
 cases ha with
 | say h=>cases hb with
  | say h'=>exact qF h h'
  | like _=>exact absurd q n1
  | hush _=>exact absurd q n2
  | read=>exact absurd q n3
  | more n _=>exact absurd q.symm n.1
 | like h=>cases hb with
  | say h'=>exact absurd q.symm n1
  | like h'=>exact aY (qF h h') λ_=>aY dA λ_=>aY dA λ_=>rfl
  | hush _=>exact absurd q n4
  | read=>exact absurd q n5
  | more n _=>exact absurd q.symm n.2.1
 | hush h=>cases hb with
  | say h'=>exact absurd q.symm n2
  | like h'=>exact absurd q.symm n4
  | hush h'=>exact aY dA λ_=>aY (zg h h') λ_=>rfl
  | read=>exact absurd q n6
  | more n _=>exact absurd q.symm n.2.2.1
 | read=>cases hb with
  | say h'=>exact absurd q.symm n3
  | like h'=>exact absurd q.symm n5
  | hush h'=>exact absurd q.symm n6
  | read=>exact aY dA λ_=>aY dA λ_=>rfl
  | more n _=>exact absurd q.symm n.2.2.2
 | more n h=>cases hb with
  | say h'=>exact absurd q n.1
  | like h'=>exact absurd q n.2.1
  | hush h'=>exact absurd q n.2.2.1
  | read=>exact absurd q n.2.2.2
  | more _ h'=>exact aY (qF h h') λ_=>aY dA λ_=>rfl
theorem PlaceP.ok(h:PlaceP x a):okP eqN (.tup [.str x,a])=true/\hV 8 (.tup [.str x,a])=true/\Pln 4 a:=by
 cases h with
 | say h=>obtain⟨t,z,k,rfl⟩:=h;exact⟨rfl,rfl,rfl⟩
 | like h=>obtain⟨t,z,k,rfl⟩:=h;exact⟨rfl,rfl,rfl⟩
 | hush h =>
  rcases h with⟨y,r,rfl,_⟩|⟨m,rfl,t,z,k,rfl⟩
  ·exact⟨rfl,rfl,rfl⟩
  ·exact⟨rfl,rfl,rfl⟩
 | read=>exact⟨rfl,rfl,rfl⟩
 | more _ h=>obtain⟨t,z,k,rfl⟩:=h;exact⟨rfl,rfl,rfl⟩
noncomputable def fP:D->D
 | .tup (a::b::_)=>.tup [a,b]
 | _=>.non
structure EntP(hs:List D)(e:D):Prop where
 ex:∃(x:Str) (p s v:D),e=.tup [.str x,p,s,v]/\PlaceP x p/\(isS x=false->s=.non)/\(isS x=true->St s)/\(x=AA1 "read"->∃f u,v=.tup u/\Vec hs f u)/\Pln 3 v
noncomputable def pE(hs:List D)(a b:D):D:=Classical.epsilon λd=>∃f g u v w,a=.tup u/\b=.tup v/\Vec hs f u/\Vec hs g v/\Vec hs (λh=>max (f h) (g h)) w/\d=.tup w
theorem hZ{hs u v w:List D}{f g:D->Int}(h1:Vec hs f u)(h2:Vec hs g v)(h3:Vec hs (λh=>max (f h) (g h)) w):pE hs (.tup u) (.tup v)=.tup w:=by
 have:=Classical.epsilon_spec (p:=λd:D=>∃f g u' v' w,D.tup u=.tup u'/\D.tup v=.tup v'/\Vec hs f u'/\Vec hs g v'/\Vec hs (λh=>max (f h) (g h)) w/\d=.tup w) ⟨.tup w,f,g,u,v,w,rfl,rfl,h1,h2,h3,rfl⟩
 obtain⟨f',g',u',v',w',e1,e2,a1,a2,a3,e⟩:=this
 cases e1
 cases e2
 obtain rfl:=h1.fn a1
 obtain rfl:=h2.fn a2
 exact e.trans (by rw[h3.uni a3])
noncomputable def oh(hs:List D)(a b:D):D:=match a,b with
 | .tup [.str x,p,s,v],.tup [_,_,s',v']=>if x=AA1 "read" then .tup [.str x,p,s,pE hs v v']else if isS x=true/\enc eqN s<enc eqN s' then b else a
 | _,_=>a
noncomputable def kW(hs:List D)(m:D->Option D)(e:D):D->Option D:=λk=>if k=fP e then some (oh hs ((m k).getD e) e)else m k
noncomputable def aW(hs es:List D):D->Option D:=es.foldl (kW hs) λ_=>none
theorem cW:aW hs (es++[e])=kW hs (aW hs es) e:=by unfold aW;rw[List.foldl_append];rfl
structure TabOf(m:D->Option D)(T:List D):Prop where
 is:∀e∈T,m (fP e)=some e
 all:∀k e,m k=some e->e∈T
 up:T.Pairwise λa b=>enc eqN (fP a)<enc eqN (fP b)
theorem TabOf.uni(a:TabOf m T)(b:TabOf m T'):T=T' :=
 xi (lt:=λa b=>enc eqN (fP a)<enc eqN (fP b)) (λa _ b _ h h'=>AB1 _ (AD9 h h')) a.up b.up λx=>⟨λq=>a.all _ x (b.is x q),λq=>b.all _ x (a.is x q)⟩
inductive ActP(hs:List D):D->Prop
 | say {r s:Str}{u:D} (h:u=.non\/St u):ActP hs (.tup [.str (AA1 "say"),.str r,u,.str s])
 | read {r:Str}{f:D->Int}{u:List D} (h:Vec hs f u):ActP hs (.tup [.str (AA1 "read"),.str r,.tup u])
 | hush {w:D}{b:Bool} (h:wE w):ActP hs (.tup [.str (AA1 "hush"),w,.bl b])
 | change {m:D}{s:Str} (h:St m):ActP hs (.tup [.str (AA1 "change"),m,.str s])
 | like {m:D}{s:Str}{b:Bool} (h:St m):ActP hs (.tup [.str (AA1 "like"),m,.str s,.bl b])
 | more {x:Str}{m:D} (n:x=AA1 "back"\/x=AA1 "seen"\/x=AA1 "rung") (h:St m):ActP hs (.tup [.str x,m])
def dR(hs:List D)(d:D):Prop:=∃(t:Int) (z:Str) (k num:Int) (act:D),d=.tup [.int t,.tup [.str z,.int k],.int num,act]/\1<=t/\D.tup [.str z,.int k]∈hs/\ActP hs act
structure LogP(hs log:List D):Prop where
 dk:∀d∈log,dR hs d
 up:log.Pairwise λa b=>enc eqN (stD a)<enc eqN (stD b)
 len:log.length<=62
 nums:∀h,(log.filter λd=>decide (bh d=h)).map numD=(AAl (many log h)).map Int.ofNat
structure Hands(hs:List D):Prop where
 hd:∀h∈hs,Hd h
 len:1<=hs.length/\hs.length<=12
 up:hs.Pairwise λa b=>enc eqN a<enc eqN b
noncomputable def bv:D->D
 | .tup [t,.tup [z,k],n,.tup (.str x::ds)]=>if x=AA1 "say" then .tup [.str x,.tup [t,.tup [z,k]],.non,.tup (n::ds)]else match ds with
  | [m]=>.tup [.str x,.tup [m,z],.non,.non]
  | [m,v]=>if x=AA1 "change" then .tup [.str x,.tup [m,z],.tup [t,.tup [z,k]],v]else if x=AA1 "hush" then .tup [.str x,.tup [z,m],.tup [t,.tup [z,k]],v]else .tup [.str x,.tup [z,m],.non,v]
  | [m,s,v]=>.tup [.str x,.tup [m,z,s],.tup [t,.tup [z,k]],v]
  | _=>.non
 | _=>.non
noncomputable def keptD:D->D
 | .tup [x,p,s,v]=>.tup [.tup [x,p],s,v]
 | _=>.non
theorem rE:atI (p++[x]) (-1)=some x:=by
 have e:ixN (p++[x]).length (-1)=some p.length:=by
  unfold ixN
  rw[AAH,AAy]
  split
  ·lia
  ·split
   ·congr 1;lia
   ·lia
 unfold atI
 rw[e]
 simp
theorem Vec.wide(v:Vec hs f u)(h:∀x∈hs,x∈hs'):Vec hs' f u :=
 ⟨λx hx=>by obtain⟨y,hy,r⟩:=v.is x hx;exact⟨y,h y hy,r⟩,v.all,v.up,v.pos⟩
theorem Vec.snoc(v:Vec hs f u)(hh:∀h∈hs,Hd h)(hy:Hd y)(lt:∀h∈hs,enc eqN h<enc eqN y)(hc:1<=c):Vec (hs++[y]) (λh=>if h=y then c else f h) (u++[.tup [y,.int c]]):=by
 have ny:∀h∈hs,h≠y:=λh q z=>by have:=lt h q;rw[z]at this;exact AB1 _ this
 refine⟨λx hx=>?_,λh q=>?_,ADg.mpr ⟨v.up,ABu _ _,λa ha b hb=>?_⟩,λh=>?_⟩
 ·rcases AB6.mp hx with hx | hx
  ·obtain⟨h,q,rfl,p⟩:=v.is x hx
   exact⟨h,AAi _ q,by rw[if_neg (ny h q)],by rw[if_neg (ny h q)];exact p⟩
  ·rw[AB0.mp hx]
   exact⟨y,by simp,by rw[if_pos rfl],by rw[if_pos rfl];exact hc⟩
 ·by_cases z:h=y
  ·rw[if_pos z,z];simp
  ·rw[if_neg z]at q ⊢
   exact AAi _ (v.all h q)
 ·obtain⟨h,q,rfl,_⟩:=v.is a ha
  rw[AB0.mp hb]
  exact oK (hh h q) hy (lt h q)
 ·show 0<=(if h=y then c else f h)
  split
  ·lia
  ·exact v.pos h
theorem uy:∀{n:Nat}{d:D},Pln n d->Pln (n+1) d
 | 0,.tup _,h=>nomatch h
 | 0,.ref _,h=>nomatch h
 | 0,.ty _,h=>nomatch h
 | 0,.non,_=>rfl
 | 0,.bl _,_=>rfl
 | 0,.int _,_=>rfl
 | 0,.str _,_=>rfl
 | n+1,.tup xs,h=>sN.of λx hx=>uy (AAb.mp h x hx)
 | n+1,.ref _,h=>nomatch h
 | n+1,.ty _,h=>nomatch h
 | n+1,.non,_=>rfl
 | n+1,.bl _,_=>rfl
 | n+1,.int _,_=>rfl
 | n+1,.str _,_=>rfl
theorem eT(hh:∀h∈hs,Hd h)(v:Vec hs f u):Pln 3 (.tup u):=.tup (sN.of λx hx=>by
 obtain⟨h,q,rfl,_⟩:=v.is x hx
 exact .tup (.cons (AS (hh h q)) (.cons (.int _) .nil)))
theorem ActP.pl(hh:∀h∈hs,Hd h)(h:ActP hs a):Pln 5 a:=by
 cases h with
 | say h =>
  refine .tup (.cons (.str _) (.cons (.str _) (.cons ?_ (.cons (.str _) .nil))))
  rcases h with rfl | h
  ·exact .non
  ·exact h.pl
 | read h=>exact .tup (.cons (.str _) (.cons (.str _) (.cons (uy (eT hh h)) .nil)))
 | hush h =>
  refine .tup (.cons (.str _) (.cons ?_ (.cons (.bl _) .nil)))
  rcases h with⟨x,r,rfl,_⟩|⟨m,rfl,h⟩
  ·exact .tup (.cons (.str _) (.cons (.str _) .nil))
  ·exact .tup (.cons (.str _) (.cons h.pl .nil))
 | change h=>exact .tup (.cons (.str _) (.cons h.pl (.cons (.str _) .nil)))
 | like h=>exact .tup (.cons (.str _) (.cons h.pl (.cons (.str _) (.cons (.bl _) .nil))))
 | more _ h=>exact .tup (.cons (.str _) (.cons h.pl .nil))
theorem dR.pl(hh:∀h∈hs,Hd h)(h:dR hs d):Pln 6 d:=by
 obtain⟨t,z,k,num,act,rfl,_,_,ha⟩:=h
 exact .tup (.cons (.int _) (.cons (AS ⟨_,_,rfl⟩) (.cons (.int _) (.cons (ha.pl hh) .nil))))
theorem dR.st(h:dR hs d):St (stD d):=by obtain⟨t,z,k,num,act,rfl,_⟩:=h;exact⟨_,_,_,rfl⟩
theorem ActP.hd(h:ActP hs a):∃(x:Str) (ds:List D),a=.tup (.str x::ds):=by cases h<;>exact⟨_,_,rfl⟩
theorem dh:many (l++[d]) h=many l h+if bh d=h then 1 else 0:=by
 unfold many
 rw[ADG,AAH,List.filter_cons]
 by_cases e:bh d=h
 ·rw[dT_ e,if_pos e];rfl
 ·rw[dF_ e,if_neg e];rfl
theorem LogP.num(hl:LogP hs log)(h:log[i]?=some d):numD d=(many (log.take i) (bh d):Int):=by
 have hi:=(AA7.mp h).1
 have e:log=log.take i++d::log.drop (i+1):=by
  rw[<-(AA7.mp h).2,List.getElem_cons_drop,ACc]
 have n:=hl.nums (bh d)
 have n':=congrArg (λl=>l[many (log.take i) (bh d)]?) n
 have fe:(log.filter λx=>decide (bh x=bh d))=(log.take i).filter (λx=>decide (bh x=bh d))++d::(log.drop (i+1)).filter λx=>decide (bh x=bh d):=by
  conv=>lhs;rw[e]
  rw[ADG,List.filter_cons,dT_ rfl,if_pos rfl]
 have ml:((log.take i).filter λx=>decide (bh x=bh d)).length=many (log.take i) (bh d):=rfl
 rw[fe,AAN,AAY (by rw[ml];exact AAA _),ml,AD3]at n'
 rw[AAN]at n'
 have lt:many (log.take i) (bh d)<many log (bh d):=by
  have:=congrArg ACS fe
  rw[AAH,AAO,ml]at this
  show _<(log.filter _).length
  lia
 rw[ACw lt]at n'
 exact AAM n'
theorem LogP.take(hl:LogP hs log)(n:Nat):LogP hs (log.take n):=by
 refine⟨λd hd=>hl.dk d (ABG hd),hl.up.sublist (ACB _ _),by rw[ABM];have:=hl.len;lia,λh=>?_⟩
 have n1:=hl.nums h
 have pf:((log.take n).filter λd=>decide (bh d=h)) <+: log.filter λd=>decide (bh d=h):=by
  conv=>rhs;rw[<-ACc n log]
  rw[ADG]
  exact AAT _ _
 have e1:((log.take n).filter λd=>decide (bh d=h))=(log.filter λd=>decide (bh d=h)).take (many (log.take n) h):=(List.prefix_iff_eq_take.mp pf)
 have lm:many (log.take n) h<=many log h:=pf.length_le
 rw[e1,List.map_take,n1,<-List.map_take,List.take_range,Nat.min_eq_left lm]
theorem Ba:AA1 "change"≠AA1 "say"/\AA1 "like"≠AA1 "say"/\AA1 "hush"≠AA1 "say"/\AA1 "hush"≠AA1 "change"/\AA1 "read"≠AA1 "say"/\AA1 "read"≠AA1 "change"/\AA1 "read"≠AA1 "hush"/\AA1 "hush"≠AA1 "like"/\AA1 "read"≠AA1 "like"/\AA1 "like"≠AA1 "change":=by decide +kernel
theorem m_ne(h:x=AA1 "back"\/x=AA1 "seen"\/x=AA1 "rung"):x≠AA1 "say"/\x≠AA1 "change"/\x≠AA1 "like"/\x≠AA1 "hush"/\x≠AA1 "read"/\isS x=false:=by
 rcases h with rfl | rfl | rfl<;>decide +kernel
section
variable{t k n m u v b:D}{z x:Str}
theorem lc:bv (.tup [t,.tup [.str z,k],n,.tup [.str (AA1 "say"),a,b,c]])=.tup [.str (AA1 "say"),.tup [t,.tup [.str z,k]],.non,.tup [n,a,b,c]]:=rfl
theorem dZ:bv (.tup [t,.tup [.str z,k],n,.tup [.str (AA1 "change"),m,v]])=.tup [.str (AA1 "change"),.tup [m,.str z],.tup [t,.tup [.str z,k]],v]:=rfl
theorem ij:bv (.tup [t,.tup [.str z,k],n,.tup [.str (AA1 "hush"),m,v]])=.tup [.str (AA1 "hush"),.tup [.str z,m],.tup [t,.tup [.str z,k]],v]:=rfl
theorem ie:bv (.tup [t,.tup [.str z,k],n,.tup [.str (AA1 "read"),m,v]])=.tup [.str (AA1 "read"),.tup [.str z,m],.non,v]:=rfl
theorem ii:bv (.tup [t,.tup [.str z,k],n,.tup [.str (AA1 "like"),m,s,v]])=.tup [.str (AA1 "like"),.tup [m,.str z,s],.tup [t,.tup [.str z,k]],v]:=rfl
theorem ig(h:x≠AA1 "say"):bv (.tup [t,.tup [.str z,k],n,.tup [.str x,m]])=.tup [.str x,.tup [m,.str z],.non,.non]:=by
 show (if x=AA1 "say" then(_:D)else _)=_
 rw[if_neg h]
end
theorem AL:isS (AA1 "change")=true/\isS (AA1 "like")=true/\isS (AA1 "hush")=true/\isS (AA1 "say")=false/\isS (AA1 "read")=false:=by decide +kernel
theorem dR.ent(hh:∀h∈hs,Hd h)(h:dR hs d):EntP hs (bv d):=by
 obtain⟨t,z,k,num,act,rfl,_,_,ha⟩:=h
 obtain⟨i1,i2,i3,i4,i5⟩:=AL
 cases ha with
 | say h =>
  rw[lc]
  refine⟨_,_,_,_,rfl,.say ⟨_,_,_,rfl⟩,λ_=>rfl,λq=>(by rw[i4]at q;cases q),λq=>absurd q.symm Ba.2.2.2.2.1,.tup (.cons (.int _) (.cons (.str _) (.cons ?_ (.cons (.str _) .nil))))⟩
  rcases h with rfl | h
  ·exact .non
  ·exact h.pl
 | read h=>rw[ie];exact⟨_,_,_,_,rfl,.read,λ_=>rfl,λq=>(by rw[i5]at q;cases q),λ_=>⟨_,_,rfl,h⟩,eT hh h⟩
 | hush h=>rw[ij];exact⟨_,_,_,_,rfl,.hush h,λq=>(by rw[i3]at q;cases q),λ_=>⟨_,_,_,rfl⟩,λq=>absurd q.symm Ba.2.2.2.2.2.2.1,.bl _⟩
 | change h=>rw[dZ];exact⟨_,_,_,_,rfl,.more (by decide +kernel) h,λq=>(by rw[i1]at q;cases q),λ_=>⟨_,_,_,rfl⟩,λq=>absurd q.symm Ba.2.2.2.2.2.1,.str _⟩
 | like h=>rw[ii];exact⟨_,_,_,_,rfl,.like h,λq=>(by rw[i2]at q;cases q),λ_=>⟨_,_,_,rfl⟩,λq=>absurd q.symm Ba.2.2.2.2.2.2.2.2.1,.bl _⟩
 | more n h =>
  obtain⟨n1,n2,n3,n4,n5,n6⟩:=m_ne n
  rw[ig n1]
  exact⟨_,_,_,_,rfl,.more ⟨n1,n3,n4,n5⟩ h,λ_=>rfl,λq=>(by rw[n6]at q;cases q),λq=>absurd q n5,.non⟩
theorem bg{M:Mem}{x y:Str}{A B:Prop}(ne:x≠y)(h:B):if eqD M eqN (.str x) (.str y)=true then A else B:=by rw[dj,beq_eq_false_iff_ne.mpr ne];exact h
theorem ji{M:Mem}{x:Str}{A B:Prop}(h:A):if eqD M eqN (.str x) (.str x)=true then A else B:=by rw[dj,beq_self_eq_true];exact h
theorem ES:atI (a::b::c::d::l) 3=some d:=aA (j:=3) rfl
theorem xk(h:k∉kvs.map (·.1)):gG kvs k d=kvs++[(k,d)]:=by
 unfold gG
 rw[if_neg]
 intro z
 obtain⟨e,he⟩:=AD0.mp z
 exact h (AAt (f:=(·.1)) (jl he))
theorem Bo(h:(ps.map (·.1)).Nodup):dictOf ps=ps:=by
 revert h
 refine db (P:=λps=>(ps.map (·.1)).Nodup->dictOf ps=ps) (λ_=>rfl) (λl x ih h=>?_) ps
 rw[AAp]at h
 obtain⟨h1,_,h3⟩:=ACG.mp h
 rw[eP,ih h1,xk λz=>h3 _ z _ (by simp) rfl]
noncomputable def fstO:D->D
 | .tup (h::_)=>h
 | _=>.non
theorem Vec.list(v:Vec hs f u):∃us:List D,u=us.map (λh=>.tup [h,.int (f h)])/\(∀h∈us,h∈hs/\1<=f h)/\us.Nodup/\∀h,1<=f h->h∈us:=by
 refine⟨u.map fstO,?_,λh q=>?_,?_,λh q=>?_⟩
 ·rw[AAS]
  conv=>lhs;rw[<-ACY u]
  refine ABx λx hx=>?_
  obtain⟨h,_,rfl,_⟩:=v.is x hx
  rfl
 ·obtain⟨x,hx,rfl⟩:=AAB.mp q
  obtain⟨h,h1,rfl,h2⟩:=v.is x hx
  exact⟨h1,h2⟩
 ·unfold List.Nodup
  rw[AAd]
  refine(ABB.mp v.up).imp λ{a b} ⟨ha,hb,q⟩ e=>?_
  obtain⟨h,_,rfl,_⟩:=v.is a ha
  obtain⟨h',_,rfl,_⟩:=v.is b hb
  have e:h=h':=e
  subst e
  exact AB1 _ q
 ·exact AAB.mpr ⟨_,v.all h q,rfl⟩
theorem Vec.kvf{hs us:List D}{f:D->Int}(pos:∀h,0<=f h)(h1:∀h∈us,h∈hs/\1<=f h)(nd:us.Nodup)(all:∀h,1<=f h->h∈us):KvF hs f (dictOf (us.map λh=>(h,.int (f h)))):=by
 have e:(us.map λh=>(h,D.int (f h))).map (·.1)=us:=by rw[AAS];exact ACY _
 rw[Bo (by rw[e];exact nd)]
 refine⟨by rw[e];exact nd,λp hp=>?_,λh q=>by rw[e];exact all h q,pos⟩
 obtain⟨h,q,rfl⟩:=AAB.mp hp
 exact⟨(h1 h q).1,rfl,(h1 h q).2⟩
theorem Vec.ex(hh:Hands hs)(pos:∀h,0<=F h)(sub:∀h,1<=F h->h∈hs):∃w,Vec hs F w:=by
 refine⟨(hs.filter λh=>decide (1<=F h)).map λh=>.tup [h,.int (F h)],λx hx=>?_,λh q=>AAt (f:=λh=>D.tup [h,.int (F h)]) (ABd.mpr ⟨sub h q,dT_ q⟩),?_,pos⟩
 ·obtain⟨y,hy,rfl⟩:=AAB.mp hx
  obtain⟨h1,h2⟩:=ABd.mp hy
  exact⟨y,h1,rfl,oT_ h2⟩
 ·rw[AAd]
  exact(ABB.mp (hh.up.filter _)).imp λ{a b} ⟨ha,hb,q⟩=>oK (hh.hd a (ABd.mp ha).1) (hh.hd b (ABd.mp hb).1) q
theorem Vec.sub(v:Vec hs f u)(q:1<=f h):h∈hs:=by
 obtain⟨h',q',e,_⟩:=v.is _ (v.all h q)
 injection e with e
 injection e with e
 rw[e];exact q'
theorem Vec.max(hh:Hands hs)(a:Vec hs f u)(b:Vec hs g v):∃w,Vec hs (λh=>max (f h) (g h)) w :=
 Vec.ex hh (λh=>by have:=a.pos h;show 0<=Max.max (f h) (g h);lia) λh q=>by
  by_cases c:1<=f h
  ·exact a.sub c
  ·exact b.sub (h:=h) (by have:1<=Max.max (f h) (g h):=q;lia)
theorem qN(hh:Hands hs)(ha:EntP hs a)(hb:EntP hs b)(e:fP a=fP b):EntP hs (oh hs a b)/\fP (oh hs a b)=fP b:=by
 have ha':=ha
 have hb':=hb
 obtain⟨x,p,s,v,rfl,pp,s1,s2,rv,vp⟩:=ha
 obtain⟨x',p',s',v',rfl,pp',s1',s2',rv',vp'⟩:=hb
 have e':D.tup [.str x,p]=.tup [.str x',p']:=e
 injection e' with e'
 injection e' with e1 e'
 injection e' with e2
 injection e1 with e1
 subst e1 e2
 show EntP hs (if x=AA1 "read" then .tup [.str x,p,s,pE hs v v']else if isS x=true/\enc eqN s<enc eqN s' then .tup [.str x,p,s',v']else .tup [.str x,p,s,v])/\fP (if x=AA1 "read" then .tup [.str x,p,s,pE hs v v']else if isS x=true/\enc eqN s<enc eqN s' then .tup [.str x,p,s',v']else .tup [.str x,p,s,v])=_
 split
 ·rename_i c
  obtain⟨f,u,rfl,vu⟩:=rv c
  obtain⟨g,u',rfl,vu'⟩:=rv' c
  obtain⟨w,vw⟩:=vu.max hh vu'
  rw[hZ vu vu' vw]
  exact⟨⟨_,_,_,_,rfl,pp,s1,s2,λ_=>⟨_,_,rfl,vw⟩,eT hh.hd vw⟩,rfl⟩
 ·split
  ·exact⟨hb',rfl⟩
  ·exact⟨ha',rfl⟩
def BL(hs:List D)(m:D->Option D):Prop:=∀k e,m k=some e->EntP hs e/\fP e=k
theorem AB(hh:Hands hs)(h:BL hs m)(he:EntP hs e):BL hs (kW hs m e):=λk d q=>by
 unfold kW at q
 split at q
 ·rename_i c
  have q:=AAM q
  cases hm:m k with
  | none =>
   rw[hm]at q
   have o:=qN hh he he rfl
   rw[<-q,c]
   exact o
  | some a =>
   rw[hm]at q
   obtain⟨h1,h2⟩:=h k a hm
   have o:=qN hh h1 he (h2.trans c)
   rw[<-q,c]
   exact o
 ·exact h k d q
theorem kU(hh:Hands hs):∀{es:List D},(∀e∈es,EntP hs e)->BL hs (aW hs es):=by
 intro es
 refine db (P:=λes=>(∀e∈es,EntP hs e)->BL hs (aW hs es)) (λ_ k e q=>nomatch q) (λl x ih h=>?_) es
 rw[cW]
 exact AB hh (ih λe q=>h e (AAi _ q)) (h x (by simp))
theorem tu(ok:BL hs m)(nd:(kvs.map (·.1)).Nodup)(get:∀k,dY kvs k=(m k).map v)(so:SrtOk M (kvs.map (·.1)))(p:ys.Perm (kvs.map (·.1)))(r:lK M ys) :
  TabOf m (ys.map λk=>(m k).getD .non)/\(∀k∈ys,∃e,m k=some e):=by
 have ke:∀k∈ys,∃e,m k=some e:=λk hk=>by
  obtain⟨q,hq,rfl⟩:=AAB.mp (p.mem_iff.mp hk)
  have:=get q.1
  rw[fW nd hq]at this
  cases e:m q.1 with
  | none=>rw[e]at this;cases this
  | some d=>exact⟨d,rfl⟩
 refine⟨⟨λe he=>?_,λk e q=>?_,?_⟩,ke⟩
 ·obtain⟨k,hk,rfl⟩:=AAB.mp he
  obtain⟨d,hd⟩:=ke k hk
  rw[hd]
  show m (fP d)=some d
  rw[(ok k d hd).2];exact hd
 ·have hk:k∈ys:=p.mem_iff.mpr (by
   have:=get k
   rw[q]at this
   exact AAt (f:=(·.1)) (jl this))
  exact AAB.mpr ⟨k,hk,by rw[q];rfl⟩
 ·rw[AAd]
  refine(ABB.mp (gY (gU so p) (p.nodup_iff.mpr nd) r)).imp λ{a b} ⟨ha,hb,q⟩=>?_
  obtain⟨d,hd⟩:=ke a ha
  obtain⟨d',hd'⟩:=ke b hb
  rw[hd,hd']
  show enc eqN (fP d)<enc eqN (fP d')
  rw[(ok a d hd).2,(ok b d' hd').2];exact q
theorem uz(ok:BL hs m)(nd:(kvs.map (·.1)).Nodup)(get:∀k,dY kvs k=(m k).map v)(l:kvs.length<64):SrtOk M (kvs.map (·.1)):=by
 have at_:∀k∈kvs.map (·.1),∃(x:Str) (p:D),k=.tup [.str x,p]/\PlaceP x p:=λk hk=>by
  obtain⟨q,hq,rfl⟩:=AAB.mp hk
  have:=get q.1
  rw[fW nd hq]at this
  cases e:m q.1 with
  | none=>rw[e]at this;cases this
  | some d =>
   obtain⟨⟨x,p,s,v,rfl,pp,_⟩,e2⟩:=ok q.1 d e
   exact⟨x,p,e2.symm,pp⟩
 refine⟨by rw[AA4];exact l,λx hx=>?_,λx hx y hy=>?_,.inr (.inr (.inl λx hx=>?_))⟩
 ·obtain⟨x,p,rfl,pp⟩:=at_ x hx;exact pp.ok.1
 ·obtain⟨x,p,rfl,pp⟩:=at_ x hx
  obtain⟨y,p',rfl,pp'⟩:=at_ y hy
  exact pp.cm pp'
 ·obtain⟨x,p,rfl,pp⟩:=at_ x hx;exact⟨_,_,rfl⟩
theorem EntP.pl(h:EntP hs e):Pln 5 e:=by
 obtain⟨x,p,s,v,rfl,pp,s1,s2,_,vp⟩:=h
 refine .tup (.cons (.str _) (.cons pp.ok.2.2 (.cons ?_ (.cons (uy vp) .nil))))
 cases q:isS x with
 | false=>rw[s1 q];exact .non
 | true=>exact(s2 q).pl
def bq:DSp:=λds M R=>∃(a b:D) (r:List D),ds=[.tup (a::b::r)]/\R (.tup [a,b]) M
theorem nj:er bq fS:=by rintro ds M R ⟨a,b,r,rfl,_⟩;rfl
def jQ:DTS:=be (bi (aa (dOp qIx (ab 0) (dC (.int 0))) (aa (dOp qIx (ab 0) (dC (.int 1))) ah)))
theorem oq:WpT bq 1 jQ:=by
 rintro ds M R ⟨a,b,r,rfl,h⟩
 simp only[jQ]
 walk_at "dl"
 exact⟨af (by lia),aH.now h⟩
theorem oR(T:Tops P w K mg base):Cal P w K mg base 1 "stamp_of" fS bq :=
 Cal.byD (N:=["deed"]) T.b T.f_stamp_of (by walk_at "sc") nj (by walk_at "dv") oq
def cK:DSp:=λds M R=>∃(t x:D) (r1 r2:List D),ds=[.tup (t::.tup (x::r1)::r2)]/\R x M
theorem kQ:er cK eK:=by rintro ds M R ⟨t,x,r1,r2,rfl,_⟩;rfl
def iC:DTS:=be (dOp qIx (dOp qIx (ab 0) (dC (.int 1))) (dC (.int 0)))
theorem lN:WpT cK 1 iC:=by
 rintro ds M R ⟨t,x,r1,r2,rfl,h⟩
 simp only[iC]
 walk_at "dl"
 exact aH.now h
theorem mS(T:Tops P w K mg base):Cal P w K mg base 1 "person_of" eK cK :=
 Cal.byD (N:=["deed"]) T.b T.f_person_of (by walk_at "sc") kQ (by walk_at "dv") lN
def cJ:DSp:=λds M R=>∃(hs log:List D),ds=[.tup log]/\Hands hs/\LogP hs log/\∀u,Vec hs (λh=>(many log h:Int)) u->R (.tup u) M
theorem kP:er cJ eJ:=by rintro ds M R ⟨hs,log,rfl,_⟩;rfl
def eV:DTS:=be (dCB bD (aa (cY (ab 1)) ah))
def eW:DTS:=au (gJ (cy (ab 0)) (al 2) (jn (ab 1) (dOp qIx (ab 2) (dC (.int 1))) (dOp aG (dOp qIx (ab 2) (dC (.int 2))) (dC (.int 1))))) (eV)
def iz:DTS:=au (aJ (jA) 1) (eW)
theorem lM:WpT cJ 3 iz:=by
 rintro ds M R ⟨hs,log,rfl,hh,hl,h⟩
 have h12:=hh.len.2
 have l62:=hl.len
 simp only[iz,eW]
 walk_at "dl"
 intro _
 refine aF (λi S M'=>∃(kvs:List (D×D)) (a:Option D),M'=M++[.dkt kvs]/\KvF hs (λh=>(many (log.take i) h:Int)) kvs/\S=[some (.tup log),some (.ref M.length),a]) ?_ ?_ ⟨[],_,rfl,KvF.nil,rfl⟩
 ·rintro S M' ⟨kvs,a,rfl,kf,rfl⟩
  rw[ABN]at kf
  refine⟨trivial,?_⟩
  simp only[eV]
  walk_at "dl"
  have so:=kf.srt (M:=M++[.dkt kvs]) hh.hd (by lia)
  refine⟨kvs,ae,so.1,λys hy hr=>⟨ys,am,?_⟩⟩
  have vc:=kf.items so.1 hy hr
  exact aH.keep (h ys vc) (bo 3 _ (eT hh.hd vc)) (cv.trans cv)
 ·rintro i y S M' hy ⟨kvs,a,rfl,kf,rfl⟩ G hG
  have hm:=AAc hy
  have et:log.take (i+1)=log.take i++[y]:=by rw[ABa,hy];rfl
  obtain⟨t,z,k,num,act,rfl,_,hx,_⟩:=hl.dk y hm
  have en:num=many (log.take i) (.tup [.str z,.int k]):=LogP.num hl hy
  have kl:=kf.len
  refine⟨trivial,?_⟩
  walk_at "dl"
  refine⟨_,ae,rfl,aB (by lia),Fgt.now (hG _ _ ⟨_,_,dc,kf.put hx ?_ ?_ λx q=>?_,rfl⟩)⟩
  ·rw[en];lia
  ·show ((many (log.take (i+1)) _:Nat):Int)=_
   rw[et,dh,en]
   show ((many _ _+if D.tup [.str z,.int k]=D.tup [.str z,.int k]then 1 else 0:Nat):Int)=_
   rw[if_pos rfl];rfl
  ·show ((many (log.take (i+1)) _:Nat):Int)=(many (log.take i) x:Int)
   rw[et,dh]
   show ((many _ _+if D.tup [.str z,.int k]=x then 1 else 0:Nat):Int)=_
   rw[if_neg (AAr q)];rfl
theorem mQ(T:Tops P w K mg base):Cal P w K mg base 1 "vector_of" eJ cJ :=
 Cal.byD (N:=["log","counts","deed"]) T.b T.f_vector_of (by walk_at "sc") kP (by walk_at "dv") lM
def dq:DSp:=λds M R=>∃(hs:List D) (d:D),ds=[d]/\dR hs d/\R (bv d) M
theorem nq:er dq fT:=by rintro ds M R ⟨hs,d,rfl,_⟩;rfl
def gf:DTS:=be (bi (aa (ab 2) (aa (bi (aa (dOp qIx (ab 1) (dC (.int 1))) (aa (ab 3) ah))) (aa (dC .non) (aa (dC .non) ah)))))
def dD:DTS:=au (dIf (az (dOp qEq (ab 2) (dC (.str "read")))) (be (bi (aa (ab 2) (aa (bi (aa (ab 3) (aa (dOp qIx (ab 1) (dC (.int 1))) ah))) (aa (dC .non) (aa (dOp qIx (ab 1) (dC (.int 2))) ah)))))) aI) (gf)
def cH:DTS:=au (dIf (az (dOp qEq (ab 2) (dC (.str "hush")))) (be (bi (aa (ab 2) (aa (bi (aa (ab 3) (aa (dOp qIx (ab 1) (dC (.int 1))) ah))) (aa (dCB bq (aa (ab 0) ah)) (aa (dOp qIx (ab 1) (dC (.int 2))) ah)))))) aI) (dD)
def bK:DTS:=au (dIf (az (dOp qEq (ab 2) (dC (.str "like")))) (be (bi (aa (ab 2) (aa (bi (aa (dOp qIx (ab 1) (dC (.int 1))) (aa (ab 3) (aa (dOp qIx (ab 1) (dC (.int 2))) ah)))) (aa (dCB bq (aa (ab 0) ah)) (aa (dOp qIx (ab 1) (dC (.int 3))) ah)))))) aI) (cH)
def bt:DTS:=au (dIf (az (dOp qEq (ab 2) (dC (.str "change")))) (be (bi (aa (ab 2) (aa (bi (aa (dOp qIx (ab 1) (dC (.int 1))) (aa (ab 3) ah))) (aa (dCB bq (aa (ab 0) ah)) (aa (dOp qIx (ab 1) (dC (.int 2))) ah)))))) aI) (bK)
def aN:DTS:=au (dIf (az (dOp qEq (ab 2) (dC (.str "say")))) (be (bi (aa (ab 2) (aa (dCB bq (aa (ab 0) ah)) (aa (dC .non) (aa (dOp aG (bi (aa (dOp qIx (ab 0) (dC (.int 2))) ah)) (dSl (ab 1) (fF (dC (.int 1))) bO)) ah)))))) aI) (bt)
def gh:DTS:=au (aJ (dCB cK (aa (ab 0) ah)) 3) (aN)
def gi:DTS:=au (aJ (dOp qIx (ab 1) (dC (.int 0))) 2) (gh)
def fM:DTS:=au (aJ (dOp qIx (ab 0) (dC (.int 3))) 1) (gi)
theorem ot:WpT dq 4 fM:=by
 rintro ds M R ⟨hs,d,rfl,⟨t,z,k,num,act,rfl,_,hx,ha⟩,h⟩
 obtain⟨c1,c2,c3,c4,c5,c6,c7,c8,c9,c10⟩:=Ba
 have start:∀(x:Str) (l:List D),act=.tup (.str x::l)->aN (EE M R) [some (.tup [.int t,.tup [.str z,.int k],.int num,act]),some act,some (.str x),some (.str z)] M->fM (EE M R) [some (.tup [.int t,.tup [.str z,.int k],.int num,act]),none,none,none] M:=λx l e q=>by
  subst e
  simp only[fM,gi,gh]
  walk_at "dl"
  rw[ES]
  refine show (match atI (D.str x::l) 0 with | some d=>_ | none=>False)from ?_
  rw[show atI (D.str x::l) 0=some (.str x)from aA (j:=0) rfl]
  exact⟨_,_,_,_,rfl,q⟩
 cases ha with
 | say hu =>
  rw[lc]at h
  refine start _ _ rfl ?_
  simp only[aN]
  walk_at "dl"
  exact⟨⟨ad,ad⟩,ji ⟨_,_,_,rfl,af (by decide),af (by show 4<=1000;decide),af (by decide),aH.now h⟩⟩
 | change hm =>
  rw[dZ]at h
  refine start _ _ rfl ?_
  simp only[aN,bt]
  walk_at "dl"
  exact⟨⟨ad,ad⟩,bg c1 ⟨⟨ad,ad⟩,ji ⟨af (by decide),_,_,_,rfl,af (by decide),aH.now h⟩⟩⟩
 | like hm =>
  rw[ii]at h
  refine start _ _ rfl ?_
  simp only[aN,bt,bK]
  walk_at "dl"
  simp only[ES]
  exact⟨⟨ad,ad⟩,bg c2 ⟨⟨ad,ad⟩,bg c10 ⟨⟨ad,ad⟩,ji ⟨af (by decide),_,_,_,rfl,af (by decide),aH.now h⟩⟩⟩⟩
 | hush hm =>
  rw[ij]at h
  refine start _ _ rfl ?_
  simp only[aN,bt,bK,cH]
  walk_at "dl"
  exact⟨⟨ad,ad⟩,bg c3 ⟨⟨ad,ad⟩,bg c4 ⟨⟨ad,ad⟩,bg c8 ⟨⟨ad,ad⟩,ji ⟨af (by decide),_,_,_,rfl,af (by decide),aH.now h⟩⟩⟩⟩⟩
 | read hv =>
  rw[ie]at h
  refine start _ _ rfl ?_
  simp only[aN,bt,bK,cH,dD]
  walk_at "dl"
  exact⟨⟨ad,ad⟩,bg c5 ⟨⟨ad,ad⟩,bg c6 ⟨⟨ad,ad⟩,bg c9 ⟨⟨ad,ad⟩,bg c7 ⟨⟨ad,ad⟩,ji ⟨af (by decide),af (by decide),aH.now h⟩⟩⟩⟩⟩⟩
 | more n hm =>
  obtain⟨n1,n2,n3,n4,n5,n6⟩:=m_ne n
  rw[ig n1]at h
  refine start _ _ rfl ?_
  simp only[aN,bt,bK,cH,dD,gf]
  walk_at "dl"
  exact⟨⟨ad,ad⟩,bg n1 ⟨⟨ad,ad⟩,bg n2 ⟨⟨ad,ad⟩,bg n3 ⟨⟨ad,ad⟩,bg n4 ⟨⟨ad,ad⟩,bg n5 ⟨af (by decide),af (by decide),aH.now h⟩⟩⟩⟩⟩⟩
theorem oS(T:Tops P w K mg base):Cal P w K mg base 2 "entry_of" fT dq :=
 Cal.byD (N:=["deed","act","kind","name"]) T.b T.f_entry_of (by walk_at "sc") nq (by have:=oR T;have:=mS T;walk_at "dv") ot
def bb:DSp:=λds M R=>∃(hs:List D) (f g:D->Int) (u v:List D),ds=[.tup u,.tup v]/\Hands hs/\Vec hs f u/\Vec hs g v/\∀w,Vec hs (λh=>max (f h) (g h)) w->R (.tup w) M
theorem fw:er bb bN:=by rintro ds M R ⟨hs,f,g,u,v,rfl,_⟩;rfl
def cF:DTS:=be (dCB bD (aa (cY (ab 2)) ah))
def cG:DTS:=au (gJ (cy (ab 1)) (dI 2 (aE (al 3) (aE (al 4) dJ))) (jn (ab 2) (ab 3) (dCB rY (aa (ab 4) (aa (dMt dG (ab 2) (aa (ab 3) (aa (dC (.int 0)) ah))) ah))))) (cF)
def dw:DTS:=au (aJ (dCB mO (aa (ab 0) ah)) 2) (cG)
theorem fJ:WpT bb 5 dw:=by
 rintro ds M R ⟨hs,f,g,u,v,rfl,hh,vu,vv,h⟩
 have h12:=hh.len.2
 simp only[dw,cG]
 walk_at "dl"
 obtain⟨us,rfl,u1,u2,u3⟩:=vu.list
 obtain⟨vs,rfl,v1,v2,v3⟩:=vv.list
 have ul:=cU u2 λx hx=>(u1 x hx).1
 have vl:=cU v2 λx hx=>(v1 x hx).1
 refine⟨us.map λh=>(h,.int (f h)),by rw[AAS];rfl,λp hp=>?_,by rw[AA4];lia,λ_=>?_⟩
 ·obtain⟨y,hy,rfl⟩:=AAB.mp hp
  obtain⟨z,k,e⟩:=hh.hd y (u1 y hy).1
  rw[e];exact⟨rfl,rfl⟩
 refine aF (λi S M'=>∃(kvs:List (D×D)) (a b:Option D),M'=M++[.dkt kvs]/\KvF hs (λh=>if h∈vs.take i then max (f h) (g h)else f h) kvs/\S=[some (.tup (us.map λh=>.tup [h,.int (f h)])),some (.tup (vs.map λh=>.tup [h,.int (g h)])),some (.ref M.length),a,b]) ?_ ?_ ⟨_,_,_,rfl,Vec.kvf vu.pos u1 u2 u3,rfl⟩
 ·rintro S M' ⟨kvs,a,b,rfl,kf,rfl⟩
  rw[AA4,ABN]at kf
  have ef:(λh=>if h∈vs then max (f h) (g h)else f h)=λh=>max (f h) (g h):=by
   funext x
   by_cases q:x∈vs
   ·rw[if_pos q]
   ·rw[if_neg q]
    have:=vu.pos x
    have:¬1<=g x:=λz=>q (v3 x z)
    lia
  rw[ef]at kf
  refine⟨trivial,?_⟩
  simp only[cF]
  walk_at "dl"
  have so:=kf.srt (M:=M++[.dkt kvs]) hh.hd (by lia)
  refine⟨kvs,ae,so.1,λys hy hr=>⟨ys,am,?_⟩⟩
  have vc:=kf.items so.1 hy hr
  exact aH.keep (h ys vc) (bo 3 _ (eT hh.hd vc)) (cv.trans cv)
 ·rintro i y S M' hy ⟨kvs,a,b,rfl,kf,rfl⟩ G hG
  rw[AAN]at hy
  obtain⟨x,hx,rfl⟩:=ABH.mp hy
  have hm:=AAc hx
  obtain⟨q1,q2⟩:=v1 x hm
  have et:vs.take (i+1)=vs.take i++[x]:=by rw[ABa,hx];rfl
  have nx:x∉vs.take i:=λz=>by
   have nd:=v2
   rw[<-ACc (i+1) vs,et]at nd
   exact(ACG.mp (ACG.mp nd).1).2.2 x z x (by simp) rfl
  have kl:=kf.len
  have got:=kf.got x
  rw[if_neg nx]at got
  obtain⟨z,k,ez⟩:=hh.hd x q1
  refine⟨trivial,?_⟩
  rw[ez]at got ⊢
  walk_at "dl"
  refine⟨trivial,⟨_,ae⟩,_,ae,rfl,?_⟩
  rw[got]
  rw[ez]at q1 q2 et nx
  refine⟨_,ae,rfl,aB (by lia),Fgt.now (hG _ _ ⟨_,_,_,dc,kf.put q1 ?_ ?_ λy q=>?_,rfl⟩)⟩
  ·split<;>lia
  ·show (if _∈vs.take (i+1)then _ else _)=_
   rw[et,if_pos (by simp)]
   split<;>lia
  ·show (if y∈vs.take (i+1)then _ else _)=if y∈vs.take i then _ else _
   rw[et]
   by_cases c:y∈vs.take i
   ·rw[if_pos c,if_pos (AAi _ c)]
   ·rw[if_neg c,if_neg λz=>(AB6.mp z).elim c λz=>q (by simpa using z)]
theorem fU(T:Tops P w K mg base):Cal P w K mg base 1 "greater_counts" bN bb :=
 Cal.byD (N:=["one","other","counts","hand","count"]) T.b T.f_greater_counts (by walk_at "sc") fw (by walk_at "dv") fJ
def cL:DSp:=λds M R=>∃(hs:List D) (a b:D),ds=[a,b]/\Hands hs/\EntP hs a/\EntP hs b/\fP a=fP b/\R (oh hs a b) M
theorem kR:er cL eL:=by rintro ds M R ⟨hs,a,b,rfl,_⟩;rfl
def eY:DTS:=be (dIfE (yY (az (dOp mN (dOp qIx (ab 0) (dC (.int 2))) (dC .non))) (az (dOp Cl (dOp qIx (ab 0) (dC (.int 2))) (dOp qIx (ab 1) (dC (.int 2)))))) (ab 1) (ab 0))
def iD:DTS:=au (dIf (az (dOp qEq (dOp qIx (ab 0) (dC (.int 0))) (dC (.str "read")))) (be (dOp aG (dSl (ab 0) bO (fF (dC (.int 3)))) (bi (aa (dCB bb (aa (dOp qIx (ab 0) (dC (.int 3))) (aa (dOp qIx (ab 1) (dC (.int 3))) ah))) ah)))) aI) (eY)
theorem lO:WpT cL 2 iD:=by
 rintro ds M R ⟨hs,a,b,rfl,hh,⟨x,p,s,v,rfl,pp,s1,s2,rv,vp⟩,⟨x',p',s',v',rfl,pp',s1',s2',rv',vp'⟩,e,h⟩
 have e:D.tup [.str x,p]=.tup [.str x',p']:=e
 injection e with e
 injection e with e1 e
 injection e with e2
 injection e1 with e1
 subst e1 e2
 have h:R (if x=AA1 "read" then .tup [.str x,p,s,pE hs v v']else if isS x=true/\enc eqN s<enc eqN s' then .tup [.str x,p,s',v']else .tup [.str x,p,s,v]) M:=h
 simp only[iD]
 walk_at "dl"
 refine⟨⟨ad,ad⟩,?_⟩
 by_cases c:x=AA1 "read"
 ·obtain⟨f,u,rfl,vu⟩:=rv c
  obtain⟨g,u',rfl,vu'⟩:=rv' c
  rw[if_pos c]at h
  subst c
  refine ji ?_
  rw[ES,ES]
  refine⟨hs,f,g,u,u',rfl,hh,vu,vu',λw vw=>⟨af (by decide),af (by show 4<=1000;decide),?_⟩⟩
  rw[hZ vu vu' vw]at h
  exact aH.now h
 ·rw[if_neg c]at h
  refine bg c ?_
  simp only[eY]
  walk_at "dl"
  cases q:isS x with
  | false =>
   rw[if_neg (λz=>by rw[q]at z;cases z.1)]at h
   rw[s1 q]at h ⊢
   exact aH.now h
  | true =>
   have sa:=s2 q
   have sb:=s2' q
   have oa:okP eqN s=true:=by obtain⟨t,z,k,e⟩:=sa;rw[e];rfl
   have ob:okP eqN s'=true:=by obtain⟨t,z,k,e⟩:=sb;rw[e];rfl
   have cm:=sa.cm (M:=M) sb
   have lt:=oY oa ob cm
   have o1:=sa.ok (M:=M)
   have o2:=sb.ok (M:=M)
   rw[q]at h
   obtain⟨ks,rfl⟩:=sa.tup
   obtain⟨ks',rfl⟩:=sb.tup
   refine⟨⟨o1,o2,cm⟩,?_⟩
   rw[lt]
   by_cases z:enc eqN (D.tup ks)<enc eqN (D.tup ks')
   ·rw[dT_ z]
    rw[if_pos ⟨rfl,z⟩]at h
    exact aH.now h
   ·rw[dF_ z]
    rw[if_neg λw=>z w.2]at h
    exact aH.now h
theorem mT(T:Tops P w K mg base):Cal P w K mg base 2 "one_entry" eL cL :=
 Cal.byD (N:=["one","other"]) T.b T.f_one_entry (by walk_at "sc") kR (by have:=fU T;walk_at "dv") lO
def dn:DSp:=λds M R=>∃(hs es pl:List D),(ds=[.tup es]\/∃n,ds=[.ref n]/\aq M n es)/\Hands hs/\(∀e∈es,EntP hs e)/\(∀e∈es,fP e∈pl)/\pl.length<=63/\∀T,TabOf (aW hs es) T->T.length<=pl.length->(∀e∈T,EntP hs e)->R (.tup T) M
theorem ni:er dn fR:=by
 rintro ds M R ⟨hs,es,pl,h,_⟩
 rcases h with rfl | ⟨n,rfl,_⟩<;>rfl
theorem xY:∀{es:List D}{e:D},aW hs es k=some e->∃e'∈es,fP e'=k:=by
 intro es
 refine db (P:=λes=>∀{e:D},aW hs es k=some e->∃e'∈es,fP e'=k) (λq=>nomatch q) (λl x ih e q=>?_) es
 rw[cW]at q
 unfold kW at q
 split at q
 ·rename_i c
  exact⟨x,by simp,c.symm⟩
 ·obtain⟨e',he,z⟩:=ih q
  exact⟨e',AAi _ he,z⟩
theorem vh{hs es pl:List D}{kvs:List (D×D)}{v:D->D}(nd:(kvs.map (·.1)).Nodup)(gt:∀k,dY kvs k=(aW hs es k).map v)(h:∀e∈es,fP e∈pl):kvs.length<=pl.length:=by
 have:=cU nd (l':=pl) λx hx=>by
  obtain⟨q,hq,rfl⟩:=AAB.mp hx
  have g:=gt q.1
  rw[fW nd hq]at g
  cases e:aW hs es q.1 with
  | none=>rw[e]at g;cases g
  | some d =>
   obtain⟨e',he,z⟩:=xY e
   rw[<-z];exact h e' he
 rw[AA4]at this
 exact this
def dB:DTS:=be (dCB bD (aa (dLC 1 [1] (cy (dCB cI (aa (ab 1) ah))) (al 0) lh (lq (ab 1) (ab 0))) ah))
def cD:DTS:=jn (ab 1) (ab 3) (dCB cL (aa (dMt dG (ab 1) (aa (ab 3) (aa (ab 2) ah))) (aa (ab 2) ah)))
def gb:DTS:=au (gJ (cy (ab 0)) (al 2) (au (aJ (dSl (ab 2) bO (fF (dC (.int 2)))) 3) (cD))) (dB)
def jG:DTS:=au (aJ (jA) 1) (gb)
theorem oo:WpT dn 4 jG:=by
 rintro ds M R ⟨hs,es,pl,hi,hh,he,hpl,el,h⟩
 have ok:=kU hh he
 have main:∀(d:D) (o:Mem->Prop),(∀B,M <+: B->o B)->lz o (al 2) (au (aJ (dSl (ab 2) bO (fF (dC (.int 2)))) 3) cD) ⟨λS' M'=>dB (EE M R) S' M',aH M R,λ_ _=>False,λ_ _=>False⟩ (M++[.dkt []]) es [some d,some (.ref M.length),none,none] (M++[.dkt []]):=λd o ho=>by
  refine aF (λi S M'=>∃(kvs:List (D×D)) (a b:Option D),M'=M++[.dkt kvs]/\(kvs.map (·.1)).Nodup/\(∀k,dY kvs k=(aW hs (es.take i) k).map id)/\S=[some d,some (.ref M.length),a,b]) ?_ ?_ ⟨[],_,_,rfl,.nil,λ_=>rfl,rfl⟩
  ·rintro S M' ⟨kvs,a,b,rfl,nd,gt,rfl⟩
   rw[ABN]at gt
   have kl:=vh nd gt hpl
   refine⟨ho _ cv,?_⟩
   simp only[dB]
   walk_at "dl"
   have so:=uz (M:=M++[.dkt kvs]) ok nd gt (by lia)
   refine⟨kvs,ae,so,λys hy hr=>⟨_,am,λ_=>?_⟩⟩
   obtain⟨tb,ke⟩:=tu ok nd gt so hy hr
   refine aR (λk=>(aW hs es k).getD .non) (λS=>∃a,S=[a,some (.ref M.length)]) am _ _ _ (λk hk S hS=>?_) ⟨_,rfl⟩ (by rw[AAa,hy.length_eq,AA4];exact af (by lia)) ?_
   ·obtain⟨a,rfl⟩:=hS
    obtain⟨e,hke⟩:=ke k hk
    refine⟨[some k,some (.ref M.length)],⟨_,rfl⟩,λY hY=>?_⟩
    have g1:=gt k
    rw[hke]at g1 hY
    obtain⟨⟨x,p,s,v,rfl,pp,_⟩,rfl⟩:=ok k e hke
    walk_at "dl"
    exact⟨kvs,_,ap ae,pp.ok.2.1,g1,hY⟩
   ·rw[AAo]
    have te:∀e∈ys.map (λk=>(aW hs es k).getD .non),EntP hs e:=λe hq=>(ok _ e (tb.is e hq)).1
    refine⟨_,am,aH.keep (h _ tb (by rw[AA4,hy.length_eq,AA4];lia) te) (.tup (Bels.of λe hq=>bo 5 e (te e hq).pl)) ((cv.trans cv).trans cv)⟩
  ·rintro i y S M' hy ⟨kvs,a,b,rfl,nd,gt,rfl⟩ G hG
   have kl:=vh nd gt λe q=>hpl e (ABG q)
   have hm:=AAc hy
   have hi':=(AA7.mp hy).1
   have et:es.take (i+1)=es.take i++[y]:=by rw[ABa,hy];rfl
   have ok':=kU hh λe q=>he e (ABG (i:=i) q)
   have ye:=he y hm
   refine⟨ho _ cv,?_⟩
   obtain⟨x,p,s,v,rfl,pp,_⟩:=id ye
   walk_at "dl"
   show cD _ [some d,some (.ref M.length),some (.tup [.str x,p,s,v]),some (.tup [.str x,p])] _
   simp only[cD]
   walk_at "dl"
   refine⟨⟨_,ae⟩,_,ae,pp.ok.2.1,?_⟩
   have g1:=gt (.tup [.str x,p])
   have k1:aW hs (es.take (i+1))=kW hs (aW hs (es.take i)) (.tup [.str x,p,s,v]):=by rw[et,cW]
   have a1:EntP hs ((aW hs (es.take i) (.tup [.str x,p])).getD (.tup [.str x,p,s,v]))/\fP ((aW hs (es.take i) (.tup [.str x,p])).getD (.tup [.str x,p,s,v]))=.tup [.str x,p]:=by
    cases q:aW hs (es.take i) (.tup [.str x,p]) with
    | none=>exact⟨ye,rfl⟩
    | some e=>exact ok' _ e q
   have eg:(dY kvs (.tup [.str x,p])).getD (.tup [.str x,p,s,v])=(aW hs (es.take i) (.tup [.str x,p])).getD (.tup [.str x,p,s,v]):=by rw[g1,Option.map_id];rfl
   rw[eg]
   refine⟨hs,_,_,rfl,hh,a1.1,ye,a1.2,_,ae,pp.ok.2.1,aB (by lia),Fgt.now (hG _ _ ⟨_,_,_,dc,fO nd,λk=>?_,rfl⟩)⟩
   rw[k1]
   unfold kW
   by_cases c:k=.tup [.str x,p]
   ·rw[c,ic,if_pos (show D.tup [.str x,p]=fP (.tup [.str x,p,s,v])from rfl)];rfl
   ·rw[fA c,if_neg (show ¬k=fP (.tup [.str x,p,s,v])from c)];exact gt k
 simp only[jG,gb]
 rcases hi with rfl | ⟨n,rfl,hn⟩
 ·walk_at "dl"
  exact λ_=>main _ _ λ_ _=>trivial
 ·walk_at "dl"
  exact⟨es,bz cv hn,λ_=>main _ _ λB pB=>bz pB hn⟩
theorem oQ(T:Tops P w K mg base):Cal P w K mg base 3 "table_of" fR dn :=
 Cal.byD (N:=["entries","kept","entry","place"]) T.b T.f_table_of (by walk_at "sc") ni (by have:=mT T;walk_at "dv") oo
noncomputable def kJ(h u T:D):List (Str×D):=[(AA1 "house",h),(AA1 "reach",u),(AA1 "entries",T)]
def bM:DSp:=λds M R=>∃(n:Nat) (hs log:List D) (h:D),ds=[.ref n,h,.tup log]/\Bel M.length h/\M[n]?=some (.ins (AA1 "Pack") [])/\Hands hs/\LogP hs log/\∀u T,Vec hs (λh=>(many log h:Int)) u->TabOf (aW hs (log.map bv)) T->T.length<=log.length->(∀e∈T,EntP hs e)->R .non (M.set n (.ins (AA1 "Pack") (kJ h (.tup u) (.tup T))))
theorem kT:er bM eM:=by rintro ds M R ⟨n,hs,log,h,rfl,_⟩;rfl
def fg:DTS:=jp "Pack" "entries" (ab 0) (dCB dn (aa (dLC 1 [] (cy (ab 2)) (al 0) lh (dCB dq (aa (ab 0) ah))) ah))
def fh:DTS:=au (jp "Pack" "reach" (ab 0) (dCB cJ (aa (ab 2) ah))) (fg)
def iN:DTS:=au (jp "Pack" "house" (ab 0) (ab 1)) (fh)
theorem lP:WpT bM 3 iN:=by
 rintro ds M R ⟨n,hs,log,hd,rfl,hb,hn,hh,hl,h⟩
 have l62:=hl.len
 simp only[iN]
 walk_at "dl"
 refine⟨_,hn,by decide,?_⟩
 simp only[fh]
 walk_at "dl"
 refine⟨hs,log,rfl,hh,hl,λu vu=>⟨_,cO hn,by show 1<1000;decide,?_⟩⟩
 simp only[fg]
 walk_at "dl"
 have nM:=fv hn
 have ef:∀T,zx (AA1 "entries") T (zx (AA1 "reach") (.tup u) (zx (AA1 "house") hd []))=kJ hd (.tup u) T:=λT=>rfl
 rw[List.set_set]
 intro _
 refine aR bv (λS=>∃a,S=[a]) trivial _ _ _ (λd hd' S hS=>?_) ⟨_,rfl⟩ (by rw[AAa];exact af (by lia)) ?_
 ·obtain⟨a,rfl⟩:=hS
  refine⟨[some d],⟨_,rfl⟩,λY hY=>?_⟩
  walk_at "dl"
  exact⟨hs,d,rfl,hl.dk d hd',hY⟩
 ·rw[AAo]
  refine⟨hs,log.map bv,(log.map bv).map fP,.inr ⟨_,rfl,am⟩,hh,λe he=>?_,λe he=>AAt he,by rw[AA4,AA4];lia,λT tb tl te=>⟨_,ap (cO hn),by show 2<1000;decide,?_⟩⟩
  ·obtain⟨d,hd',rfl⟩:=AAB.mp he
   exact(hl.dk d hd').ent hh.hd
  ·rw[AA4,AA4]at tl
   rw[ef,List.set_append_left _ _ (by rw[ABe];exact nM),List.set_set]
   refine aH.chg (Chg.set (mo:=.ins (AA1 "Pack") (kJ hd (.tup u) (.tup T))) .refl (.cons hb (.cons (bo 3 _ (eT hh.hd vu)) (.cons (.tup (Bels.of λe he=>bo 5 e (te e he).pl)) .nil)))) (h u T vu tb tl te) .non (AAT _ _)
theorem mU(T:Tops P w K mg base):EZ P w K mg base 4 "Pack" eM bM :=
 EZ.byD (N:=["self","house","log"]) T.b T.f_Pack_init (by walk_at "sc") kT (by have:=T.a_house;have:=T.a_reach;have:=T.a_entries;have:=mQ T;have:=oS T;have:=oQ T;walk_at "dv") lP
def aQ:DSp:=λds M R=>∃(n:Nat) (fs:List (Str×D)) (v:D),ds=[.ref n]/\M[n]?=some (.ins (AA1 "Pack") fs)/\fs.lookup (AA1 "entries")=some v/\R v M
theorem jy:er aQ dH:=by rintro ds M R ⟨n,fs,v,rfl,_⟩;rfl
def gj:DTS:=be (dFld "Pack" "entries" (ab 0))
theorem kr:WpT aQ 1 gj:=by
 rintro ds M R ⟨n,fs,v,rfl,hn,hv,h⟩
 simp only[gj]
 walk_at "dl"
 exact⟨fs,v,hn,hv,aH.now h⟩
theorem kN(T:Tops P w K mg base):BH P w K mg base 1 "Pack" "table" dH aQ :=
 BH.byD (N:=["self"]) T.b T.f_Pack_table (by walk_at "sc") jy (by have:=T.a_entries;walk_at "dv") kr
def bI:DSp:=λds M R=>∃(n:Nat) (fs:List (Str×D)) (v:D),ds=[.ref n]/\M[n]?=some (.ins (AA1 "Pack") fs)/\fs.lookup (AA1 "reach")=some v/\R v M
theorem jd:er bI df:=by rintro ds M R ⟨n,fs,v,rfl,_⟩;rfl
def fc:DTS:=be (dFld "Pack" "reach" (ab 0))
theorem jv:WpT bI 1 fc:=by
 rintro ds M R ⟨n,fs,v,rfl,hn,hv,h⟩
 simp only[fc]
 walk_at "dl"
 exact⟨fs,v,hn,hv,aH.now h⟩
theorem jw(T:Tops P w K mg base):BH P w K mg base 1 "Pack" "vector" df bI :=
 BH.byD (N:=["self"]) T.b T.f_Pack_vector (by walk_at "sc") jd (by have:=T.a_reach;walk_at "dv") jv
noncomputable def za(ns:List Int)(k:Nat):Int:=ns.getD k 0
def eh:DSp:=λds M R=>∃(n:Nat) (ns:List Int) (k:Nat),ds=[.ref n,.int k]/\aq M n (ns.map D.int)/\R (.int (za ns k)) M
theorem pj:er eh iV:=by rintro ds M R ⟨n,ns,k,rfl,_⟩;rfl
def iM:DTS:=be (dC (.int 0))
def mF:DTS:=au (dIf (az (dOp qLt (ab 1) (dCB ju (aa (ab 0) ah)))) (be (dOp qIx (ab 0) (ab 1))) aI) (iM)
theorem rN:WpT eh 2 mF:=by
 rintro ds M R ⟨n,ns,k,rfl,hL,h⟩
 simp only[mF,iM]
 walk_at "dl"
 refine⟨_,hL,?_⟩
 unfold za at h
 by_cases hk:k<ns.length
 ·rw[dT_ (by simpa using hk)]
  refine fy ⟨_,hL,?_⟩
  rw[aA (v:=.int ns[k]) (by rw[AAN,AA6 hk];rfl)]
  rw[AAJ,AA6 hk]at h
  exact aH.now h
 ·rw[dF_ (by simpa using hk)]
  rw[AAJ,ABo (by lia)]at h
  exact eE (aH.now h)
theorem sk(T:Tops P w K mg base):Cal P w K mg base 1 "_law_cell_at" iV eh :=
 Cal.byD (N:=["_law_script","_law_k"]) T.b T.f_cell_at (by walk_at "sc") pj (by walk_at "dv") rN
def dL:DSp:=λds M R=>∃(c:Int) (n:Nat),ds=[.int c,.int n]/\n<=100/\∀xs:List Int,xs.length=n->R (.ref M.length) (M++[.lst (xs.map .int)])
theorem sy:er dL kL:=by rintro ds M R ⟨c,n,rfl,_⟩;rfl
theorem qW:∀xs:List Int,Bels k (xs.map D.int)
 | []=>.nil
 | x::xs=>.cons (.int x) (qW xs)
theorem gR:∀xs:List Str,Bels k (xs.map D.str)
 | []=>.nil
 | x::xs=>.cons (.str x) (gR xs)
def jH:DTS:=be (ab 2)
def jI:DTS:=jB (dMl cu (ab 2) (aa (dOp bC (dOp aC (dOp bC (dOp gF (ab 6) (dC (.int 69621))) (dC (.int 2147483587))) (dC (.int 16))) (dC (.int 1000000))) ah))
def jJ:DTS:=au (aJ (dOp bC (dOp gF (ab 5) (ab 5)) (dC (.int 2147483629))) 6) (jI)
def jK:DTS:=au (gJ (aU (aa (ab 1) ah)) (al 4) (au (aJ (dOp bC (dOp aG (dOp aG (dOp gF (ab 5) (dC (.int 48271))) (dOp gF (dC (.int 7919)) (ab 4))) (dC (.int 11))) (dC (.int 2147483647))) 5) (jJ))) (jH)
def jL:DTS:=au (aJ (dOp bC (ab 3) (dC (.int 2147483647))) 5) (jK)
def jM:DTS:=be (ab 2)
def jN:DTS:=aJ (dOp aC (ab 3) (dC (.int 1000000))) 3
def jO:DTS:=au (dIf (az (dOp qEq (dOp bC (ab 0) (dC (.int 2))) (dC (.int 0)))) (au (gJ (aU (aa (ab 1) ah)) (al 4) (au (jB (dMl cu (ab 2) (aa (dOp bC (ab 3) (dC (.int 1000000))) ah))) (jN))) (jM)) aI) (jL)
def jP:DTS:=au (aJ (dOp aC (ab 0) (dC (.int 2))) 3) (jO)
def qg:DTS:=au (aJ (gI ah) 2) (jP)
theorem sU:WpT dL 7 qg:=by
 rintro ds M R ⟨c,n,rfl,hn,h⟩
 simp only[qg,jP,jO,jN,jM,jL]
 walk_at "dl"
 refine⟨AAX _,⟨by decide,by decide⟩,by decide,⟨rfl,rfl⟩,?_⟩
 have done_:∀(xs:List Int) (L:Mem),xs.length=n->aH M R (.ref M.length) (M++.lst (xs.map .int)::L):=λxs L e=>aH.lst (h xs e) (AAA _) aX (qW xs)
 by_cases hq:eqD (M++[MO.lst []]) eqN (.int (c % 2)) (.int 0)=true
 ·rw[hq]
  refine fy ⟨⟨by lia,by lia⟩,?_⟩
  refine aF (λi S M'=>∃(xs:List Int) (r:Int) (a:Option D),xs.length=i/\M'=M++.lst (xs.map .int)::[]/\S=[some (.int c),some (.int n),some (.ref M.length),some (.int r),a,none,none]) ?_ ?_ ⟨[],_,_,rfl,rfl,rfl⟩
  ·rintro S M' ⟨xs,r,a,hx,rfl,rfl⟩
   rw[aM]at hx
   exact⟨trivial,done_ xs [] (by lia)⟩
  ·rintro i y S M' hy ⟨xs,r,a,hx,rfl,rfl⟩ G hG
   obtain⟨hi,rfl⟩:=bj.mp hy
   refine⟨trivial,?_⟩
   walk_at "dl"
   refine⟨⟨_,.inl aX⟩,by decide,xs.map .int,aX,by rw[AA4];exact af (by lia),⟨by decide,by decide⟩,Fgt.now (hG _ _ ⟨xs++[r % 1000000],_,_,by simp[hx],?_,rfl⟩)⟩
   rw[dc];simp
 ·rw[ADS.mpr hq]
  refine eE ⟨by decide,?_⟩
  simp only[jK]
  walk_at "dl"
  refine⟨⟨by lia,by lia⟩,?_⟩
  refine aF (λi S M'=>∃(xs:List Int) (r z:Int) (a b:Option D),xs.length=i/\(0<=z/\z<2147483647)/\M'=M++.lst (xs.map .int)::[]/\S=[some (.int c),some (.int n),some (.ref M.length),some (.int r),a,some (.int z),b]) ?_ ?_ ⟨[],_,_,_,_,rfl,⟨AAn _ (by decide),AAg _ (by decide)⟩,rfl,rfl⟩
  ·rintro S M' ⟨xs,r,z,a,b,hx,_,rfl,rfl⟩
   rw[aM]at hx
   refine⟨trivial,?_⟩
   try simp only[jH]
   try walk_at "dl"
   exact done_ xs [] (by lia)
  ·rintro i y S M' hy ⟨xs,r,z,a,b,hx,⟨hz0,hz1⟩,rfl,rfl⟩ G hG
   obtain⟨hi,rfl⟩:=bj.mp hy
   refine⟨trivial,?_⟩
   walk_at "dl"
   refine⟨.inr ⟨by decide,by decide⟩,.inl ⟨by decide,by decide⟩,by decide,?_⟩
   have b0:=AAn (z*48271+7919*(0+(i:Int))+11) (show (2147483647:Int)≠0 by decide)
   have b1:=AAg (z*48271+7919*(0+(i:Int))+11) (show (0:Int)<2147483647 by decide)
   generalize (z*48271+7919*(0+(i:Int))+11) % 2147483647=z' at b0 b1
   simp only[jJ,jI]
   walk_at "dl"
   refine⟨.inl ⟨by lia,by lia⟩,by decide,⟨_,.inl aX⟩,.inr ⟨by decide,by decide⟩,by decide,⟨by decide,by decide⟩,by decide,xs.map .int,aX,by rw[AA4];exact af (by lia),Fgt.now (hG _ _ ⟨xs++[z'*z' % 2147483629*69621 % 2147483587 / 16 % 1000000],r,z',_,_,by simp[hx],⟨b0,b1⟩,?_,rfl⟩)⟩
   rw[dc];simp
theorem mR(T:Tops P w K mg base):Cal P w K mg base 1 "_law_stream" kL dL :=
 Cal.byD (N:=["_law_cell","_law_many","_law_found","_law_rest_here","_law_k","_law_number","_law_other"]) T.b T.f_stream (by walk_at "sc") sy (by walk_at "dv") sU
noncomputable def wH(c:Nat):Bool:=decide (97<=c)&&decide (c<=122)
def Low(x:Str):Prop:=x.cps.toList.all wH=true
theorem uP(h1:Low a)(h2:Low b):Low (a++b):=by
 unfold Low
 rw[wC,List.all_append,h1,h2];rfl
theorem uh(h1:bB x y=false)(h2:bB y x=false):x=y:=by
 unfold bB at h1 h2
 rw[decide_eq_false_iff_not]at h1 h2
 exact oG (List.le_antisymm (List.not_lt.mp h2) (List.not_lt.mp h1))
theorem mL:∀{xs ys:List Str},xs.Nodup->ys.Nodup->(∀x,x∈xs↔x∈ys)->xs.Pairwise (λa b=>bB b a=false)->ys.Pairwise (λa b=>bB b a=false)->xs=ys
 | [],ys,_,_,h,_,_=>(List.eq_nil_iff_forall_not_mem.mpr λy hy=>absurd ((h y).mpr hy) (by simp)).symm
 | x::xs,[],_,_,h,_,_=>absurd ((h x).mp AAE) (by simp)
 | x::xs,y::ys,nx,ny,h,px,py=>by
  have nx':=AAf.mp nx
  have ny':=AAf.mp ny
  have px':=ADF.mp px
  have py':=ADF.mp py
  have e:x=y:=by
   refine ACv λne=>?_
   have hx:x∈ys:=((AAG.mp ((h x).mp AAE)).resolve_left ne)
   have hy:y∈xs:=((AAG.mp ((h y).mpr AAE)).resolve_left λz=>ne z.symm)
   exact ne (uh (py'.1 x hx) (px'.1 y hy))
  subst e
  rw[mL nx'.2 ny'.2 (λz=>?_) px'.2 py'.2]
  have hz:=h z
  rw[AAG,AAG]at hz
  constructor
  ·intro q
   exact(hz.mp (.inr q)).resolve_left λe=>nx'.1 (e ▸ q)
  ·intro q
   exact(hz.mpr (.inr q)).resolve_left λe=>ny'.1 (e ▸ q)
theorem iP{M:Mem}{xs:List Str}(h:lK M (xs.map .str)):xs.Pairwise (λa b=>bB b a=false):=by
 unfold lK at h
 exact AAd.mp h
theorem EK{xs:List D}{k:Nat}:cutD xs none (some (k:Int))=xs.take k:=by
 unfold cutD
 rw[HT.sIx_none,HT.sIx_nat,List.drop_zero,Nat.sub_zero]
 by_cases h:k<=xs.length
 ·rw[Nat.min_eq_left h]
 ·rw[Nat.min_eq_right (by lia),ABN,List.take_of_length_le (by lia)]
theorem fi{xs:List Str}(h:xs.Pairwise (λa b=>bB b a=false))(nd:xs.Nodup):xs.Pairwise λa b=>bB a b=true:=by
 rw[AAv]at nd
 refine(h.and nd).imp λ{a b} ⟨h1,h2⟩=>?_
 cases e:bB a b with
 | true=>rfl
 | false=>exact absurd (uh e h1) h2
theorem rq(h:y::xs=(gm 0 n).drop i):y=.int (i:Int)/\i<n/\xs=(gm 0 n).drop (i+1):=by
 have hl:i<(gm 0 n).length:=by
  refine ACv λz=>?_
  rw[List.drop_eq_nil_of_le (by lia)]at h
  cases h
 rw[List.drop_eq_getElem_cons hl]at h
 injection h with h1 h2
 rw[aM]at hl
 obtain⟨_,e⟩:=bj.mp (AA6 (show i<(gm 0 n).length by rw[aM];exact hl))
 rw[Int.zero_add]at e
 exact⟨h1.trans e,hl,h2⟩
theorem qC{ms ns:List Str}{i:Nat}(hi:i<ns.length)(h:ms.Sublist (ns.take i)):(ms++[ns[i]]).Sublist (ns.take (i+1)):=by
 rw[ABa,AA6 hi]
 exact h.append (List.Sublist.refl _)
theorem qD{ms ns:List Str}{i:Nat}(h:ms.Sublist (ns.take i)):ms.Sublist (ns.take (i+1)):=by
 rw[ABa]
 exact h.trans (List.sublist_append_left _ _)
theorem Ai(hm:c∈(AA1 "abcdefghijklmnopqrstuvwxyz").cps.toList):Low ⟨#[c]⟩:=by
 have hl:(AA1 "abcdefghijklmnopqrstuvwxyz").cps.toList=(AAl 26).map (· + 97):=by decide +kernel
 rw[hl]at hm
 obtain⟨k,hk,rfl⟩:=AAB.mp hm
 have:=ABc.mp hk
 show (wH (k+97)&&true)=true
 unfold wH
 rw[Bool.and_true,AAU,decide_eq_true_eq,decide_eq_true_eq]
 lia
noncomputable def sS(i:Int):Nat:=97+(i % 26).toNat
noncomputable def ko:Str:=AA1 "abcdefghijklmnopqrstuvwxyz"
theorem rG(i:Int):atI ko.cps.toList (i % 26)=some (sS i):=by
 have hl:ko.cps.toList=(AAl 26).map (· + 97):=by decide +kernel
 have h0:=AAn i (show (26:Int)≠0 by decide)
 have h1:=AAg i (show (0:Int)<26 by decide)
 have e:i % 26=(((i % 26).toNat:Nat):Int):=by lia
 rw[e]
 refine aA ?_
 rw[hl,AAN,ACw (by lia)]
 simp[sS,Nat.add_comm]
noncomputable def xb(c:Int)(spot:Int)(k j:Nat):Nat:=sS (c / (49+5*(j:Int))+(j:Int)*(c / 49 % 3)+if (j:Int)=spot then 3*(k:Int)else 0)
noncomputable def eA(c spot:Int)(k j:Nat):List Nat:=(AAl j).map (xb c spot k)
noncomputable def bV(c spot:Int)(long k:Nat):Str:=⟨(eA c spot k long).toArray⟩
noncomputable def bJ(c spot:Int)(long m:Nat):List Str:=(AAl m).map (bV c spot long)
theorem cQ:(bV c spot long k).length=long:=by
 rw[jc];simp[bV,eA]
theorem xM(h:sS i=sS j):i % 26=j % 26:=by
 have h0:=AAn i (show (26:Int)≠0 by decide)
 have h1:=AAn j (show (26:Int)≠0 by decide)
 unfold sS at h
 lia
theorem sW{c:Int}{spot long:Nat}{k k':Nat}(hs:spot<long)(hk:k<6)(hk':k' < 6)(e:bV c spot long k=bV c spot long k'):k=k':=by
 have e1:(eA c spot k long)[spot]?=(eA c spot k' long)[spot]?:=by
  have:(bV c spot long k).cps.toList=(bV c spot long k').cps.toList:=by rw[e]
  have h1:(bV c spot long k).cps.toList=eA c spot k long:=by simp[bV]
  have h2:(bV c spot long k').cps.toList=eA c spot k' long:=by simp[bV]
  rw[h1,h2]at this
  rw[this]
 unfold eA at e1
 rw[AAN,AAN,ACw hs]at e1
 have e2:=xM (AAM e1)
 simp only[↓reduceIte]at e2
 lia
theorem uO(i:Int):wH (sS i)=true:=by
 have h0:=AAn i (show (26:Int)≠0 by decide)
 have h1:=AAg i (show (0:Int)<26 by decide)
 unfold wH sS
 rw[AAU,decide_eq_true_eq,decide_eq_true_eq]
 lia
theorem eS:Low (bV c spot long k):=by
 show ((AAl long).map (xb c spot k)).toArray.toList.all wH=true
 rw[AAb]
 intro x hx
 have hx':x∈(AAl long).map (xb c spot k):=hx
 obtain⟨j,_,rfl⟩:=AAB.mp hx'
 exact uO _
def EU(ws:List Str):Prop:=ws.length=6/\ws.Nodup/\(∀x∈ws,1<=x.length/\x.length<=8)/\∀x∈ws,Low x
theorem ir{c:Int}{spot long:Nat}(hs:spot<long):(bJ c spot long 6).Nodup:=by
 unfold bJ
 rw[AAv,AAd]
 have:=List.nodup_range (n:=6)
 rw[AAv]at this
 refine this.imp_of_mem λ{a b} ha hb hne e=>hne (sW hs (ABc.mp ha) (ABc.mp hb) e)
def im:DSp:=λds M R=>∃c:Int,ds=[.int c,.int 6]/\∀ws,EU ws->R (.ref M.length) (M++[.lst (ws.map .str)])
theorem uW:er im oM:=by rintro ds M R ⟨c,rfl,_⟩;rfl
def fK:DTS:=be (ab 5)
def lW:DTS:=au (dIf (az (dOp qEq (dOp bC (dOp aC (ab 0) (dC (.int 49))) (dC (.int 4))) (dC (.int 1)))) (wJ (dOp aG (dOp qIx (ab 5) (dC (.int 0))) (dOp qIx (ab 2) (dOp bC (dOp aC (ab 0) (dC (.int 196))) (dC (.int 26))))) (yt (ab 5) (dC (.int 1)))) aI) (fK)
def lX:DTS:=jB (dMl cu (ab 5) (aa (ab 7) ah))
def iw:DTS:=aJ (dOp aG (ab 7) (dOp qIx (ab 2) (dOp bC (ab 9) (dC (.int 26))))) 7
def lY:DTS:=au (dIf (az (dOp qEq (ab 8) (ab 4))) (aJ (dOp aG (ab 9) (dOp gF (dC (.int 3)) (ab 6))) 9) aI) (iw)
def lZ:DTS:=au (gJ (aU (aa (ab 3) ah)) (al 8) (au (aJ (dOp aG (dOp aC (ab 0) (dOp aG (dC (.int 49)) (dOp gF (dC (.int 5)) (ab 8)))) (dOp gF (ab 8) (dOp bC (dOp aC (ab 0) (dC (.int 49))) (dC (.int 3))))) 9) (lY))) (lX)
def ma:DTS:=au (gJ (aU (aa (ab 1) ah)) (al 6) (au (aJ (dC (.str "")) 7) (lZ))) (lW)
def md:DTS:=au (aJ (gI ah) 5) (ma)
def me:DTS:=au (aJ (dOp bC (dOp aC (ab 0) (dC (.int 7))) (ab 3)) 4) (md)
def mf:DTS:=au (aJ (dOp aG (dC (.int 1)) (dOp bC (ab 0) (dC (.int 7)))) 3) (me)
def tw:DTS:=au (aJ (dC (.str "abcdefghijklmnopqrstuvwxyz")) 2) (mf)
theorem wN:WpT im 10 tw:=by
 rintro ds M R ⟨c,rfl,h⟩
 simp only[tw,mf,me,md,ma]
 walk_at "dl"
 have c0:=AAn c (show (7:Int)≠0 by decide)
 have c1:=AAg c (show (0:Int)<7 by decide)
 obtain⟨long,hlong⟩:∃l:Nat,(l:Int)=1+c % 7:=⟨(1+c % 7).toNat,by lia⟩
 rw[<-hlong]
 have l1:1<=long:=by lia
 have l7:long<=7:=by lia
 have d0:=AAn (c / 7) (show (long:Int)≠0 by lia)
 have d1:=AAg (c / 7) (show (0:Int)<(long:Int) by lia)
 obtain⟨spot,hspot⟩:∃l:Nat,(l:Int)=c / 7 % (long:Int):=⟨(c / 7 % (long:Int)).toNat,by lia⟩
 rw[<-hspot]
 have hsl:spot<long:=by lia
 have hz:ko.length<=sizeLine:=by decide +kernel
 refine⟨by decide,⟨by decide,by decide⟩,by lia,AAX _,⟨by decide,by decide⟩,?_⟩
 refine aF (λi S M'=>∃a b d e,M'=M++.lst ((bJ c spot long i).map .str)::[]/\S=[some (.int c),some (.int 6),some (.str ko),some (.int long),some (.int spot),some (.ref M.length),a,b,d,e]) ?_ ?_ ⟨_,_,_,_,rfl,rfl⟩
 ·rintro S M' ⟨a,b,d,e,rfl,rfl⟩
  refine⟨trivial,?_⟩
  rw[aM]
  simp only[lW]
  walk_at "dl"
  refine⟨⟨by decide,by decide⟩,by decide,⟨rfl,rfl⟩,?_⟩
  have wlen:∀x∈bJ c spot long 6,1<=x.length/\x.length<=7:=λx hx=>by
   unfold bJ at hx
   obtain⟨k,_,rfl⟩:=AAB.mp hx
   rw[cQ];exact⟨l1,l7⟩
  have w6:(bJ c spot long 6).length=6:=by simp[bJ]
  by_cases hq:eqD (M++[MO.lst (List.map D.str (bJ c (↑spot) long (Int.toNat 6)))]) eqN (.int (c / 49 % 4)) (.int 1)=true
  ·rw[hq]
   refine fy ?_
   have nd:=ir (c:=c) hsl
   have ew:bJ c spot long 6=bV c spot long 0::bV c spot long 1::(List.range' 2 4).map (bV c spot long):=rfl
   have ei:(Int.toNat 6)=6:=rfl
   rw[ei,ew]
   refine⟨_,.inl aX,?_⟩
   rw[AAQ,AAQ,at0]
   refine⟨⟨by decide,by decide⟩,by decide,hz,?_⟩
   rw[rG]
   refine⟨by rw[iW,cQ];exact af (by lia),_,1,aX,?_,?_⟩
   ·have:∀n:Nat,2<=n->ixN n 1=some 1:=λn hn=>by
     unfold ixN
     rw[if_pos (by decide),if_pos (by lia)]
     rfl
    exact this _ (by simp)
   ·rw[dc]
    simp only[fK]
    walk_at "dl"
    refine aH.lst (h (bV c spot long 0::(bV c spot long 0++⟨#[sS (c / 196)]⟩)::(List.range' 2 4).map (bV c spot long)) ?_) (AAA _) aX (gR (bV c spot long 0::(bV c spot long 0++⟨#[sS (c / 196)]⟩)::(List.range' 2 4).map (bV c spot long)))
    rw[ew,AAf,AAf]at nd
    obtain⟨n1,n2,n3⟩:=nd
    have ln:(bV c spot long 0++⟨#[sS (c / 196)]⟩).length=long+1:=by rw[bp,iW,cQ]
    have other:∀x∈(List.range' 2 4).map (bV c spot long),x.length=long:=λx hx=>by
     obtain⟨k,_,rfl⟩:=AAB.mp hx
     exact cQ
    refine⟨rfl,?_,λx hx=>?_,λx hx=>?_⟩
    ·rw[AAf,AAf]
     refine⟨λz=>?_,λz=>?_,n3⟩
     ·rcases AAG.mp z with z | z
      ·have:=congrArg Str.length z
       rw[ln,cQ]at this
       lia
      ·exact n1 (AA9 _ z)
     ·have:=other _ z
      lia
    ·rcases AAG.mp hx with rfl | hx
     ·rw[cQ];lia
     ·rcases AAG.mp hx with rfl | hx
      ·rw[ln];lia
      ·rw[other x hx];lia
    ·rcases AAG.mp hx with rfl | hx
     ·exact eS
     ·rcases AAG.mp hx with rfl | hx
      ·exact uP eS (by show (wH _&&true)=true;rw[uO];rfl)
      ·obtain⟨k,_,rfl⟩:=AAB.mp hx
       exact eS
  ·rw[ADS.mpr hq]
   refine eE ?_
   simp only[fK]
   walk_at "dl"
   exact aH.lst (h _ ⟨w6,ir hsl,λx hx=>⟨(wlen x hx).1,by have:=(wlen x hx).2;lia⟩,λx hx=>by obtain⟨k,_,rfl⟩:=AAB.mp hx;exact eS⟩) (AAA _) aX (gR _)
 ·rintro k y S M' hy ⟨a,b,d,e,rfl,rfl⟩ G hG
  obtain⟨hk,rfl⟩:=bj.mp hy
  have hk6:k<6:=hk
  refine⟨trivial,?_⟩
  simp only[lZ]
  walk_at "dl"
  refine⟨⟨by lia,by lia⟩,?_⟩
  refine aF (λj S M'=>∃a b,M'=M++.lst ((bJ c spot long k).map .str)::[]/\S=[some (.int c),some (.int 6),some (.str ko),some (.int long),some (.int spot),some (.ref M.length),some (.int (0+(k:Int))),some (.str ⟨(eA c spot k j).toArray⟩),a,b]) ?_ ?_ ⟨_,_,rfl,rfl⟩
  ·rintro S M' ⟨a,b,rfl,rfl⟩
   refine⟨trivial,?_⟩
   rw[aM]
   simp only[lX]
   walk_at "dl"
   refine⟨⟨_,.inl aX⟩,_,aX,?_,Fgt.now (hG _ _ ⟨_,_,_,_,?_,rfl⟩)⟩
   ·rw[AA4,bJ,AA4,List.length_range];exact af (by lia)
   ·rw[dc]
    simp[bJ,ADo,bV]
  ·rintro j y S M' hy ⟨a,b,rfl,rfl⟩ G2 hG2
   obtain⟨hj,rfl⟩:=bj.mp hy
   have hj7:j<7:=by lia
   refine⟨trivial,?_⟩
   walk_at "dl"
   refine⟨.inl ⟨by decide,by decide⟩,⟨by lia,by lia⟩,⟨by decide,by decide⟩,by decide,.inl ⟨by lia,by lia⟩,?_⟩
   have fin:∀(bk:SD->Mem->Prop) (z:Int),z=c / (49+5*(j:Int))+(j:Int)*(c / 49 % 3)+(if (j:Int)=(spot:Int)then 3*(k:Int)else 0) ->
     iw ⟨Fgt (M++[MO.lst (List.map D.str (bJ c (↑spot) long k))]) G2,aH M R,bk,Fgt (M++[MO.lst (List.map D.str (bJ c (↑spot) long k))]) G2⟩ [some (.int c),some (.int 6),some (.str ko),some (.int long),some (.int spot),some (.ref M.length),some (.int (0+(k:Int))),some (.str ⟨(eA c spot k j).toArray⟩),some (.int (0+(j:Int))),some (.int z)] (M++.lst ((bJ c spot long k).map .str)::[]):=by
    intro bk z hz'
    simp only[iw]
    walk_at "dl"
    refine⟨by decide,hz,?_⟩
    rw[rG]
    have wl:(⟨(eA c spot k j).toArray⟩:Str).length=j:=by rw[jc];simp[eA]
    refine⟨by rw[iW,wl];exact af (by lia),Fgt.now (hG2 _ _ ⟨some (.int (0+(j:Int))),some (.int z),rfl,?_⟩)⟩
    have:(⟨(eA c spot k (j+1)).toArray⟩:Str)=⟨(eA c spot k j).toArray⟩++⟨#[sS z]⟩:=by
     refine oG ?_
     rw[hz']
     show (eA c spot k (j+1)).toArray.toList=((eA c spot k j).toArray ++ #[_]).toList
     simp[eA,ADo,xb]
    rw[this]
   simp only[lY]
   walk_at "dl"
   refine⟨⟨rfl,rfl⟩,?_⟩
   have z0:(0:Int)+(j:Int)=(j:Int):=by lia
   have z1:(0:Int)+(k:Int)=(k:Int):=by lia
   by_cases hjs:(j:Int)=(spot:Int)
   ·rw[show eqD (M++[MO.lst (List.map D.str (bJ c (↑spot) long k))]) eqN (D.int (0 + ↑j)) (D.int ↑spot)=true by simp[eqD,z0,hjs]]
    refine fy ⟨.inl ⟨by decide,by decide⟩,fin _ _ ?_⟩
    rw[if_pos hjs,z0,z1]
   ·rw[show eqD (M++[MO.lst (List.map D.str (bJ c (↑spot) long k))]) eqN (D.int (0 + ↑j)) (D.int ↑spot)=false by simp[eqD,z0,hjs]]
    refine eE (fin _ _ ?_)
    rw[if_neg hjs,z0,Int.add_zero]
theorem xz(T:Tops P w K mg base):Cal P w K mg base 1 "_law_words" oM im :=
 Cal.byD (N:=["_law_cell","_law_many","_law_letters","_law_long","_law_spot","_law_words_here","_law_k","_law_word","_law_j","_law_sign"]) T.b T.f_words (by walk_at "sc") uW (by walk_at "dv") wN
def cZ:DSp:=λds M R=>∃(c:Int),ds=[.int c]/\∀(x:Str) (r:Int),1<=x.length->x.length<=8->Low x->R (.tup [.str x,.int r]) M
theorem pe:er cZ iS:=by rintro ds M R ⟨c,rfl,_⟩;rfl
def iE:DTS:=be (bi (aa (ab 3) (aa (ab 0) ah)))
def iF:DTS:=aJ (dOp aC (ab 0) (dC (.int 26))) 0
def iG:DTS:=au (gJ (aU (aa (ab 2) ah)) (al 4) (au (aJ (dOp aG (ab 3) (dOp qIx (ab 1) (dOp bC (ab 0) (dC (.int 26))))) 3) (iF))) (iE)
def iH:DTS:=au (aJ (dC (.str "")) 3) (iG)
def iI:DTS:=au (aJ (dOp aC (ab 0) (dC (.int 8))) 0) (iH)
def iJ:DTS:=au (aJ (dOp aG (dC (.int 1)) (dOp bC (ab 0) (dC (.int 8)))) 2) (iI)
def mi:DTS:=au (aJ (dC (.str "abcdefghijklmnopqrstuvwxyz")) 1) (iJ)
theorem rK:WpT cZ 5 mi:=by
 rintro ds M R ⟨c,rfl,h⟩
 simp only[mi,iJ,iI,iH,iG]
 walk_at "dl"
 have hm0:=AAn c (show (8:Int)≠0 by decide)
 have hm1:=AAg c (show (0:Int)<8 by decide)
 have hz:(AA1 "abcdefghijklmnopqrstuvwxyz").length<=sizeLine:=by decide +kernel
 have hl:(AA1 "abcdefghijklmnopqrstuvwxyz").cps.toList.length=26:=by decide +kernel
 refine⟨by decide,⟨by decide,by decide⟩,⟨by lia,by lia⟩,?_⟩
 refine aF (λi S M'=>M'=M/\∃(x:Str) (r:Int) (a:Option D),x.length=i/\Low x/\S=[some (.int r),some (.str (AA1 "abcdefghijklmnopqrstuvwxyz")),some (.int (1+c % 8)),some (.str x),a]) ?_ ?_ ⟨rfl,_,_,_,by decide +kernel,by unfold Low;decide +kernel,rfl⟩
 ·rintro S M' ⟨rfl,x,r,a,hx,hlow,rfl⟩
  rw[aM]at hx
  refine⟨trivial,?_⟩
  simp only[iE]
  walk_at "dl"
  exact⟨af (by lia),aH.now (h x r (by lia) (by lia) hlow)⟩
 ·rintro i y S M' hy ⟨rfl,x,r,a,hx,hlow,rfl⟩ G hG
  obtain⟨hi,rfl⟩:=bj.mp hy
  refine⟨trivial,?_⟩
  obtain⟨j,hj,e,_⟩:=wA (xs:=(AA1 "abcdefghijklmnopqrstuvwxyz").cps.toList) (r:=r) (by lia)
  rw[hl]at e
  simp only[iF]
  walk_at "dl"
  refine⟨by decide,hz,?_⟩
  have e':atI (AA1 "abcdefghijklmnopqrstuvwxyz").cps.toList (r % 26)=some _:=e
  rw[e']
  exact⟨by rw[iW];exact af (by lia),⟨by decide,by decide⟩,Fgt.now (hG _ _ ⟨rfl,_,_,_,by rw[bp,iW,hx],uP hlow (Ai (ABh hj)),rfl⟩)⟩
theorem sh(T:Tops P w K mg base):Cal P w K mg base 1 "_law_name_in" iS cZ :=
 Cal.byD (N:=["_law_rest_here","_law_letters","_law_many","_law_name","_law_k"]) T.b T.f_name_in (by walk_at "sc") pe (by walk_at "dv") rK
structure HouseOk(ps:List (Str×Int))(rs:List (Str×List Str)):Prop where
 nd:(ps.map (·.1)).Nodup
 len:1<=ps.length/\ps.length<=4
 many:∀p∈ps,1<=p.2/\p.2<=3
 nm:∀p∈ps,1<=p.1.length/\p.1.length<=8
 rl:1<=rs.length/\rs.length<=4
 rn:∀r∈rs,1<=r.1.length/\r.1.length<=8
 low:∀p∈ps,Low p.1
 up:(ps.map (·.1)).Pairwise λa b=>bB a b=true
 rlow:∀r∈rs,Low r.1
 rup:(rs.map (·.1)).Pairwise λa b=>bB a b=true
 mem:∀r∈rs,r.2≠[]/\r.2.Sublist (ps.map (·.1))
def aV:DSp:=λds M R=>∃c:Int,ds=[.int c]/\∀ps rs,HouseOk ps rs->R (bL ps rs) M
theorem eN:er aV bF:=by rintro ds M R ⟨c,rfl,_⟩;rfl
theorem jk:Bel k (bL ps rs):=by
 refine .tup (.cons (.tup (Bels.of λd hd=>?_)) (.cons (.tup (Bels.of λd hd=>?_)) .nil))
 ·obtain⟨p,_,rfl⟩:=AAB.mp hd
  exact .tup (.cons (.str _) (.cons (.int _) .nil))
 ·obtain⟨p,_,rfl⟩:=AAB.mp hd
  exact .tup (.cons (.str _) (.cons (.tup (gR _)) .nil))
structure PplOk(kvs:List (Str×D)):Prop where
 nd:(kvs.map (·.1)).Nodup
 ok:∀p∈kvs,((1<=p.1.length/\p.1.length<=8)/\Low p.1)/\∃v:Int,p.2=.int v/\1<=v/\v<=3
structure RmsOk(ns:List Str)(kvs:List (Str×D)):Prop where
 nd:(kvs.map (·.1)).Nodup
 ok:∀p∈kvs,((1<=p.1.length/\p.1.length<=8)/\Low p.1)/\∃v:List Str,p.2=.tup (v.map .str)/\v≠[]/\v.Sublist ns
def bc:DTS:=be (bi (aa (dCB bD (aa (dLC 1 [1] (cy (ab 5)) (al 0) lh (bi (aa (ab 0) (aa (wn (ab 1) (ab 0)) ah)))) ah)) (aa (dCB bD (aa (dLC 1 [6] (cy (dCB bn (aa (ab 6) ah))) (al 0) lh (bi (aa (ab 0) (aa (wn (ab 1) (ab 0)) ah)))) ah)) ah)))
def bP:DTS:=aJ (dOp aC (ab 0) (dC (.int 16))) 0
def bd:DTS:=au (wm (ab 6) (ab 7) (dCB bD (aa (ab 8) ah))) (bP)
def bQ:DTS:=au (dIf (az (dOp qEq (ab 8) (gI ah))) (aJ (dSl (ab 5) bO (fF (dC (.int 1)))) 8) aI) (bd)
def bR:DTS:=au (jo 1 [5,0] (aU (aa (dCB ju (aa (ab 5) ah)) ah)) (al 0) (az (dOp qEq (dOp bC (dOp aC (ab 2) (dOp qIx (gI (aa (dC (.int 1)) (aa (dC (.int 2)) (aa (dC (.int 4)) (aa (dC (.int 8)) ah))))) (ab 0))) (dC (.int 2))) (dC (.int 1)))) (dOp qIx (ab 1) (ab 0)) 8) (bQ)
def bT:DTS:=au (gJ (aU (aa (ab 2) ah)) (al 3) (au (wJ (dCB cZ (aa (ab 0) ah)) (dI 2 (aE (al 7) (aE (al 0) dJ)))) (bR))) (bc)
def bX:DTS:=au (aJ (dOp aC (ab 0) (dC (.int 4))) 0) (bT)
def bY:DTS:=au (aJ (dOp aG (dC (.int 1)) (dOp bC (ab 0) (dC (.int 4)))) 2) (bX)
def bZ:DTS:=au (aJ (wk) 6) (bY)
def cb:DTS:=au (aJ (dCB bn (aa (ab 1) ah)) 5) (bZ)
def cf:DTS:=aJ (dOp aC (ab 0) (dC (.int 3))) 0
def cg:DTS:=au (wm (ab 1) (ab 4) (dOp aG (dC (.int 1)) (dOp bC (ab 0) (dC (.int 3))))) (cf)
def ci:DTS:=au (gJ (aU (aa (ab 2) ah)) (al 3) (au (wJ (dCB cZ (aa (ab 0) ah)) (dI 2 (aE (al 4) (aE (al 0) dJ)))) (cg))) (cb)
def cj:DTS:=au (aJ (dOp aC (ab 0) (dC (.int 4))) 0) (ci)
def cq:DTS:=au (aJ (dOp aG (dC (.int 1)) (dOp bC (ab 0) (dC (.int 4)))) 2) (cj)
def cS:DTS:=au (aJ (wk) 1) (cq)
theorem vM{M L:Mem}{R:DK}{kvs rkvs:List (Str×D)}{ns:List Str}{S:SD}{E:DEnds}(hE:E.rt=aH M R)(h:∀ps rs,HouseOk ps rs->R (bL ps rs) M)(hp:PplOk kvs)(hl:1<=kvs.length/\kvs.length<=4)(hn:ns.Perm (kvs.map (·.1)))(hup:ns.Pairwise λa b=>bB b a=false)(hr:RmsOk ns rkvs)(hrl:1<=rkvs.length/\rkvs.length<=4)
  {x0 x2 x3 x4 x7 x8:Option D} (hS:S=[x0,some (.ref M.length),x2,x3,x4,some (.ref (M.length+1)),some (.ref (M.length+2)),x7,x8]) :
  bc E S (M++.dct kvs::.lst (ns.map .str)::.dct rkvs::L):=by
 subst hS
 simp only[bc]
 walk_at "dl"
 have nl:ns.length=kvs.length:=by rw[hn.length_eq,AA4]
 have val:∀(kv:List (Str×D)) (M2:Mem) (x:Str),x∈kv.map (·.1)->∃d,(x,d)∈kv/\eU kv x=some d:=λkv M2 x hx=>by
  obtain⟨d,h1,h2⟩:=wS hx
  exact⟨d,h2,h1⟩
 refine⟨ns.map .str,.inl fB,λ_=>?_⟩
 refine aR (λd=>.tup [d,((eU kvs (unS d)).getD .non)]) (λS=>∃a,S=[a,some (.ref M.length)]) (.inl fB) _ _ _ (λd hd S hS=>?_) ⟨_,rfl⟩ ?_ ?_
 ·obtain⟨a,rfl⟩:=hS
  obtain⟨x,hx,rfl⟩:=AAB.mp hd
  obtain⟨d,h1,h2⟩:=val kvs [] x (hn.mem_iff.mp hx)
  refine⟨[some (.str x),some (.ref M.length)],⟨_,rfl⟩,λY hY=>?_⟩
  walk_at "dl"
  refine⟨kvs,d,aX,h2,af (by lia),?_⟩
  rw[show unS (.str x)=x from rfl,h2]at hY
  exact hY
 ·simp only[AAa,AA4]
  exact af (by lia)
 refine⟨_,.inl ae,?_⟩
 unfold bn
 refine⟨(rkvs.map (·.1)).map .str,.inr ⟨rkvs,?_,by rw[AAS];rfl⟩,fN (by rw[AA4];lia),λys hys hrise=>?_⟩
 ·rw[AAL (by simp)]
  exact kX
 obtain⟨ms,rfl,hms⟩:=iR hys
 walk_at "dl"
 refine⟨_,.inl ae,λ_=>?_⟩
 have ml:ms.length=rkvs.length:=by rw[hms.length_eq,AA4]
 refine aR (λd=>.tup [d,((eU rkvs (unS d)).getD .non)]) (λS=>∃a,S=[a,some (.ref (M.length+2))]) (.inl ae) _ _ _ (λd hd S hS=>?_) ⟨_,rfl⟩ ?_ ?_
 ·obtain⟨a,rfl⟩:=hS
  obtain⟨x,hx,rfl⟩:=AAB.mp hd
  obtain⟨d,h1,h2⟩:=val rkvs [] x (hms.mem_iff.mp hx)
  refine⟨[some (.str x),some (.ref (M.length+2))],⟨_,rfl⟩,λY hY=>?_⟩
  walk_at "dl"
  refine⟨rkvs,d,?_,h2,af (by lia),?_⟩
  ·rw[AAL (by simp),AAL (by simp)]
   exact kX
  ·rw[show unS (.str x)=x from rfl,h2]at hY
   exact hY
 ·simp only[AAa,AA4]
  exact af (by lia)
 refine⟨_,.inl ae,af (by lia),?_⟩
 rw[hE]
 simp only[AAo,AAS]
 have e1:ns.map ((λd=>D.tup [d,(eU kvs (unS d)).getD .non]) ∘ D.str)=(ns.map λx=>(x,match eU kvs x with | some (.int v)=>v | _=>0)).map bf:=by
  rw[AAS]
  refine ABx λx hx=>?_
  obtain⟨d,h1,h2⟩:=val kvs [] x (hn.mem_iff.mp hx)
  obtain⟨_,v,e,_⟩:=hp.ok _ h1
  simp only[Function.comp,unS,h2,ADe,bf]
  have e':d=.int v:=e
  rw[e']
 have e2:ms.map ((λd=>D.tup [d,(eU rkvs (unS d)).getD .non]) ∘ D.str)=(ms.map λx=>(x,match eU rkvs x with | some (.tup v)=>v.map unS | _=>[])).map ba:=by
  rw[AAS]
  refine ABx λx hx=>?_
  obtain⟨d,h1,h2⟩:=val rkvs [] x (hms.mem_iff.mp hx)
  obtain⟨_,v,e,_⟩:=hr.ok _ h1
  have e':d=.tup (v.map .str):=e
  simp only[Function.comp,unS,h2,ADe,ba]
  rw[e']
  simp only[AAS]
  congr 2
 rw[e1,e2]
 have en:(ns.map λx=>(x,match eU kvs x with | some (.int v)=>v | _=>0)).map (·.1)=ns:=by
  rw[AAS]
  exact ACY ns
 have em:(ms.map λx=>(x,match eU rkvs x with | some (.tup v)=>v.map unS | _=>[])).map (·.1)=ms:=by
  rw[AAS]
  exact ACY ms
 refine aH.keep (h _ _ ⟨?_,?_,?_,?_,?_,?_,?_,?_,?_,?_,?_⟩) jk ?_
 ·rw[AAS]
  have:((λx:Str×Int=>x.1) ∘ λx=>(x,match eU kvs x with | some (.int v)=>v | _=>0))=id:=rfl
  rw[this,ACY]
  exact(hn.nodup_iff).mpr hp.nd
 ·rw[AA4];lia
 ·intro p hp'
  obtain⟨x,hx,rfl⟩:=AAB.mp hp'
  obtain⟨d,h1,h2⟩:=val kvs [] x (hn.mem_iff.mp hx)
  obtain⟨_,v,e,v1,v2⟩:=hp.ok _ h1
  have e':d=.int v:=e
  simp only[h2,e']
  exact⟨v1,v2⟩
 ·intro p hp'
  obtain⟨x,hx,rfl⟩:=AAB.mp hp'
  obtain⟨d,h1,h2⟩:=val kvs [] x (hn.mem_iff.mp hx)
  exact(hp.ok _ h1).1.1
 ·rw[AA4];lia
 ·intro p hp'
  obtain⟨x,hx,rfl⟩:=AAB.mp hp'
  obtain⟨d,h1,h2⟩:=val rkvs [] x (hms.mem_iff.mp hx)
  exact(hr.ok _ h1).1.1
 ·intro p hp'
  obtain⟨x,hx,rfl⟩:=AAB.mp hp'
  obtain⟨d,h1,h2⟩:=val kvs [] x (hn.mem_iff.mp hx)
  exact(hp.ok _ h1).1.2
 ·rw[en]
  exact fi hup (hn.nodup_iff.mpr hp.nd)
 ·intro p hp'
  obtain⟨x,hx,rfl⟩:=AAB.mp hp'
  obtain⟨d,h1,h2⟩:=val rkvs [] x (hms.mem_iff.mp hx)
  exact(hr.ok _ h1).1.2
 ·rw[em]
  exact fi (iP hrise) (hms.nodup_iff.mpr hr.nd)
 ·intro p hp'
  rw[en]
  obtain⟨x,hx,rfl⟩:=AAB.mp hp'
  obtain⟨d,h1,h2⟩:=val rkvs [] x (hms.mem_iff.mp hx)
  obtain⟨_,v,e,vn,vs⟩:=hr.ok _ h1
  have e':d=.tup (v.map .str):=e
  simp only[h2,e']
  have ev:(v.map D.str).map unS=v:=by rw[AAS];exact ACY v
  rw[ev]
  exact⟨vn,vs⟩
 ·simp only[AAR]
  exact AAT _ _
theorem eR:WpT aV 9 cS:=by
 rintro ds M R ⟨c,rfl,h⟩
 simp only[cS,cq,cj,ci]
 walk_at "dl"
 have c0:=AAn c (show (4:Int)≠0 by decide)
 have c1:=AAg c (show (0:Int)<4 by decide)
 obtain⟨m,hm⟩:∃l:Nat,(l:Int)=1+c % 4:=⟨(1+c % 4).toNat,by lia⟩
 rw[<-hm]
 refine⟨by decide,⟨by decide,by decide⟩,⟨by lia,by lia⟩,?_⟩
 refine aF (λi S M'=>∃kvs r a b,PplOk kvs/\kvs.length<=i/\(1<=i->1<=kvs.length)/\M'=M++.dct kvs::[]/\S=[some (.int r),some (.ref M.length),some (.int m),a,b,none,none,none,none]) ?_ ?_ ⟨[],_,_,_,⟨ACO,λ_ z=>nomatch z⟩,AAA _,λz=>absurd z (by decide),rfl,rfl⟩
 ·rintro S M' ⟨kvs,r,a,b,hp,hl,hl1,rfl,rfl⟩
  rw[aM]at hl hl1
  refine⟨trivial,?_⟩
  have hm4:kvs.length<=4:=by simp at hl;lia
  have hm1:1<=kvs.length:=hl1 (by simp;lia)
  simp only[cb,bZ,bY,bX,bT]
  walk_at "dl"
  unfold bn
  refine⟨(kvs.map (·.1)).map .str,.inr ⟨kvs,aX,by rw[AAS];rfl⟩,fN (by rw[AA4];lia),λys hys hrise=>?_⟩
  obtain⟨ns,rfl,hns⟩:=iR hys
  simp only[AAR,List.cons_append,AAo,AAH,AAO,AAa,Nat.add_assoc,Nat.reduceAdd]
  have d0:=AAn r (show (4:Int)≠0 by decide)
  have d1:=AAg r (show (0:Int)<4 by decide)
  obtain⟨m2,hm2⟩:∃l:Nat,(l:Int)=1+r % 4:=⟨(1+r % 4).toNat,by lia⟩
  rw[<-hm2]
  refine⟨by decide,⟨by decide,by decide⟩,⟨by lia,by lia⟩,?_⟩
  have nl:ns.length=kvs.length:=by rw[hns.length_eq,AA4]
  refine aF (λi S M'=>∃rkvs r x3 x4 x7 x8 L,RmsOk ns rkvs/\rkvs.length<=i/\(1<=i->1<=rkvs.length)/\M'=M++.dct kvs::.lst (ns.map .str)::.dct rkvs::L/\S=[some (.int r),some (.ref M.length),some (.int m2),x3,x4,some (.ref (M.length+1)),some (.ref (M.length+2)),x7,x8]) ?_ ?_ ⟨[],_,_,_,_,_,[],⟨ACO,λ_ z=>nomatch z⟩,AAA _,λz=>absurd z (by decide),rfl,rfl⟩
  ·rintro S M' ⟨rkvs,r,x3,x4,x7,x8,L,hr,hrl,hrl1,rfl,rfl⟩
   rw[aM]at hrl hrl1
   refine⟨trivial,vM rfl h hp ⟨hm1,hm4⟩ hns (iP hrise) hr ⟨hrl1 (by simp;lia),by simp at hrl;lia⟩ rfl⟩
  ·rintro i y S M' hy ⟨rkvs,r,x3,x4,x7,x8,L,hr,hrl,hrl1,rfl,rfl⟩ G hG
   obtain⟨hi,rfl⟩:=bj.mp hy
   have him:i<m2:=by simpa using hi
   refine⟨trivial,?_⟩
   walk_at "dl"
   refine⟨r,rfl,λx r' x1 x8 xlow=>⟨rfl,?_⟩⟩
   have fin:∀(E:DEnds) (L:Mem) (S:SD) (ms:List Str) (n:Nat) (x3 x4:Option D),ms≠[]->ms.Sublist ns->E.nx=Fgt (M++[MO.dct kvs,MO.lst (ns.map .str),MO.dct []]) G->aq (M++.dct kvs::.lst (ns.map .str)::.dct rkvs::L) n (ms.map .str) ->
     S=[some (.int r'),some (.ref M.length),some (.int m2),x3,x4,some (.ref (M.length+1)),some (.ref (M.length+2)),some (.str x),some (.ref n)]->bd E S (M++.dct kvs::.lst (ns.map .str)::.dct rkvs::L):=by
    rintro E L S ms n x3 x4 msn mss hE hL rfl
    simp only[bd,bP]
    walk_at "dl"
    refine⟨_,hL,rkvs,kX,aB (by lia),⟨by decide,by decide⟩,?_⟩
    rw[hE,xc]
    refine Fgt.now (hG _ _ ⟨sd rkvs x (.tup (ms.map .str)),_,_,_,_,_,L,⟨mP hr.nd,qK hr.ok ⟨⟨⟨x1,x8⟩,xlow⟩,ms,rfl,msn,mss⟩⟩,?_,λ_=>gZ.2,rfl,rfl⟩)
    have:=(gZ (kvs:=rkvs) (k:=x) (d:=.tup (ms.map .str))).1
    lia
   simp only[bR]
   walk_at "dl"
   refine⟨ns.map .str,.inl fB,⟨by lia,by rw[AA4];lia⟩,?_⟩
   refine lA (λxs acc S M'=>∃i,xs=(gm 0 ns.length).drop i/\∃(ms:List Str) (L':Mem) (a:Option D),acc=ms.map .str/\ms.Sublist (ns.take i)/\ms.length+xs.length<=4/\M'=M++.dct kvs::.lst (ns.map .str)::.dct rkvs::L'/\S=[a,some (.ref (M.length+1)),some (.int r')]) ?_ ?_ _ _ _ _ ⟨0,?_,[],L,none,rfl,List.nil_sublist _,?_,rfl,rfl⟩
   ·rintro acc S M' ⟨_,_,ms,L',a,rfl,hsub0,_,rfl,rfl⟩
    have hsub:ms.Sublist ns:=hsub0.trans (ACB _ _)
    refine⟨trivial,?_⟩
    simp only[bQ]
    walk_at "dl"
    have asB:∀X:Mem,(M++MO.dct kvs::MO.lst (ns.map .str)::MO.dct rkvs::L')++X=M++MO.dct kvs::MO.lst (ns.map .str)::MO.dct rkvs::(L'++X):=λX=>by simp
    have hm:aq ((M++MO.dct kvs::MO.lst (ns.map .str)::MO.dct rkvs::L')++[MO.lst (ms.map .str)]++[MO.lst []]) (M++MO.dct kvs::MO.lst (ns.map .str)::MO.dct rkvs::L').length (ms.map .str):=am.more _
    have he:aq ((M++MO.dct kvs::MO.lst (ns.map .str)::MO.dct rkvs::L')++[MO.lst (ms.map .str)]++[MO.lst []]) ((M++MO.dct kvs::MO.lst (ns.map .str)::MO.dct rkvs::L')++[MO.lst (ms.map .str)]).length []:=am
    refine⟨AAX _,⟨fV (n:=29) hm (λx hx=>by obtain⟨z,_,rfl⟩:=AAB.mp hx;exact ad),fV (n:=29) he (λ_ z=>nomatch z)⟩,?_⟩
    rw[show eqD _ eqN (.ref (M++MO.dct kvs::MO.lst (ns.map .str)::MO.dct rkvs::L').length) (.ref ((M++MO.dct kvs::MO.lst (ns.map .str)::MO.dct rkvs::L')++[MO.lst (ms.map .str)]).length)=(ms.map D.str).isEmpty from(kZ (n:=29) hm he).trans pI]
    cases hms0:(ms.map D.str).isEmpty with
    | true =>
     refine fy ⟨ns.map .str,?_,?_⟩
     ·rw[AAR,asB];exact .inl fB
     ·have hks:cutD (ns.map D.str) none (some 1)=(ns.take 1).map D.str:=by
       rw[List.map_take];exact EK (k:=1)
      rw[hks]
      have kn:ns.take 1≠[]:=λz=>by
       have:=congrArg ACS z
       rw[ABM,AAa]at this
       lia
      have kss:(ns.take 1).Sublist ns:=ACB _ _
      generalize ns.take 1=ks at kn kss
      have q:aq ((M++MO.dct kvs::MO.lst (ns.map .str)::MO.dct rkvs::L')++[MO.lst (ms.map .str)]++[MO.lst []]++[MO.lst (ks.map .str)]) ((M++MO.dct kvs::MO.lst (ns.map .str)::MO.dct rkvs::L')++[MO.lst (ms.map .str)]++[MO.lst []]).length (ks.map .str):=am
      generalize ((M++MO.dct kvs::MO.lst (ns.map .str)::MO.dct rkvs::L')++[MO.lst (ms.map .str)]++[MO.lst []]).length=nn at q
      rw[AAR,AAR,asB]at q ⊢
      exact fin _ _ _ ks nn _ _ kn kss rfl q rfl
    | false =>
     refine eE ?_
     generalize (M++MO.dct kvs::MO.lst (ns.map .str)::MO.dct rkvs::L').length=nn at hm
     rw[AAR,asB]at hm ⊢
     exact fin _ _ _ ms nn _ _ (λz=>by rw[z]at hms0;cases hms0) hsub rfl hm rfl
   ·rintro y xs acc S M' ⟨j,hy,ms,L',a,rfl,hsub,hms,rfl,rfl⟩ K hK
    obtain⟨rfl,hj,aZ⟩:=rq hy
    refine⟨trivial,?_⟩
    walk_at "dl"
    refine⟨af (by lia),_,am,?_⟩
    have asB:∀X:Mem,(M++MO.dct kvs::MO.lst (ns.map .str)::MO.dct rkvs::L')++X=M++MO.dct kvs::MO.lst (ns.map .str)::MO.dct rkvs::(L'++X):=λX=>by simp
    obtain⟨w,hw,w0,w8⟩:∃w:Int,atI [D.int 1,D.int 2,D.int 4,D.int 8] (j:Int)=some (.int w)/\0<w/\w<=8:=by
     have:j=0\/j=1\/j=2\/j=3:=by lia
     rcases this with rfl | rfl | rfl | rfl
     ·exact⟨1,aA (j:=0) rfl,by decide,by decide⟩
     ·exact⟨2,aA (j:=1) rfl,by decide,by decide⟩
     ·exact⟨4,aA (j:=2) rfl,by decide,by decide⟩
     ·exact⟨8,aA (j:=3) rfl,by decide,by decide⟩
    rw[hw]
    refine⟨⟨w0,by lia⟩,by decide,⟨rfl,rfl⟩,?_⟩
    rw[AAO]at hms
    cases eqD ((M++MO.dct kvs::MO.lst (ns.map .str)::MO.dct rkvs::L')++[MO.lst [D.int 1,D.int 2,D.int 4,D.int 8]]) eqN (.int (r' / w % 2)) (.int 1) with
    | true =>
     refine fy ⟨ns.map .str,by rw[asB];exact .inl fB,?_⟩
     rw[aA (j:=j) (v:=.str ns[j]) (by rw[AAN,AA6 hj];rfl)]
     refine⟨by rw[AA4];exact aB (by lia),hK _ _ _ ⟨j+1,aZ,ms++[ns[j]],_,_,by simp,qC hj hsub,?_,asB _,rfl⟩⟩
     rw[AAH,AAy];lia
    | false=>exact eE (hK _ _ _ ⟨j+1,aZ,ms,_,_,rfl,qD hsub,by lia,asB _,rfl⟩)
   ·rw[List.drop_zero,AA4]
    congr 1
   ·rw[aM];simp;lia
 ·rintro i y S M' hy ⟨kvs,r,a,b,hp,hl,hl1,rfl,rfl⟩ G hG
  obtain⟨hi,rfl⟩:=bj.mp hy
  have him:i<m:=by simpa using hi
  refine⟨trivial,?_⟩
  walk_at "dl"
  refine⟨r,rfl,λx r' x1 x8 xlow=>⟨rfl,?_⟩⟩
  simp only[cg,cf]
  walk_at "dl"
  refine⟨by decide,kvs,aX,aB (by lia),⟨by decide,by decide⟩,Fgt.now (hG _ _ ⟨sd kvs x (.int (1+r' % 3)),_,_,_,⟨mP hp.nd,qK hp.ok ⟨⟨⟨x1,x8⟩,xlow⟩,_,rfl,?_,?_⟩⟩,?_,λ_=>gZ.2,dc,rfl⟩)⟩
  ·have:=AAn r' (show (3:Int)≠0 by decide);lia
  ·have:=AAg r' (show (0:Int)<3 by decide);lia
  ·have:=(gZ (kvs:=kvs) (k:=x) (d:=.int (1+r' % 3))).1;lia
theorem fu(T:Tops P w K mg base):Cal P w K mg base 2 "_law_house_by_digits" bF aV :=
 Cal.byD (N:=["_law_rest_here","_law_people","_law_many","_law_k","_law_name","_law_names","_law_rooms","_law_room","_law_members"]) T.b T.f_house_by_digits (by walk_at "sc") eN (by have:=sh T;walk_at "dv") eR
def ip:DSp:=λds M R=>∃c:Int,ds=[.int c]/\∀ps rs,HouseOk ps rs->R (bL ps rs) M
theorem uY:er ip oO:=by rintro ds M R ⟨c,rfl,_⟩;rfl
noncomputable def jD:D->Str×Int
 | .tup [.str x,.int v]=>(x,v)
 | _=>(ACn,0)
noncomputable def yG:D->Str×List Str
 | .tup [.str x,.tup ms]=>(x,ms.map unS)
 | _=>(ACn,[])
theorem tj(p:Str×Int):jD (bf p)=p:=rfl
theorem sZ(p:Str×List Str):yG (ba p)=p:=by
 show (p.1,(p.2.map D.str).map unS)=p
 rw[AAS]
 have:unS ∘ D.str=id:=rfl
 rw[this,ACY]
theorem uk{M:Mem}{ps:List (Str×Int)}(h:ps.length<64):SrtOk M (ps.map bf):=by
 refine⟨by rw[AA4];exact h,λx hx=>?_,λx hx y hy=>?_,.inr (.inr (.inl λx hx=>?_))⟩
 ·obtain⟨z,_,rfl⟩:=AAB.mp hx;rfl
 ·obtain⟨z,_,rfl⟩:=AAB.mp hx
  obtain⟨z',_,rfl⟩:=AAB.mp hy
  show (if eqD M 29 (.str z.1) (.str z'.1)=true then(if eqD M 29 (.int z.2) (.int z'.2)=true then true else true)else true)=true
  split
  ·split<;>rfl
  ·rfl
 ·obtain⟨z,_,rfl⟩:=AAB.mp hx;exact⟨_,_,rfl⟩
theorem uj{M:Mem}{ps:List (Str×List Str)}(h:ps.length<64):SrtOk M (ps.map ba):=by
 refine⟨by rw[AA4];exact h,λx hx=>?_,λx hx y hy=>?_,.inr (.inr (.inl λx hx=>?_))⟩
 ·obtain⟨z,_,rfl⟩:=AAB.mp hx
  show (true&&((z.2.map D.str).all (okP 28)&&true))=true
  rw[Bool.true_and,Bool.and_true,AAb]
  intro d hd
  obtain⟨w,_,rfl⟩:=AAB.mp hd
  rfl
 ·obtain⟨z,_,rfl⟩:=AAB.mp hx
  obtain⟨z',_,rfl⟩:=AAB.mp hy
  show (if eqD M 29 (.str z.1) (.str z'.1)=true then(if eqD M 29 (.tup (z.2.map D.str)) (.tup (z'.2.map D.str))=true then true else rB (eqD M 28) (cC M 28) (z.2.map D.str) (z'.2.map D.str))else true)=true
  split
  ·split
   ·rfl
   ·exact rA _ _
  ·rfl
 ·obtain⟨z,_,rfl⟩:=AAB.mp hx;exact⟨_,_,rfl⟩
theorem vX{M:Mem}{ps:List (Str×Int)}(nd:(ps.map (·.1)).Nodup)(h:lK M (ps.map bf)):(ps.map (·.1)).Pairwise λa b=>bB b a=false:=by
 unfold lK at h
 rw[AAd]at h ⊢
 rw[AAv,AAd]at nd
 refine(h.and nd).imp λ{a b} ⟨h1,h2⟩=>?_
 have h1':(if (b.1==a.1)=true then(if (b.2==a.2)=true then false else decide (b.2<a.2))else bB b.1 a.1)=false:=h1
 rwa [if_neg (by simpa using λz=>h2 z.symm)]at h1'
theorem xh{M:Mem}{rs:List (Str×List Str)}(nd:(rs.map (·.1)).Nodup)(h:lK M (rs.map ba)):(rs.map (·.1)).Pairwise λa b=>bB b a=false:=by
 unfold lK at h
 rw[AAd]at h ⊢
 rw[AAv,AAd]at nd
 refine(h.and nd).imp λ{a b} ⟨h1,h2⟩=>?_
 have h1':(if (b.1==a.1)=true then oi (eqD M 29) (ltD M 29) [.tup (b.2.map .str)] [.tup (a.2.map .str)]else bB b.1 a.1)=false:=h1
 rwa [if_neg (by simpa using λz=>h2 z.symm)]at h1'
def jY:DTS:=be (bi (aa (dCB bD (aa (dCB bn (aa (ab 3) ah)) ah)) (aa (dCB bD (aa (dCB bn (aa (ab 5) ah)) ah)) ah)))
def fb:DTS:=jB (dMl cu (ab 5) (aa (bi (aa (dOp qIx (ab 2) (dOp zu (dC (.int 5)) (ab 6))) (aa (dCB bD (aa (ab 8) ah)) ah))) ah))
def mn:DTS:=au (dIf (az (dOp qEq (ab 8) (gI ah))) (aJ (gI (aa (dOp qIx (ab 4) (dOp bC (dOp aC (ab 7) (dC (.int 16))) (dCB ju (aa (ab 4) ah)))) ah)) 8) aI) (fb)
def mq:DTS:=au (jo 1 [4,7] (aU (aa (dCB ju (aa (ab 4) ah)) ah)) (al 0) (az (dOp qEq (dOp bC (dOp aC (ab 2) (dOp qIx (gI (aa (dC (.int 1)) (aa (dC (.int 2)) (aa (dC (.int 4)) (aa (dC (.int 8)) ah))))) (ab 0))) (dC (.int 2))) (dC (.int 1)))) (dOp qIx (ab 1) (ab 0)) 8) (mn)
def mr:DTS:=au (gJ (aU (aa (dOp aG (dC (.int 1)) (dOp bC (dOp aC (dOp qIx (ab 1) (dC (.int 1))) (dC (.int 4))) (dC (.int 4)))) ah)) (al 6) (au (aJ (dOp qIx (ab 1) (dOp aG (dC (.int 6)) (ab 6))) 7) (mq))) (jY)
def mv:DTS:=au (aJ (gI ah) 5) (mr)
def mw:DTS:=au (aJ (dCB bn (aa (dLC 2 [] (cy (ab 3)) (dI 2 (aE (al 0) (aE (al 1) dJ))) lh (ab 0)) ah)) 4) (mv)
def mx:DTS:=au (jo 1 [2,1] (aU (aa (dOp aG (dC (.int 1)) (dOp bC (dOp qIx (ab 1) (dC (.int 1))) (dC (.int 4)))) ah)) (al 0) lh (bi (aa (dOp qIx (ab 1) (ab 0)) (aa (dOp aG (dC (.int 1)) (dOp bC (dOp qIx (ab 2) (dOp aG (dC (.int 2)) (ab 0))) (dC (.int 3)))) ah))) 3) (mw)
def mz:DTS:=au (aJ (dCB im (aa (dOp qIx (ab 1) (dC (.int 0))) (aa (dC (.int 6)) ah))) 2) (mx)
def mB:DTS:=au (aJ (dCB dL (aa (ab 0) (aa (dC (.int 12)) ah))) 1) (mz)
def tR:DTS:=au (dIf (az (dOp qEq (dOp bC (ab 0) (dC (.int 2))) (dC (.int 0)))) (be (dCB aV (aa (dOp aC (ab 0) (dC (.int 2))) ah))) aI) (mB)
theorem mX{B:Mem}{nN:Nat}{ns:List Str}{r':Int}{Q:DK}(hL:aq B nN (ns.map .str))(h4:ns.length<=4)(hQ:∀(ms:List Str) (L:Mem),ms.length<=4->ms.Sublist ns->Q (.ref (B++L).length) ((B++L)++[.lst (ms.map .str)])) :
  gK (λ_=>True) (al 0) (az (dOp qEq (dOp bC (dOp aC (ab 2) (dOp qIx (gI (aa (dC (.int 1)) (aa (dC (.int 2)) (aa (dC (.int 4)) (aa (dC (.int 8)) ah))))) (ab 0))) (dC (.int 2))) (dC (.int 1)))) (dOp qIx (ab 1) (ab 0)) Q (gm 0 ns.length) [] [none,some (.ref nN),some (.int r')] B:=by
 refine lA (λxs acc S M'=>∃i,xs=(gm 0 ns.length).drop i/\∃(ms:List Str) (L':Mem) (a:Option D),acc=ms.map .str/\ms.Sublist (ns.take i)/\ms.length+xs.length<=4/\M'=B++L'/\S=[a,some (.ref nN),some (.int r')]) ?_ ?_ _ _ _ _ ⟨0,rfl,[],[],none,rfl,List.nil_sublist _,?_,by simp,rfl⟩
 ·rintro acc S M' ⟨_,_,ms,L',a,rfl,hsub,hl,rfl,rfl⟩
  exact⟨trivial,hQ ms L' (by simpa using hl) (hsub.trans (ACB _ _))⟩
 ·rintro y xs acc S M' ⟨j,hy,ms,L',a,rfl,hsub,hms,rfl,rfl⟩ K hK
  obtain⟨rfl,hj,aZ⟩:=rq hy
  refine⟨trivial,?_⟩
  walk_at "dl"
  refine⟨af (by lia),_,am,?_⟩
  obtain⟨w,hw,w0,w8⟩:∃w:Int,atI [D.int 1,D.int 2,D.int 4,D.int 8] (j:Int)=some (.int w)/\0<w/\w<=8:=by
   have:j=0\/j=1\/j=2\/j=3:=by lia
   rcases this with rfl | rfl | rfl | rfl
   ·exact⟨1,aA (j:=0) rfl,by decide,by decide⟩
   ·exact⟨2,aA (j:=1) rfl,by decide,by decide⟩
   ·exact⟨4,aA (j:=2) rfl,by decide,by decide⟩
   ·exact⟨8,aA (j:=3) rfl,by decide,by decide⟩
  rw[hw]
  refine⟨⟨w0,by lia⟩,by decide,⟨rfl,rfl⟩,?_⟩
  rw[AAO]at hms
  cases eqD ((B++L')++[MO.lst [D.int 1,D.int 2,D.int 4,D.int 8]]) eqN (.int (r' / w % 2)) (.int 1) with
  | true =>
   refine fy ⟨ns.map .str,(hL.more _).more _,?_⟩
   rw[lE hj]
   refine⟨by rw[AA4];exact aB (by lia),hK _ _ _ ⟨j+1,aZ,ms++[ns[j]],L'++[MO.lst [D.int 1,D.int 2,D.int 4,D.int 8]],_,by simp,qC hj hsub,?_,by rw[AAR],rfl⟩⟩
   rw[AAH,AAy];lia
  | false=>exact eE (hK _ _ _ ⟨j+1,aZ,ms,L'++[MO.lst [D.int 1,D.int 2,D.int 4,D.int 8]],_,rfl,qD hsub,by lia,by rw[AAR],rfl⟩)
 ·rw[aM];simp;lia
theorem wP:WpT ip 9 tR:=by
 rintro ds M R ⟨c,rfl,h⟩
 simp only[tR,mB]
 walk_at "dl"
 refine⟨by decide,⟨rfl,rfl⟩,?_⟩
 cases eqD M eqN (.int (c % 2)) (.int 0) with
 | true=>exact fy ⟨⟨by decide,by decide⟩,c / 2,rfl,λps rs ok=>aH.now (h ps rs ok)⟩
 | false =>
  refine eE ⟨c,12,rfl,by decide,λxs hx=>?_⟩
  have ax:∀(j:Nat) (i:Int) (hj:j<12),i=(j:Int)->atI (xs.map D.int) i=some (.int (xs[j]'(by lia))):=λj i hj e=>by
   subst e
   exact lE (by lia)
  simp only[mz]
  walk_at "dl"
  refine⟨_,am,?_⟩
  rw[ax 0 0 (by decide) rfl]
  refine⟨_,rfl,λws hws=>?_⟩
  obtain⟨w6,wnd,wl,wlow⟩:=hws
  have hX:∀L:Mem,aq (M++[MO.lst (xs.map D.int)]++[MO.lst (ws.map D.str)]++L) M.length (xs.map D.int):=λL=>(am.more _).more _
  have hW:∀L:Mem,aq (M++[MO.lst (xs.map D.int)]++[MO.lst (ws.map D.str)]++L) (M++[MO.lst (xs.map D.int)]).length (ws.map D.str):=λL=>am.more _
  have hX0:=hX []
  have hW0:=hW []
  rw[ABR]at hX0 hW0
  generalize (M++[MO.lst (xs.map D.int)]).length=nw at hW hW0
  have hpre:M <+: M++[MO.lst (xs.map D.int)]++[MO.lst (ws.map D.str)]:=by rw[AAR];exact AAT _ _
  generalize M++[MO.lst (xs.map D.int)]++[MO.lst (ws.map D.str)]=B at hX hW hX0 hW0 hpre
  simp only[mx]
  walk_at "dl"
  refine⟨_,hX0,?_⟩
  obtain⟨x1,e1⟩:∃v:Int,atI (xs.map D.int) 1=some (.int v):=⟨_,ax 1 1 (by decide) rfl⟩
  rw[e1]
  have n0:=AAn x1 (show (4:Int)≠0 by decide)
  have n1:=AAg x1 (show (0:Int)<4 by decide)
  obtain⟨np,hnp⟩:∃l:Nat,(l:Int)=1+x1 % 4:=⟨(1+x1 % 4).toNat,by lia⟩
  dsimp only
  rw[<-hnp]
  refine⟨by decide,⟨by lia,by lia⟩,?_⟩
  obtain⟨ppl,hppl⟩:∃l:List (Str×Int),l=(AAl np).map λk=>(ws.getD k ACn,1+xs.getD (2+k) 0 % 3):=⟨_,rfl⟩
  have pl:ppl.length=np:=by rw[hppl];simp
  have pn:ppl.map (·.1)=ws.take np:=by
   rw[hppl,AAS]
   refine List.ext_getElem (by simp;lia) λi h1 h2=>?_
   simp only[AA4,List.length_range]at h1
   simp[AAJ,AA6 (show i<ws.length by lia)]
  have pnd:(ppl.map (·.1)).Nodup:=by rw[pn];exact wnd.sublist (ACB _ _)
  have plow:∀p∈ppl,Low p.1:=λp hp=>wlow _ (ABG (by rw[<-pn];exact AAt hp))
  have pok:∀p∈ppl,(1<=p.1.length/\p.1.length<=8)/\1<=p.2/\p.2<=3:=λp hp=>by
   have hm:p.1∈ws:=ABG (by rw[<-pn];exact AAt hp)
   refine⟨wl _ hm,?_⟩
   rw[hppl]at hp
   obtain⟨k,_,rfl⟩:=AAB.mp hp
   have:=AAn (xs.getD (2+k) 0) (show (3:Int)≠0 by decide)
   have:=AAg (xs.getD (2+k) 0) (show (0:Int)<3 by decide)
   dsimp only
   lia
  refine aR (λd=>match d with | .int k=>bf (ws.getD k.toNat ACn,1+xs.getD (2+k.toNat) 0 % 3) | _=>.non) (λS=>∃a,S=[a,some (.ref nw),some (.ref M.length)]) trivial _ _ _ (λd hd S hS=>?_) ⟨_,rfl⟩ ?_ ?_
  ·obtain⟨a,rfl⟩:=hS
   obtain⟨k,hk⟩:=AC9 hd
   obtain⟨k1,rfl⟩:=bj.mp hk
   have k2:k<np:=by simpa using k1
   refine⟨[some (.int (0+(k:Int))),some (.ref nw),some (.ref M.length)],⟨_,rfl⟩,λY hY=>?_⟩
   walk_at "dl"
   refine⟨_,hW0,?_⟩
   rw[show (0:Int)+(k:Int)=(k:Int) by lia,lE (show k<ws.length by lia)]
   refine⟨_,hX0,?_⟩
   rw[ax (2+k) (2+(k:Int)) (by lia) (by lia)]
   refine⟨by decide,af (by lia),?_⟩
   rw[show (0:Int)+(k:Int)=(k:Int) by lia]at hY
   simp only[AAw,bf,AAJ,AA6 (show k<ws.length by lia),AA6 (show 2+k<xs.length by lia),ADe]at hY
   exact hY
  ·simp only[AAa,aM]
   exact af (by lia)
  have em:(gm 0 ((np:Int)).toNat).map (λd=>match d with | .int k=>bf (ws.getD k.toNat ACn,1+xs.getD (2+k.toNat) 0 % 3) | _=>.non)=ppl.map bf:=by
   rw[hppl]
   unfold gm
   rw[AAS,AAS,AAw]
   refine ABx λk _=>?_
   simp[Function.comp]
  rw[AAo,em]
  simp only[mw]
  walk_at "dl"
  refine⟨_,am,λ_=>?_⟩
  refine aR (λd=>.str (jD d).1) (λS=>∃a b,S=[a,b]) am _ _ _ (λd hd S hS=>?_) ⟨_,_,rfl⟩ ?_ ?_
  ·obtain⟨a,b,rfl⟩:=hS
   obtain⟨q,hq,rfl⟩:=AAB.mp hd
   refine⟨[some (.str q.1),some (.int q.2)],⟨_,_,rfl⟩,λY hY=>?_⟩
   unfold bf
   walk_at "dl"
   exact⟨trivial,hY⟩
  ·simp only[AAa,AA4]
   exact af (by lia)
  have en:(ppl.map bf).map (λd=>D.str (jD d).1)=(ppl.map (·.1)).map .str:=by rw[AAS,AAS];rfl
  rw[AAo,en]
  unfold bn
  refine⟨_,.inl am,fN (by rw[AA4];lia),λys hys hrise=>?_⟩
  obtain⟨ns,rfl,hns⟩:=iR hys
  have nsu:=iP hrise
  clear hrise
  have nl:ns.length=np:=by rw[hns.length_eq,AA4,pl]
  have gP:∀L:Mem,aq (B++[MO.lst (ppl.map bf)]++[MO.lst ((ppl.map (·.1)).map D.str)]++[MO.lst (ns.map D.str)]++L) B.length (ppl.map bf):=λL=>((am.more _).more _).more _
  have gN:∀L:Mem,aq (B++[MO.lst (ppl.map bf)]++[MO.lst ((ppl.map (·.1)).map D.str)]++[MO.lst (ns.map D.str)]++L) (B++[MO.lst (ppl.map bf)]++[MO.lst ((ppl.map (·.1)).map D.str)]).length (ns.map D.str):=λL=>am.more _
  have gX:∀L:Mem,aq (B++[MO.lst (ppl.map bf)]++[MO.lst ((ppl.map (·.1)).map D.str)]++[MO.lst (ns.map D.str)]++L) M.length (xs.map D.int):=λL=>(((hX0.more _).more _).more _).more _
  have gW:∀L:Mem,aq (B++[MO.lst (ppl.map bf)]++[MO.lst ((ppl.map (·.1)).map D.str)]++[MO.lst (ns.map D.str)]++L) nw (ws.map D.str):=λL=>(((hW0.more _).more _).more _).more _
  have gpre:M <+: B++[MO.lst (ppl.map bf)]++[MO.lst ((ppl.map (·.1)).map D.str)]++[MO.lst (ns.map D.str)]:=by
   rw[AAR,AAR]
   exact hpre.trans (AAT _ _)
  generalize (B++[MO.lst (ppl.map bf)]++[MO.lst ((ppl.map (·.1)).map D.str)]).length=nN at gN
  generalize B++[MO.lst (ppl.map bf)]++[MO.lst ((ppl.map (·.1)).map D.str)]++[MO.lst (ns.map D.str)]=F at gP gN gX gW gpre
  generalize B.length=nP at gP
  simp only[mv,mr]
  walk_at "dl"
  have gX1:=gX [MO.lst []]
  refine⟨AAX _,_,gX1,?_⟩
  rw[e1]
  have m0:=AAn (x1 / 4) (show (4:Int)≠0 by decide)
  have m1:=AAg (x1 / 4) (show (0:Int)<4 by decide)
  obtain⟨nr,hnr⟩:∃l:Nat,(l:Int)=1+x1 / 4 % 4:=⟨(1+x1 / 4 % 4).toNat,by lia⟩
  dsimp only
  rw[<-hnr]
  refine⟨⟨by decide,by decide⟩,by decide,⟨by lia,by lia⟩,?_⟩
  refine aF (λi S M'=>∃(rms:List (Str×List Str)) (L:Mem) (a b d:Option D),rms.length=i/\(∀r∈rms,1<=r.1.length/\r.1.length<=8)/\((∀r∈rms,Low r.1/\r.2≠[]/\r.2.Sublist ns)/\rms.map (·.1)=(AAl i).map λj=>ws.getD (5-j) ACn)/\M'=F++.lst (rms.map ba)::L/\S=[some (.int c),some (.ref M.length),some (.ref nw),some (.ref nP),some (.ref nN),some (.ref F.length),a,b,d]) ?_ ?_ ⟨[],[],_,_,_,rfl,(λ_ z=>nomatch z),⟨(λ_ z=>nomatch z),rfl⟩,rfl,rfl⟩
  ·rintro S M' ⟨rms,L,a,b,d,hl,hrm,⟨hrm2,hrm3⟩,rfl,rfl⟩
   rw[aM,AAw]at hl
   refine⟨trivial,?_⟩
   simp only[jY]
   walk_at "dl"
   unfold bn
   refine⟨_,.inl (gP _),uk (by lia),λys hys hr1=>?_⟩
   obtain⟨ps,rfl,hps⟩:=qL bf jD tj hys
   try walk_at "dl"
   refine⟨_,am,_,.inl (aq.more (.inl aX) _),uj (by lia),λzs hzs hr2=>?_⟩
   obtain⟨rs,rfl,hrs⟩:=qL ba yG sZ hzs
   try walk_at "dl"
   have pnd2:(ps.map (·.1)).Nodup:=((hps.map _).nodup_iff).mpr pnd
   have pup:(ps.map (·.1)).Pairwise λa b=>bB b a=false:=vX pnd2 hr1
   have rnd:(rms.map (·.1)).Nodup:=by
    rw[aM,AAw]at hrm3
    rw[hrm3]
    rw[AAv,AAd]
    have:=List.nodup_range (n:=nr)
    rw[AAv]at this
    refine this.imp_of_mem λ{a b} ha hb hne e=>hne ?_
    have ha:=ABc.mp ha
    have hb:=ABc.mp hb
    rw[AAJ,AAJ,AA6 (show 5-a<ws.length by lia),AA6 (show 5-b<ws.length by lia)]at e
    have e2:ws[5-a]'(by lia)=ws[5-b]'(by lia):=e
    have pw:=List.pairwise_iff_getElem.mp (AAv.mp wnd)
    rcases Nat.lt_trichotomy (5-a) (5-b)with q | q | q
    ·exact absurd e2 (pw _ _ (by lia) (by lia) q)
    ·lia
    ·exact absurd e2.symm (pw _ _ (by lia) (by lia) q)
   have rnd2:(rs.map (·.1)).Nodup:=((hrs.map _).nodup_iff).mpr rnd
   have rup:(rs.map (·.1)).Pairwise λa b=>bB b a=false:=xh rnd2 hr2
   have ens:ps.map (·.1)=ns:=mL pnd2 (hns.nodup_iff.mpr pnd) (λx=>by rw[hns.mem_iff];exact(hps.map _).mem_iff) pup nsu
   refine⟨_,am,af (by lia),aH.keep (h ps rs ⟨?_,?_,λp hp=>(pok p (hps.mem_iff.mp hp)).2,λp hp=>(pok p (hps.mem_iff.mp hp)).1,?_,λr hr=>hrm r (hrs.mem_iff.mp hr),λp hp=>plow p (hps.mem_iff.mp hp),fi pup pnd2,λr hr=>(hrm2 r (hrs.mem_iff.mp hr)).1,fi rup rnd2,λr hr=>by rw[ens];exact(hrm2 r (hrs.mem_iff.mp hr)).2⟩) jk ?_⟩
   ·exact((hps.map _).nodup_iff).mpr pnd
   ·rw[hps.length_eq];lia
   ·rw[hrs.length_eq];lia
   ·simp only[AAR]
    exact gpre.trans (AAT _ _)
  ·rintro i y S M' hy ⟨rms,L,a,b,d,hl,hrm,⟨hrm2,hrm3⟩,rfl,rfl⟩ G hG
   obtain⟨hi,rfl⟩:=bj.mp hy
   have him:i<nr:=by simpa using hi
   refine⟨trivial,?_⟩
   walk_at "dl"
   refine⟨_,gX _,?_⟩
   obtain⟨bits,eb⟩:∃v:Int,atI (xs.map D.int) (6+(0+(i:Int)))=some (.int v):=⟨_,ax (6+i) _ (by lia) (by lia)⟩
   rw[eb]
   simp only[mq]
   walk_at "dl"
   refine⟨_,gN _,⟨by lia,by rw[AA4];lia⟩,?_⟩
   rw[AA4,AAw]
   refine mX (gN _) (by lia) λms L2 hms hsub=>?_
   have fin:∀(E:DEnds) (L:Mem) (ms:List Str) (n:Nat),ms≠[]->ms.Sublist ns->E.nx=Fgt (F++[MO.lst []]) G->aq (F++.lst (rms.map ba)::L) n (ms.map .str)->fb E [some (.int c),some (.ref M.length),some (.ref nw),some (.ref nP),some (.ref nN),some (.ref F.length),some (.int (0+(i:Int))),some (.int bits),some (.ref n)] (F++.lst (rms.map ba)::L):=by
    intro E L ms n msn mss hE hL
    simp only[fb]
    walk_at "dl"
    refine⟨⟨_,.inl aX⟩,_,gW _,?_⟩
    have h5:5-i<ws.length:=by lia
    rw[show (5:Int)-(0+(i:Int))=((5-i:Nat):Int) by lia,lE h5]
    refine⟨_,hL,af (by lia),rms.map ba,aX,by rw[AA4];exact aB (by lia),?_⟩
    rw[hE,dc]
    refine Fgt.now (hG _ _ ⟨rms++[(ws[5-i],ms)],L,_,_,_,by simp[hl],λr hr=>?_,⟨λr hr=>?_,?_⟩,by simp[ba],rfl⟩)
    rcases AB6.mp hr with hr | hr
    ·exact hrm r hr
    ·rw[AB0.mp hr]
     exact wl _ (ABh h5)
    ·rcases AB6.mp hr with hr | hr
     ·exact hrm2 r hr
     ·rw[AB0.mp hr]
      exact⟨wlow _ (ABh h5),msn,mss⟩
    ·rw[AAp,hrm3,ADo,AAp]
     simp[AAJ,AA6 h5]
   have asF:∀X:Mem,(F++MO.lst (rms.map ba)::L)++X=F++MO.lst (rms.map ba)::(L++X):=λX=>by simp
   simp only[mn]
   walk_at "dl"
   have hm:aq ((F++MO.lst (rms.map ba)::L)++L2++[MO.lst (ms.map .str)]++[MO.lst []]) ((F++MO.lst (rms.map ba)::L)++L2).length (ms.map .str):=am.more _
   have he:aq ((F++MO.lst (rms.map ba)::L)++L2++[MO.lst (ms.map .str)]++[MO.lst []]) ((F++MO.lst (rms.map ba)::L)++L2++[MO.lst (ms.map .str)]).length []:=am
   refine⟨AAX _,⟨fV (n:=29) hm (λx hx=>by obtain⟨z,_,rfl⟩:=AAB.mp hx;exact ad),fV (n:=29) he (λ_ z=>nomatch z)⟩,?_⟩
   rw[show eqD _ eqN (.ref ((F++MO.lst (rms.map ba)::L)++L2).length) (.ref ((F++MO.lst (rms.map ba)::L)++L2++[MO.lst (ms.map .str)]).length)=(ms.map D.str).isEmpty from(kZ (n:=29) hm he).trans pI]
   cases hms0:(ms.map D.str).isEmpty with
   | true =>
    refine fy ?_
    have q1:aq ((F++MO.lst (rms.map ba)::L)++L2++[MO.lst (ms.map .str)]++[MO.lst []]) nN (ns.map D.str):=by
     rw[AAR,AAR,asF];exact gN _
    refine⟨⟨by decide,by decide⟩,_,q1,by rw[AA4];lia,_,q1,?_⟩
    rw[AA4]
    obtain⟨j,hj,ej,_⟩:=wA (xs:=ns.map D.str) (r:=bits / 16) (by rw[AA4];lia)
    rw[AA4]at ej
    rw[ej,List.getElem_map]
    refine⟨af (by lia),?_⟩
    rw[AA4]at hj
    have q:aq ((F++MO.lst (rms.map ba)::L)++L2++[MO.lst (ms.map .str)]++[MO.lst []]++[MO.lst ([ns[j]].map .str)]) ((F++MO.lst (rms.map ba)::L)++L2++[MO.lst (ms.map .str)]++[MO.lst []]).length ([ns[j]].map .str):=am
    generalize ((F++MO.lst (rms.map ba)::L)++L2++[MO.lst (ms.map .str)]++[MO.lst []]).length=nn at q
    have asF3:∀X1 X2 X3:Mem,(F++MO.lst (rms.map ba)::L)++L2++X1++X2++X3=F++MO.lst (rms.map ba)::(L++(L2++(X1++(X2++X3)))):=λX1 X2 X3=>by simp
    rw[asF3]at q
    show fb _ _ ((F++MO.lst (rms.map ba)::L)++L2++[MO.lst (ms.map .str)]++[MO.lst []]++[MO.lst ([ns[j]].map .str)])
    rw[asF3]
    exact fin _ _ [ns[j]] nn (by simp) (List.singleton_sublist.mpr (ABh hj)) rfl q
   | false =>
    refine eE ?_
    generalize ((F++MO.lst (rms.map ba)::L)++L2).length=nn at hm
    have asF2:∀X1 X2:Mem,(F++MO.lst (rms.map ba)::L)++L2++X1++X2=F++MO.lst (rms.map ba)::(L++(L2++(X1++X2))):=λX1 X2=>by simp
    rw[asF2]at hm ⊢
    exact fin _ _ ms nn (λz=>by rw[z]at hms0;cases hms0) hsub rfl hm
theorem xB(T:Tops P w K mg base):Cal P w K mg base 3 "_law_house" oO ip :=
 Cal.byD (N:=["_law_cell","_law_numbers","_law_words_here","_law_people","_law_names","_law_rooms","_law_k","_law_bits","_law_members"]) T.b T.f_house (by walk_at "sc") uY (by have:=mR T;have:=xz T;have:=fu T;walk_at "dv") wP
def jr:DSp:=λds M R=>∃c:Int,ds=[.int c]/\∀n:Int,R (.int n) M
theorem xP:er jr uE:=by rintro ds M R ⟨c,rfl,_⟩;rfl
def qo:DTS:=be (ab 1)
def qp:DTS:=au (gJ (cy (dCB dL (aa (ab 0) (aa (dC (.int 14)) ah)))) (al 2) (aJ (dOp aG (dOp gF (ab 1) (dC (.int 1000000))) (ab 2)) 1)) (qo)
def qr:DTS:=au (aJ (dC (.int 0)) 1) (qp)
def yI:DTS:=au (dIf (az (dOp qEq (dOp bC (ab 0) (dC (.int 2))) (dC (.int 0)))) (be (dOp aC (ab 0) (dC (.int 2)))) aI) (qr)
theorem ze:WpT jr 3 yI:=by
 rintro ds M R ⟨c,rfl,h⟩
 simp only[yI]
 walk_at "dl"
 refine⟨by decide,⟨rfl,rfl⟩,?_⟩
 generalize eqD M eqN (.int (c % 2)) (.int 0)=b
 cases b with
 | true=>exact fy ⟨⟨by decide,by decide⟩,aH.now (h _)⟩
 | false =>
  refine eE ?_
  simp only[qr,qp]
  walk_at "dl"
  refine⟨c,14,rfl,by decide,λxs xl=>⟨_,.inl ae,λ_=>?_⟩⟩
  refine aF (λi S M'=>M'=M++[.lst (xs.map .int)]/\∃(n:Int) (a:Option D),S=[some (.int c),some (.int n),a]) ?_ ?_ ⟨rfl,0,_,rfl⟩
  ·rintro S M' ⟨rfl,n,a,rfl⟩
   refine⟨.inl ae,?_⟩
   simp only[qo]
   walk_at "dl"
   exact aH.int (h _) cv
  ·rintro i y S M' hy ⟨rfl,n,a,rfl⟩ G hG
   rw[AAN]at hy
   obtain⟨m,hm,rfl⟩:=ABH.mp hy
   refine⟨.inl ae,?_⟩
   walk_at "dl"
   exact⟨.inr ⟨by decide,by decide⟩,Fgt.now (hG _ _ ⟨rfl,_,_,rfl⟩)⟩
theorem Aa(T:Tops P w K mg base):Cal P w K mg base 2 "_law_rest" uE jr :=
 Cal.byD (N:=["_law_cell","_law_rest_here","_law_number"]) T.b T.f_rest (by walk_at "sc") xP (by have:=mR T;walk_at "dv") ze
def iq:DSp:=λds M R=>∃(ps:List (Str×Int)) (r:List D),ds=[.tup (.tup (ps.map bf)::r)]/\Few ps/\R (.ref M.length) (M++[.lst (aw ps)])
theorem uZ:er iq oP:=by rintro ds M R ⟨ps,r,rfl,_⟩;rfl
def mC:DTS:=be (ab 1)
def mD:DTS:=au (gJ (cy (dOp qIx (ab 0) (dC (.int 0)))) (dI 2 (aE (al 2) (aE (al 3) dJ))) (aJ (dOp aG (ab 1) (dLC 1 [2] (aU (aa (ab 3) ah)) (al 0) lh (bi (aa (ab 1) (aa (ab 0) ah))))) 1)) (mC)
def tS:DTS:=au (aJ (gI ah) 1) (mD)
theorem wQ:WpT iq 4 tS:=by
 rintro ds M R ⟨ps,r,rfl,⟨h4,h3⟩,h⟩
 simp only[tS,mD]
 walk_at "dl"
 refine⟨AAX _,λ_=>?_⟩
 have hb:∀qs:List (Str×Int),(∀p∈qs,p∈ps)->qs.length<=4->(aw qs).length<=12:=λqs h1 h2=>by
  have:=kh (ps:=qs) λp hp=>h3 p (h1 p hp)
  lia
 refine lx (λys S M'=>∃qs rs a b q,ps=qs++rs/\ys=rs.map bf/\M <+: M'/\M.length<=q/\M'[q]?=some (.lst (aw qs))/\S=[some (.tup (.tup (ps.map bf)::r)),some (.ref q),a,b]) ?_ ?_ _ _ _ ⟨[],ps,_,_,M.length,rfl,rfl,cv,AAA _,ae,rfl⟩
 ·rintro S M' ⟨qs,rs,a,b,q,e,hq,pM,qM,gq,rfl⟩
  have:rs=[]:=by cases rs<;>simp_all
  subst this
  rw[ABR]at e
  subst e
  refine⟨trivial,?_⟩
  simp only[mC]
  walk_at "dl"
  exact aH.chgL .refl h qM gq pM sG
 ·rintro x xs S M' ⟨qs,rs,a,b,q,e,hq,pM,qM,gq,rfl⟩ G hG
  cases rs with
  | nil=>cases hq
  | cons p rs =>
   rw[AAQ]at hq
   injection hq with e1 e2
   subst e1
   have hp:=h3 p (by rw[e];simp)
   refine⟨trivial,?_⟩
   unfold bf
   walk_at "dl"
   refine⟨trivial,⟨by lia,by lia⟩,?_⟩
   refine aR (λk=>.tup [.str p.1,k]) (λS=>∃a,S=[a,some (.str p.1)]) trivial _ _ _ (λk hk S hS=>?_) ⟨_,rfl⟩ ?_ ?_
   ·obtain⟨a,rfl⟩:=hS
    refine⟨[some k,some (.str p.1)],⟨_,rfl⟩,λY hY=>?_⟩
    walk_at "dl"
    exact⟨af (by lia),hY⟩
   ·simp only[AAa,aM]
    exact af (by lia)
   ·have l0:ps.length=qs.length+(rs.length+1):=by rw[e];simp
    have l1:=hb qs (λq hq=>by rw[e];simp[hq]) (by lia)
    rw[AAo]
    refine⟨aw qs,cN p,ap gq,ae,?_,?_⟩
    ·rw[eO];exact af (by lia)
    ·have ml:=pM.length_le
     refine Fgt.now (hG _ _ ⟨qs++[p],rs,_,_,_,by rw[e];simp,e2,(pM.trans cv).trans cv,?_,?_,rfl⟩)
     ·simp only[AAH];lia
     ·rw[show aw (qs++[p])=aw qs++cN p by simp[aw]]
      exact ae
theorem xC(T:Tops P w K mg base):Cal P w K mg base 1 "_law_hands" oP iq :=
 Cal.byD (N:=["_law_house_here","_law_found","_law_name","_law_many"]) T.b T.f_hands (by walk_at "sc") uZ (by walk_at "dv") wQ
def bG:DSp:=λds M R=>∃(n:Int) (p q:Nat) (hs sts:List D),ds=[.int n,.ref p,.ref q]/\aq M p hs/\(∀x∈hs,Hd x)/\1<=hs.length/\hs.length<=12/\aq M q sts/\(∀x∈sts,St x)/\∀m,St m->R m M
theorem ph:er bG iT:=by rintro ds M R ⟨n,p,q,hs,sts,rfl,_⟩;rfl
def bW:DTS:=be (bi (aa (dOp aG (dC (.int 1)) (dOp bC (dOp aC (ab 0) (dC (.int 5))) (dC (.int 40)))) (aa (dOp qIx (ab 1) (dOp bC (dOp aC (ab 0) (dC (.int 200))) (dCB ju (aa (ab 1) ah)))) ah)))
def mj:DTS:=au (dIf (yY (az (dOp qGt (dOp bC (ab 0) (dC (.int 5))) (dC (.int 0)))) (az (dOp qNe (ab 2) (gI ah)))) (be (dOp qIx (ab 2) (dOp bC (dOp aC (ab 0) (dC (.int 5))) (dCB ju (aa (ab 2) ah))))) aI) (bW)
theorem rL:WpT bG 3 mj:=by
 rintro ds M R ⟨n,p,q,hs,sts,rfl,hp,hh,h1,h12,hq,hst,h⟩
 have last:bW (EE M R) [some (.int n),some (.ref p),some (.ref q)] (M++[.lst []])/\bW (EE M R) [some (.int n),some (.ref p),some (.ref q)] M:=by
  have go:∀B:Mem,M <+: B->bW (EE M R) [some (.int n),some (.ref p),some (.ref q)] B:=λB pB=>by
   simp only[bW]
   walk_at "dl"
   obtain⟨x,hx,ex⟩:=fG (xs:=hs) (i:=n / 200) h1
   refine⟨⟨by decide,by decide⟩,by decide,⟨by decide,by decide⟩,_,bz pB hp,by lia,_,bz pB hp,?_⟩
   rw[ex]
   obtain⟨z,k,rfl⟩:=hh x hx
   exact⟨af (by decide),aH.keep (h _ ⟨_,_,_,rfl⟩) (.tup (.cons (.int _) (.cons (vR ⟨_,_,rfl⟩) .nil))) pB⟩
  exact⟨go _ cv,go _ ACV⟩
 simp only[mj]
 walk_at "dl"
 refine⟨by decide,?_⟩
 split
 ·have nf:=xE hq λx hx=>(yJ 2 29 x (by decide) (hst x hx).pl).1
  refine⟨AAX _,nf.1,?_⟩
  rw[nf.2]
  cases e:sts.isEmpty with
  | true=>exact eE last.1
  | false =>
   have n1:1<=sts.length:=by
    cases sts with
    | nil=>cases e
    | cons a l=>simp
   obtain⟨x,hx,ex⟩:=fG (xs:=sts) (i:=n / 5) n1
   refine fy ⟨⟨by decide,by decide⟩,_,bz cv hq,by lia,_,bz cv hq,?_⟩
   rw[ex]
   exact aH.keep (h x (hst x hx)) (bo 2 x (hst x hx).pl) cv
 ·exact last.2
theorem ka(T:Tops P w K mg base):Cal P w K mg base 1 "_law_message" iT bG :=
 Cal.byD (N:=["_law_rest_here","_law_hands_here","_law_stamps"]) T.b T.f_message (by walk_at "sc") ph (by walk_at "dv") rL
def io:DSp:=λds M R=>ds=[]/\∀s:Str,s.length=94->R (.str s) M
theorem uX:er io oN:=by rintro ds M R ⟨rfl,_⟩;rfl
def mh:DTS:=be (dOp aG (dOp aG (dOp aG (ab 0) (dC (.str "\""))) (dC (.str "\\"))) (dC (.str "`")))
def tD:DTS:=au (aJ (dC (.str " !#$&'()*+,-./0123456789:;<=>?@ABCDEFGHIJKLMNOPQRSTUVWXYZ[]^_abcdefghijklmnopqrstuvwxyz{|}~")) 0) (mh)
theorem wO:WpT io 1 tD:=by
 rintro ds M R ⟨rfl,h⟩
 simp only[tD,mh]
 walk_at "dl"
 have s0:(AA1 " !#$&'()*+,-./0123456789:;<=>?@ABCDEFGHIJKLMNOPQRSTUVWXYZ[]^_abcdefghijklmnopqrstuvwxyz{|}~").length=91:=by decide +kernel
 generalize AA1 " !#$&'()*+,-./0123456789:;<=>?@ABCDEFGHIJKLMNOPQRSTUVWXYZ[]^_abcdefghijklmnopqrstuvwxyz{|}~" = S at s0
 have s1:(AA1 "\"").length=1/\(AA1 "\\").length=1/\(AA1 "`").length=1:=by decide +kernel
 obtain⟨s1,s2,s3⟩:=s1
 refine⟨by rw[s0,s1];exact af (by decide),by rw[bp,s0,s1,s2];exact af (by decide),by rw[bp,bp,s0,s1,s2,s3];exact af (by decide),aH.now (h _ ?_)⟩
 rw[bp,bp,bp,s0,s1,s2,s3]
theorem xA(T:Tops P w K mg base):Cal P w K mg base 1 "_law_signs" oN io :=
 Cal.byD (N:=["_law_some"]) T.b T.f_signs (by walk_at "sc") uX (by walk_at "dv") wO
def dN:DSp:=λds M R=>∃(n:Int) (q:Nat) (xs:List Str),ds=[.int n,.ref q]/\aq M q (xs.map .str)/\1<=xs.length/\xs.length<=4/\(∀x∈xs,x.length<=8)/\∀s:Str,R (.str s) M
theorem sA:er dN kM:=by rintro ds M R ⟨n,q,xs,rfl,_⟩;rfl
def iA:DTS:=be (dSl (ab 3) bO (fF (dC (.int 60))))
def rT:DTS:=aJ (dOp aC (ab 0) (dC (.int 8))) 0
def jR:DTS:=au (gJ (aU (aa (dOp aG (dC (.int 1)) (dOp bC (dOp aC (ab 0) (dC (.int 3))) (dC (.int 7)))) ah)) (al 5) (au (aJ (dOp aG (ab 3) (dOp qIx (ab 6) (dOp bC (dOp aC (ab 0) (dC (.int 21))) (dC (.int 8))))) 3) (rT))) (iA)
def jS:DTS:=au (aJ (gI (aa (dC (.str "@")) (aa (dOp aG (dC (.str "@")) (dOp qIx (ab 1) (dC (.int 0)))) (aa (dOp aG (dC (.str "@")) (dOp qIx (ab 1) (dUn Ck (dC (.int 1))))) (aa (dC (.str " ")) (aa (dC (.str "a")) (aa (dOp qIx (ab 1) (dC (.int 0))) (aa (dC (.str ", ")) (aa (dOp aG (dOp aG (dC (.str "@")) (dOp qIx (ab 1) (dC (.int 0)))) (dC (.str "s"))) ah))))))))) 6) (jR)
def jT:DTS:=be (ab 3)
def rV:DTS:=aJ (dOp aC (ab 0) (dCB ju (aa (ab 2) ah))) 0
def jU:DTS:=au (gJ (aU (aa (ab 4) ah)) (al 5) (au (aJ (dOp aG (ab 3) (dOp qIx (ab 2) (dOp bC (ab 0) (dCB ju (aa (ab 2) ah))))) 3) (rV))) (jT)
def jV:DTS:=au (aJ (dOp aC (ab 0) (dC (.int 180))) 0) (jU)
def jW:DTS:=au (dIf (az (dOp qEq (dOp bC (ab 0) (dC (.int 3))) (dC (.int 0)))) (au (aJ (dOp aG (dC (.int 1)) (dOp bC (dOp aC (ab 0) (dC (.int 3))) (dC (.int 60)))) 4) (jV)) aI) (jS)
def jX:DTS:=au (aJ (dC (.str "")) 3) (jW)
def qh:DTS:=au (aJ (dCB io ah) 2) (jX)
theorem sV:WpT dN 7 qh:=by
 rintro ds M R ⟨n,q,xs,rfl,hq,x1,x4,x8,h⟩
 simp only[qh]
 walk_at "dl"
 refine⟨rfl,λsg sl=>?_⟩
 simp only[jX]
 walk_at "dl"
 simp only[jW]
 walk_at "dl"
 refine⟨by decide,⟨rfl,rfl⟩,?_⟩
 have e0:(AA1 "").length=0:=by decide +kernel
 generalize eqD M eqN (.int (n % 3)) (.int 0)=b
 cases b with
 | true =>
  have m0:=gv (a:=n / 3) (b:=60) (by decide)
  have m1:=kb (a:=n / 3) (b:=60) (by decide)
  refine fy ⟨⟨by decide,by decide⟩,by decide,?_⟩
  generalize n / 3 % 60=m at m0 m1
  simp only[jV,jU]
  walk_at "dl"
  refine⟨⟨by decide,by decide⟩,⟨by lia,by lia⟩,?_⟩
  refine aF (λi S M'=>M'=M/\∃(n:Int) (tx:Str) (a:Option D),tx.length<=i/\S=[some (.int n),some (.ref q),some (.str sg),some (.str tx),some (.int (1+m)),a,none]) ?_ ?_ ⟨rfl,_,_,_,by rw[e0];exact AAA _,rfl⟩
  ·rintro S M' ⟨rfl,n,tx,a,_,rfl⟩
   refine⟨trivial,?_⟩
   simp only[jT]
   walk_at "dl"
   exact aH.now (h _)
  ·rintro i y S M' hy ⟨rfl,n,tx,a,tl,rfl⟩ G hG
   obtain⟨hi,rfl⟩:=bj.mp hy
   refine⟨trivial,?_⟩
   walk_at "dl"
   obtain⟨c,hc,ec⟩:=fG (xs:=sg.cps.toList) (i:=n) (by show 1<=sg.cps.toList.length;rw[show sg.cps.toList.length=94 from sl];decide)
   refine⟨by rw[sl];exact af (by decide),by rw[sl];decide,by rw[sl];exact af (by decide),?_⟩
   rw[show (sg.length:Int)=(sg.cps.toList.length:Int)from rfl,ec]
   refine⟨af (by show tx.length+1<=1000;lia),by rw[sl];exact af (by decide),⟨by show (0:Int)<(sg.length:Int);rw[sl];decide,by show (sg.length:Int)<_;rw[sl];decide⟩,Fgt.now (hG _ _ ⟨rfl,_,_,_,?_,rfl⟩)⟩
   rw[bp]
   show tx.length+1<=i+1
   lia
 | false =>
  refine eE ?_
  simp only[jS]
  walk_at "dl"
  obtain⟨a,ea,a8⟩:∃a:Str,atI (xs.map D.str) 0=some (.str a)/\a.length<=8:=by
   cases xs with
   | nil=>simp at x1
   | cons x l=>exact⟨x,aA (j:=0) rfl,x8 x (by simp)⟩
  obtain⟨b,eb,b8⟩:∃a:Str,atI (xs.map D.str) (-1)=some (.str a)/\a.length<=8:=by
   have ne:xs≠[]:=λz=>by rw[z]at x1;simp at x1
   rw[<-List.dropLast_concat_getLast ne,AAp]
   exact⟨_,rE,x8 _ (List.getLast_mem ne)⟩
  have sa:(AA1 "@").length=1/\(AA1 "s").length=1/\(AA1 " ").length=1/\(AA1 "a").length=1/\(AA1 ", ").length=2:=by decide +kernel
  obtain⟨sa,ss,s1,s2,s3⟩:=sa
  refine⟨_,hq,?_⟩
  rw[ea]
  refine⟨by rw[sa];exact af (by lia),_,hq,?_⟩
  rw[eb]
  refine⟨by rw[sa];exact af (by lia),_,hq,?_⟩
  rw[ea]
  refine⟨_,hq,?_⟩
  rw[ea]
  refine⟨by rw[sa];exact af (by lia),by rw[bp,sa,ss];exact af (by lia),af (by decide),?_⟩
  have hp:∃ys:List Str,ys.length=8/\(∀y∈ys,y.length<=10)/\[D.str (AA1 "@"),.str (AA1 "@" ++ a),.str (AA1 "@" ++ b),.str (AA1 " "),.str (AA1 "a"),.str a,.str (AA1 ", "),.str (AA1 "@" ++ a++AA1 "s")]=ys.map D.str:=by
   refine⟨[AA1 "@",AA1 "@" ++ a,AA1 "@" ++ b,AA1 " ",AA1 "a",a,AA1 ", ",AA1 "@" ++ a++AA1 "s"],rfl,λy hy=>?_,rfl⟩
   simp only[AAG,List.mem_nil_iff,or_false]at hy
   rcases hy with rfl | rfl | rfl | rfl | rfl | rfl | rfl | rfl
   ·rw[sa];lia
   ·rw[bp,sa];lia
   ·rw[bp,sa];lia
   ·rw[s1];lia
   ·rw[s2];lia
   ·lia
   ·rw[s3];lia
   ·rw[bp,bp,sa,ss];lia
  obtain⟨ys,yl,y10,ey⟩:=hp
  rw[ey]
  simp only[jR]
  walk_at "dl"
  have m0:=gv (a:=n / 3) (b:=7) (by decide)
  have m1:=kb (a:=n / 3) (b:=7) (by decide)
  refine⟨⟨by decide,by decide⟩,by decide,⟨by lia,by lia⟩,?_⟩
  generalize n / 3 % 7=m at m0 m1
  refine aF (λi S M'=>M'=M++[.lst (ys.map .str)]/\∃(n:Int) (tx:Str) (a:Option D),tx.length<=10*i/\S=[some (.int n),some (.ref q),some (.str sg),some (.str tx),none,a,some (.ref M.length)]) ?_ ?_ ⟨rfl,_,_,_,by rw[e0];exact AAA _,rfl⟩
  ·rintro S M' ⟨rfl,n,tx,a,tl,rfl⟩
   refine⟨trivial,?_⟩
   simp only[iA]
   walk_at "dl"
   rw[aM]at tl
   exact⟨af (by lia),aH.str (h _) cv⟩
  ·rintro i y S M' hy ⟨rfl,n,tx,a,tl,rfl⟩ G hG
   obtain⟨hi,rfl⟩:=bj.mp hy
   refine⟨trivial,?_⟩
   walk_at "dl"
   obtain⟨d,hd,ed⟩:=fG (xs:=ys.map D.str) (i:=n / 21) (by rw[AA4,yl];decide)
   rw[AA4,yl]at ed
   obtain⟨c,hc,rfl⟩:=AAB.mp hd
   have:=y10 c hc
   refine⟨⟨by decide,by decide⟩,by decide,_,.inl ae,?_⟩
   rw[show n / 21 % 8=n / 21 % ((8:Nat):Int)from rfl,ed]
   refine⟨af (by lia),⟨by decide,by decide⟩,Fgt.now (hG _ _ ⟨rfl,_,_,_,?_,rfl⟩)⟩
   rw[bp]
   lia
theorem uH(T:Tops P w K mg base):Cal P w K mg base 2 "_law_saying" kM dN :=
 Cal.byD (N:=["_law_rest_here","_law_names","_law_signs_here","_law_text","_law_many","_law_k","_law_pieces"]) T.b T.f_saying (by walk_at "sc") sA (by have:=xA T;walk_at "dv") sV
def fH:DSp:=λds M R=>∃(n:Int) (p:Nat) (hs:List D),ds=[.int n,.ref p]/\aq M p hs/\Hands hs/\∀f u,Vec hs f u->R (.tup u) M
theorem sx:er fH kK:=by rintro ds M R ⟨n,p,hs,rfl,_⟩;rfl
def jE:DTS:=be (dCB bD (aa (ab 2) ah))
def fL:DTS:=aJ (dOp aC (ab 0) (dC (.int 180))) 0
def jF:DTS:=au (gJ (cy (ab 1)) (al 3) (au (dIf (az (dOp qGt (dOp bC (ab 0) (dC (.int 3))) (dC (.int 0)))) (jB (dMl cu (ab 2) (aa (bi (aa (ab 3) (aa (dOp aG (dC (.int 1)) (dOp bC (dOp aC (ab 0) (dC (.int 3))) (dOp qIx (gI (aa (dC (.int 4)) (aa (dC (.int 60)) ah))) (dOp zu (dOp bC (ab 0) (dC (.int 3))) (dC (.int 1)))))) ah))) ah))) aI) (fL))) (jE)
def qf:DTS:=au (aJ (gI ah) 2) (jF)
theorem sT:WpT fH 4 qf:=by
 rintro ds M R ⟨n,p,hs,rfl,hp,hh,h⟩
 simp only[qf,jF]
 walk_at "dl"
 refine⟨AAX _,_,bz cv hp,λ_=>?_⟩
 have h12:=hh.len.2
 have pM:=uM hp
 refine aF (λi S M'=>∃(n:Int) (f:D->Int) (us:List D) (a:Option D),M <+: M'/\M'[M.length]?=some (.lst us)/\us.length<=i/\Vec (hs.take i) f us/\S=[some (.int n),some (.ref p),some (.ref M.length),a]) ?_ ?_ ⟨_,λ_=>0,[],_,cv,ae,AAA _,⟨(λ_ z=>nomatch z),λ_ z=>absurd z (by decide),.nil,λ_=>Int.le_refl _⟩,rfl⟩
 ·rintro S M' ⟨n,f,us,a,pm,gu,ul,vc,rfl⟩
  rw[ABN]at vc
  refine⟨bz pm hp,?_⟩
  simp only[jE]
  walk_at "dl"
  refine⟨us,.inl gu,aH.keep (h f us vc) (.tup (Bels.of λx hx=>?_)) pm⟩
  obtain⟨y,hy,rfl,_⟩:=vc.is x hx
  exact .tup (.cons (vR (hh.hd y hy)) (.cons (.int _) .nil))
 ·rintro i y S M' hy ⟨n,f,us,a,pm,gu,ul,vc,rfl⟩ G hG
  have hi:=(AA7.mp hy).1
  have hm:=AAc hy
  have et:hs.take (i+1)=hs.take i++[y]:=by rw[ABa,hy];rfl
  have yd:=hh.hd y hm
  refine⟨bz pm hp,?_⟩
  walk_at "dl"
  have lt:∀x∈hs.take i,enc eqN x<enc eqN y:=λx hx=>by
   obtain⟨h0,rfl⟩:=AA7.mp hy
   obtain⟨j,hj,rfl⟩:=List.getElem_of_mem hx
   rw[List.getElem_take]
   rw[ABM]at hj
   exact List.pairwise_iff_getElem.mp hh.up j i (by lia) hi (by lia)
  rw[et]at hG
  refine⟨by decide,?_⟩
  have n0:=gv (a:=n) (b:=3) (by decide)
  have n3:=kb (a:=n) (b:=3) (by decide)
  by_cases c0:0<n % 3
  ·rw[dT_ c0]
   have ex:∃m:Int,atI [D.int 4,D.int 60] (n % 3-1)=some (.int m)/\0<m:=by
    have:n % 3-1=0\/n % 3-1=1:=by lia
    rcases this with e | e<;>rw[e]
    ·exact⟨_,aA (j:=0) rfl,by decide⟩
    ·exact⟨_,aA (j:=1) rfl,by decide⟩
   obtain⟨m,em,m0⟩:=ex
   refine fy ⟨⟨_,.inl gu⟩,⟨by decide,by decide⟩,af (by decide),by decide,_,.inl ae,?_⟩
   rw[em]
   have r0:=gv (a:=n / 3) m0
   refine⟨m0,af (by decide),_,ap gu,aB (by lia),?_⟩
   simp only[fL]
   walk_at "dl"
   exact⟨⟨by decide,by decide⟩,Fgt.now (hG _ _ ⟨_,_,_,_,dE (pm.trans cv) (AAA _),cO (ap gu),by simp;lia,vc.snoc (λx hx=>hh.hd x (ABG hx)) yd lt (by lia),rfl⟩)⟩
  ·rw[dF_ c0]
   refine eE ?_
   simp only[fL]
   walk_at "dl"
   exact⟨⟨by decide,by decide⟩,Fgt.now (hG _ _ ⟨_,_,_,_,pm,gu,by lia,vc.wide λx hx=>AAi _ hx,rfl⟩)⟩
theorem uG(T:Tops P w K mg base):Cal P w K mg base 1 "_law_vector" kK fH :=
 Cal.byD (N:=["_law_rest_here","_law_hands_here","_law_found","_law_hand"]) T.b T.f_vector (by walk_at "sc") sx (by walk_at "dv") sT
def lF:DSp:=λds M R=>∃(n:Int) (ps:List (Str×Int)) (rs:List (Str×List Str)) (p q:Nat) (hs sts:List D),ds=[.int n,bL ps rs,.ref p,.ref q]/\HouseOk ps rs/\aq M p hs/\Hands hs/\aq M q sts/\(∀x∈sts,St x)/\sts.length<=62/\∀w,wE w->R w M
theorem xN:er lF uC:=by rintro ds M R ⟨n,ps,rs,p,q,hs,sts,rfl,_⟩;rfl
def qc:DTS:=be (bi (aa (dC (.str "under")) (aa (dCB bG (aa (dOp aC (ab 0) (dC (.int 3))) (aa (ab 2) (aa (ab 3) ah)))) ah)))
def qd:DTS:=au (dIf (az (dOp qEq (dOp bC (ab 0) (dC (.int 3))) (dC (.int 1)))) (be (bi (aa (dC (.str "person")) (aa (dOp qIx (dOp qIx (dOp qIx (ab 1) (dC (.int 0))) (dOp bC (dOp aC (ab 0) (dC (.int 3))) (dCB ju (aa (dOp qIx (ab 1) (dC (.int 0))) ah)))) (dC (.int 0))) ah)))) aI) (qc)
def yH:DTS:=au (dIf (az (dOp qEq (dOp bC (ab 0) (dC (.int 3))) (dC (.int 0)))) (be (bi (aa (dC (.str "room")) (aa (dOp qIx (dOp qIx (dOp qIx (ab 1) (dC (.int 1))) (dOp bC (dOp aC (ab 0) (dC (.int 3))) (dCB ju (aa (dOp qIx (ab 1) (dC (.int 1))) ah)))) (dC (.int 0))) ah)))) aI) (qd)
theorem zc:WpT lF 4 yH:=by
 rintro ds M R ⟨n,ps,rs,p,q,hs,sts,rfl,hf,hp,hh,hq,hst,sl,h⟩
 have nu:AA1 "room"≠AA1 "under"/\AA1 "person"≠AA1 "under":=by decide +kernel
 simp only[yH,bL]
 walk_at "dl"
 obtain⟨d,hd,ed⟩:=fG (xs:=rs.map ba) (i:=n / 3) (by rw[AA4];exact hf.rl.1)
 obtain⟨r,hr,rfl⟩:=AAB.mp hd
 obtain⟨d,hd,ed'⟩:=fG (xs:=ps.map bf) (i:=n / 3) (by rw[AA4];exact hf.len.1)
 obtain⟨z,hz,rfl⟩:=AAB.mp hd
 have rl:=hf.rl.1
 have pl:=hf.len.1
 refine⟨by decide,⟨rfl,rfl⟩,?_⟩
 generalize eqD M eqN (.int (n % 3)) (.int 0)=b
 cases b with
 | true =>
  refine fy ⟨⟨by decide,by decide⟩,by rw[AA4];lia,?_⟩
  rw[ed]
  exact⟨af (by decide),aH.now (h _ (.inl ⟨_,_,rfl,nu.1⟩))⟩
 | false =>
  refine eE ?_
  simp only[qd]
  walk_at "dl"
  refine⟨by decide,⟨rfl,rfl⟩,?_⟩
  generalize eqD M eqN (.int (n % 3)) (.int 1)=b
  cases b with
  | true =>
   refine fy ⟨⟨by decide,by decide⟩,by rw[AA4];lia,?_⟩
   rw[ed']
   exact⟨af (by decide),aH.now (h _ (.inl ⟨_,_,rfl,nu.2⟩))⟩
  | false =>
   refine eE ?_
   simp only[qc]
   walk_at "dl"
   refine⟨⟨by decide,by decide⟩,_,p,q,hs,sts,rfl,hp,hh.hd,hh.len.1,hh.len.2,hq,hst,λm hm=>?_⟩
   exact⟨af (by decide),aH.now (h _ (.inr ⟨m,rfl,hm⟩))⟩
theorem zZ(T:Tops P w K mg base):Cal P w K mg base 2 "_law_what" uC lF :=
 Cal.byD (N:=["_law_rest_here","_law_house_here","_law_hands_here","_law_stamps"]) T.b T.f_what (by walk_at "sc") xN (by have:=ka T;walk_at "dv") zc
def rJ:DSp:=λds M R=>∃(n:Int) (ps:List (Str×Int)) (rs:List (Str×List Str)) (p q:Nat) (hs sts:List D),ds=[.int n,bL ps rs,.ref p,.ref q]/\HouseOk ps rs/\aq M p hs/\Hands hs/\aq M q sts/\(∀x∈sts,St x)/\sts.length<=62/\∀a,ActP hs a->R a M
theorem Ao:er rJ zV:=by rintro ds M R ⟨n,ps,rs,p,q,hs,sts,rfl,_⟩;rfl
def qz:DTS:=be (bi (aa (dOp qIx (dOp qIx (gI (aa (gI (aa (dC (.str "back")) (aa (dC (.str "seen")) ah))) (aa (gI (aa (dC (.str "seen")) (aa (dC (.str "rung")) ah))) ah))) (dOp zu (ab 4) (dC (.int 10)))) (dOp bC (ab 0) (dC (.int 2)))) (aa (ab 7) ah)))
def qA:DTS:=be (bi (aa (dC (.str "like")) (aa (ab 7) (aa (ab 8) (aa (dOp qEq (dOp bC (ab 0) (dC (.int 2))) (dC (.int 1))) ah)))))
def qB:DTS:=au (dIf (az (dOp qLt (ab 4) (dC (.int 10)))) (au (aJ (dOp qIx (gI (aa (dC (.str "good")) (aa (dC (.str "well")) (aa (dC (.str "a")) (aa (dC (.str "sad")) ah))))) (dOp bC (dOp aC (ab 0) (dC (.int 2))) (dC (.int 4)))) 8) (qA)) aI) (qz)
def ua:DTS:=au (dIf (az (dOp qLt (ab 4) (dC (.int 8)))) (be (bi (aa (dC (.str "change")) (aa (ab 7) (aa (dCB dN (aa (dOp aC (ab 0) (dC (.int 1000003))) (aa (dLC 2 [] (cy (dOp qIx (ab 1) (dC (.int 0)))) (dI 2 (aE (al 0) (aE (al 1) dJ))) lh (ab 0)) ah))) ah))))) aI) (qB)
def ub:DTS:=au (aJ (dCB bG (aa (dOp aC (ab 0) (dC (.int 64))) (aa (ab 2) (aa (ab 3) ah)))) 7) (ua)
def uc:DTS:=au (dIf (az (dOp qEq (ab 4) (dC (.int 5)))) (be (bi (aa (dC (.str "hush")) (aa (dCB lF (aa (dOp aC (ab 0) (dC (.int 2))) (aa (ab 1) (aa (ab 2) (aa (ab 3) ah))))) (aa (dOp qEq (dOp bC (ab 0) (dC (.int 2))) (dC (.int 1))) ah))))) aI) (ub)
def oA:DTS:=au (dIf (az (dOp qEq (ab 4) (dC (.int 4)))) (be (bi (aa (dC (.str "read")) (aa (ab 5) (aa (dCB fH (aa (dOp aC (ab 0) (dC (.int 4))) (aa (ab 2) ah))) ah))))) aI) (uc)
def oB:DTS:=be (bi (aa (dC (.str "say")) (aa (ab 5) (aa (ab 6) (aa (dCB dN (aa (dOp aC (ab 0) (dC (.int 1000003))) (aa (dLC 2 [] (cy (dOp qIx (ab 1) (dC (.int 0)))) (dI 2 (aE (al 0) (aE (al 1) dJ))) lh (ab 0)) ah))) ah)))))
def ud:DTS:=au (dIf (az (dOp qLt (dOp bC (dOp aC (ab 0) (dC (.int 4))) (dC (.int 4))) (dC (.int 2)))) (aJ (dC .non) 6) aI) (oB)
def oE:DTS:=au (dIf (az (dOp qLt (ab 4) (dC (.int 4)))) (au (aJ (dCB bG (aa (dOp aC (ab 0) (dC (.int 16))) (aa (ab 2) (aa (ab 3) ah)))) 6) (ud)) aI) (oA)
def ue:DTS:=au (aJ (dOp qIx (dOp qIx (dOp qIx (ab 1) (dC (.int 1))) (dOp bC (ab 0) (dCB ju (aa (dOp qIx (ab 1) (dC (.int 1))) ah)))) (dC (.int 0))) 5) (oE)
def uf:DTS:=au (aJ (dOp aC (ab 0) (dC (.int 12))) 0) (ue)
def Cb:DTS:=au (aJ (dOp bC (ab 0) (dC (.int 12))) 4) (uf)
theorem BR:WpT rJ 9 Cb:=by
 rintro ds M R ⟨n,ps,rs,p,q,hs,sts,rfl,hf,hp,hh,hq,hst,sl,h⟩
 have names:∀(B:Mem) (K:D->Mem->Prop),(aq (B++[.lst ((ps.map (·.1)).map .str)]) B.length ((ps.map (·.1)).map .str)->K (.ref B.length) (B++[.lst ((ps.map (·.1)).map .str)]))->gK (λ_=>True) (dI 2 (aE (al 0) (aE (al 1) dJ))) lh (ab 0) K (ps.map bf) [] [none,none] B:=λB K hK=>by
  refine aR (λd=>.str (jD d).1) (λS=>∃a b,S=[a,b]) trivial _ _ _ (λx hx S hS=>?_) ⟨_,_,rfl⟩ ?_ ?_
  ·obtain⟨a,b,rfl⟩:=hS
   obtain⟨y,hy,rfl⟩:=AAB.mp hx
   refine⟨[some (.str y.1),some (.int y.2)],⟨_,_,rfl⟩,λY hY=>?_⟩
   unfold bf
   walk_at "dl"
   exact⟨trivial,hY⟩
  ·rw[AA4,AAa];exact af (by have:=hf.len.2;lia)
  ·rw[AAo,AAS]
   have e:(ps.map ((λd=>D.str (jD d).1) ∘ bf))=(ps.map (·.1)).map D.str:=by rw[AAS];rfl
   rw[e]
   exact hK am
 have n8:∀x∈ps.map (·.1),x.length<=8:=λx hx=>by
  obtain⟨y,hy,rfl⟩:=AAB.mp hx
  exact(hf.nm y hy).2
 have n1:1<=(ps.map (·.1)).length/\(ps.map (·.1)).length<=4:=by rw[AA4];exact hf.len
 simp only[Cb,uf]
 walk_at "dl"
 have k0:=gv (a:=n) (b:=12) (by decide)
 have k12:=kb (a:=n) (b:=12) (by decide)
 refine⟨by decide,⟨by decide,by decide⟩,?_⟩
 generalize n % 12=k at k0 k12
 generalize n / 12=n
 simp only[ue,bL]
 walk_at "dl"
 obtain⟨d,hd,ed⟩:=fG (xs:=rs.map ba) (i:=n) (by rw[AA4];exact hf.rl.1)
 obtain⟨r,hr,rfl⟩:=AAB.mp hd
 have rl:=hf.rl.1
 refine⟨by rw[AA4];lia,?_⟩
 rw[ed]
 show oE _ [some (.int n),some (.tup [.tup (ps.map bf),.tup (rs.map ba)]),some (.ref p),some (.ref q),some (.int k),some (.str r.1),none,none,none] M
 generalize r.1=r
 have msg:∀(m:Int) (K:DK),(∀d,St d->K d M)->bG [.int m,.ref p,.ref q] M K:=λm K hK=>⟨m,p,q,hs,sts,rfl,hp,hh.hd,hh.len.1,hh.len.2,hq,hst,hK⟩
 simp only[oE]
 walk_at "dl"
 by_cases c4:k<4
 ·rw[dT_ c4]
  refine fy ⟨⟨by decide,by decide⟩,msg _ _ λu hu=>?_⟩
  have say:∀u:D,u=.non\/St u->oB ⟨λS' M'=>oA (EE M R) S' M',aH M R,λ_ _=>False,λ_ _=>False⟩ [some (.int n),some (.tup [.tup (ps.map bf),.tup (rs.map ba)]),some (.ref p),some (.ref q),some (.int k),some (.str r),some u,none,none] M:=λu hu=>by
   simp only[oB]
   walk_at "dl"
   refine⟨⟨by decide,by decide⟩,λ_=>names _ _ λl=>⟨_,_,_,rfl,l,n1.1,n1.2,n8,λs=>⟨af (by decide),aH.keep (h _ (.say hu)) (.tup (.cons (.str _) (.cons (.str _) (.cons ?_ (.cons (.str _) .nil))))) cv⟩⟩⟩
   rcases hu with rfl | hu
   ·exact .non
   ·exact bo 2 _ hu.pl
  simp only[ud]
  walk_at "dl"
  refine⟨⟨by decide,by decide⟩,by decide,?_⟩
  split
  ·exact say _ (.inl rfl)
  ·exact say _ (.inr hu)
 ·rw[dF_ c4]
  refine eE ?_
  simp only[oA]
  walk_at "dl"
  refine⟨⟨rfl,rfl⟩,?_⟩
  generalize eqD M eqN (.int k) (.int 4)=b
  cases b with
  | true =>
   refine fy ⟨⟨by decide,by decide⟩,_,p,hs,rfl,hp,hh,λf u vu=>⟨af (by decide),aH.now (h _ (.read vu))⟩⟩
  | false =>
   refine eE ?_
   simp only[uc]
   walk_at "dl"
   refine⟨⟨rfl,rfl⟩,?_⟩
   generalize eqD M eqN (.int k) (.int 5)=b
   cases b with
   | true =>
    refine fy ⟨⟨by decide,by decide⟩,_,ps,rs,p,q,hs,sts,rfl,hf,hp,hh,hq,hst,sl,λw hw=>⟨by decide,⟨rfl,rfl⟩,af (by decide),aH.now (h _ (.hush hw))⟩⟩
   | false =>
    refine eE ?_
    simp only[ub]
    walk_at "dl"
    refine⟨⟨by decide,by decide⟩,msg _ _ λm hm=>?_⟩
    simp only[ua]
    walk_at "dl"
    by_cases c8:k<8
    ·rw[dT_ c8]
     refine fy ⟨⟨by decide,by decide⟩,λ_=>names _ _ λl=>⟨_,_,_,rfl,l,n1.1,n1.2,n8,λs=>⟨af (by decide),aH.keep (h _ (.change hm)) (.tup (.cons (.str _) (.cons (bo 2 _ hm.pl) (.cons (.str _) .nil)))) cv⟩⟩⟩
    ·rw[dF_ c8]
     refine eE ?_
     simp only[qB]
     walk_at "dl"
     by_cases c10:k<10
     ·rw[dT_ c10]
      obtain⟨d,hd,ed⟩:=fG (xs:=[D.str (AA1 "good"),.str (AA1 "well"),.str (AA1 "a"),.str (AA1 "sad")]) (i:=n / 2) (by decide)
      have:∃s:Str,d=.str s:=by
       simp only[AAG,List.mem_nil_iff,or_false]at hd
       rcases hd with rfl | rfl | rfl | rfl<;>exact⟨_,rfl⟩
      obtain⟨s,rfl⟩:=this
      refine fy ⟨af (by decide),⟨by decide,by decide⟩,by decide,_,.inl ae,?_⟩
      rw[show n / 2 % 4=n / 2 % (([D.str (AA1 "good"),.str (AA1 "well"),.str (AA1 "a"),.str (AA1 "sad")]:List D).length:Int)from rfl,ed]
      simp only[qA]
      walk_at "dl"
      exact⟨by decide,⟨rfl,rfl⟩,af (by decide),aH.keep (h _ (.like hm)) (.tup (.cons (.str _) (.cons (bo 2 _ hm.pl) (.cons (.str _) (.cons (.bl _) .nil))))) cv⟩
     ·rw[dF_ c10]
      refine eE ?_
      simp only[qz]
      walk_at "dl"
      have e1:(M++[MO.lst [D.str (AA1 "back"),D.str (AA1 "seen")]]).length=M.length+1:=by simp
      have g1:(M++[MO.lst [D.str (AA1 "back"),D.str (AA1 "seen")]]++[MO.lst [D.str (AA1 "seen"),D.str (AA1 "rung")]]++[MO.lst [D.ref M.length,D.ref (M.length+1)]])[M.length]?=some (.lst [D.str (AA1 "back"),D.str (AA1 "seen")]):=ap (ap ae)
      have g2:(M++[MO.lst [D.str (AA1 "back"),D.str (AA1 "seen")]]++[MO.lst [D.str (AA1 "seen"),D.str (AA1 "rung")]]++[MO.lst [D.ref M.length,D.ref (M.length+1)]])[M.length+1]?=some (.lst [D.str (AA1 "seen"),D.str (AA1 "rung")]):=by rw[<-e1];exact ap ae
      have pm:M <+: M++[MO.lst [D.str (AA1 "back"),D.str (AA1 "seen")]]++[MO.lst [D.str (AA1 "seen"),D.str (AA1 "rung")]]++[MO.lst [D.ref M.length,D.ref (M.length+1)]]:=(cv.trans cv).trans cv
      rw[e1]
      refine⟨af (by decide),af (by decide),af (by decide),_,.inl ae,?_⟩
      have r0:=gv (a:=n) (b:=2) (by decide)
      have r2:=kb (a:=n) (b:=2) (by decide)
      generalize n % 2=w at r0 r2
      have fin:∀x:Str,(x=AA1 "back"\/x=AA1 "seen"\/x=AA1 "rung")->aH M R (.tup [.str x,m]) (M++[MO.lst [D.str (AA1 "back"),D.str (AA1 "seen")]]++[MO.lst [D.str (AA1 "seen"),D.str (AA1 "rung")]]++[MO.lst [D.ref M.length,D.ref (M.length+1)]]):=λx hx=>aH.keep (h _ (.more hx hm)) (.tup (.cons (.str _) (.cons (bo 2 _ hm.pl) .nil))) pm
      generalize M++[MO.lst [D.str (AA1 "back"),D.str (AA1 "seen")]]++[MO.lst [D.str (AA1 "seen"),D.str (AA1 "rung")]]++[MO.lst [D.ref M.length,D.ref (M.length+1)]]=B at g1 g2 fin
      have ck:k-10=0\/k-10=1:=by lia
      have cw:w=0\/w=1:=by lia
      rcases ck with e | e<;>rw[e]
      ·rw[show atI [D.ref M.length,D.ref (M.length+1)] 0=some (.ref M.length)from aA (j:=0) rfl]
       refine⟨by decide,_,.inl g1,?_⟩
       rcases cw with rfl | rfl
       ·rw[show atI [D.str (AA1 "back"),D.str (AA1 "seen")] 0=some (.str (AA1 "back"))from aA (j:=0) rfl]
        exact⟨af (by decide),fin _ (.inl rfl)⟩
       ·rw[show atI [D.str (AA1 "back"),D.str (AA1 "seen")] 1=some (.str (AA1 "seen"))from aA (j:=1) rfl]
        exact⟨af (by decide),fin _ (.inr (.inl rfl))⟩
      ·rw[show atI [D.ref M.length,D.ref (M.length+1)] 1=some (.ref (M.length+1))from aA (j:=1) rfl]
       refine⟨by decide,_,.inl g2,?_⟩
       rcases cw with rfl | rfl
       ·rw[show atI [D.str (AA1 "seen"),D.str (AA1 "rung")] 0=some (.str (AA1 "seen"))from aA (j:=0) rfl]
        exact⟨af (by decide),fin _ (.inr (.inl rfl))⟩
       ·rw[show atI [D.str (AA1 "seen"),D.str (AA1 "rung")] 1=some (.str (AA1 "rung"))from aA (j:=1) rfl]
        exact⟨af (by decide),fin _ (.inr (.inr rfl))⟩
theorem CW(T:Tops P w K mg base):Cal P w K mg base 3 "_law_act" zV rJ :=
 Cal.byD (N:=["_law_rest_here","_law_house_here","_law_hands_here","_law_stamps","_law_kind","_law_room","_law_under","_law_message_here","_law_sort"]) T.b T.f_act (by walk_at "sc") Ao (by have:=ka T;have:=uH T;have:=uG T;have:=zZ T;walk_at "dv") BR
def rH:DSp:=λds M R=>∃(ps:List (Str×Int)) (rs:List (Str×List Str)) (p tq:Nat) (cs:List Int),ds=[.ref p,bL ps rs]/\HouseOk ps rs/\aq M p (cs.map .int)/\p≠tq/\cs.length<=62/\M[tq]?=some (.tb (AA1 "_law_log") false)/\∀log,LogP (aw ps) log->R (.tup log) (M.set tq (.tb (AA1 "_law_log") true))
theorem Al:er rH zS:=by rintro ds M R ⟨ps,rs,p,tq,cs,rfl,_⟩;rfl
noncomputable def kA:D->Int
 | .tup (.int t::_)=>t
 | _=>0
structure GenP(hs deeds sts:List D)(las cnt:List (D×D))(f:D->Int)(n:Nat):Prop where
 dk:∀d∈deeds,dR hs d
 nums:∀h,(deeds.filter λd=>decide (bh d=h)).map numD=(AAl (many deeds h)).map Int.ofNat
 up:deeds.Pairwise λa b=>bh a=bh b->kA a<kA b
 la:KvF hs f las
 lt:∀d∈deeds,kA d<=f (bh d)
 cn:KvF hs (λh=>(many deeds h:Int)) cnt
 so:∀x∈sts,St x
 dl:deeds.length<=n
 sl:sts.length<=n
theorem GenP.next(g:GenP hs deeds sts las cnt f n)(hx:D.tup [.str z,.int k]∈hs)(t1:1<=t)(tv:f (.tup [.str z,.int k])<t)(ha:ActP hs act)(s1:∀x∈sts',St x)(s2:sts'.length<=n+1) :
  GenP hs (deeds++[.tup [.int t,.tup [.str z,.int k],.int (many deeds (.tup [.str z,.int k])),act]]) sts' (gG las (.tup [.str z,.int k]) (.int t)) (gG cnt (.tup [.str z,.int k]) (.int (many deeds (.tup [.str z,.int k])+1))) (λh=>if h=.tup [.str z,.int k]then t else f h) (n+1):=by
 have dl:=g.dl
 refine⟨λd hd=>?_,λh=>?_,ADg.mpr ⟨g.up,ABu _ _,λa ha b hb=>?_⟩,g.la.put hx t1 (if_pos rfl) λx q=>if_neg q,λd hd=>?_,g.cn.put hx (by lia) ?_ λx q=>?_,s1,by rw[AAH,AAy];lia,s2⟩
 ·rcases AB6.mp hd with hd | hd
  ·exact g.dk d hd
  ·rw[AB0.mp hd]
   exact⟨_,_,_,_,_,rfl,t1,hx,ha⟩
 ·rw[ADG,AAp,g.nums h,dh,List.filter_cons]
  show _++List.map numD (if decide (D.tup [.str z,.int k]=h)=true then _ else _)=(AAl (many deeds h+if D.tup [.str z,.int k]=h then 1 else 0)).map Int.ofNat
  by_cases e:D.tup [.str z,.int k]=h
  ·rw[dT_ e,if_pos rfl,if_pos e,ADo,AAp,<-e]
   rfl
  ·rw[dF_ e,if_neg e]
   exact ABR _
 ·rw[AB0.mp hb]
  intro e
  have:=g.lt a ha
  rw[e]at this
  exact Int.lt_of_le_of_lt this tv
 ·rcases AB6.mp hd with hd | hd
  ·have:=g.lt d hd
   show kA d<=if bh d=_ then t else f (bh d)
   split
   ·rename_i e
    rw[e]at this
    lia
   ·exact this
  ·rw[AB0.mp hd]
   show t<=if D.tup [.str z,.int k]=D.tup [.str z,.int k]then t else _
   rw[if_pos rfl];exact Int.le_refl _
 ·show ((many (deeds++[_]) _:Nat):Int)=_
  rw[dh]
  show ((many deeds _+if D.tup [.str z,.int k]=D.tup [.str z,.int k]then 1 else 0:Nat):Int)=_
  rw[if_pos rfl];rfl
 ·show ((many (deeds++[_]) x:Nat):Int)=(many deeds x:Int)
  rw[dh]
  show ((many deeds _+if D.tup [.str z,.int k]=x then 1 else 0:Nat):Int)=_
  rw[if_neg (AAr q)];rfl
theorem zh(ha:dR hs a)(hb:dR hs b)(e:bh a=bh b)(h:enc eqN (stD a)<enc eqN (stD b)):kA a<kA b:=by
 obtain⟨t,z,k,num,act,rfl,_⟩:=ha
 obtain⟨t',z',k',num',act',rfl,_⟩:=hb
 have e:D.tup [.str z,.int k]=.tup [.str z',.int k']:=e
 rw[show stD (.tup [.int t,.tup [.str z,.int k],.int num,act])=.tup [.int t,.tup [.str z,.int k]]from rfl,show stD (.tup [.int t',.tup [.str z',.int k'],.int num',act'])=.tup [.int t',.tup [.str z',.int k']]from rfl,e]at h
 show t<t'
 refine ACv λq=>?_
 by_cases e2:t=t'
 ·rw[e2]at h;exact AB1 _ h
 ·have:enc eqN (.tup [.int t',.tup [.str z',.int k']])<enc eqN (.tup [.int t,.tup [.str z',.int k']]):=by
   show 2::1::0::t'::_<2::1::0::t::_
   exact AAV.mpr (.inr ⟨rfl,AAV.mpr (.inr ⟨rfl,AAV.mpr (.inr ⟨rfl,AAV.mpr (.inl (by lia))⟩)⟩)⟩)
  exact AB1 _ (AD9 h this)
theorem Aj(g:GenP hs deeds sts las cnt f n)(n62:n<=62)(p:ys.Perm deeds)(r:ys.Pairwise λa b=>ltD M eqN (stD b) (stD a)=false):LogP hs ys:=by
 have dk:∀d∈ys,dR hs d:=λd hd=>g.dk d (p.mem_iff.mp hd)
 have nd:(deeds.map stD).Nodup:=by
  unfold List.Nodup
  rw[AAd]
  refine(ABB.mp g.up).imp λ{a b} ⟨ha,hb,q⟩ e=>?_
  obtain⟨t,z,k,num,act,rfl,_⟩:=g.dk a ha
  obtain⟨t',z',k',num',act',rfl,_⟩:=g.dk b hb
  have e:D.tup [.int t,.tup [.str z,.int k]]=.tup [.int t',.tup [.str z',.int k']]:=e
  injection e with e
  injection e with e1 e
  injection e with e2
  injection e1 with e1
  have:=q e2
  simp only[kA]at this
  lia
 have n2:ys.Pairwise λa b=>stD a≠stD b:=AAd.mp ((p.map stD).nodup_iff.mpr nd)
 have up:ys.Pairwise λa b=>enc eqN (stD a)<enc eqN (stD b):=by
  refine(ABB.mp (r.and n2)).imp λ{a b} ⟨ha,hb,q,ne⟩=>?_
  have sa:=(dk a ha).st
  have sb:=(dk b hb).st
  have oa:okP eqN (stD a)=true:=by obtain⟨t,z,k,e⟩:=sa;rw[e];rfl
  have ob:okP eqN (stD b)=true:=by obtain⟨t,z,k,e⟩:=sb;rw[e];rfl
  rcases wW M eqN _ _ oa ob (sa.cm sb)with⟨z,_⟩|⟨_,_,_,z⟩|⟨_,_,z,_⟩
  ·exact absurd z ne
  ·exact z.lt
  ·rw[z]at q;cases q
 have fe:∀h,(ys.filter λd=>decide (bh d=h))=deeds.filter λd=>decide (bh d=h):=λh=>by
  refine xi (lt:=λa b=>kA a<kA b) (λa _ b _ h h'=>by lia) ?_ ?_ λx=>?_
  ·refine(ABB.mp (up.filter _)).imp λ{a b} ⟨ha,hb,q⟩=>?_
   obtain⟨a1,a2⟩:=ABd.mp ha
   obtain⟨b1,b2⟩:=ABd.mp hb
   exact zh (dk a a1) (dk b b1) ((oT_ a2).trans (oT_ b2).symm) q
  ·refine(ABB.mp (g.up.filter _)).imp λ{a b} ⟨ha,hb,q⟩=>?_
   obtain⟨_,a2⟩:=ABd.mp ha
   obtain⟨_,b2⟩:=ABd.mp hb
   exact q ((oT_ a2).trans (oT_ b2).symm)
  ·rw[List.mem_filter,List.mem_filter,p.mem_iff]
 refine⟨dk,up,by rw[p.length_eq];have:=g.dl;lia,λh=>?_⟩
 have:=g.nums h
 unfold many at this ⊢
 rw[fe]
 exact this
theorem Eb(h:bB a b=true\/(a=b/\i<j)):enc eqN (.tup [.str a,.int i])<enc eqN (.tup [.str b,.int j]):=by
 have l:ltD [] eqN (.tup [.str a,.int i]) (.tup [.str b,.int j])=true:=by
  show (if eqD [] 29 (.str a) (.str b)=true then(if eqD [] 29 (.int i) (.int j)=true then false else decide (i<j))else bB a b)=true
  rw[dj,pJ]
  rcases h with h | ⟨rfl,h⟩
  ·have ne:a≠b:=λz=>by subst z;exact AB1 _ (oT_ h)
   rw[beq_eq_false_iff_ne.mpr ne,if_neg (by decide)]
   exact h
  ·rw[beq_self_eq_true,if_pos rfl,beq_eq_false_iff_ne.mpr (by lia),if_neg (by decide),dT_ h]
 rw[oY (n:=eqN) rfl rfl (vQ (n:=29) ⟨_,_,rfl⟩ ⟨_,_,rfl⟩)]at l
 exact oT_ l
theorem qY:∀{ps:List (Str×Int)},(ps.map (·.1)).Pairwise (λa b=>bB a b=true)->(aw ps).Pairwise λa b=>enc eqN a<enc eqN b
 | [],_=>.nil
 | p::ps,h=>by
  rw[AAQ,ADF]at h
  show (cN p++aw ps).Pairwise _
  refine ADg.mpr ⟨?_,qY h.2,λa ha b hb=>?_⟩
  ·unfold cN
   rw[AAd]
   unfold gm
   rw[AAd]
   exact List.pairwise_lt_range.imp λ{a b} q=>Eb (.inr ⟨rfl,by lia⟩)
  ·unfold cN gm at ha
   rw[AAS]at ha
   obtain⟨i,_,rfl⟩:=AAB.mp ha
   unfold aw at hb
   obtain⟨q,hq,hb⟩:=List.mem_flatMap.mp hb
   unfold cN gm at hb
   rw[AAS]at hb
   obtain⟨j,_,rfl⟩:=AAB.mp hb
   exact Eb (.inl (h.1 q.1 (AAt hq)))
theorem iY(hf:HouseOk ps rs):Few ps/\Hands (aw ps):=by
 have few:Few ps:=⟨hf.len.2,λq hq=>⟨by have:=hf.many q hq;lia,(hf.many q hq).2⟩⟩
 have hln:=kh few.2
 refine⟨few,qZ,⟨?_,by have:=few.1;lia⟩,?_⟩
 ·match ps,hf with
  | [],hf=>have:=hf.len.1;simp at this
  | p::ps,hf =>
   have:=(hf.many p (by simp)).1
   rw[aw,List.flatMap_cons,AAH,eO]
   lia
 ·exact qY hf.up
structure LgP(M B:Mem)(hs deeds sts:List D)(las cnt:List (D×D)):Prop where
 pre:M <+: B
 hs:B[M.length]?=some (.lst hs)
 sts:B[M.length+1]?=some (.lst sts)
 las:B[M.length+2]?=some (.dkt las)
 cnt:B[M.length+3]?=some (.dkt cnt)
 deeds:B[M.length+4]?=some (.lst deeds)
section
variable{M B:Mem}{hs deeds sts:List D}{las cnt:List (D×D)}{q:Nat}{x:MO}
theorem LgP.more(g:LgP M B hs deeds sts las cnt):LgP M (B++L) hs deeds sts las cnt :=
 ⟨g.pre.trans (AAT _ _),fX (AAT _ _) g.hs,fX (AAT _ _) g.sts,fX (AAT _ _) g.las,fX (AAT _ _) g.cnt,fX (AAT _ _) g.deeds⟩
theorem LgP.setD(g:LgP M B hs deeds sts las cnt):LgP M (B.set (M.length+4) (.lst ds')) hs ds' sts las cnt :=
 ⟨dE g.pre (by lia),bE (by lia) g.hs,bE (by lia) g.sts,bE (by lia) g.las,bE (by lia) g.cnt,cO g.deeds⟩
theorem LgP.setC(g:LgP M B hs deeds sts las cnt):LgP M (B.set (M.length+3) (.dkt kvs)) hs deeds sts las kvs :=
 ⟨dE g.pre (by lia),bE (by lia) g.hs,bE (by lia) g.sts,bE (by lia) g.las,cO g.cnt,bE (by lia) g.deeds⟩
theorem LgP.setL(g:LgP M B hs deeds sts las cnt):LgP M (B.set (M.length+2) (.dkt kvs)) hs deeds sts kvs cnt :=
 ⟨dE g.pre (by lia),bE (by lia) g.hs,bE (by lia) g.sts,cO g.las,bE (by lia) g.cnt,bE (by lia) g.deeds⟩
theorem LgP.setS(g:LgP M B hs deeds sts las cnt):LgP M (B.set (M.length+1) (.lst ds')) hs deeds ds' las cnt :=
 ⟨dE g.pre (by lia),bE (by lia) g.hs,cO g.sts,bE (by lia) g.las,bE (by lia) g.cnt,bE (by lia) g.deeds⟩
end
def qt:DTS:=be (dCB bD (aa (il "_law_log" ["_law_deed"] (dSl (ab 0) bO (fF (dC (.int 2)))) (aa (ab 6) ah)) ah))
def qu:DTS:=dIf (az (dOp qEq (dOp qIx (ab 11) (dC (.int 0))) (dC (.str "say")))) (jB (dMl cu (ab 3) (aa (bi (aa (ab 10) (aa (ab 9) ah))) ah))) aI
def qv:DTS:=au (jn (ab 5) (ab 9) (dOp aG (dMt dG (ab 5) (aa (ab 9) (aa (dC (.int 0)) ah))) (dC (.int 1)))) (qu)
def qw:DTS:=au (jB (dMl cu (ab 6) (aa (bi (aa (ab 10) (aa (ab 9) (aa (dMt dG (ab 5) (aa (ab 9) (aa (dC (.int 0)) ah))) (aa (ab 11) ah))))) ah))) (qv)
def qx:DTS:=au (jn (ab 4) (ab 9) (ab 10)) (qw)
def kE:DTS:=au (aJ (dCB rJ (aa (dOp aC (ab 8) (dC (.int 24))) (aa (ab 1) (aa (ab 2) (aa (ab 3) ah))))) 11) (qx)
def tE:DTS:=au (dIf (az (dOp qLt (dOp bC (ab 8) (dC (.int 4))) (dC (.int 2)))) (aJ (dOp aG (dC (.int 1)) (dCB uw (aa (dOp aG (gI (aa (dC (.int 0)) ah)) (dLC 1 [4] (rz (ab 4)) (al 0) lh (lq (ab 1) (ab 0)))) ah))) 10) aI) (kE)
def tF:DTS:=au (aJ (dOp aG (dOp aG (dMt dG (ab 4) (aa (ab 9) (aa (dC (.int 0)) ah))) (dC (.int 1))) (dOp bC (dOp aC (ab 8) (dC (.int 4))) (dC (.int 6)))) 10) (tE)
def tG:DTS:=au (aJ (dOp aC (ab 8) (dCB ju (aa (ab 2) ah))) 8) (tF)
def ou:DTS:=au (aJ (dOp qIx (ab 2) (dOp bC (ab 8) (dCB ju (aa (ab 2) ah)))) 9) (tG)
def tH:DTS:=au (gJ (cy (ab 0)) (al 7) (au (aJ (dCB jr (aa (ab 7) ah)) 8) (ou))) (qt)
def tI:DTS:=au (aJ (gI ah) 6) (tH)
def tJ:DTS:=au (aJ (jA) 5) (tI)
def tK:DTS:=au (aJ (jA) 4) (tJ)
def tL:DTS:=au (aJ (gI ah) 3) (tK)
def BY:DTS:=au (aJ (dCB iq (aa (ab 1) ah)) 2) (tL)
theorem yL{M B:Mem}{E:DEnds}{deeds sts:List D}{las cnt:List (D×D)}{f:D->Int}{n:Nat}{t r:Int}{z:Str}{k:Int}{ps:List (Str×Int)}{rs:List (Str×List Str)}{y0 y7 y11:Option D}(g:LgP M B (aw ps) deeds sts las cnt)(G:GenP (aw ps) deeds sts las cnt f n)(hf:HouseOk ps rs)(hh:Hands (aw ps))(n62:n<62)(hx:D.tup [.str z,.int k]∈aw ps)(t1:1<=t)(tv:f (.tup [.str z,.int k])<t)
  (hE:∀deeds' sts' las' cnt' f' B' y,LgP M B' (aw ps) deeds' sts' las' cnt'->GenP (aw ps) deeds' sts' las' cnt' f' (n+1)->E.nx [y0,some (bL ps rs),some (.ref M.length),some (.ref (M.length+1)),some (.ref (M.length+2)),some (.ref (M.length+3)),some (.ref (M.length+4)),y7,some (.int r),some (.tup [.str z,.int k]),some (.int t),y] B') :
  kE E [y0,some (bL ps rs),some (.ref M.length),some (.ref (M.length+1)),some (.ref (M.length+2)),some (.ref (M.length+3)),some (.ref (M.length+4)),y7,some (.int r),some (.tup [.str z,.int k]),some (.int t),y11] B:=by
 have dl:=G.dl
 have sl:=G.sl
 have ll:=G.la.len
 have cl:=G.cn.len
 have h12:=hh.len.2
 simp only[kE]
 walk_at "dl"
 refine⟨⟨by decide,by decide⟩,_,ps,rs,_,_,_,sts,rfl,hf,.inl g.hs,hh,.inl g.sts,G.so,by lia,λact ha=>?_⟩
 obtain⟨x,ads,ea⟩:=ha.hd
 simp only[qx]
 walk_at "dl"
 refine⟨_,g.las,rfl,aB (by lia),?_⟩
 have g1:=g.setL (kvs:=gG las (.tup [.str z,.int k]) (.int t))
 generalize B.set (M.length+2) _=B1 at g1
 simp only[qw]
 walk_at "dl"
 refine⟨⟨_,.inl g1.deeds⟩,⟨_,g1.cnt⟩,_,g1.cnt,rfl,?_⟩
 rw[G.cn.got]
 refine⟨af (by decide),_,g1.deeds,aB (by lia),?_⟩
 have g2:=g1.setD (ds':=deeds++[.tup [.int t,.tup [.str z,.int k],.int (many deeds (.tup [.str z,.int k])),act]])
 generalize B1.set (M.length+4) _=B2 at g2
 simp only[qv]
 walk_at "dl"
 refine⟨⟨_,g2.cnt⟩,_,g2.cnt,rfl,?_⟩
 rw[G.cn.got]
 refine⟨_,g2.cnt,rfl,aB (by lia),?_⟩
 have g3:=g2.setC (kvs:=gG cnt (.tup [.str z,.int k]) (.int (many deeds (.tup [.str z,.int k])+1)))
 generalize B2.set (M.length+3) _=B3 at g3
 subst ea
 simp only[qu]
 walk_at "dl"
 refine⟨⟨ad,ad⟩,?_⟩
 generalize eqD B3 eqN (.str x) (.str (AA1 "say"))=bs
 cases bs with
 | true =>
  refine fy ⟨⟨_,.inl g3.sts⟩,af (by decide),_,g3.sts,aB (by lia),?_⟩
  refine hE _ _ _ _ _ _ _ g3.setS (G.next hx t1 tv ha (λy hy=>?_) (by rw[AAH,AAy];lia))
  rcases AB6.mp hy with hy | hy
  ·exact G.so y hy
  ·rw[show y=_ from by simpa using hy];exact⟨_,_,_,rfl⟩
 | false=>exact eE (hE _ _ _ _ _ _ _ g3 (G.next hx t1 tv ha G.so (by lia)))
theorem xL{M B:Mem}{E:DEnds}{deeds sts:List D}{las cnt:List (D×D)}{f:D->Int}{n:Nat}{cell:Int}{ps:List (Str×Int)}{rs:List (Str×List Str)}{y0 y8 y9 y10 y11:Option D}(g:LgP M B (aw ps) deeds sts las cnt)(G:GenP (aw ps) deeds sts las cnt f n)(hf:HouseOk ps rs)(n62:n<62)
  (hE:∀deeds' sts' las' cnt' f' B' a b c y,LgP M B' (aw ps) deeds' sts' las' cnt'->GenP (aw ps) deeds' sts' las' cnt' f' (n+1)->E.nx [y0,some (bL ps rs),some (.ref M.length),some (.ref (M.length+1)),some (.ref (M.length+2)),some (.ref (M.length+3)),some (.ref (M.length+4)),some (.int cell),a,b,c,y] B') :
  (au (aJ (dCB jr (aa (ab 7) ah)) 8) (ou)) E [y0,some (bL ps rs),some (.ref M.length),some (.ref (M.length+1)),some (.ref (M.length+2)),some (.ref (M.length+3)),some (.ref (M.length+4)),some (.int cell),y8,y9,y10,y11] B:=by
 obtain⟨few,hh⟩:=iY hf
 have h1:=hh.len.1
 have h12:=hh.len.2
 have ll:=G.la.len
 walk_at "dl"
 refine⟨cell,rfl,λr=>?_⟩
 obtain⟨x,hx,ex⟩:=fG (xs:=aw ps) (i:=r) h1
 obtain⟨z,k,rfl⟩:=hh.hd x hx
 simp only[ou]
 walk_at "dl"
 refine⟨_,.inl g.hs,by lia,_,.inl g.hs,?_⟩
 rw[ex]
 simp only[tG]
 walk_at "dl"
 refine⟨_,.inl g.hs,⟨by lia,by lia⟩,?_⟩
 generalize r / ((aw ps).length:Int)=r
 simp only[tF]
 walk_at "dl"
 have a0:=gv (a:=r / 4) (b:=6) (by decide)
 have f0:=G.la.pos (.tup [.str z,.int k])
 refine⟨⟨_,g.las⟩,_,g.las,rfl,?_⟩
 rw[G.la.got]
 refine⟨⟨by decide,by decide⟩,by decide,?_⟩
 simp only[tE]
 walk_at "dl"
 refine⟨by decide,?_⟩
 split
 ·refine⟨af (by decide),las,ap g.las,λ_=>?_⟩
  refine aR (λh=>.int (f h)) (λS=>∃a,S=[a,some (.ref (M.length+2))]) (ap g.las) _ _ _ (λy hy S hS=>?_) ⟨_,rfl⟩ (by rw[AA4,AAa];exact af (by lia)) ?_
  ·obtain⟨a,rfl⟩:=hS
   obtain⟨q,hq,rfl⟩:=AAB.mp hy
   obtain⟨q1,q2,q3⟩:=G.la.is q hq
   refine⟨[some q.1,some (.ref (M.length+2))],⟨_,rfl⟩,λY hY=>?_⟩
   have e1:dY las q.1=some (.int (f q.1)):=by rw[G.la.get,if_pos q3]
   obtain⟨z',k',ez⟩:=hh.hd _ q1
   rw[ez]at e1 hY ⊢
   walk_at "dl"
   exact⟨_,_,ap g.las,rfl,e1,hY⟩
  ·rw[AAo]
   refine⟨_,_,ap ae,ae,af (by rw[AA4,AA4,AAy];lia),0::(las.map (·.1)).map f,.inl ?_,by simp,λm hm hmx=>?_⟩
   ·rw[show (0::(las.map (·.1)).map f).map D.int=[D.int 0]++(las.map (·.1)).map λh=>.int (f h) by rw[AAQ,AAS];rfl]
    exact ae
   ·have m0:=hmx 0 (by simp)
    have fm:f (.tup [.str z,.int k])<=m:=by
     by_cases q:1<=f (.tup [.str z,.int k])
     ·exact hmx _ (AA9 _ (AAt (G.la.all _ q)))
     ·lia
    exact yL ((g.more (L:=_)).more.more) G hf hh n62 hx (by lia) (by lia) λd' s' l' c' f' B' y g' G'=>hE _ _ _ _ _ _ _ _ _ _ g' G'
 ·exact yL g G hf hh n62 hx (by lia) (by lia) λd' s' l' c' f' B' y g' G'=>hE _ _ _ _ _ _ _ _ _ _ g' G'
theorem BN:WpT rH 12 BY:=by
 rintro ds M R ⟨ps,rs,p,tq,cs,rfl,hf,hp,pt,cl,ht,h⟩
 obtain⟨few,hh⟩:=iY hf
 simp only[BY,bL]
 walk_at "dl"
 refine⟨ps,_,rfl,few,?_⟩
 simp only[tL,tK,tJ,tI]
 walk_at "dl"
 refine⟨AAX _,AAX _,?_⟩
 have e1:(M++[MO.lst (aw ps)]).length=M.length+1:=by simp
 have e2:(M++[MO.lst (aw ps)]++[MO.lst []]).length=M.length+2:=by simp
 have e3:(M++[MO.lst (aw ps)]++[MO.lst []]++[MO.dkt []]).length=M.length+3:=by simp
 have e4:(M++[MO.lst (aw ps)]++[MO.lst []]++[MO.dkt []]++[MO.dkt []]).length=M.length+4:=by simp
 rw[e1,e2,e3,e4]
 have g0:LgP M (M++[MO.lst (aw ps)]++[MO.lst []]++[MO.dkt []]++[MO.dkt []]++[MO.lst []]) (aw ps) [] [] [] []:=by
  refine⟨(((cv.trans cv).trans cv).trans cv).trans cv,ap (ap (ap (ap ae))),?_,?_,?_,?_⟩
  ·rw[<-e1];exact ap (ap (ap ae))
  ·rw[<-e2];exact ap (ap ae)
  ·rw[<-e3];exact ap ae
  ·rw[<-e4];exact ae
 generalize M++[MO.lst (aw ps)]++[MO.lst []]++[MO.dkt []]++[MO.dkt []]++[MO.lst []]=B0 at g0
 simp only[tH]
 walk_at "dl"
 refine⟨_,bz g0.pre hp,λ_=>?_⟩
 refine aF (λi S M'=>∃(deeds sts:List D) (las cnt:List (D×D)) (f:D->Int) (a b c d e:Option D),LgP M M' (aw ps) deeds sts las cnt/\GenP (aw ps) deeds sts las cnt f i/\S=[some (.ref p),some (bL ps rs),some (.ref M.length),some (.ref (M.length+1)),some (.ref (M.length+2)),some (.ref (M.length+3)),some (.ref (M.length+4)),a,b,c,d,e]) ?_ ?_ ⟨[],[],[],[],_,_,_,_,_,_,g0,⟨(λ_ z=>nomatch z),λ_=>rfl,.nil,KvF.nil,(λ_ z=>nomatch z),KvF.nil,(λ_ z=>nomatch z),AAA _,AAA _⟩,rfl⟩
 ·rintro S M' ⟨deeds,sts,las,cnt,f,a,b,c,d,e,g,G,rfl⟩
  rw[AA4]at G
  have dl:=G.dl
  refine⟨bz g.pre hp,?_⟩
  simp only[qt]
  walk_at "dl"
  have tl:=fv ht
  have gd:(M'.set tq (.tb (AA1 "_law_log") true))[M.length+4]?=some (.lst deeds):=bE (by lia) g.deeds
  have hS:∀x∈deeds.map stD,St x:=λx hx=>by
   obtain⟨d,hd,rfl⟩:=AAB.mp hx
   exact(G.dk d hd).st
  refine⟨tq,deeds,stD,fX g.pre ht,.inr ⟨_,rfl,.inl gd⟩,λd hd=>?_,(zk hS (by rw[AA4];lia)).g,λys hy hr=>?_⟩
  ·obtain⟨t,z,k,num,act,rfl,_⟩:=G.dk d hd
   walk_at "dl"
   exact .inl ⟨rfl,rfl⟩
  ·have ml:M'.length=(M'.set tq (.tb (AA1 "_law_log") true)).length:=(ABe ..).symm
   refine⟨ys,by rw[ml];exact am,?_⟩
   have ls:=Aj G (by lia) hy hr
   obtain⟨L,hL⟩:=g.pre
   have eB:M'.set tq (.tb (AA1 "_law_log") true)=M.set tq (.tb (AA1 "_law_log") true)++L:=by rw[<-hL,List.set_append_left _ _ tl]
   rw[eB]
   refine aH.chg (Chg.set .refl .nil) (h ys ls) (.tup (Bels.of λd hd=>bo 6 d ((ls.dk d hd).pl hh.hd))) ?_
   rw[AAR]
   exact AAT _ _
 ·rintro i y S M' hy ⟨deeds,sts,las,cnt,f,a,b,c,d,e,g,G,rfl⟩ K hK
  rw[AAN]at hy
  obtain⟨cell,hc,rfl⟩:=ABH.mp hy
  have hi:=(AA7.mp hc).1
  refine⟨bz g.pre hp,?_⟩
  simp only[al,List.set_cons_zero,List.set_cons_succ]
  exact xL g G hf (by lia) λd' s' l' c' f' B' a b c y g' G'=>Fgt.now (hK _ _ ⟨d',s',l',c',f',_,_,_,_,_,g',G',rfl⟩)
theorem CU(T:Tops P w K mg base):Cal P w K mg base 7 "_law_log" zS rH :=
 Cal.byL (N:=["_law_cells","_law_house_here","_law_hands_here","_law_stamps","_law_times","_law_counts","_law_deeds","_law_cell","_law_rest_here","_law_hand","_law_time","_law_act_here"]) T.b T.f_log (by walk_at "sc") Al (by have:=T.bm;have:=Aa T;have:=xC T;have:=CW T;walk_at "dvl") BN
def dO:Nat->DSp:=λn ds M R=>∃a m,ds=[a,a]/\m<n/\Pln m a/\R (.bl true) M
theorem xO:∀n ds M R,dO n ds M R->ds.length=["_law_found","_law_due"].length:=by rintro n ds M R ⟨a,m,rfl,_⟩;rfl
theorem xF:∀ds M R,¬dO 0 ds M R:=by
 rintro ds M R ⟨a,m,rfl,h,_⟩
 lia
def qi(n:Nat):DTS:=be (dC (.bl true))
def qj(n:Nat):DTS:=au (gJ (dZip (aa (ab 0) (aa (ab 1) ah))) (dI 2 (aE (al 2) (aE (al 3) dJ))) (dIf (yX (az (dCB (dO n) (aa (ab 2) (aa (ab 3) ah))))) (be (dC (.bl false))) aI)) (qi n)
def qk(n:Nat):DTS:=au (dIf (az (dOp qNe (dCB ju (aa (ab 0) ah)) (dCB ju (aa (ab 1) ah)))) (be (dC (.bl false))) aI) (qj n)
def ql(n:Nat):DTS:=au (dIf (yY (az (dCB oJ (aa (ab 1) (aa (dC (.ty "tuple")) ah)))) (yX (az (dCB oJ (aa (ab 0) (aa (dC (.ty "tuple")) ah)))))) (be (dC (.bl false))) aI) (qk n)
def qm(n:Nat):DTS:=au (dIf (yY (az (dCB oJ (aa (ab 1) (aa (dC (.ty "list")) ah)))) (yX (az (dCB oJ (aa (ab 0) (aa (dC (.ty "list")) ah)))))) (be (dC (.bl false))) aI) (ql n)
def kD(n:Nat):DTS:=au (dIf (az (dCB oJ (aa (ab 1) (aa (dC (.ty "int")) ah)))) (be (pR (dCB oJ (aa (ab 0) (aa (dC (.ty "int")) ah))) (pR (yx (dCB oJ (aa (ab 0) (aa (dC (.ty "bool")) ah)))) (dOp qEq (ab 0) (ab 1))))) aI) (qm n)
def gO(n:Nat):DTS:=au (dIf (az (dCB oJ (aa (ab 1) (aa (dC (.ty "str")) ah)))) (be (pR (dCB oJ (aa (ab 0) (aa (dC (.ty "str")) ah))) (dOp qEq (ab 0) (ab 1)))) aI) (kD n)
def eX(n:Nat):DTS:=au (dIf (az (dCB oJ (aa (ab 1) (aa (dC (.ty "bool")) ah)))) (be (pR (dCB oJ (aa (ab 0) (aa (dC (.ty "bool")) ah))) (dOp qEq (ab 0) (ab 1)))) aI) (gO n)
def iB(n:Nat):DTS:=au (dIf (az (dOp qIs (ab 1) (dC .non))) (be (dOp qIs (ab 0) (dC .non))) aI) (eX n)
theorem zd:∀n ds M R,dO (n+1) ds M R->iB n (EE M R) (bw ["_law_found","_law_due","_law_one","_law_other"] ds) M:=by
 rintro n ds M R ⟨a,m,rfl,hm,ok,h⟩
 cases a with
 | non =>
  simp only[iB]
  walk_at "dl"
  exact aH.now h
 | bl k =>
  simp only[iB,eX]
  walk_at "dl"
  simp(config:={ decide:=true }) only [and_self,true_and,↓reduceIte,eqD,okD,beq_self_eq_true]
  exact⟨rfl,aH.now h⟩
 | int k =>
  simp only[iB,eX,gO,kD]
  walk_at "dl"
  simp(config:={ decide:=true }) only [and_self,true_and,↓reduceIte,eqD,okD,beq_self_eq_true]
  exact⟨rfl,aH.now h⟩
 | str k =>
  simp only[iB,eX,gO]
  walk_at "dl"
  simp(config:={ decide:=true }) only [and_self,true_and,↓reduceIte,eqD,okD,beq_self_eq_true]
  exact⟨rfl,aH.now h⟩
 | tup xs =>
  obtain⟨m,rfl⟩:∃j,m=j+1:=by
   cases m with
   | zero=>cases ok
   | succ j=>exact⟨j,rfl⟩
  have ok:sN m xs:=ok
  simp only[iB,eX,gO,kD,qm,ql,qk]
  walk_at "dl"
  simp(config:={ decide:=true }) only [and_self,true_and,↓reduceIte,okD,beq_self_eq_true,show ∀k:Int,eqD M eqN (.int k) (.int k)=true from λk=>by simp[eqD],Bool.not_true,AAZ]
  refine⟨rfl,?_⟩
  simp only[qj]
  walk_at "dl"
  refine⟨xs,xs,_,_,⟨rfl,rfl⟩,⟨rfl,rfl⟩,?_⟩
  refine aF (λi S M'=>M'=M/\∃c d,S=[some (.tup xs),some (.tup xs),c,d]) ?_ ?_ ⟨rfl,_,_,rfl⟩
  ·rintro S M' ⟨rfl,c,d,rfl⟩
   refine⟨⟨trivial,trivial⟩,?_⟩
   simp only[qi]
   walk_at "dl"
   exact aH.now h
  ·rintro i y S M' hy ⟨rfl,c,d,rfl⟩ G hG
   refine⟨⟨trivial,trivial⟩,?_⟩
   obtain⟨x,hx,rfl⟩:∃x,x∈xs/\y=.tup [x,x]:=by
    unfold L2.zipD at hy
    rw[AAN]at hy
    cases e:(xs.zip xs)[i]? with
    | none=>rw[e]at hy;cases hy
    | some p =>
     rw[e]at hy
     obtain⟨e1,e2⟩:=ACs.mp e
     have:p.1=p.2:=AAM (e1.symm.trans e2)
     refine⟨p.1,AAc e1,?_⟩
     rw[<-AAM hy]
     show D.tup [p.1,p.2]=_
     rw[<-‹p.1=p.2›]
   walk_at "dl"
   refine⟨trivial,x,m,rfl,by lia,AAb.mp ok x hx,?_⟩
   simp only[Bool.not_true,AAZ,↓reduceIte]
   exact Fgt.now (hG _ _ ⟨rfl,_,_,rfl⟩)
 | _=>cases m<;>cases ok
theorem yu(T:Tops P w K mg base)(n:Nat)(C:Cal P w K mg base (0+n) "_law_same" uD (dO n)):TopB mg B_ C_->List.Nodup (["_law_found","_law_due_here","_law_one","_law_other"]:List Str)->EY P w K mg base (0+n) "_law_same" ["_law_found","_law_due_here","_law_one","_law_other"] (top 28) (iB n):=by walk_at "dv"
theorem uI(T:Tops P w K mg base):∀n,Cal P w K mg base (0+n) "_law_same" uD (dO n)
 | 0=>Cal.never T.f_same xF
 | n+1=>Cal.byD (N:=["_law_found","_law_due_here","_law_one","_law_other"]) T.b T.f_same (by walk_at "sc") (xO (n+1)) (yu T n (uI T n)) (zd n)
def lG:DSp:=λds M R=>∃(hs:List D) (d:D),ds=[d]/\dR hs d/\R (keptD (bv d)) M
theorem xQ:er lG uF:=by rintro ds M R ⟨hs,d,rfl,_⟩;rfl
def qy:DTS:=be (bi (aa (bi (aa (dOp qIx (ab 4) (dC (.int 0))) (aa (bi (aa (dOp qIx (ab 4) (dC (.int 1))) (aa (dOp qIx (ab 2) (dC (.int 0))) ah))) ah))) (aa (dC .non) (aa (dC .non) ah))))
def kF:DTS:=au (dIf (az (dOp qEq (dOp qIx (ab 4) (dC (.int 0))) (dC (.str "change")))) (be (bi (aa (bi (aa (dC (.str "change")) (aa (bi (aa (dOp qIx (ab 4) (dC (.int 1))) (aa (dOp qIx (ab 2) (dC (.int 0))) ah))) ah))) (aa (bi (aa (ab 1) (aa (ab 2) ah))) (aa (dOp qIx (ab 4) (dC (.int 2))) ah))))) aI) (qy)
def gQ:DTS:=au (dIf (az (dOp qEq (dOp qIx (ab 4) (dC (.int 0))) (dC (.str "like")))) (be (bi (aa (bi (aa (dC (.str "like")) (aa (bi (aa (dOp qIx (ab 4) (dC (.int 1))) (aa (dOp qIx (ab 2) (dC (.int 0))) (aa (dOp qIx (ab 4) (dC (.int 2))) ah)))) ah))) (aa (bi (aa (ab 1) (aa (ab 2) ah))) (aa (dOp qIx (ab 4) (dC (.int 3))) ah))))) aI) (kF)
def eZ:DTS:=au (dIf (az (dOp qEq (dOp qIx (ab 4) (dC (.int 0))) (dC (.str "read")))) (be (bi (aa (bi (aa (dC (.str "read")) (aa (bi (aa (dOp qIx (ab 2) (dC (.int 0))) (aa (dOp qIx (ab 4) (dC (.int 1))) ah))) ah))) (aa (dC .non) (aa (dOp qIx (ab 4) (dC (.int 2))) ah))))) aI) (gQ)
def dS:DTS:=au (dIf (az (dOp qEq (dOp qIx (ab 4) (dC (.int 0))) (dC (.str "hush")))) (be (bi (aa (bi (aa (dC (.str "hush")) (aa (bi (aa (dOp qIx (ab 2) (dC (.int 0))) (aa (dOp qIx (ab 4) (dC (.int 1))) ah))) ah))) (aa (bi (aa (ab 1) (aa (ab 2) ah))) (aa (dOp qIx (ab 4) (dC (.int 2))) ah))))) aI) (eZ)
def cE:DTS:=au (dIf (az (dOp qEq (dOp qIx (ab 4) (dC (.int 0))) (dC (.str "say")))) (be (bi (aa (bi (aa (dC (.str "say")) (aa (bi (aa (ab 1) (aa (ab 2) ah))) ah))) (aa (dC .non) (aa (dOp aG (bi (aa (ab 3) ah)) (dSl (ab 4) (fF (dC (.int 1))) bO)) ah))))) aI) (dS)
def tQ:DTS:=au (wJ (ab 0) (dI 4 (aE (al 1) (aE (al 2) (aE (al 3) (aE (al 4) dJ)))))) (cE)
theorem zf:WpT lG 5 tQ:=by
 rintro ds M R ⟨hs,d,rfl,⟨t,z,k,num,act,rfl,_,hx,ha⟩,h⟩
 obtain⟨c1,c2,c3,c4,c5,c6,c7,c8,c9,c10⟩:=Ba
 have c11:AA1 "like"≠AA1 "hush"/\AA1 "like"≠AA1 "read"/\AA1 "change"≠AA1 "hush"/\AA1 "change"≠AA1 "read"/\AA1 "change"≠AA1 "like":=by decide +kernel
 obtain⟨d1,d2,d3,d4,d5⟩:=c11
 have start:cE (EE M R) [some (.tup [.int t,.tup [.str z,.int k],.int num,act]),some (.int t),some (.tup [.str z,.int k]),some (.int num),some act] M->tQ (EE M R) [some (.tup [.int t,.tup [.str z,.int k],.int num,act]),none,none,none,none] M:=λq=>by
  simp only[tQ]
  walk_at "dl"
  exact⟨trivial,q⟩
 refine start ?_
 cases ha with
 | say hu =>
  rw[lc]at h
  simp only[cE]
  walk_at "dl"
  exact⟨⟨ad,ad⟩,ji ⟨af (by decide),af (by decide),af (by decide),af (by show 4<=1000;decide),af (by decide),aH.now h⟩⟩
 | hush hm =>
  rw[ij]at h
  simp only[cE,dS]
  walk_at "dl"
  exact⟨⟨ad,ad⟩,bg c3 ⟨⟨ad,ad⟩,ji ⟨af (by decide),af (by decide),af (by decide),af (by decide),aH.now h⟩⟩⟩
 | read hv =>
  rw[ie]at h
  simp only[cE,dS,eZ]
  walk_at "dl"
  exact⟨⟨ad,ad⟩,bg c5 ⟨⟨ad,ad⟩,bg c7 ⟨⟨ad,ad⟩,ji ⟨af (by decide),af (by decide),af (by decide),aH.now h⟩⟩⟩⟩
 | like hm =>
  rw[ii]at h
  simp only[cE,dS,eZ,gQ]
  walk_at "dl"
  simp only[ES]
  exact⟨⟨ad,ad⟩,bg c2 ⟨⟨ad,ad⟩,bg d1 ⟨⟨ad,ad⟩,bg d2 ⟨⟨ad,ad⟩,ji ⟨af (by decide),af (by decide),af (by decide),af (by decide),aH.now h⟩⟩⟩⟩⟩
 | change hm =>
  rw[dZ]at h
  simp only[cE,dS,eZ,gQ,kF]
  walk_at "dl"
  exact⟨⟨ad,ad⟩,bg c1 ⟨⟨ad,ad⟩,bg d3 ⟨⟨ad,ad⟩,bg d4 ⟨⟨ad,ad⟩,bg d5 ⟨⟨ad,ad⟩,ji ⟨af (by decide),af (by decide),af (by decide),af (by decide),aH.now h⟩⟩⟩⟩⟩⟩
 | more n hm =>
  obtain⟨n1,n2,n3,n4,n5,n6⟩:=m_ne n
  rw[ig n1]at h
  simp only[cE,dS,eZ,gQ,kF,qy]
  walk_at "dl"
  exact⟨⟨ad,ad⟩,bg n1 ⟨⟨ad,ad⟩,bg n4 ⟨⟨ad,ad⟩,bg n5 ⟨⟨ad,ad⟩,bg n3 ⟨⟨ad,ad⟩,bg n2 ⟨af (by decide),af (by decide),af (by decide),aH.now h⟩⟩⟩⟩⟩⟩
theorem Ab(T:Tops P w K mg base):Cal P w K mg base 1 "_law_kept" uF lG :=
 Cal.byD (N:=["_law_deed","_law_time","_law_hand","_law_number","_law_act_here"]) T.b T.f_kept (by walk_at "sc") xQ (by walk_at "dv") zf
def da:DSp:=λds M R=>∃(hs:List D) (f g:D->Int) (u v:List D),ds=[.tup u,.tup v]/\Hands hs/\Vec hs f u/\Vec hs g v/\∀w,Vec hs (λh=>max (f h) (g h)) w->R (.tup w) M
theorem pi:er da iU:=by rintro ds M R ⟨hs,f,g,u,v,rfl,_⟩;rfl
noncomputable def lI(L:List (D×Int))(h:D):Int:=L.foldl (λm p=>if p.1=h then max m p.2 else m) 0
theorem cR:lI (L++[p]) h=if p.1=h then max (lI L h) p.2 else lI L h:=by unfold lI;rw[List.foldl_append];rfl
theorem wX:∀{K:List (D×Int)},lI (L++K) h=max (lI L h) (lI K h):=by
 intro K
 refine db (P:=λK=>lI (L++K) h=max (lI L h) (lI K h)) ?_ (λK p ih=>?_) K
 ·have:0<=lI L h:=by
   refine db (P:=λL=>0<=lI L h) (Int.le_refl _) (λL p ih=>?_) L
   rw[cR]
   split
   ·lia
   ·exact ih
  rw[ABR]
  show lI L h=max (lI L h) 0
  lia
 ·rw[<-AAR,cR,cR,ih]
  split<;>lia
theorem tp{us:List D}{f:D->Int}{h:D}(pos:0<=f h):lI (us.map λx=>(x,f x)) h=if h∈us then f h else 0:=by
 refine db (P:=λus=>lI (us.map λx=>(x,f x)) h=if h∈us then f h else 0) rfl (λl x ih=>?_) us
 rw[AAp,ADD,cR,ih]
 by_cases e:x=h
 ·have m:h∈l++[x]:=AAI _ (by rw[e];exact List.mem_singleton.mpr rfl)
  rw[if_pos (show (x,f x).1=h from e),if_pos m]
  show max _ (f x)=f h
  rw[e]
  split<;>lia
 ·rw[if_neg (show ¬(x,f x).1=h from e)]
  have:h∈l++[x]↔h∈l:=by
   rw[List.mem_append,List.mem_singleton]
   exact⟨λz=>z.elim id λz=>absurd z.symm e,.inl⟩
  by_cases q:h∈l
  ·rw[if_pos q,if_pos (this.mpr q)]
  ·rw[if_neg q,if_neg λz=>q (this.mp z)]
def iK:DTS:=be (dCB bD (aa (dLC 1 [2] (cy (dCB cI (aa (ab 2) ah))) (al 0) lh (bi (aa (ab 0) (aa (lq (ab 1) (ab 0)) ah)))) ah))
def iL:DTS:=au (gJ (cy (dOp aG (dCB rZ (aa (ab 0) ah)) (dCB rZ (aa (ab 1) ah)))) (dI 2 (aE (al 3) (aE (al 4) dJ))) (jn (ab 2) (ab 3) (dCB rY (aa (dMt dG (ab 2) (aa (ab 3) (aa (dC (.int 0)) ah))) (aa (ab 4) ah))))) (iK)
def mE:DTS:=au (aJ (jA) 2) (iL)
theorem rM:WpT da 5 mE:=by
 rintro ds M R ⟨hs,f,g,u,v,rfl,hh,vu,vv,h⟩
 have h12:=hh.len.2
 obtain⟨us,rfl,u1,u2,u3⟩:=vu.list
 obtain⟨vs,rfl,v1,v2,v3⟩:=vv.list
 have ul:=cU u2 λx hx=>(u1 x hx).1
 have vl:=cU v2 λx hx=>(v1 x hx).1
 simp only[mE,iL]
 walk_at "dl"
 refine⟨_,_,ap ae,ae,af (by rw[AA4,AA4];lia),_,am,λ_=>?_⟩
 have el:((us.map λh=>D.tup [h,D.int (f h)])++vs.map λh=>D.tup [h,D.int (g h)])=((us.map λx=>(x,f x))++vs.map λx=>(x,g x)).map λp=>.tup [p.1,.int p.2]:=by
  rw[AAp,AAS,AAS];rfl
 have eF:lI ((us.map λx=>(x,f x))++vs.map λx=>(x,g x))=λh=>max (f h) (g h):=by
  funext x
  have p1:=vu.pos x
  have p2:=vv.pos x
  rw[wX,tp p1,tp p2]
  have q1:(if x∈us then f x else 0)=f x:=by
   split
   ·rfl
   ·rename_i q
    have:¬1<=f x:=λz=>q (u3 x z)
    lia
  have q2:(if x∈vs then g x else 0)=g x:=by
   split
   ·rfl
   ·rename_i q
    have:¬1<=g x:=λz=>q (v3 x z)
    lia
  rw[q1,q2]
 have hL:∀p∈(us.map λx=>(x,f x))++vs.map λx=>(x,g x),p.1∈hs/\1<=p.2:=λp hp=>by
  rcases AB6.mp hp with hp | hp<;>obtain⟨y,hy,rfl⟩:=AAB.mp hp
  ·exact u1 y hy
  ·exact v1 y hy
 rw[el]
 generalize hLL:((us.map λx=>(x,f x))++(vs.map λx=>(x,g x)))=L at eF hL
 have gd:(M++[MO.dkt []]++[MO.lst (us.map λh=>D.tup [h,D.int (f h)])]++[MO.lst (vs.map λh=>D.tup [h,D.int (g h)])]++[MO.lst (L.map λp=>D.tup [p.1,.int p.2])])[M.length]?=some (.dkt []):=ap (ap (ap ae))
 have gl:(M++[MO.dkt []]++[MO.lst (us.map λh=>D.tup [h,D.int (f h)])]++[MO.lst (vs.map λh=>D.tup [h,D.int (g h)])]++[MO.lst (L.map λp=>D.tup [p.1,.int p.2])])[(M++[MO.dkt []]++[MO.lst (us.map λh=>D.tup [h,D.int (f h)])]++[MO.lst (vs.map λh=>D.tup [h,D.int (g h)])]).length]?=some (.lst (L.map λp=>D.tup [p.1,.int p.2])):=ae
 have pm:M <+: M++[MO.dkt []]++[MO.lst (us.map λh=>D.tup [h,D.int (f h)])]++[MO.lst (vs.map λh=>D.tup [h,D.int (g h)])]++[MO.lst (L.map λp=>D.tup [p.1,.int p.2])]:=((cv.trans cv).trans cv).trans cv
 have qM:M.length<(M++[MO.dkt []]++[MO.lst (us.map λh=>D.tup [h,D.int (f h)])]++[MO.lst (vs.map λh=>D.tup [h,D.int (g h)])]).length:=by simp
 generalize M++[MO.dkt []]++[MO.lst (us.map λh=>D.tup [h,D.int (f h)])]++[MO.lst (vs.map λh=>D.tup [h,D.int (g h)])]++[MO.lst (L.map λp=>D.tup [p.1,.int p.2])]=B0 at gd gl pm
 generalize (M++[MO.dkt []]++[MO.lst (us.map λh=>D.tup [h,D.int (f h)])]++[MO.lst (vs.map λh=>D.tup [h,D.int (g h)])]).length=q at gl qM
 refine aF (λi S M'=>∃(kvs:List (D×D)) (a b:Option D),M <+: M'/\M'[M.length]?=some (.dkt kvs)/\M'[q]?=some (.lst (L.map λp=>.tup [p.1,.int p.2]))/\KvF hs (lI (L.take i)) kvs/\S=[some (.tup (us.map λh=>.tup [h,.int (f h)])),some (.tup (vs.map λh=>.tup [h,.int (g h)])),some (.ref M.length),a,b]) ?_ ?_ ⟨_,_,_,pm,gd,gl,KvF.nil,rfl⟩
 ·rintro S M' ⟨kvs,a,b,pm,gd,gl,kf,rfl⟩
  rw[AA4,ABN,eF]at kf
  refine⟨.inl gl,?_⟩
  simp only[iK]
  walk_at "dl"
  have so:=(kf.srt (M:=M') hh.hd (by lia)).2
  refine⟨kvs,gd,so,λys hy hr=>⟨_,am,λ_=>?_⟩⟩
  have up:=gY (gU so hy) (hy.nodup_iff.mpr kf.nd) hr
  have vc:=kf.vec hh.hd hy up
  have kl:=kf.len
  refine aR (λh=>.tup [h,.int (max (f h) (g h))]) (λS=>∃a,S=[a,some (.ref M.length)]) am _ _ _ (λy hy' S hS=>?_) ⟨_,rfl⟩ (by rw[AAa,hy.length_eq,AA4];exact af (by lia)) ?_
  ·obtain⟨a,rfl⟩:=hS
   obtain⟨p,hp,rfl⟩:=AAB.mp (hy.mem_iff.mp hy')
   obtain⟨p1,p2,p3⟩:=kf.is p hp
   refine⟨[some p.1,some (.ref M.length)],⟨_,rfl⟩,λY hY=>?_⟩
   have e1:=kf.get p.1
   rw[if_pos p3]at e1
   obtain⟨z,k,ez⟩:=hh.hd _ p1
   rw[ez]at e1 hY ⊢
   walk_at "dl"
   exact⟨kvs,_,ap gd,rfl,e1,af (by decide),hY⟩
  ·rw[AAo]
   exact⟨_,am,aH.keep (h _ vc) (bo 3 _ (eT hh.hd vc)) ((pm.trans cv).trans cv)⟩
 ·rintro i y S M' hy ⟨kvs,a,b,pm,gd,gl,kf,rfl⟩ G hG
  rw[AAN]at hy
  obtain⟨p,hp,rfl⟩:=ABH.mp hy
  obtain⟨q1,q2⟩:=hL p (AAc hp)
  have et:L.take (i+1)=L.take i++[p]:=by rw[ABa,hp];rfl
  have kl:=kf.len
  have got:=kf.got p.1
  obtain⟨z,k,ez⟩:=hh.hd _ q1
  refine⟨.inl gl,?_⟩
  rw[ez]at got ⊢
  walk_at "dl"
  refine⟨trivial,⟨_,gd⟩,_,gd,rfl,?_⟩
  rw[got]
  refine⟨_,gd,rfl,aB (by lia),Fgt.now (hG _ _ ⟨_,_,_,dE pm (AAA _),cO gd,bE (by lia) gl,kf.put (ez ▸ q1) ?_ ?_ λy w=>?_,rfl⟩)⟩
  ·split<;>lia
  ·rw[et,cR,if_pos ez]
   split<;>lia
  ·rw[et,cR,if_neg (by rw[ez];exact AAr w)]
theorem sj(T:Tops P w K mg base):Cal P w K mg base 1 "_law_greater" iU da :=
 Cal.byD (N:=["_law_one","_law_other","_law_counts","_law_hand","_law_count"]) T.b T.f_greater (by walk_at "sc") pi (by walk_at "dv") rM
def nX:DSp:=λds M R=>∃(hs log:List D),ds=[.tup log]/\Hands hs/\LogP hs log/\∀u T,Vec hs (λh=>(many log h:Int)) u->TabOf (aW hs (log.map bv)) T->R (.tup [.tup T,.tup u]) M
theorem An:er nX zU:=by rintro ds M R ⟨hs,log,rfl,_⟩;rfl
noncomputable def eU:D->D
 | .tup [_,_,s,v]=>.tup [s,v]
 | _=>.non
theorem dR.entS(h:dR hs d):∃(x:Str) (p s v:D),bv d=.tup [.str x,p,s,v]/\(isS x=true->s=stD d)/\(x=AA1 "say"->p=stD d)/\(isS x=false->x≠AA1 "say"->x≠AA1 "read"->s=.non/\v=.non):=by
 obtain⟨t,z,k,num,act,rfl,_,_,ha⟩:=h
 obtain⟨i1,i2,i3,i4,i5⟩:=AL
 obtain⟨c1,c2,c3,c4,c5,c6,c7,c8,c9,c10⟩:=Ba
 cases ha with
 | say h=>exact⟨_,_,_,_,lc,λq=>(by rw[i4]at q;cases q),λ_=>rfl,λ_ q=>absurd rfl q⟩
 | read h=>exact⟨_,_,_,_,ie,λq=>(by rw[i5]at q;cases q),λq=>absurd q c5,λ_ _ q=>absurd rfl q⟩
 | hush h=>exact⟨_,_,_,_,ij,λ_=>rfl,λq=>absurd q c3,λq=>(by rw[i3]at q;cases q)⟩
 | change h=>exact⟨_,_,_,_,dZ,λ_=>rfl,λq=>absurd q c1,λq=>(by rw[i1]at q;cases q)⟩
 | like h=>exact⟨_,_,_,_,ii,λ_=>rfl,λq=>absurd q c2,λq=>(by rw[i2]at q;cases q)⟩
 | more n h =>
  obtain⟨n1,n2,n3,n4,n5,n6⟩:=m_ne n
  exact⟨_,_,_,_,ig n1,λq=>(by rw[n6]at q;cases q),λq=>absurd q n1,λ_ _ _=>⟨rfl,rfl⟩⟩
theorem vI{hs log:List D}(hd:∀d∈log,dR hs d):∀{k e:D},aW hs (log.map bv) k=some e->(∃p s v,e=.tup [.str (AA1 "read"),p,s,v])\/∃d∈log,e=bv d:=by
 revert hd
 refine db (P:=λlog=>(∀d∈log,dR hs d)->∀{k e:D},aW hs (log.map bv) k=some e->(∃p s v,e=.tup [.str (AA1 "read"),p,s,v])\/∃d∈log,e=bv d) (λ_ _ _ q=>nomatch q) (λl x ih h k e q=>?_) log
 have ih:=λ{k e} q=>ih (λd hd=>h d (AAi _ hd)) (k:=k) (e:=e) q
 have up:∀{e},((∃p s v,e=D.tup [.str (AA1 "read"),p,s,v])\/∃d∈l,e=bv d)->(∃p s v,e=D.tup [.str (AA1 "read"),p,s,v])\/∃d∈l++[x],e=bv d:=λz=>z.imp id λ⟨d,hd,e⟩=>⟨d,AAi _ hd,e⟩
 rw[AAp,ADD,cW]at q
 unfold kW at q
 split at q
 ·have q:=AAM q
  obtain⟨x',p',s',v',ex,_⟩:=(h x (by simp)).entS
  have lst:(∃p s v,bv x=D.tup [.str (AA1 "read"),p,s,v])\/∃d∈l++[x],bv x=bv d:=.inr ⟨x,by simp,rfl⟩
  have one:∀a:D,((∃p s v,a=D.tup [.str (AA1 "read"),p,s,v])\/∃d∈l++[x],a=bv d)->(∃p s v,oh hs a (bv x)=D.tup [.str (AA1 "read"),p,s,v])\/∃d∈l++[x],oh hs a (bv x)=bv d:=λa ha=>by
   obtain⟨x1,p1,s1,v1,e1⟩:∃(x1:Str) (p1 s1 v1:D),a=.tup [.str x1,p1,s1,v1]:=by
    rcases ha with⟨p,s,v,e⟩|⟨d,hd,e⟩
    ·exact⟨_,_,_,_,e⟩
    ·obtain⟨x1,p1,s1,v1,e1,_⟩:=(h d hd).entS
     exact⟨x1,p1,s1,v1,e.trans e1⟩
   have eo:oh hs a (bv x)=if x1=AA1 "read" then .tup [.str x1,p1,s1,pE hs v1 v']else if isS x1=true/\enc eqN s1<enc eqN s' then bv x else a:=by rw[e1,ex];rfl
   rw[eo]
   split
   ·rename_i c;rw[c];exact .inl ⟨_,_,_,rfl⟩
   ·split
    ·exact lst
    ·exact ha
  rw[<-q]
  cases hm:aW hs (l.map bv) k with
  | none=>exact one _ lst
  | some a=>exact one _ (up (ih hm))
 ·exact up (ih q)
theorem Bc{hs log:List D}{i:Nat}{d:D}{x:Str}{p s v:D}(hh:Hands hs)(hl:LogP hs log)(h:log[i]?=some d)(ed:bv d=.tup [.str x,p,s,v]) :
  (x≠AA1 "read"->eU (oh hs ((aW hs ((log.take i).map bv) (.tup [.str x,p])).getD (bv d)) (bv d))=.tup [s,v]) /\
  (x=AA1 "read"->∃g w,v=.tup w/\Vec hs g w/\(aW hs ((log.take i).map bv) (.tup [.str x,p])=none->eU (oh hs ((aW hs ((log.take i).map bv) (.tup [.str x,p])).getD (bv d)) (bv d))=.tup [s,v]) /\
   ∀a,aW hs ((log.take i).map bv) (.tup [.str x,p])=some a->∃f u,a=.tup [.str x,p,s,.tup u]/\Vec hs f u/\∀z,Vec hs (λh=>max (f h) (g h)) z->eU (oh hs ((aW hs ((log.take i).map bv) (.tup [.str x,p])).getD (bv d)) (bv d))=.tup [s,.tup z]):=by
 have hm:=AAc h
 have dp:=hl.dk d hm
 obtain⟨x1,p1,s1,v1,e1,f1,f2,f3⟩:=dp.entS
 have e2:=e1.symm.trans ed
 injection e2 with e2
 injection e2 with a1 e2
 injection e2 with a2 e2
 injection e2 with a3 e2
 injection e2 with a4
 injection a1 with a1
 subst a1 a2 a3 a4
 have ok':=kU hh (es:=(log.take i).map bv) λe q=>by
  obtain⟨d,hd,rfl⟩:=AAB.mp q
  exact(hl.dk d (ABG hd)).ent hh.hd
 have up:∀d'∈log.take i,enc eqN (stD d')<enc eqN (stD d):=λd' hd'=>by
  have e:log=log.take i++d::log.drop (i+1):=by
   rw[<-(AA7.mp h).2,List.getElem_cons_drop,ACc]
  have u:=hl.up
  rw[e]at u
  exact(List.pairwise_append.mp u).2.2 d' hd' d (by simp)
 have eo:∀s2 v2,oh hs (.tup [.str x1,p1,s2,v2]) (bv d)=if x1=AA1 "read" then .tup [.str x1,p1,s2,pE hs v2 v1]else if isS x1=true/\enc eqN s2<enc eqN s1 then bv d else .tup [.str x1,p1,s2,v2]:=λs2 v2=>by rw[e1];rfl
 refine⟨λnr=>?_,λrd=>?_⟩
 ·cases q:aW hs ((log.take i).map bv) (.tup [.str x1,p1]) with
  | none =>
   show eU (oh hs (bv d) (bv d))=_
   conv=>lhs;arg 1;arg 2;rw[e1]
   rw[eo,if_neg nr,if_neg λz=>AB1 _ z.2];rfl
  | some a =>
   show eU (oh hs a (bv d))=_
   have pa:=(ok' _ a q).2
   rcases vI (λd hd=>hl.dk d (ABG hd)) q with⟨p',s',v',e⟩|⟨d',hd',e⟩
   ·rw[e]at pa
    have pa:D.tup [.str (AA1 "read"),p']=.tup [.str x1,p1]:=pa
    injection pa with pa
    injection pa with pa
    injection pa with pa
    exact absurd pa.symm nr
   ·obtain⟨x2,p2,s2,v2,g1,k1,k2,k3⟩:=(hl.dk d' (ABG hd')).entS
    rw[e,g1]at pa
    have pa:D.tup [.str x2,p2]=.tup [.str x1,p1]:=pa
    injection pa with pa
    injection pa with pa pb
    injection pa with pa
    injection pb with pb
    subst pa pb
    rw[e,g1,eo,if_neg nr]
    cases c:isS x2 with
    | true =>
     rw[if_pos ⟨rfl,by rw[k1 c,f1 c];exact up d' hd'⟩,e1];rfl
    | false =>
     rw[if_neg λz=>by cases z.1]
     by_cases cs:x2=AA1 "say"
     ·have:=up d' hd'
      rw[<-k2 cs,<-f2 cs]at this
      exact absurd this (AB1 _)
     ·obtain⟨r1,r2⟩:=k3 c cs nr
      obtain⟨r3,r4⟩:=f3 c cs nr
      rw[r1,r2,r3,r4];rfl
 ·have en:=dp.ent hh.hd
  rw[e1]at en
  obtain⟨x2,p2,s2,v2,e2,_,n1,_,rv,_⟩:=en
  injection e2 with e2
  injection e2 with a1 e2
  injection e2 with a2 e2
  injection e2 with a3 e2
  injection e2 with a4
  injection a1 with a1
  subst a1 a2 a3 a4
  obtain⟨g,w,rfl,vw⟩:=rv rd
  have isf:isS x1=false:=by rw[rd];exact AL.2.2.2.2
  refine⟨g,w,rfl,vw,λq=>?_,λa q=>?_⟩
  ·rw[q]
   show eU (oh hs (bv d) (bv d))=_
   conv=>lhs;arg 1;arg 2;rw[e1]
   rw[eo,if_pos rd]
   have mm:(λh=>max (g h) (g h))=g:=by funext h;lia
   rw[hZ vw vw (by rw[mm];exact vw)];rfl
  ·obtain⟨⟨x2,p2,s2,v2,rfl,_,n2,_,rv2,_⟩,pa⟩:=ok' _ a q
   have pa:D.tup [.str x2,p2]=.tup [.str x1,p1]:=pa
   injection pa with pa
   injection pa with pa pb
   injection pa with pa
   injection pb with pb
   subst pa pb
   obtain⟨f,u,rfl,vu⟩:=rv2 rd
   rw[n1 isf,n2 isf]
   refine⟨f,u,rfl,vu,λz vz=>?_⟩
   rw[q]
   show eU (oh hs (.tup [.str x2,p2,s2,.tup u]) (bv d))=_
   rw[eo,if_pos rd,hZ vu vw vz,n2 isf];rfl
def tU:DTS:=be (bi (aa (ab 7) (aa (dCB bD (aa (dLC 1 [2] (cy (dCB cI (aa (ab 2) ah))) (al 0) lh (bi (aa (ab 0) (aa (lq (ab 1) (ab 0)) ah)))) ah)) ah)))
def tV:DTS:=au (aJ (dCB bD (aa (dLC 1 [1] (cy (dCB cI (aa (ab 1) ah))) (al 0) lh (dOp aG (ab 0) (lq (ab 1) (ab 0)))) ah)) 7) (tU)
def tW:DTS:=jn (ab 2) (dOp qIx (ab 3) (dC (.int 1))) (dOp aG (dMt dG (ab 2) (aa (dOp qIx (ab 3) (dC (.int 1))) (aa (dC (.int 0)) ah))) (dC (.int 1)))
def oz:DTS:=au (jn (ab 1) (ab 4) (bi (aa (ab 5) (aa (ab 6) ah)))) (tW)
def tX:DTS:=au (dIf (yY (az (dOp qEq (dOp qIx (ab 4) (dC (.int 0))) (dC (.str "read")))) (az (dOp qInT (ab 4) (ab 1)))) (aJ (dCB da (aa (dOp qIx (lq (ab 1) (ab 4)) (dC (.int 1))) (aa (ab 6) ah))) 6) aI) (oz)
def tY:DTS:=au (gJ (cy (ab 0)) (al 3) (au (wJ (dCB lG (aa (ab 3) ah)) (dI 3 (aE (al 4) (aE (al 5) (aE (al 6) dJ))))) (tX))) (tV)
def tZ:DTS:=au (aJ (jA) 2) (tY)
def Ca:DTS:=au (aJ (jA) 1) (tZ)
theorem BP:WpT nX 8 Ca:=by
 rintro ds M R ⟨hs,log,rfl,hh,hl,h⟩
 have h12:=hh.len.2
 have l62:=hl.len
 have ok:=kU hh (es:=log.map bv) λe q=>by
  obtain⟨d,hd,rfl⟩:=AAB.mp q
  exact(hl.dk d hd).ent hh.hd
 simp only[Ca,tZ,tY]
 walk_at "dl"
 intro _
 have e1:(M++[MO.dkt []]).length=M.length+1:=by simp
 rw[e1]
 refine aF (λi S M'=>∃(kvs cnt:List (D×D)) (a b c e:Option D),M'=M++[.dkt kvs]++[.dkt cnt]/\kvs.length<=i/\(kvs.map (·.1)).Nodup/\(∀k,dY kvs k=(aW hs ((log.take i).map bv) k).map eU)/\KvF hs (λh=>(many (log.take i) h:Int)) cnt/\S=[some (.tup log),some (.ref M.length),some (.ref (M.length+1)),a,b,c,e,none]) ?_ ?_ ⟨[],[],_,_,_,_,rfl,AAA _,.nil,λ_=>rfl,KvF.nil,rfl⟩
 ·rintro S M' ⟨kvs,cnt,a,b,c,e,rfl,kl,nd,gt,kf,rfl⟩
  rw[ABN]at gt kf
  have cl:=kf.len
  refine⟨trivial,?_⟩
  simp only[tV]
  walk_at "dl"
  have gk:(M++[MO.dkt kvs]++[MO.dkt cnt])[M.length]?=some (.dkt kvs):=ap ae
  have gc:(M++[MO.dkt kvs]++[MO.dkt cnt])[M.length+1]?=some (.dkt cnt):=by rw[show M.length+1=(M++[MO.dkt kvs]).length by simp];exact ae
  have pm:M <+: M++[MO.dkt kvs]++[MO.dkt cnt]:=cv.trans cv
  generalize M++[MO.dkt kvs]++[MO.dkt cnt]=B0 at gk gc pm
  have so:=uz (M:=B0) ok nd gt (by lia)
  refine⟨kvs,gk,so,λys hy hr=>⟨_,am,λ_=>?_⟩⟩
  obtain⟨tb,ke⟩:=tu ok nd gt so hy hr
  refine aR (λk=>(aW hs (log.map bv) k).getD .non) (λS=>∃a,S=[a,some (.ref M.length)]) am _ _ _ (λk hk S hS=>?_) ⟨_,rfl⟩ (by rw[AAa,hy.length_eq,AA4];exact af (by lia)) ?_
  ·obtain⟨a,rfl⟩:=hS
   obtain⟨e,hke⟩:=ke k hk
   refine⟨[some k,some (.ref M.length)],⟨_,rfl⟩,λY hY=>?_⟩
   have g1:=gt k
   rw[hke]at g1 hY
   obtain⟨⟨x,p,s,v,rfl,pp,_⟩,rfl⟩:=ok k e hke
   walk_at "dl"
   exact⟨kvs,_,ap gk,pp.ok.2.1,g1,af (by show 4<=1000;decide),hY⟩
  ·rw[AAo]
   refine⟨_,am,?_⟩
   generalize hT:ys.map (λk=>(aW hs (log.map bv) k).getD .non)=T at tb
   have te:∀e∈T,EntP hs e:=λe hq=>(ok _ e (tb.is e hq)).1
   replace gc:=ap (a:=MO.lst T) (ap (a:=MO.lst ys) gc)
   replace pm:=(pm.trans (cv (mo:=MO.lst ys))).trans (cv (mo:=MO.lst T))
   generalize B0++[MO.lst ys]++[MO.lst T]=B1 at gc pm
   simp only[tU]
   walk_at "dl"
   have so:=(kf.srt (M:=B1) hh.hd (by lia)).2
   refine⟨cnt,gc,so,λys hy hr=>⟨_,am,λ_=>?_⟩⟩
   have up:=gY (gU so hy) (hy.nodup_iff.mpr kf.nd) hr
   have vc:=kf.vec hh.hd hy up
   refine aR (λh=>.tup [h,.int (many log h:Int)]) (λS=>∃a,S=[a,some (.ref (M.length+1))]) am _ _ _ (λy hy' S hS=>?_) ⟨_,rfl⟩ (by rw[AAa,hy.length_eq,AA4];exact af (by lia)) ?_
   ·obtain⟨a,rfl⟩:=hS
    obtain⟨p,hp,rfl⟩:=AAB.mp (hy.mem_iff.mp hy')
    obtain⟨p1,p2,p3⟩:=kf.is p hp
    refine⟨[some p.1,some (.ref (M.length+1))],⟨_,rfl⟩,λY hY=>?_⟩
    have e1:=kf.get p.1
    rw[if_pos p3]at e1
    obtain⟨z,k,ez⟩:=hh.hd _ p1
    rw[ez]at e1 hY ⊢
    walk_at "dl"
    exact⟨cnt,_,ap gc,rfl,e1,af (by decide),hY⟩
   ·rw[AAo]
    exact⟨_,am,af (by decide),aH.keep (h _ _ vc tb) (.tup (.cons (.tup (Bels.of λe hq=>bo 5 e (te e hq).pl)) (.cons (bo 3 _ (eT hh.hd vc)) .nil))) ((pm.trans cv).trans cv)⟩
 ·rintro i y S M' hy ⟨kvs,cnt,a,b,c,e,rfl,kl,nd,gt,kf,rfl⟩ G hG
  have hm:=AAc hy
  have hi':=(AA7.mp hy).1
  have et:log.take (i+1)=log.take i++[y]:=by rw[ABa,hy];rfl
  have dp:=hl.dk y hm
  obtain⟨x,p,s,v,ee,pp,_⟩:=dp.ent hh.hd
  obtain⟨val1,val2⟩:=Bc hh hl hy ee
  have kl':=kf.len
  refine⟨trivial,?_⟩
  walk_at "dl"
  refine⟨hs,y,rfl,dp,?_⟩
  rw[ee]
  refine⟨rfl,?_⟩
  have fin:∀(E:DEnds) (w:D),(∀S' M',(∃(kvs cnt:List (D×D)) (a b c e:Option D),M'=M++[.dkt kvs]++[.dkt cnt]/\kvs.length<=i+1/\(kvs.map (·.1)).Nodup/\(∀k,dY kvs k=(aW hs ((log.take (i+1)).map bv) k).map eU)/\KvF hs (λh=>(many (log.take (i+1)) h:Int)) cnt/\S'=[some (.tup log),some (.ref M.length),some (.ref (M.length+1)),a,b,c,e,none])->E.nx S' M')->eU (oh hs ((aW hs ((log.take i).map bv) (.tup [.str x,p])).getD (bv y)) (bv y))=.tup [s,w]->oz E [some (.tup log),some (.ref M.length),some (.ref (M.length+1)),some y,some (.tup [.str x,p]),some s,some w,none] (M++[.dkt kvs]++[.dkt cnt]):=λE w hE hw=>by
   simp only[oz]
   walk_at "dl"
   have s1:∀kvs',(M++[MO.dkt kvs]++[MO.dkt cnt]).set M.length (.dkt kvs')=M++[MO.dkt kvs']++[MO.dkt cnt]:=λkvs'=>by
    rw[AAR,AC4 _ _ (AAA _),AD3,AAR];rfl
   have s2:∀kvs' cnt',(M++[MO.dkt kvs']++[MO.dkt cnt]).set (M.length+1) (.dkt cnt')=M++[MO.dkt kvs']++[MO.dkt cnt']:=λkvs' cnt'=>by
    rw[AC4 _ _ (by simp)]
    simp
   have gc:∀kvs',(M++[MO.dkt kvs']++[MO.dkt cnt])[M.length+1]?=some (.dkt cnt):=λkvs'=>by rw[show M.length+1=(M++[MO.dkt kvs']).length by simp];exact ae
   refine⟨af (by decide),_,ap ae,pp.ok.2.1,aB (by lia),?_⟩
   rw[s1]
   obtain⟨t,z,k,num,act,rfl,_,hx,_⟩:=dp
   have cl:=kf.len
   have got:=kf.got (.tup [.str z,.int k])
   simp only[tW]
   walk_at "dl"
   refine⟨⟨_,gc _⟩,_,gc _,rfl,?_⟩
   rw[got]
   refine⟨_,gc _,rfl,aB (by lia),?_⟩
   rw[s2]
   refine hE _ _ ⟨_,_,_,_,_,_,rfl,?_,fO nd,λk'=>?_,kf.put hx ?_ ?_ λx q=>?_,rfl⟩
   ·have:=kH (kvs:=kvs) (k:=.tup [.str x,p]) (d:=.tup [s,w])
    lia
   ·rw[et,AAp,ADD,cW]
    unfold kW
    rw[ee]at hw ⊢
    by_cases c:k'=.tup [.str x,p]
    ·rw[c,ic,if_pos (show D.tup [.str x,p]=fP (.tup [.str x,p,s,v])from rfl),Option.map_some,hw]
    ·rw[fA c,if_neg (show ¬k'=fP (.tup [.str x,p,s,v])from c)];exact gt k'
   ·lia
   ·show ((many (log.take (i+1)) _:Nat):Int)=_
    rw[et,dh]
    show ((many _ _+if D.tup [.str z,.int k]=D.tup [.str z,.int k]then 1 else 0:Nat):Int)=_
    rw[if_pos rfl];rfl
   ·show ((many (log.take (i+1)) _:Nat):Int)=(many (log.take i) x:Int)
    rw[et,dh]
    show ((many _ _+if D.tup [.str z,.int k]=x then 1 else 0:Nat):Int)=_
    rw[if_neg (AAr q)];rfl
  simp only[tX]
  walk_at "dl"
  refine⟨⟨ad,ad⟩,?_⟩
  have hn:∀S' M',_->Fgt (M++[MO.dkt []]++[MO.dkt []]) G S' M':=λS' M' h=>Fgt.now (hG S' M' h)
  by_cases cr:x=AA1 "read"
  ·obtain⟨g,w,rfl,vw,v1,v2⟩:=val2 cr
   have g1:=gt (.tup [.str x,p])
   rw[dj,beq_iff_eq.mpr cr]
   refine fy ⟨kvs,ap ae,pp.ok.2.1,?_⟩
   cases q:aW hs ((log.take i).map bv) (.tup [.str x,p]) with
   | none =>
    rw[q]at g1
    rw[g1]
    exact eE (fin _ _ hn (v1 q))
   | some a =>
    obtain⟨f,u,rfl,vu,v3⟩:=v2 a q
    rw[q]at g1
    rw[g1]
    refine fy ⟨kvs,.tup [s,.tup u],ap ae,pp.ok.2.1,g1,?_⟩
    show da [.tup u,.tup w] _ _
    exact⟨hs,f,g,u,w,rfl,hh,vu,vw,λz vz=>fin _ _ hn (v3 z vz)⟩
  ·exact bg cr (fin _ _ hn (val1 cr))
theorem CV(T:Tops P w K mg base):Cal P w K mg base 2 "_law_due" zU nX :=
 Cal.byD (N:=["_law_log_here","_law_kept_here","_law_counts","_law_deed","_law_place","_law_stamp","_law_value","_law_table"]) T.b T.f_due (by walk_at "sc") An (by have:=Ab T;have:=sj T;walk_at "dv") BP
theorem Am:er (sB (AA1 "_law_log")) zT:=by rintro ds M R ⟨ns,mo,_,_,rfl,_⟩;rfl
def tM:DTS:=be (dC (.bl true))
def tN:DTS:=dIf (dOr (az (dOp qGt (dCB ju (aa (pQ "Pack" "table" aQ (ab 6) ah) ah)) (dCB ju (aa (ab 3) ah)))) (az (dOp qNe (pQ "Pack" "table" aQ (ab 6) ah) (pQ "Pack" "table" aQ (yy "Pack" bM (aa (ab 1) (aa (ab 3) ah))) ah)))) (be (dC (.bl false))) aI
def tO:DTS:=au (dIf (dOr (yX (az (dCB (dO 8) (aa (pQ "Pack" "table" aQ (ab 6) ah) (aa (ab 4) ah))))) (yX (az (dCB (dO 8) (aa (pQ "Pack" "vector" bI (ab 6) ah) (aa (ab 5) ah)))))) (be (dC (.bl false))) aI) (tN)
def ox:DTS:=au (aJ (yy "Pack" bM (aa (ab 1) (aa (ab 3) ah))) 6) (tO)
def oy:DTS:=au (gJ (cy (gI (aa (ab 2) (aa (dSl (ab 2) bO (fF (dOp aC (dCB ju (aa (ab 2) ah)) (dC (.int 2))))) (aa (bi ah) ah))))) (al 3) (au (wJ (dCB nX (aa (ab 3) ah)) (dI 2 (aE (al 4) (aE (al 5) dJ)))) (ox))) (tM)
def tP:DTS:=au (aJ (dCB rH (aa (dSl (ab 0) (fF (dC (.int 1))) (fF (dC (.int 63)))) (aa (ab 1) ah))) 2) (oy)
def BZ:DTS:=au (aJ (dCB ip (aa (dCB eh (aa (ab 0) (aa (dC (.int 0)) ah))) ah)) 1) (tP)
theorem xR{B:Mem}{E:DEnds}{hs some_:List D}{hd:D}{y0 y2 y4 y5 y6:Option D}(h:∀S' B' a b c,S'=[y0,some hd,y2,some (.tup some_),a,b,c]->B <+: B'->E.nx S' B')(hb:∀k,Bel k hd)(hh:Hands hs)(hl:LogP hs some_) :
  (au (wJ (dCB nX (aa (ab 3) ah)) (dI 2 (aE (al 4) (aE (al 5) dJ)))) (ox)) E [y0,some hd,y2,some (.tup some_),y4,y5,y6] B:=by
 walk_at "dl"
 refine⟨hs,some_,rfl,hh,hl,λu T vu tb=>⟨rfl,?_⟩⟩
 simp only[ox]
 walk_at "dl"
 refine⟨_,hs,some_,hd,rfl,hb _,ae,hh,hl,λu' T' vu' tb' tl te=>⟨rfl,?_⟩⟩
 obtain rfl:=vu.uni vu'
 obtain rfl:=tb.uni tb'
 have gp:=cO (a:=.ins (AA1 "Pack") (kJ hd (.tup u) (.tup T))) (ae (M:=B) (mo:=.ins (AA1 "Pack") []))
 have pm:B <+: (B++[MO.ins (AA1 "Pack") []]).set B.length (.ins (AA1 "Pack") (kJ hd (.tup u) (.tup T))):=dE cv (AAA _)
 generalize (B++[MO.ins (AA1 "Pack") []]).set B.length (.ins (AA1 "Pack") (kJ hd (.tup u) (.tup T)))=B1 at gp pm
 generalize B.length=q at gp
 have pT:Pln 6 (.tup T):=.tup (sN.of λe he=>(te e he).pl)
 have pu:=eT hh.hd vu
 have l62:=hl.len
 simp only[tO]
 walk_at "dl"
 refine⟨⟨_,gp,rfl⟩,q,_,_,rfl,gp,rfl,.tup T,6,rfl,by decide,pT,?_⟩
 refine eE ⟨⟨_,gp,rfl⟩,q,_,_,rfl,gp,rfl,.tup u,3,rfl,by decide,pu,?_⟩
 refine eE ?_
 simp only[tN]
 walk_at "dl"
 refine⟨⟨_,gp,rfl⟩,q,_,_,rfl,gp,rfl,?_⟩
 show if decide ((some_.length:Int)<(T.length:Int))=true then _ else _
 rw[show decide ((some_.length:Int)<(T.length:Int))=false from dF_ (by lia)]
 refine eE ⟨⟨_,gp,rfl⟩,q,_,_,rfl,gp,rfl,?_⟩
 refine⟨_,hs,some_,hd,rfl,hb _,ae,hh,hl,λu' T' vu' tb' tl te=>⟨rfl,?_⟩⟩
 obtain rfl:=vu.uni vu'
 obtain rfl:=tb.uni tb'
 have gq:=cO (a:=.ins (AA1 "Pack") (kJ hd (.tup u) (.tup T))) (ae (M:=B1) (mo:=.ins (AA1 "Pack") []))
 have pm':B1 <+: (B1++[MO.ins (AA1 "Pack") []]).set B1.length (.ins (AA1 "Pack") (kJ hd (.tup u) (.tup T))):=dE cv (AAA _)
 generalize (B1++[MO.ins (AA1 "Pack") []]).set B1.length (.ins (AA1 "Pack") (kJ hd (.tup u) (.tup T)))=B2 at gq pm'
 obtain⟨o1,e1⟩:=yJ (M:=B2) 6 eqN _ (by decide) pT
 refine⟨⟨_,gq,rfl⟩,_,_,_,rfl,gq,rfl,⟨o1,o1⟩,?_⟩
 rw[e1]
 exact eE (h _ _ _ _ _ rfl (pm.trans pm'))
theorem BO:WpT (sB (AA1 "_law_log")) 7 BZ:=by
 rintro ds M R ⟨ns,mo,h63,⟨hmo,hml⟩,rfl,rfl,h⟩
 have hL0:aq [mo,.tb (AA1 "_law_log") false] 0 (ns.map D.int):=by
  have:=mY (M:=[mo,.tb (AA1 "_law_log") false]) (n:=0) (mo:=mo) rfl hml
  rw[hmo]at this
  exact this
 simp only[BZ]
 walk_at "dl"
 refine⟨0,ns,0,rfl,hL0,_,rfl,λps rs hf=>?_⟩
 simp only[tP]
 walk_at "dl"
 refine⟨_,hL0,?_⟩
 have ec:∃cs:List Int,cutD (ns.map D.int) (some 1) (some 63)=cs.map D.int/\cs.length<=62:=by
  unfold cutD
  refine⟨(ns.drop (HT.sIx (ns.map D.int).length 0 (some 1))).take (HT.sIx (ns.map D.int).length (ns.map D.int).length (some 63)-HT.sIx (ns.map D.int).length 0 (some 1)),by rw[List.map_take,List.map_drop],?_⟩
  rw[ABM]
  unfold HT.sIx
  simp
  lia
 obtain⟨cs,ec,cl⟩:=ec
 rw[ec]
 refine⟨ps,rs,2,1,cs,rfl,hf,.inl rfl,by decide,cl,rfl,λlog hl=>?_⟩
 have l62:=hl.len
 show oy _ _ ([mo,.tb (AA1 "_law_log") true,.lst (cs.map D.int)]:Mem)
 generalize ([mo,.tb (AA1 "_law_log") true,.lst (cs.map D.int)]:Mem)=B0
 simp only[oy]
 walk_at "dl"
 obtain⟨few,hh⟩:=iY hf
 have hb:∀k,Bel k (bL ps rs):=λk=>jk
 refine⟨⟨by lia,by decide⟩,AAX _,af (by decide),_,am,λ_=>?_⟩
 have hg:=am (M:=B0) (xs:=[D.tup log,D.tup (cutD log none (some (↑log.length / 2))),D.tup []])
 generalize B0++[MO.lst [D.tup log,D.tup (cutD log none (some (↑log.length / 2))),D.tup []]]=B1 at hg
 refine aF (λi S M'=>∃(a b c d:Option D),B1 <+: M'/\S=[some (.ref 0),some (bL ps rs),some (.tup log),a,b,c,d]) ?_ ?_ ⟨_,_,_,_,List.prefix_refl _,rfl⟩
 ·rintro S M' ⟨a,b,c,d,pm,rfl⟩
  refine⟨bz pm hg,?_⟩
  simp only[tM]
  walk_at "dl"
  exact .inl (h _)
 ·rintro i y S M' hy ⟨a,b,c,d,pm,rfl⟩ G hG
  refine⟨bz pm hg,?_⟩
  have hm:=AAc hy
  obtain⟨some_,rfl,hs⟩:∃l,y=.tup l/\LogP (aw ps) l:=by
   simp only[AAG,List.mem_nil_iff,or_false]at hm
   rcases hm with rfl | rfl | rfl
   ·exact⟨_,rfl,hl⟩
   ·refine⟨_,rfl,?_⟩
    unfold cutD
    exact hl.take _
   ·exact⟨_,rfl,hl.take 0⟩
  exact xR (λS' B' a b c e p=>Fgt.now (hG _ _ ⟨_,_,_,_,pm.trans p,e⟩)) hb hh hs
theorem ok_law(T:Tops P w K mg base)(F:Fun K "law" "law" (top 32) f fd):FnOk P w K mg base CX0 9 f fd zT (spL K (sB "_law_log")) :=
 yj (N:=["_law_script","_law_house_here","_law_log_here","_law_some","_law_table","_law_vector_here","_law_pack"]) T.b F (by walk_at "sc") Am (by have:=mU T;have:=kN T;have:=jw T;have:=sk T;have:=xB T;have:=CU T;have:=uI T 8;have:=CV T;walk_at "dv") BO
end
end LW
namespace PySem.W.Fast
def tw10145646480257557593:=Nat
def tw10255945640717841602:=Nat
def tw1027590681482515236:=Nat
def tw10282149461520034021:=Nat
def tw1030905180293251847:=Nat
def tw10404762462015043572:=Nat
def tw10421391194226882606:=Nat
def tw10430100779661430101:=Nat
def tw10470865162146452091:=Nat
def tw10602392003385324960:=Nat
def tw10609660213417341003:=Nat
def tw10698172943623102033:=Nat
def tw10843784255705183208:=Nat
def tw10881539374245323767:=Nat
def tw10927934340723628949:=Nat
def tw112781565031410443:=Nat
def tw11280737373888453203:=Nat
def tw11294729146034993448:=Nat
def tw11342478228748666109:=Nat
def tw11494340038326353348:=Nat
def tw1157810706369017478:=Nat
def tw11599191006358719487:=Nat
def tw11606392039575267617:=Nat
def tw11651246457777116309:=Nat
def tw11656301212257472930:=Nat
def tw11771874412680038042:=Nat
def tw11794170585131688410:=Nat
def tw11864264455075736773:=Nat
def tw12081856406406128091:=Nat
def tw12228831950494429232:=Nat
def tw12237844445527187947:=Nat
def tw12364837590904658551:=Nat
def tw12578859804623163131:=Nat
def tw12590850134998765894:=Nat
def tw12615909886458331891:=Nat
def tw127021314102622597:=Nat
def tw12709167245537150857:=Nat
def tw1277214112711511010:=Nat
def tw12781030499334475470:=Nat
def tw12884565503058331060:=Nat
def tw12913195068883809338:=Nat
def tw12916027550091652780:=Nat
def tw12957651059341661055:=Nat
def tw12972571417763086574:=Nat
def tw12982334573791259563:=Nat
def tw13037200012866688990:=Nat
def tw13098632328520864799:=Nat
def tw13210517471858074602:=Nat
def tw13214929036108940473:=Nat
def tw13233151139076367447:=Nat
def tw13252762107490486261:=Nat
def tw13270606807465442602:=Nat
def tw13278622838668428124:=Nat
def tw13279706138757823156:=Nat
def tw13279804323144356922:=Nat
def tw13303491541722217735:=Nat
def tw1338864323784936454:=Nat
def tw13454155179385805888:=Nat
def tw13458946053664349283:=Nat
def tw13491031118659706930:=Nat
def tw13547635288759071960:=Nat
def tw13595165837533326469:=Nat
def tw13599149868324445613:=Nat
def tw13603641493770055209:=Nat
def tw13701121284979779325:=Nat
def tw13714162122731167581:=Nat
def tw13760644784338035631:=Nat
def tw13862289538711029459:=Nat
def tw13872300922039583601:=Nat
def tw13957310035927229856:=Nat
def tw13965099499602996951:=Nat
def tw14010786395985441461:=Nat
def tw14046191895105176950:=Nat
def tw14064054329119947097:=Nat
def tw14237452287690569616:=Nat
def tw14248220183402658236:=Nat
def tw14264173359799677650:=Nat
def tw14355264752600246969:=Nat
def tw14451210476175570489:=Nat
def tw14678043502623738810:=Nat
def tw1475773248856176693:=Nat
def tw1480030074018992641:=Nat
def tw14923689619505045059:=Nat
def tw15036711984522590970:=Nat
def tw15064942584971971535:=Nat
def tw15158502879025165807:=Nat
def tw15168760982166269161:=Nat
def tw15185829543955846345:=Nat
def tw15265969418764736885:=Nat
def tw15296209441437255229:=Nat
def tw15320490444830882426:=Nat
def tw15351230850168732683:=Nat
def tw15430773761505216954:=Nat
def tw15478743771755675626:=Nat
def tw15570881012033040401:=Nat
def tw15632306874842400839:=Nat
def tw15687138346107945562:=Nat
def tw15796952905798829480:=Nat
def tw1583039031232289689:=Nat
def tw15914282720115276288:=Nat
def tw15916943715843431288:=Nat
def tw1600700504486074054:=Nat
def tw16101593765941880416:=Nat
def tw16137906112911767523:=Nat
def tw16162608382609309779:=Nat
def tw16349400400387520850:=Nat
def tw1642611995611884481:=Nat
def tw16443512806902698446:=Nat
def tw16499580900401035887:=Nat
def tw1649997092110308927:=Nat
def tw16518097229561118426:=Nat
def tw16566284568730834921:=Nat
def tw16595854316907283300:=Nat
def tw16664234832435336443:=Nat
def tw16667077835601587422:=Nat
def tw16704682447090459843:=Nat
def tw16864379461677524535:=Nat
def tw16892223843243857616:=Nat
def tw1701322767240363331:=Nat
def tw17059785820410289355:=Nat
def tw1719832365898693068:=Nat
def tw17235742411552344573:=Nat
def tw17260187197598884547:=Nat
def tw17272076997170648241:=Nat
def tw17294396381748892910:=Nat
def tw17348436694542479583:=Nat
def tw17397082313250511986:=Nat
def tw17470308838251595080:=Nat
def tw17886827793418218386:=Nat
def tw17939738901549831397:=Nat
def tw18065811157612820312:=Nat
def tw18077215422374248134:=Nat
def tw18099438261563217294:=Nat
def tw18152792135434816306:=Nat
def tw18160252548696182361:=Nat
def tw18204643162656228594:=Nat
def tw18377524385088544755:=Nat
def tw18381948567353316125:=Nat
def tw18428908923830604636:=Nat
def tw18439346587933321455:=Nat
def tw1895874683821545433:=Nat
def tw1923590104735277022:=Nat
def tw2207544854276575189:=Nat
def tw2277286774369522548:=Nat
def tw2279449659622950311:=Nat
def tw2557060224221043420:=Nat
def tw2558427886402509935:=Nat
def tw2564875895168692294:=Nat
def tw2678581531885398306:=Nat
def tw2711761702167963172:=Nat
def tw2777862221522746177:=Nat
def tw2783117658917449595:=Nat
def tw2819590443900518772:=Nat
def tw283790074188167196:=Nat
def tw2868478842632294911:=Nat
def tw2970962976334391537:=Nat
def tw3123670212905674274:=Nat
def tw3128324133597896823:=Nat
def tw313649761952888616:=Nat
def tw3140591678424680916:=Nat
def tw3146630452799423540:=Nat
def tw3201377225996282429:=Nat
def tw3207134034658593620:=Nat
def tw3224708583712125650:=Nat
def tw3247406408288176799:=Nat
def tw3292346715764377599:=Nat
def tw3443227292770739469:=Nat
def tw3523272817229741531:=Nat
def tw3554339727176603583:=Nat
def tw3598858151232463715:=Nat
def tw3626585637597407304:=Nat
def tw3689904578150845250:=Nat
def tw3734952638035312526:=Nat
def tw3780202162572835972:=Nat
def tw3827449304206613852:=Nat
def tw3855618208211735611:=Nat
def tw3869396140116987708:=Nat
def tw3994887063678754414:=Nat
def tw3999725041567277411:=Nat
def tw4101335232455252096:=Nat
def tw4177077020950376026:=Nat
def tw4210059836114566811:=Nat
def tw4213530813037365405:=Nat
def tw4238332566025347048:=Nat
def tw4375090575134553423:=Nat
def tw4445250502204015958:=Nat
def tw4529130241659131379:=Nat
def tw4846625127133001268:=Nat
def tw5008854854164740570:=Nat
def tw5116296119720064620:=Nat
def tw5141446848142396111:=Nat
def tw5259063947257011679:=Nat
def tw5319979045247886561:=Nat
def tw538349179142570659:=Nat
def tw5473915547494283611:=Nat
def tw5767138455570827950:=Nat
def tw5789991436809198288:=Nat
def tw5907414374172095235:=Nat
def tw5907588597195804175:=Nat
def tw603443454934981645:=Nat
def tw619532774381888985:=Nat
def tw6492599078483412512:=Nat
def tw6631894860441809021:=Nat
def tw666949669463431668:=Nat
def tw6730602773366954833:=Nat
def tw6809207519946275447:=Nat
def tw687656898636882660:=Nat
def tw6928951071154168129:=Nat
def tw6980134779481143011:=Nat
def tw6986745522511901511:=Nat
def tw7153077161727812588:=Nat
def tw7241024241725267627:=Nat
def tw7428990095505513723:=Nat
def tw7628724424808526359:=Nat
def tw7782429386381252089:=Nat
def tw7785997615606048390:=Nat
def tw7817203654274499972:=Nat
def tw7817250786118818829:=Nat
def tw7877077195153915965:=Nat
def tw7884737343257634554:=Nat
def tw7937497705114763310:=Nat
def tw7954707619545659723:=Nat
def tw8008496541895095830:=Nat
def tw8033957857302199924:=Nat
def tw803945337510502904:=Nat
def tw8067536150746760568:=Nat
def tw8124321710165287425:=Nat
def tw8204198139901069714:=Nat
def tw8240705135005906579:=Nat
def tw8251845693167701248:=Nat
def tw8299901461730813305:=Nat
def tw8401096114931942350:=Nat
def tw8536814679007633622:=Nat
def tw8602759018622765709:=Nat
def tw862150682911155754:=Nat
def tw8652844561228174700:=Nat
def tw8667042029309441039:=Nat
def tw8935040256536276203:=Nat
def tw8961076847220969433:=Nat
def tw9086488866028146650:=Nat
def tw9106057178056571212:=Nat
def tw9130913893263454881:=Nat
def tw9134697294333156572:=Nat
def tw9147714382705116980:=Nat
def tw9311993818915839191:=Nat
def tw9383624476336789029:=Nat
def tw9438120105466211322:=Nat
def tw9704231442764384903:=Nat
def tw9891632138850321608:=Nat
def tw9960220879453851656:=Nat
end PySem.W.Fast
theorem L2.us0{P:List ACM->Prop}(h:P []):∀us:List ACM,us.length=0->P us
 | [],_=>h
theorem L2.us1{P:List ACM->Prop}(h:∀a0,P [a0]):∀us:List ACM,us.length=1->P us
 | [a0],_=>h a0
theorem L2.us2{P:List ACM->Prop}(h:∀a0 a1,P [a0,a1]):∀us:List ACM,us.length=2->P us
 | [a0,a1],_=>h a0 a1
theorem L2.us3{P:List ACM->Prop}(h:∀a0 a1 a2,P [a0,a1,a2]):∀us:List ACM,us.length=3->P us
 | [a0,a1,a2],_=>h a0 a1 a2
theorem L2.us4{P:List ACM->Prop}(h:∀a0 a1 a2 a3,P [a0,a1,a2,a3]):∀us:List ACM,us.length=4->P us
 | [a0,a1,a2,a3],_=>h a0 a1 a2 a3
local macro_rules | `(tactic| walk_at "fk")=>`(tactic| ((case a=>k_is);(case l=>k_is);(case c=>k_is);(case k=>k_is)))
local macro_rules | `(tactic| walk_at "clf")=>`(tactic| ((case ca=>k_is);(case cp=>k_is);(case ch=>k_is);(case co=>k_is);(case cs=>k_is)))
local macro_rules | `(tactic| walk_at "cls")=>`(tactic| (walk_at "clf";(case cm=>k_is);(case cn=>k_is);(case cl=>k_is);(case cc=>k_is);(case ck=>k_is)))
local macro_rules | `(tactic| walk_at "f0")=>`(tactic| (refine' L2.fnat_mk (by assumption) (by assumption) ?a ?l ?c ?k (λ_ _ _ _ _ _=>L2.us0 rfl);walk_at "fk"))
local macro_rules | `(tactic| walk_at "f1")=>`(tactic| (refine' L2.fnat_mk (by assumption) (by assumption) ?a ?l ?c ?k (λ_ _ _ _ _ _=>L2.us1 (λ_=>rfl));walk_at "fk"))
local macro_rules | `(tactic| walk_at "f2")=>`(tactic| (refine' L2.fnat_mk (by assumption) (by assumption) ?a ?l ?c ?k (λ_ _ _ _ _ _=>L2.us2 (λ_ _=>rfl));walk_at "fk"))
local macro_rules | `(tactic| walk_at "f3")=>`(tactic| (refine' L2.fnat_mk (by assumption) (by assumption) ?a ?l ?c ?k (λ_ _ _ _ _ _=>L2.us3 (λ_ _ _=>rfl));walk_at "fk"))
local macro_rules | `(tactic| walk_at "f4")=>`(tactic| (refine' L2.fnat_mk (by assumption) (by assumption) ?a ?l ?c ?k (λ_ _ _ _ _ _=>L2.us4 (λ_ _ _ _=>rfl));walk_at "fk"))
open PySem PySem.W PyProof.Rows
set_option maxRecDepth 100000 in
set_option maxHeartbeats 0 in
theorem PySem.Challenge.cw_talkmarks_k60_what_a_pack_keeps_holds : PySem.Challenge.rw_talkmarks_k60_what_a_pack_keeps.Holds := by
 w_on; o_law; k_head; (case hw=>w_witness2)
 k_fill
 refine L2.law_walkL (z:="_law_log") (l:=PySem.Challenge.rw_talkmarks_k60_what_a_pack_keeps) (k:=9) (st:=LW.top 32) (x:="_law_script") rfl rfl rfl ⟨rfl,by decide,by decide⟩ (fun w h Y=>PySem.W.km_in_of Y) (fun _=>by kernel_rfl) rfl (fun _=>rfl) ?F (fun _ _ _ _ _ _ _=>rfl)
 case F =>
  intro w mg h KX G
  have T:∀ P base,L2.BMain mg base→LW.Tops P w (L2.KOf KX) mg base:=by
   intro P base bm
   dsimp only [L2.KOf]
   constructor
   ·walk_at "f1"
   ·walk_at "f1"
   ·walk_at "f1"
   ·walk_at "f1"
   ·walk_at "f2"
   ·walk_at "f2"
   ·walk_at "f1"
   ·refine' L2.inat_mk KX G ?ca ?cp ?ch ?co ?cs ?cw ?cz ?cm ?cn ?cl ?cc ?ck (fun _ _ _ _ _ _=>L2.us3 (fun _ _ _=>rfl)); walk_at "cls"; (case cw=>k_is); (case cz=>k_is)
   ·refine' L2.mtat_mk KX ?ca ?cp ?ch ?co ?cs ?cm ?cn ?cl ?cc ?ck (fun _ _ _ _ _ _=>L2.us1 (fun _=>rfl)); walk_at "cls"
   ·refine' L2.mtat_mk KX ?ca ?cp ?ch ?co ?cs ?cm ?cn ?cl ?cc ?ck (fun _ _ _ _ _ _=>L2.us1 (fun _=>rfl)); walk_at "cls"
   ·walk_at "f2"
   ·walk_at "f2"
   ·walk_at "f2"
   ·walk_at "f1"
   ·walk_at "f1"
   ·walk_at "f1"
   ·walk_at "f1"
   ·walk_at "f1"
   ·walk_at "f3"
   ·walk_at "f0"
   ·walk_at "f2"
   ·walk_at "f2"
   ·walk_at "f4"
   ·walk_at "f4"
   ·walk_at "f2"
   ·walk_at "f2"
   ·walk_at "f1"
   ·walk_at "f2"
   ·walk_at "f1"
   ·walk_at "f1"
   ·refine' L2.fld_mk KX ?ca ?cp ?ch ?co ?cs ?cm; walk_at "clf"; (case cm=>k_is)
   ·refine' L2.fld_mk KX ?ca ?cp ?ch ?co ?cs ?cm; walk_at "clf"; (case cm=>k_is)
   ·refine' L2.fld_mk KX ?ca ?cp ?ch ?co ?cs ?cm; walk_at "clf"; (case cm=>k_is)
   ·unfold LW.B_ LW.C_
    iterate 12 (refine' L2.TopB.b ?tq ?_; (case tq=>refine' PySem.W.mg_none_of KX G ?tr; (case tr=>k_is)))
    exact .nil
   ·exact bm
  refine ⟨?_,fun base f fd bm F=>LW.ok_law (T _ base bm) F⟩
  try dsimp only [L2.KOf]
  walk_at "f1"
