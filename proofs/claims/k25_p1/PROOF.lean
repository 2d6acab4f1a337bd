import PyProof.Rows.All
import Wide.All
import OpenK.AllK
import Wide.FinOn
import Lean
import PyProof.EqAt
import PyProof.EqKinds
import PyProof.TupleCall
import PyProof.CompFree
import PyProof.NeKinds
import KE.KSortTup
import KE.KRevSl
import KE.KDictSum
import KE.KEqDict
import PyProof.Conv_int_bool
import PyProof.AttrMissHeap
import KE.KLam
import KE.KRevIter
import PySem.Challenge.RW_talkmarks_k25_whole_later_logs
open PySem renaming wpAny_bind→AA0,wpAny_pure→AA2,Spec→AAF,wpAny_holding→AAh,wpAny_newObj_type→AAk,wpAny_call_entry→AAt,wpAny_callSpecial?_slot→AB0,wpAny_mono→AB7,wpAny_setState_of→ABE,wpAny_forIn_list→ABJ,mem_of_lookup→ABO,wpAny_dictEpoch→ABQ,wpAny_fieldsOf→ABV,wpAny_rule→ABX,wpAny_dictEntries→ABZ,codeAny_builtin→ABe,wpAny_ite_split→ABf,eqIsQuiet_byValue→ABu,wpAny_setField→ABx,wpAny_specialOf→AC0,wpAny_Call_Name_kw→AC2,sizeLine_eq→AC5,wpAny_typeNameOfWhole_keyiter→AC7,wpAny_typeNameOfWhole_valiter→AC8,wpAny_askSetting→ACL,wpAny_isInstance→ACM,wpAny_attempt→ACO,wpAny_notOrdered_dict→ACQ,wpAny_passesOwn→ACV,wpAny_typeNameOf_keyiter→ACZ,wpAny_typeNameOf_valiter→ACa,wpAny_typeOf→ACc,wpAny_setEntries_of→ACg,wpAny_seqItems→ACm,wpAny_callSpecialIfBoundUnlessNone?_slot→ACs,builtinLookup_eq_fast→ACu,wpAny_newList→AD1,plainId_quiet→AD3,wpAny_pyHash_int→ADD,wpAny_pyHash_str→ADE,codeAny_mono→ADH,wpAny_loadPart'→ADP,wpAny_Call_method0_late→ADR,wpAny_Call_method_late→ADf,wpAny_truthy_bool→ADg,wpAny_pyIter_slot→ADm,atKey_none_of_get→ADo,wpAny_isOneOf_valiter→ADx,wpAny_execs_nil→AE3,evalArgs_none→AE5,typeLookup_type→AEB
open PySem.Str renaming ofString→AA1
open PySem.Heap renaming get?_push_of_some→AA3,get?_push_size→AAC,lt_size→AAH,get?_update_self→AAe,size_push→ABR,get?_update_other→ABo,get?_update_ne→ABt,SameBut→ABz
open PySem.W renaming Frag→AA4,kas_desc→AC3,keepIn→ACS,fnOf→ACb,kas_rev→AD6,kas_place→AD9,cellsFrom_some→ADd,kas_asc→ADi,findIn→ADq,kas_sort→ADs,kas_descPart→ADt,codeIn→AEI,methodObj→AEL
open List renaming getElem?_eq_getElem→AA5,length_map→AA6,getElem?_eq_some_iff→AA7,mem_cons_of_mem→AAA,length_append→AAB,size_toArray→AAD,mem_append_right→AAG,mem_cons_self→AAI,length_cons→AAJ,mem_cons→AAN,mem_map→AAO,getElem?_append_left→AAP,getElem?_map→AAT,getD_eq_getElem?_getD→AAU,mem_append_left→AAW,mem_filter→AAX,length_singleton→AAY,all_eq_true→AAa,length_nil→AAb,mem_of_getElem?→AAc,prefix_append→AAf,getElem?_append_right→AAg,map_cons→AAi,getElem?_set_self→AAj,mem_append→AAl,map_append→AAm,mem_map_of_mem→AAp,getElem?_set_ne→AAq,append_assoc→AAs,range→AAv,length_set→AAw,nil_append→AAx,mem_range→AB1,length_take→AB2,length_filter_le→AB4,map_map→AB6,getElem_mem→AB8,cons_lt_cons_iff→AB9,getElem?_of_mem→ABB,lt_irrefl→ABG,append_nil→ABI,all_cons→ABM,filter_filter→ABN,getElem?_eq_none→ABP,getElem?_take_of_lt→ABW,nodup_cons→ABb,length→ABc,length_drop→ABk,take_length→ABl,toArray→ABm,nodup_iff_pairwise_ne→ABn,filterMap_cons→ABr,nodup_append→ABv,filter_congr→ABw,mem_singleton→AC4,lookup_cons→AC6,filter_cons→AC9,getElem?_cons_succ→ACB,take_add_one→ACE,map_id→ACG,getElem_map→ACK,filter_append→ACR,prefix_rfl→ACX,getElem?_replicate→ACd,map_congr_left→ACf,length_reverse→ACj,take_of_length_le→ACo,length_replicate→ACt,length_range→AD5,pairwise_iff_getElem→ADA,nodup_nil→ADC,mem_filterMap→ADN,zip_cons_cons→ADU,pairwise_singleton→ADW,getElem?_drop→ADX,find?_cons→ADa,getElem?_cons_zero→ADc,ext_getElem?→ADj,pairwise_map→ADn,range'→ADp,replicate→ADr,set_append_right→ADv,take_append_drop→ADw,any_eq_true→ADz,pairwise_append→AE1,of_mem_zip→AE4,find?_some→AED,filter_sublist→AEF,getD→AEM
open Nat renaming le_refl→AA8,ne_of_lt→AAM,zero_le→AAS,lt_of_lt_of_le→AAZ,lt_irrefl→AAn,le_trans→AAy,lt_succ_self→AAz,lt_or_ge→ABS,not_lt_zero→ABd,lt_succ_of_lt→ABs,le_of_lt→ACN,not_lt→ACz,lt_trichotomy→AD0,le_add_right→ADF,sub_self→ADL,add_sub_cancel→ADZ,le_succ→AE7
open Classical renaming propDecidable→AA9,byContradiction→AB3
open Bool renaming false_eq_true→AAE,and_eq_true→AAV,false_ne_true→ABF,eq_false_iff→ABL,not_true→ABg,or_eq_true→AE9,and_false→AEJ
open Array renaming getElem?_eq_getElem→AAK,length_toList→AAL,getElem?_toList→AAQ,getElem?_eq_some_iff→AAr,getD_eq_getD_getElem?→AB5,forIn_toList→ABh,getElem?_eq_none→ABq,getD→ACJ,toList_push→ADk
open Option.some renaming inj→AAR
open PySem.SetTable renaming below→AAd,runEnd→AAu,bits→ABy,leap→ACP,Probe→ACU,grown→ACn,turns→ADB,fits→ADY,insertAt→ADl,sizeAbove→AEH,fill→AEQ
open PySem.Heap.SameBut renaming update→AAo
open PySem.Obj renaming mapSeq→ABA,data_mapDictKeys→ACA,isFreed_of_dict→ACh,mapFields→AD4,data_mapFields→ADb,data_mapDict→ADy,putSet→AEO
open Ne renaming symm→ABC
open PyProof.Rows renaming slot_tuple_getitem→ABD,callWith_type1→ACF,get?_update_seq→ACY,listUpdate_at→AD2,listItems_at→ADu
open PySem.NameKind renaming free→ABH,cell→ACe
open PySem.Builtin.Tuple renaming tupleHashOf→ABK,tupleItemsOf→ACI,tupleExact→ACW
open Option renaming map_eq_some_iff→ABT,isSome_iff_exists→ADI
open PySem.Value renaming ref→ABU,none→ABi,type→ADG
open Int renaming toNat_natCast→ABY
open PySem.Builtin.Dict_items renaming ownsTuple→ABa
open PySem.Around renaming under_plainId→ABj
open PySem.Calls renaming callWith_builtin→ABp,spliced_cons→ADO,spliced_nil→ADh,evalArgs_plain→AE0
open PySem.F renaming slot_list_getattribute→AC1,plainAttrs_dict→ACi,slot_dict_get→ACv,args_tuple_add_2→ADJ,slot_dict_values→ADM,entry_tuple_add→ADQ,slot_tuple_add→ADe
open PySem.SeqAt renaming EqAt→ACC
open PySem.SetTable.below renaming go→ACD
open PySem.Builtin.List renaming listExtendWith→ACH,listTooLong→ADK,listLengthHint→AEC
open PySem.Builtin.Slice renaming slicePlaces→ACT,sliceAdjust→AD8,sliceApplied→AEG
open False renaming elim→ACk
open List.Perm renaming refl→ACl,cons→AEK
open PySem.SetTable.layClean renaming free→ACp
open PySem.SeqAt.EqAt renaming int_str→ACq,str_int→ACr,int_int→ADS,str_str→ADT,same→AEA
open PySem.Builtin.Dict renaming showsAll→ACw
open PySem.Builtin.Str renaming strSliceIndices→ACx
open List.Pairwise renaming nil→ACy,filter→AD7
open List.cons renaming injEq→ADV,inj→AEP
open PySem.Shared renaming TypeIs→AE2
open ForInStep renaming yield→AE6
open PySem.Txt renaming slice→AE8
open PySem.Expr renaming Call→AEE
open PySem.SetTable.probe renaming go→AEN
set_option autoImplicit true
set_option relaxedAutoImplicit true
set_option compiler.extract_closed false
set_option Elab.async false
set_option linter.all false
set_option maxRecDepth 100000
-- CHANGE: your row's module here,as the last of these rows
namespace L2
open PySem PySem.Spec PyProof.Rows
abbrev Key:=Sum Int Str
def Ee:Key->Value->Bool
 | .inl k,v=>Value.isInt k v
 | .inr x,v=>Value.isStrOf x v
def keyH(w:World):Key->Int
 | .inl k=>hashInt k
 | .inr x=>hashStr w x
theorem aX:∀{k:Key}{v:Value},Ee k v=true->(∃i t,k=Sum.inl i/\v=Value.int i t)\/(∃x t,k=Sum.inr x/\v=Value.str x t)
 | .inl i,v,h=>by
  obtain⟨t,e⟩:=Value.isInt_shape (k:=i) (v:=v) h
  exact .inl ⟨i,t,rfl,e⟩
 | .inr x,v,h=>by
  obtain⟨t,e⟩:=Value.isStrOf_shape (x:=x) (v:=v) h
  exact .inr ⟨x,t,rfl,e⟩
theorem Ed(a b:Int):decide ((Sum.inl a:Key)=Sum.inl b)=(a==b):=by
 by_cases e:a=b
 ·subst e;simp
 ·have h:¬(Sum.inl a:Key)=Sum.inl b:=λq=>e (Sum.inl.inj q)
  rw[decide_eq_false h]
  exact(beq_eq_false_iff_ne.mpr e).symm
theorem Ea(a b:Str):decide ((Sum.inr a:Key)=Sum.inr b)=decide (a=b):=by
 by_cases e:a=b
 ·subst e;simp
 ·have h:¬(Sum.inr a:Key)=Sum.inr b:=λq=>e (Sum.inr.inj q)
  rw[decide_eq_false h,decide_eq_false e]
theorem Ec(a:Int)(b:Str):decide ((Sum.inl a:Key)=Sum.inr b)=false:=decide_eq_false (λq=>nomatch q)
theorem Eb(a:Str)(b:Int):decide ((Sum.inr a:Key)=Sum.inl b)=false:=decide_eq_false (λq=>nomatch q)
def wc(prog:Program)(w:World):PySem.KeyKind prog w Key where
 is:=Ee
 hash:=keyH w
 inj:=λv a b ha hb=>by
  rcases aX ha with⟨i,t,rfl,rfl⟩|⟨x,t,rfl,rfl⟩
  ·rcases aX hb with⟨j,u,rfl,e⟩|⟨y,u,rfl,e⟩
   ·injection e with e1 _;rw[e1]
   ·exact nomatch e
  ·rcases aX hb with⟨j,u,rfl,e⟩|⟨y,u,rfl,e⟩
   ·exact nomatch e
   ·injection e with e1 _;rw[e1]
 byValue:=λk v h=>by
  rcases aX h with⟨i,t,rfl,rfl⟩|⟨x,t,rfl,rfl⟩<;>rfl
 pyHash:=λhv h=>by
  rcases aX hv with⟨i,t,rfl,rfl⟩|⟨x,t,rfl,rfl⟩
  ·exact ADD h
  ·exact ADE h
 eqBool:=λhu hv h=>by
  rcases aX hu with⟨i,t,rfl,rfl⟩|⟨x,t,rfl,rfl⟩
  ·rcases aX hv with⟨j,u,rfl,rfl⟩|⟨y,u,rfl,rfl⟩
   ·rw[Ed]at h;exact wpAny_eqBool_int h
   ·rw[Ec]at h;exact ACq i t y u _ _ _ _ h
  ·rcases aX hv with⟨j,u,rfl,rfl⟩|⟨y,u,rfl,rfl⟩
   ·rw[Eb]at h;exact ACr x t j u _ _ _ _ h
   ·rw[Ea]at h;exact wpAny_eqBool_str h
 «strs»:=λk x t v h=>by
  rcases aX h with⟨i,u,rfl,e⟩|⟨y,u,rfl,e⟩
  ·exact nomatch e
  ·injection e with e1 _
   subst e1
   cases v<;>rfl
end L2
namespace L2
open PySem PySem.Spec PyProof.Rows
inductive V where
 | non | bl (b:Bool) | int (i:Int) | str (x:Str) | byt (b:Array UInt8) | flt (b:UInt64) | ref (a:Addr) | ty (n:String)
 deriving DecidableEq
def aL:V->Value->Prop
 | .non,u=>u=ABi
 | .bl b,u=>u=Value.bool b
 | .int i,u=>∃t,u=Value.int i t
 | .str x,u=>∃t,u=Value.str x t
 | .byt b,u=>∃t,u=Value.bytes b t
 | .flt b,u=>∃t,u=Value.float b t
 | .ref a,u=>u=ABU a
 | .ty n,u=>u=ADG n
abbrev aw:List V->List Value->Prop:=Paired aL
theorem aw.length(r:aw xs us):xs.length=us.length:=Paired.length r
theorem aw.get:∀{xs:List V}{us:List Value}{i:Nat}{x:V},aw xs us->xs[i]?=some x->∃u,us[i]?=some u/\aL x u
 | _,_,_,_,.nil,e=>by simp at e
 | _,_,0,_,.cons r _,e=>by simp at e;subst e;exact⟨_,rfl,r⟩
 | _,_,i+1,x,.cons _ t,e=>by
  obtain⟨u,h1,h2⟩:=aw.get (i:=i) (x:=x) t (by simpa using e)
  exact⟨u,by simpa using h1,h2⟩
theorem aw.set(r:aL x u):∀{xs:List V}{us:List Value} (i:Nat),aw xs us->aw (xs.set i x) (us.set i u)
 | _,_,_,.nil=>.nil
 | _,_,0,.cons _ t=>.cons r t
 | _,_,i+1,.cons q t=>.cons q (aw.set r i t)
theorem aw.append:∀{xs ys:List V}{us ws:List Value},aw xs us->aw ys ws->aw (xs++ys) (us++ws)
 | _,_,_,_,.nil,s=>s
 | _,_,_,_,.cons r t,s=>.cons r (aw.append t s)
theorem aw.take:∀{xs:List V}{us:List Value} (n:Nat),aw xs us->aw (xs.take n) (us.take n)
 | _,_,0,_=>.nil
 | _,_,_+1,.nil=>.nil
 | _,_,n+1,.cons r t=>.cons r (aw.take n t)
theorem aw.drop:∀{xs:List V}{us:List Value} (n:Nat),aw xs us->aw (xs.drop n) (us.drop n)
 | _,_,0,r=>r
 | _,_,_+1,.nil=>.nil
 | _,_,n+1,.cons _ t=>aw.drop n t
def RelO:Option V->Option Value->Prop
 | some v,some u=>aL v u
 | none,none=>True
 | _,_=>False
def KV{κ:Type}:List (κ×V)->List (κ×Value)->Prop:=Paired λ(p:κ×V) (q:κ×Value)=>p.1=q.1/\aL p.2 q.2
def kV:Key->V
 | .inl i=>.int i
 | .inr x=>.str x
inductive HO where
 | lst (xs:List V)
 | tup (xs:List V)
 | dK (kvs:List (Key×V)) | dT (kvs:List (List Key×V))
 | set (S:Int->Bool) (n:Nat)
 | ins (C dx:Addr) (fs:List (Str×V))
 | own (x:Addr)
 | xd (fs:List (Str×V))
 | met (f x:Addr)
 | rng (lo hi:Int)
 | frz (o:Obj) (u:HO)
 | tbl (ps:Array Value)
 | ext (φ:Program->World->Heap->Prop)
abbrev Hp:=Addr->Option HO
def upd(H:Hp)(a:Addr)(o:HO):Hp:=λb=>if b=a then some o else H b
theorem aH:upd H a o a=some o:=by unfold upd;rw[if_pos rfl]
theorem ah(h:b≠a):upd H a o b=H b:=by unfold upd;rw[if_neg h]
theorem yu{H:Hp}{a b:Addr}{o u:HO}(h:H a=some o)(h':H b=some u)(d:o≠u):a≠b:=by
 intro e;subst e;rw[h]at h';exact d (AAR h')
theorem ad{H:Hp}{a b:Addr}{o:HO}(h:H a=some o)(h':H b=none):a≠b:=by
 intro e;subst e;rw[h]at h';cases h'
section
variable(P:Program)(w:World)
def Ap(h:Heap)(a:Addr)(items:Array Value):Prop:=∃o,h.get? a=some o/\o.cls=.type "tuple"/\(∃n,o.data=.seq items n)/\o.dict=none
theorem Ap.tup:Ap h a items->IsTup h a items:=λ⟨o,e,c,⟨n,d⟩,_⟩=>⟨o,e,c,n,d⟩
theorem Ap.new(h:Heap)(items:Array Value):Ap (h.push { cls:=.type "tuple",data:=.seq items }) h.objs.size items:=⟨_,AAC _ rfl,rfl,⟨_,rfl⟩,rfl⟩
def cF(H:Hp)(h:Heap)(a:Addr):HO->Prop
 | .lst xs=>xs.length<=sizeLine/\∃(its:List Value) (n:Nat),aw xs its/\h.get? a=some { cls:=.type "list",data:=.seq its.toArray n }
 | .tup xs=>xs.length<=sizeLine/\∃its:List Value,aw xs its/\Ap h a its.toArray
 | .dK kvs=>kvs.length<=sizeLine/\(a==sysModules)=false/\∃vs,KV kvs vs/\h.DictOf (wc P w) a vs
 | .dT kvs=>kvs.length<=sizeLine/\(a==sysModules)=false/\∃xs:List (List Key×Addr×Value),
   Paired (λ(p:List Key×V) (q:List Key×Addr×Value)=>p.1=q.1/\H q.2.1=some (.tup (p.1.map kV))/\aL p.2 q.2.2) kvs xs /\
   ∃o es ep,h.get? a=some o/\o.ExactDict/\o.data=.dict es ep/\es.toList=xs.map (entryOfKey (tupleKind (wc P w)))/\(xs.map (·.1)).Nodup
 | .set S n=>h.SetOf (intKind P w) a S n
 | .ins C dx fs=>H dx=some (.own a)/\fs.length<=1000/\dx≠a/\h.get? a=some (PySem.W.instObj C dx) /\
   ∃mA,h.Ns1 dx mA/\(∀f,RelO (fs.lookup f) (mA f))/\PySem.Within mA (fs.map (·.1))
 | .own _=>∃o,h.get? a=some o
 | .xd fs=>∃mA,h.Ns1 a mA/\∀f,RelO (fs.lookup f) (mA f)
 | .rng lo hi=>∃t u v,h.get? a=some { cls:=.type "range",data:=.fields #[.int lo t,.int hi u,.int 1 v] }
 | .frz o u=>h.get? a=some o/\cF H h a u
 | .tbl ps=>h.get? a=some { cls:=.none,data:=.fields ps }
 | .met f x=>h.get? a=some (AEL (.ref f) (.ref x))
 | .ext φ=>φ P w h/\(∃o,h.get? a=some o)/\∀h1 h2:Heap,φ P w h1->(∀o,h1.get? a=some o->h2.get? a=some o)->φ P w h2
def HOk(H:Hp)(h:Heap):Prop:=∀a o,H a=some o->cF P w H h a o
end
section
variable{P:Program}{w:World}{H H':Hp}{h h':Heap}{a:Addr}{o:HO}
theorem cF.lt(x:cF P w H h a o):a<h.objs.size:=by
 cases o with
 | lst xs=>obtain⟨_,_,_,_,e⟩:=x;exact AAH e
 | tup xs=>obtain⟨_,_,_,p⟩:=x;exact p.tup.lt
 | dK kvs=>obtain⟨_,_,_,_,o,_,_,e,_⟩:=x;exact AAH e
 | dT kvs=>obtain⟨_,_,_,_,o,_,_,e,_⟩:=x;exact AAH e
 | set S n=>obtain⟨o,_,_,_,e,_⟩:=x;exact AAH e
 | ins C dx fs=>obtain⟨_,_,_,e,_⟩:=x;exact AAH e
 | own y=>obtain⟨_,e⟩:=x;exact AAH e
 | xd fs=>obtain⟨_,⟨_,_,_,e,_⟩,_⟩:=x;exact AAH e
 | rng lo hi=>obtain⟨_,_,_,e⟩:=x;exact AAH e
 | frz ob u=>obtain⟨e,_⟩:=x;exact AAH e
 | tbl ps=>exact AAH (show h.get? a=some _ from x)
 | met f y=>exact AAH (show h.get? a=some _ from x)
 | ext φ=>obtain⟨_,⟨_,e⟩,_⟩:=x;exact AAH e
theorem Paired.mapP{α β:Type}{F G:α->β->Prop}:∀{l₁:List α}{l₂:List β},Paired F l₁ l₂->(∀a b,F a b->G a b)->Paired G l₁ l₂
 | _,_,.nil,_=>.nil
 | _,_,.cons r t,f=>.cons (f _ _ r) (Paired.mapP t f)
theorem cF.stay(x:cF P w H h a o)(k:∀b u,(b=a\/H b=some (.own a))->h.get? b=some u->h'.get? b=some u)
  (ho:∀b,H b=some (.own a)->H' b=some (.own a)) (ht:∀b xs,H b=some (.tup xs)->H' b=some (.tup xs)):cF P w H' h' a o:=by
 induction o with
 | lst xs=>obtain⟨z,its,n,r,e⟩:=x;exact⟨z,its,n,r,k _ _ (.inl rfl) e⟩
 | tup xs=>obtain⟨z,its,r,ob,e,c⟩:=x;exact⟨z,its,r,ob,k _ _ (.inl rfl) e,c⟩
 | dK kvs=>obtain⟨z,y,vs,r,ob,es,ep,e,c⟩:=x;exact⟨z,y,vs,r,ob,es,ep,k _ _ (.inl rfl) e,c⟩
 | dT kvs =>
  obtain⟨z,y,xs,r,ob,es,ep,e,c⟩:=x
  exact⟨z,y,xs,Paired.mapP r λp q z=>⟨z.1,ht _ _ z.2.1,z.2.2⟩,ob,es,ep,k _ _ (.inl rfl) e,c⟩
 | set S n=>obtain⟨ob,es,ep,t,e,c⟩:=x;exact⟨ob,es,ep,t,k _ _ (.inl rfl) e,c⟩
 | ins C dx fs =>
  obtain⟨d,z,ne,e,mA,⟨od,es,ep,e2,c⟩,r⟩:=x
  exact⟨ho _ d,z,ne,k _ _ (.inl rfl) e,mA,⟨od,es,ep,k _ _ (.inr d) e2,c⟩,r⟩
 | own y=>obtain⟨ob,e⟩:=x;exact⟨ob,k _ _ (.inl rfl) e⟩
 | xd fs=>obtain⟨mA,⟨od,es,ep,e,c⟩,r⟩:=x;exact⟨mA,⟨od,es,ep,k _ _ (.inl rfl) e,c⟩,r⟩
 | rng lo hi=>obtain⟨t,u,v,e⟩:=x;exact⟨t,u,v,k _ _ (.inl rfl) e⟩
 | frz ob u ih=>obtain⟨e,q⟩:=x;exact⟨k _ _ (.inl rfl) e,ih q⟩
 | tbl ps =>
  have e:h.get? a=some { cls:=.none,data:=.fields ps }:=x
  show h'.get? a=some { cls:=.none,data:=.fields ps }
  exact k a _ (.inl rfl) e
 | met f y =>
  have e:h.get? a=some (AEL (.ref f) (.ref y)):=x
  show h'.get? a=some (AEL (.ref f) (.ref y))
  exact k a _ (.inl rfl) e
 | ext φ=>obtain⟨p,⟨o,e⟩,st⟩:=x;exact⟨st _ _ p λo q=>k _ _ (.inl rfl) q,⟨o,k _ _ (.inl rfl) e⟩,st⟩
theorem HOk.lt(x:HOk P w H h)(e:H a=some o):a<h.objs.size:=(x a o e).lt
theorem HOk.fresh(x:HOk P w H h)(e:h.objs.size<=a):H a=none:=by
 cases q:H a with
 | none=>rfl
 | some u=>exact absurd (AAZ (x.lt q) e) (AAn _)
theorem HOk.kept(x:HOk P w H h)(k:∀b u,h.get? b=some u->h'.get? b=some u):HOk P w H h':=λa o e =>
 (x a o e).stay (λb u _ q=>k b u q) (λ_ q=>q) λ_ _ q=>q
theorem HOk.laid(x:HOk P w H h)(k:∀b u,h.get? b=some u->h'.get? b=some u)(hp:h.objs.size<=a)(new:cF P w (upd H a o) h' a o):HOk P w (upd H a o) h':=λb u e=>by
 have hn:=x.fresh hp
 by_cases hb:b=a
 ·subst hb;rw[aH]at e;cases e;exact new
 ·rw[ah hb]at e
  exact(x b u e).stay (λc v _ q=>k c v q) (λc q=>by rw[ah (ad q hn)];exact q) λc xs q=>by rw[ah (ad q hn)];exact q
end
def Rd(H:Hp)(a:Addr)(u:HO):Prop:=H a=some u\/∃o,H a=some (.frz o u)
theorem Rd.ok(r:Rd H a u)(x:HOk P w H h):cF P w H h a u:=by
 rcases r with r | ⟨o,r⟩
 ·exact x a u r
 ·obtain⟨_,q⟩:=x a _ r
  exact q
def Mut:Option HO->Prop
 | some (.lst _)=>True
 | some (.dK _)=>True
 | some (.dT _)=>True
 | some (.set _ _)=>True
 | some (.ins _ _ _)=>True
 | some (.ext _)=>True
 | _=>False
section
variable{P:Program}{w:World}{H:Hp}{h h':Heap}{x e:Addr}{o':HO}
theorem HOk.write(ok:HOk P w H h)(mu:Mut (H x))(he:e=x\/H e=some (.own x))(k:∀b u,b≠e->h.get? b=some u->h'.get? b=some u)(heo:∃u,h'.get? e=some u)
  (new:cF P w (upd H x o') h' x o'):HOk P w (upd H x o') h':=λb u q=>by
 have nown:∀c y,H c=some (.own y)->c≠x:=λc y r z=>by subst z;rw[r]at mu;exact mu
 have ntup:∀c xs,H c=some (.tup xs)->c≠x:=λc xs r z=>by subst z;rw[r]at mu;exact mu
 by_cases hb:b=x
 ·subst hb;rw[aH]at q;cases q;exact new
 ·rw[ah hb]at q
  by_cases hbe:b=e
  ·have q':H b=some (.own x):=by
    rcases he with z | z
    ·exact absurd (hbe.trans z) hb
    ·rw[hbe];exact z
   rw[q]at q';cases q'
   obtain⟨v,hv⟩:=heo
   exact⟨v,by rw[hbe];exact hv⟩
  ·refine(ok b u q).stay (λc v hc r=>k c v ?_ r) (λc r=>by rw[ah (nown c b r)];exact r) λc xs r=>by rw[ah (ntup c xs r)];exact r
   rcases hc with rfl | hc
   ·exact hbe
   ·rintro rfl
    rcases he with z | z
    ·exact nown c b hc z
    ·rw[hc]at z;cases z;exact hb rfl
end
structure Un(fs ex:List Addr)(H H':Hp)(h h':Heap):Prop where
 keep:∀b o,h.get? b=some o->H b=none->b∉fs->b∉ex->h'.get? b=some o
 slot:∀b o,h.get? b=some o->H b=none->b∈fs->b∉ex->∃sl,h'.get? b=some { o with slots:=sl }
 free:∀b o,h.get? b=some o->H b=none->b∉ex->H' b=none
 there:∀b o,h.get? b=some o->b∉ex->∃o',h'.get? b=some o'
 tups:∀b xs,H b=some (.tup xs)->H' b=some (.tup xs)
 frzs:∀b o u,H b=some (.frz o u)->H' b=some (.frz o u)
 tbls:∀b ps,H b=some (.tbl ps)->∃more,H' b=some (.tbl (ps++more))
section
variable{fs fs' ex ex':List Addr}{H H1 H2:Hp}{h h1 h2 h':Heap}{a x e:Addr}{o:HO}
theorem Un.any(u:Un fs ex H H1 h h1)(q:h.get? b=some ob)(n:H b=none)(hx:b∉ex):∃sl,h1.get? b=some { ob with slots:=sl }:=by
 by_cases hb:b∈fs
 ·exact u.slot b ob q n hb hx
 ·exact⟨ob.slots,u.keep b ob q n hb hx⟩
theorem Un.kept(k:∀b u,h.get? b=some u->h'.get? b=some u):Un fs ex H H h h' :=
 ⟨λb ob q _ _ _=>k b ob q,λb ob q _ _ _=>⟨ob.slots,k b ob q⟩,λ_ _ _ n _=>n,λb ob q _=>⟨ob,k b ob q⟩,λ_ _ q=>q,λ_ _ _ q=>q,λ_ ps q=>⟨#[],by rw[q];simp⟩⟩
theorem Un.refl:Un fs ex H H h h:=Un.kept λ_ _ q=>q
theorem Un.laid(k:∀b u,h.get? b=some u->h'.get? b=some u)(hp:h.objs.size<=a)(hn:H a=none):Un fs ex H (upd H a o) h h' where
 keep:=λb u q _ _ _=>k b u q
 slot:=λb u q _ _ _=>⟨u.slots,k b u q⟩
 free:=λb u q n _=>by rw[ah (AAM (AAZ (AAH q) hp))];exact n
 there:=λb u q _=>⟨u,k b u q⟩
 tups:=λb xs q=>by rw[ah (ad q hn)];exact q
 frzs:=λb u xs q=>by rw[ah (ad q hn)];exact q
 tbls:=λb ps q=>⟨#[],by rw[ah (ad q hn),q];simp⟩
theorem Un.write(mu:Mut (H x))(he:e=x\/H e=some (.own x))(k:∀b u,b≠e->h.get? b=some u->h'.get? b=some u)(heo:∃u,h'.get? e=some u):Un fs ex H (upd H x o) h h':=by
 have hx:∀b,H b=none->b≠x:=λb n z=>by subst z;rw[n]at mu;exact mu
 have hb:∀b,H b=none->b≠e:=λb n z=>by
  subst z
  rcases he with r | r
  ·exact hx b n r
  ·rw[n]at r;cases r
 have hm:∀b u,H b=some u->¬Mut (some u)->b≠x:=λb u q nm z=>by subst z;rw[q]at mu;exact nm mu
 refine⟨λb u q n _ _=>k b u (hb b n) q,λb u q n _ _=>⟨u.slots,k b u (hb b n) q⟩,λb u q n _=>by rw[ah (hx b n)];exact n,λb u q _=>?_,
  λb xs q=>by rw[ah (hm b _ q λz=>z)];exact q,λb u xs q=>by rw[ah (hm b _ q λz=>z)];exact q,λb ps q=>⟨#[],by rw[ah (hm b _ q λz=>z),q];simp⟩⟩
 by_cases hbe:b=e
 ·subst hbe;exact heo
 ·exact⟨u,k b u hbe q⟩
end
def trk(h:Heap)(H:Hp):List Addr:=(AAv h.objs.size).filter λa=>(H a).isSome
def xI(h:Heap)(H:Hp):Heap:=PySem.W.hideAll h (trk h H)
theorem wW(h:Heap)(H:Hp):(xI h H).objs.size=h.objs.size:=PySem.W.hideAll_size _ _
theorem yU(e:h.get? b=some o)(n:H b=none):(xI h H).get? b=some o :=
 PySem.W.hideAll_get _ e λhm=>by
  have q:(H b).isSome=true:=(AAX.mp hm).2
  rw[n]at q;simp at q
theorem Bl(e:(xI h H).get? b=some o):h.get? b=some o/\H b=none:=by
 have e':h.get? b=some o:=PySem.W.of_hideAll (trk h H) e
 refine⟨e',?_⟩
 cases q:H b with
 | none=>rfl
 | some x =>
  have hm:b∈trk h H:=AAX.mpr ⟨AB1.mpr (AAH e'),by simp[q]⟩
  have z:(xI h H).get? b=none:=PySem.W.hideAll_none (trk h H) hm
  rw[z]at e;cases e
def Cm(g h:Heap)(L:Addr):List (Addr×Obj):=(AAv h.objs.size).filterMap λa=>if a=L\/(g.get? a).isSome=true then none else(h.get? a).map λo=>(a,o)
def aI(g h:Heap)(L d:Addr):List (Addr×Obj):=(Cm g h L).filter λp=>decide (p.1≠d)
end L2
namespace L2
open PySem PySem.Spec PyProof.Rows
structure Mod(K:AA4)(mg:Str->Option Value)(base:Heap):Prop where
 kin:K.In base
 glob:base.Ns mainGlobals mg
 blt:∃mb,base.Ns builtinsNs mb/\∀x:Str,x≠"__name__"->mb x=bootBuiltins x
 nolimit:base.NoLimit
/-- the context: a def's body (or a comprehension's block) running. base: fixed through the whole law;s₀,H₀: the entry;outer: the frames whose slots others may change (a def's callers);stack: all frames that run;
  ex: iterators that were made dL of the entry and are walked here (a comprehension's);fn: the names whose cells were made at the entry (a def: all;a comprehension's block: its own);calm: not CA an except suite;pn: pins that every state bears;xe: what is wanted of an exception that leaves the code -/
structure Cx where
 prog:Program
 w:World
 K:AA4
 mg:Str->Option Value
 base:Heap
 A:Around
 N:List Str
 s₀:Shared
 H₀:Hp
 env:Env
 outer:List Env
 stack:List Env
 ex:List Addr
 fn:Str->Bool
 calm:Bool
 pn:List (Addr×Obj)
 xe:Value->Shared->Prop
def frs(l:List Env):List Addr:=l.filterMap (·.frame)
abbrev Cx.fs(X:Cx):List Addr:=frs X.outer
def Vis(sc:Scope)(x:Str):Prop:=sc.names.lookup x=some .local\/sc.names.lookup x=some .cell\/sc.names.lookup x=some .free
def Loc(sc:Scope)(x:Str):Prop:=sc.names.lookup x=some .local\/sc.names.lookup x=some .cell
def Look(env:Env)(h:Heap)(m:Str->Option Value)(x:Str)(u:Value):Prop :=
 (env.kindOf x=some .local/\m x=some u)\/((env.kindOf x=some .cell\/env.kindOf x=some .free)/\∃c,env.cells.lookup x=some c/\h.IsCell c (some u))
structure Cx.Ok(X:Cx):Prop where
 mod:Mod X.K X.mg X.base
 kind:X.env.scope.kind=.function
 glob:X.env.globals=mainGlobals
 blt:X.env.builtins=builtinsNs
 above:X.s₀.heap.objs.size<=X.env.locals
 inj:∀x y c,X.env.cells.lookup x=some c->X.env.cells.lookup y=some c->x=y
 has:∀x,(X.env.kindOf x=some .cell\/X.env.kindOf x=some .free)->∃c,X.env.cells.lookup x=some c
 cab:∀x c,X.fn x=true->X.env.cells.lookup x=some c->X.s₀.heap.objs.size<=c
 hd:X.calm=true->X.A.handled=none
 frames:X.A.frames=some X.stack
 stk:X.stack=X.outer\/(X.stack=X.env::X.outer/\X.env.frame=some X.env.locals)
 exf:∀b∈X.ex,b≠X.env.locals/\∀x c,X.env.cells.lookup x=some c->c≠b
 bs:∀b o,X.base.get? b=some o->X.s₀.heap.get? b=some o/\X.H₀ b=none
 bsz:X.base.objs.size<=X.s₀.heap.objs.size
 noex:∀b o,X.base.get? b=some o->b∉X.ex
 exfs:∀b∈X.ex,b∉X.fs
 funs:X.s₀.heap.FunFrames X.base X.outer
 frf:∀b∈X.fs,X.H₀ b=none
structure Inv(X:Cx)(pins:List (Addr×Obj))(σ:List (Option V))(H:Hp)(s:Shared):Prop where
 ok:X.Ok
 os:s.os=X.s₀.os
 bare:AllBare s.gens
 base:Un X.fs X.ex X.H₀ H X.s₀.heap s.heap
 loc:∃m,s.heap.Ns X.env.locals m/\∀(i:Nat) (x:Str) (v:V),X.N[i]?=some x->σ[i]?=some (some v)->Vis X.env.scope x->∃u,aL v u/\Look X.env s.heap m x u
 cell:∀x c,X.env.cells.lookup x=some c->∃v,s.heap.IsCell c v
 free:H X.env.locals=none
 freeC:∀x c,X.env.cells.lookup x=some c->H c=none
 pin:∀p∈X.pn++pins,s.heap.get? p.1=some p.2/\H p.1=none/\p.1≠X.env.locals/\p.1∉X.fs/\∀v,p.2.data≠.cell v
 hok:HOk X.prog X.w H s.heap
 len:σ.length=X.N.length
section
variable{X:Cx}{pins:List (Addr×Obj)}{σ:List (Option V)}{H H':Hp}{s:Shared}{h':Heap}
theorem Cx.Ok.nofr(ok:X.Ok)(e:X.base.get? b=some o):b∉X.fs:=λhb=>by
 have:=(ok.funs.mem hb).1
 rw[e]at this;cases this
theorem Inv.bs(I:Inv X pins σ H s):∀b o,X.base.get? b=some o->s.heap.get? b=some o/\H b=none:=λb o e =>
 ⟨I.base.keep b o (I.ok.bs b o e).1 (I.ok.bs b o e).2 (I.ok.nofr e) (I.ok.noex b o e),I.base.free b o (I.ok.bs b o e).1 (I.ok.bs b o e).2 (I.ok.noex b o e)⟩
theorem Inv.bk(I:Inv X pins σ H s):∀b o,X.base.get? b=some o->s.heap.get? b=some o:=λb o e=>(I.bs b o e).1
theorem Inv.mod(I:Inv X pins σ H s):Mod X.K X.mg X.base:=I.ok.mod
theorem Inv.kIn(I:Inv X pins σ H s):X.K.In s.heap:=I.ok.mod.kin.keeps I.bk
theorem Inv.lt(I:Inv X pins σ H s):X.env.locals<s.heap.objs.size:=let ⟨_,hn,_⟩:=I.loc;hn.lt
theorem Inv.sz(I:Inv X pins σ H s):X.s₀.heap.objs.size<=s.heap.objs.size:=AAy I.ok.above (ACN I.lt)
theorem Inv.nofs(I:Inv X pins σ H s)(h:s.heap.objs.size<=a):a∉X.fs:=λhb=>by
 obtain⟨_,o,ho,_⟩:=I.ok.funs.mem hb
 exact absurd (AAZ (AAH ho) (AAy I.sz h)) (AAn _)
theorem Inv.cne(I:Inv X pins σ H s):∀x c,X.env.cells.lookup x=some c->c≠X.env.locals:=λx c e z=>by
 obtain⟨v,o,ho,hd⟩:=I.cell x c e
 obtain⟨m,⟨o',es,ep,ho',hd',_⟩,_⟩:=I.loc
 rw[z,ho']at ho;cases ho;rw[hd']at hd;cases hd
theorem Inv.funs(I:Inv X pins σ H s):s.heap.FunFrames X.base X.outer:=by
 have all:∀(l:List Env),(∀b∈frs l,b∈X.fs)->X.s₀.heap.FunFrames X.base l->s.heap.FunFrames X.base l:=by
  intro l
  induction l with
  | nil=>intro _ _;trivial
  | cons env r ih =>
   intro hs hl
   obtain⟨hk,⟨L,o,hf,hn,ho,hd⟩,hr⟩:=hl
   have hL:L∈X.fs:=hs L (by unfold frs;rw[ABr,hf];exact AAI)
   obtain⟨sl,e⟩:=I.base.slot L o ho (I.ok.frf L hL) hL λz=>I.ok.exfs L z hL
   exact⟨hk,⟨L,_,hf,hn,e,hd⟩,ih (λb hb=>hs b (by unfold frs;rw[ABr,hf];exact AAA _ hb)) hr⟩
 exact all X.outer (λ_ hb=>hb) I.ok.funs
theorem Inv.stack(I:Inv X pins σ H s):s.heap.FunFrames X.base X.stack:=by
 rcases I.ok.stk with e | ⟨e,hf⟩
 ·rw[e];exact I.funs
 ·rw[e]
  obtain⟨m,hn,_⟩:=I.loc
  refine .cons (by rw[I.ok.kind];decide) hf hn ?_ I.funs
  exact Heap.get?_none_of_le (AAy I.ok.bsz I.ok.above)
theorem Inv.stkSub(I:Inv X pins σ H s):∀b∈frs X.stack,b∈X.env.locals::X.fs:=λb hb=>by
 rcases I.ok.stk with e | ⟨e,hf⟩
 ·rw[e]at hb;exact AAA _ hb
 ·rw[e]at hb
  unfold frs at hb
  rw[ABr,hf]at hb
  exact hb
theorem Inv.stkFree(I:Inv X pins σ H s):∀b∈frs X.stack,H b=none:=λb hb=>by
 rcases AAN.mp (I.stkSub b hb)with e | hb
 ·rw[e];exact I.free
 ·obtain⟨_,o,ho,_⟩:=I.ok.funs.mem hb
  exact I.base.free b o ho (I.ok.frf b hb) λz=>I.ok.exfs b z hb
theorem Inv.step{g':Array GenState}{t':Nat}{d':Drawn}{ch:List Addr}(I:Inv X pins σ H s)
  (hch:∀b∈ch,(b∈X.ex\/X.s₀.heap.objs.size<=b)/\b≠X.env.locals/\(∀x c,X.env.cells.lookup x=some c->c≠b)/\∀p∈X.pn++pins,p.1≠b)
  (keep:∀b o,b≠X.env.locals->b∉X.fs->b∉ch->s.heap.get? b=some o->H b=none->h'.get? b=some o)
  (slot:∀b o,b≠X.env.locals->b∈X.fs->b∉ch->s.heap.get? b=some o->H b=none->∃sl,h'.get? b=some { o with slots:=sl }) (free:∀b o,b∉ch->s.heap.get? b=some o->H b=none->H' b=none)
  (there:∀b o,b∉ch->s.heap.get? b=some o->∃o',h'.get? b=some o')
  (tups:∀b xs,H b=some (.tup xs)->H' b=some (.tup xs)) (frzs:∀b o u,H b=some (.frz o u)->H' b=some (.frz o u)) (tbls:∀b ps,H b=some (.tbl ps)->∃more,H' b=some (.tbl (ps++more)))
  (ns:∀m,s.heap.Ns X.env.locals m->h'.Ns X.env.locals m) (hok:HOk X.prog X.w H' h') (hg:AllBare g') :
  Inv X pins σ H' { s with heap:=h',gens:=g',drawn:=d',toks:=t' }:=by
 have neL:∀b o,X.s₀.heap.get? b=some o->b≠X.env.locals:=λb o e=>AAM (AAZ (AAH e) I.ok.above)
 have neC:∀b o,X.s₀.heap.get? b=some o->b∉X.ex->b∉ch:=λb o e hx hb=>by
  rcases(hch b hb).1 with z | z
  ·exact hx z
  ·exact absurd (AAZ (AAH e) z) (AAn _)
 have cellK:∀x c,X.env.cells.lookup x=some c->∀v,s.heap.IsCell c v->h'.IsCell c v:=λx c e v ⟨o,ho,hd⟩=>by
  have nch:c∉ch:=λz=>(hch c z).2.2.1 x c e rfl
  by_cases hc:c∈X.fs
  ·obtain⟨sl,q⟩:=slot c o (I.cne x c e) hc nch ho (I.freeC x c e)
   exact⟨_,q,hd⟩
  ·exact⟨o,keep c o (I.cne x c e) hc nch ho (I.freeC x c e),hd⟩
 refine⟨I.ok,I.os,hg,⟨λb o e n hb hx=>?_,λb o e n hb hx=>?_,λb o e n hx=>?_,λb o e hx=>?_,λb xs e=>tups b xs (I.base.tups b xs e),λb o xs e=>frzs b o xs (I.base.frzs b o xs e),λb ps e=>?_⟩,?_,λx c e=>?_,?_,λx c e=>?_,λp hp=>?_,hok,I.len⟩
 ·exact keep b o (neL b o e) hb (neC b o e hx) (I.base.keep b o e n hb hx) (I.base.free b o e n hx)
 ·obtain⟨sl,e1⟩:=I.base.slot b o e n hb hx
  obtain⟨sl',e2⟩:=slot b _ (neL b o e) hb (neC b o e hx) e1 (I.base.free b o e n hx)
  exact⟨sl',e2⟩
 ·obtain⟨o',e1⟩:=I.base.there b o e hx
  exact free b o' (neC b o e hx) e1 (I.base.free b o e n hx)
 ·obtain⟨o',e1⟩:=I.base.there b o e hx
  exact there b o' (neC b o e hx) e1
 ·obtain⟨m1,e1⟩:=I.base.tbls b ps e
  obtain⟨m2,e2⟩:=tbls b _ e1
  exact⟨m1++m2,by rw[e2,Array.append_assoc]⟩
 ·obtain⟨m,hn,hl⟩:=I.loc
  refine⟨m,ns m hn,λi x v e1 e2 e3=>?_⟩
  obtain⟨u,r,l⟩:=hl i x v e1 e2 e3
  refine⟨u,r,?_⟩
  rcases l with l | ⟨k,c,e,z⟩
  ·exact .inl l
  ·exact .inr ⟨k,c,e,cellK x c e _ z⟩
 ·obtain⟨v,z⟩:=I.cell x c e
  exact⟨v,cellK x c e v z⟩
 ·obtain⟨m,⟨o,_,_,ho,_⟩,_⟩:=I.loc
  exact free _ o (λz=>(hch _ z).2.1 rfl) ho I.free
 ·obtain⟨v,o,ho,hd⟩:=I.cell x c e
  exact free c o (λz=>(hch c z).2.2.1 x c e rfl) ho (I.freeC x c e)
 ·obtain⟨e,n,ne,nf,d⟩:=I.pin p hp
  have nch:p.1∉ch:=λz=>(hch p.1 z).2.2.2 p hp rfl
  exact⟨keep p.1 p.2 ne nf nch e n,free p.1 p.2 nch e n,ne,nf,d⟩
theorem Inv.un{t':Nat}(I:Inv X pins σ H s)(u:Un X.fs [] H H' s.heap h')(hok:HOk X.prog X.w H' h'):Inv X pins σ H' { s with heap:=h',toks:=t' }:=by
 obtain⟨m,⟨o,es,ep,ho,r⟩,_⟩:=id I.loc
 obtain⟨sl,hL⟩:=u.any ho I.free (by simp)
 exact I.step (g':=s.gens) (d':=s.drawn) (ch:=[]) (λ_ z=>nomatch z) (λb o _ hb _ e n=>u.keep b o e n hb (by simp)) (λb o _ hb _ e n=>u.slot b o e n hb (by simp)) (λb o _ e n=>u.free b o e n (by simp)) (λb o _ e=>u.there b o e (by simp)) u.tups u.frzs u.tbls (λm' hm=>by
  obtain⟨o',es',ep',ho',r'⟩:=hm
  rw[ho]at ho';cases ho'
  exact⟨_,es',ep',hL,r'⟩) hok I.bare
theorem Inv.call{g':Array GenState}{t':Nat}{d':Drawn}{ch:List Addr}(I:Inv X pins σ H s)(u:Un (frs X.stack) ch H H' s.heap h')(hok:HOk X.prog X.w H' h')(hg:AllBare g')
  (hch:∀b∈ch,(b∈X.ex\/X.s₀.heap.objs.size<=b)/\b≠X.env.locals/\(∀x c,X.env.cells.lookup x=some c->c≠b)/\∀p∈X.pn++pins,p.1≠b) :
  Inv X pins σ H' { s with heap:=h',gens:=g',drawn:=d',toks:=t' }:=by
 obtain⟨m,⟨o,es,ep,ho,r⟩,_⟩:=id I.loc
 obtain⟨sl,hL⟩:=u.any ho I.free λz=>(hch _ z).2.1 rfl
 exact I.step (ch:=ch) hch (λb o hL hb hc e n=>u.keep b o e n (λz=>(AAN.mp (I.stkSub b z)).elim hL hb) hc) (λb o _ _ hc e n=>u.any e n hc) (λb o hc e n=>u.free b o e n hc) (λb o hc e=>u.there b o e hc) u.tups u.frzs u.tbls (λm' hm=>by
  obtain⟨o',es',ep',ho',r'⟩:=hm
  rw[ho]at ho';cases ho'
  exact⟨_,es',ep',hL,r'⟩) hok hg
theorem Inv.turned{t':Nat}{it:Addr}(I:Inv X pins σ H s)(k:∀b o,b≠it->s.heap.get? b=some o->h'.get? b=some o)(hn:H it=none)(hL:it≠X.env.locals)
  (h1:it∈X.ex\/X.s₀.heap.objs.size<=it) (h2:∀x c,X.env.cells.lookup x=some c->c≠it) (h3:∀p∈X.pn++pins,p.1≠it):Inv X pins σ H { s with heap:=h',toks:=t' }:=by
 have nit:∀b u,H b=some u->b≠it:=λb u e z=>by rw[z,hn]at e;cases e
 refine I.step (g':=s.gens) (d':=s.drawn) (ch:=[it]) (λb hb=>?_) (λb o _ _ hc e _=>k b o (λz=>hc (by simp[z])) e) (λb o _ _ hc e _=>⟨o.slots,k b o (λz=>hc (by simp[z])) e⟩) (λ_ _ _ _ n=>n)
  (λb o hc e=>⟨o,k b o (λz=>hc (by simp[z])) e⟩) (λ_ _ e=>e) (λ_ _ _ e=>e) (λb ps e=>⟨#[],by rw[e];simp⟩) (λm hm=>?_) (λb u e=>?_) I.bare
 ·have e:b=it:=by simpa using hb
  subst e
  exact⟨h1,hL,h2,h3⟩
 ·obtain⟨o,es,ep,ho,r⟩:=hm
  exact⟨o,es,ep,k _ o (ABC hL) ho,r⟩
 ·refine(I.hok b u e).stay (λc v hc q=>k c v ?_ q) (λ_ q=>q) λ_ _ q=>q
  rcases hc with z | z
  ·rw[z];exact nit b u e
  ·exact nit c _ z
theorem Inv.tok(I:Inv X pins σ H s)(t:Nat):Inv X pins σ H { s with toks:=t }:=I.un (h':=s.heap) (t':=t) Un.refl I.hok
theorem Inv.kept(I:Inv X pins σ H s)(k:∀b u,s.heap.get? b=some u->h'.get? b=some u):Inv X pins σ H { s with heap:=h',toks:=t' }:=I.un (Un.kept k) (I.hok.kept k)
theorem Inv.laid(I:Inv X pins σ H s)(k:∀b u,s.heap.get? b=some u->h'.get? b=some u)(hp:s.heap.objs.size<=a)(new:cF X.prog X.w (upd H a o) h' a o) :
  Inv X pins σ (upd H a o) { s with heap:=h',toks:=t' }:=I.un (Un.laid k hp (I.hok.fresh hp)) (I.hok.laid k hp new)
theorem Inv.write(I:Inv X pins σ H s)(mu:Mut (H x))(he:e=x\/H e=some (.own x))(k:∀b u,b≠e->s.heap.get? b=some u->h'.get? b=some u)(heo:∃u,h'.get? e=some u)
  (new:cF X.prog X.w (upd H x o) h' x o):Inv X pins σ (upd H x o) { s with heap:=h',toks:=t' }:=I.un (Un.write mu he k heo) (I.hok.write mu he k heo new)
theorem Inv.pins_of(I:Inv X pins σ H s)(h:∀p∈pins',s.heap.get? p.1=some p.2/\H p.1=none/\p.1≠X.env.locals/\p.1∉X.fs/\∀v,p.2.data≠.cell v):Inv X pins' σ H s :=
 ⟨I.ok,I.os,I.bare,I.base,I.loc,I.cell,I.free,I.freeC,λp hp=>(AAl.mp hp).elim (λz=>I.pin p (AAW _ z)) (h p),I.hok,I.len⟩
theorem ss{N:List Str}(hN:N.Nodup){i j:Nat}{x:Str}(a:N[i]?=some x)(b:N[j]?=some x):i=j:=by
 obtain⟨h1,e1⟩:=AA7.mp a
 obtain⟨h2,e2⟩:=AA7.mp b
 exact(List.getElem_inj hN).mp (e1.trans e2.symm)
theorem vq{M:Model}{A:Around}{E:Value->Shared->Prop}{i:Nat}{x:Str}{v:V}{u:Value}{Q:Unit->Shared->Prop}(I:Inv X pins σ H s)(hN:X.N.Nodup)(hi:X.N[i]?=some x)(hx:Loc X.env.scope x)(r:aL v u)
  (h:∀s',Inv X pins (σ.set i (some v)) H s'->(∃a,ABz a s.heap s'.heap/\(a=X.env.locals\/X.env.cells.lookup x=some a))->Q () s') (hf:X.fn x=true\/X.env.scope.names.lookup x=some .local:=by first | exact .inl rfl | exact .inr rfl | assumption):wpAny M A (storeName X.env x u) Q E s:=by
 obtain⟨m,hn,hl⟩:=id I.loc
 have hcls:(X.env.scope.kind==.class||(X.env.scope.kind==.module&&X.env.locals != X.env.globals))=false:=by rw[I.ok.kind];rfl
 have hiσ:i<σ.length:=by rw[I.len];exact(AA7.mp hi).1
 have cne:=I.cne
 have tracked:∀{a:Addr}{h':Heap},(∃o,s.heap.get? a=some o/\H a=none)->ABz a s.heap h'->HOk X.prog X.w H h':=λ{a h'} ha hs b ob e=>by
  obtain⟨_,_,hfree⟩:=ha
  refine(I.hok b ob e).stay (λc w' hc q=>(hs.2 c ?_).trans q) (λ_ q=>q) λ_ _ q=>q
  rintro rfl
  rcases hc with rfl | hc
  ·rw[hfree]at e;cases e
  ·rw[hfree]at hc;cases hc
 rcases hx with hk | hk
 ·refine wpAny_storeName_local hk hn (λh' hn' hs=>?_) hcls
  obtain⟨oL,_,_,hoL,_⟩:=id hn
  refine h _ ⟨I.ok,I.os,I.bare,⟨λb o e n hb hx=>?_,λb o e n hb hx=>?_,I.base.free,λb o e hx=>?_,I.base.tups,I.base.frzs,I.base.tbls⟩,⟨_,hn',λj y v' e1 e2 e3=>?_⟩,λy c e=>?_,I.free,I.freeC,λp hp=>?_,tracked ⟨oL,hoL,I.free⟩ hs,by simpa using I.len⟩ ⟨_,hs,.inl rfl⟩
  ·exact(hs.2 b (AAM (AAZ (AAH e) I.ok.above))).trans (I.base.keep b o e n hb hx)
  ·obtain⟨sl,e1⟩:=I.base.slot b o e n hb hx
   exact⟨sl,(hs.2 b (AAM (AAZ (AAH e) I.ok.above))).trans e1⟩
  ·obtain⟨o',e1⟩:=I.base.there b o e hx
   exact⟨o',(hs.2 b (AAM (AAZ (AAH e) I.ok.above))).trans e1⟩
  ·by_cases hj:j=i
   ·subst hj
    rw[hi]at e1;cases e1
    rw[AAj hiσ]at e2
    cases e2
    exact⟨u,r,.inl ⟨hk,by simp⟩⟩
   ·rw[AAq (ABC hj)]at e2
    obtain⟨u',r',q⟩:=hl j y v' e1 e2 e3
    refine⟨u',r',?_⟩
    rcases q with⟨k,e⟩|⟨k,c,e,z⟩
    ·refine .inl ⟨k,?_⟩
     have:y≠x:=λe=>hj (ss hN e1 (e ▸ hi))
     simp[this,e]
    ·exact .inr ⟨k,c,e,z.sameBut hs (cne y c e)⟩
  ·obtain⟨w',z⟩:=I.cell y c e
   exact⟨w',z.sameBut hs (cne y c e)⟩
  ·obtain⟨e,n,ne,nf,d⟩:=I.pin p hp
   exact⟨(hs.2 p.1 ne).trans e,n,ne,nf,d⟩
 ·have hfn:X.fn x=true:=by
   rcases hf with z | z
   ·exact z
   ·rw[z]at hk;cases hk
  obtain⟨c,hc⟩:=I.ok.has x (.inl hk)
  obtain⟨w',z⟩:=I.cell x c hc
  refine wpAny_storeName_cell I.ok.kind hk hc z (λh' hc' hs=>?_)
  obtain⟨oc,hoc,hocd⟩:=id z
  refine h { s with heap:=h' } ⟨I.ok,I.os,I.bare,⟨λb o e n hb hx=>?_,λb o e n hb hx=>?_,I.base.free,λb o e hx=>?_,I.base.tups,I.base.frzs,I.base.tbls⟩,⟨m,hn.sameBut hs (ABC (cne x c hc)),λj y v' e1 e2 e3=>?_⟩,λy c' e=>?_,I.free,I.freeC,λp hp=>?_,tracked ⟨oc,hoc,I.freeC x c hc⟩ hs,by simpa using I.len⟩ ⟨c,hs,.inr hc⟩
  ·exact(hs.2 b (AAM (AAZ (AAH e) (I.ok.cab x c hfn hc)))).trans (I.base.keep b o e n hb hx)
  ·obtain⟨sl,e1⟩:=I.base.slot b o e n hb hx
   exact⟨sl,(hs.2 b (AAM (AAZ (AAH e) (I.ok.cab x c hfn hc)))).trans e1⟩
  ·obtain⟨o',e1⟩:=I.base.there b o e hx
   exact⟨o',(hs.2 b (AAM (AAZ (AAH e) (I.ok.cab x c hfn hc)))).trans e1⟩
  ·by_cases hj:j=i
   ·subst hj
    rw[hi]at e1;cases e1
    rw[AAj hiσ]at e2
    cases e2
    exact⟨u,r,.inr ⟨.inl hk,c,hc,hc'⟩⟩
   ·rw[AAq (ABC hj)]at e2
    obtain⟨u',r',q⟩:=hl j y v' e1 e2 e3
    refine⟨u',r',?_⟩
    rcases q with q | ⟨k,c',e,z'⟩
    ·exact .inl q
    ·refine .inr ⟨k,c',e,z'.sameBut hs ?_⟩
     rintro rfl
     exact hj (ss hN e1 (I.ok.inj _ _ _ e hc ▸ hi))
  ·by_cases hcc:c'=c
   ·subst hcc;exact⟨_,hc'⟩
   ·obtain⟨w2,z2⟩:=I.cell y c' e
    exact⟨w2,z2.sameBut hs hcc⟩
  ·obtain⟨e,n,ne,nf,d⟩:=I.pin p hp
   refine⟨(hs.2 p.1 ?_).trans e,n,ne,nf,d⟩
   intro q
   rw[q,hoc]at e
   have q':oc=p.2:=AAR e
   exact d w' (by rw[←q'];exact hocd)
theorem sd(I:Inv X pins σ H s)(hN:X.N.Nodup)(hi:X.N[i]?=some x)(hx:Loc X.env.scope x)(r:aL v u)
  (h:∀s',Inv X pins (σ.set i (some v)) H s'->Q () s') (hf:X.fn x=true\/X.env.scope.names.lookup x=some .local:=by first | exact .inl rfl | exact .inr rfl | assumption):wpAny M A (storeName X.env x u) Q E s :=
 vq I hN hi hx r (λs' I' _=>h s' I') hf
theorem Inv.call'(I:Inv X pins σ H s)(ho:s'.os=s.os)(u:Un (frs X.stack) ch H H' s.heap s'.heap)(hok:HOk X.prog X.w H' s'.heap)(hg:AllBare s'.gens)
  (hch:∀b∈ch,(b∈X.ex\/X.s₀.heap.objs.size<=b)/\b≠X.env.locals/\(∀x c,X.env.cells.lookup x=some c->c≠b)/\∀p∈X.pn++pins,p.1≠b):Inv X pins σ H' s':=by
 obtain⟨h',g',d',t',o'⟩:=s'
 have e:o'=s.os:=ho
 subst e
 exact I.call (g':=g') (t':=t') (d':=d') u hok hg hch
end
abbrev XK:=Value->Option Addr->Hp->Prop
abbrev St:=List (Option V)
abbrev VK:=V->Hp->Prop
abbrev TE:=St->Hp->VK->Prop
abbrev TT:=St->Hp->(Bool->Hp->Prop)->Prop
abbrev TA:=St->Hp->(List V->Hp->Prop)->Prop
structure Ends where
 nx:St->Hp->Prop
 rt:VK
 bk:St->Hp->Prop:=λ_ _=>False
 ct:St->Hp->Prop:=λ_ _=>False
abbrev TS:=Ends->St->Hp->Prop
inductive EP(X:Cx)(pins:List (Addr×Obj))(σ:St)(Q:VK)(u:Value)(s':Shared):Prop
 | mk (v:_) (H':_) (f0:Inv X pins σ H' s') (f1:aL v u) (f2:Q v H')
inductive TP(X:Cx)(pins:List (Addr×Obj))(σ:St)(Q:Bool->Hp->Prop)(b:Bool)(s':Shared):Prop
 | mk (H':_) (f0:Inv X pins σ H' s') (f1:Q b H')
inductive AP(X:Cx)(pins:List (Addr×Obj))(σ:St)(Q:List V->Hp->Prop)(us:List Value)(s':Shared):Prop
 | mk (vs:_) (H':_) (f0:Inv X pins σ H' s') (f1:aw vs us) (f2:Q vs H')
def SP(X:Cx)(pins:List (Addr×Obj))(D:Ends)(f:Flow)(s':Shared):Prop :=
 match f with
 | .next=>∃σ' H',Inv X pins σ' H' s'/\D.nx σ' H'
 | .brk=>∃σ' H',Inv X pins σ' H' s'/\D.bk σ' H'
 | .cont=>∃σ' H',Inv X pins σ' H' s'/\D.ct σ' H'
 | .ret u=>∃v σ' H',Inv X pins σ' H' s'/\aL v u/\D.rt v H'
def PE(X:Cx)(e:Expr)(t:TE):Prop :=
 ∀(pins:List (Addr×Obj)) (s:Shared) (σ:St) (H:Hp) (Q:VK),Inv X pins σ H s->t σ H Q->wpAny (model X.prog X.w) X.A (eval e X.env) (EP X pins σ Q) X.xe s
def PT(X:Cx)(e:Expr)(t:TT):Prop :=
 ∀(pins:List (Addr×Obj)) (s:Shared) (σ:St) (H:Hp) (Q:Bool->Hp->Prop),Inv X pins σ H s->t σ H Q->wpAny (model X.prog X.w) X.A (isTrue e X.env (eval e X.env)) (TP X pins σ Q) X.xe s
def PW(X:Cx)(e:Expr)(t:TT):Prop :=
 ∀(whole:Sem Value) (pins:List (Addr×Obj)) (s:Shared) (σ:St) (H:Hp) (Q:Bool->Hp->Prop),Inv X pins σ H s->t σ H Q->wpAny (model X.prog X.w) X.A (isTrue e X.env whole) (TP X pins σ Q) X.xe s
theorem PW.pt(h:PW X e t):PT X e t:=h _
def PA(X:Cx)(es:List Expr)(t:TA):Prop :=
 ∀(pos:Pos) (pins:List (Addr×Obj)) (s:Shared) (σ:St) (H:Hp) (Q:List V->Hp->Prop),Inv X pins σ H s->t σ H Q->wpAny (model X.prog X.w) X.A (spliced (backTo pos (starEach es X.env))) (AP X pins σ Q) X.xe s
def PS(X:Cx)(st:Stmt)(t:TS):Prop :=
 ∀(pins:List (Addr×Obj)) (s:Shared) (σ:St) (H:Hp) (D:Ends),Inv X pins σ H s->t D σ H->wpAny (model X.prog X.w) X.A (exec st X.env) (SP X pins D) X.xe s
def PSs(X:Cx)(st:List Stmt)(t:TS):Prop :=
 ∀(pins:List (Addr×Obj)) (s:Shared) (σ:St) (H:Hp) (D:Ends),Inv X pins σ H s->t D σ H->wpAny (model X.prog X.w) X.A (execs st X.env) (SP X pins D) X.xe s
theorem thn{α:Type}{t:Sem α}{Q Q':α->Shared->Prop}{M:Model}{A:Around}{E:Value->Shared->Prop}{s:Shared}(h:wpAny M A t Q E s)(hQ:∀a s,Q a s->Q' a s):wpAny M A t Q' E s:=AB7 h hQ λ_ _ x=>x
end L2
namespace L2
open PySem PySem.Spec PyProof.Rows
section
variable{X:Cx}
def tVar(i:Nat):TE:=λσ H Q=>∃v,σ[i]?=some (some v)/\Q v H
def tC(v:V):TE:=λ_ H Q=>Q v H
theorem zC(hN:X.N[i]?=some x)(hv:Vis X.env.scope x)(hd:(x==("__debug__":Str))=false:=by decide)(hcd:(x==("__classdict__":Str))=false:=by decide):PE X (.Name x pos) (tVar i):=by
 intro pins s σ H Q I h
 obtain⟨v,e,h⟩:=h
 obtain⟨m,hn,hl⟩:=I.loc
 obtain⟨u,r,l⟩:=hl i x v hN e hv
 have fin:EP X pins σ Q u s:=⟨v,H,I,r,h⟩
 rcases l with⟨hk,hm⟩|⟨hk,c,hc,hcell⟩
 ·exact wpAny_Name (wpAny_loadName_local I.ok.kind hk hn hm fin) hd
 ·rcases hk with hk | hk
  ·exact wpAny_Name (wpAny_loadName_cell I.ok.kind hk hc hcell fin) hd
  ·exact wpAny_Name (wpAny_loadName_free I.ok.kind hk hc hcell fin hcd) hd
theorem Dr{i j pos}:PE X (.Constant (.int i) j pos) (tC (.int i)):=λ_ _ _ H _ I h=>wpAny_Constant_int ⟨.int i,H,I.tok _,⟨_,rfl⟩,h⟩
theorem pe_bl{b j pos}:PE X (.Constant (.bool b) j pos) (tC (.bl b)):=λ_ _ _ H _ I h=>Constant_bool ⟨.bl b,H,I,rfl,h⟩
theorem Dp{j pos}:PE X (.Constant .none j pos) (tC .non):=λ_ _ _ H _ I h=>Constant_none ⟨.non,H,I,rfl,h⟩
theorem Dm{x j pos}:PE X (.Constant (.str x) j pos) (tC (.str x)):=λ_ _ _ H _ I h=>Calls.Constant_str ⟨.str x,H,I.tok _,⟨_,rfl⟩,h⟩
def Gl(X:Cx)(x:Str):Prop:=X.env.kindOf x=some .globalImplicit
theorem Bw(I:Inv X pins σ H s)(hg:Gl X x)(hm:X.mg x=some u)(h:Q u s)
  (hd:(x==("__debug__":Str))=false:=by decide):wpAny (model X.prog X.w) X.A (eval (.Name x pos) X.env) Q E s :=
 Calls.Name_function_global I.ok.kind hg (Calls.loadGlobal_global (by rw[I.ok.glob];exact I.mod.glob.keeps I.bk) hm h) hd
theorem gQ(I:Inv X pins σ H s)(hg:Gl X x)(hm:X.mg x=none)(hv:bootBuiltins x=some u)(h:Q u s)
  (hn:x≠"__name__":=by decide) (hd:(x==("__debug__":Str))=false:=by decide):wpAny (model X.prog X.w) X.A (eval (.Name x pos) X.env) Q E s:=by
 obtain⟨mb,h1,h2⟩:=I.mod.blt
 exact Calls.Name_function_global I.ok.kind hg (Calls.loadGlobal_builtin (by rw[I.ok.glob];exact I.mod.glob.keeps I.bk) hm (by rw[I.ok.blt];exact h1.keeps I.bk) ((h2 x hn).trans hv) h) hd
variable{a b:Expr}{ta tb:TE}{pos:Pos}
theorem aL.none_iff(r:aL x v):(v==ABi)=decide (x=.non):=by
 cases x with
 | non=>cases r;rfl
 | bl _=>cases r;rfl
 | int _=>obtain⟨t,rfl⟩:=r;rfl
 | str _=>obtain⟨t,rfl⟩:=r;rfl
 | byt _=>obtain⟨t,rfl⟩:=r;rfl
 | flt _=>obtain⟨t,rfl⟩:=r;rfl
 | ref _=>cases r;rfl
 | ty _=>cases r;rfl
def tB(t:TE):TT:=λσ H Q=>t σ H λx H1=>∃c,x=.bl c/\Q c H1
theorem Dd(h:PE X e t)(he:∀whole,isTrue e X.env whole=(do let v ←whole;standAt e.pos;holding [v] (truthy v)):=by intro _;rfl):PT X e (tB t):=by
 intro pins s σ H Q I hw
 refine isTrue_plain (thn (h pins s σ H _ I hw) λv s1 ⟨x,H1,I1,r1,q1⟩=>?_) (he _)
 obtain⟨d,rfl,q⟩:=q1
 cases r1
 exact ADg ⟨H1,I1,q⟩
variable{tA tB':TT}{aI:List Expr}
def tAnd(t u:TT):TT:=λσ H Q=>t σ H λc H1=>if c=true then u σ H1 Q else Q false H1
def tOr(t u:TT):TT:=λσ H Q=>t σ H λc H1=>if c=true then Q true H1 else u σ H1 Q
def tNot(t:TT):TT:=λσ H Q=>t σ H λc H1=>Q (!c) H1
theorem AM(ha:PT X a tA):PW X (.BoolOp .And [a] pos) tA:=by
 intro wh pins s σ H Q I h
 refine isTrue_and (thn (ha pins s σ H Q I h) λc s1 e=>?_)
 cases c with
 | true=>exact isTrue_and_nil e
 | false=>exact e
theorem Db(ha:PT X a tA):PW X (.BoolOp .Or [a] pos) tA:=by
 intro wh pins s σ H Q I h
 refine isTrue_or (thn (ha pins s σ H Q I h) λc s1 e=>?_)
 cases c with
 | false=>exact isTrue_or_nil e
 | true=>exact e
theorem Dc(ha:PT X a tA)(hb:PW X (.BoolOp .And (b::aI) pos) tB'):PW X (.BoolOp .And (a::b::aI) pos) (tAnd tA tB'):=by
 intro wh pins s σ H Q I h
 refine isTrue_and (thn (ha pins s σ H _ I h) λc s1 ⟨H1,I1,q1⟩=>?_)
 cases c with
 | true=>exact hb wh pins s1 σ H1 Q I1 q1
 | false=>exact⟨H1,I1,q1⟩
theorem pw_or(ha:PT X a tA)(hb:PW X (.BoolOp .Or (b::aI) pos) tB'):PW X (.BoolOp .Or (a::b::aI) pos) (tOr tA tB'):=by
 intro wh pins s σ H Q I h
 refine isTrue_or (thn (ha pins s σ H _ I h) λc s1 ⟨H1,I1,q1⟩=>?_)
 cases c with
 | true=>exact⟨H1,I1,q1⟩
 | false=>exact hb wh pins s1 σ H1 Q I1 q1
theorem De(ha:PT X a tA):PT X (.UnaryOp .Not a pos) (tNot tA):=by
 intro pins s σ H Q I h
 exact isTrue_not (thn (ha pins s σ H (λc H1=>Q (!c) H1) I h) λc s1 ⟨H1,I1,q1⟩=>⟨H1,I1,q1⟩)
def tAndV(ta tb:TE):TE:=λσ H Q=>ta σ H λx H1=>∃c,x=.bl c/\if c=true then tb σ H1 Q else Q (.bl false) H1
def tOrV(ta tb:TE):TE:=λσ H Q=>ta σ H λx H1=>∃c,x=.bl c/\if c=true then Q (.bl true) H1 else tb σ H1 Q
theorem Do{op}(h:PE X a t):PE X (.BoolOp op [a] pos) t:=λpins s σ H Q I hw=>BoolOp_one (h pins s σ H Q I hw)
theorem Dt(ha:PE X a ta)(hb:PE X (.BoolOp .And (b::aI) pos) tb):PE X (.BoolOp .And (a::b::aI) pos) (tAndV ta tb):=by
 intro pins s σ H Q I h
 refine BoolOp_and (thn (ha pins s σ H _ I h) λv s1 ⟨x,H1,I1,r1,q1⟩=>?_)
 obtain⟨c,rfl,q1⟩:=q1
 cases r1
 refine ADg ?_
 cases c with
 | true=>exact hb pins s1 σ H1 Q I1 q1
 | false=>exact⟨.bl false,H1,I1,rfl,q1⟩
theorem pe_or(ha:PE X a ta)(hb:PE X (.BoolOp .Or (b::aI) pos) tb):PE X (.BoolOp .Or (a::b::aI) pos) (tOrV ta tb):=by
 intro pins s σ H Q I h
 refine BoolOp_or (thn (ha pins s σ H _ I h) λv s1 ⟨x,H1,I1,r1,q1⟩=>?_)
 obtain⟨c,rfl,q1⟩:=q1
 cases r1
 refine ADg ?_
 cases c with
 | false=>exact hb pins s1 σ H1 Q I1 q1
 | true=>exact⟨.bl true,H1,I1,rfl,q1⟩
end
end L2
namespace L2
open PySem PySem.Spec PyProof.Rows
def SqL(K:AA4)(H:Hp)(a:Addr)(xs:List V):Prop :=
 Rd H a (.lst xs) \/
  ∃(o:Obj) (its:Array Value) (n:Nat),K.lookup a=some o/\o.cls=.type "list"/\o.dict=none/\o.data=.seq its n/\its.size<=sizeLine/\aw xs its.toList
def SqT(K:AA4)(H:Hp)(a:Addr)(xs:List V):Prop :=
 Rd H a (.tup xs) \/
  ∃(o:Obj) (its:Array Value) (n:Nat),K.lookup a=some o/\o.cls=.type "tuple"/\o.dict=none/\o.data=.seq its n/\its.size<=sizeLine/\aw xs its.toList
def absV:Value->Option V
 | .none=>some .non
 | .bool b=>some (.bl b)
 | .int i _=>some (.int i)
 | .str x _=>some (.str x)
 | .bytes b _=>some (.byt b)
 | .float b _=>some (.flt b)
 | .ref a=>some (.ref a)
 | .type n=>some (.ty n)
 | _=>none
theorem aL.abs(r:aL x u):absV u=some x:=by
 cases x with
 | non=>cases r;rfl
 | bl _=>cases r;rfl
 | int _=>obtain⟨t,rfl⟩:=r;rfl
 | str _=>obtain⟨t,rfl⟩:=r;rfl
 | byt _=>obtain⟨t,rfl⟩:=r;rfl
 | flt _=>obtain⟨t,rfl⟩:=r;rfl
 | ref _=>cases r;rfl
 | ty _=>cases r;rfl
theorem aL.inj(r:aL x u)(q:aL y u):x=y:=AAR (r.abs.symm.trans q.abs)
theorem aw.inj:∀{xs ys:List V}{us:List Value},aw xs us->aw ys us->xs=ys
 | _,_,_,.nil,.nil=>rfl
 | _,_,_,.cons r t,.cons r' t'=>by rw[r.inj r',aw.inj t t']
section
variable{X:Cx}{pins:List (Addr×Obj)}{σ:St}{H:Hp}{s:Shared}{a:Addr}{xs ys:List V}
theorem SqT.of{K:AA4}(h:H a=some (.tup xs)):SqT K H a xs:=.inl (.inl h)
theorem Inv.list(I:Inv X pins σ H s)(h:SqL X.K H a xs):∃its:List Value,aw xs its/\PlainL s.heap a its.toArray/\xs.length<=sizeLine:=by
 rcases h with h | ⟨o,its,n,hk,hc,hd,hs,hz,r⟩
 ·obtain⟨z,its,n,r,e⟩:=h.ok I.hok
  exact⟨its,r,⟨_,n,e,rfl,rfl,rfl⟩,z⟩
 ·refine⟨its.toList,r,⟨o,n,I.kIn a o hk,hc,hd,by simpa using hs⟩,?_⟩
  have e:=r.length
  simp only[AAL]at e
  lia
theorem Inv.tuple(I:Inv X pins σ H s)(h:SqT X.K H a xs):∃its:List Value,aw xs its/\IsTup s.heap a its.toArray/\xs.length<=sizeLine:=by
 rcases h with h | ⟨o,its,n,hk,hc,_,hs,hz,r⟩
 ·obtain⟨z,its,r,p⟩:=h.ok I.hok
  exact⟨its,r,p.tup,z⟩
 ·refine⟨its.toList,r,⟨o,I.kIn a o hk,hc,n,by simpa using hs⟩,?_⟩
  have e:=r.length
  simp only[AAL]at e
  lia
theorem Inv.list_inj(I:Inv X pins σ H s)(h:SqL X.K H a xs)(h':SqL X.K H a ys):xs=ys:=by
 obtain⟨its,r,⟨o,n,e,_,_,d⟩,_⟩:=I.list h
 obtain⟨its',r',⟨o',n',e',_,_,d'⟩,_⟩:=I.list h'
 rw[e]at e';cases e'
 rw[d]at d'
 injection d' with d1 _
 have:its=its':=by simpa using congrArg Array.toList d1
 subst this
 exact r.inj r'
theorem Inv.tuple_inj(I:Inv X pins σ H s)(h:SqT X.K H a xs)(h':SqT X.K H a ys):xs=ys:=by
 obtain⟨its,r,⟨o,e,_,n,d⟩,_⟩:=I.tuple h
 obtain⟨its',r',⟨o',e',_,n',d'⟩,_⟩:=I.tuple h'
 rw[e]at e';cases e'
 rw[d]at d'
 injection d' with d1 _
 have:its=its':=by simpa using congrArg Array.toList d1
 subst this
 exact r.inj r'
end
abbrev Cx.wish(X:Cx)(E:Value->Shared->Prop):Cx:={ X with xe:=E }
abbrev Cx.nox(X:Cx):Cx:=X.wish λ_ _=>False
theorem Cx.Ok.wish{X:Cx}(ok:X.Ok)(E:Value->Shared->Prop):(X.wish E).Ok :=
 ⟨ok.mod,ok.kind,ok.glob,ok.blt,ok.above,ok.inj,ok.has,ok.cab,ok.hd,ok.frames,ok.stk,ok.exf,ok.bs,ok.bsz,ok.noex,ok.exfs,ok.funs,ok.frf⟩
theorem Cx.Ok.unwish{X:Cx}{E:Value->Shared->Prop}(ok:(X.wish E).Ok):X.Ok :=
 ⟨ok.mod,ok.kind,ok.glob,ok.blt,ok.above,ok.inj,ok.has,ok.cab,ok.hd,ok.frames,ok.stk,ok.exf,ok.bs,ok.bsz,ok.noex,ok.exfs,ok.funs,ok.frf⟩
section
variable{X:Cx}{pins:List (Addr×Obj)}{σ:St}{H:Hp}{s:Shared}{E:Value->Shared->Prop}
theorem Inv.wish(I:Inv X pins σ H s)(E:Value->Shared->Prop):Inv (X.wish E) pins σ H s:=⟨I.ok.wish E,I.os,I.bare,I.base,I.loc,I.cell,I.free,I.freeC,I.pin,I.hok,I.len⟩
theorem Inv.unwish(I:Inv (X.wish E) pins σ H s):Inv X pins σ H s:=⟨I.ok.unwish,I.os,I.bare,I.base,I.loc,I.cell,I.free,I.freeC,I.pin,I.hok,I.len⟩
theorem SP.unwish(h:SP (X.wish E) pins D f s'):SP X pins D f s':=by
 cases f with
 | next=>obtain⟨σ',H',I,q⟩:=h;exact⟨σ',H',I.unwish,q⟩
 | brk=>obtain⟨σ',H',I,q⟩:=h;exact⟨σ',H',I.unwish,q⟩
 | cont=>obtain⟨σ',H',I,q⟩:=h;exact⟨σ',H',I.unwish,q⟩
 | ret u=>obtain⟨v,σ',H',I,r,q⟩:=h;exact⟨v,σ',H',I.unwish,r,q⟩
theorem PE.nox(h:PE X.nox e t):PE X e t:=λpins s σ H Q I hw =>
 AB7 (h pins s σ H Q (I.wish _) hw) (λ_ _ ⟨v,H',I',r,q⟩=>⟨v,H',I'.unwish,r,q⟩) λ_ _ z=>ACk z
theorem PSs.nox{st:List Stmt}{t:TS}(h:PSs X.nox st t):PSs X st t:=λpins s σ H D I hw =>
 AB7 (h pins s σ H D (I.wish _) hw) (λ_ _ q=>q.unwish) λ_ _ z=>ACk z
end
section
variable{X:Cx}{st:Stmt}{aI:List Stmt}{t u:TS}{e:Expr}{te:TE}{pos:Pos}
def tNext:TS:=λD σ H=>D.nx σ H
def tSeq(t u:TS):TS:=λD σ H=>t { D with nx:=u D } σ H
theorem AT:PSs X [] tNext:=λ_ _ σ H _ I h=>AE3 ⟨σ,H,I,h⟩
theorem yb(h1:PS X st t)(h2:PSs X aI u):PSs X (st::aI) (tSeq t u):=by
 intro pins s σ H D I h
 refine wpAny_execs_cons (thn (h1 pins s σ H { D with nx:=u D } I h) λf s1 q=>?_)
 cases f with
 | next =>
  obtain⟨σ',H',I',q⟩:=q
  exact h2 pins s1 σ' H' D I' q
 | ret v=>exact q
 | brk=>exact q
 | cont=>exact q
theorem AS(h1:PS X st t):PSs X [st] t:=by
 intro pins s σ H D I h
 refine wpAny_execs_cons (thn (h1 pins s σ H D I h) λf s1 q=>?_)
 cases f with
 | next=>exact AE3 q
 | ret v=>exact q
 | brk=>exact q
 | cont=>exact q
theorem Inv.quiet(I:Inv X pins σ H s):interactive X.env=false:=by simp[interactive,I.ok.kind]
def tDrop(te:TE):TS:=λD σ H=>te σ H λ_ H1=>D.nx σ H1
theorem AU(he:PE X e te)(hs:swapsWith e none pos.line X.env=pure false:=by rfl):PS X (.Expr e pos) (tDrop te):=by
 intro pins s σ H D I h
 exact wpAny_Expr_any (thn (he pins s σ H _ I h) λv s1 ⟨x,H1,I1,r1,q1⟩=>⟨σ,H1,I1,q1⟩) I.quiet hs
def tRet(te:TE):TS:=λD σ H=>te σ H D.rt
theorem Dg(he:PE X e te):PS X (.Return (some e) pos) (tRet te):=by
 intro pins s σ H D I h
 exact wpAny_Return_some (thn (he pins s σ H _ I h) λv s1 ⟨x,H1,I1,r1,q1⟩=>⟨x,σ,H1,I1,r1,q1⟩)
def tIfS(c:TT)(t u:TS):TS:=λD σ H=>c σ H λb H1=>if b=true then t D σ H1 else u D σ H1
theorem ps_if(hc:PT X c tc)(ha:PSs X a t)(hb:PSs X b u):PS X (.If c a b pos) (tIfS tc t u):=by
 intro pins s σ H D I h
 refine wpAny_If (thn (hc pins s σ H _ I h) λd s1 ⟨H1,I1,q1⟩=>?_)
 cases d with
 | true=>exact ha pins s1 σ H1 D I1 q1
 | false=>exact hb pins s1 σ H1 D I1 q1
end
abbrev TG:=V->St->Hp->(St->Hp->Prop)->Prop
abbrev TGs:=List V->St->Hp->(St->Hp->Prop)->Prop
def PG(X:Cx)(target:Expr)(t:TG):Prop :=
 ∀(pins:List (Addr×Obj)) (s:Shared) (σ:St) (H:Hp) (v:V) (u:Value) (Q:St->Hp->Prop),Inv X pins σ H s->aL v u->t v σ H Q ->
  wpAny (model X.prog X.w) X.A (assign target X.env u) (λ_ s'=>∃σ' H',Inv X pins σ' H' s'/\Q σ' H') X.xe s
def PGs(X:Cx)(ts:List Expr)(t:TGs):Prop :=
 ∀(pins:List (Addr×Obj)) (s:Shared) (σ:St) (H:Hp) (vs:List V) (us:List Value) (Q:St->Hp->Prop),Inv X pins σ H s->aw vs us->t vs σ H Q ->
  wpAny (model X.prog X.w) X.A (assignInOrder ((assignEach ts X.env).map (·.2)) us) (λ_ s'=>∃σ' H',Inv X pins σ' H' s'/\Q σ' H') X.xe s
abbrev TSet:=V->V->V->Hp->(Hp->Prop)->Prop
def PSet(X:Cx)(t:TSet):Prop :=
 ∀(pins:List (Addr×Obj)) (s:Shared) (σ:St) (H:Hp) (o i v:V) (ov iv u:Value) (Q:Hp->Prop),Inv X pins σ H s->aL o ov->aL i iv->aL v u->t o i v H Q ->
  wpAny (model X.prog X.w) X.A (setItem ov iv u) (λ_ s'=>∃H',Inv X pins σ H' s'/\Q H') X.xe s
section
variable{X:Cx}{pos:Pos}
def ED(i:Nat):TG:=λv σ H Q=>Q (σ.set i (some v)) H
theorem AY(hN:X.N.Nodup)(hi:X.N[i]?=some x)(hx:Loc X.env.scope x)(hf:X.fn x=true\/X.env.scope.names.lookup x=some .local:=by first | exact .inl rfl | exact .inr rfl | assumption):PG X (.Name x pos) (ED i):=by
 intro pins s σ H v u Q I r h
 exact wpAny_assign_Name (sd I hN hi hx r (λs' I'=>⟨_,H,I',h⟩) hf)
def gNil:TGs:=λvs σ H Q=>vs=[]/\Q σ H
def gCons(t:TG)(u:TGs):TGs:=λvs σ H Q=>∃v r,vs=v::r/\t v σ H λσ' H'=>u r σ' H' Q
theorem AX:PGs X [] gNil:=by
 intro pins s σ H vs us Q I r h
 obtain⟨e,h⟩:=h
 subst e
 cases r
 exact assignInOrder_nil ⟨σ,H,I,h⟩
theorem yf(h1:PG X e t)(h2:PGs X es u)
  (hs:(assignEach (e::es) X.env).map (·.2)=assign e X.env::(assignEach es X.env).map (·.2):=by rfl):PGs X (e::es) (gCons t u):=by
 intro pins s σ H vs us Q I r h
 obtain⟨v,vr,e1,h⟩:=h
 subst e1
 cases r with
 | cons r rr =>
  rw[hs]
  refine assignInOrder_cons (thn (h1 pins s σ H _ _ _ I r h) λ_ s1 ⟨σ1,H1,I1,q1⟩=>?_)
  exact h2 pins s1 σ1 H1 _ _ Q I1 rr q1
def gTup(K:AA4)(n:Nat)(t:TGs):TG:=λv σ H Q=>∃a xs,v=.ref a/\SqT K H a xs/\xs.length=n/\t xs σ H Q
theorem Dj(hc:X.calm=true)(h:PGs X es t)
  (hn:(assignEach es X.env).length=n:=by rfl) (hst:(assignEach es X.env).findIdx? (·.1)=none:=by rfl):PG X (.Tuple es k pos) (gTup X.K n t):=by
 intro pins s σ H v u Q I r hw
 obtain⟨a,xs,e1,hq,hl,hw⟩:=hw
 subst e1
 cases r
 obtain⟨its,rv,ht,hz⟩:=I.tuple hq
 refine assign_Tuple_tuple (I.ok.hd hc) ht (by simp[hn,←hl,rv.length]) hst λh' hx=>?_
 have I1:Inv X pins σ H { s with heap:=h' }:=I.kept (t':=s.toks) λb o e=>hx b o (AAM (AAH e)) e
 exact h pins _ σ H xs _ Q I1 (by simpa using rv) hw
def gSub(to ti:TE)(t:TSet):TG:=λv σ H Q=>to σ H λo H1=>ti σ H1 λi H2=>t o i v H2 λH3=>Q σ H3
theorem Dk(ho:PE X o to)(hi:PE X i ti)(hs:PSet X t)
  (ha:∀v,assign (.Subscript o i pos) X.env v=(do
   let ov ←holding [v] (eval o X.env)
   let iv ←holding [v,ov] (eval i X.env)
   standAt pos
   holding [v,ov,iv] (setItem ov iv v)
   release [v,ov,iv] []):=by intro _;rfl):PG X (.Subscript o i pos) (gSub to ti t):=by
 intro pins s σ H v u Q I r h
 rw[ha]
 refine AA0 (AAh (thn (ho pins s σ H _ I h) λov s1 ⟨x,H1,I1,r1,q1⟩=>?_))
 refine AA0 (AAh (thn (hi pins s1 σ H1 _ I1 q1) λiv s2 ⟨y,H2,I2,r2,q2⟩=>?_))
 refine AA0 (wpAny_standAt (AA0 (AAh (thn (hs pins s2 σ H2 x y v ov iv u _ I2 r1 r2 r q2) λ_ s3 ⟨H3,I3,q3⟩=>?_))))
 exact wpAny_release ⟨σ,H3,I3,q3⟩
def tAsg(te:TE)(g:TG):TS:=λD σ H=>te σ H λx H1=>g x σ H1 D.nx
theorem Di(he:PE X e te)(hg:PG X tg g)(hs:swapsWithSole [tg] e pos.line X.env=pure false:=by rfl)(hw:swappedStores [tg] e X.env=pure none:=by rfl)
  (h1:(assignEach [tg] X.env).map (·.2)=[assign tg X.env]:=by rfl):PS X (.Assign [tg] e pos) (tAsg te g):=by
 intro pins s σ H D I h
 refine wpAny_Assign_stores (thn (he pins s σ H _ I h) λv s1 ⟨x,H1,I1,r1,q1⟩=>?_) hs hw
 rw[h1]
 exact thn (hg pins s1 σ H1 x v _ I1 r1 q1) λ_ s2 q=>q
theorem Df(hN:X.N.Nodup)(hi:X.N[i]?=some x)(hx:Loc X.env.scope x)(he:PE X e te)(hs:swapsWith e (some (.Name x pos')) pos.line X.env=pure false:=by rfl)(hf:X.fn x=true\/X.env.scope.names.lookup x=some .local:=by first | exact .inl rfl | exact .inr rfl | assumption) :
  PS X (.Assign [.Name x pos'] e pos) (tAsg te (ED i)):=by
 intro pins s σ H D I h
 refine wpAny_Assign_Name (thn (he pins s σ H _ I h) λv s1 ⟨y,H1,I1,r1,q1⟩=>?_) hs
 exact sd I1 hN hi hx r1 (λs2 I2=>⟨_,H1,I2,q1⟩) hf
end
section
variable{X:Cx}{pos:Pos}
def zA(c:TT)(tb:TS):TS:=λD σ H=>∃W:Nat->St->Hp->Prop,(∃m,W m σ H)/\∀m σ H,W m σ H ->
 c σ H λb H1=>if b=true then ∃N:St->Hp->Prop,(∀σ' H',N σ' H'->∃m',m' < m/\W m' σ' H')/\tb { D with nx:=N,ct:=N,bk:=D.nx } σ H1 else D.nx σ H1
theorem yc(hp:PassesOwn (model X.prog X.w) X.A X.env X.xe)(hc:PT X c tc)(hb:PSs X body tb):PS X (.While c body [] pos) (zA tc tb):=by
 intro pins s σ H D I h
 obtain⟨W,⟨m0,w0⟩,turn⟩:=h
 refine wpAny_While (codeAny_whileLoop (λn s'=>∃σ' H',Inv X pins σ' H' s'/\W n σ' H') ?_ m0 ⟨σ,H,I,w0⟩)
 rintro n s1 ⟨σ1,H1,I1,w1⟩
 refine ACV hp (thn (hc pins s1 σ1 H1 _ I1 (turn n σ1 H1 w1)) λb s2 ⟨H2,I2,q2⟩=>?_)
 cases b with
 | true =>
  obtain⟨N,hN,q2⟩:=q2
  rw[if_pos rfl]
  refine ACV hp (thn (hb pins s2 σ1 H2 _ I2 q2) λf s3 q3=>?_)
  cases f with
  | next =>
   obtain⟨σ3,H3,I3,n3⟩:=q3
   obtain⟨m',hm,w3⟩:=hN σ3 H3 n3
   exact⟨m',hm,σ3,H3,I3,w3⟩
  | cont =>
   obtain⟨σ3,H3,I3,n3⟩:=q3
   obtain⟨m',hm,w3⟩:=hN σ3 H3 n3
   exact⟨m',hm,σ3,H3,I3,w3⟩
  | brk=>exact q3
  | ret v=>exact q3
 | false =>
  rw[if_neg ABF]
  exact AE3 ⟨σ1,H2,I2,q2⟩
end
structure It where
 go:Nat->Hp->Prop
 yld:Nat->Hp->V->Hp->Prop
 stop:Nat->Hp->Prop
def uA(X:Cx)(pins:List (Addr×Obj))(H:Hp)(b:Addr):Prop :=
 H b=none/\b≠X.env.locals/\b∉X.fs/\(b∈X.ex\/X.s₀.heap.objs.size<=b)/\(∀x c,X.env.cells.lookup x=some c->c≠b)/\∀p∈X.pn++pins,p.1≠b
theorem Inv.fpOk(I:Inv X pins σ H s)(hb:s.heap.objs.size<=b)(hn:H' b=none):uA X pins H' b:=by
 refine⟨hn,Nat.ne_of_gt (AAZ I.lt hb),I.nofs hb,.inr (AAy I.sz hb),λx c e z=>?_,λp hp z=>?_⟩
 ·obtain⟨v,q⟩:=I.cell x c e
  exact absurd (AAZ q.lt (by rw[z];exact hb)) (AAn _)
 ·exact absurd (AAZ (AAH (I.pin p hp).1) (by rw[z];exact hb)) (AAn _)
structure Turn(P:Program)(w:World)(K:AA4)(tg:Expr)(J:It)(fp:List Addr)(it:Addr)(tn:Nat->Heap->Prop):Prop where
 mem:it∈fp
 obj:∀i h,tn i h->∀b∈fp,∃o,h.get? b=some o/\∀v,o.data≠.cell v
 keep:∀i h h',tn i h->(∀b∈fp,∀o,h.get? b=some o->h'.get? b=some o)->tn i h'
 item:∀(X:Cx),X.prog=P->X.w=w->X.K=K->X.calm=true->∀(i:Nat) (pins:List (Addr×Obj)) (s:Shared) (σ:St) (H:Hp) (E:Value->Shared->Prop),Inv X pins σ H s->(∀b∈fp,uA X pins H b)->tn i s.heap->J.go i H ->
  wpAny (model P w) X.A (pyNext (.ref it)) (λr s1=>∃u,r=some u /\
   wpAny (model P w) X.A (letOwnedTupleGo tg (.ref it) u) (λ_ s2=>∃x H',Inv X pins σ H' s2/\aL x u/\J.yld i H x H'/\tn (i+1) s2.heap/\∀b∈fp,H' b=none) E s1) E s
 done:∀(X:Cx),X.prog=P->X.w=w->X.K=K->X.calm=true->∀(i:Nat) (pins:List (Addr×Obj)) (s:Shared) (σ:St) (H:Hp) (E:Value->Shared->Prop),Inv X pins σ H s->(∀b∈fp,uA X pins H b)->tn i s.heap->J.stop i H ->
  wpAny (model P w) X.A (pyNext (.ref it)) (λr s1=>r=none/\Inv X pins σ H s1) E s
 self:∀(A:Around) (i:Nat) (s:Shared) (Q:Value->Shared->Prop) (E:Value->Shared->Prop),tn i s.heap->Q (.ref it) s->wpAny (model P w) A (pyIter (.ref it)) Q E s
abbrev TI:=St->Hp->(It->Hp->Prop)->Prop
inductive PIE(X:Cx)(pins:List (Addr×Obj))(σ:St)(tg:Expr)(R:It->Hp->Prop)(itv:Value)(s2:Shared):Prop
 | mk (it:Addr) (fp:List Addr) (tn:Nat->Heap->Prop) (J:It) (H':Hp) (f0:itv=.ref it) (f1:Inv X pins σ H' s2) (f2:Turn X.prog X.w X.K tg J fp it tn) (f3:tn 0 s2.heap) (f4:(∀b∈fp,uA X pins H' b)) (f5:R J H')
def PI(X:Cx)(tg iter:Expr)(wi:TI):Prop :=
 ∀(pins:List (Addr×Obj)) (s:Shared) (σ:St) (H:Hp) (R:It->Hp->Prop),Inv X pins σ H s->wi σ H R ->
  wpAny (model X.prog X.w) X.A (eval iter X.env) (λv s1=>wpAny (model X.prog X.w) X.A (pyIter v) (PIE X pins σ tg R) X.xe s1) X.xe s
theorem qL(ho:s.heap.get? it=some o)(hc:o.cls=.type n)(hd:o.data=.fields vs)
  (hn:["enumerate","zip","dict_itemiterator","dict_reverseitemiterator","odict_iterator","itertools.zip_longest","itertools.pairwise"].contains n=false) (hQ:Q () s):wpAny M A (letOwnedTupleGo tg (.ref it) u) Q E s:=by
 unfold letOwnedTupleGo
 cases tg<;>first
  | exact AA2 hQ
  | (cases u<;>first
    | exact AA2 hQ
    | (refine AA0 (wpAny_load ho ?_);rw[hc,hd];show wpAny M A (if (["enumerate","zip","dict_itemiterator","dict_reverseitemiterator","odict_iterator","itertools.zip_longest","itertools.pairwise"].contains n&&vs[0]?==some (rawInt _))=true then _ else _) Q E s;rw[if_neg (by intro h;rw[hn,Bool.false_and]at h;cases h)];exact AA2 hQ))
def Itl(K:AA4)(a:Addr):It :=
 ⟨λi H=>∃xs x,SqL K H a xs/\xs[i]?=some x,λi H x H'=>H'=H/\∀xs,SqL K H a xs->xs[i]?=some x,λi H=>∃xs,SqL K H a xs/\xs.length<=i⟩
def Itt(K:AA4)(a:Addr):It :=
 ⟨λi H=>∃xs x,SqT K H a xs/\xs[i]?=some x,λi H x H'=>H'=H/\∀xs,SqT K H a xs->xs[i]?=some x,λi H=>∃xs,SqT K H a xs/\xs.length<=i⟩
def Itr(lo:Int)(n:Nat):It:=⟨λi _=>i<n,λi H x H'=>H'=H/\x=.int (lo+i),λi _=>n<=i⟩
theorem uG{P:Program}{w:World}{K:AA4}{tg:Expr}(a it:Addr):Turn P w K tg (Itl K a) [it] it (λi h=>h.IsListIter it a i) where
 mem:=by simp
 obj:=λi h st b hb=>by
  have e:b=it:=by simpa using hb
  subst e
  obtain⟨o,e,c,d⟩:=st
  exact⟨o,e,λv z=>by rw[d]at z;cases z⟩
 keep:=λi h h' st k=>st.at λo e=>k it (by simp) o e
 item:=by
  intro X hP hw hK hc i pins s σ H E I hf st hg
  subst hP hw hK
  obtain⟨xs,x,hq,hx⟩:=hg
  obtain⟨its,rv,p,hz⟩:=I.list hq
  obtain⟨u,hu,ru⟩:=rv.get hx
  obtain⟨f0,f1,f2,f3,f4,f5⟩:=hf it (by simp)
  refine wpAny_pyNext_list_item st p.isList (x:=u) (by simpa using hu) λh' st' sb=>?_
  have I1:Inv X pins σ H { s with heap:=h' }:=I.turned (t':=s.toks) (λb o hb e=>(sb.2 b hb).trans e) f0 f1 f3 f4 f5
  obtain⟨o,e,c,d⟩:=id st'
  exact⟨u,rfl,qL (s:={ s with heap:=h' }) e c d (by decide) ⟨x,H,I1,ru,⟨rfl,λys hy=>by rw[I.list_inj hy hq];exact hx⟩,st',λb hb=>(hf b hb).1⟩⟩
 done:=by
  intro X hP hw hK hc i pins s σ H E I hf st hg
  subst hP hw hK
  obtain⟨xs,hq,hx⟩:=hg
  obtain⟨its,rv,p,hz⟩:=I.list hq
  obtain⟨f0,f1,f2,f3,f4,f5⟩:=hf it (by simp)
  have hl:=rv.length
  exact wpAny_pyNext_list_end (I.ok.hd hc) st p.isList (by simp;lia) λh' eb=>⟨rfl,I.turned (t':=s.toks) (λb o hb e=>eb b o hb e) f0 f1 f3 f4 f5⟩
 self:=λ_ _ _ _ _ st h=>wpAny_pyIter_listiter st h
theorem tI{P:Program}{w:World}{K:AA4}{tg:Expr}(a it:Addr):Turn P w K tg (Itt K a) [it] it (λi h=>h.IsTupleIter it a i) where
 mem:=by simp
 obj:=λi h st b hb=>by
  have e:b=it:=by simpa using hb
  subst e
  obtain⟨o,e,c,d⟩:=st
  exact⟨o,e,λv z=>by rw[d]at z;cases z⟩
 keep:=λi h h' st k=>st.at λo e=>k it (by simp) o e
 item:=by
  intro X hP hw hK hc i pins s σ H E I hf st hg
  subst hP hw hK
  obtain⟨xs,x,hq,hx⟩:=hg
  obtain⟨its,rv,p,hz⟩:=I.tuple hq
  obtain⟨u,hu,ru⟩:=rv.get hx
  obtain⟨f0,f1,f2,f3,f4,f5⟩:=hf it (by simp)
  refine wpAny_pyNext_tuple_item st (show s.heap.IsTuple a its.toArray from p) (x:=u) (by simpa using hu) λh' st' sb=>?_
  have I1:Inv X pins σ H { s with heap:=h' }:=I.turned (t':=s.toks) (λb o hb e=>(sb.2 b hb).trans e) f0 f1 f3 f4 f5
  obtain⟨o,e,c,d⟩:=id st'
  exact⟨u,rfl,qL (s:={ s with heap:=h' }) e c d (by decide) ⟨x,H,I1,ru,⟨rfl,λys hy=>by rw[I.tuple_inj hy hq];exact hx⟩,st',λb hb=>(hf b hb).1⟩⟩
 done:=by
  intro X hP hw hK hc i pins s σ H E I hf st hg
  subst hP hw hK
  obtain⟨xs,hq,hx⟩:=hg
  obtain⟨its,rv,p,hz⟩:=I.tuple hq
  obtain⟨f0,f1,f2,f3,f4,f5⟩:=hf it (by simp)
  have hl:=rv.length
  exact wpAny_pyNext_tuple_end (I.ok.hd hc) st (show s.heap.IsTuple a its.toArray from p) (by simp;lia) λh' eb=>⟨rfl,I.turned (t':=s.toks) (λb o hb e=>eb b o hb e) f0 f1 f3 f4 f5⟩
 self:=λ_ _ _ _ _ st h=>wpAny_pyIter_tupleiter st h
theorem tJ{P:Program}{w:World}{K:AA4}{tg:Expr}(it:Addr)(lo:Int)(n:Nat):Turn P w K tg (Itr lo n) [it] it (λi h=>IsRangeIter h it (lo+(i:Nat)*1) ((n:Int)-(i:Nat)) 1) where
 mem:=by simp
 obj:=λi h st b hb=>by
  have e:b=it:=by simpa using hb
  subst e
  exact⟨_,st,λv z=>by
   have z':Data.fields _=Data.cell v:=z
   cases z'⟩
 keep:=λi h h' st k=>k it (by simp) _ st
 item:=by
  intro X hP hw hK hc i pins s σ H E I hf st hg
  subst hP hw hK
  obtain⟨f0,f1,f2,f3,f4,f5⟩:=hf it (by simp)
  have W:=Walks.range (prog:=X.prog) (w:=X.w) (I.ok.hd hc) it lo 1 n
  refine W.item i s _ _ hg st λv h' tk hv st' kk=>?_
  obtain⟨t,rfl⟩:=hv
  have I1:Inv X pins σ H { s with heap:=h',toks:=tk }:=I.turned (λb o hb e=>kk b o (by simpa using hb) e) f0 f1 f3 f4 f5
  refine⟨_,rfl,qL (s:={ s with heap:=h',toks:=tk }) (n:="range_iterator") st' rfl rfl (by decide) ⟨.int (lo+i),H,I1,⟨t,?_⟩,⟨rfl,rfl⟩,st',λb hb=>(hf b hb).1⟩⟩
  rw[Int.mul_one]
 done:=by
  intro X hP hw hK hc i pins s σ H E I hf st hg
  subst hP hw hK
  obtain⟨f0,f1,f2,f3,f4,f5⟩:=hf it (by simp)
  exact wpAny_pyNext_range_end (I.ok.hd hc) st (by have:n<=i:=hg;lia) λh' eb=>⟨rfl,I.turned (t':=s.toks) (λb o hb e=>eb b o hb e) f0 f1 f3 f4 f5⟩
 self:=λ_ _ _ _ _ st h=>wpAny_pyIter_rangeiter st h
end L2
namespace L2
open PySem PySem.Spec PyProof.Rows
section
variable{X:Cx}{tg:Expr}
theorem si{pins:List (Addr×Obj)}{σ:St}{H:Hp}{s:Shared}{R:It->Hp->Prop}{E:Value->Shared->Prop}{lo hi:Int}{t u v:Tok}{tk:Nat}(I:Inv X pins σ H s)(h1:-(2 ^ 62)<=lo)(h2:lo<2 ^ 62)(h3:-(2 ^ 62)<=hi)(h4:hi<2 ^ 62)
  (q:R (Itr lo (hi-lo).toNat) H):wpAny (model X.prog X.w) X.A (pyIter (.ref s.heap.objs.size)) (PIE X pins σ tg R) E { s with heap:=s.heap.push { cls:=.type "range",data:=.fields #[.int lo t,.int hi u,.int 1 v] },toks:=tk }:=by
 refine wpAny_pyIter_range (IsRange.new ..) (small_one h1 h2 h3 h4) ?_
 have I1:Inv X pins σ H { s with heap:=s.heap.push { cls:=.type "range",data:=.fields #[.int lo t,.int hi u,.int 1 v] },toks:=tk }:=I.kept λb o e=>AA3 _ e
 refine⟨(s.heap.push { cls:=.type "range",data:=.fields #[.int lo t,.int hi u,.int 1 v] }).objs.size,[(s.heap.push { cls:=.type "range",data:=.fields #[.int lo t,.int hi u,.int 1 v] }).objs.size],_,_,H,rfl,
  I1.kept (t':=tk) λb o e=>AA3 _ e,tJ _ lo (hi-lo).toNat,?_,λb hb=>?_,q⟩
 ·have e1:lo+((0:Nat):Int)*1=lo:=by simp
  have e2:(((hi-lo).toNat:Nat):Int)-((0:Nat):Int)=Builtin.Range.rangeSize lo hi 1:=by rw[rangeSize_one];split<;>lia
  show IsRangeIter _ _ (lo+((0:Nat):Int)*1) ((((hi-lo).toNat:Nat):Int)-((0:Nat):Int)) 1
  rw[e1,e2]
  exact AAC _ rfl
 ·have e:b=(s.heap.push { cls:=.type "range",data:=.fields #[.int lo t,.int hi u,.int 1 v] }).objs.size:=by simpa using hb
  subst e
  exact I1.fpOk (AA8 _) (I1.hok.fresh (AA8 _))
def iRng1(ta:TA):TI:=λσ H R=>ta σ H λvs H1=>∃j:Int,vs=[.int j]/\-(2 ^ 62)<=j/\j<2 ^ 62/\R (Itr 0 j.toNat) H1
def iRng2(ta:TA):TI:=λσ H R=>ta σ H λvs H1=>∃i j:Int,vs=[.int i,.int j]/\(-(2 ^ 62)<=i/\i<2 ^ 62/\-(2 ^ 62)<=j/\j<2 ^ 62)/\R (Itr i (j-i).toNat) H1
theorem vL{a:Expr}{ta:TA}{p pos:Pos}(hg:Gl X "range")(hm:X.mg "range" = none)(ha:PA X [a] ta)(hs:starEach [a] X.env=[(false,eval a X.env)]:=by rfl):PI X tg (.Call (.Name "range" p) [a] [] pos) (iRng1 ta):=by
 intro pins s σ H R I h
 refine Call_ (gQ I hg hm boot_range (ACF (thn (ha pos pins s σ H _ I h) λus s1 ⟨vs,H1,I1,r1,q1⟩=>?_) hs rfl))
 obtain⟨j,e,q1,q2,q⟩:=q1
 subst e
 cases r1 with
 | cons r rr =>
  cases rr
  obtain⟨t,rfl⟩:=r
  exact call_range_1 (si I1 (by lia) (by lia) q1 q2 (by simpa using q))
theorem vK(hg:Gl X "range")(hm:X.mg "range" = none)(ha:PA X [a,b] ta)(hs:starEach [a,b] X.env=[(false,eval a X.env),(false,eval b X.env)]:=by rfl)(hs2:starEach [b] X.env=[(false,eval b X.env)]:=by rfl) :
  PI X tg (.Call (.Name "range" p) [a,b] [] pos) (iRng2 ta):=by
 intro pins s σ H R I h
 refine Call_ (gQ I hg hm boot_range (ACF (thn (ha pos pins s σ H _ I h) λus s1 ⟨vs,H1,I1,r1,q1⟩=>?_) (by rw[hs,hs2]) (by rw[hs2];rfl)))
 obtain⟨i,j,e,⟨q1,q2,q3,q4⟩,q⟩:=q1
 subst e
 cases r1 with
 | cons r rr =>
  cases rr with
  | cons r' rr =>
   cases rr
   obtain⟨t,rfl⟩:=r
   obtain⟨t',rfl⟩:=r'
   exact call_range_2 (si I1 q1 q2 q3 q4 q)
def tFor(wi:TI)(g:TG)(tb:TS):TS:=λD σ H=>wi σ H λJ H1=>∃W:Nat->Nat->St->Hp->Prop,(∃m,W 0 m σ H1)/\∀i m σ H,W i m σ H ->
 (J.stop i H/\D.nx σ H)\/(J.go i H/\∃N:St->Hp->Prop,(∀σ' H',N σ' H'->∃m',m' < m/\W (i+1) m' σ' H')/\∀x H',J.yld i H x H'->g x σ H' λσ2 H2=>tb { D with nx:=N,ct:=N,bk:=D.nx } σ2 H2)
def gK(fp:List Addr)(h:Heap):List (Addr×Obj):=fp.filterMap λb=>(h.get? b).map λo=>(b,o)
theorem fh(hb:b∈fp)(e:h.get? b=some o):(b,o)∈gK fp h:=List.mem_filterMap.mpr ⟨b,hb,by rw[e];rfl⟩
theorem oG(hp:p∈gK fp h):p.1∈fp/\h.get? p.1=some p.2:=by
 obtain⟨b,hb,e⟩:=ADN.mp hp
 cases q:h.get? b with
 | none=>rw[q]at e;cases e
 | some o =>
  rw[q]at e
  have e':(b,o)=p:=AAR e
  subst e'
  exact⟨hb,q⟩
theorem Inv.pinned(I:Inv X pins σ H s)(hf:∀b∈fp,uA X pins H b)(ho:∀b∈fp,∃o,s.heap.get? b=some o/\∀v,o.data≠.cell v):Inv X (pins++gK fp s.heap) σ H s :=
 I.pins_of λp hp=>(AAl.mp hp).elim (λz=>I.pin p (AAG _ z)) λz=>by
  obtain⟨hb,e⟩:=oG z
  obtain⟨f0,f1,f2,_⟩:=hf p.1 hb
  obtain⟨o,e',d⟩:=ho p.1 hb
  rw[e]at e';cases e'
  exact⟨e,f0,f1,f2,d⟩
theorem Inv.unpinned(I:Inv X (pins++pl) σ H s):Inv X pins σ H s:=I.pins_of λp hp=>I.pin p (AAG _ (AAW _ hp))
theorem Dh(hp:PassesOwn (model X.prog X.w) X.A X.env X.xe)(hc:X.calm=true)(hi:PI X tg iter wi)(hg:PG X tg g)(hb:PSs X body tb)
  (hs:∀x,foldedSetIterable iter X.env x=pure x:=by intro _;rfl):PS X (.For tg iter body [] pos) (tFor wi g tb):=by
 intro pins s σ H D I h
 refine wpAny_For (thn (hi pins s σ H _ I h) λv s1 h1=>thn h1 λitv s2 h2=>?_) hs
 obtain⟨it,fp,tn,J,H2,e,I2,T,st2,f2,W,⟨m0,w0⟩,turn⟩:=h2
 subst e
 -- what stays true of the iterator's objects through the loop
 have stat:∀{H':Hp},(∀b∈fp,H' b=none)->∀b∈fp,uA X pins H' b:=λhn b hb=>⟨hn b hb,(f2 b hb).2⟩
 refine codeAny_forLoop_any (λn s'=>∃i σ' H',Inv X pins σ' H' s'/\tn i s'.heap/\(∀b∈fp,H' b=none)/\W i n σ' H') ?_ m0 ⟨0,σ,H2,I2,st2,λb hb=>(f2 b hb).1,w0⟩
 rintro n s3 ⟨i,σ3,H3,I3,st3,fr3,w3⟩
 rcases turn i n σ3 H3 w3 with⟨stop,qn⟩|⟨go,N,hN,step⟩
 ·refine ACV hp (thn (T.done X rfl rfl rfl hc i pins s3 σ3 H3 X.xe I3 (stat fr3) st3 stop) λr s4 ⟨hr,I4⟩=>?_)
  subst hr
  exact AE3 ⟨σ3,H3,I4,qn⟩
 ·refine ACV hp (thn (T.item X rfl rfl rfl hc i pins s3 σ3 H3 X.xe I3 (stat fr3) st3 go) λr s4 ⟨u,hr,h4⟩=>?_)
  subst hr
  refine ACV hp (thn h4 λ_ s5 ⟨x,H5,I5,r5,y5,st5,fr5⟩=>?_)
  have I5':=I5.pinned (stat fr5) (T.obj _ _ st5)
  refine ACV hp (thn (hg _ s5 σ3 H5 x u _ I5' r5 (step x H5 y5)) λ_ s6 ⟨σ6,H6,I6,q6⟩=>?_)
  refine ACV hp (thn (hb _ s6 σ6 H6 _ I6 q6) λf s7 q7=>?_)
  have again:∀{σ7:St}{H7:Hp},Inv X (pins++gK fp s5.heap) σ7 H7 s7->N σ7 H7->∃m,m<n/\∃i σ' H',Inv X pins σ' H' s7/\tn i s7.heap/\(∀b∈fp,H' b=none)/\W i m σ' H':=λ{σ7 H7} I7 n7=>by
   obtain⟨m',hm,w7⟩:=hN σ7 H7 n7
   refine⟨m',hm,i+1,σ7,H7,I7.unpinned,T.keep _ _ _ st5 λb hb o e=>(I7.pin (b,o) (AAG _ (AAG _ (fh hb e)))).1,λb hb=>?_,w7⟩
   obtain⟨o,e,d⟩:=T.obj _ _ st5 b hb
   exact(I7.pin (b,o) (AAG _ (AAG _ (fh hb e)))).2.1
  cases f with
  | next=>obtain⟨σ7,H7,I7,n7⟩:=q7;exact again I7 n7
  | cont=>obtain⟨σ7,H7,I7,n7⟩:=q7;exact again I7 n7
  | brk=>obtain⟨σ7,H7,I7,q7⟩:=q7;exact⟨σ7,H7,I7.unpinned,q7⟩
  | ret v=>obtain⟨x7,σ7,H7,I7,r7,q7⟩:=q7;exact⟨x7,σ7,H7,I7.unpinned,r7,q7⟩
end
end L2
namespace L2
open PySem PySem.Spec PyProof.Rows
abbrev R2:=V->V->Hp->VK->Prop
def OpR(X:Cx)(f:Value->Value->Sem Value)(r:R2):Prop :=
 ∀(pins:List (Addr×Obj)) (s:Shared) (σ:St) (H:Hp) (x y:V) (v u:Value) (Q:VK),Inv X pins σ H s->aL x v->aL y u->r x y H Q ->
  wpAny (model X.prog X.w) X.A (f v u) (EP X pins σ Q) X.xe s
def UnR(X:Cx)(f:Value->Sem Value)(r:V->Hp->VK->Prop):Prop :=
 ∀(pins:List (Addr×Obj)) (s:Shared) (σ:St) (H:Hp) (x:V) (v:Value) (Q:VK),Inv X pins σ H s->aL x v->r x H Q ->
  wpAny (model X.prog X.w) X.A (f v) (EP X pins σ Q) X.xe s
def fZ(X:Cx)(f:Value)(r:List V->Hp->VK->Prop):Prop :=
 ∀(pins:List (Addr×Obj)) (s:Shared) (σ:St) (H:Hp) (xs:List V) (us:List Value) (Q:VK),Inv X pins σ H s->aw xs us->r xs H Q ->
  wpAny (model X.prog X.w) X.A (call f us) (EP X pins σ Q) X.xe s
def tOp(r:R2)(ta tb:TE):TE:=λσ H Q=>ta σ H λx H1=>tb σ H1 λy H2=>r x y H2 Q
def rI(C:Int->Int->Prop)(g:Int->Int->V):R2:=λx y H Q=>∃i j,x=.int i/\y=.int j/\C i j/\Q (g i j) H
def rI0(g:Int->Int->V):R2:=λx y H Q=>∃i j,x=.int i/\y=.int j/\Q (g i j) H
section
variable{X:Cx}{a b c:Expr}{ta tb tc:TE}{pos:Pos}
theorem binT(ha:PE X a ta)(hb:PE X b tb){pins:List (Addr×Obj)}{s:Shared}{σ:St}{H:Hp}{R:V->V->Hp->Prop}(I:Inv X pins σ H s)
  (h:ta σ H λx H1=>tb σ H1 λy H2=>R x y H2) {Q:Value->Shared->Prop}{f:Value->Value->Sem Value}
  (hf:∀v u s2 x y H2,Inv X pins σ H2 s2->aL x v->aL y u->R x y H2->wpAny (model X.prog X.w) X.A (f v u) Q X.xe s2) :
  wpAny (model X.prog X.w) X.A (eval a X.env) (λv s₁=>wpAny (model X.prog X.w) X.A (eval b X.env) (λu s₂=>wpAny (model X.prog X.w) X.A (f v u) Q X.xe s₂) X.xe s₁) X.xe s:=by
 refine thn (ha pins s σ H _ I h) λv s1 ⟨x,H1,I1,r1,q1⟩=>?_
 refine thn (hb pins s1 σ H1 _ I1 q1) λu s2 ⟨y,H2,I2,r2,q2⟩=>?_
 exact hf v u s2 x y H2 I2 r1 r2 q2
theorem pe_op{op:Operator}{r:R2}(ho:OpR X (binaryOp op) r)(ha:PE X a ta)(hb:PE X b tb):PE X (.BinOp a op b pos) (tOp r ta tb):=by
 intro pins s σ H Q I h
 exact wpAny_BinOp (binT ha hb I h λv u s2 x y H2 I2 rx ry q=>ho pins s2 σ H2 x y v u Q I2 rx ry q)
theorem opI{f:Value->Value->Sem Value}{C:Int->Int->Prop}{g:Int->Int->Int}
  (rule:∀(i j:Int) (t u:Tok) (s:Shared) (Q:Value->Shared->Prop) (E:Value->Shared->Prop),C i j->Q (.int (g i j) s.toks) { s with toks:=s.toks+1 }->wpAny (model X.prog X.w) X.A (f (.int i t) (.int j u)) Q E s) :
  OpR X f (rI C λi j=>.int (g i j)):=by
 intro pins s σ H x y v u Q I rx ry h
 obtain⟨i,j,rfl,rfl,hc,q⟩:=h
 obtain⟨t,rfl⟩:=rx
 obtain⟨t',rfl⟩:=ry
 exact rule i j t t' s _ _ hc ⟨.int (g i j),H,I.tok _,⟨_,rfl⟩,q⟩
theorem opI0{f:Value->Value->Sem Value}{g:Int->Int->Int}
  (rule:∀(i j:Int) (t u:Tok) (s:Shared) (Q:Value->Shared->Prop) (E:Value->Shared->Prop),Q (.int (g i j) s.toks) { s with toks:=s.toks+1 }->wpAny (model X.prog X.w) X.A (f (.int i t) (.int j u)) Q E s) :
  OpR X f (rI0 λi j=>.int (g i j)):=by
 intro pins s σ H x y v u Q I rx ry h
 obtain⟨i,j,rfl,rfl,q⟩:=h
 obtain⟨t,rfl⟩:=rx
 obtain⟨t',rfl⟩:=ry
 exact rule i j t t' s _ _ ⟨.int (g i j),H,I.tok _,⟨_,rfl⟩,q⟩
theorem opB0{f:Value->Value->Sem Value}{g:Int->Int->Bool}
  (rule:∀(i j:Int) (t u:Tok) (s:Shared) (Q:Value->Shared->Prop) (E:Value->Shared->Prop),Q (.bool (g i j)) s->wpAny (model X.prog X.w) X.A (f (.int i t) (.int j u)) Q E s) :
  OpR X f (rI0 λi j=>.bl (g i j)):=by
 intro pins s σ H x y v u Q I rx ry h
 obtain⟨i,j,rfl,rfl,q⟩:=h
 obtain⟨t,rfl⟩:=rx
 obtain⟨t',rfl⟩:=ry
 exact rule i j t t' s _ _ ⟨.bl (g i j),H,I,rfl,q⟩
def CPow(i j:Int):Prop:=0<=j/\j<=1000000/\i.natAbs<2 ^ 64
def CMul(i j:Int):Prop:=(-(2 ^ 64)<i/\i<2 ^ 64)\/(-(2 ^ 64)<j/\j<2 ^ 64)
theorem CMul.ok(h:CMul i j):IntMulOk i j:=by
 rcases h with⟨h1,h2⟩|⟨h1,h2⟩
 ·exact .of_left (intBits_le_64 h1 h2)
 ·exact .of_right (intBits_le_64 h1 h2)
theorem DC:OpR X (binaryOp .Add) (rI0 λi j=>.int (i+j)):=opI0 λ_ _ _ _ _ _ _ q=>add_int q
theorem Dv:OpR X (binaryOp .Sub) (rI0 λi j=>.int (i-j)):=opI0 λ_ _ _ _ _ _ _ q=>sub_int q
theorem Dy:OpR X (binaryOp .Mult) (rI CMul λi j=>.int (i*j)):=opI λ_ _ _ _ _ _ _ hc q=>mul_int q hc.ok
theorem Dz:OpR X (binaryOp .Mod) (rI (λ_ j=>0<j) λi j=>.int (i % j)):=opI λi j _ _ _ _ _ hc q=>by
 have h1:(0:Int)<j:=hc
 exact mod_int' (by lia) (by rw[Int.fmod_eq_emod_of_nonneg i (by lia)];exact q)
theorem Dx:OpR X (binaryOp .Pow) (rI CPow λi j=>.int (i ^ j.toNat)):=opI λ_ _ _ _ _ _ _ hc q=>pow_int_small hc.1 hc.2.1 hc.2.2 q
theorem Dw:OpR X (binaryOp .LShift) (rI CPow λi j=>.int (i*2 ^ j.toNat)):=opI λ_ _ _ _ _ _ _ hc q=>lshift_int_small hc.1 hc.2.1 hc.2.2 q
end
section
variable{X:Cx}{a b c:Expr}{ta tb tc:TE}{pos:Pos}
theorem op_lt:OpR X (compareOp .Lt) (rI0 λi j=>.bl (decide (i<j))):=opB0 λ_ _ _ _ _ _ _ q=>lt_int q
theorem op_gt:OpR X (compareOp .Gt) (rI0 λi j=>.bl (decide (j<i))):=opB0 λ_ _ _ _ _ _ _ q=>gt_int q
theorem OpR.or(h:OpR X f r)(h':OpR X f r'):OpR X f (λx y H Q=>r x y H Q\/r' x y H Q):=by
 intro pins s σ H x y v u Q I rx ry q
 rcases q with q | q
 ·exact h pins s σ H x y v u Q I rx ry q
 ·exact h' pins s σ H x y v u Q I rx ry q
theorem AZ(ho:OpR X (compareOp op) r)(ha:PE X a ta)(hb:PE X b tb)(hm:behindInMarks op b=false):PE X (.Compare a [op] [b] pos) (tOp r ta tb):=by
 intro pins s σ H Q I h
 exact wpAny_Compare1 (binT ha hb I h λv u s2 x y H2 I2 rx ry q=>ho pins s2 σ H2 x y v u Q I2 rx ry q) hm
def CJ(t:TE):TT:=λσ H Q=>t σ H λx H'=>∃k,x=.bl k/\Q k H'
theorem AR(ho:OpR X (compareOp op) r)(ha:PE X a ta)(hb:PE X b tb)(hm:behindInMarks op b=false):PT X (.Compare a [op] [b] pos) (CJ (tOp r ta tb)):=by
 intro pins s σ H Q I h
 refine wpAny_isTrue_Compare1 (thn (ha pins s σ H _ I h) λv s1 ⟨x,H1,I1,r1,q1⟩=>thn (hb pins s1 σ H1 _ I1 q1) λu s2 ⟨y,H2,I2,r2,q2⟩ =>
  thn (ho pins s2 σ H2 x y v u _ I2 r1 r2 q2) λc s3 ⟨z,H3,I3,r3,k,e,q3⟩=>?_) hm
 subst e
 cases r3
 exact ADg ⟨H3,I3,q3⟩
theorem lH:(sizeLine:Nat)<2 ^ 63:=by rw[AC5];decide
theorem tP:OpR X (binaryOp .Add) (λx y H Q=>∃i j,x=.str i/\y=.str j/\i.length+j.length<=sizeLine/\Q (.str (i++j)) H):=by
 intro pins s σ H x y v u Q I rx ry h
 obtain⟨i,j,rfl,rfl,hz,q⟩:=h
 obtain⟨t,rfl⟩:=rx
 obtain⟨t',rfl⟩:=ry
 exact add_str (λt' tk=>⟨.str (i++j),H,I.tok _,⟨_,rfl⟩,q⟩) hz
theorem Aw(r:aw [x] us):∃u,us=[u]/\aL x u:=by
 cases r with
 | cons r1 r2=>cases r2;exact⟨_,rfl,r1⟩
end
end L2
namespace L2
open PySem PySem.Spec PyProof.Rows
structure ObjM(h:Heap)(x dx C:Addr)(mA:Str->Option Value):Prop where
 obj:h.get? x=some (PySem.W.instObj C dx)
 ns:h.Ns1 dx mA
 ne:dx≠x
section
variable{prog:Program}{w:World}{A:Around}{E:Value->Shared->Prop}{s:Shared}{K:AA4}{x dx C f:Addr}{mA:Str->Option Value}{name:Str}{v:Value}
end
section
variable{P:Program}{w:World}{H H':Hp}{h h':Heap}{a C dx:Addr}{fs fs':List (Str×V)}
end
structure Cls(K:AA4)(C:Addr):Prop where
 pg:PySem.W.plainGet K C Str.empty=true
 hd:PySem.W.hasDictIn K C=true
 po:PySem.W.plainOver K C=true
 sa:ADq K (.ref C) "__setattr__" = some (some (.builtin "object.__setattr__"))
structure Con(K:AA4)(C:Addr)(f:Str)(v:V)(u:Value):Prop where
 at_:ADq K (.ref C) f=some (some u)
 rel:aL v u
 get:PySem.W.specialIn K u "__get__" = some none
 cp:PySem.W.copiedNames.contains f=false
structure Meth(K:AA4)(C:Addr)(m:Str)(f:Addr):Prop where
 at_:ADq K (.ref C) m=some (some (.ref f))
 fn:PySem.W.isFn K (.ref f)=true
 kp:ACS K (.ref f)=true
section
variable{X:Cx}{pins:List (Addr×Obj)}{σ:St}{H:Hp}{s:Shared}{a C dx:Addr}{fs:List (Str×V)}{f:Str}{v:V}{A:Around}{E:Value->Shared->Prop}
end
section
variable{X:Cx}{o e value:Expr}{f:Str}{pos pos' tpos:Pos}{ta tv:TE}
end
section
variable{X:Cx}{pins:List (Addr×Obj)}{σ:St}{H:Hp}{s:Shared}{A:Around}{E:Value->Shared->Prop}{Q:Value->Shared->Prop}{c:Value}{b:Bool}
inductive TyOf(K:AA4)(H:Hp):V->Value->Prop where
 | non:TyOf K H .non (.type "NoneType")
 | bl (x:Bool):TyOf K H (.bl x) (.type "bool")
 | int (i:Int):TyOf K H (.int i) (.type "int")
 | str (x:Str):TyOf K H (.str x) (.type "str")
 | flt (x:UInt64):TyOf K H (.flt x) (.type "float")
 | lst {a:Addr}{xs:List V} (e:H a=some (.lst xs)):TyOf K H (.ref a) (.type "list")
 | frz {a:Addr}{o:Obj}{xs:List V} (e:H a=some (.frz o (.lst xs))):TyOf K H (.ref a) (.type "list")
 | tup {a:Addr}{xs:List V} (e:H a=some (.tup xs)):TyOf K H (.ref a) (.type "tuple")
 | dK {a:Addr}{kvs:List (Key×V)} (e:H a=some (.dK kvs)):TyOf K H (.ref a) (.type "dict")
 | dT {a:Addr}{kvs:List (List Key×V)} (e:H a=some (.dT kvs)):TyOf K H (.ref a) (.type "dict")
 | ins {a C dx:Addr}{fs:List (Str×V)} (e:H a=some (.ins C dx fs)) (cl:Cls K C) (ha:ADq K (.ref C) "__class__" = some (some (.builtin "object.__class__")))
   (hn:PySem.W.specialIn K (.builtin "object.__class__") "__get__" = some (some (.builtin "getset_descriptor.__get__"))) (htk:PySem.W.takesIn K (.builtin "object.__class__")=some true)
   (hm:PySem.W.mroIn K C (.type "object")=some true):TyOf K H (.ref a) (.ref C)
end
end L2
namespace L2
open PySem PySem.Spec PyProof.Rows
structure Room(k:Nat)(A:Around):Prop where
 hd:A.handled=none
 dp:A.depth+3*k+5<recursionLimit
 un:A.units+16*k+200<cLine
theorem Room.mono(r:Room k A)(h:j<=k):Room j A:=⟨r.hd,by have:=r.dp;lia,by have:=r.un;lia⟩
theorem Room.deeper(r:Room (k+1) A)(env:Env):Room k (A.deeper env) :=
 ⟨r.hd,by have:=r.dp;show A.depth+1+3*k+5<_;lia,by have:=r.un;show A.units+3+16*k+200<_;lia⟩
theorem Room.in1(r:Room (k+1) A):Room k A.in1 :=
 ⟨r.hd,by have:=r.dp;show A.depth+3*k+5<_;lia,by have:=r.un;show A.units+1+16*k+200<_;lia⟩
theorem Room.depth(r:Room k A):A.depth<recursionLimit:=by have:=r.dp;lia
def tNil:TA:=λ_ H Q=>Q [] H
def tCons(ta:TE)(tr:TA):TA:=λσ H Q=>ta σ H λx H1=>tr σ H1 λxs H2=>Q (x::xs) H2
section
variable{X:Cx}{e:Expr}{es:List Expr}{te:TE}{t:TA}{pos:Pos}
theorem Du:PA X [] tNil:=λ_ _ _ _ H Q I h=>ADh ⟨[],H,I,.nil,h⟩
theorem Bb(ha:PE X e te)(hr:PA X es t)(hs:starEach (e::es) X.env=(false,eval e X.env)::starEach es X.env:=by rfl):PA X (e::es) (tCons te t):=by
 intro pos pins s σ H Q I h
 rw[hs]
 show wpAny _ _ (spliced ((false,eval e X.env)::backTo pos (starEach es X.env))) _ _ s
 refine ADO (thn (ha pins s σ H _ I h) λu s1 ⟨x,H1,I1,r1,q1⟩=>?_)
 exact thn (hr pos pins s1 σ H1 _ I1 q1) λus s2 ⟨xs,H2,I2,r2,q2⟩=>⟨x::xs,H2,I2,.cons r1 r2,q2⟩
def tTup(t:TA):TE:=λσ H Q=>t σ H λxs H1=>xs.length<=sizeLine/\∀p,H1 p=none->Q (.ref p) (upd H1 p (.tup xs))
def tLst(t:TA):TE:=λσ H Q=>t σ H λxs H1=>xs.length<=sizeLine/\∀p,H1 p=none->Q (.ref p) (upd H1 p (.lst xs))
theorem Dl{x1}(h:PA X es t):PE X (.Tuple es x1 pos) (tTup t):=by
 intro pins s σ H Q I hq
 refine wpAny_Tuple_spliced (thn (h pos pins s σ H _ I hq) λus s1 ⟨xs,H1,I1,r,z,q⟩=>⟨by rw[←r.length];exact z,?_⟩)
 have hf:H1 s1.heap.objs.size=none:=I1.hok.fresh (AA8 _)
 refine⟨.ref s1.heap.objs.size,upd H1 s1.heap.objs.size (.tup xs),I1.laid (t':=s1.toks) (λb u e=>AA3 _ e) (AA8 _) ?_,rfl,q _ hf⟩
 exact⟨z,us,r,⟨_,AAC _ rfl,rfl,⟨_,rfl⟩,rfl⟩⟩
theorem Dq(h:PA X es t):PE X (.List es pos) (tLst t):=by
 intro pins s σ H Q I hq
 refine wpAny_List_spliced (thn (h pos pins s σ H _ I hq) λus s1 ⟨xs,H1,I1,r,z,q⟩=>⟨by rw[←r.length];exact z,?_⟩)
 have hf:H1 s1.heap.objs.size=none:=I1.hok.fresh (AA8 _)
 refine⟨.ref s1.heap.objs.size,upd H1 s1.heap.objs.size (.lst xs),I1.laid (t':=s1.toks) (λb u e=>AA3 _ e) (AA8 _) ?_,rfl,q _ hf⟩
 exact⟨z,us,0,r,AAC _ rfl⟩
end
abbrev Sp:=List V->Hp->VK->XK->Prop
abbrev CXT:=List Env->Hp->Shared->XK->Value->Shared->Prop
structure Env0(P:Program)(w:World)(K:AA4)(mg:Str->Option Value)(base:Heap)(A:Around)(outer:List Env)(s:Shared)(H:Hp):Prop where
 frames:A.frames=some outer
 mod:Mod K mg base
 bs:∀b o,base.get? b=some o->s.heap.get? b=some o/\H b=none
 bsz:base.objs.size<=s.heap.objs.size
 funs:s.heap.FunFrames base outer
 frf:∀b∈frs outer,H b=none
 hok:HOk P w H s.heap
 bare:AllBare s.gens
inductive CE(outer:List Env)(P:Program)(w:World)(H:Hp)(s:Shared)(Q:VK)(u:Value)(s':Shared):Prop
 | mk (v:_) (H':_) (f0:s'.os=s.os) (f1:AllBare s'.gens) (f2:Un (frs outer) [] H H' s.heap s'.heap) (f3:HOk P w H' s'.heap) (f4:aL v u) (f5:Q v H')
def CR(CX:CXT)(outer:List Env)(P:Program)(w:World)(H:Hp)(s:Shared)(Q:VK)(E:XK)(r:Result)(s':Shared):Prop :=
 match r with
 | .ok (.ret u)=>CE outer P w H s Q u s'
 | .ok _=>False
 | .error e=>CX outer H s E e s'
structure FnOk(P:Program)(w:World)(K:AA4)(mg:Str->Option Value)(base:Heap)(CX:CXT)(k:Nat)(f:Addr)(fd:FuncData)(ps:List Str)(sp:Sp):Prop where
 len:∀vs H Q E,sp vs H Q E->vs.length=ps.length
 run:∀(A:Around) (outer:List Env) (s:Shared) (H:Hp) (args:Args) (us:List Value) (vs:List V) (Q:VK) (E:XK),Room k A->Env0 P w K mg base A outer s H->BindsTo s fd args (ps.zip us)->aw vs us->sp vs H Q E ->
  codeAny (model P w) A (.call (.ref f) args) (CR CX outer P w H s Q E) s
theorem Env0.in1{P:Program}{w:World}{K:AA4}{mg:Str->Option Value}{base:Heap}{A:Around}{outer:List Env}{s:Shared}{H:Hp}(e:Env0 P w K mg base A outer s H) :
  Env0 P w K mg base A.in1 outer s H:=⟨e.frames,e.mod,e.bs,e.bsz,e.funs,e.frf,e.hok,e.bare⟩
section
variable{X:Cx}{pins:List (Addr×Obj)}{σ:St}{H:Hp}{s s':Shared}
theorem Inv.env0(I:Inv X pins σ H s):Env0 X.prog X.w X.K X.mg X.base X.A X.stack s H :=
 ⟨I.ok.frames,I.ok.mod,I.bs,AAy I.ok.bsz I.sz,I.stack,I.stkFree,I.hok,I.bare⟩
theorem Inv.after(I:Inv X pins σ H s)(h:CE X.stack X.prog X.w H s Q u s'):EP X pins σ Q u s':=by
 obtain⟨v,H',os,bare,un,hok,r,q⟩:=h
 obtain⟨hh,g,d,t,os'⟩:=s'
 obtain rfl:os'=s.os:=os
 exact⟨v,H',I.call (h':=hh) (g':=g) (d':=d) (t':=t) (ch:=[]) un hok bare (λb z=>absurd z (by simp)),r,q⟩
end
def CM(sp:Sp)(dvs:List V)(E:XK)(t:TA):TE:=λσ H Q=>t σ H λvs H1=>sp (vs++dvs) H1 Q E
def pS(K:AA4)(fd:FuncData)(ps:List Str)(ds:List Value):Prop :=
 ∀(s:Shared) (us:List Value),K.In s.heap->(us++ds).length=ps.length->BindsTo s fd ⟨us,[]⟩ (ps.zip (us++ds))
theorem pS.all{K:AA4}{fd:FuncData}{ps:List Str}(h:∀us:List Value,us.length=ps.length->bindArgs fd ⟨us,[]⟩=pure (ps.zip us)):pS K fd ps []:=λs us _ hl=>by
 rw[ABI]at hl ⊢
 exact .of_eq (h us hl)
def xG(CX:CXT)(X:Cx)(E:XK):Prop:=∀(pins:List (Addr×Obj)) (σ:St) (H:Hp) (s:Shared) (e:Value) (s':Shared),Inv X pins σ H s->CX X.stack H s E e s'->X.xe e s'
section
variable{X:Cx}{CX:CXT}{k:Nat}{f C:Addr}{fd:FuncData}{ps:List Str}{sp:Sp}{dvs:List V}{ds:List Value}{E:XK}{x m:Str}{p pos apos:Pos}{e o:Expr}{es:List Expr}{ta:TE}{t:TA}
theorem CV(F:FnOk X.prog X.w X.K X.mg X.base CX k f fd ps sp)(hr:Room k X.A)(hb:pS X.K fd ps ds)(hd:aw dvs ds)(hx:xG CX X E)
  (I:Inv X pins σ H s) (r:aw vs us) (h:sp (vs++dvs) H Q E):wpAny (model X.prog X.w) X.A (call (.ref f) us) (EP X pins σ Q) X.xe s:=by
 have r2:aw (vs++dvs) (us++ds):=r.append hd
 have hl:(us++ds).length=ps.length:=by rw[←r2.length];exact F.len _ _ _ _ h
 refine wpAny_call (ADH (F.run X.A X.stack s H ⟨us,[]⟩ (us++ds) (vs++dvs) Q E hr I.env0 (hb s us I.kIn hl) r2 h) λr s' hq=>?_)
 cases r with
 | error e=>exact hx pins σ H s e s' I hq
 | ok fl =>
  cases fl with
  | ret u=>exact I.after hq
  | next=>exact ACk hq
  | brk=>exact ACk hq
  | cont=>exact ACk hq
theorem Ba(F:FnOk X.prog X.w X.K X.mg X.base CX k f fd ps sp)(hr:Room k X.A)(hg:Gl X x)(hm:X.mg x=some (.ref f))(hk:ACS X.K (.ref f)=true)(hb:pS X.K fd ps ds)(hd:aw dvs ds)(hx:xG CX X E)
  (ha:PA X (e::es) t) (hdb:(x==("__debug__":Str))=false:=by decide) (he:starEach (e::es) X.env=(false,eval e X.env)::starEach es X.env:=by rfl) (hpl:(backTo pos (starEach es X.env)).any (·.1)=false:=by rfl) :
  PE X (.Call (.Name x p) (e::es) [] pos) (CM sp dvs E t):=by
 intro pins s σ H Q I h
 refine AC2 (Bw I hg hm ?_ hdb)
 refine PySem.W.callWith_K (h₀:=X.base) I.ok.mod.kin hk (thn (ha pos pins s σ H _ I h) λus s1 ⟨vs,H1,I1,r,q⟩=>⟨I1.kIn,?_⟩) he hpl
 exact CV F hr hb hd hx I1 r q
structure Mk(K:AA4)(C f:Addr):Prop where
 makes:PySem.W.makesIn K C=true
 init:ADq K (.ref C) "__init__" = some (some (.ref f))
 fn:PySem.W.isFn K (.ref f)=true
 kp:ACS K (.ref C)=true
end
section
variable{X:Cx}{CX:CXT}{k:Nat}{f C:Addr}{fd:FuncData}{ps ks:List Str}{sp:Sp}{E:XK}{x m:Str}{p pos apos kpos:Pos}{e o:Expr}{es:List Expr}{kws:List Keyword}{te ta:TE}{t tk:TA}{nm:Option Str}
structure KBinds(K:AA4)(fd:FuncData)(ps ks:List Str)(g:List Value->List Value->List Value)(gV:List V->List V->List V):Prop where
 to:∀(s:Shared) (us ws:List Value),K.In s.heap->(g us ws).length=ps.length->BindsTo s fd ⟨us,ks.zip ws⟩ (ps.zip (g us ws))
 rel:∀{vs:List V}{us:List Value}{zs:List V}{ws:List Value},aw vs us->aw zs ws->aw (gV vs zs) (g us ws)
variable{g:List Value->List Value->List Value}{gV:List V->List V->List V}
end
structure FnScope(N P:List Str)(sc:Scope):Prop where
 kind:sc.kind=.function
 co:sc.isCoroutine=false
 gen:sc.isGenerator=false
 nd:N.Nodup
 pre:N.take P.length=P
 par:∀x∈P,sc.names.lookup x=some .local\/sc.names.lookup x=some .cell
 nofree:∀y∈sc.names,y.2≠.free
theorem pJ{kindOf:Str->Option NameKind}{x:Str}:∀{binds:List (Str×Value)}{m:Str->Option Value},(∀v,(x,v)∉binds)->bindL kindOf binds m x=m x
 | [],_,_=>rfl
 | (n,v)::r,m,h=>by
  unfold bindL
  rw[pJ λw hw=>h w (AAA _ hw)]
  split
  ·have:x≠n:=by rintro rfl;exact h v AAI
   simp[this]
  ·rfl
theorem pL{kindOf:Str->Option NameKind}{x:Str}:∀{binds:List (Str×Value)}{m:Str->Option Value},(∀v,(x,v)∉binds)->bindC kindOf binds m x=m x
 | [],_,_=>rfl
 | (n,v)::r,m,h=>by
  unfold bindC
  rw[pL λw hw=>h w (AAA _ hw)]
  split
  ·rfl
  ·have:x≠n:=by rintro rfl;exact h v AAI
   simp[this]
theorem pK{kindOf:Str->Option NameKind}{x:Str}{v:Value}:∀{P:List Str}{vs:List Value}{i:Nat}{m:Str->Option Value},P.Nodup->P[i]?=some x->vs[i]?=some v->kindOf x=some .local ->
  bindL kindOf (P.zip vs) m x=some v
 | [],_,_,_,_,h,_,_=>by simp at h
 | _::_,[],_,_,_,_,h,_=>by simp at h
 | p::P,w::vs,0,m,nd,h1,h2,hk=>by
  simp at h1 h2;subst h1;subst h2
  show bindL kindOf ((p,w)::P.zip vs) m p=_
  unfold bindL
  rw[pJ λv hv=>(ABb.mp nd).1 (AE4 hv).1,if_pos hk]
  simp
 | p::P,w::vs,i+1,m,nd,h1,h2,hk=>by
  show bindL kindOf ((p,w)::P.zip vs) m x=_
  unfold bindL
  exact pK (i:=i) (ABb.mp nd).2 (by simpa using h1) (by simpa using h2) hk
theorem pN{kindOf:Str->Option NameKind}{x:Str}{v:Value}:∀{P:List Str}{vs:List Value}{i:Nat}{m:Str->Option Value},P.Nodup->P[i]?=some x->vs[i]?=some v->kindOf x≠some .local ->
  bindC kindOf (P.zip vs) m x=some v
 | [],_,_,_,_,h,_,_=>by simp at h
 | _::_,[],_,_,_,_,h,_=>by simp at h
 | p::P,w::vs,0,m,nd,h1,h2,hk=>by
  simp at h1 h2;subst h1;subst h2
  show bindC kindOf ((p,w)::P.zip vs) m p=_
  unfold bindC
  rw[pL λv hv=>(ABb.mp nd).1 (AE4 hv).1,if_neg hk]
  simp
 | p::P,w::vs,i+1,m,nd,h1,h2,hk=>by
  show bindC kindOf ((p,w)::P.zip vs) m x=_
  unfold bindC
  exact pN (i:=i) (ABb.mp nd).2 (by simpa using h1) (by simpa using h2) hk
def start(N:List Str)(vs:List V):St:=vs.map some++ADr (N.length-vs.length) none
def pF(CX:CXT)(P:Program)(w:World)(K:AA4)(mg:Str->Option Value)(base:Heap)(N:List Str)(qual:Str)(scope:Scope)(f:Addr)(cd:Value)(A:Around)(outer:List Env)(s:Shared)(H:Hp)(E:XK):Cx where
 prog:=P
 w:=w
 K:=K
 mg:=mg
 base:=base
 A:=A.deeper (envOfC qual scope s.heap.objs.size f cd)
 N:=N
 s₀:=s
 H₀:=H
 env:=envOfC qual scope s.heap.objs.size f cd
 outer:=outer
 stack:=envOfC qual scope s.heap.objs.size f cd::outer
 ex:=[]
 calm:=true
 fn:=λ_=>true
 pn:=[]
 xe:=λe s'=>wpAny (model P w) (A.deeper (envOfC qual scope s.heap.objs.size f cd)) (leaving (envOfC qual scope s.heap.objs.size f cd) e) (λ_ s''=>CX outer H s E e s'') (λe' s''=>CX outer H s E e' s'') s'
theorem sY{sc:Scope}{n:Nat}{x:Str}(h:sc.names.lookup x=some .cell):∃c,(cellsFrom n sc.names []).lookup x=some c:=by
 have q:=ADd sc.names n [] (.inl h)
 exact ADI.mp q
theorem oW{CX:CXT}{P:Program}{w:World}{K:AA4}{mg:Str->Option Value}{base:Heap}{N ps:List Str}{qual:Str}{scope:Scope}{f:Addr}{cd:Value}{A:Around}{outer:List Env}{s s1:Shared}{H:Hp}{E:XK}{us:List Value}{vs:List V}
  (S:FnScope N ps scope) (hd:A.handled=none) (e0:Env0 P w K mg base A outer s H) (hl:vs.length=ps.length) (r:aw vs us)
  (x:InCallC s s.heap.objs.size (bindL (envOfC qual scope s.heap.objs.size f cd).kindOf (ps.zip us) λ_=>none) (cellsFrom (s.heap.objs.size+1) scope.names []) (bindC (envOfC qual scope s.heap.objs.size f cd).kindOf (ps.zip us) λ_=>none) s1) :
  Inv (pF CX P w K mg base N qual scope f cd A outer s H E) [] (start N vs) H s1:=by
 have hpl:ps.length<=N.length:=by have:=congrArg ABc S.pre;rw[AB2]at this;lia
 obtain⟨h1,tk,rfl,hk⟩:=x.done
 have noA:∀b:Addr,b∉(pF CX P w K mg base N qual scope f cd A outer s H E).ex:=λb z=>absurd (show b∈([]:List Addr)from z) (by simp)
 refine⟨⟨e0.mod,S.kind,rfl,rfl,AA8 _,λy z c h1 h2=>?_,λy hy=>?_,λy c _ h=>?_,λ_=>hd,Around.frames_deeper e0.frames,.inr ⟨rfl,rfl⟩,λb z=>absurd z (noA b),e0.bs,e0.bsz,λb _ _=>noA b,λb z=>absurd z (noA b),e0.funs,e0.frf⟩,
  rfl,e0.bare,Un.kept hk,⟨_,x.toInCall.ns,λi y v h1 h2 h3=>?_⟩,λy c h=>⟨_,x.cell y c h⟩,e0.hok.fresh (AA8 _),λy c h=>?_,λp hp=>absurd (show p∈([]:List (Addr×Obj))from hp) (by simp),e0.hok.kept hk,?_⟩
 ·exact name_of_addr x.apart (ABO h1) (ABO h2)
 ·have hy:scope.names.lookup y=some .cell\/scope.names.lookup y=some .free:=hy
  rcases hy with hy | hy
  ·exact sY hy
  ·exact absurd rfl (S.nofree _ (ABO hy))
 ·exact ACN (x.above y c (ABO h))
 ·have hi:i<vs.length:=by
   unfold start at h2
   by_cases hi:i<vs.length
   ·exact hi
   ·rw[AAg (by simpa using hi)]at h2
    rw[ACd]at h2
    split at h2<;>cases h2
  have ha:vs[i]?=some v:=by
   unfold start at h2
   rw[AAP (by simpa using hi),AAT]at h2
   cases e:vs[i]? with
   | none=>rw[e]at h2;cases h2
   | some a=>rw[e]at h2;cases h2;rfl
  obtain⟨u,hu,rv⟩:=r.get ha
  have hp:ps[i]?=some y:=by
   rw[←S.pre,ABW (by lia)];exact h1
  have ndP:ps.Nodup:=by rw[←S.pre];exact S.nd.sublist (List.take_sublist _ _)
  refine⟨u,rv,?_⟩
  rcases S.par y (AAc hp)with k | k
  ·exact .inl ⟨k,pK ndP hp hu k⟩
  ·obtain⟨c,e⟩:=sY (n:=s.heap.objs.size+1) k
   refine .inr ⟨.inl k,c,e,?_⟩
   have q:=x.cell y c e
   rw[pN ndP hp hu (by show scope.names.lookup y≠_;rw[k];decide)]at q
   exact q
 ·exact e0.hok.fresh (ACN (x.above y c (ABO h)))
 ·unfold start
  show _=N.length
  rw[AAB,AA6,ACt]
  lia
theorem EI{CX:CXT}{P:Program}{w:World}{K:AA4}{mg:Str->Option Value}{base:Heap}{k:Nat}{f:Addr}{name qual:Str}{params:Arguments}{body:List Stmt}{scope:Scope}{dV kV doc pm cdv ct oc:Value}{an od:Option Addr}
  {osl:Array (Option Value)}{N ps:List Str}{sp:Sp} (lk:K.lookup f=some ⟨oc,od,.func (ACb name qual params body scope dV kV doc pm an cdv ct),osl⟩) (hcd:AEI K cdv qual=true) (S:FnScope N ps scope)
  (len:∀vs H Q E,sp vs H Q E->vs.length=ps.length)
  (hbody:∀(A:Around) (outer:List Env) (s:Shared) (H:Hp) (vs:List V) (Q:VK) (E:XK),Room k (A.deeper (envOfC qual scope s.heap.objs.size f cdv))->sp vs H Q E ->
   ∃t,PSs (pF CX P w K mg base N qual scope f cdv A outer s H E) body t/\t { nx:=λ_ H'=>Q .non H',rt:=Q } (start N vs) H) :
  FnOk P w K mg base CX (k+1) f (ACb name qual params body scope dV kV doc pm an cdv ct) ps sp:=by
 refine⟨len,λA outer s H args us vs Q E hr e0 hb r hsp=>?_⟩
 have hl:=len _ _ _ _ hsp
 have KX:K.In s.heap:=e0.mod.kin.keeps λb o e=>(e0.bs b o e).1
 have lim:s.heap.NoLimit:=e0.mod.nolimit.keeps λb o e=>(e0.bs b o e).1
 have hkind:∀y∈ps.zip us,scope.names.lookup y.1=some .local\/(scope.names.lookup y.1=some .cell/\((cellsFrom (s.heap.objs.size+1) scope.names []).lookup y.1).isSome=true):=λ⟨n,v⟩ hy=>by
  rcases S.par n (AE4 hy).1 with q | q
  ·exact .inl q
  ·exact .inr ⟨q,ADd _ _ _ (.inl q)⟩
 refine codeAny_call_function hr.depth (KX _ _ lk) rfl S.co S.gen rfl (PySem.W.codeRec_of KX hcd) (hb _ _ _ _ ?_)
 refine wpAny_newFunctionEnv_cells S.kind hkind λenv he s1 x=>?_
 subst he
 refine⟨lim.keeps x.toInCall.keep,codeAny_func ?_⟩
 obtain⟨t,ht,hq⟩:=hbody A outer s H vs Q E (hr.deeper _) hsp
 have I:Inv (pF CX P w K mg base N qual scope f cdv A outer s H E) [] (start N vs) H s1:=oW S hr.hd e0 hl r x
 refine AB7 (ht [] s1 (start N vs) H _ I hq) (λfl s' hs=>?_) λe s' hs=>hs
 have fin:∀{σ':St}{H':Hp}{v:V}{u:Value},Inv (pF CX P w K mg base N qual scope f cdv A outer s H E) [] σ' H' s'->aL v u->Q v H'->CE outer P w H s Q u s' :=
  λ{σ' H' v u} J rv q=>⟨v,H',J.os,J.bare,J.base,J.hok,rv,q⟩
 cases fl with
 | ret u =>
  obtain⟨v,σ',H',J,rv,q⟩:=hs
  exact fin J rv q
 | next =>
  obtain⟨σ',H',J,q⟩:=hs
  exact fin (v:=V.non) (u:=ABi) J rfl q
 | brk =>
  obtain⟨_,_,_,q⟩:=hs
  exact ACk q
 | cont =>
  obtain⟨_,_,_,q⟩:=hs
  exact ACk q
end L2
namespace L2
open PySem PySem.Spec PyProof.Rows
section
variable{X:Cx}{x:Str}{p pos:Pos}{e:Expr}{es:List Expr}{t:TA}{id T:String}{r:List V->Hp->VK->Prop}
def tCB(r:List V->Hp->VK->Prop)(t:TA):TE:=λσ H Q=>t σ H λvs H1=>r vs H1 Q
theorem yi(hc:fZ X (.builtin id) r)(hg:Gl X x)(hm:X.mg x=none)(hv:bootBuiltins x=some (.builtin id))(ha:PA X (e::es) t)(hn:x≠"__name__":=by decide)(hdb:(x==("__debug__":Str))=false:=by decide)
  (he:starEach (e::es) X.env=(false,eval e X.env)::starEach es X.env:=by rfl) (hpl:(backTo pos (starEach es X.env)).any (·.1)=false:=by rfl):PE X (.Call (.Name x p) (e::es) [] pos) (tCB r t):=by
 intro pins s σ H Q I h
 refine AC2 (gQ I hg hm hv ?_ hn hdb)
 exact PyProof.Rows.callWith_builtin1 (thn (ha pos pins s σ H _ I h) λus s1 ⟨vs,H1,I1,r1,q1⟩=>hc pins s1 σ H1 vs us Q I1 r1 q1) he hpl
theorem vN(hc:fZ X (.type T) r)(hg:Gl X x)(hm:X.mg x=none)(hv:bootBuiltins x=some (.type T))(ha:PA X (e::es) t)(hn:x≠"__name__":=by decide)(hdb:(x==("__debug__":Str))=false:=by decide)
  (he:starEach (e::es) X.env=(false,eval e X.env)::starEach es X.env:=by rfl) (hpl:(backTo pos (starEach es X.env)).any (·.1)=false:=by rfl):PE X (.Call (.Name x p) (e::es) [] pos) (tCB r t):=by
 intro pins s σ H Q I h
 refine AC2 (gQ I hg hm hv ?_ hn hdb)
 exact ACF (thn (ha pos pins s σ H _ I h) λus s1 ⟨vs,H1,I1,r1,q1⟩=>hc pins s1 σ H1 vs us Q I1 r1 q1) he hpl
end
end L2
namespace HT
open PySem PyProof.Rows
theorem rcLt_int(A:Around)(s:Shared)(a:Int)(t:Tok)(c:Int)(u:Tok)(prog:Program)(w:World)(E:Value->Shared->Prop)(Q:Value->Shared->Prop)(h:Q (.bool (decide (a<c))) s) :
  wpAny (model prog w) A (richCompare .Lt (.int a t) (.int c u)) Q E s :=
 (PyProof.Rows.lt_int h:wpAny (model prog w) A (compareOp .Lt (.int a t) (.int c u)) Q E s)
section
open PySem.SeqAt
open PySem.AutoSeq1 (wpAny_loadPart')
open PySem.MeetsSeq PySem.MeetsSeq2 PySem.MeetsSeq3
end
section
variable{prog:Program}{w:World}{A:Around}{E:Value->Shared->Prop}{s:Shared}
theorem cat_tup(ht:IsTup s.heap t vs.toArray)(hb:IsTup s.heap b ws.toArray)(hv:vs≠[])
  (h1:ws=[]->Q (.ref t) s) (h2:ws≠[]->Q (.ref s.heap.objs.size) { s with heap:=s.heap.push { cls:=.type "tuple",data:=.seq (vs++ws).toArray } })
  (hsz:vs.length+ws.length<=sizeLine):wpAny (model prog w) A (binaryOp .Add (.ref t) (.ref b)) Q E s:=by
 obtain⟨⟨cls,dd,data,sl⟩,ho,hc,n,hd⟩:=id ht
 obtain⟨⟨cls2,dd2,data2,sl2⟩,ho2,hc2,n2,hd2⟩:=id hb
 simp only at hc hd hc2 hd2
 subst hc hd hc2 hd2
 have e:vs.toArray++ws.toArray=(vs++ws).toArray:=by simp
 by_cases hw:ws=[]
 ·exact concat_meets ⟨_,ho,rfl⟩ ⟨_,ho2,rfl⟩ noFill_tuple_add seq_tuple_add ADe ADQ (ADJ _ _)
   (tuple_addW1 t b vs.toArray ws.toArray n n2 dd dd2 sl sl2 (by simpa using hv) (by simp[hw])) ⟨ho,ho2,h1 hw⟩
 ·refine concat_meets ⟨_,ho,rfl⟩ ⟨_,ho2,rfl⟩ noFill_tuple_add seq_tuple_add ADe ADQ (ADJ _ _)
   (tuple_addW2 t b vs.toArray ws.toArray n n2 dd dd2 sl sl2 (by simpa using hv) (by simpa using hw) (by rw[AAD,AAD];exact hsz)) ⟨ho,ho2,?_⟩
  rw[e]
  exact h2 hw
def sIx(n d:Nat):Option Int->Nat
 | none=>d
 | some v=>if v<0 then(v+(n:Int)).toNat else min v.toNat n
theorem CT(n d:Nat)(hd:d<=n)(o:Option Int):sIx n d o<=n:=by
 cases o with
 | none=>exact hd
 | some v =>
  show (if v<0 then(v+(n:Int)).toNat else min v.toNat n)<=n
  by_cases hv:v<0
  ·rw[if_pos hv];lia
  ·rw[if_neg hv];exact Nat.min_le_right _ _
theorem xu(v:Int)(n d:Nat):(if v<0 then max (v+(n:Int)) 0 else min v (n:Int))=((sIx n d (some v):Nat):Int):=by
 show (if v<0 then max (v+(n:Int)) 0 else min v (n:Int))=(((if v<0 then(v+(n:Int)).toNat else min v.toNat n):Nat):Int)
 by_cases hv:v<0
 ·simp only[if_pos hv];lia
 ·simp only[if_neg hv];lia
theorem uu(lo hi:Option Int)(n:Nat):AD8 lo hi 1 (n:Int)=(((sIx n 0 lo:Nat):Int),((sIx n n hi:Nat):Int)):=by
 have h1:¬((1:Int)<0):=by lia
 unfold AD8
 simp only[h1,if_false]
 refine Prod.ext ?_ ?_
 ·cases lo with
  | none=>rfl
  | some v=>exact xu v n 0
 ·cases hi with
  | none=>rfl
  | some v=>exact xu v n n
theorem tO(i j:Nat):ACT (i:Int) (j:Int) 1=j-i:=by
 unfold ACT
 have h1:(1:Int) > 0:=by lia
 simp only[h1,if_true,Int.ediv_one]
 split<;>lia
theorem lC(p:IsPart v o)(h:Q o s):wpAny (model prog w) A (Builtin.Slice.slicePartIndex v) Q E s:=by
 cases p with
 | none=>exact slicePart_none h
 | int i t=>exact slicePart_int h
theorem dY{sl:Addr}{vl vu:Value}{lo hi:Option Int}{n:Nat}{Q:Int×Int×Nat->Shared->Prop}(hs:s.heap.IsSliceOf sl vl vu .none)(pl:IsPart vl lo)(pu:IsPart vu hi)
  (h:Q (((sIx n 0 lo:Nat):Int),1,sIx n n hi-sIx n 0 lo) s):wpAny (model prog w) A (AEG (.ref sl) (pure (n:Int))) Q E s:=by
 obtain⟨os,hos,hcs,hds⟩:=id hs
 unfold AEG Builtin.Slice.sliceFields
 refine AA0 (AA0 (wpAny_field hos hds (x:=vl) rfl (AA0 (wpAny_field hos hds (x:=vu) rfl (AA0 (wpAny_field hos hds (x:=.none) rfl (AA2 ?_)))))))
 refine AA0 (slicePart_none ?_)
 show wpAny _ _ (if ((1:Int)==0)=true then _ else _) _ _ s
 rw[if_neg (by decide)]
 refine AA0 (lC pl (AA0 (lC pu (AA0 (AA2 ?_)))))
 show wpAny _ _ (match AD8 lo hi 1 (n:Int)with | (lo,hi)=>pure (lo,(1:Int),ACT lo hi 1)) _ _ s
 rw[uu lo hi n]
 show wpAny _ _ (pure (((sIx n 0 lo:Nat):Int),(1:Int),ACT ((sIx n 0 lo:Nat):Int) ((sIx n n hi:Nat):Int) 1)) _ _ s
 rw[tO]
 exact AA2 h
theorem ye(xs:Array Value)(i k:Nat):((AAv k).filterMap λ(m:Nat)=>xs[((i:Int)+(m:Int)*1).toNat]?).toArray=((xs.toList.drop i).take k).toArray:=by
 have e:(λ(m:Nat)=>xs[((i:Int)+(m:Int)*1).toNat]?)=λm=>xs[i+m]?:=by
  funext m
  have:((i:Int)+(m:Int)*1).toNat=i+m:=by lia
  rw[this]
 rw[e]
 have:=pick_run xs i k
 rw[List.filterMap_map]at this
 have e2:((λx=>xs[x]?) ∘ λx=>i+x)=λm=>xs[i+m]?:=rfl
 rw[e2]at this
 rw[this]
theorem getItem_tuple_cut{t sl:Addr}{items:Array Value}{vl vu:Value}{lo hi:Option Int}{Q:Value->Shared->Prop}(ht:IsTup s.heap t items)(hs:s.heap.IsSliceOf sl vl vu .none)(pl:IsPart vl lo)(pu:IsPart vu hi)
  (hw:¬(sIx items.size 0 lo=0/\sIx items.size items.size hi=items.size))
  (h:Q (.ref s.heap.objs.size) { s with heap:=s.heap.push { cls:=.type "tuple",data:=.seq ((items.toList.drop (sIx items.size 0 lo)).take (sIx items.size items.size hi-sIx items.size 0 lo)).toArray } })
  (hsz:items.size<=sizeLine):wpAny (model prog w) A (getItem (.ref t) (.ref sl)) Q E s:=by
 have htake:sizeOk (.seq ((items.toList.drop (sIx items.size 0 lo)).take (sIx items.size items.size hi-sIx items.size 0 lo)).toArray):=by
  show ((items.toList.drop (sIx items.size 0 lo)).take (sIx items.size items.size hi-sIx items.size 0 lo)).toArray.size<=sizeLine
  rw[AAD,AB2,ABk,AAL]
  lia
 have hj:sIx items.size items.size hi<=items.size:=CT _ _ (AA8 _) hi
 obtain⟨os,hos,hcs,hds⟩:=id hs
 have hTs:s.TypeIs (.ref sl) "slice":=⟨os,hos,hcs⟩
 unfold getItem
 try with_reducible refine AAh ?_
 first | refine AA0 (AA2 ?_) | skip
 refine AA0 (wpAny_sequenceKey ht.typeIs (by decide) ?_)
 refine AA0 (AB0 (name:=AA1 "__getitem__") ht.typeIs ABD
  (AAt ABD ht.typeIs entry_tuple_getitem ?_ (args_tuple_getitem _ _)))
 show wpAny _ _ (ACI (.ref t) >>= _) _ _ s
 refine AA0 (tupleItemsOf_ ht ?_)
 refine AA0 (ACc hTs ?_)
 rw[if_pos (by decide)]
 refine AA0 (dY hs pl pu ?_)
 have hno:¬((((sIx items.size 0 lo:Nat):Int)==0&&(1:Int)==1&&(sIx items.size items.size hi-sIx items.size 0 lo)==items.size)=true):=by
  intro q
  rw[AAV,AAV]at q
  have q1:((sIx items.size 0 lo:Nat):Int)=0:=eq_of_beq q.1.1
  have q2:sIx items.size items.size hi-sIx items.size 0 lo=items.size:=eq_of_beq q.2
  exact hw ⟨by lia,by lia⟩
 show wpAny _ _ (if (((sIx items.size 0 lo:Nat):Int)==0&&(1:Int)==1&&(sIx items.size items.size hi-sIx items.size 0 lo)==items.size)=true then _ else _) _ _ s
 rw[if_neg hno,ye]
 first
  | exact AA0 (m:=ACW _) (AAk (AA2 ⟨_,rfl,AA2 h⟩) htake)
  | exact AA0 (m:=ACW _) (AAk (AA0 (AA2 (AA2 ⟨_,rfl,AA2 h⟩))) htake)
  | exact AA0 (AA0 (m:=ACW _) (AAk (AA2 (AA2 ⟨_,rfl,AA2 h⟩)) htake))
  | exact AA0 (AA0 (m:=ACW _) (AAk (AA2 ⟨_,rfl,AA2 h⟩) htake))
end
end HT
namespace L2
open PySem PySem.Spec PyProof.Rows
abbrev TO:=St->Hp->(Option Int->Hp->Prop)->Prop
def PO(X:Cx)(e:Option Expr)(t:TO):Prop :=
 ∀(pins:List (Addr×Obj)) (s:Shared) (σ:St) (H:Hp) (Q:Option Int->Hp->Prop),Inv X pins σ H s->t σ H Q ->
  wpAny (model X.prog X.w) X.A (evalPart e X.env) (λu s'=>∃o H',Inv X pins σ H' s'/\IsPart u o/\Q o H') X.xe s
def Ax:TO:=λ_ H Q=>Q none H
def tPart(t:TE):TO:=λσ H Q=>t σ H λx H1=>∃i,x=.int i/\Q (some i) H1
section
variable{X:Cx}{e:Expr}{te:TE}{lo hi:Option Expr}{tl th:TO}{pos p2:Pos}
theorem AW:PO X none Ax:=by
 intro pins s σ H Q I h
 rw[evalPart_none]
 exact AA2 ⟨none,H,I,.none,h⟩
theorem AV(h:PE X e te):PO X (some e) (tPart te):=by
 intro pins s σ H Q I hw
 rw[evalPart_some]
 refine thn (h pins s σ H _ I hw) λu s1 ⟨x,H1,I1,r1,q1⟩=>?_
 obtain⟨i,rfl,q⟩:=q1
 obtain⟨t,rfl⟩:=r1
 exact⟨some i,H1,I1,.int i t,q⟩
def SlR(X:Cx)(r:V->Option Int->Option Int->Hp->VK->Prop):Prop :=
 ∀(pins:List (Addr×Obj)) (s:Shared) (σ:St) (H:Hp) (x:V) (v vl vu:Value) (lo hi:Option Int) (sl:Addr) (Q:VK),Inv X pins σ H s->aL x v->s.heap.IsSliceOf sl vl vu .none->IsPart vl lo->IsPart vu hi->r x lo hi H Q ->
  ∃T id,typeLookup (.type T) "__getitem__" = pure (some (.builtin id))/\s.TypeIs v T/\wpAny (model X.prog X.w) X.A (getItem v (.ref sl)) (EP X pins σ Q) X.xe s
def tSl(r:V->Option Int->Option Int->Hp->VK->Prop)(te:TE)(tl th:TO):TE:=λσ H Q=>te σ H λx H1=>tl σ H1 λl H2=>th σ H2 λu H3=>r x l u H3 Q
theorem yh(hr:SlR X r)(he:PE X e te)(hl:PO X lo tl)(hu:PO X hi th):PE X (.Subscript e (.Slice lo hi none p2) pos) (tSl r te tl th):=by
 intro pins s σ H Q I h
 refine Subscript_ (thn (he pins s σ H _ I h) λv s1 ⟨x,H1,I1,r1,q1⟩=>?_)
 refine wpAny_Slice (thn (hl pins s1 σ H1 _ I1 q1) λvl s2 ⟨l,H2,I2,pl,q2⟩=>thn (hu pins s2 σ H2 _ I2 q2) λvu s3 ⟨u,H3,I3,pu,q3⟩=>?_)
 rw[evalPart_none]
 refine AA2 ?_
 have I4:Inv X pins σ H3 { s3 with heap:=s3.heap.push { cls:=.type "slice",data:=.fields #[vl,vu,.none] } }:=I3.kept (t':=s3.toks) λb ob q=>AA3 _ q
 obtain⟨T,id,hT,ht,hg⟩:=hr pins { s3 with heap:=s3.heap.push { cls:=.type "slice",data:=.fields #[vl,vu,.none] } } σ H3 x v vl vu l u s3.heap.objs.size Q I4 r1 (Heap.IsSliceOf.new ..) pl pu q3
 show wpAny (model X.prog X.w) X.A (subscriptTail e (.Slice lo hi none p2) v (.ref s3.heap.objs.size)) (EP X pins σ Q) X.xe { s3 with heap:=s3.heap.push { cls:=.type "slice",data:=.fields #[vl,vu,.none] } }
 exact tail_any (ops:=[.ref s3.heap.objs.size,v]) ht hT hg (by with_unfolding_all rfl)
def Al(xs:List V)(lo hi:Option Int):List V:=(xs.drop (HT.sIx xs.length 0 lo)).take (HT.sIx xs.length xs.length hi-HT.sIx xs.length 0 lo)
theorem ki(xs:List V)(lo hi:Option Int):(Al xs lo hi).length<=xs.length:=by
 unfold Al
 rw[AB2,ABk]
 lia
def rSlT(K:AA4):V->Option Int->Option Int->Hp->VK->Prop:=λx lo hi H Q=>∃a xs,x=.ref a/\SqT K H a xs /\
 ¬(HT.sIx xs.length 0 lo=0/\HT.sIx xs.length xs.length hi=xs.length)/\∀p,H p=none->Q (.ref p) (upd H p (.tup (Al xs lo hi)))
theorem CP:SlR X (rSlT X.K):=by
 intro pins s σ H x v vl vu lo hi sl Q I rx hs pl pu h
 obtain⟨a,xs,rfl,hx,hw,q⟩:=h
 cases rx
 obtain⟨its,r,ht,hz⟩:=I.tuple hx
 have hlen:its.toArray.size=xs.length:=by rw[AAD];exact r.length.symm
 refine⟨"tuple",_,ABD.lookup,ht.typeIs,?_⟩
 refine HT.getItem_tuple_cut ht hs pl pu (by rw[hlen];exact hw) ?_ (by rw[hlen];exact hz)
 rw[hlen]
 refine⟨.ref s.heap.objs.size,_,I.laid (t':=s.toks) (o:=.tup (Al xs lo hi)) (λb ob q=>AA3 _ q) (AA8 _) ?_,rfl,q _ (I.hok.fresh (AA8 _))⟩
 exact⟨AAy (ki xs lo hi) hz,_,(r.drop (HT.sIx xs.length 0 lo)).take (HT.sIx xs.length xs.length hi-HT.sIx xs.length 0 lo),Ap.new _ _⟩
def rCatT(K:AA4):R2:=λx y H Q=>∃a b xs ys,x=.ref a/\y=.ref b/\SqT K H a xs/\SqT K H b ys/\xs≠[]/\xs.length+ys.length<=sizeLine /\
 (ys=[]->Q (.ref a) H)/\(ys≠[]->∀p,H p=none->Q (.ref p) (upd H p (.tup (xs++ys))))
theorem aw.nil_iff(r:aw xs us):us=[]↔xs=[]:=by
 cases r with
 | nil=>simp
 | cons _ _=>simp
theorem Bh:OpR X (binaryOp .Add) (rCatT X.K):=by
 intro pins s σ H x y v u Q I rx ry h
 obtain⟨a,b,xs,ys,rfl,rfl,ha,hb,hx,hz,q1,q2⟩:=h
 cases rx
 cases ry
 obtain⟨its,r1,p1,_⟩:=I.tuple ha
 obtain⟨its2,r2,p2,_⟩:=I.tuple hb
 refine HT.cat_tup p1 p2 (λz=>hx (r1.nil_iff.mp z)) (λz=>⟨.ref a,H,I,rfl,q1 (r2.nil_iff.mp z)⟩) (λz=>?_) (by rw[←r1.length,←r2.length];exact hz)
 refine⟨.ref s.heap.objs.size,_,I.laid (t':=s.toks) (o:=.tup (xs++ys)) (λb ob q=>AA3 _ q) (AA8 _) ?_,rfl,q2 (λw=>z (r2.nil_iff.mpr w)) _ (I.hok.fresh (AA8 _))⟩
 exact⟨by rw[AAB];exact hz,_,r1.append r2,Ap.new _ _⟩
end
end L2
namespace L2
open PySem PySem.Spec PyProof.Rows
def ixN(n:Nat)(i:Int):Option Nat:=if 0<=i then(if i<n then some i.toNat else none)else if -(n:Int)<=i then some (i+n).toNat else none
def atI{α:Type}(xs:List α)(i:Int):Option α:=(ixN xs.length i).bind λj=>xs[j]?
theorem wR(h:ixN n i=some j):seqIndex? i n=some j/\j<n/\-(n:Int)<=i/\i<n:=by
 unfold ixN at h
 by_cases h0:0<=i
 ·rw[if_pos h0]at h
  by_cases h1:i<n
  ·rw[if_pos h1]at h
   have e:i.toNat=j:=AAR h
   exact⟨by rw[seqIndex_of h0 h1,e],by lia,by lia,h1⟩
  ·rw[if_neg h1]at h;cases h
 ·rw[if_neg h0]at h
  by_cases h1:-(n:Int)<=i
  ·rw[if_pos h1]at h
   have e:(i+n).toNat=j:=AAR h
   exact⟨by rw[seqIndex_neg (by lia) h1,e],by lia,h1,by lia⟩
  ·rw[if_neg h1]at h;cases h
theorem qW{α:Type}{xs:List α}{i:Int}{v:α}(h:atI xs i=some v):∃j,seqIndex? i xs.length=some j/\xs[j]?=some v/\j<xs.length/\-(xs.length:Int)<=i/\i<xs.length:=by
 unfold atI at h
 cases e:ixN xs.length i with
 | none=>rw[e]at h;cases h
 | some j =>
  rw[e]at h
  obtain⟨h1,h2,h3,h4⟩:=wR e
  exact⟨j,h1,h,h2,h3,h4⟩
theorem az{α:Type}{xs:List α}{j:Nat}{v:α}(h:xs[j]?=some v):atI xs (j:Int)=some v:=by
 have hj:j<xs.length:=(AA7.mp h).1
 have e:ixN xs.length (j:Int)=some j:=by
  unfold ixN
  rw[if_pos (by lia),if_pos (by lia)];simp
 unfold atI;rw[e];exact h
def qY(b:Expr):Prop:=∀o i,subscripted b false o i=operate [o,i] (getItem o i)
def IxR(X:Cx)(r:R2):Prop :=
 ∀(value slice:Expr) (pins:List (Addr×Obj)) (s:Shared) (σ:St) (H:Hp) (x y:V) (v u:Value) (Q:VK),Inv X pins σ H s->aL x v->aL y u->r x y H Q ->
  subscripted slice false v u=operate [v,u] (getItem v u)->wpAny (model X.prog X.w) X.A (subscriptTail value slice v u) (EP X pins σ Q) X.xe s
def MtR(X:Cx)(id:String)(r:V->List V->Hp->VK->Prop):Prop :=
 ∀(pins:List (Addr×Obj)) (s:Shared) (σ:St) (H:Hp) (x:V) (xs:List V) (v:Value) (us:List Value) (Q:VK),Inv X pins σ H s->aL x v->aw xs us->r x xs H Q ->
  wpAny (model X.prog X.w) X.A (call (.builtin id) (v::us)) (EP X pins σ Q) X.xe s
section
variable{X:Cx}{a b:Expr}{ta tb:TE}{pos:Pos}
theorem IxR.or(h:IxR X r)(h':IxR X r'):IxR X (λx y H Q=>r x y H Q\/r' x y H Q):=by
 intro value slice pins s σ H x y v u Q I rx ry q hs
 rcases q with q | q
 ·exact h value slice pins s σ H x y v u Q I rx ry q hs
 ·exact h' value slice pins s σ H x y v u Q I rx ry q hs
theorem pe_ix(hr:IxR X r)(ha:PE X a ta)(hb:PE X b tb)(hs:qY b):PE X (.Subscript a b pos) (tOp r ta tb):=by
 intro pins s σ H Q I h
 exact Subscript_ (binT ha hb I h λv u s2 x y H2 I2 rx ry q=>hr a b pins s2 σ H2 x y v u Q I2 rx ry q (hs _ _))
def rIxL(K:AA4):R2:=λx y H Q=>∃p xs i v,x=.ref p/\y=.int i/\SqL K H p xs/\atI xs i=some v/\Q v H
def rIxT(K:AA4):R2:=λx y H Q=>∃p xs i v,x=.ref p/\y=.int i/\SqT K H p xs/\atI xs i=some v/\Q v H
def rIxS:R2:=λx y H Q=>∃z i c,x=.str z/\y=.int i/\z.length<=sizeLine/\atI z.cps.toList i=some c/\Q (.str ⟨#[c]⟩) H
theorem BD:IxR X (rIxL X.K):=by
 intro value slice pins s σ H x y v u Q I rx ry h hs
 obtain⟨p,xs,i,z,rfl,rfl,hq,he,q⟩:=h
 cases rx
 obtain⟨t,rfl⟩:=ry
 obtain⟨its,r,pl,hz⟩:=I.list hq
 obtain⟨j,h1,h2,h3,h4,h5⟩:=qW he
 obtain⟨w,ew,rw'⟩:=r.get h2
 have hl:=r.length
 have hn:=lH
 have fin:EP X pins σ Q w s:=⟨z,H,I,rw',q⟩
 by_cases h0:0<=i
 ·have hj:i.toNat=j:=by
   rw[seqIndex_of h0 h5]at h1
   exact AAR h1
  exact item_listR pl.isList h0 (by lia) (by rw[hj];simpa using ew) fin hs
 ·have hj:(i+(its.toArray.size:Int)).toNat=j:=by
   rw[seqIndex_neg (by lia) h4]at h1
   rw[AAD,←hl]
   exact AAR h1
  exact subscriptTail_builtinR (x:=w) pl.isList.typeIs slot_list_getitem.lookup
   (wpAny_getItem_list_neg (Q:=λr s'=>r=w/\EP X pins σ Q r s') pl.isList (by lia) (by rw[AAD]<;>lia) (by lia) (by rw[hj];simpa using ew) ⟨rfl,fin⟩) hs
theorem Es:IxR X (rIxT X.K):=by
 intro value slice pins s σ H x y v u Q I rx ry h hs
 obtain⟨p,xs,i,z,rfl,rfl,hq,he,q⟩:=h
 cases rx
 obtain⟨t,rfl⟩:=ry
 obtain⟨its,r,pl,hz⟩:=I.tuple hq
 obtain⟨j,h1,h2,h3,h4,h5⟩:=qW he
 obtain⟨w,ew,rw'⟩:=r.get h2
 have hl:=r.length
 have hn:=lH
 have fin:EP X pins σ Q w s:=⟨z,H,I,rw',q⟩
 exact subscriptTail_builtinR (x:=w) pl.typeIs slot_tuple_getitem.lookup
  (getItem_tuple (j:=j) (Q:=λr s'=>r=w/\EP X pins σ Q r s') pl (by lia) (by lia) (by rw[AAD,←hl];exact h1) (by simpa using ew) ⟨rfl,fin⟩) hs
theorem Et:IxR X rIxS:=by
 intro value slice pins s σ H x y v u Q I rx ry h hs
 obtain⟨z,i,c,rfl,rfl,hz,he,q⟩:=h
 obtain⟨t,rfl⟩:=rx
 obtain⟨t',rfl⟩:=ry
 obtain⟨j,h1,h2,h3,h4,h5⟩:=qW he
 have hl:z.cps.toList.length=z.length:=by simp[Str.length]
 rw[hl]at h1 h4 h5
 have hn:=lH
 exact tail_any (typeIs_str s z t) slot_str_getitem.lookup (getItem_str (c:=c) (by
  have e1:decide (i < -(2 ^ 63:Int))=false:=decide_eq_false (by lia)
  have e2:decide (i ≥ 2 ^ 63)=false:=decide_eq_false (by lia)
  rw[e1,e2,Bool.or_false]) (by rw[h1];simpa using h2) ⟨.str ⟨#[c]⟩,H,I.tok _,⟨_,rfl⟩,q⟩) hs
def rIx(K:AA4):R2:=λx y H Q=>rIxL K x y H Q\/rIxT K x y H Q\/rIxS x y H Q
theorem Eu:IxR X (rIx X.K):=BD.or (Es.or Et)
theorem tX(its:List Value)(n j:Nat)(u:Value):ABA (·.setIfInBounds j u) { cls:=.type "list",data:=.seq its.toArray n }={ cls:=.type "list",data:=.seq (its.set j u).toArray n }:=by
 simp[ABA]
theorem Inv.lst(I:Inv X pins σ H s)(h:H p=some (.lst xs)) :
  ∃(its:List Value) (n:Nat),aw xs its/\s.heap.get? p=some { cls:=.type "list",data:=.seq its.toArray n }/\xs.length<=sizeLine:=by
 obtain⟨z,its,n,r,e⟩:=I.hok p _ h
 exact⟨its,n,r,e,z⟩
theorem Inv.lstUpd{pins:List (Addr×Obj)}{σ:St}{H:Hp}{s:Shared}{p:Addr}{xs ys:List V}{its its':List Value}{n n':Nat}{f:Obj->Obj}(I:Inv X pins σ H s)(h:H p=some (.lst xs))
  (ho:s.heap.get? p=some { cls:=.type "list",data:=.seq its.toArray n }) (hf:f { cls:=.type "list",data:=.seq its.toArray n }={ cls:=.type "list",data:=.seq its'.toArray n' }) (r:aw ys its') (hz:ys.length<=sizeLine) (t:Nat) :
  Inv X pins σ (upd H p (.lst ys)) { s with heap:=s.heap.update p f,toks:=t }:=by
 have e:(s.heap.update p f).get? p=some { cls:=.type "list",data:=.seq its'.toArray n' }:=by
  rw[AAe f ho (by rw[hf]<;>rfl),hf]
 refine I.write (x:=p) (e:=p) (by rw[h];trivial) (.inl rfl) (λb u hb q=>(ABo _ _ (ABC hb)).trans q) ⟨_,e⟩ ?_
 exact⟨hz,its',n',r,e⟩
def rSetL:V->V->V->Hp->(Hp->Prop)->Prop:=λo i v H Q=>∃p xs k j,o=.ref p/\i=.int k/\H p=some (.lst xs)/\ixN xs.length k=some j/\Q (upd H p (.lst (xs.set j v)))
theorem xY:PSet X rSetL:=by
 intro pins s σ H o i v ov iv u Q I ro ri rv h
 obtain⟨p,xs,k,j,rfl,rfl,hp,hj,q⟩:=h
 cases ro
 obtain⟨t,rfl⟩:=ri
 obtain⟨its,n,r,ho,hz⟩:=I.lst hp
 obtain⟨h1,h2,h3,h4⟩:=wR hj
 have hl:=r.length
 have hn:=lH
 have I':Inv X pins σ (upd H p (.lst (xs.set j v))) { s with heap:=s.heap.update p (ABA (·.setIfInBounds j u)) } :=
  I.lstUpd hp ho (tX its n j u) (r.set rv j) (by rw[AAw];exact hz) s.toks
 by_cases h0:0<=k
 ·have hk:k.toNat=j:=by
   rw[seqIndex_of h0 h4]at h1
   exact AAR h1
  exact PySem.W.ki_setAt ho h0 (by lia) (by rw[AAD,←hl];exact h4) (by rw[hk];exact⟨_,I',q⟩)
 ·have hk:(k+(its.toArray.size:Int)).toNat=j:=by
   rw[seqIndex_neg (by lia) h3]at h1
   rw[AAD,←hl]
   exact AAR h1
  exact PySem.W.ki_setBack ho (by lia) (by rw[AAD,←hl];exact h3) (by lia) (by rw[hk];exact⟨_,I',q⟩)
theorem oo(lo hi:Option Int)(n:Nat):(sliceBounds lo hi none n).1=((HT.sIx n 0 lo:Nat):Int)/\(sliceBounds lo hi none n).2.1=((HT.sIx n n hi:Nat):Int)/\(sliceBounds lo hi none n).2.2=1:=by
 refine⟨?_,?_,rfl⟩
 ·cases lo with
  | none=>simp[sliceBounds,HT.sIx]
  | some i =>
   simp only[sliceBounds,HT.sIx,Option.getD_none,show (1:Int) > 0 by decide,if_true]
   by_cases h:i<0
   ·simp only[h,if_true]<;>lia
   ·simp only[h,if_false]<;>lia
 ·cases hi with
  | none=>simp[sliceBounds,HT.sIx]
  | some i =>
   simp only[sliceBounds,HT.sIx,Option.getD_none,show (1:Int) > 0 by decide,if_true]
   by_cases h:i<0
   ·simp only[h,if_true]<;>lia
   ·simp only[h,if_false]<;>lia
theorem mf(its:List Value)(lo hi:Option Int):slicePick its.toArray lo hi none=((its.drop (HT.sIx its.length 0 lo)).take (HT.sIx its.length its.length hi-HT.sIx its.length 0 lo)).toArray:=by
 obtain⟨h1,h2,h3⟩:=oo lo hi its.toArray.size
 unfold slicePick
 rw[h1,h2,h3]
 simp only[sliceRange_one,pick_run,AAD]<;>rfl
def rSlL(K:AA4):V->Option Int->Option Int->Hp->VK->Prop:=λx lo hi H Q=>∃a xs,x=.ref a/\SqL K H a xs/\∀p,H p=none->Q (.ref p) (upd H p (.lst (Al xs lo hi)))
theorem AD:SlR X (rSlL X.K):=by
 intro pins s σ H x v vl vu lo hi sl Q I rx hs pl pu h
 obtain⟨a,xs,rfl,hx,q⟩:=h
 cases rx
 obtain⟨its,r,ht,hz⟩:=I.list hx
 have hlen:=r.length
 refine⟨"list",_,slot_list_getitem.lookup,ht.isList.typeIs,?_⟩
 refine wpAny_getItem_list_slice ht.isList hs pl pu .none (by simp) ?_ (by rw[AAD]<;>lia)
 rw[mf,←hlen]
 refine⟨.ref s.heap.objs.size,_,I.laid (t':=s.toks) (o:=.lst (Al xs lo hi)) (λb ob q=>AA3 _ q) (AA8 _) ?_,rfl,q _ (I.hok.fresh (AA8 _))⟩
 exact⟨AAy (ki xs lo hi) hz,_,0,(r.drop (HT.sIx xs.length 0 lo)).take (HT.sIx xs.length xs.length hi-HT.sIx xs.length 0 lo),AAC _ rfl⟩
theorem pI:fZ X (.builtin "len") (λxs H Q=>∃p ys,xs=[.ref p]/\(SqL X.K H p ys\/SqT X.K H p ys)/\Q (.int ys.length) H):=by
 intro pins s σ H xs us Q I r h
 obtain⟨p,ys,rfl,hq,q⟩:=h
 obtain⟨u,rfl,rx⟩:=Aw r
 cases rx
 have hn:=lH
 rcases hq with hq | hq
 ·obtain⟨its,r',pl,hz⟩:=I.list hq
  have hlen:=r'.length
  exact Calls.call_len_list pl.isList (by simp only[AAD]<;>lia) ⟨.int ys.length,H,I.tok _,⟨s.toks+1,by rw[AAD,hlen]⟩,q⟩
 ·obtain⟨its,r',pl,hz⟩:=I.tuple hq
  have hlen:=r'.length
  exact len_tuple pl (by simp only[AAD]<;>lia) ⟨.int ys.length,H,I.tok _,⟨s.toks+1,by rw[AAD,hlen]⟩,q⟩
theorem pH:fZ X (.builtin "len") (λxs H Q=>∃z,xs=[.str z]/\z.length<=sizeLine/\Q (.int z.length) H):=by
 intro pins s σ H xs us Q I r h
 obtain⟨z,rfl,hz,q⟩:=h
 obtain⟨u,rfl,t,rfl⟩:=Aw r
 have hn:=lH
 exact len_str (by lia) ⟨.int z.length,H,I.tok _,⟨_,rfl⟩,q⟩
theorem fZ.or(h:fZ X f r)(h':fZ X f r'):fZ X f (λxs H Q=>r xs H Q\/r' xs H Q):=by
 intro pins s σ H xs us Q I rs q
 rcases q with q | q
 ·exact h pins s σ H xs us Q I rs q
 ·exact h' pins s σ H xs us Q I rs q
theorem mZ:fZ X (.type "tuple") (λxs H Q=>∃p ys,xs=[.ref p]/\((SqL X.K H p ys/\∀l,H l=none->Q (.ref l) (upd H l (.tup ys)))\/(SqT X.K H p ys/\Q (.ref p) H))):=by
 intro pins s σ H xs us Q I r h
 obtain⟨p,ys,rfl,h⟩:=h
 obtain⟨u,rfl,rx⟩:=Aw r
 cases rx
 rcases h with⟨hq,q⟩|⟨hq,q⟩
 ·obtain⟨its,r',pl,hz⟩:=I.list hq
  have hlen:=r'.length
  refine call_tuple_list pl.isList (λh' kp=>?_) (by simp only[AAD]<;>lia)
  have I1:Inv X pins σ H { s with heap:=h' }:=I.kept (t':=s.toks) kp
  have I2:Inv X pins σ (upd H h'.objs.size (.tup ys)) { s with heap:=h'.push { cls:=.type "tuple",data:=.seq its.toArray } } :=
   I1.laid (t':=s.toks) (λb o e=>AA3 _ e) (AA8 _) (show cF X.prog X.w _ _ _ (.tup ys)from⟨hz,its,r',Ap.new _ _⟩)
  exact⟨.ref h'.objs.size,_,I2,rfl,q _ (I1.hok.fresh (AA8 _))⟩
 ·obtain⟨its,r',pl,hz⟩:=I.tuple hq
  exact call_tuple_same pl ⟨.ref p,H,I,rfl,q⟩
def tyV(K:AA4)(T:String)(x:V)(H:Hp):Prop:=match x with
 | .str _=>T = "str"
 | .int _=>T = "int"
 | .ref p=>(T = "list"/\∃xs,SqL K H p xs)\/(T = "tuple"/\∃o,K.lookup p=some o/\o.cls=.type "tuple"/\o.dict=none) \/
   (T = "dict"/\((∃kvs,H p=some (.dK kvs))\/∃kvs,H p=some (.dT kvs)))\/(T = "set"/\∃S n,H p=some (.set S n))
 | _=>False
theorem zt(I:Inv X pins σ H s)(r:aL x v)(ty:tyV X.K T x H) :
  s.TypeIs v T/\∀a,v=.ref a->∃ob,s.heap.get? a=some ob/\ob.dict=none:=by
 cases x with
 | str z =>
  obtain⟨t,rfl⟩:=r
  cases (show T = "str" from ty)
  exact⟨typeIs_str s z t,λ_ e=>nomatch e⟩
 | int i =>
  obtain⟨t,rfl⟩:=r
  cases (show T = "int" from ty)
  exact⟨typeIs_int s i t,λ_ e=>nomatch e⟩
 | ref p =>
  cases r
  rcases ty with⟨rfl,xs,hq⟩|⟨rfl,o,hk,hc,hd⟩|⟨rfl,hk⟩|⟨rfl,S,n,hk⟩
  ·obtain⟨its,_,pl,_⟩:=I.list hq
   refine⟨pl.isList.typeIs,λa e=>?_⟩
   cases e
   obtain⟨o,n,e,c,hd,_⟩:=pl
   exact⟨o,e,hd⟩
  ·refine⟨⟨o,I.kIn p o hk,hc⟩,λa e=>?_⟩
   cases e
   exact⟨o,I.kIn _ o hk,hd⟩
  ·have z:∃o,s.heap.get? p=some o/\o.ExactDict:=by
    rcases hk with⟨kvs,hk⟩|⟨kvs,hk⟩
    ·obtain⟨_,_,_,_,o,_,_,e,ex,_⟩:=I.hok p _ hk
     exact⟨o,e,ex⟩
    ·obtain⟨_,_,_,_,o,_,_,e,ex,_⟩:=I.hok p _ hk
     exact⟨o,e,ex⟩
   obtain⟨o,e,ex⟩:=z
   refine⟨⟨o,e,ex.1⟩,λa e2=>?_⟩
   cases e2
   exact⟨o,e,ex.2.1⟩
  ·obtain⟨o,_,_,_,e,ex,_⟩:=I.hok p _ hk
   refine⟨⟨o,e,ex.1⟩,λa e2=>?_⟩
   cases e2
   exact⟨o,e,ex.2.1⟩
 | _=>exact ACk ty
def tBM0(K:AA4)(T:String)(r:V->List V->Hp->VK->Prop)(to:TE):TE:=λσ H Q=>to σ H λx H1=>tyV K T x H1/\r x [] H1 Q
def tBM(K:AA4)(T:String)(r:V->List V->Hp->VK->Prop)(to:TE)(t:TA):TE:=λσ H Q=>to σ H λx H1=>tyV K T x H1/\t σ H1 λxs H2=>r x xs H2 Q
variable{o e:Expr}{es:List Expr}{to:TE}{t:TA}{name:Str}{apos cpos:Pos}{T id:String}{r:V->List V->Hp->VK->Prop}
theorem Ds(pa:PlainAttrs T)(slot:Slot T name id)(hty:typeOf (.builtin id)=pure (.type "method_descriptor"))(hm:MtR X id r)(ho:PE X o to)
  (hbase:attributeBase o name X.env (eval o X.env)=eval o X.env:=by rfl) (hline:(apos.endLine==cpos.line)=true:=by rfl):PE X (.Call (.Attribute o name apos) [] [] cpos) (tBM0 X.K T r to):=by
 intro pins s σ H Q I h
 refine ADR hbase hline (thn (ho pins s σ H _ I h) λv s1 ⟨x,H1,I1,r1,ty,q1⟩=>?_)
 obtain⟨h1,h2⟩:=zt I1 r1 ty
 exact⟨T,id,pa,slot,hty,h1,h2,ABp rfl (AE5 (hm pins s1 σ H1 x [] v [] Q I1 r1 .nil q1))⟩
theorem pe_bm(pa:PlainAttrs T)(slot:Slot T name id)(hty:typeOf (.builtin id)=pure (.type "method_descriptor"))(hm:MtR X id r)(ho:PE X o to)(ha:PA X (e::es) t)
  (hbase:attributeBase o name X.env (eval o X.env)=eval o X.env:=by rfl)
  (hfew:((backTo cpos (starEach (e::es) X.env)).all (λx=>!x.1)&&(backToKw cpos (keywordEach [] X.env)).all (λx=>x.1.isSome)
   && decide ((e::es).length+([]:List Keyword).length+(if ([]:List Keyword).isEmpty then 0 else 1)<30))=true:=by rfl)
  (hline:(apos.endLine==cpos.line)=true:=by rfl) (hs:starEach (e::es) X.env=(false,eval e X.env)::starEach es X.env:=by rfl) (hplain:(backTo cpos (starEach es X.env)).any (·.1)=false:=by rfl) :
  PE X (.Call (.Attribute o name apos) (e::es) [] cpos) (tBM X.K T r to t):=by
 intro pins s σ H Q I h
 refine ADf hbase hfew hline rfl (thn (ho pins s σ H _ I h) λv s1 ⟨x,H1,I1,r1,ty,q1⟩=>?_)
 obtain⟨h1,h2⟩:=zt I1 r1 ty
 refine⟨T,id,pa,slot,hty,h1,h2,?_⟩
 have hA:=ha cpos pins s1 σ H1 _ I1 q1
 rw[hs]at hA ⊢
 refine ABp (by show (false||(backTo cpos (starEach es X.env)).any (·.1))=false;rw[hplain]<;>rfl) (AE0 ?_)
 exact thn hA λus s2 ⟨vs,H2,I2,r2,q2⟩=>hm pins s2 σ H2 x vs v us Q I2 r1 r2 q2
/- xs.append(e),list.index on a module's tuple .. are MtR facts of 06m -/
end
end L2
namespace L2
open PySem PySem.Spec PyProof.Rows
def MtM(X:Cx)(id:String)(r:V->List V->Hp->VK->Prop):Prop :=
 ∀(pins:List (Addr×Obj)) (s:Shared) (σ:St) (H:Hp) (x:V) (xs:List V) (v:Value) (us:List Value) (Q:VK),Inv X pins σ H s->aL x v->aw xs us->r x xs H Q ->
  wpAny (model X.prog X.w) X.A (call (.builtin id) (v::us)) (EP X pins σ Q) X.xe s
theorem aw.one:∀{x:V}{us:List Value},aw [x] us->∃u,us=[u]/\aL x u
 | _,_,.cons r .nil=>⟨_,rfl,r⟩
theorem aw.two:∀{x y:V}{us:List Value},aw [x,y] us->∃u v,us=[u,v]/\aL x u/\aL y v
 | _,_,_,.cons r (.cons q .nil)=>⟨_,_,rfl,r,q⟩
theorem aw.zero:∀{us:List Value},aw [] us->us=[]
 | _,.nil=>rfl
theorem aw.dropLast(h:aw xs us):aw xs.dropLast us.dropLast:=by
 induction h with
 | nil=>exact .nil
 | cons r t ih =>
  cases t with
  | nil=>exact .nil
  | cons q t'=>exact .cons r ih
theorem ui{α:Type}(l:List α):l.eraseIdx (l.length-1)=l.dropLast:=by
 induction l with
 | nil=>rfl
 | cons a r ih =>
  cases r with
  | nil=>rfl
  | cons b r =>
   have e:(a::b::r).length-1=((b::r).length-1)+1:=by
    have h1:(a::b::r).length=r.length+2:=rfl
    have h2:(b::r).length=r.length+1:=rfl
    lia
   rw[e,List.eraseIdx_cons_succ,ih]
   all_goals rfl
section
variable{X:Cx}{pins:List (Addr×Obj)}{σ:St}{H:Hp}{s:Shared}{l b:Addr}{xs ys zs:List V}
theorem Inv.lset{its its':List Value}{n:Nat}{f:Array Value->Array Value}{t':Nat}(I:Inv X pins σ H s)(hH:H l=some (.lst xs))
  (e:s.heap.get? l=some { cls:=.type "list",data:=.seq its.toArray n }) (hf:f its.toArray=its'.toArray) (hv:aw ys its') (hz:ys.length<=sizeLine) :
  Inv X pins σ (upd H l (.lst ys)) { s with heap:=s.heap.update l (ABA f),toks:=t' }:=by
 have q:=PySem.IsL.update e f
 rw[hf]at q
 refine I.write (x:=l) (e:=l) (by rw[hH];exact trivial) (.inl rfl) (λb' u hb hu=>(ABo s.heap (ABA f) (ABC hb)).trans hu) ⟨_,q⟩ ?_
 exact⟨hz,its',_,hv,q⟩
theorem Inv.lnew(I:Inv X pins σ H s)(hv:aw ys its)(hz:ys.length<=sizeLine) :
  Inv X pins σ (upd H s.heap.objs.size (.lst ys)) { s with heap:=s.heap.push { cls:=.type "list",data:=.seq its.toArray },toks:=t' } :=
 I.laid (λ_ _ q=>AA3 _ q) (AA8 _) ⟨hz,its,0,hv,AAC _ rfl⟩
theorem Inv.fresh(I:Inv X pins σ H s):H s.heap.objs.size=none:=I.hok.fresh (AA8 _)
theorem Inv.lstM(I:Inv X pins σ H s)(hH:H l=some (.lst xs)):xs.length<=sizeLine/\∃(its:List Value) (n:Nat),aw xs its/\xs.length=its.length/\s.heap.get? l=some { cls:=.type "list",data:=.seq its.toArray n }:=by
 obtain⟨z,its,n,r,e⟩:=I.hok l _ hH
 exact⟨z,its,n,r,r.length,e⟩
theorem yr(h:n<=sizeLine):ADK n=false:=by
 unfold ADK
 exact decide_eq_false (by lia)
end
section
variable{X:Cx}
def AK:V->List V->Hp->VK->Prop:=λx vs H Q=>∃l xs y,x=.ref l/\vs=[y]/\H l=some (.lst xs)/\xs.length<sizeLine/\Q .non (upd H l (.lst (xs++[y])))
theorem wb:MtM X "list.append" AK:=by
 intro pins s σ H x vs v us Q I rx rv h
 obtain⟨l,xs,y,rfl,rfl,hH,hz,q⟩:=h
 cases rx
 obtain⟨u,rfl,ru⟩:=rv.one
 obtain⟨z,its,n,r,hl,e⟩:=I.lstM hH
 refine call_meets F.slot_list_append ⟨_,e,rfl⟩ F.entry_list_append (F.args_list_append_2 _ _) (PySem.list_append l its.toArray n u (by rw[AAD];lia)) ⟨e,?_⟩
 refine⟨.non,_,I.lset (its':=its++[u]) hH e (by simp) (r.append (.cons ru .nil)) ?_,rfl,q⟩
 rw[AAB,AAY]
 lia
def AJ:V->List V->Hp->VK->Prop:=λx vs H Q=>∃l b xs zs,x=.ref l/\vs=[.ref b]/\H l=some (.lst xs)/\H b=some (.lst zs)/\xs.length+zs.length<=sizeLine/\Q .non (upd H l (.lst (xs++zs)))
theorem wa:MtM X "list.extend" AJ:=by
 intro pins s σ H x vs v us Q I rx rv h
 obtain⟨l,b,xs,zs,rfl,rfl,hH,hB,hz,q⟩:=h
 cases rx
 obtain⟨u,rfl,ru⟩:=rv.one
 cases ru
 obtain⟨z,its,n,r,hl,e⟩:=I.lstM hH
 obtain⟨z2,its2,n2,r2,hl2,e2⟩:=I.lstM hB
 have hsz:its.toArray.size+its2.toArray.size<=sizeLine:=by rw[AAD,AAD];lia
 have hlong:¬(!its.toArray.isEmpty&&ADK (its.toArray.size+its2.toArray.size))=true:=by
  rw[yr hsz,AEJ]
  exact ABF
 refine call_meets F.slot_list_extend ⟨_,e,rfl⟩ F.entry_list_extend (F.args_list_extend_2 _ _)
  (AutoSeq1.list_extend_list_list_0 l its.toArray n b its2.toArray n2 hlong (by rw[AAD];lia) (by lia)) ⟨e,e2,?_⟩
 refine⟨.non,_,I.lset (its':=its++its2) hH e (by simp) (r.append r2) ?_,rfl,q⟩
 rw[AAB]
 lia
def rPop:V->List V->Hp->VK->Prop:=λx vs H Q=>∃l xs y,x=.ref l/\vs=[]/\H l=some (.lst xs)/\xs[xs.length-1]?=some y/\Q y (upd H l (.lst xs.dropLast))
theorem DV:MtM X "list.pop" rPop:=by
 intro pins s σ H x vs v us Q I rx rv h
 obtain⟨l,xs,y,rfl,rfl,hH,hy,q⟩:=h
 cases rx
 have hus:=rv.zero
 subst hus
 obtain⟨z,its,n,r,hl,e⟩:=I.lstM hH
 obtain⟨u,hu,ru⟩:=r.get hy
 have hy':its.toArray[its.toArray.size-1]?=some u:=by
  show its.toArray[its.length-1]?=some u
  rw[←AAQ,←hl]
  exact hu
 refine call_meets F.slot_list_pop ⟨_,e,rfl⟩ F.entry_list_pop (F.args_list_pop_1 _) (MeetsSeq.list_pop_last l its.toArray n u hy' (by rw[AAD];lia)) ⟨e,?_⟩
 refine⟨y,_,I.lset (its':=its.dropLast) hH e ?_ r.dropLast ?_,ru,q⟩
 ·show its.toArray.eraseIdxIfInBounds (its.toArray.size-1)=its.dropLast.toArray
  rw[AAD,List.eraseIdxIfInBounds_toArray,ui]
 ·rw[List.length_dropLast]
  lia
def rCat:R2:=λx y H Q=>∃l b xs zs,x=.ref l/\y=.ref b/\H l=some (.lst xs)/\H b=some (.lst zs)/\xs.length+zs.length<=sizeLine/\∀p,H p=none->Q (.ref p) (upd H p (.lst (xs++zs)))
theorem DB:OpR X (binaryOp .Add) rCat:=by
 intro pins s σ H x y v u Q I rx ry h
 obtain⟨l,b,xs,zs,rfl,rfl,hH,hB,hz,q⟩:=h
 cases rx
 cases ry
 obtain⟨z,its,n,r,hl,e⟩:=I.lstM hH
 obtain⟨z2,its2,n2,r2,hl2,e2⟩:=I.lstM hB
 refine PySem.P.add_list e e2 ?_ (by rw[AAD,AAD];lia)
 have ea:its.toArray++its2.toArray=(its++its2).toArray:=by simp
 rw[ea]
 exact⟨.ref _,_,I.lnew (t':=s.toks) (r.append r2) (by rw[AAB];lia),rfl,q _ I.fresh⟩
end
section
variable{prog:Program}{w:World}{A:Around}{E:Value->Shared->Prop}{s:Shared}
end
section
variable{X:Cx}
end
end L2
namespace Att
open PySem PySem.W PySem.Calls PyProof.Rows
theorem jY:∀(ns:List Int) (vs:List Value),WellAll P h vs (ns.map WData.int)->IntsAre vs ns:=by
 intro ns
 induction ns with
 | nil =>
  intro vs w
  rw[List.map_nil]at w
  cases w
  exact .nil
 | cons n ns ih =>
  intro vs w
  rw[AAi]at w
  cases w with
  | cons a b =>
   cases a
   exact .cons _ _ (ih _ b)
theorem vC{l:OpenLaw}{n:Nat}(hn:l.most=some n){P:Params}{h:Heap}{args:List WData}{vals:List Value}
  (hpre:l.row.toRowW.claim.pre args=true) (hwl:WellAll P h vals args) :
  ∃a vs ns,vals=[ABU a]/\args=[WData.list (ns.map WData.int)]/\h.get? a=some { cls:=.type "list",data:=.seq vs.toArray }/\IntsAre vs ns/\ns.length<=n:=by
 have hsh:WShape.hasAll [] args [.list .int]=true:=(pre_splitW hpre).1
 have hc:l.pre.holds [] { args:=args }=true:=(pre_splitW hpre).2
 obtain⟨d,r,rfl,h1,h2⟩:=hasAllW_cons hsh
 obtain rfl:=hasAllW_nil h2
 obtain⟨xs,rfl,h3⟩:=hasW_list h1
 obtain⟨ns,rfl⟩:=items_int h3
 have hlen:ns.length<=n:=by
  unfold OpenLaw.pre at hc
  have h4:(WTm.not (.lt (.lit (.int (n:Int))) (.len (.arg 0)))).holds [] { args:=[.list (ns.map .int)] }=true:=by
   have h4:=(holds_andW hc).1
   rw[hn]at h4
   exact h4
  have h5:=condW_of h4 (w_not (w_lt w_lit (w_len_list (w_arg rfl))))
  rw[AA6]at h5
  refine Nat.le_of_not_lt λq=>?_
  have q':(n:Int)<((ns.length:Nat):Int):=by lia
  first
   | (rw[decide_eq_true q']at h5;exact absurd h5 (by decide))
   | (simp at h5;lia)
 cases hwl with
 | cons w1 w2 =>
  cases w2
  cases w1 with
  | list ho hall=>exact⟨_,_,ns,rfl,rfl,ho,jY ns _ hall,hlen⟩
theorem vI(l:OpenLaw)(args:List WData):l.row.toRowW.claim.post args (.bool true) args=true :=
 postW_of (r:=l.row.toRowW) (X:=(true==true))
  (show WShape.has [] (.bool true) .bool=true by first | rfl | decide | simp[WShape.has,WShape.arms,WShape.armsAll])
  (show (WTm.eq .res (.lit (.bool true))).value [] { args:=args,res:=some (.bool true),after:=args }=some (.bool (true==true))from w_eq_bool (w_res rfl) w_lit) rfl
theorem attach_call{l:OpenLaw}{n:Nat}{q:Program}{loose:List Str}{XP:(Str->Option Value)->Heap->Prop}{YP:World->Heap->Prop}{d:DefRec}
  (hn:l.most=some n) (hdf:d.params.defaults=[])
  (call:∀(w:World) (s₀ s₁:Shared) (mg mb:Str->Option Value) (fa:Addr) (o:Obj) (pm cd doc:Value) (a:Addr) (vs:List Value) (ns:List Int),
   Ground q loose [] XP w s₀ mg mb s₁.heap->YP w s₁.heap ->
   s₁.heap.get? fa=some o->o.data=.func (docDef d.name d.params d.body d.scope pm cd doc)->s₁.heap.CodeRec cd d.name->mg d.name=some (.ref fa) ->
   s₁.heap.get? a=some { cls:=.type "list",data:=.seq vs.toArray }->IntsAre vs ns->ns.length<=n->s₁.gens = #[] ->
   codeAny (model l.prog w) callerA (.call (.ref fa) ⟨[.ref a],[]⟩) (λr s'=>r=.ok (.ret (.bool true))/\OldK s₁.heap s'.heap/\s'.os=s₁.os/\AllBare s'.gens) s₁) :
  WalkO q loose XP YP l.row.toRowW d [] (λf vs=>PySem.call f vs):=by
 intro w s₀ s₁ mg mb G Y fa o pm cd doc dV kV ho hd hcd hD hmg hg args vals as hpre hlay hrd hwl hlo
 obtain rfl:dV=.none:=Dflts.none hD hdf
 obtain rfl:kV=.none:=Dflts.noKw hD
 obtain⟨a,vs,ns,rfl,rfl,hobj,hints,hlen⟩:=vC hn hpre hwl
 refine enter_call (ADH (call w s₀ s₁ mg mb fa o pm cd doc a vs ns G Y ho (fd_plain hd) hcd hmg hobj hints hlen hg) λr s' hq=>?_)
 obtain⟨rfl,h2,h3,h4⟩:=hq
 exact⟨.inl ⟨.bool true,.bool true,[],rfl,λ_=>rfl,.bool true,vI l _,λ_=>⟨ACy,λ_ hm=>(nomatch hm)⟩⟩,h2,h3,h4⟩
section
variable{prog:Program}{w:World}{A:Around}{E:Value->Shared->Prop}{s:Shared}{K:Frag}
def noObjs(h:Heap):Heap:={ h with objs:=#[] }
theorem noObjs_get(h:Heap)(b:Addr):(noObjs h).get? b=none:=by
 cases e:(noObjs h).get? b with
 | none=>rfl
 | some o=>exact absurd (AAH e) (ABd _)
def ledger(h:Heap)(L d:Addr):List (Addr×Obj):=(AAv h.objs.size).filterMap λa=>if a=L\/a=d then none else(h.get? a).map λo=>(a,o)
theorem mem_ledger:(a,o)∈ledger h L d↔a≠L/\a≠d/\h.get? a=some o:=by
 unfold ledger
 rw[ADN]
 constructor
 ·rintro⟨b,_,e⟩
  split at e
  ·cases e
  ·rename_i hb
   obtain⟨o',ho,e'⟩:=ABT.mp e
   cases e'
   exact⟨λq=>hb (.inl q),λq=>hb (.inr q),ho⟩
 ·rintro⟨n1,n2,ho⟩
  refine⟨a,AB1.mpr (AAH ho),?_⟩
  rw[if_neg (show ¬(a=L\/a=d)from λq=>q.elim n1 n2),ho]<;>rfl
theorem news_ledger(hne:d≠L)(ho:h.get? d=some od):News (noObjs h) L h ([]++(d,od)::ledger h L d):=by
 rintro⟨a,o⟩ hp
 rcases AAN.mp hp with e | hp
 ·cases e
  exact⟨ho,hne,noObjs_get _ _⟩
 ·obtain⟨n1,n2,e⟩:=mem_ledger.mp hp
  exact⟨e,n1,noObjs_get _ _⟩
theorem fr_all(n:h.Ns L m):Fr (noObjs h) L h m :=
 ⟨n,λb o e=>(by rw[noObjs_get]at e;cases e),AAS _⟩
end
end Att
namespace L2
open PySem PySem.Spec PyProof.Rows
theorem nr:∀{vs:List Value}{ns:List Int},IntsAre vs ns->aw (ns.map V.int) vs
 | _,_,.nil=>.nil
 | _,_,.cons n t h=>.cons ⟨t,rfl⟩ (nr h)
end L2
namespace L2
open PySem PySem.Spec PyProof.Rows
abbrev KOf{K:AA4}{h:Heap}(_:K.In h):AA4:=K
end L2
namespace L2
open PySem PySem.Spec PyProof.Rows
def fX(s:Stmt):Arguments:=match s with
 | .FunctionDef _ a _ _ _ _ _ _ _ _=>a
 | _=>{ posonlyargs:=[],args:=[],vararg:=none,kwonlyargs:=[],kw_defaults:=[],kwarg:=none,defaults:=[] }
def bw(s:Stmt):List Stmt:=match s with
 | .FunctionDef _ _ b _ _ _ _ _ _ _=>b
 | _=>[]
def ao(s:Stmt):Scope:=match s with
 | .FunctionDef _ _ _ _ _ _ sc _ _ _=>sc
 | _=>{ kind:=.function,names:=[],isGenerator:=false,isCoroutine:=false }
abbrev CX0:CXT:=λ_ _ _ _ _ _=>False
abbrev E0:XK:=λ_ _ _=>False
theorem pass0:xG CX0 X E0:=λ_ _ _ _ _ _ _ h=>h.elim
structure Fun(K:AA4)(x qual:Str)(st:Stmt)(f:Addr)(fd:FuncData):Prop where
 ex:∃(oc:Value) (od:Option Addr) (kV doc pm:Value) (an:Option Addr) (cdv ct:Value) (osl:Array (Option Value)),
  fd=ACb x qual (fX st) (bw st) (ao st) .none kV doc pm an cdv ct/\K.lookup f=some ⟨oc,od,.func fd,osl⟩/\AEI K cdv qual=true
 kp:ACS K (.ref f)=true
section
variable{P:Program}{w:World}{K:AA4}{mg:Str->Option Value}{base:Heap}
theorem Fun.ok{x qual:Str}{st:Stmt}{f:Addr}{fd:FuncData}{N ps:List Str}{k:Nat}{sp:Sp}(F:Fun K x qual st f fd)(S:FnScope N ps (ao st))(len:∀vs H Q E,sp vs H Q E->vs.length=ps.length)
  (hbody:∀(cdv:Value) (A:Around) (outer:List Env) (s:Shared) (H:Hp) (vs:List V) (Q:VK) (E:XK),Room k (A.deeper (envOfC qual (ao st) s.heap.objs.size f cdv))->sp vs H Q E ->
   ∃t,PSs (pF CX0 P w K mg base N qual (ao st) f cdv A outer s H E).nox (bw st) t/\t { nx:=λ_ H'=>Q .non H',rt:=Q } (start N vs) H):FnOk P w K mg base CX0 (k+1) f fd ps sp:=by
 obtain⟨oc,od,kV,doc,pm,an,cdv,ct,osl,rfl,lk,hcd⟩:=F.ex
 refine EI lk hcd S len λA outer s H vs Q E hr hsp=>?_
 obtain⟨t,h,q⟩:=hbody cdv A outer s H vs Q E hr hsp
 exact⟨t,h.nox,q⟩
theorem Fun.binds{x qual:Str}{st:Stmt}{f:Addr}{fd:FuncData}{ps:List Str}(F:Fun K x qual st f fd)
  (h:∀(kV doc pm:Value) (an:Option Addr) (cdv ct:Value) (us:List Value),us.length=ps.length->bindArgs (ACb x qual (fX st) (bw st) (ao st) .none kV doc pm an cdv ct) ⟨us,[]⟩=pure (ps.zip us)):pS K fd ps []:=by
 obtain⟨oc,od,kV,doc,pm,an,cdv,ct,osl,rfl,lk,hcd⟩:=F.ex
 exact .all (h kV doc pm an cdv ct)
theorem EG{x qual:Str}{st:Stmt}{f:Addr}{oc:Value}{od an:Option Addr}{osl:Array (Option Value)}{kV doc pm cdv ct:Value}(l:K.lookup f=some ⟨oc,od,.func (ACb x qual (fX st) (bw st) (ao st) .none kV doc pm an cdv ct),osl⟩)
  (c:AEI K cdv qual=true) (k:ACS K (.ref f)=true):Fun K x qual st f (ACb x qual (fX st) (bw st) (ao st) .none kV doc pm an cdv ct):=⟨⟨oc,od,kV,doc,pm,an,cdv,ct,osl,rfl,l,c⟩,k⟩
end
theorem aE(h:n<=1000):n<sizeLine:=Nat.lt_of_le_of_lt h (by decide)
section
variable{X:Cx}
theorem pv(i:Nat)(hN:X.N[i]?=some x:=by rfl)(hv:Vis X.env.scope x:=by first | exact Or.inl rfl | exact Or.inr (Or.inl rfl) | exact Or.inr (Or.inr rfl))(hd:(x==("__debug__":Str))=false:=by decide)
  (hcd:(x==("__classdict__":Str))=false:=by decide):PE X (.Name x pos) (tVar i):=zC hN hv hd hcd
end
theorem cD{A B:Prop}(h:B):if false=true then A else B:=by
 rw[if_neg ABF]
 exact h
theorem da{A B:Prop}(h:A):if true=true then A else B:=by
 rw[if_pos rfl]
 exact h
end L2
namespace L2
open PySem PySem.Spec PyProof.Rows
section
variable{κ:Type}[DecidableEq κ]
def putK(kvs:List (κ×V))(k:κ)(v:V):List (κ×V) :=
 if (kvs.any λkv=>decide (kv.1=k))=true then kvs.map (λkv=>if kv.1=k then(kv.1,v)else kv)else kvs++[(k,v)]
theorem KV.any(r:KV kvs vs)(k:κ):(kvs.any λkv=>decide (kv.1=k))=vs.any λkv=>decide (kv.1=k):=by
 unfold KV at r
 induction r with
 | nil=>rfl
 | cons h t ih=>rw[List.any_cons,List.any_cons,ih,h.1]
theorem KV.repl(r:KV kvs vs)(k:κ)(ry:aL y u) :
  KV (kvs.map λkv=>if kv.1=k then(kv.1,y)else kv) (vs.map λkv=>if kv.1=k then(kv.1,u)else kv):=by
 unfold KV at r ⊢
 induction r with
 | nil=>exact .nil
 | @cons p q ps qs h t ih =>
  rw[AAi,AAi]
  refine .cons ?_ ih
  obtain⟨h1,h2⟩:=h
  by_cases e:p.1=k
  ·rw[if_pos e,if_pos (h1.symm.trans e)];exact⟨h1,ry⟩
  ·rw[if_neg e,if_neg (λz=>e (h1.trans z))];exact⟨h1,h2⟩
theorem KV.put(r:KV kvs vs)(k:κ)(ry:aL y u):KV (putK kvs k y) (stored vs k u):=by
 unfold putK stored
 rw[r.any k]
 by_cases e:(vs.any λkv=>decide (kv.1=k))=true
 ·rw[if_pos e,if_pos e];exact r.repl k ry
 ·rw[if_neg e,if_neg e];exact Paired.snoc r ⟨rfl,ry⟩
end
section
variable{P:Program}{w:World}{H:Hp}{h:Heap}{a:Addr}
end
section
variable{X:Cx}{pins:List (Addr×Obj)}{σ:St}{H:Hp}{s:Shared}{a:Addr}{y v:V}{u r:Value}{o:Option V}{A:Around}{E:Value->Shared->Prop}
theorem Inv.big(I:Inv X pins σ H s):sysModules<s.heap.objs.size:=by
 have h:mainGlobals<s.heap.objs.size:=(I.mod.glob.keeps I.bk).lt
 exact Nat.lt_trans (by decide) h
theorem xq(I:Inv X pins σ H s)(mu:Mut (H a))(hs:ABz a s.heap h')(he:∃q,h'.get? a=some q)(new:cF X.prog X.w (upd H a ob) h' a ob) :
  Inv X pins σ (upd H a ob) { s with heap:=h',toks:=t' } :=
 I.write (x:=a) (e:=a) mu (.inl rfl) (λb q hb z=>(hs.2 b hb).trans z) he new
end
section
variable{X:Cx}{pins:List (Addr×Obj)}{σ:St}{H:Hp}{s:Shared}{a:Addr}{kvs:List (Key×V)}{k:Key}{u:Value}{A:Around}{E:Value->Shared->Prop}
end
def NoSl(i:Expr):Prop:=∀ov iv,subscripted i false ov iv=operate [ov,iv] (getItem ov iv)
theorem Ay{prog:Program}{w:World}{A:Around}{E:Value->Shared->Prop}{s:Shared}{env:Env}{value slice:Expr}{pos:Pos}{T id:String}{Q:Value->Shared->Prop}
  (hl:typeLookup (.type T) "__getitem__" = pure (some (.builtin id))) (hs:NoSl slice)
  (h:wpAny (model prog w) A (eval value env) (λo s₁=>wpAny (model prog w) A (eval slice env) (λi s₂=>s₂.TypeIs o T/\wpAny (model prog w) A (getItem o i) Q E s₂) E s₁) E s) :
  wpAny (model prog w) A (eval (.Subscript value slice pos) env) Q E s:=by
 refine Subscript_ (AB7 h (λo s₁ h₁=>AB7 h₁ (λi s₂ h₂=>?_) λ_ _ x=>x) λ_ _ x=>x)
 obtain⟨hT,h₂⟩:=h₂
 unfold subscriptTail
 refine AA0 ?_
 rw[getitemInPython_of_ne hT.not_modules]
 refine AA0 (AC0 hT hl ?_)
 have fin:wpAny (model prog w) A (subscripted slice false o i) (λr s₃=>wpAny (model prog w) A (letTemporaryGo value o r >>= λ_=>pure r) Q E s₃) E s₂:=by
  rw[hs o i]
  exact wpAny_operating (AB7 h₂ (λr s₃ h₃=>AA0 (wpAny_letTemporaryGo (AA2 h₃))) λ_ _ x=>x)
 first
  | exact AA2 (AA0 fin)
  | exact AA0 (AA2 (AA0 fin))
  | exact AA0 fin
section
variable{X:Cx}{o i e value:Expr}{pos pos' tpos:Pos}{td ty tv:TE}
end
section
variable{X:Cx}{pos:Pos}
end
end L2
namespace DL
open PySem
theorem fY(env:Env):∀(names:List (Str×NameKind)) (acc:List (Str×Addr)),
  (∀p∈names,p.2=ABH->∃c,env.cells.lookup p.1=some c) ->
  ∃cl,(forIn (m:=Sem) names acc λ(p:Str×NameKind) (r:List (Str×Addr)) =>
    if (p.2==ABH)=true then(do let a ←cellOf env p.1;pure (AE6 ((p.1,a)::r)))else pure (AE6 r))=pure cl /\
   (∀z c,cl.lookup z=some c->acc.lookup z=some c\/env.cells.lookup z=some c) /\
   (∀z c,acc.lookup z=some c->∃c',cl.lookup z=some c') /\
   (∀p∈names,p.2=ABH->∃c,cl.lookup p.1=some c)
 | [],acc,_=>⟨acc,rfl,λ_ _ h=>.inl h,λz c h=>⟨c,h⟩,λ_ h=>nomatch h⟩
 | (n,k)::aI,acc,hyp=>by
  by_cases hk:k=ABH
  ·subst hk
   obtain⟨c0,hc0⟩:=hyp (n,.free) AAI rfl
   obtain⟨cl,e,h1,h2,h3⟩:=fY env aI ((n,c0)::acc) λp hp=>hyp p (AAA _ hp)
   have ce:cellOf env n=pure c0:=by unfold cellOf;rw[hc0]
   have own:∃c',cl.lookup n=some c':=h2 n c0 (by simp[AC6])
   refine⟨cl,?_,λz c hz=>?_,λz c hz=>?_,λp hp hf=>?_⟩
   ·rw[List.forIn_cons]
    simp only[beq_self_eq_true,if_true,ce,pure_bind]
    exact e
   ·rcases h1 z c hz with q | q
    ·rw[AC6]at q
     by_cases hz':(z==n)=true
     ·rw[hz']at q
      have:z=n:=by simpa using hz'
      subst this
      cases q
      exact .inr hc0
     ·have hz'':(z==n)=false:=by simpa using hz'
      rw[hz'']at q
      exact .inl q
    ·exact .inr q
   ·by_cases hz':z=n
    ·subst hz';exact own
    ·refine h2 z c ?_
     rw[AC6]
     have hz'':(z==n)=false:=by simpa using hz'
     rw[hz'']
     exact hz
   ·rcases AAN.mp hp with rfl | hp
    ·exact own
    ·exact h3 p hp hf
  ·have hb:(k==ABH)=false:=by simpa using hk
   obtain⟨cl,e,h1,h2,h3⟩:=fY env aI acc λp hp=>hyp p (AAA _ hp)
   refine⟨cl,?_,h1,h2,λp hp hf=>?_⟩
   ·rw[List.forIn_cons]
    simp only[hb,AAE,if_false,pure_bind]
    exact e
   ·rcases AAN.mp hp with rfl | hp
    ·exact absurd hf hk
    ·exact h3 p hp hf
theorem iN(hyp:∀p∈scope.names,p.2=ABH->∃c,env.cells.lookup p.1=some c) :
  ∃cl,closureFor scope env=pure cl/\(∀z c,cl.lookup z=some c->env.cells.lookup z=some c)/\(∀p∈scope.names,p.2=ABH->∃c,cl.lookup p.1=some c):=by
 obtain⟨cl,e,h1,h2,h3⟩:=fY env scope.names [] hyp
 refine⟨cl,?_,λz c hz=>?_,h3⟩
 ·unfold closureFor
  simp only[bind_pure]
  exact e
 ·rcases h1 z c hz with q | q
  ·simp at q
  ·exact q
theorem eG{env:Env}:∀{names:List (Str×NameKind)}{x:Str}{k:NameKind},
  (names.map λ(p:Str×NameKind)=>if (p.2==ABH&&env.scope.kind==.function&&env.kindOf p.1==some .cell)=true then(p.1,ACe)else(p.1,p.2)).lookup x=some k ->
   (names.lookup x=some k\/(k=ACe/\names.lookup x=some .free))
 | [],_,_,h=>by simp at h
 | (n,j)::aI,x,k,h=>by
  have ih:=@eG env aI x k
  rw[AAi,AC6]at h
  by_cases hx:(x==n)=true
  ·have hl:List.lookup x ((n,j)::aI)=some j:=by rw[AC6,hx]
   rw[hl]
   by_cases hc:(j==ABH&&env.scope.kind==.function&&env.kindOf n==some .cell)=true
   ·simp only[hc,if_true,hx]at h
    cases h
    have:j=ABH:=by
     simp only[AAV]at hc
     simpa using hc.1.1
    exact .inr ⟨rfl,by rw[this]⟩
   ·simp only[hc,AAE,if_false,hx]at h
    exact .inl h
  ·have hx':(x==n)=false:=by simpa using hx
   have hl:List.lookup x ((n,j)::aI)=List.lookup x aI:=by rw[AC6,hx']
   rw[hl]
   refine ih ?_
   by_cases hc:(j==ABH&&env.scope.kind==.function&&env.kindOf n==some .cell)=true
   ·simp only[hc,if_true,hx']at h
    exact h
   ·simp only[hc,AAE,if_false,hx']at h
    exact h
section
variable{prog:Program}{w:World}{A:Around}{R:Result->Shared->Prop}{s:Shared}
theorem ma(ifs:List Expr)(env:Env):compTests ifs env =
  (forIn ifs true λc r=>if r=true then do let ok ←isTrue c env (eval c env);pure (AE6 ok)else pure (AE6 r)):=by
 unfold compTests
 simp only[bind_pure]
theorem ur(J:Nat->Shared->Prop)(ne:Value->Shared->Prop)
  (hne:∀e s',ne e s'->notedBy (model prog w) A env (λe s'=>R (.error e) s') e s')
  (turn:∀n s,J n s->wpAny (model prog w) A (pyNext it) (λr s1=>match r with
   | none=>R (.ok .next) s1
   | some v=>wpAny (model prog w) A (letOwnedTupleGo target it v) (λ_ s2=>wpAny (model prog w) A (assign target env v) (λ_ s3 =>
     wpAny (model prog w) A (compTests ifs env) (λok s4 =>
      if ok=true then wpAny (model prog w) A (eval elt env) (λy s5=>wpAny (model prog w) A (call (.builtin "list.append") [acc,y]) (λ_ s6=>∃m,m<n/\J m s6) ne s5) ne s4
      else ∃m,m<n/\J m s4) ne s3) ne s2) ne s1) ne s)
  (n:Nat) (h:J n s):codeAny (model prog w) A (.compLoop (.ListComp elt [⟨target,iter,ifs,0⟩] scope pos) 0 it acc env) R s:=by
 refine codeAny_loop rfl J (λn s hJ=>?_) n h
 show wpAny _ A ((compTurn (.ListComp elt [⟨target,iter,ifs,0⟩] scope pos) 0 it acc env).onRaise (λx=>do noteFrame x env;theTreesLotGoes x)) _ _ s
 refine wpAny_noted ?_
 rw[compTurn_list]
 refine AA0 (wpAny_standAt (AA0 (AB7 (turn n s hJ) (λr s1 h1=>?_) hne)))
 cases r with
 | none=>exact AA2 h1
 | some v =>
  refine AA0 (AB7 h1 (λ_ s2 h2=>?_) hne)
  refine AA0 (AB7 h2 (λ_ s3 h3=>?_) hne)
  rw[ma]at h3
  refine AA0 (AB7 h3 (λok s4 h4=>?_) hne)
  cases ok with
  | false=>exact AA2 ⟨rfl,h4⟩
  | true =>
   exact AA0 (AA0 (AB7 h4 (λy s5 h5=>AA0 (AB7 h5 (λ_ s6 h6=>AA2 (AA2 ⟨rfl,h6⟩)) hne)) hne))
end
end DL
namespace L2
open PySem PySem.Spec PyProof.Rows DL
theorem iH{env:Env}:∀{names:List (Str×NameKind)}{x:Str},names.lookup x=some .free ->
  ((names.map λ(p:Str×NameKind)=>if (p.2==ABH&&env.scope.kind==.function&&env.kindOf p.1==some .cell)=true then(p.1,ACe)else(p.1,p.2)).lookup x=some .cell \/
   (names.map λ(p:Str×NameKind)=>if (p.2==ABH&&env.scope.kind==.function&&env.kindOf p.1==some .cell)=true then(p.1,ACe)else(p.1,p.2)).lookup x=some .free)
 | [],_,h=>by simp at h
 | (n,j)::aI,x,h=>by
  have ih:=@iH env aI x
  rw[AAi,AC6]
  rw[AC6]at h
  by_cases hc:(j==ABH&&env.scope.kind==.function&&env.kindOf n==some .cell)=true
  ·by_cases hx:(x==n)=true
   ·simp[hc,hx]
   ·have hx':(x==n)=false:=by simpa using hx
    rw[hx']at h
    simp only[hc,if_true,hx']
    exact ih h
  ·by_cases hx:(x==n)=true
   ·rw[hx]at h
    cases h
    right
    simp only[hc,AAE,if_false,hx]
   ·have hx':(x==n)=false:=by simpa using hx
    rw[hx']at h
    simp only[hc,AAE,if_false,hx']
    exact ih h
def blk(X:Cx)(N':List Str)(scope:Scope)(cl:List (Str×Addr))(s₀:Shared)(H₀:Hp)(ex:List Addr):Cx :=
 { X with N:=N',s₀:=s₀,H₀:=H₀,env:=compEnvC scope cl s₀.heap.objs.size X.env,outer:=X.stack,ex:=ex,fn:=λx=>scope.names.lookup x==some .cell,pn:=[],xe:=λ_ _=>False }
structure BlkSc(X:Cx)(N':List Str)(nt:Nat)(js:List Nat)(scope:Scope):Prop where
 kind:scope.kind=.function
 nocell:∀y∈scope.names,y.2≠.cell
 loc:∀y∈scope.names,y.2=.local->scope.names.lookup y.1=some .local
 free:∀y∈scope.names,y.2=.free->(X.env.kindOf y.1=some .cell\/X.env.kindOf y.1=some .free)
 len:N'.length=nt+js.length
 fr:∀(k j:Nat),js[k]?=some j->∃x,N'[nt+k]?=some x/\X.N[j]?=some x/\scope.names.lookup x=some .free/\(X.env.kindOf x=some .cell\/X.env.kindOf x=some .free)
def bst(nt:Nat)(js:List Nat)(σ:St):St:=ADr nt none++js.map λj=>(σ[j]?).join
theorem xA(nt:Nat)(js:List Nat)(σ:St):(bst nt js σ).length=nt+js.length:=by simp[bst]
theorem Ci(h:(bst nt js σ)[i]?=some (some v)):∃k j,i=nt+k/\js[k]?=some j/\σ[j]?=some (some v):=by
 unfold bst at h
 by_cases hi:i<nt
 ·rw[AAP (by simpa using hi),ACd]at h
  simp[hi]at h
 ·rw[AAg (by simpa using ACz.mp hi),ACt,AAT]at h
  cases e:js[i-nt]? with
  | none=>rw[e]at h;cases h
  | some j =>
   rw[e]at h
   refine⟨i-nt,j,by lia,e,?_⟩
   have h':(σ[j]?).join=some v:=by simpa using h
   cases q:σ[j]? with
   | none=>rw[q]at h';cases h'
   | some o=>rw[q]at h';exact congrArg some h'
def PTs(X:Cx)(ifs:List Expr)(t:TT):Prop :=
 ∀(pins:List (Addr×Obj)) (s:Shared) (σ:St) (H:Hp) (Q:Bool->Hp->Prop),Inv X pins σ H s->t σ H Q->wpAny (model X.prog X.w) X.A (compTests ifs X.env) (TP X pins σ Q) X.xe s
def ttNil:TT:=λ_ H Q=>Q true H
theorem AO:PTs X [] ttNil:=λpins s σ H Q I h=>by
 rw[ma]
 exact wpAny_tests_nil ⟨H,I,h⟩
theorem AN(h:PT X c t):PTs X [c] t:=λpins s σ H Q I hq=>by
 rw[ma]
 exact wpAny_tests_one (h pins s σ H Q I hq)
def tLC(nt:Nat)(js:List Nat)(wi:TI)(g:TG)(tt:TT)(te:TE):TE:=λσ H Q=>wi σ H λJ H1=>∃W:Nat->Nat->List V->St->Hp->Prop,(∃m,W 0 m [] (bst nt js σ) H1) /\
 ∀i m vs τ H,W i m vs τ H->(J.stop i H/\∀p,H p=none->Q (.ref p) (upd H p (.lst vs))) \/
  (J.go i H/\∀x H',J.yld i H x H'->g x τ H' λτ2 H2=>tt τ2 H2 λb H3=>if b=true then te τ2 H3 λy H4=>vs.length<sizeLine/\∃m',m' < m/\W (i+1) m' (vs++[y]) τ2 H4 else ∃m',m' < m/\W (i+1) m' vs τ2 H3)
abbrev cb(its:List Value)(k:Nat):Obj:={ cls:=.type "list",data:=.seq its.toArray k }
section
variable{X:Cx}{pins:List (Addr×Obj)}{σ:St}{H:Hp}{s:Shared}
theorem Inv.blkOk(B:BlkSc X N' nt js scope)(I:Inv X pins σ H s)
  (hcl1:∀z c,cl.lookup z=some c->X.env.cells.lookup z=some c) (hcl2:∀p∈scope.names,p.2=ABH->∃c,cl.lookup p.1=some c) (hf:∀b∈fp,uA X pins H b) (hfs:∀b∈fp,b<s.heap.objs.size) :
  (blk X N' scope cl { s with heap:=s.heap.push ob } H (s.heap.objs.size::fp)).Ok:=by
 have J:Inv X pins σ H { s with heap:=s.heap.push ob }:=I.kept (t':=s.toks) λb o e=>AA3 _ e
 have ltc:∀z c,cl.lookup z=some c->c<s.heap.objs.size:=λz c e=>by
  obtain⟨v,q⟩:=I.cell z c (hcl1 z c e)
  exact q.lt
 have hC:(s.heap.push ob).objs.size=s.heap.objs.size+1:=ABR ..
 refine⟨I.ok.mod,B.kind,I.ok.glob,I.ok.blt,AA8 _,λy z c h1 h2=>I.ok.inj y z c (hcl1 y c h1) (hcl1 z c h2),λy hy=>?_,λy c h=>?_,I.ok.hd,I.ok.frames,.inl rfl,λb hb=>?_,λb o e=>?_,?_,λb o e hb=>?_,λb hb=>?_,J.stack,I.stkFree⟩
 ·have key:scope.names.lookup y=some .free:=by
   rcases hy with hy | hy
   ·rcases eG (env:=X.env) (names:=scope.names) (x:=y) (k:=.cell) hy with q | ⟨_,q⟩
    ·exact absurd rfl (B.nocell _ (ABO q))
    ·exact q
   ·rcases eG (env:=X.env) (names:=scope.names) (x:=y) (k:=.free) hy with q | ⟨q,_⟩
    ·exact q
    ·cases q
  exact hcl2 (y,.free) (ABO key) rfl
 ·exact absurd rfl (B.nocell _ (ABO (beq_iff_eq.mp (show (scope.names.lookup y==some ACe)=true from h))))
 ·show b≠(s.heap.push ob).objs.size/\∀x c,cl.lookup x=some c->c≠b
  rw[hC]
  rcases AAN.mp hb with rfl | hb
  ·exact⟨AAM (AAz _),λx c e=>AAM (ltc x c e)⟩
  ·exact⟨AAM (ABs (hfs b hb)),λx c e=>(hf b hb).2.2.2.2.1 x c (hcl1 x c e)⟩
 ·exact⟨AA3 _ (I.bs b o e).1,(I.bs b o e).2⟩
 ·show X.base.objs.size<=(s.heap.push ob).objs.size
  rw[hC]
  exact Nat.le_succ_of_le (AAy I.ok.bsz I.sz)
 ·rcases AAN.mp hb with rfl | hb
  ·exact absurd (AAH (I.bs _ o e).1) (AAn _)
  ·rcases(hf b hb).2.2.2.1 with z | z
   ·exact I.ok.noex b o e z
   ·exact absurd (AAZ (AAH (I.ok.bs b o e).1) z) (AAn _)
 ·intro hz
  have hz':=I.stkSub b hz
  rcases AAN.mp hb with rfl | hb
  ·rcases AAN.mp hz' with q | q
   ·exact absurd I.lt (by rw[←q];exact AAn _)
   ·exact I.nofs (AA8 _) q
  ·rcases AAN.mp hz' with q | q
   ·exact(hf b hb).2.1 q
   ·exact(hf b hb).2.2.1 q
theorem Inv.blkStart(B:BlkSc X N' nt js scope)(I:Inv X pins σ H s)
  (hcl1:∀z c,cl.lookup z=some c->X.env.cells.lookup z=some c) (hcl2:∀p∈scope.names,p.2=ABH->∃c,cl.lookup p.1=some c) (hf:∀b∈fp,uA X pins H b) (hfs:∀b∈fp,b<s.heap.objs.size)
  (old:∀b o,(s.heap.push (cb [] 0)).get? b=some o->h1.get? b=some o) (hn:h1.Ns (s.heap.push (cb [] 0)).objs.size mm) :
  Inv (blk X N' scope cl { s with heap:=s.heap.push (cb [] 0) } H (s.heap.objs.size::fp)) [(s.heap.objs.size,cb [] 0)] (bst nt js σ) H { s with heap:=h1,toks:=tk }:=by
 have old2:∀b o,s.heap.get? b=some o->h1.get? b=some o:=λb o e=>old b o (AA3 _ e)
 have hC:(s.heap.push (cb [] 0)).objs.size=s.heap.objs.size+1:=ABR ..
 refine⟨I.blkOk B hcl1 hcl2 hf hfs,rfl,I.bare,Un.kept old,⟨mm,hn,λi x v e1 e2 e3=>?_⟩,λx c e=>?_,?_,λx c e=>I.freeC x c (hcl1 x c e),λp hp=>?_,I.hok.kept old2,?_⟩
 ·obtain⟨k,j,rfl,hj,hσ⟩:=Ci e2
  obtain⟨x',n1,n2,lf,kf⟩:=B.fr k j hj
  have ex:x=x':=AAR (e1.symm.trans n1)
  subst ex
  obtain⟨m2,hn2,hl2⟩:=I.loc
  have vis:Vis X.env.scope x:=kf.elim (λz=>.inr (.inl z)) λz=>.inr (.inr z)
  obtain⟨u,r,look⟩:=hl2 j x v n2 hσ vis
  refine⟨u,r,?_⟩
  rcases look with⟨q,_⟩|⟨q,c,hc,hcell⟩
  ·rcases kf with z | z<;>(rw[q]at z;cases z)
  ·obtain⟨c',hc'⟩:=hcl2 (x,.free) (ABO lf) rfl
   have:c'=c:=AAR ((hcl1 x c' hc').symm.trans hc)
   subst this
   exact .inr ⟨iH (env:=X.env) lf,c',hc',hcell.keeps old2⟩
 ·obtain⟨v,q⟩:=I.cell x c (hcl1 x c e)
  exact⟨v,q.keeps old2⟩
 ·exact I.hok.fresh (by show s.heap.objs.size<=(s.heap.push (cb [] 0)).objs.size;rw[hC];exact AE7 _)
 ·have e:p=(s.heap.objs.size,cb [] 0):=by simpa [blk]using hp
  subst e
  refine⟨old _ _ (AAC _ rfl),I.hok.fresh (AA8 _),?_,?_,λv z=>by cases z⟩
  ·show s.heap.objs.size≠(s.heap.push (cb [] 0)).objs.size
   rw[hC]
   exact AAM (AAz _)
  ·intro hz
   rcases AAN.mp (I.stkSub _ hz)with q | q
   ·exact absurd I.lt (by rw[←q];exact AAn _)
   ·exact I.nofs (AA8 _) q
 ·rw[xA]
  exact B.len.symm
theorem Inv.blkEnd(I:Inv X pins σ H s)
  (hf:∀b∈fp,uA X pins H b)
  (I4:Inv (blk X N' scope cl { s with heap:=s.heap.push (cb [] 0) } H (s.heap.objs.size::fp)) [(s.heap.objs.size,cb its k)] τ H' s')
  (rv:aw vs its) (hl:vs.length<=sizeLine) (sb:ABz (s.heap.push (cb [] 0)).objs.size s'.heap h') :
  Inv X pins σ (upd H' s.heap.objs.size (.lst vs)) { s' with heap:=h' }:=by
 have hC:(s.heap.push (cb [] 0)).objs.size=s.heap.objs.size+1:=ABR ..
 have hDC:s.heap.objs.size≠(s.heap.push (cb [] 0)).objs.size:=by rw[hC];exact AAM (AAz _)
 obtain⟨oD,fD,_⟩:=I4.pin (s.heap.objs.size,cb its k) (by simp[blk])
 have oD':s'.heap.get? s.heap.objs.size=some (cb its k):=oD
 have fD':H' s.heap.objs.size=none:=fD
 have fC:H' (s.heap.push (cb [] 0)).objs.size=none:=I4.free
 have u:Un (frs X.stack) (s.heap.objs.size::fp) H H' (s.heap.push (cb [] 0)) s'.heap:=I4.base
 have ne:∀b o,s.heap.get? b=some o->b≠s.heap.objs.size/\b≠(s.heap.push (cb [] 0)).objs.size:=λb o e=>by
  have:=AAH e
  exact⟨AAM this,by rw[hC];exact AAM (ABs this)⟩
 have up:∀b o,s.heap.get? b=some o->(s.heap.push (cb [] 0)).get? b=some o:=λb o e=>AA3 _ e
 have nx:∀b o,s.heap.get? b=some o->b∉fp->b∉s.heap.objs.size::fp:=λb o e hx hz=>by
  rcases AAN.mp hz with q | q
  ·exact(ne b o e).1 q
  ·exact hx q
 refine I.call' (s':={ s' with heap:=h' }) (ch:=fp) I4.os ⟨λb o e n hb hx=>?_,λb o e n hb hx=>?_,λb o e n hx=>?_,λb o e hx=>?_,λb xs e=>?_,λb o w e=>?_,λb ps e=>?_⟩ (λb w q=>?_) I4.bare λb hb=>?_
 ·exact(sb.2 b (ne b o e).2).trans (u.keep b o (up b o e) n hb (nx b o e hx))
 ·obtain⟨sl,z⟩:=u.slot b o (up b o e) n hb (nx b o e hx)
  exact⟨sl,(sb.2 b (ne b o e).2).trans z⟩
 ·rw[ah (ne b o e).1]
  exact u.free b o (up b o e) n (nx b o e hx)
 ·obtain⟨o',z⟩:=u.there b o (up b o e) (nx b o e hx)
  exact⟨o',(sb.2 b (ne b o e).2).trans z⟩
 ·have z:=u.tups b xs e
  rw[ah (ad z fD')]
  exact z
 ·have z:=u.frzs b o w e
  rw[ah (ad z fD')]
  exact z
 ·obtain⟨more,z⟩:=u.tbls b ps e
  exact⟨more,by rw[ah (ad z fD')];exact z⟩
 ·by_cases hb:b=s.heap.objs.size
  ·subst hb
   rw[aH]at q
   cases q
   exact⟨hl,its,k,rv,(sb.2 _ hDC).trans oD'⟩
  ·rw[ah hb]at q
   refine(I4.hok b w q).stay (λc v hc r=>(sb.2 c ?_).trans r) (λc z=>by rw[ah (ad z fD')];exact z) λc xs z=>by rw[ah (ad z fD')];exact z
   rcases hc with rfl | hc
   ·exact ad q fC
   ·exact ad hc fC
 ·obtain⟨_,f1,_,f3,f4,f5⟩:=hf b hb
  exact⟨f3,f1,f4,f5⟩
theorem ww{elt tg iter:Expr}{ifs:List Expr}{scope:Scope}{pos:Pos}{N':List Str}{cl:List (Str×Addr)}{J:It}{fp:List Addr}{it:Addr}{tn:Nat->Heap->Prop}{g:TG}{tt:TT}{te:TE}{Q:VK}
  {W:Nat->Nat->List V->St->Hp->Prop}{R:Result->Shared->Prop}{s0:Shared}{H0:Hp}{D:Addr} (hc:X.calm=true)
  (hg:PG (blk X N' scope cl s0 H0 (D::fp)) tg g) (ht:PTs (blk X N' scope cl s0 H0 (D::fp)) ifs tt) (he:PE (blk X N' scope cl s0 H0 (D::fp)) elt te)
  (T:Turn X.prog X.w X.K tg J fp it tn) (hDf:D∉fp)
  (turn:∀i m vs τ H,W i m vs τ H->(J.stop i H/\∀p,H p=none->Q (.ref p) (upd H p (.lst vs))) \/
   (J.go i H/\∀x H',J.yld i H x H'->g x τ H' λτ2 H2=>tt τ2 H2 λb H3=>if b=true then te τ2 H3 λy H4=>vs.length<sizeLine/\∃m',m' < m/\W (i+1) m' (vs++[y]) τ2 H4 else ∃m',m' < m/\W (i+1) m' vs τ2 H3))
  (hstat:∀b∈fp,b≠s0.heap.objs.size/\b∉frs X.stack/\∀x c,cl.lookup x=some c->c≠b) (hDC:D≠s0.heap.objs.size) (hDs:D∉frs X.stack) (hDc:∀x c,cl.lookup x=some c->c≠D)
  (fin:∀τ H' s' vs its k,Inv (blk X N' scope cl s0 H0 (D::fp)) [(D,cb its k)] τ H' s'->aw vs its->vs.length<=sizeLine->Q (.ref D) (upd H' D (.lst vs))->R (.ok .next) s')
  (m0:Nat) {τ0:St}{s3:Shared}{H3:Hp} (I3:Inv (blk X N' scope cl s0 H0 (D::fp)) [(D,cb [] 0)] τ0 H3 s3) (st3:tn 0 s3.heap) (fr3:∀b∈fp,H3 b=none) (w0:W 0 m0 [] τ0 H3) :
  codeAny (model X.prog X.w) X.A (.compLoop (.ListComp elt [⟨tg,iter,ifs,0⟩] scope pos) 0 (.ref it) (.ref D) (compEnvC scope cl s0.heap.objs.size X.env)) R s3:=by
 have fok:∀{ob:Obj}{H':Hp},(∀b∈fp,H' b=none)->∀b∈fp,uA (blk X N' scope cl s0 H0 (D::fp)) [(D,ob)] H' b:=λ{ob H'} hn b hb=>by
  obtain⟨a1,a2,a3⟩:=hstat b hb
  refine⟨hn b hb,a1,a2,.inl (AAA _ hb),a3,λp hp z=>?_⟩
  have e:p=(D,ob):=by simpa [blk]using hp
  subst e
  exact hDf (by rw[show D=b from z];exact hb)
 refine ur (λn s'=>∃i τ H' vs its k,Inv (blk X N' scope cl s0 H0 (D::fp)) [(D,cb its k)] τ H' s'/\tn i s'.heap/\(∀b∈fp,H' b=none)/\aw vs its/\vs.length<=sizeLine/\W i n vs τ H')
  (λ_ _=>False) (λ_ _ z=>z.elim) ?_ m0 ⟨0,τ0,H3,[],[],0,I3,st3,fr3,.nil,AAS _,w0⟩
 rintro n s' ⟨i,τ,H',vs,its,k,I',st',fr',rv,hl,w'⟩
 rcases turn i n vs τ H' w' with⟨stop,q⟩|⟨go,step⟩
 ·refine thn (T.done (blk X N' scope cl s0 H0 (D::fp)) rfl rfl rfl hc i _ s' τ H' (λ_ _=>False) I' (fok fr') st' stop) λr s4 ⟨hr,I4⟩=>?_
  subst hr
  exact fin τ H' s4 vs its k I4 rv hl (q D (I'.pin (D,cb its k) (by simp[blk])).2.1)
 ·refine thn (T.item (blk X N' scope cl s0 H0 (D::fp)) rfl rfl rfl hc i _ s' τ H' (λ_ _=>False) I' (fok fr') st' go) λr s4 ⟨u,hr,h4⟩=>?_
  subst hr
  refine thn h4 λ_ s5 ⟨x,H5,I5,r5,y5,st5,fr5⟩=>?_
  have I5':=I5.pinned (fok fr5) (T.obj _ _ st5)
  refine thn (hg _ s5 τ H5 x u _ I5' r5 (step x H5 y5)) λ_ s6 ⟨τ6,H6,I6,q6⟩=>?_
  refine thn (ht _ s6 τ6 H6 _ I6 q6) λok s7 ⟨H7,I7,q7⟩=>?_
  have memF:∀{b:Addr}{o:Obj},b∈fp->s5.heap.get? b=some o->(b,o)∈(blk X N' scope cl s0 H0 (D::fp)).pn++([(D,cb its k)]++gK fp s5.heap):=λhb e=>AAG _ (AAG _ (fh hb e))
  cases ok with
  | false =>
   obtain⟨m',hm,w7⟩:=(show ∃m',m' < n/\W (i+1) m' vs τ6 H7 from q7)
   refine⟨m',hm,i+1,τ6,H7,vs,its,k,I7.unpinned,T.keep _ _ _ st5 λb hb o e=>(I7.pin (b,o) (memF hb e)).1,λb hb=>?_,rv,hl,w7⟩
   obtain⟨o,e,_⟩:=T.obj _ _ st5 b hb
   exact(I7.pin (b,o) (memF hb e)).2.1
  | true =>
   refine thn (he _ s7 τ6 H7 _ I7 q7) λyv s8 ⟨y,H8,I8,r8,q8⟩=>?_
   obtain⟨hsz,m',hm,w8⟩:=q8
   obtain⟨oD,fD,_⟩:=I8.pin (D,cb its k) (AAG _ (AAW _ (by simp)))
   have fD':H8 D=none:=fD
   refine append_at (its:=its.toArray) (n:=k) oD (λh9 sb9 o9=>?_) (by rw[AAD,←rv.length];exact hl)
   have J8:Inv (blk X N' scope cl s0 H0 (D::fp)) (gK fp s5.heap) τ6 H8 s8:=I8.pins_of λp hp=>I8.pin p (AAG _ (AAG _ hp))
   have J9:Inv (blk X N' scope cl s0 H0 (D::fp)) (gK fp s5.heap) τ6 H8 { s8 with heap:=h9 }:=J8.turned (t':=s8.toks) (it:=D) (λb o hb e=>(sb9.2 b hb).trans e) fD' hDC (.inl AAI) hDc λp hp z=>by
    have hp':p∈gK fp s5.heap:=by simpa [blk]using hp
    exact hDf (by rw[←z];exact(oG hp').1)
   have memG:∀{b:Addr}{o:Obj},b∈fp->s5.heap.get? b=some o->(b,o)∈(blk X N' scope cl s0 H0 (D::fp)).pn++gK fp s5.heap:=λhb e=>AAG _ (fh hb e)
   refine⟨m',hm,i+1,τ6,H8,vs++[y],its++[yv],k+1,J9.pins_of λp hp=>?_,T.keep _ _ _ st5 λb hb o e=>(J9.pin (b,o) (memG hb e)).1,λb hb=>?_,rv.append (.cons r8 .nil),?_,w8⟩
   ·have e:p=(D,cb (its++[yv]) (k+1)):=by simpa using hp
    subst e
    refine⟨?_,fD',hDC,hDs,λv z=>by cases z⟩
    rw[show cb (its++[yv]) (k+1)=({ cls:=.type "list",data:=.seq (its.toArray.push yv) (k+1) }:Obj) by rw[List.push_toArray]]
    exact o9
   ·obtain⟨o,e,_⟩:=T.obj _ _ st5 b hb
    exact(J9.pin (b,o) (memG hb e)).2.1
   ·rw[AAB]
    exact hsz
end
section
variable{X:Cx}
theorem pe_lc{elt tg iter:Expr}{ifs:List Expr}{scope:Scope}{pos:Pos}{N':List Str}{nt:Nat}{js:List Nat}{wi:TI}{g:TG}{tt:TT}{te:TE}(B:BlkSc X N' nt js scope)(hc:X.calm=true)(hi:PI X tg iter wi)
  (hg:∀cl s0 H0 ex,PG (blk X N' scope cl s0 H0 ex) tg g) (ht:∀cl s0 H0 ex,PTs (blk X N' scope cl s0 H0 ex) ifs tt) (he:∀cl s0 H0 ex,PE (blk X N' scope cl s0 H0 ex) elt te)
  (hs:∀x,foldedSetIterable iter X.env x=pure x:=by intro _;rfl):PE X (.ListComp elt [⟨tg,iter,ifs,0⟩] scope pos) (tLC nt js wi g tt te):=by
 intro pins s σ H Q I h
 rw[eval_ListComp]
 obtain⟨cl,ecl,hcl1,hcl2⟩:=iN (scope:=scope) (env:=X.env) λp hp hf=>I.ok.has p.1 (B.free p hp hf)
 refine wpAny_comprehension_free (use:=none) rfl hs ecl B.kind B.loc ?_
 refine thn (hi pins s σ H _ I h) λv s1 h1=>thn h1 λitv s2 h2=>?_
 obtain⟨it,fp,tn,J,H2,e,I2,T,st2,f2,W,⟨m0,w0⟩,turn⟩:=h2
 subst e
 refine AAk (wpAny_newFunctionEnv B.nocell (by intro y hy;simp at hy) (λh1 hns1 hsb1=>?_) B.kind)
 have hfs:∀b∈fp,b<s2.heap.objs.size:=λb hb=>by
  obtain⟨o,e,_⟩:=T.obj _ _ st2 b hb
  exact AAH e
 have hC:(s2.heap.push (cb [] 0)).objs.size=s2.heap.objs.size+1:=ABR ..
 have old:∀b o,(s2.heap.push (cb [] 0)).get? b=some o->h1.get? b=some o:=λb o e=>(hsb1.2 b (AAM (AAH e))).trans (AA3 _ e)
 have I3:=I2.blkStart (tk:=s2.toks+([]:List (Str×Value)).length) B hcl1 hcl2 f2 hfs old hns1
 have st3:tn 0 h1:=T.keep _ _ _ st2 λb _ o e=>old b o (AA3 _ e)
 have hDf:s2.heap.objs.size∉fp:=λz=>AAn _ (hfs _ z)
 have hDs:s2.heap.objs.size∉frs X.stack:=λz=>by
  rcases AAN.mp (I2.stkSub _ z)with q | q
  ·exact absurd I2.lt (by rw[←q];exact AAn _)
  ·exact I2.nofs (AA8 _) q
 have hDC:s2.heap.objs.size≠(s2.heap.push (cb [] 0)).objs.size:=by rw[hC];exact AAM (AAz _)
 have ltc:∀z c,cl.lookup z=some c->c<s2.heap.objs.size:=λz c e=>by
  obtain⟨v,q⟩:=I2.cell z c (hcl1 z c e)
  exact q.lt
 have hstat:∀b∈fp,b≠(s2.heap.push (cb [] 0)).objs.size/\b∉frs X.stack/\∀x c,cl.lookup x=some c->c≠b:=λb hb=>by
  refine⟨by rw[hC];exact AAM (ABs (hfs b hb)),λz=>?_,λx c e=>(f2 b hb).2.2.2.2.1 x c (hcl1 x c e)⟩
  rcases AAN.mp (I2.stkSub b z)with q | q
  ·exact(f2 b hb).2.1 q
  ·exact(f2 b hb).2.2.1 q
 have loop:codeAny (model X.prog X.w) X.A (.compLoop (.ListComp elt [⟨tg,iter,ifs,0⟩] scope pos) 0 (.ref it) (.ref s2.heap.objs.size) (compEnvC scope cl (s2.heap.push (cb [] 0)).objs.size X.env))
   (compPost (model X.prog X.w) X.A X.xe none (EP X pins σ Q) (.ref s2.heap.objs.size) (s2.heap.push (cb [] 0)).objs.size) { s2 with heap:=h1,toks:=s2.toks+([]:List (Str×Value)).length }:=by
  refine ww (s0:={ s2 with heap:=s2.heap.push (cb [] 0) }) (H0:=H2) (N':=N') (Q:=Q) hc (hg _ _ _ _) (ht _ _ _ _) (he _ _ _ _) T hDf turn hstat hDC hDs (λx c e=>AAM (ltc x c e)) ?_ m0 I3 st3 (λb hb=>(f2 b hb).1) w0
  intro τ H' s' vs its k I4 rv hl q
  obtain⟨mm,hn,_⟩:=id I4.loc
  exact⟨mm,hn,λh' sb=>⟨.ref s2.heap.objs.size,_,I2.blkEnd f2 I4 rv hl sb,rfl,q⟩⟩
 exact codeAny_compStart_list loop (T.self _ 0 _ _ _ st3 loop)
end
end L2
namespace L2
open PySem PySem.Spec PyProof.Rows DL
inductive D where
 | non | bl (b:Bool) | int (i:Int) | str (x:Str) | ty (n:String) | tup (ds:List D) | ref (n:Nat)
inductive MO where
 | lst (xs:List D)
 | fz (xs:List D)
 | kl (xs:List D)
 | dct (kvs:List (Str×D))
 | dkt (kvs:List (D×D))
 | dkq (kvs:List (D×D))
 | dkm (kvs:List (D×D))
 | fdc (o:Obj) (kvs:List (Str×D))
 | tb (x:Str) (b:Bool)
abbrev Mem:=List MO
def MO.isL:MO->Bool
 | .dct _=>false
 | .dkt _=>false
 | .dkq _=>false
 | .fdc _ _=>false
 | .dkm _=>false
 | .tb _ _=>false
 | _=>true
def mkKV(ks:List Str)(vs:List V):List (Key×V):=(ks.zip vs).map λp=>(Sum.inr p.1,p.2)
mutual
inductive Rep(K:AA4)(ρ:List Addr)(H:Hp):D->V->Prop
 | non:Rep K ρ H .non .non
 | bl (b:Bool):Rep K ρ H (.bl b) (.bl b)
 | int (i:Int):Rep K ρ H (.int i) (.int i)
 | str (x:Str):Rep K ρ H (.str x) (.str x)
 | ty (n:String):Rep K ρ H (.ty n) (.ty n)
 | tup {a:Addr}{vs:List V}{ds:List D} (h:SqT K H a vs) (r:Reps K ρ H ds vs):Rep K ρ H (.tup ds) (.ref a)
 | ref {n:Nat}{a:Addr} (h:ρ[n]?=some a):Rep K ρ H (.ref n) (.ref a)
inductive Reps(K:AA4)(ρ:List Addr)(H:Hp):List D->List V->Prop
 | nil:Reps K ρ H [] []
 | cons {d:D}{v:V}{ds:List D}{vs:List V} (h:Rep K ρ H d v) (t:Reps K ρ H ds vs):Reps K ρ H (d::ds) (v::vs)
end
def KList(K:AA4)(a:Addr)(xs:List V):Prop :=
 ∃(o:Obj) (its:Array Value) (n:Nat),K.lookup a=some o/\o.cls=.type "list"/\o.dict=none/\o.data=.seq its n/\its.size<=sizeLine/\aw xs its.toList
def cc:Nat->D->Bool
 | _,.str _=>true
 | _,.int _=>true
 | n+1,.tup ds=>ds.all (cc n)
 | _,_=>false
def hkD(w:World):Nat->D->Int
 | _,.str x=>hashStr w x
 | _,.int i=>hashInt i
 | n+1,.tup ds=>reduceHash (ABK (ds.map (hkD w n)))
 | _,_=>0
def dX(a:Addr)(xs:List (D×Addr×Value)):Program->World->Heap->Prop:=λ_ w h =>
 ∃(o:Obj) (es:Array DictEntry),h.get? a=some o/\o.ExactDict/\o.data=.dict es xs.length/\es.toList=xs.map λx=>⟨hkD w 8 x.1,.ref x.2.1,x.2.2⟩
def dQ(a:Addr)(e:Nat)(xs:List (D×Addr×Value)):Program->World->Heap->Prop:=λ_ w h =>
 ∃(o:Obj) (es:Array DictEntry),h.get? a=some o/\o.ExactDict/\o.data=.dict es e/\es.toList=xs.map λx=>⟨hkD w 8 x.1,.ref x.2.1,x.2.2⟩
def ue:D->Bool
 | .non=>true
 | .tup ks=>cc 8 (.tup ks)
 | _=>false
def hkM(w:World):D->Int
 | .non=>reduceHash 0xFCA86420
 | d=>hkD w 8 d
def xj(hs:D->Int)(x:D×Value×Value):DictEntry:=⟨hs x.1,x.2.1,x.2.2⟩
def dM(a:Addr)(xs:List (D×Value×Value)):Program->World->Heap->Prop:=λ_ w h =>
 ∃(o:Obj) (es:Array DictEntry),h.get? a=some o/\o.ExactDict/\o.data=.dict es xs.length/\es.toList=xs.map (xj (hkM w))
def KvM(K:AA4)(ρ:List Addr)(H:Hp)(p:D×D)(q:D×Value×Value):Prop:=p.1=q.1/\ue p.1=true/\(∃u,Rep K ρ H p.1 u/\aL u q.2.1)/\∃v,Rep K ρ H p.2 v/\aL v q.2.2
def uw(K:AA4)(ρ:List Addr)(H:Hp)(p:D×D)(q:D×Addr×Value):Prop:=p.1=q.1/\cc 8 p.1=true/\Rep K ρ H p.1 (.ref q.2.1)/\∃v,Rep K ρ H p.2 v/\aL v q.2.2
def uz(K:AA4)(ρ:List Addr)(H:Hp)(a:Addr):MO->Prop
 | .lst ds=>∃vs,H a=some (.lst vs)/\Reps K ρ H ds vs
 | .fz ds=>∃o vs,H a=some (.frz o (.lst vs))/\Reps K ρ H ds vs
 | .kl ds=>∃vs,KList K a vs/\Reps K ρ H ds vs
 | .dct kvs=>∃vs,H a=some (.dK (mkKV (kvs.map (·.1)) vs))/\Reps K ρ H (kvs.map (·.2)) vs
 | .dkt kvs=>kvs.length<=sizeLine/\(a==sysModules)=false/\(kvs.map (·.1)).Nodup/\∃xs,H a=some (.ext (dX a xs))/\Paired (uw K ρ H) kvs xs
 | .dkq kvs=>kvs.length<=sizeLine/\(a==sysModules)=false/\(kvs.map (·.1)).Nodup/\∃xs,(∃e,H a=some (.ext (dQ a e xs)))/\Paired (uw K ρ H) kvs xs
 | .dkm kvs=>kvs.length<=sizeLine/\(a==sysModules)=false/\(kvs.map (·.1)).Nodup/\∃xs,H a=some (.ext (dM a xs))/\Paired (KvM K ρ H) kvs xs
 | .fdc o kvs=>∃vs,H a=some (.frz o (.dK (mkKV (kvs.map (·.1)) vs)))/\Reps K ρ H (kvs.map (·.2)) vs
 | .tb x b=>(∃c,PySem.W.tabIn K x=some (c,a)/\∀h:Heap,K.In h->PySem.W.CodeHd h c a)/\∃ps,H a=some (.tbl ps)/\(b=false->ps = #[])
def isK(mo:Option MO):Prop:=∃ds,mo=some (.kl ds)
def am(M:Mem)(n:Nat)(xs:List D):Prop:=M[n]?=some (.lst xs)\/M[n]?=some (.fz xs)\/M[n]?=some (.kl xs)
structure Sim(K:AA4)(ρ:List Addr)(M:Mem)(H:Hp):Prop where
 nd:∀(n m:Nat) (a:Addr),n≠m->ρ[n]?=some a->ρ[m]?=some a->isK M[n]?\/isK M[m]?
 len:ρ.length=M.length
 obj:∀(n:Nat) (a:Addr) (mo:MO),ρ[n]?=some a->M[n]?=some mo->uz K ρ H a mo
structure Grow(K:AA4)(ρ:List Addr)(H:Hp)(ρ':List Addr)(H':Hp):Prop where
 pre:ρ <+: ρ'
 tup:∀a xs,SqT K H a xs->SqT K H' a xs
theorem Grow.refl{K:AA4}{ρ:List Addr}{H:Hp}:Grow K ρ H ρ H:=⟨ACX,λ_ _ h=>h⟩
theorem Grow.trans{K:AA4}{ρ ρ1 ρ2:List Addr}{H H1 H2:Hp}(a:Grow K ρ H ρ1 H1)(b:Grow K ρ1 H1 ρ2 H2):Grow K ρ H ρ2 H2:=⟨a.pre.trans b.pre,λx xs h=>b.tup x xs (a.tup x xs h)⟩
theorem av{α:Type}{l l':List α}(h:l <+: l'){n:Nat}{a:α}(e:l[n]?=some a):l'[n]?=some a:=by
 obtain⟨t,rfl⟩:=h
 rw[AAP (AA7.mp e).1]
 exact e
mutual
theorem Rep.grow{K:AA4}{ρ ρ':List Addr}{H H':Hp}(g:Grow K ρ H ρ' H'):∀{d:D}{v:V},Rep K ρ H d v->Rep K ρ' H' d v
 | _,_,.non=>.non
 | _,_,.bl b=>.bl b
 | _,_,.int i=>.int i
 | _,_,.str x=>.str x
 | _,_,.ty n=>.ty n
 | _,_,.tup h r=>.tup (g.tup _ _ h) (Reps.grow g r)
 | _,_,.ref h=>.ref (av g.pre h)
theorem Reps.grow{K:AA4}{ρ ρ':List Addr}{H H':Hp}(g:Grow K ρ H ρ' H'):∀{ds:List D}{vs:List V},Reps K ρ H ds vs->Reps K ρ' H' ds vs
 | _,_,.nil=>.nil
 | _,_,.cons h t=>.cons (Rep.grow g h) (Reps.grow g t)
end
section
variable{K:AA4}{ρ ρ':List Addr}{H H':Hp}{M:Mem}
theorem Reps.length:∀{ds:List D}{vs:List V},Reps K ρ H ds vs->ds.length=vs.length
 | _,_,.nil=>rfl
 | _,_,.cons _ t=>by rw[AAJ,AAJ,Reps.length t]
theorem Reps.append:∀{ds es:List D}{vs ws:List V},Reps K ρ H ds vs->Reps K ρ H es ws->Reps K ρ H (ds++es) (vs++ws)
 | _,_,_,_,.nil,s=>s
 | _,_,_,_,.cons r t,s=>.cons r (Reps.append t s)
theorem Reps.get:∀{ds:List D}{vs:List V}{i:Nat}{d:D},Reps K ρ H ds vs->ds[i]?=some d->∃v,vs[i]?=some v/\Rep K ρ H d v
 | _,_,_,_,.nil,e=>by simp at e
 | _,_,0,_,.cons r _,e=>by simp at e;subst e;exact⟨_,rfl,r⟩
 | _,_,i+1,d,.cons _ t,e=>by
  obtain⟨v,h1,h2⟩:=Reps.get (i:=i) (d:=d) t (by simpa using e)
  exact⟨v,by simpa using h1,h2⟩
theorem Reps.getV:∀{ds:List D}{vs:List V}{i:Nat}{v:V},Reps K ρ H ds vs->vs[i]?=some v->∃d,ds[i]?=some d/\Rep K ρ H d v
 | _,_,_,_,.nil,e=>by simp at e
 | _,_,0,_,.cons r _,e=>by simp at e;subst e;exact⟨_,rfl,r⟩
 | _,_,i+1,d,.cons _ t,e=>by
  obtain⟨v,h1,h2⟩:=Reps.getV (i:=i) (v:=d) t (by simpa using e)
  exact⟨v,by simpa using h1,h2⟩
theorem Reps.take:∀{ds:List D}{vs:List V} (n:Nat),Reps K ρ H ds vs->Reps K ρ H (ds.take n) (vs.take n)
 | _,_,0,_=>by simpa using .nil
 | _,_,_+1,.nil=>.nil
 | _,_,n+1,.cons r t=>.cons r (Reps.take n t)
theorem Reps.drop:∀{ds:List D}{vs:List V} (n:Nat),Reps K ρ H ds vs->Reps K ρ H (ds.drop n) (vs.drop n)
 | _,_,0,r=>r
 | _,_,_+1,.nil=>.nil
 | _,_,n+1,.cons _ t=>Reps.drop n t
theorem SqT.laid(hp:H p=none)(h:SqT K H a xs):SqT K (upd H p o) a xs:=by
 rcases h with h | h
 ·rcases h with h | ⟨ob,h⟩
  ·exact .inl (.inl (by rw[ah (ad h hp)];exact h))
  ·exact .inl (.inr ⟨ob,by rw[ah (ad h hp)];exact h⟩)
 ·exact .inr h
theorem SqT.written(hp:H p=some (.lst vs))(h:SqT K H a xs):SqT K (upd H p o) a xs:=by
 rcases h with h | h
 ·rcases h with h | ⟨ob,h⟩
  ·exact .inl (.inl (by rw[ah (yu h hp (by intro z;cases z))];exact h))
  ·exact .inl (.inr ⟨ob,by rw[ah (yu h hp (by intro z;cases z))];exact h⟩)
 ·exact .inr h
theorem Grow.laid(hp:H p=none):Grow K ρ H ρ (upd H p o):=⟨ACX,λ_ _ h=>SqT.laid hp h⟩
theorem Grow.laidR(hp:H p=none):Grow K ρ H (ρ++[p]) (upd H p o):=⟨AAf _ _,λ_ _ h=>SqT.laid hp h⟩
theorem Sim.tracked(S:Sim K ρ M H){n:Nat}{a:Addr}(e:ρ[n]?=some a):(∃o,H a=some o)\/isK M[n]?:=by
 have hn:n<M.length:=by rw[←S.len];exact(AA7.mp e).1
 have hm:M[n]?=some M[n]:=AA5 hn
 have h:=S.obj n a _ e hm
 rw[hm]
 cases hmo:M[n] with
 | lst ds=>rw[hmo]at h;obtain⟨vs,h,_⟩:=h;exact .inl ⟨_,h⟩
 | fz ds=>rw[hmo]at h;obtain⟨o,vs,h,_⟩:=h;exact .inl ⟨_,h⟩
 | kl ds=>exact .inr ⟨ds,rfl⟩
 | dct kvs=>rw[hmo]at h;obtain⟨vs,h,_⟩:=h;exact .inl ⟨_,h⟩
 | dkt kvs=>rw[hmo]at h;obtain⟨_,_,_,xs,h,_⟩:=h;exact .inl ⟨_,h⟩
 | dkq kvs=>rw[hmo]at h;obtain⟨_,_,_,xs,⟨_,h⟩,_⟩:=h;exact .inl ⟨_,h⟩
 | fdc o kvs=>rw[hmo]at h;obtain⟨vs,h,_⟩:=h;exact .inl ⟨_,h⟩
 | dkm kvs=>rw[hmo]at h;obtain⟨_,_,_,xs,h,_⟩:=h;exact .inl ⟨_,h⟩
 | tb x b=>rw[hmo]at h;obtain⟨_,ps,h,_⟩:=h;exact .inl ⟨_,h⟩
theorem uz.grow(g:Grow K ρ H ρ' H')(hs:H' a=H a\/isK (some mo))(h:uz K ρ H a mo):uz K ρ' H' a mo:=by
 cases mo with
 | lst ds =>
  obtain⟨vs,e,r⟩:=h
  rcases hs with hs | ⟨_,z⟩
  ·exact⟨vs,by rw[hs];exact e,r.grow g⟩
  ·cases z
 | fz ds =>
  obtain⟨o,vs,e,r⟩:=h
  rcases hs with hs | ⟨_,z⟩
  ·exact⟨o,vs,by rw[hs];exact e,r.grow g⟩
  ·cases z
 | fdc o kvs =>
  obtain⟨vs,e,r⟩:=h
  rcases hs with hs | ⟨_,z⟩
  ·exact⟨vs,by rw[hs];exact e,r.grow g⟩
  ·cases z
 | tb x b =>
  obtain⟨c,ps,e,q⟩:=h
  rcases hs with hs | ⟨_,z⟩
  ·exact⟨c,ps,by rw[hs];exact e,q⟩
  ·cases z
 | kl ds=>obtain⟨vs,e,r⟩:=h;exact⟨vs,e,r.grow g⟩
 | dkm kvs =>
  obtain⟨h1,h2,h3,xs,e,r⟩:=h
  rcases hs with hs | ⟨_,z⟩
  ·exact⟨h1,h2,h3,xs,by rw[hs];exact e,Paired.mapP r λ_ _ ⟨q1,q2,⟨u,q3,q3'⟩,v,q4,q5⟩=>⟨q1,q2,⟨u,q3.grow g,q3'⟩,v,q4.grow g,q5⟩⟩
  ·cases z
 | dct kvs =>
  obtain⟨vs,e,r⟩:=h
  rcases hs with hs | ⟨_,z⟩
  ·exact⟨vs,by rw[hs];exact e,r.grow g⟩
  ·cases z
 | dkt kvs =>
  obtain⟨h1,h2,h3,xs,e,r⟩:=h
  rcases hs with hs | ⟨_,z⟩
  ·exact⟨h1,h2,h3,xs,by rw[hs];exact e,Paired.mapP r λ_ _ ⟨q1,q2,q3,v,q4,q5⟩=>⟨q1,q2,q3.grow g,v,q4.grow g,q5⟩⟩
  ·cases z
 | dkq kvs =>
  obtain⟨h1,h2,h3,xs,e,r⟩:=h
  rcases hs with hs | ⟨_,z⟩
  ·exact⟨h1,h2,h3,xs,by rw[hs];exact e,Paired.mapP r λ_ _ ⟨q1,q2,q3,v,q4,q5⟩=>⟨q1,q2,q3.grow g,v,q4.grow g,q5⟩⟩
  ·cases z
theorem Sim.keeps{p:Addr}{o:HO}(S:Sim K ρ M H)(hp:H p=none){n:Nat}{a:Addr}{mo:MO}(e1:ρ[n]?=some a)(e2:M[n]?=some mo):upd H p o a=H a\/isK (some mo):=by
 rcases S.tracked e1 with⟨ob,hob⟩ | q
 ·exact .inl (ah (ad hob hp))
 ·rw[e2]at q
  exact .inr q
theorem Sim.laid{p:Addr}{o:HO}(S:Sim K ρ M H)(hp:H p=none):Sim K ρ M (upd H p o) :=
 ⟨S.nd,S.len,λn a mo e1 e2=>(S.obj n a mo e1 e2).grow (Grow.laid hp) (S.keeps hp e1 e2)⟩
theorem aQ{α:Type}{l:List α}{x y:α}{n:Nat}(h:(l++[x])[n]?=some y):l[n]?=some y\/(n=l.length/\y=x):=by
 by_cases hn:n<l.length
 ·rw[AAP hn]at h
  exact .inl h
 ·have hn':n=l.length:=by
   have:=(AA7.mp h).1
   rw[AAB,AAY]at this
   lia
  subst hn'
  rw[AAg (AA8 _),ADL]at h
  simp at h
  exact .inr ⟨rfl,h.symm⟩
theorem isK.more{mo:MO}{n:Nat}(h:isK M[n]?):isK (M++[mo])[n]?:=by
 obtain⟨ds,e⟩:=h
 exact⟨ds,by rw[AAP (AA7.mp e).1];exact e⟩
theorem Sim.laidL{p:Addr}{ds:List D}{vs:List V}(S:Sim K ρ M H)(hp:H p=none)(r:Reps K ρ H ds vs):Sim K (ρ++[p]) (M++[.lst ds]) (upd H p (.lst vs)):=by
 have g:Grow K ρ H (ρ++[p]) (upd H p (.lst vs)):=Grow.laidR hp
 have old:∀(n:Nat),ρ[n]?=some p->isK M[n]?:=λn e=>by
  rcases S.tracked e with⟨o,q⟩ | q
  ·rw[hp]at q;cases q
  ·exact q
 refine⟨λn m a hnm e1 e2=>?_,by rw[AAB,AAB,S.len];rfl,λn a mo e1 e2=>?_⟩
 ·rcases aQ e1 with f1 | ⟨f1,g1⟩
  ·rcases aQ e2 with f2 | ⟨f2,g2⟩
   ·exact(S.nd n m a hnm f1 f2).elim (λz=>.inl z.more) λz=>.inr z.more
   ·subst g2
    exact .inl (old n f1).more
  ·rcases aQ e2 with f2 | ⟨f2,g2⟩
   ·subst g1
    exact .inr (old m f2).more
   ·exact absurd (f1.trans f2.symm) hnm
 ·rcases aQ e1 with f1 | ⟨f1,g1⟩
  ·have hn:n<M.length:=by rw[←S.len];exact(AA7.mp f1).1
   rw[AAP hn]at e2
   exact(S.obj n a mo f1 e2).grow g (S.keeps hp f1 e2)
  ·subst g1 f1
   rw[S.len,AAg (AA8 _),ADL]at e2
   simp at e2
   subst e2
   exact⟨vs,aH,r.grow g⟩
theorem Sim.last(S:Sim K ρ M H):(ρ++[p])[M.length]?=some p:=by
 rw[←S.len,AAg (AA8 _),ADL]
 rfl
theorem Sim.write(S:Sim K ρ M H)(e1:ρ[n]?=some a)(hM:M[n]?=some (.lst ds))(hH:H a=some (.lst vs))(r:Reps K ρ H ds' vs') :
  Sim K ρ (M.set n (.lst ds')) (upd H a (.lst vs'))/\Grow K ρ H ρ (upd H a (.lst vs')):=by
 have g:Grow K ρ H ρ (upd H a (.lst vs')):=⟨ACX,λ_ _ h=>SqT.written hH h⟩
 have hk:∀m,m≠n->(M.set n (.lst ds'))[m]?=M[m]?:=λm hm=>AAq (ABC hm)
 have notK:¬isK M[n]?:=λ⟨_,z⟩=>by rw[hM]at z;cases z
 refine⟨⟨λm m' b hne f1 f2=>?_,by rw[AAw];exact S.len,λm b mo f1 f2=>?_⟩,g⟩
 ·have q:=S.nd m m' b hne f1 f2
  by_cases h1:m=n
  ·subst h1
   rw[hk m' (ABC hne)]
   exact .inr (q.resolve_left notK)
  ·rw[hk m h1]
   by_cases h2:m'=n
   ·subst h2
    exact .inl (q.resolve_right notK)
   ·rw[hk m' h2]
    exact q
 by_cases hm:m=n
 ·subst hm
  have hb:b=a:=AAR (f1.symm.trans e1)
  subst hb
  rw[AAj (by rw[←S.len];exact(AA7.mp e1).1)]at f2
  cases f2
  exact⟨vs',aH,r.grow g⟩
 ·rw[hk m hm]at f2
  by_cases hb:b=a
  ·subst hb
   have q:=S.nd m n b hm f1 e1
   have q':=q.resolve_right notK
   rw[f2]at q'
   exact(S.obj m b mo f1 f2).grow g (.inr q')
  ·exact(S.obj m b mo f1 f2).grow g (.inl (ah hb))
theorem am.seq(S:Sim K ρ M H)(h:am M n xs)(e:ρ[n]?=some a):∃vs,SqL K H a vs/\Reps K ρ H xs vs:=by
 rcases h with h | h | h
 ·obtain⟨vs,q,r⟩:=S.obj n a _ e h
  exact⟨vs,.inl (.inl q),r⟩
 ·obtain⟨o,vs,q,r⟩:=S.obj n a _ e h
  exact⟨vs,.inl (.inr ⟨o,q⟩),r⟩
 ·obtain⟨vs,q,r⟩:=S.obj n a _ e h
  exact⟨vs,.inr q,r⟩
theorem Sim.get(S:Sim K ρ M H){n:Nat}{mo:MO}(e:M[n]?=some mo):∃a,ρ[n]?=some a/\uz K ρ H a mo:=by
 have hn:n<ρ.length:=by rw[S.len];exact(AA7.mp e).1
 exact⟨ρ[n],AA5 hn,S.obj n _ mo (AA5 hn) e⟩
end
abbrev SD:=List (Option D)
structure SRep(K:AA4)(ρ:List Addr)(H:Hp)(S:SD)(σ:St):Prop where
 len:S.length=σ.length
 get:∀(i:Nat) (d:D),S[i]?=some (some d)->∃v,σ[i]?=some (some v)/\Rep K ρ H d v
theorem SRep.grow{K:AA4}{ρ ρ':List Addr}{H H':Hp}{S:SD}{σ:St}(r:SRep K ρ H S σ)(g:Grow K ρ H ρ' H'):SRep K ρ' H' S σ :=
 ⟨r.len,λi d e=>let ⟨v,h1,h2⟩:=r.get i d e;⟨v,h1,h2.grow g⟩⟩
theorem SRep.set{K:AA4}{ρ:List Addr}{H:Hp}{S:SD}{σ:St}(r:SRep K ρ H S σ)(i:Nat){d:D}{v:V}(h:Rep K ρ H d v):SRep K ρ H (S.set i (some d)) (σ.set i (some v)):=by
 refine⟨by rw[AAw,AAw];exact r.len,λj e hj=>?_⟩
 by_cases hij:i=j
 ·subst hij
  by_cases hl:i<S.length
  ·rw[AAj hl]at hj
   cases hj
   exact⟨v,by rw[AAj (by rw[←r.len];exact hl)],h⟩
  ·rw[ABP (by rw[AAw];lia)]at hj
   cases hj
 ·rw[AAq hij]at hj
  rw[AAq hij]
  exact r.get j e hj
abbrev DK:=D->Mem->Prop
abbrev DTE:=SD->Mem->DK->Prop
abbrev DTT:=SD->Mem->(Bool->Mem->Prop)->Prop
abbrev DTA:=SD->Mem->(List D->Mem->Prop)->Prop
structure DEnds where
 nx:SD->Mem->Prop
 rt:DK
 bk:SD->Mem->Prop:=λ_ _=>False
 ct:SD->Mem->Prop:=λ_ _=>False
abbrev DTS:=DEnds->SD->Mem->Prop
abbrev DTG:=D->SD->Mem->(SD->Mem->Prop)->Prop
abbrev Aq:=List D->SD->Mem->(SD->Mem->Prop)->Prop
abbrev DR2:=D->D->Mem->DK->Prop
abbrev DR1:=D->Mem->DK->Prop
abbrev DRA:=List D->Mem->DK->Prop
section
variable(K:AA4)
inductive VQ(ρ:List Addr)(H:Hp)(Q:DK)(v:V)(H':Hp):Prop
 | mk (d:D) (M':Mem) (ρ':List Addr) (s:Sim K ρ' M' H') (g:Grow K ρ H ρ' H') (r:Rep K ρ' H' d v) (q:Q d M')
inductive BQ(ρ:List Addr)(H:Hp)(Q:Bool->Mem->Prop)(b:Bool)(H':Hp):Prop
 | mk (M':Mem) (ρ':List Addr) (s:Sim K ρ' M' H') (g:Grow K ρ H ρ' H') (q:Q b M')
inductive AQ(ρ:List Addr)(H:Hp)(Q:List D->Mem->Prop)(vs:List V)(H':Hp):Prop
 | mk (ds:List D) (M':Mem) (ρ':List Addr) (s:Sim K ρ' M' H') (g:Grow K ρ H ρ' H') (r:Reps K ρ' H' ds vs) (q:Q ds M')
inductive SQ(ρ:List Addr)(H:Hp)(Q:SD->Mem->Prop)(σ':St)(H':Hp):Prop
 | mk (S':SD) (M':Mem) (ρ':List Addr) (s:Sim K ρ' M' H') (g:Grow K ρ H ρ' H') (r:SRep K ρ' H' S' σ') (q:Q S' M')
structure Ups(ρ:List Addr)(H:Hp)(F:DEnds)(E:Ends):Prop where
 nx:∀σ' H',SQ K ρ H F.nx σ' H'->E.nx σ' H'
 rt:∀v H',VQ K ρ H F.rt v H'->E.rt v H'
 bk:∀σ' H',SQ K ρ H F.bk σ' H'->E.bk σ' H'
 ct:∀σ' H',SQ K ρ H F.ct σ' H'->E.ct σ' H'
inductive lowE(t:DTE)(σ:St)(H:Hp)(R:VK):Prop
 | mk (S:SD) (M:Mem) (ρ:List Addr) (Q:DK) (s:Sim K ρ M H) (sr:SRep K ρ H S σ) (q:t S M Q) (k:∀v H',VQ K ρ H Q v H'->R v H')
inductive lowT(t:DTT)(σ:St)(H:Hp)(R:Bool->Hp->Prop):Prop
 | mk (S:SD) (M:Mem) (ρ:List Addr) (Q:Bool->Mem->Prop) (s:Sim K ρ M H) (sr:SRep K ρ H S σ) (q:t S M Q) (k:∀v H',BQ K ρ H Q v H'->R v H')
inductive lowA(t:DTA)(σ:St)(H:Hp)(R:List V->Hp->Prop):Prop
 | mk (S:SD) (M:Mem) (ρ:List Addr) (Q:List D->Mem->Prop) (s:Sim K ρ M H) (sr:SRep K ρ H S σ) (q:t S M Q) (k:∀v H',AQ K ρ H Q v H'->R v H')
inductive lowS(t:DTS)(E:Ends)(σ:St)(H:Hp):Prop
 | mk (S:SD) (M:Mem) (ρ:List Addr) (F:DEnds) (s:Sim K ρ M H) (sr:SRep K ρ H S σ) (q:t F S M) (k:Ups K ρ H F E)
inductive lowG(g:DTG)(v:V)(σ:St)(H:Hp)(R:St->Hp->Prop):Prop
 | mk (d:D) (S:SD) (M:Mem) (ρ:List Addr) (Q:SD->Mem->Prop) (s:Sim K ρ M H) (sr:SRep K ρ H S σ) (r:Rep K ρ H d v) (q:g d S M Q) (k:∀σ' H',SQ K ρ H Q σ' H'->R σ' H')
inductive lowGs(g:Aq)(vs:List V)(σ:St)(H:Hp)(R:St->Hp->Prop):Prop
 | mk (ds:List D) (S:SD) (M:Mem) (ρ:List Addr) (Q:SD->Mem->Prop) (s:Sim K ρ M H) (sr:SRep K ρ H S σ) (r:Reps K ρ H ds vs) (q:g ds S M Q) (k:∀σ' H',SQ K ρ H Q σ' H'->R σ' H')
inductive lowR(r:DR2)(vx vy:V)(H:Hp)(R:VK):Prop
 | mk (x y:D) (M:Mem) (ρ:List Addr) (Q:DK) (s:Sim K ρ M H) (r1:Rep K ρ H x vx) (r2:Rep K ρ H y vy) (q:r x y M Q) (k:∀v H',VQ K ρ H Q v H'->R v H')
inductive lowU(r:DR1)(vx:V)(H:Hp)(R:VK):Prop
 | mk (x:D) (M:Mem) (ρ:List Addr) (Q:DK) (s:Sim K ρ M H) (r1:Rep K ρ H x vx) (q:r x M Q) (k:∀v H',VQ K ρ H Q v H'->R v H')
inductive lowC(r:DRA)(vs:List V)(H:Hp)(R:VK):Prop
 | mk (ds:List D) (M:Mem) (ρ:List Addr) (Q:DK) (s:Sim K ρ M H) (r1:Reps K ρ H ds vs) (q:r ds M Q) (k:∀v H',VQ K ρ H Q v H'->R v H')
end
def DE(X:Cx)(e:Expr)(t:DTE):Prop:=PE X e (lowE X.K t)
def DT(X:Cx)(e:Expr)(t:DTT):Prop:=PT X e (lowT X.K t)
def DW(X:Cx)(e:Expr)(t:DTT):Prop:=PW X e (lowT X.K t)
def DA(X:Cx)(es:List Expr)(t:DTA):Prop:=PA X es (lowA X.K t)
def DS(X:Cx)(st:Stmt)(t:DTS):Prop:=PS X st (lowS X.K t)
def DSs(X:Cx)(st:List Stmt)(t:DTS):Prop:=PSs X st (lowS X.K t)
def DG(X:Cx)(tg:Expr)(g:DTG):Prop:=PG X tg (lowG X.K g)
def DGs(X:Cx)(tg:List Expr)(g:Aq):Prop:=PGs X tg (lowGs X.K g)
def OpD(X:Cx)(f:Value->Value->Sem Value)(r:DR2):Prop:=OpR X f (lowR X.K r)
def UnD(X:Cx)(f:Value->Sem Value)(r:DR1):Prop:=UnR X f (lowU X.K r)
def pR(X:Cx)(f:Value)(r:DRA):Prop:=fZ X f (lowC X.K r)
section
variable{K:AA4}{ρ ρ1:List Addr}{H H1:Hp}
theorem VQ.trans(g:Grow K ρ H ρ1 H1)(h:VQ K ρ1 H1 Q v H'):VQ K ρ H Q v H':=by
 obtain⟨d,M',ρ',s,g',r,q⟩:=h
 exact⟨d,M',ρ',s,g.trans g',r,q⟩
theorem BQ.trans(g:Grow K ρ H ρ1 H1)(h:BQ K ρ1 H1 Q v H'):BQ K ρ H Q v H':=by
 obtain⟨M',ρ',s,g',q⟩:=h
 exact⟨M',ρ',s,g.trans g',q⟩
theorem SQ.trans(g:Grow K ρ H ρ1 H1)(h:SQ K ρ1 H1 Q v H'):SQ K ρ H Q v H':=by
 obtain⟨d,M',ρ',s,g',r,q⟩:=h
 exact⟨d,M',ρ',s,g.trans g',r,q⟩
theorem Ups.trans(g:Grow K ρ H ρ1 H1)(h:Ups K ρ H F E):Ups K ρ1 H1 F E :=
 ⟨λσ' H' q=>h.nx σ' H' (SQ.trans g q),λv H' q=>h.rt v H' (VQ.trans g q),λσ' H' q=>h.bk σ' H' (SQ.trans g q),λσ' H' q=>h.ct σ' H' (SQ.trans g q)⟩
theorem VQ.now(s:Sim K ρ M H)(r:Rep K ρ H d v)(q:Q d M):VQ K ρ H Q v H:=⟨d,M,ρ,s,.refl,r,q⟩
end
section
variable{K:AA4}{ρ:List Addr}{H:Hp}{v:V}{vs:List V}
theorem Rep.inv_non(h:Rep K ρ H .non v):v=.non:=by cases h;rfl
theorem Rep.inv_bl(h:Rep K ρ H (.bl b) v):v=.bl b:=by cases h;rfl
theorem Rep.inv_int(h:Rep K ρ H (.int i) v):v=.int i:=by cases h;rfl
theorem Rep.inv_str(h:Rep K ρ H (.str x) v):v=.str x:=by cases h;rfl
theorem Rep.inv_ty(h:Rep K ρ H (.ty n) v):v=.ty n:=by cases h;rfl
theorem Rep.inv_tup(h:Rep K ρ H (.tup ds) v):∃a vs,v=.ref a/\SqT K H a vs/\Reps K ρ H ds vs:=by cases h with | tup h r=>exact⟨_,_,rfl,h,r⟩
theorem Rep.inv_ref(h:Rep K ρ H (.ref n) v):∃a,v=.ref a/\ρ[n]?=some a:=by cases h with | ref h=>exact⟨_,rfl,h⟩
theorem aw.inv_cons(h:aw (x::vs) us):∃u ws,us=u::ws/\aL x u/\aw vs ws:=by cases h with | cons h t=>exact⟨_,_,rfl,h,t⟩
theorem aw.inv_nil(h:aw [] us):us=[]:=by cases h;rfl
theorem Reps.inv_nil(h:Reps K ρ H [] vs):vs=[]:=by cases h;rfl
theorem Reps.inv_cons(h:Reps K ρ H (d::ds) vs):∃v ws,vs=v::ws/\Rep K ρ H d v/\Reps K ρ H ds ws:=by cases h with | cons h t=>exact⟨_,_,rfl,h,t⟩
end
end L2
namespace L2
open PySem PySem.Spec PyProof.Rows DL
theorem PE.imp(h:PE X e t')(i:∀σ H R,t σ H R->t' σ H R):PE X e t:=λpins s σ H R I q=>h pins s σ H R I (i σ H R q)
theorem PT.imp(h:PT X e t')(i:∀σ H R,t σ H R->t' σ H R):PT X e t:=λpins s σ H R I q=>h pins s σ H R I (i σ H R q)
theorem PW.imp(h:PW X e t')(i:∀σ H R,t σ H R->t' σ H R):PW X e t:=λw pins s σ H R I q=>h w pins s σ H R I (i σ H R q)
theorem PA.imp(h:PA X e t')(i:∀σ H R,t σ H R->t' σ H R):PA X e t:=λpos pins s σ H R I q=>h pos pins s σ H R I (i σ H R q)
theorem PS.imp(h:PS X e t')(i:∀E σ H,t E σ H->t' E σ H):PS X e t:=λpins s σ H R I q=>h pins s σ H R I (i R σ H q)
theorem PSs.imp(h:PSs X e t')(i:∀E σ H,t E σ H->t' E σ H):PSs X e t:=λpins s σ H R I q=>h pins s σ H R I (i R σ H q)
theorem OpR.imp(h:OpR X f r')(i:∀x y H R,r x y H R->r' x y H R):OpR X f r:=λpins s σ H x y v u R I a b q=>h pins s σ H x y v u R I a b (i x y H R q)
theorem fZ.imp(h:fZ X f r')(i:∀xs H R,r xs H R->r' xs H R):fZ X f r:=λpins s σ H xs us R I a q=>h pins s σ H xs us R I a (i xs H R q)
section
variable{X:Cx}{a b c:Expr}{ta tb tc:DTE}{pos:Pos}
def ab(i:Nat):DTE:=λS M Q=>match S[i]? with
 | some (some d)=>Q d M
 | _=>False
def dC(d:D):DTE:=λ_ M Q=>Q d M
theorem yB{K:AA4}{i:Nat}(σ:St)(H:Hp)(R:VK)(h:lowE K (ab i) σ H R):tVar i σ H R:=by
 obtain⟨S,M,ρ,Q,s,r,q,k⟩:=h
 unfold ab at q
 cases e:S[i]? with
 | none=>rw[e]at q;exact q.elim
 | some o =>
  cases o with
  | none=>rw[e]at q;exact q.elim
  | some d =>
   rw[e]at q
   obtain⟨v,hv,rv⟩:=r.get i d e
   exact⟨v,hv,k v H (VQ.now s rv q)⟩
theorem d_var(hN:X.N[i]?=some x:=by rfl)(hv:Vis X.env.scope x:=by first | exact Or.inl rfl | exact Or.inr (Or.inl rfl) | exact Or.inr (Or.inr rfl))(hd:(x==("__debug__":Str))=false:=by decide)
  (hcd:(x==("__classdict__":Str))=false:=by decide):DE X (.Name x pos) (ab i):=PE.imp (zC hN hv hd hcd) yB
def cV:D->Option V
 | .non=>some .non
 | .bl b=>some (.bl b)
 | .int i=>some (.int i)
 | .str x=>some (.str x)
 | .ty n=>some (.ty n)
 | _=>none
theorem xy{K:AA4}{ρ:List Addr}{H:Hp}{d:D}{v:V}(h:cV d=some v):Rep K ρ H d v:=by
 cases d with
 | non=>cases h;exact .non
 | bl b=>cases h;exact .bl b
 | int b=>cases h;exact .int b
 | str b=>cases h;exact .str b
 | ty b=>cases h;exact .ty b
 | tup b=>cases h
 | ref b=>cases h
theorem sA{K:AA4}{d:D}{v:V}(hd:cV d=some v)(σ:St)(H:Hp)(R:VK)(h:lowE K (dC d) σ H R):tC v σ H R:=by
 obtain⟨S,M,ρ,Q,s,r,q,k⟩:=h
 exact k v H (VQ.now s (xy hd) q)
theorem d_int{i:Int}{j:Nat}:DE X (.Constant (.int i) j pos) (dC (.int i)):=PE.imp Dr (sA rfl)
theorem d_bl{i:Bool}{j:Nat}:DE X (.Constant (.bool i) j pos) (dC (.bl i)):=PE.imp pe_bl (sA rfl)
theorem d_non{j:Nat}:DE X (.Constant .none j pos) (dC .non):=PE.imp Dp (sA rfl)
theorem d_str{i:Str}{j:Nat}:DE X (.Constant (.str i) j pos) (dC (.str i)):=PE.imp Dm (sA rfl)
theorem low2{K:AA4}{S:SD}{M:Mem}{ρ:List Addr}{σ:St}{H:Hp}{P:D->D->Mem->Prop}{G:V->V->Hp->Prop}(s:Sim K ρ M H)(r:SRep K ρ H S σ)(h:ta S M λx M1=>tb S M1 λy M2=>P x y M2)
  (k:∀x y vx vy M2 ρ2 H2,Sim K ρ2 M2 H2->Grow K ρ H ρ2 H2->Rep K ρ2 H2 x vx->Rep K ρ2 H2 y vy->P x y M2->G vx vy H2):lowE K ta σ H λvx H1=>lowE K tb σ H1 λvy H2=>G vx vy H2:=by
 refine⟨S,M,ρ,_,s,r,h,λvx H1 ⟨x,M1,ρ1,s1,g1,r1,q1⟩=>⟨S,M1,ρ1,_,s1,r.grow g1,q1,λvy H2 ⟨y,M2,ρ2,s2,g2,r2,q2⟩=>?_⟩⟩
 exact k x y vx vy M2 ρ2 H2 s2 (g1.trans g2) (r1.grow g2) r2 q2
def dOp(r:DR2)(ta tb:DTE):DTE:=λS M Q=>ta S M λx M1=>tb S M1 λy M2=>r x y M2 Q
theorem mH{K:AA4}{r:DR2}(σ:St)(H:Hp)(R:VK)(h:lowE K (dOp r ta tb) σ H R):tOp (lowR K r) (lowE K ta) (lowE K tb) σ H R:=by
 obtain⟨S,M,ρ,Q,s,sr,q,k⟩:=h
 exact low2 s sr q λx y vx vy M2 ρ2 H2 s2 g2 r1 r2 q2=>⟨x,y,M2,ρ2,Q,s2,r1,r2,q2,λv H' w=>k v H' (VQ.trans g2 w)⟩
theorem d_op(ho:OpD X (binaryOp op) r)(ha:DE X a ta)(hb:DE X b tb):DE X (.BinOp a op b pos) (dOp r ta tb):=PE.imp (pe_op ho ha hb) mH
theorem d_cmp(ho:OpD X (compareOp op) r)(ha:DE X a ta)(hb:DE X b tb)(hm:behindInMarks op b=false:=by with_unfolding_all rfl):DE X (.Compare a [op] [b] pos) (dOp r ta tb):=PE.imp (AZ ho ha hb hm) mH
def aK(t:DTE):DTT:=λS M Q=>t S M λx M'=>match x with
 | .bl b=>Q b M'
 | _=>False
theorem oJ{K:AA4}{t:DTE}(σ:St)(H:Hp)(R:Bool->Hp->Prop)(h:lowT K (aK t) σ H R):CJ (lowE K t) σ H R:=by
 obtain⟨S,M,ρ,Q,s,sr,q,k⟩:=h
 refine⟨S,M,ρ,_,s,sr,q,λv H' ⟨d,M',ρ',s',g',r',q'⟩=>?_⟩
 cases r' with
 | bl b=>exact⟨b,rfl,k b H' ⟨M',ρ',s',g',q'⟩⟩
 | _=>exact q'.elim
theorem ER(ho:OpD X (compareOp op) r)(ha:DE X a ta)(hb:DE X b tb)(hm:behindInMarks op b=false:=by with_unfolding_all rfl):DT X (.Compare a [op] [b] pos) (aK (dOp r ta tb)):=by
 refine PT.imp (AR ho ha hb hm) λσ H R h=>?_
 obtain⟨S,M,ρ,Q,s,sr,q,k⟩:=oJ σ H R h
 exact mH σ H _ ⟨S,M,ρ,Q,s,sr,q,k⟩
theorem EO(h:DE X e t)(he:∀whole,isTrue e X.env whole=(do let v ←whole;standAt e.pos;holding [v] (truthy v)):=by intro _;rfl):DT X e (aK t):=PT.imp (Dd h he) oJ
def onB(z:D)(k:Bool->Prop):Prop:=match z with
 | .bl b=>k b
 | _=>False
theorem zD{b:Bool}{k:Bool->Prop}:onB (.bl b) k=k b:=rfl
variable{tA tB:DTT}{aI:List Expr}
def Fj(t u:DTT):DTT:=λS M Q=>t S M λb M1=>if b=true then u S M1 Q else Q false M1
def dOr(t u:DTT):DTT:=λS M Q=>t S M λb M1=>if b=true then Q true M1 else u S M1 Q
def dNot(t:DTT):DTT:=λS M Q=>t S M λb M1=>Q (!b) M1
theorem BP(ha:DT X a tA):DW X (.BoolOp .And [a] pos) tA:=AM ha
theorem EM(ha:DT X a tA):DW X (.BoolOp .Or [a] pos) tA:=Db ha
theorem EN(ha:DT X a tA)(hb:DW X (.BoolOp .And (b::aI) pos) tB):DW X (.BoolOp .And (a::b::aI) pos) (Fj tA tB):=by
 refine PW.imp (Dc ha hb) λσ H R ⟨S,M,ρ,Q,s,sr,q,k⟩=>⟨S,M,ρ,_,s,sr,q,λc H1 ⟨M1,ρ1,s1,g1,q1⟩=>?_⟩
 cases c with
 | true=>exact da ⟨S,M1,ρ1,Q,s1,sr.grow g1,(show tB S M1 Q from q1),λv H' w=>k v H' (BQ.trans g1 w)⟩
 | false=>exact cD (k false H1 ⟨M1,ρ1,s1,g1,q1⟩)
theorem dw_or(ha:DT X a tA)(hb:DW X (.BoolOp .Or (b::aI) pos) tB):DW X (.BoolOp .Or (a::b::aI) pos) (dOr tA tB):=by
 refine PW.imp (pw_or ha hb) λσ H R ⟨S,M,ρ,Q,s,sr,q,k⟩=>⟨S,M,ρ,_,s,sr,q,λc H1 ⟨M1,ρ1,s1,g1,q1⟩=>?_⟩
 cases c with
 | false=>exact cD ⟨S,M1,ρ1,Q,s1,sr.grow g1,(show tB S M1 Q from q1),λv H' w=>k v H' (BQ.trans g1 w)⟩
 | true=>exact da (k true H1 ⟨M1,ρ1,s1,g1,q1⟩)
theorem dw_t(h:DW X e t):DT X e t:=PW.pt h
theorem EQ(ha:DT X a tA):DT X (.UnaryOp .Not a pos) (dNot tA) :=
 PT.imp (De ha) λσ H R ⟨S,M,ρ,Q,s,sr,q,k⟩=>⟨S,M,ρ,_,s,sr,q,λc H1 ⟨M1,ρ1,s1,g1,q1⟩=>k (!c) H1 ⟨M1,ρ1,s1,g1,q1⟩⟩
def qT(ta tb:DTE):DTE:=λS M Q=>ta S M λx M1=>onB x λb=>if b=true then tb S M1 Q else Q (.bl false) M1
def dOrV(ta tb:DTE):DTE:=λS M Q=>ta S M λx M1=>onB x λb=>if b=true then Q (.bl true) M1 else tb S M1 Q
theorem d_one{op}(h:DE X a ta):DE X (.BoolOp op [a] pos) ta:=Do h
theorem d_and(ha:DE X a ta)(hb:DE X (.BoolOp .And (b::aI) pos) tb):DE X (.BoolOp .And (a::b::aI) pos) (qT ta tb):=by
 refine PE.imp (Dt ha hb) λσ H R ⟨S,M,ρ,Q,s,sr,q,k⟩=>⟨S,M,ρ,_,s,sr,q,λv H1 ⟨d,M1,ρ1,s1,g1,r1,q1⟩=>?_⟩
 cases r1 with
 | bl c =>
  cases c with
  | true=>exact⟨true,rfl,da ⟨S,M1,ρ1,Q,s1,sr.grow g1,(show tb S M1 Q from q1),λv H' w=>k v H' (VQ.trans g1 w)⟩⟩
  | false=>exact⟨false,rfl,cD (k _ H1 ⟨_,M1,ρ1,s1,g1,.bl false,(show Q (.bl false) M1 from q1)⟩)⟩
 | _=>exact q1.elim
theorem d_or(ha:DE X a ta)(hb:DE X (.BoolOp .Or (b::aI) pos) tb):DE X (.BoolOp .Or (a::b::aI) pos) (dOrV ta tb):=by
 refine PE.imp (pe_or ha hb) λσ H R ⟨S,M,ρ,Q,s,sr,q,k⟩=>⟨S,M,ρ,_,s,sr,q,λv H1 ⟨d,M1,ρ1,s1,g1,r1,q1⟩=>?_⟩
 cases r1 with
 | bl c =>
  cases c with
  | false=>exact⟨false,rfl,cD ⟨S,M1,ρ1,Q,s1,sr.grow g1,(show tb S M1 Q from q1),λv H' w=>k v H' (VQ.trans g1 w)⟩⟩
  | true=>exact⟨true,rfl,da (k _ H1 ⟨_,M1,ρ1,s1,g1,.bl true,(show Q (.bl true) M1 from q1)⟩)⟩
 | _=>exact q1.elim
variable{e:Expr}{es:List Expr}{te:DTE}{t:DTA}
def ag:DTA:=λ_ M Q=>Q [] M
def aa(te:DTE)(t:DTA):DTA:=λS M Q=>te S M λd M1=>t S M1 λds M2=>Q (d::ds) M2
theorem Fe:DA X [] ag:=PA.imp Du λσ H R ⟨S,M,ρ,Q,s,sr,q,k⟩=>k [] H ⟨[],M,ρ,s,.refl,.nil,q⟩
theorem Cc(ha:DE X e te)(hr:DA X es t)(hs:starEach (e::es) X.env=(false,eval e X.env)::starEach es X.env:=by rfl):DA X (e::es) (aa te t) :=
 PA.imp (Bb ha hr hs) λσ H R ⟨S,M,ρ,Q,s,sr,q,k⟩=>⟨S,M,ρ,_,s,sr,q,λv H1 ⟨d,M1,ρ1,s1,g1,r1,q1⟩=>⟨S,M1,ρ1,_,s1,sr.grow g1,q1,λvs H2 ⟨ds,M2,ρ2,s2,g2,r2,q2⟩ =>
  k _ H2 ⟨d::ds,M2,ρ2,s2,g1.trans g2,.cons (r1.grow g2) r2,q2⟩⟩⟩
def gY(t:DTA):DTE:=λS M Q=>t S M λds M1=>ds.length<=sizeLine/\Q (.tup ds) M1
def kg(t:DTA):DTE:=λS M Q=>t S M λds M1=>ds.length<=sizeLine/\Q (.ref M1.length) (M1++[.lst ds])
theorem VQ.laidT{K:AA4}{ρ ρ1:List Addr}{H H1:Hp}{M1:Mem}{ds:List D}{vs:List V}{Q:DK}{p:Addr}(s1:Sim K ρ1 M1 H1)(g1:Grow K ρ H ρ1 H1)(r1:Reps K ρ1 H1 ds vs)(hp:H1 p=none)(q:Q (.tup ds) M1):VQ K ρ H Q (.ref p) (upd H1 p (.tup vs)) :=
 ⟨.tup ds,M1,ρ1,s1.laid hp,g1.trans (Grow.laid hp),.tup (SqT.of aH) (r1.grow (Grow.laid hp)),q⟩
theorem VQ.laidL{K:AA4}{ρ ρ1:List Addr}{H H1:Hp}{M1:Mem}{ds:List D}{vs:List V}{Q:DK}{p:Addr}(s1:Sim K ρ1 M1 H1)(g1:Grow K ρ H ρ1 H1)(r1:Reps K ρ1 H1 ds vs)(hp:H1 p=none)(q:Q (.ref M1.length) (M1++[.lst ds])):VQ K ρ H Q (.ref p) (upd H1 p (.lst vs)) :=
 ⟨.ref M1.length,M1++[.lst ds],ρ1++[p],s1.laidL hp r1,g1.trans (Grow.laidR hp),.ref s1.last,q⟩
theorem d_tup{x1}(h:DA X es t):DE X (.Tuple es x1 pos) (gY t) :=
 PE.imp (Dl h) λσ H R ⟨S,M,ρ,Q,s,sr,q,k⟩=>⟨S,M,ρ,_,s,sr,q,λvs H1 ⟨ds,M1,ρ1,s1,g1,r1,z,q1⟩=>⟨by rw[←r1.length];exact z,λp hp=>k _ _ (VQ.laidT s1 g1 r1 hp q1)⟩⟩
theorem d_lst(h:DA X es t):DE X (.List es pos) (kg t) :=
 PE.imp (Dq h) λσ H R ⟨S,M,ρ,Q,s,sr,q,k⟩=>⟨S,M,ρ,_,s,sr,q,λvs H1 ⟨ds,M1,ρ1,s1,g1,r1,z,q1⟩=>⟨by rw[←r1.length];exact z,λp hp=>k _ _ (VQ.laidL s1 g1 r1 hp q1)⟩⟩
def dCB(r:DRA)(t:DTA):DTE:=λS M Q=>t S M λds M1=>r ds M1 Q
theorem wg{K:AA4}{r:DRA}(σ:St)(H:Hp)(R:VK)(h:lowE K (dCB r t) σ H R):tCB (lowC K r) (lowA K t) σ H R:=by
 obtain⟨S,M,ρ,Q,s,sr,q,k⟩:=h
 exact⟨S,M,ρ,_,s,sr,q,λvs H1 ⟨ds,M1,ρ1,s1,g1,r1,q1⟩=>⟨ds,M1,ρ1,Q,s1,r1,q1,λv H' w=>k v H' (VQ.trans g1 w)⟩⟩
theorem Ce{x:Str}{p:Pos}{id:String}{r:DRA}(hc:pR X (.builtin id) r)(hm:X.mg x=none)(hv:bootBuiltins x=some (.builtin id))(ha:DA X (e::es) t)(hg:Gl X x:=by rfl)(hn:x≠"__name__":=by decide)(hdb:(x==("__debug__":Str))=false:=by decide)
  (he:starEach (e::es) X.env=(false,eval e X.env)::starEach es X.env:=by rfl) (hpl:(backTo pos (starEach es X.env)).any (·.1)=false:=by rfl):DE X (.Call (.Name x p) (e::es) [] pos) (dCB r t) :=
 PE.imp (yi hc hg hm hv ha hn hdb he hpl) wg
theorem zk(hc:pR X (.type T) r)(hm:X.mg x=none)(hv:bootBuiltins x=some (.type T))(ha:DA X (e::es) t)(hg:Gl X x:=by rfl)(hn:x≠"__name__":=by decide)(hdb:(x==("__debug__":Str))=false:=by decide)
  (he:starEach (e::es) X.env=(false,eval e X.env)::starEach es X.env:=by rfl) (hpl:(backTo pos (starEach es X.env)).any (·.1)=false:=by rfl):DE X (.Call (.Name x p) (e::es) [] pos) (dCB r t) :=
 PE.imp (vN hc hg hm hv ha hn hdb he hpl) wg
abbrev DSp:=List D->Mem->DK->Prop
def spL(K:AA4)(P:DSp):Sp:=λvs H Q _=>∃ds M ρ R,Sim K ρ M H/\Reps K ρ H ds vs/\P ds M R/\∀v H',VQ K ρ H R v H'->Q v H'
theorem we{K:AA4}{P:DSp}(σ:St)(H:Hp)(R:VK)(h:lowE K (dCB P t) σ H R):CM (spL K P) [] E0 (lowA K t) σ H R:=by
 obtain⟨S,M,ρ,Q,s,sr,q,k⟩:=h
 exact⟨S,M,ρ,_,s,sr,q,λvs H1 ⟨ds,M1,ρ1,s1,g1,r1,q1⟩=>⟨ds,M1,ρ1,Q,s1,by rw[ABI];exact r1,q1,λv H' w=>k v H' (VQ.trans g1 w)⟩⟩
theorem Fi(F:FnOk X.prog X.w X.K X.mg X.base CX0 k f fd ps (spL X.K P))(hr:Room k X.A)(hm:X.mg x=some (.ref f))(hk:ACS X.K (.ref f)=true)(hb:pS X.K fd ps [])
  (ha:DA X (e::es) t) (hg:Gl X x:=by rfl) (hdb:(x==("__debug__":Str))=false:=by decide) (he:starEach (e::es) X.env=(false,eval e X.env)::starEach es X.env:=by rfl) (hpl:(backTo pos (starEach es X.env)).any (·.1)=false:=by rfl) :
  DE X (.Call (.Name x p) (e::es) [] pos) (dCB P t):=PE.imp (Ba F hr hg hm hk hb .nil pass0 ha hdb he hpl) we
end
section
variable{X:Cx}{st:Stmt}{aI:List Stmt}{t u:DTS}{e:Expr}{te:DTE}{pos:Pos}
def bo:DTS:=λE S M=>E.nx S M
def aB(t u:DTS):DTS:=λE S M=>t { E with nx:=λS' M'=>u E S' M' } S M
theorem EV:DSs X [] bo:=PSs.imp AT λE σ H ⟨S,M,ρ,F,s,sr,q,k⟩=>k.nx σ H ⟨S,M,ρ,s,.refl,sr,q⟩
theorem EU(h:DS X st t):DSs X [st] t:=AS h
theorem BV(h1:DS X st t)(h2:DSs X aI u):DSs X (st::aI) (aB t u) :=
 PSs.imp (yb h1 h2) λE σ H ⟨S,M,ρ,F,s,sr,q,k⟩=>⟨S,M,ρ,_,s,sr,q,⟨λσ' H' ⟨S',M',ρ',s',g',sr',q'⟩=>⟨S',M',ρ',F,s',sr',q',k.trans g'⟩,k.rt,k.bk,k.ct⟩⟩
def iT(te:DTE):DTS:=λE S M=>te S M λ_ M1=>E.nx S M1
theorem BU(he:DE X e te)(hs:swapsWith e none pos.line X.env=pure false:=by rfl):DS X (.Expr e pos) (iT te) :=
 PS.imp (AU he hs) λE σ H ⟨S,M,ρ,F,s,sr,q,k⟩=>⟨S,M,ρ,_,s,sr,q,λv H1 ⟨d,M1,ρ1,s1,g1,r1,q1⟩=>k.nx σ H1 ⟨S,M1,ρ1,s1,g1,sr.grow g1,q1⟩⟩
def bE(te:DTE):DTS:=λE S M=>te S M E.rt
theorem ET(he:DE X e te):DS X (.Return (some e) pos) (bE te) :=
 PS.imp (Dg he) λE σ H ⟨S,M,ρ,F,s,sr,q,k⟩=>⟨S,M,ρ,_,s,sr,q,λv H1 w=>k.rt v H1 w⟩
def dIf(c:DTT)(t u:DTS):DTS:=λE S M=>c S M λb M1=>if b=true then t E S M1 else u E S M1
theorem ds_if(hc:DT X c tc)(ha:DSs X a t)(hb:DSs X b u):DS X (.If c a b pos) (dIf tc t u):=by
 refine PS.imp (ps_if hc ha hb) λE σ H ⟨S,M,ρ,F,s,sr,q,k⟩=>⟨S,M,ρ,_,s,sr,q,λc H1 ⟨M1,ρ1,s1,g1,q1⟩=>?_⟩
 cases c with
 | true=>exact da ⟨S,M1,ρ1,F,s1,sr.grow g1,(show t F S M1 from q1),k.trans g1⟩
 | false=>exact cD ⟨S,M1,ρ1,F,s1,sr.grow g1,(show u F S M1 from q1),k.trans g1⟩
def aY(te:DTE)(i:Nat):DTS:=λE S M=>te S M λd M1=>E.nx (S.set i (some d)) M1
theorem ES(hN:X.N.Nodup)(he:DE X e te)(hi:X.N[i]?=some x:=by rfl)(hx:Loc X.env.scope x:=by first | exact Or.inl rfl | exact Or.inr rfl)(hs:swapsWith e (some (.Name x pos')) pos.line X.env=pure false:=by rfl)
  (hf:X.fn x=true\/X.env.scope.names.lookup x=some .local:=by first | exact .inl rfl | exact .inr rfl | assumption):DS X (.Assign [.Name x pos'] e pos) (aY te i) :=
 PS.imp (Df hN hi hx he hs hf) λE σ H ⟨S,M,ρ,F,s,sr,q,k⟩=>⟨S,M,ρ,_,s,sr,q,λv H1 ⟨d,M1,ρ1,s1,g1,r1,q1⟩=>k.nx _ H1 ⟨_,M1,ρ1,s1,g1,(sr.grow g1).set i r1,q1⟩⟩
def au(i:Nat):DTG:=λd S M Q=>Q (S.set i (some d)) M
theorem qQ(hN:X.N.Nodup)(hi:X.N[i]?=some x:=by rfl)(hx:Loc X.env.scope x:=by first | exact Or.inl rfl | exact Or.inr rfl)(hf:X.fn x=true\/X.env.scope.names.lookup x=some .local:=by first | exact .inl rfl | exact .inr rfl | assumption):DG X (.Name x pos) (au i) :=
 λpins s σ H v u R I r ⟨d,S,M,ρ,Q,sm,sr,rd,q,k⟩=>AY hN hi hx hf pins s σ H v u R I r (k _ H ⟨_,M,ρ,sm,.refl,sr.set i rd,q⟩)
end
end L2
namespace L2
open PySem PySem.Spec PyProof.Rows DL
theorem tH{P:Program}{w:World}{K:AA4}{tg:Expr}(it:Addr)(n:Nat)(PV:Nat->Value->Prop)(PX:Nat->V->Prop)(Sx:Nat->Heap->Prop)
  (W:∀A':Around,A'.handled=none->Walks P w A' it [it] [it] n PV Sx) (hrel:∀i v,PV i v->∃x,aL x v/\PX i x)
  (hobj:∀i h,Sx i h->∃(o:Obj) (nm:String) (vs:Array Value),h.get? it=some o/\o.cls=.type nm/\o.data=.fields vs/\["enumerate","zip","dict_itemiterator","dict_reverseitemiterator","odict_iterator","itertools.zip_longest","itertools.pairwise"].contains nm=false)
  (hframe:∀(i:Nat) (h h':Heap),Sx i h->(∀o,h.get? it=some o->h'.get? it=some o)->Sx i h')
  (hself:∀(A:Around) (i:Nat) (s:Shared) (Q:Value->Shared->Prop) (E:Value->Shared->Prop),Sx i s.heap->Q (.ref it) s->wpAny (model P w) A (pyIter (.ref it)) Q E s) :
  Turn P w K tg ⟨λi _=>i<n,λi H x H'=>H'=H/\PX i x,λi _=>i=n⟩ [it] it Sx where
 mem:=by simp
 obj:=λi h st b hb=>by
  have e:b=it:=by simpa using hb
  subst e
  obtain⟨o,nm,vs,e,_,d,_⟩:=hobj i h st
  exact⟨o,e,λv z=>by rw[d]at z;cases z⟩
 keep:=λi h h' st k=>hframe i h h' st λo e=>k it (by simp) o e
 item:=by
  intro X hP hw hK hc i pins s σ H E I hf st hg
  subst hP hw hK
  obtain⟨f0,f1,f2,f3,f4,f5⟩:=hf it (by simp)
  refine(W X.A (I.ok.hd hc)).item i s _ _ hg st λv h' tk hv st' kk=>?_
  obtain⟨x,rx,px⟩:=hrel i v hv
  have I1:Inv X pins σ H { s with heap:=h',toks:=tk }:=I.turned (λb o hb e=>kk b o (by simpa using hb) e) f0 f1 f3 f4 f5
  obtain⟨o,nm,vs,e,c,d,hn⟩:=hobj _ _ st'
  exact⟨v,rfl,qL (s:={ s with heap:=h',toks:=tk }) e c d hn ⟨x,H,I1,rx,⟨rfl,px⟩,st',λb hb=>(hf b hb).1⟩⟩
 done:=by
  intro X hP hw hK hc i pins s σ H E I hf st hg
  subst hP hw hK
  obtain⟨f0,f1,f2,f3,f4,f5⟩:=hf it (by simp)
  have hi:i=n:=hg
  subst hi
  exact(W X.A (I.ok.hd hc)).done s _ _ st λh' tk kk=>⟨rfl,I.turned (λb o hb e=>kk b o (by simpa using hb) e) f0 f1 f3 f4 f5⟩
 self:=hself
def vB(x:Str):List D:=x.cps.toList.map λc=>.str ⟨#[c]⟩
structure Src where
 items:List D
 ok:Mem->Prop
abbrev DTI:=SD->Mem->(Src->Mem->Prop)->Prop
structure ItD(K:AA4)(src:Src)(ρ0:List Addr)(H0:Hp)(J:It):Prop where
 go:∀(i:Nat) ρ M H,Sim K ρ M H->Grow K ρ0 H0 ρ H->src.ok M->i<src.items.length->J.go i H
 yld:∀(i:Nat) ρ M H x H',Sim K ρ M H->Grow K ρ0 H0 ρ H->src.ok M->i<src.items.length->J.yld i H x H'->∃d ρ',src.items[i]?=some d/\Sim K ρ' M H'/\Grow K ρ H ρ' H'/\Rep K ρ' H' d x
 stop:∀(ρ:List Addr) M H,Sim K ρ M H->Grow K ρ0 H0 ρ H->src.ok M->J.stop src.items.length H
def IQ(K:AA4)(ρ:List Addr)(H:Hp)(Q:Src->Mem->Prop):It->Hp->Prop:=λJ H'=>∃src M' ρ',Sim K ρ' M' H'/\Grow K ρ H ρ' H'/\ItD K src ρ' H' J/\Q src M'
def lowI(K:AA4)(di:DTI):TI:=λσ H R=>∃S M ρ Q,Sim K ρ M H/\SRep K ρ H S σ/\di S M Q/\∀J H',IQ K ρ H Q J H'->R J H'
def DI(X:Cx)(tg iter:Expr)(di:DTI):Prop:=PI X tg iter (lowI X.K di)
theorem ItD.tup{K:AA4}{ρ:List Addr}{H:Hp}{a:Addr}{vs:List V}{ds:List D}(h:SqT K H a vs)(r:Reps K ρ H ds vs)(uniq:∀ys,SqT K H a ys->ys=vs):ItD K ⟨ds,λ_=>True⟩ ρ H (Itt K a) where
 go:=λi ρ' M H' s g _ hi=>by
  have hl:i<vs.length:=by rw[←r.length];exact hi
  exact⟨vs,vs[i],g.tup a vs h,AA5 hl⟩
 yld:=λi ρ' M H' x H2 s g _ hi y=>by
  obtain⟨rfl,y⟩:=y
  obtain⟨d,hd,rd⟩:=(r.grow g).getV (y vs (g.tup a vs h))
  exact⟨d,ρ',hd,s,.refl,rd⟩
 stop:=λρ' M H' s g _=>⟨vs,g.tup a vs h,by rw[←r.length];exact AA8 _⟩
theorem ItD.lst{K:AA4}{ρ:List Addr}{H:Hp}{n:Nat}{a:Addr}{ds:List D}(e:ρ[n]?=some a):ItD K ⟨ds,λM=>am M n ds⟩ ρ H (Itl K a) where
 go:=λi ρ' M H' s g ok hi=>by
  obtain⟨vs,h,r⟩:=am.seq s ok (av g.pre e)
  have hl:i<vs.length:=by rw[←r.length];exact hi
  exact⟨vs,vs[i],h,AA5 hl⟩
 yld:=λi ρ' M H' x H2 s g ok hi y=>by
  obtain⟨rfl,y⟩:=y
  obtain⟨vs,h,r⟩:=am.seq s ok (av g.pre e)
  obtain⟨d,hd,rd⟩:=r.getV (y vs h)
  exact⟨d,ρ',hd,s,.refl,rd⟩
 stop:=λρ' M H' s g ok=>by
  obtain⟨vs,h,r⟩:=am.seq s ok (av g.pre e)
  exact⟨vs,h,by rw[←r.length];exact AA8 _⟩
theorem ItD.plain{K:AA4}{ρ:List Addr}{H:Hp}{ds:List D}{J:It}(hg:∀i H,i<ds.length->J.go i H)(hy:∀i H x H',i<ds.length->J.yld i H x H'->H'=H/\∃d,ds[i]?=some d/\cV d=some x)(hs:∀H,J.stop ds.length H):ItD K ⟨ds,λ_=>True⟩ ρ H J where
 go:=λi ρ' M H' s g _ hi=>hg i H' hi
 yld:=λi ρ' M H' x H2 s g _ hi y=>by
  obtain⟨rfl,d,hd,hv⟩:=hy i _ x H2 hi y
  exact⟨d,ρ',hd,s,.refl,xy hv⟩
 stop:=λρ' M H' s g _=>hs H'
section
variable{X:Cx}{tg:Expr}
def bT(te:DTE):DTI:=λS M R=>te S M λd M1=>match d with
 | .tup ds=>ds.length<=sizeLine->R ⟨ds,λ_=>True⟩ M1
 | .str x=>R ⟨vB x,λ_=>True⟩ M1
 | .ref n=>∃xs,am M1 n xs/\(xs.length<=sizeLine->R ⟨xs,λM=>am M n xs⟩ M1)
 | _=>False
theorem EY(hl:DE X l tl):DI X tg l (bT tl):=by
 intro pins s σ H R I h
 obtain⟨S,M,ρ,Q,sm,sr,q,k⟩:=h
 refine thn (hl pins s σ H _ I ⟨S,M,ρ,_,sm,sr,q,λv H' w=>w⟩) λu s1 ⟨v,H1,I1,rv,d,M1,ρ1,sm1,g1,r1,q1⟩=>?_
 cases r1 with
 | non=>exact q1.elim
 | bl b=>exact q1.elim
 | int i=>exact q1.elim
 | ty n=>exact q1.elim
 | @tup a vs ds hq r =>
  cases rv
  obtain⟨its,rr,p,hz⟩:=I1.tuple hq
  refine wpAny_pyIter_tuple (show s1.heap.IsTuple a its.toArray from p) ?_
  refine⟨s1.heap.objs.size,[s1.heap.objs.size],_,_,H1,rfl,I1.kept (t':=s1.toks) λb o e=>AA3 _ e,tI a _,⟨_,AAC _ rfl,rfl,rfl⟩,λb hb=>?_,k _ H1 ⟨⟨ds,λ_=>True⟩,M1,ρ1,sm1,g1,ItD.tup hq r λys hy=>I1.tuple_inj hy hq,?_⟩⟩
  ·have e:b=s1.heap.objs.size:=by simpa using hb
   subst e
   exact I1.fpOk (AA8 _) (I1.hok.fresh (AA8 _))
  ·exact(show ds.length<=sizeLine->Q ⟨ds,λ_=>True⟩ M1 from q1) (by rw[r.length];exact hz)
 | @ref n a hn =>
  cases rv
  obtain⟨xs,hL,q2⟩:=(show ∃xs,am M1 n xs/\(xs.length<=sizeLine->Q ⟨xs,λM=>am M n xs⟩ M1)from q1)
  obtain⟨vs,hq,r⟩:=am.seq sm1 hL hn
  obtain⟨its,rr,p,hz⟩:=I1.list hq
  refine wpAny_pyIter_list p.isList ?_
  refine⟨s1.heap.objs.size,[s1.heap.objs.size],_,_,H1,rfl,I1.kept (t':=s1.toks) λb o e=>AA3 _ e,uG a _,⟨_,AAC _ rfl,rfl,rfl⟩,λb hb=>?_,k _ H1 ⟨⟨xs,λM=>am M n xs⟩,M1,ρ1,sm1,g1,ItD.lst hn,q2 (by rw[r.length];exact hz)⟩⟩
  have e:b=s1.heap.objs.size:=by simpa using hb
  subst e
  exact I1.fpOk (AA8 _) (I1.hok.fresh (AA8 _))
 | str x =>
  obtain⟨t,rfl⟩:=rv
  have fin:∀(nm:String) (ob:Obj),(ob.cls=.type nm/\ob.data=.fields #[.str x t,.int 0 0]) ->
    (∀A':Around,A'.handled=none->Walks X.prog X.w A' s1.heap.objs.size [s1.heap.objs.size] [s1.heap.objs.size] x.cps.size (SignAt x) (λi h=>h.IsStrIter s1.heap.objs.size nm x t i)) ->
    (∀(A:Around) (i:Nat) (s:Shared) (Q:Value->Shared->Prop) (E:Value->Shared->Prop),s.heap.IsStrIter s1.heap.objs.size nm x t i->Q (.ref s1.heap.objs.size) s->wpAny (model X.prog X.w) A (pyIter (.ref s1.heap.objs.size)) Q E s) ->
    ["enumerate","zip","dict_itemiterator","dict_reverseitemiterator","odict_iterator","itertools.zip_longest","itertools.pairwise"].contains nm=false->(s1.heap.push ob).IsStrIter s1.heap.objs.size nm x t 0 ->
    PIE X pins σ tg R (.ref s1.heap.objs.size) { s1 with heap:=s1.heap.push ob }:=λnm ob hob W hself hnm st=>by
   refine⟨s1.heap.objs.size,[s1.heap.objs.size],_,_,H1,rfl,I1.kept (t':=s1.toks) λb o e=>AA3 _ e,
    tH (PX:=λi v=>∃c,x.cps[i]?=some c/\v=.str ⟨#[c]⟩) _ _ _ _ W (λi v ⟨c,u,e1,e2⟩=>⟨.str ⟨#[c]⟩,⟨u,e2⟩,c,e1,rfl⟩) (λi h st=>?_) (λi h h' st k=>?_) hself,st,λb hb=>?_,k _ H1 ⟨⟨vB x,λ_=>True⟩,M1,ρ1,sm1,g1,ItD.plain ?_ ?_ ?_,q1⟩⟩
   ·obtain⟨o,e,c,d⟩:=st
    exact⟨o,nm,_,e,c,d,hnm⟩
   ·obtain⟨o,e,r⟩:=st
    exact⟨o,k o e,r⟩
   ·have e:b=s1.heap.objs.size:=by simpa using hb
    subst e
    exact I1.fpOk (AA8 _) (I1.hok.fresh (AA8 _))
   ·intro i _ hi
    simpa [vB]using hi
   ·rintro i H x' H' _ ⟨rfl,c,e,rfl⟩
    exact⟨rfl,.str ⟨#[c]⟩,by simp[vB,e],rfl⟩
   ·intro H
    simp[vB]
  cases ha:x.cps.all (· < 128)
  ·exact wpAny_pyIter_wide ha (fin _ _ ⟨rfl,rfl⟩ (λA' hA=>Walks.strWide hA _ x t) (λ_ _ _ _ _ st h=>wpAny_pyIter_striter_wide st h) (by decide) ⟨_,AAC _ rfl,rfl,rfl⟩)
  ·exact wpAny_pyIter_ascii ha (fin _ _ ⟨rfl,rfl⟩ (λA' hA=>Walks.strAscii hA _ x t) (λ_ _ _ _ _ st h=>wpAny_pyIter_striter_ascii st h) (by decide) ⟨_,AAC _ rfl,rfl,rfl⟩)
def pT(lo:Int)(n:Nat):List D:=(AAv n).map λi=>.int (lo+((i:Nat):Int))
theorem ItD.rng{K:AA4}{ρ:List Addr}{H:Hp}(lo:Int)(n:Nat):ItD K ⟨pT lo n,λ_=>True⟩ ρ H (Itr lo n):=by
 refine ItD.plain (λi _ hi=>?_) (λi H x H' hi y=>?_) λH=>?_
 ·show i<n
  simpa [pT]using hi
 ·obtain⟨e,rfl⟩:=y
  have hi':i<n:=by simpa [pT]using hi
  exact⟨e,.int (lo+i),by simp[pT,hi'],rfl⟩
 ·show n<=(pT lo n).length
  simp[pT]
def dI(ta:DTA):DTI:=λS M R=>ta S M λds M1=>match ds with
 | [.int j]=>(-(2 ^ 62)<=j/\j<2 ^ 62)/\R ⟨pT 0 j.toNat,λ_=>True⟩ M1
 | _=>False
def mX(ta:DTA):DTI:=λS M R=>ta S M λds M1=>match ds with
 | [.int i,.int j]=>(-(2 ^ 62)<=i/\i<2 ^ 62/\-(2 ^ 62)<=j/\j<2 ^ 62)/\R ⟨pT i (j-i).toNat,λ_=>True⟩ M1
 | _=>False
theorem PI.imp(h:PI X tg iter t')(i:∀σ H R,t σ H R->t' σ H R):PI X tg iter t:=λpins s σ H R I q=>h pins s σ H R I (i σ H R q)
theorem xp(hm:X.mg "range" = none)(ha:DA X [a] ta)(hg:Gl X "range":=by rfl)(hs:starEach [a] X.env=[(false,eval a X.env)]:=by rfl):DI X tg (.Call (.Name "range" p) [a] [] pos) (dI ta):=by
 refine PI.imp (vL hg hm ha hs) λσ H R ⟨S,M,ρ,Q,s,sr,q,k⟩=>⟨S,M,ρ,_,s,sr,q,λvs H1 ⟨ds,M1,ρ1,s1,g1,r1,q1⟩=>?_⟩
 try dsimp only at q1
 split at q1
 ·rename_i j
  obtain⟨⟨h1,h2⟩,q2⟩:=q1
  first | have hzz:=Reps.inv_cons r1 | have hzz:=aw.inv_cons r1
  clear r1
  obtain⟨_,_,rfl,r,t⟩:=hzz
  cases r
  cases t
  exact⟨j,rfl,h1,h2,k _ H1 ⟨_,M1,ρ1,s1,g1,ItD.rng 0 j.toNat,q2⟩⟩
 ·exact q1.elim
theorem xo(hm:X.mg "range" = none)(ha:DA X [a,b] ta)(hg:Gl X "range":=by rfl)(hs:starEach [a,b] X.env=[(false,eval a X.env),(false,eval b X.env)]:=by rfl)(hs2:starEach [b] X.env=[(false,eval b X.env)]:=by rfl) :
  DI X tg (.Call (.Name "range" p) [a,b] [] pos) (mX ta):=by
 refine PI.imp (vK hg hm ha hs hs2) λσ H R ⟨S,M,ρ,Q,s,sr,q,k⟩=>⟨S,M,ρ,_,s,sr,q,λvs H1 ⟨ds,M1,ρ1,s1,g1,r1,q1⟩=>?_⟩
 try dsimp only at q1
 split at q1
 ·rename_i i j
  obtain⟨h,q2⟩:=q1
  first | have hzz:=Reps.inv_cons r1 | have hzz:=aw.inv_cons r1
  clear r1
  obtain⟨_,_,rfl,r,t⟩:=hzz
  cases r
  cases t with
  | cons r t =>
   cases r
   cases t
   exact⟨i,j,rfl,h,k _ H1 ⟨_,M1,ρ1,s1,g1,ItD.rng i (j-i).toNat,q2⟩⟩
 ·exact q1.elim
end
end L2
namespace L2
open PySem PySem.Spec PyProof.Rows DL
mutual
inductive Bel(k:Nat):D->Prop
 | non:Bel k .non
 | bl (b:Bool):Bel k (.bl b)
 | int (i:Int):Bel k (.int i)
 | str (x:Str):Bel k (.str x)
 | ty (n:String):Bel k (.ty n)
 | tup {ds:List D} (h:Bels k ds):Bel k (.tup ds)
 | ref {n:Nat} (h:n<k):Bel k (.ref n)
inductive Bels(k:Nat):List D->Prop
 | nil:Bels k []
 | cons {d:D}{ds:List D} (h:Bel k d) (t:Bels k ds):Bels k (d::ds)
end
def MO.items:MO->List D
 | .lst xs=>xs
 | .fz xs=>xs
 | .kl xs=>xs
 | .dct kvs=>kvs.map (·.2)
 | .dkt kvs=>kvs.map (·.2)
 | .dkq kvs=>kvs.map (·.2)
 | .fdc _ kvs=>kvs.map (·.2)
 | .dkm kvs=>kvs.map (·.2)
 | .tb _ _=>[]
mutual
theorem Rep.bel{K:AA4}{ρ:List Addr}{H:Hp}:∀{d:D}{v:V},Rep K ρ H d v->Bel ρ.length d
 | _,_,.non=>.non
 | _,_,.bl b=>.bl b
 | _,_,.int i=>.int i
 | _,_,.str x=>.str x
 | _,_,.ty n=>.ty n
 | _,_,.tup h r=>.tup (Reps.bel r)
 | _,_,.ref h=>.ref (AA7.mp h).1
theorem Reps.bel{K:AA4}{ρ:List Addr}{H:Hp}:∀{ds:List D}{vs:List V},Reps K ρ H ds vs->Bels ρ.length ds
 | _,_,.nil=>.nil
 | _,_,.cons h t=>.cons (Rep.bel h) (Reps.bel t)
end
mutual
theorem Rep.cut{K:AA4}{ρ:List Addr}{H:Hp}{k:Nat}:∀{d:D}{v:V},Rep K ρ H d v->Bel k d->Rep K (ρ.take k) H d v
 | _,_,.non,_=>.non
 | _,_,.bl b,_=>.bl b
 | _,_,.int i,_=>.int i
 | _,_,.str x,_=>.str x
 | _,_,.ty n,_=>.ty n
 | _,_,.tup h r,.tup b=>.tup h (Reps.cut r b)
 | _,_,.ref h,.ref b=>.ref (by rw[ABW b];exact h)
theorem Reps.cut{K:AA4}{ρ:List Addr}{H:Hp}{k:Nat}:∀{ds:List D}{vs:List V},Reps K ρ H ds vs->Bels k ds->Reps K (ρ.take k) H ds vs
 | _,_,.nil,_=>.nil
 | _,_,.cons h t,.cons b c=>.cons (Rep.cut h b) (Reps.cut t c)
end
mutual
theorem Bel.mono{j k:Nat}(h:j<=k):∀{d:D},Bel j d->Bel k d
 | _,.non=>.non
 | _,.bl b=>.bl b
 | _,.int i=>.int i
 | _,.str x=>.str x
 | _,.ty n=>.ty n
 | _,.tup b=>.tup (Bels.mono h b)
 | _,.ref b=>.ref (AAZ b h)
theorem Bels.mono{j k:Nat}(h:j<=k):∀{ds:List D},Bels j ds->Bels k ds
 | _,.nil=>.nil
 | _,.cons b c=>.cons (Bel.mono h b) (Bels.mono h c)
end
theorem Bels.of:∀{xs:List D},(∀d∈xs,Bel k d)->Bels k xs
 | [],_=>.nil
 | d::ds,h=>.cons (h d AAI) (Bels.of λe he=>h e (AAA _ he))
section
variable{K:AA4}{ρ ρ':List Addr}{H H':Hp}{M M':Mem}
theorem sJ:∀(n:Nat) (d:D),cc n d=true->Bel k d:=by
 intro n
 induction n with
 | zero =>
  intro d h
  cases d with
  | str x=>exact .str x
  | int x=>exact .int x
  | _=>cases h
 | succ n ih =>
  intro d h
  cases d with
  | str x=>exact .str x
  | int x=>exact .int x
  | tup ds=>exact .tup (Bels.of λx hx=>ih x (AAa.mp (show ds.all (cc n)=true from h) x hx))
  | _=>cases h
theorem wA(r:Paired (uw K ρ H) kvs xs):Bels ρ.length (kvs.map (·.2)):=by
 induction r with
 | nil=>exact .nil
 | cons q _ ih =>
  obtain⟨_,_,_,v,q4,_⟩:=q
  exact .cons q4.bel ih
theorem wz(r:Paired (uw K ρ H) kvs xs)(b:Bels k (kvs.map (·.2))):Paired (uw K (ρ.take k) H) kvs xs:=by
 induction r with
 | nil=>exact .nil
 | cons q _ ih =>
  obtain⟨q1,q2,q3,v,q4,q5⟩:=q
  rw[AAi]at b
  cases b with
  | cons b1 b2=>exact .cons ⟨q1,q2,q3.cut (sJ _ _ q2),v,q4.cut b1,q5⟩ (ih b2)
theorem yO:∀(d:D),ue d=true->Bel k d
 | .non,_=>.non
 | .tup ks,h=>sJ 8 _ h
 | .bl _,h=>nomatch h
 | .int _,h=>nomatch h
 | .str _,h=>nomatch h
 | .ty _,h=>nomatch h
 | .ref _,h=>nomatch h
theorem BA(r:Paired (KvM K ρ H) kvs xs):Bels ρ.length (kvs.map (·.2)):=by
 induction r with
 | nil=>exact .nil
 | cons q _ ih =>
  obtain⟨_,_,_,v,q4,_⟩:=q
  exact .cons q4.bel ih
theorem Bz(r:Paired (KvM K ρ H) kvs xs)(b:Bels k (kvs.map (·.2))):Paired (KvM K (ρ.take k) H) kvs xs:=by
 induction r with
 | nil=>exact .nil
 | cons q _ ih =>
  obtain⟨q1,q2,⟨u,q3,q3'⟩,v,q4,q5⟩:=q
  rw[AAi]at b
  cases b with
  | cons b1 b2=>exact .cons ⟨q1,q2,⟨u,q3.cut (yO _ q2),q3'⟩,v,q4.cut b1,q5⟩ (ih b2)
theorem uz.bels(h:uz K ρ H a mo):Bels ρ.length mo.items:=by
 cases mo with
 | lst ds=>obtain⟨vs,_,r⟩:=h;exact r.bel
 | fz ds=>obtain⟨o,vs,_,r⟩:=h;exact r.bel
 | kl ds=>obtain⟨vs,_,r⟩:=h;exact r.bel
 | dct kvs=>obtain⟨vs,_,r⟩:=h;exact r.bel
 | dkt kvs=>obtain⟨_,_,_,xs,_,r⟩:=h;exact wA r
 | dkq kvs=>obtain⟨_,_,_,xs,_,r⟩:=h;exact wA r
 | fdc o kvs=>obtain⟨vs,_,r⟩:=h;exact r.bel
 | dkm kvs=>obtain⟨_,_,_,xs,_,r⟩:=h;exact BA r
 | tb x b=>exact .nil
theorem uz.cut(h:uz K ρ H a mo)(b:Bels k mo.items):uz K (ρ.take k) H a mo:=by
 cases mo with
 | lst ds=>obtain⟨vs,e,r⟩:=h;exact⟨vs,e,r.cut b⟩
 | fz ds=>obtain⟨o,vs,e,r⟩:=h;exact⟨o,vs,e,r.cut b⟩
 | kl ds=>obtain⟨vs,e,r⟩:=h;exact⟨vs,e,r.cut b⟩
 | dct kvs=>obtain⟨vs,e,r⟩:=h;exact⟨vs,e,r.cut b⟩
 | dkt kvs=>obtain⟨h1,h2,h3,xs,e,r⟩:=h;exact⟨h1,h2,h3,xs,e,wz r b⟩
 | dkq kvs=>obtain⟨h1,h2,h3,xs,e,r⟩:=h;exact⟨h1,h2,h3,xs,e,wz r b⟩
 | fdc o kvs=>obtain⟨vs,e,r⟩:=h;exact⟨vs,e,r.cut b⟩
 | dkm kvs=>obtain⟨h1,h2,h3,xs,e,r⟩:=h;exact⟨h1,h2,h3,xs,e,Bz r b⟩
 | tb x b=>exact h
theorem Sim.bels(S:Sim K ρ M H){n:Nat}{mo:MO}(e:M[n]?=some mo):Bels M.length mo.items:=by
 obtain⟨a,_,h⟩:=S.get e
 rw[←S.len]
 exact h.bels
theorem Sim.cut(S:Sim K ρ M H)(k:Nat)(hb:∀(n:Nat) (mo:MO),n<k->M[n]?=some mo->Bels k mo.items):Sim K (ρ.take k) (M.take k) H:=by
 have lt:∀{n:Nat}{a:Addr},(ρ.take k)[n]?=some a->n<k/\ρ[n]?=some a:=λ{n a} e=>by
  have h1:=(AA7.mp e).1
  rw[AB2]at h1
  have h2:n<k:=by lia
  rw[ABW h2]at e
  exact⟨h2,e⟩
 refine⟨λn m a hne e1 e2=>?_,by rw[AB2,AB2,S.len],λn a mo e1 e2=>?_⟩
 ·obtain⟨l1,f1⟩:=lt e1
  obtain⟨l2,f2⟩:=lt e2
  rw[ABW l1,ABW l2]
  exact S.nd n m a hne f1 f2
 ·obtain⟨l1,f1⟩:=lt e1
  rw[ABW l1]at e2
  exact(S.obj n a mo f1 e2).cut (hb n mo l1 e2)
theorem SRep.cut(r:SRep K ρ H S σ)(hl:S'.length=S.length)(h:∀(i:Nat) d,S'[i]?=some (some d)->S[i]?=some (some d)/\Bel k d):SRep K (ρ.take k) H S' σ :=
 ⟨hl.trans r.len,λi d e=>let ⟨e',b⟩:=h i d e;let ⟨v,hv,rv⟩:=r.get i d e';⟨v,hv,rv.cut b⟩⟩
theorem Grow.cut(g:Grow K ρ H ρ' H')(h:ρ.length<=k):Grow K ρ H (ρ'.take k) H':=by
 refine⟨?_,g.tup⟩
 obtain⟨t,rfl⟩:=g.pre
 rw[List.take_append]
 rw[ACo h]
 exact AAf _ _
end
inductive FgtS(k:Nat):SD->SD->Prop
 | nil:FgtS k [] []
 | keep {d:D}{S S':SD} (h:Bel k d) (t:FgtS k S S'):FgtS k (some d::S) (some d::S')
 | drop {o:Option D}{S S':SD} (t:FgtS k S S'):FgtS k (o::S) (none::S')
theorem FgtS.len(h:FgtS k S S'):S'.length=S.length:=by
 induction h with
 | nil=>rfl
 | keep _ _ ih=>rw[AAJ,AAJ,ih]
 | drop _ ih=>rw[AAJ,AAJ,ih]
theorem FgtS.get(h:FgtS k S S'):∀(i:Nat) d,S'[i]?=some (some d)->S[i]?=some (some d)/\Bel k d:=by
 induction h with
 | nil=>intro i d e;simp at e
 | keep b _ ih =>
  intro i d e
  cases i with
  | zero=>simp at e;subst e;exact⟨rfl,b⟩
  | succ i=>exact ih i d (by simpa using e)
 | drop _ ih =>
  intro i d e
  cases i with
  | zero=>simp at e
  | succ i=>exact ih i d (by simpa using e)
def Fgt(M0:Mem)(P:SD->Mem->Prop)(S:SD)(M:Mem):Prop :=
 P S M\/(∃k S',M0.length<=k/\FgtS k S S'/\(∀(n:Nat) mo,n<k->M[n]?=some mo->Bels k mo.items)/\P S' (M.take k))\/∃S',FgtS M0.length S S'/\M0 <+: M/\P S' M0
theorem xR{α:Type}{l l':List α}(h:l <+: l'):l'.take l.length=l:=by
 obtain⟨t,rfl⟩:=h
 rw[List.take_append_of_le_length (AA8 _),ABl]
theorem SQ.fgt{K:AA4}{ρ:List Addr}{H:Hp}{M0:Mem}{P:SD->Mem->Prop}{σ':St}{H':Hp}(s0:Sim K ρ M0 H)(h:SQ K ρ H (Fgt M0 P) σ' H'):SQ K ρ H P σ' H':=by
 have hk:ρ.length<=M0.length:=by rw[s0.len];exact AA8 _
 obtain⟨S',M',ρ',s',g',sr',q'⟩:=h
 rcases q' with q' | ⟨k,S2,h1,h2,h4,q⟩|⟨S2,h2,hp,q⟩
 ·exact⟨S',M',ρ',s',g',sr',q'⟩
 ·exact⟨S2,M'.take k,ρ'.take k,s'.cut k h4,g'.cut (AAy hk h1),sr'.cut h2.len h2.get,q⟩
 ·have sc:=s'.cut M0.length λn mo hn e=>by
   obtain⟨t,rfl⟩:=hp
   rw[AAP hn]at e
   exact s0.bels e
  rw[xR hp]at sc
  exact⟨S2,M0,ρ'.take M0.length,sc,g'.cut hk,sr'.cut h2.len h2.get,q⟩
def pE(ok:Mem->Prop)(g:DTG)(tb:DTS)(E:DEnds)(k0:Mem):List D->SD->Mem->Prop
 | [],S,M=>ok M/\E.nx S M
 | x::xs,S,M=>ok M/\g x S M λS2 M2=>tb ⟨Fgt k0 (pE ok g tb E k0 xs),E.rt,E.nx,Fgt k0 (pE ok g tb E k0 xs)⟩ S2 M2
def lR(di:DTI)(g:DTG)(tb:DTS):DTS:=λE S M=>di S M λsrc M1=>pE src.ok g tb E M1 src.items S M1
theorem py{α:Type}{l:List α}{i:Nat}{x:α}(h:l[i]?=some x):l.drop i=x::l.drop (i+1):=by
 obtain⟨hi,e⟩:=AA7.mp h
 rw[List.drop_eq_getElem_cons hi,e]
theorem yA{K:AA4}{di:DTI}{g:DTG}{tb:DTS}(E:Ends)(σ:St)(H:Hp)(h:lowS K (lR di g tb) E σ H):tFor (lowI K di) (lowG K g) (lowS K tb) E σ H:=by
 obtain⟨S,M,ρ,F,s,sr,q,k⟩:=h
 refine⟨S,M,ρ,_,s,sr,q,λJ H1 ⟨src,M1,ρ1,s1,g1,it,q1⟩=>?_⟩
 have k1:=k.trans g1
 refine⟨λi m τ H2=>∃S2 M2 ρ2,Sim K ρ2 M2 H2/\Grow K ρ1 H1 ρ2 H2/\SRep K ρ2 H2 S2 τ/\i<=src.items.length/\m=src.items.length-i/\pE src.ok g tb F M1 (src.items.drop i) S2 M2,
  ⟨_,S,M1,ρ1,s1,.refl,sr.grow g1,AAS _,rfl,q1⟩,?_⟩
 rintro i m τ H2 ⟨S2,M2,ρ2,s2,g2,sr2,hi,rfl,q2⟩
 by_cases hlt:i<src.items.length
 ·have hx:src.items[i]?=some src.items[i]:=AA5 hlt
  rw[py hx]at q2
  obtain⟨ok,q3⟩:=(show src.ok M2/\g src.items[i] S2 M2 _ from q2)
  refine .inr ⟨it.go i ρ2 M2 H2 s2 g2 ok hlt,_,λτ' H' z=>z,λx H3 y=>?_⟩
  obtain⟨d,ρ3,hd,s3,g3,r3⟩:=it.yld i ρ2 M2 H2 x H3 s2 g2 ok hlt y
  have ed:d=src.items[i]:=AAR (hd.symm.trans hx)
  subst ed
  refine⟨_,S2,M2,ρ3,_,s3,sr2.grow g3,r3,q3,λτ4 H4 ⟨S4,M4,ρ4,s4,g4,sr4,q4⟩=>?_⟩
  have g14:=(g2.trans g3).trans g4
  refine⟨S4,M4,ρ4,_,s4,sr4,q4,?_⟩
  have again:∀τ5 H5,SQ K ρ4 H4 (Fgt M1 (pE src.ok g tb F M1 (src.items.drop (i+1)))) τ5 H5 ->
    ∃m',m' < src.items.length-i/\∃S2 M2 ρ2,Sim K ρ2 M2 H5/\Grow K ρ1 H1 ρ2 H5/\SRep K ρ2 H5 S2 τ5/\i+1<=src.items.length/\m'=src.items.length-(i+1)/\pE src.ok g tb F M1 (src.items.drop (i+1)) S2 M2:=λτ5 H5 z=>by
   obtain⟨S5,M5,ρ5,s5,g5,sr5,q5⟩:=SQ.fgt (ρ:=ρ1) (H:=H1) s1 (SQ.trans g14 z)
   exact⟨_,by lia,S5,M5,ρ5,s5,g5,sr5,hlt,rfl,q5⟩
  exact⟨again,λv H5 z=>k1.rt v H5 (VQ.trans g14 z),λτ5 H5 z=>k1.nx τ5 H5 (SQ.trans g14 z),again⟩
 ·have e:i=src.items.length:=by lia
  subst e
  rw[List.drop_of_length_le (AA8 _)]at q2
  obtain⟨ok,q3⟩:=(show src.ok M2/\F.nx S2 M2 from q2)
  exact .inl ⟨it.stop ρ2 M2 H2 s2 g2 ok,k1.nx τ H2 ⟨S2,M2,ρ2,s2,g2,sr2,q3⟩⟩
section
variable{X:Cx}
theorem EW(hi:DI X tg iter di)(hg:DG X tg g)(hb:DSs X body tb)(hp:PassesOwn (model X.prog X.w) X.A X.env X.xe:=by exact PassesOwn.never)(hc:X.calm=true:=by rfl)
  (hs:∀x,foldedSetIterable iter X.env x=pure x:=by intro _;rfl):DS X (.For tg iter body [] pos) (lR di g tb):=PS.imp (Dh hp hc hi hg hb hs) yA
def Fd(nt:Nat)(js:List Nat)(S:SD):SD:=ADr nt none++js.map λj=>(S[j]?).join
def kH(ok:Mem->Prop)(g:DTG)(tt:DTT)(te:DTE)(Q:DK):List D->List D->SD->Mem->Prop
 | [],acc,S,M=>ok M/\Q (.ref M.length) (M++[.lst acc])
 | x::xs,acc,S,M=>ok M/\g x S M λS2 M2=>tt S2 M2 λb M3=>if b=true then te S2 M3 λy M4=>acc.length<sizeLine/\kH ok g tt te Q xs (acc++[y]) S2 M4 else kH ok g tt te Q xs acc S2 M3
def dLC(nt:Nat)(js:List Nat)(di:DTI)(g:DTG)(tt:DTT)(te:DTE):DTE:=λS M Q=>di S M λsrc M1=>kH src.ok g tt te Q src.items [] (Fd nt js S) M1
theorem SRep.bst{K:AA4}{ρ:List Addr}{H:Hp}{S:SD}{σ:St}(r:SRep K ρ H S σ)(nt:Nat)(js:List Nat):SRep K ρ H (Fd nt js S) (L2.bst nt js σ):=by
 refine⟨by simp[Fd,xA],λi d e=>?_⟩
 unfold Fd at e
 unfold L2.bst
 by_cases hi:i<nt
 ·rw[AAP (by simpa using hi),ACd]at e
  simp[hi]at e
 ·rw[AAg (by simpa using ACz.mp hi),ACt,AAT]at e
  rw[AAg (by simpa using ACz.mp hi),ACt,AAT]
  cases q:js[i-nt]? with
  | none=>rw[q]at e;cases e
  | some j =>
   rw[q]at e
   have e':(S[j]?).join=some d:=by simpa using e
   cases q2:S[j]? with
   | none=>rw[q2]at e';cases e'
   | some o =>
    rw[q2]at e'
    have e2:o=some d:=e'
    subst e2
    obtain⟨v,hv,rv⟩:=r.get j d q2
    exact⟨v,by simp[hv],rv⟩
theorem wf{K:AA4}{nt:Nat}{js:List Nat}{di:DTI}{g:DTG}{tt:DTT}{te:DTE}(σ:St)(H:Hp)(R:VK)(h:lowE K (dLC nt js di g tt te) σ H R):tLC nt js (lowI K di) (lowG K g) (lowT K tt) (lowE K te) σ H R:=by
 obtain⟨S,M,ρ,Q,s,sr,q,k⟩:=h
 refine⟨S,M,ρ,_,s,sr,q,λJ H1 ⟨src,M1,ρ1,s1,g1,it,q1⟩=>?_⟩
 refine⟨λi m vs τ H2=>∃S2 M2 ρ2 acc,Sim K ρ2 M2 H2/\Grow K ρ1 H1 ρ2 H2/\SRep K ρ2 H2 S2 τ/\Reps K ρ2 H2 acc vs/\i<=src.items.length/\m=src.items.length-i/\kH src.ok g tt te Q (src.items.drop i) acc S2 M2,
  ⟨_,_,M1,ρ1,[],s1,.refl,(sr.grow g1).bst nt js,.nil,AAS _,rfl,q1⟩,?_⟩
 rintro i m vs τ H2 ⟨S2,M2,ρ2,acc,s2,g2,sr2,ra,hi,rfl,q2⟩
 by_cases hlt:i<src.items.length
 ·have hx:src.items[i]?=some src.items[i]:=AA5 hlt
  rw[py hx]at q2
  obtain⟨ok,q3⟩:=(show src.ok M2/\g src.items[i] S2 M2 _ from q2)
  refine .inr ⟨it.go i ρ2 M2 H2 s2 g2 ok hlt,λx H3 y=>?_⟩
  obtain⟨d,ρ3,hd,s3,g3,r3⟩:=it.yld i ρ2 M2 H2 x H3 s2 g2 ok hlt y
  have ed:d=src.items[i]:=AAR (hd.symm.trans hx)
  subst ed
  refine⟨_,S2,M2,ρ3,_,s3,sr2.grow g3,r3,q3,λτ4 H4 ⟨S4,M4,ρ4,s4,g4,sr4,q4⟩=>?_⟩
  refine⟨S4,M4,ρ4,_,s4,sr4,q4,λb H5 ⟨M5,ρ5,s5,g5,q5⟩=>?_⟩
  have g15:=((g2.trans g3).trans g4).trans g5
  cases b with
  | false=>exact cD ⟨_,by lia,S4,M5,ρ5,acc,s5,g15,sr4.grow g5,ra.grow ((g3.trans g4).trans g5),hlt,rfl,(show kH src.ok g tt te Q (src.items.drop (i+1)) acc S4 M5 from q5)⟩
  | true =>
   refine da ⟨S4,M5,ρ5,_,s5,sr4.grow g5,(show te S4 M5 _ from q5),λv H6 ⟨y',M6,ρ6,s6,g6,r6,hl,q6⟩=>?_⟩
   have ra6:=ra.grow (((g3.trans g4).trans g5).trans g6)
   exact⟨by rw[←ra.length];exact hl,_,by lia,S4,M6,ρ6,acc++[y'],s6,g15.trans g6,sr4.grow (g5.trans g6),ra6.append (.cons r6 .nil),hlt,rfl,q6⟩
 ·have e:i=src.items.length:=by lia
  subst e
  rw[List.drop_of_length_le (AA8 _)]at q2
  obtain⟨ok,q3⟩:=(show src.ok M2/\Q (.ref M2.length) (M2++[.lst acc])from q2)
  exact .inl ⟨it.stop ρ2 M2 H2 s2 g2 ok,λp hp=>k _ _ (VQ.laidL s2 (g1.trans g2) ra hp q3)⟩
theorem d_lc(B:BlkSc X N' nt js scope)(hi:DI X tg iter di)
  (hg:∀cl s0 H0 ex,DG (blk X N' scope cl s0 H0 ex) tg g) (ht:∀cl s0 H0 ex,PTs (blk X N' scope cl s0 H0 ex) ifs (lowT X.K tt)) (he:∀cl s0 H0 ex,DE (blk X N' scope cl s0 H0 ex) elt te) (hc:X.calm=true:=by rfl)
  (hs:∀x,foldedSetIterable iter X.env x=pure x:=by intro _;rfl):DE X (.ListComp elt [⟨tg,iter,ifs,0⟩] scope pos) (dLC nt js di g tt te):=PE.imp (pe_lc (g:=lowG X.K g) (tt:=lowT X.K tt) (te:=lowE X.K te) B hc hi (λcl s0 H0 ex=>hg cl s0 H0 ex) ht (λcl s0 H0 ex=>he cl s0 H0 ex) hs) wf
def sV:DTT:=λ_ M Q=>Q true M
theorem BS:PTs X [] (lowT X.K sV):=λpins s σ H R I ⟨S,M,ρ,Q,sm,sr,q,k⟩=>AO pins s σ H R I (k true H ⟨M,ρ,sm,.refl,q⟩)
theorem BR(h:DT X c t):PTs X [c] (lowT X.K t):=AN h
end
def Chg(M M1:Mem):Prop:=M1.length=M.length/\∀(i:Nat) (mo:MO),M1[i]?=some mo->M[i]?=some mo\/Bels M.length mo.items
theorem Chg.refl:Chg M M:=⟨rfl,λ_ _ h=>.inl h⟩
theorem Chg.set(c:Chg M M1)(b:Bels M.length mo.items):Chg M (M1.set n mo):=by
 refine⟨by rw[AAw];exact c.1,λi mo' h=>?_⟩
 by_cases e:n=i
 ·subst e
  by_cases hl:n<M1.length
  ·rw[AAj hl]at h
   cases h
   exact .inr b
  ·rw[ABP (by rw[AAw];lia)]at h
   cases h
 ·rw[AAq e]at h
  exact c.2 i mo' h
def bD(M:Mem)(R:DK):DK:=λd M'=>R d M'\/(∃M1,Chg M M1/\Bel M.length d/\M1 <+: M'/\R d M1)\/∃M1 n xs,Chg M M1/\d=.ref n/\M.length<=n/\M'[n]?=some (.lst xs)/\M1 <+: M'/\Bels M.length xs/\R (.ref M.length) (M1++[.lst xs])
theorem cN{α:Type}{l l':List α}(h:l <+: l'):l'.take l.length=l:=by
 obtain⟨t,rfl⟩:=h
 rw[List.take_append_of_le_length (AA8 _),ABl]
theorem VQ.endq{K:AA4}{ρ:List Addr}{M:Mem}{H:Hp}{R:DK}{v:V}{H':Hp}(s:Sim K ρ M H)(h:VQ K ρ H (bD M R) v H'):VQ K ρ H R v H':=by
 obtain⟨d,M',ρ',s',g',r',q'⟩:=h
 have hρ:ρ'.take M.length=ρ:=by rw[←s.len];exact cN g'.pre
 rcases q' with q | ⟨M1,c,b,pre,q⟩|⟨M1,n,xs,c,rfl,hnM,e,pre,b,q⟩
 ·exact⟨d,M',ρ',s',g',r',q⟩
 ·have sc:=s'.cut M.length λn mo hn e=>by
   have e':M1[n]?=some mo:=by
    obtain⟨t,rfl⟩:=pre
    rw[AAP (by rw[c.1];exact hn)]at e
    exact e
   exact(c.2 n mo e').elim (λz=>s.bels z) id
  have tk:M'.take M.length=M1:=by rw[←c.1];exact cN pre
  rw[hρ,tk]at sc
  have rc:=r'.cut b
  rw[hρ]at rc
  exact⟨d,M1,ρ,sc,⟨ACX,g'.tup⟩,rc,q⟩
 ·have sc:=s'.cut M.length λn mo hn e=>by
   have e':M1[n]?=some mo:=by
    obtain⟨t,rfl⟩:=pre
    rw[AAP (by rw[c.1];exact hn)]at e
    exact e
   exact(c.2 n mo e').elim (λz=>s.bels z) id
  have tk:M'.take M.length=M1:=by rw[←c.1];exact cN pre
  rw[hρ,tk]at sc
  obtain⟨a,rfl,hn⟩:=Rep.inv_ref r'
  obtain⟨vs,hH,rr⟩:=s'.obj n a _ hn e
  have rc:=rr.cut b
  rw[hρ]at rc
  have g2:Grow K ρ H' (ρ++[a]) H':=⟨AAf _ _,λ_ _ h=>h⟩
  have old:∀(m:Nat),ρ[m]?=some a->isK M1[m]?:=λm em=>by
   have hm:m≠n:=λz=>by
    have:m<M.length:=by rw[←s.len];exact(AA7.mp em).1
    lia
   have q:=s'.nd m n a hm (av g'.pre em) hn
   have hlt:m<M.length:=by rw[←s.len];exact(AA7.mp em).1
   rcases q with⟨ds,z⟩|⟨ds,z⟩
   ·refine⟨ds,?_⟩
    have hlt1:m<M1.length:=by rw[c.1];exact hlt
    have:=av pre (AA5 hlt1)
    rw[z]at this
    rw[AA5 hlt1]
    exact this.symm
   ·rw[e]at z;cases z
  refine⟨.ref M.length,M1++[.lst xs],ρ++[a],⟨λn1 m1 a1 hne e1 e2=>?_,by rw[AAB,AAB,sc.len];rfl,λn1 a1 mo e1 e2=>?_⟩,⟨AAf _ _,g'.tup⟩,.ref (by have:=sc.last (p:=a);rw[c.1]at this;exact this),q⟩
  ·rcases aQ e1 with f1 | ⟨f1,w1⟩
   ·rcases aQ e2 with f2 | ⟨f2,w2⟩
    ·exact(sc.nd n1 m1 a1 hne f1 f2).elim (λz=>.inl z.more) λz=>.inr z.more
    ·subst w2
     exact .inl (old n1 f1).more
   ·rcases aQ e2 with f2 | ⟨f2,w2⟩
    ·subst w1
     exact .inr (old m1 f2).more
    ·exact absurd (f1.trans f2.symm) hne
  ·rcases aQ e1 with f1 | ⟨f1,w1⟩
   ·have hn1:n1<M1.length:=by rw[←sc.len];exact(AA7.mp f1).1
    rw[AAP hn1]at e2
    exact(sc.obj n1 a1 mo f1 e2).grow g2 (.inl rfl)
   ·subst w1 f1
    rw[sc.len,AAg (AA8 _),ADL]at e2
    simp at e2
    subst e2
    exact⟨vs,hH,rc.grow g2⟩
def bY(N:List Str)(ds:List D):SD:=ds.map some++ADr (N.length-ds.length) none
theorem SRep.start{K:AA4}{ρ:List Addr}{H:Hp}{ds:List D}{vs:List V}(r:Reps K ρ H ds vs)(N:List Str):SRep K ρ H (bY N ds) (L2.start N vs):=by
 refine⟨by simp[bY,L2.start,r.length],λi d e=>?_⟩
 unfold bY at e
 unfold L2.start
 by_cases hi:i<ds.length
 ·rw[AAP (by simpa using hi),AAT]at e
  rw[AAP (by simpa [←r.length]using hi),AAT]
  have e':ds[i]?=some d:=by
   rw[AA5 hi]at e ⊢
   simpa using e
  obtain⟨v,hv,rv⟩:=r.get e'
  exact⟨v,by rw[hv];rfl,rv⟩
 ·rw[AAg (by simpa using ACz.mp hi),ACd]at e
  split at e<;>cases e
theorem d_fn{P:Program}{w:World}{K:AA4}{mg:Str->Option Value}{base:Heap}{x qual:Str}{st:Stmt}{f:Addr}{fd:FuncData}{N ps:List Str}{k:Nat}(Pr:DSp)(F:Fun K x qual st f fd)(Sc:FnScope N ps (ao st))
  (len:∀ds M R,Pr ds M R->ds.length=ps.length)
  (hbody:∀(cdv:Value) (A:Around) (outer:List Env) (s:Shared) (H:Hp) (E:XK),Room k (A.deeper (envOfC qual (ao st) s.heap.objs.size f cdv)) ->
   ∃t,DSs (pF CX0 P w K mg base N qual (ao st) f cdv A outer s H E).nox (bw st) t/\∀ds M R,Pr ds M R->t ⟨λ_ M'=>bD M R .non M',bD M R,λ_ _=>False,λ_ _=>False⟩ (bY N ds) M) :
  FnOk P w K mg base CX0 (k+1) f fd ps (spL K Pr):=by
 refine F.ok Sc (λvs H Q E ⟨ds,M,ρ,R,s,r,q,_⟩=>by rw[←r.length];exact len ds M R q) λcdv A outer s H vs Q E hr h=>?_
 obtain⟨ds,M,ρ,R,sm,r,q,kk⟩:=h
 obtain⟨t,ht,hq⟩:=hbody cdv A outer s H E hr
 refine⟨lowS K t,ht,bY N ds,M,ρ,_,sm,SRep.start r N,hq ds M R q,⟨λσ' H' ⟨S',M',ρ',s',g',sr',q'⟩=>?_,λv H' z=>kk v H' (VQ.endq sm z),λσ' H' ⟨S',M',ρ',s',g',sr',q'⟩=>q'.elim,λσ' H' ⟨S',M',ρ',s',g',sr',q'⟩=>q'.elim⟩⟩
 exact kk .non H' (VQ.endq sm ⟨.non,M',ρ',s',g',.non,q'⟩)
end L2
namespace L2
open PySem PySem.Spec PyProof.Rows DL
section
variable{X:Cx}
theorem dfin(I:Inv X pins σ H s)(sm:Sim X.K ρ M H)(k:∀v H',VQ X.K ρ H Q v H'->R v H')(hv:cV d=some v)(rel:aL v u)(q:Q d M):EP X pins σ R u s :=
 ⟨v,H,I,rel,k v H (VQ.now sm (xy hv) q)⟩
theorem iu(I:Inv X pins σ H s)(sm:Sim X.K ρ M H)(k:∀v H',VQ X.K ρ H Q v H'->R v H')(q:Q (.bl b) M):EP X pins σ R (.bool b) s :=
 ⟨.bl b,H,I,rfl,k _ H (VQ.now sm (.bl b) q)⟩
def qAdd:DR2:=λx y M Q=>match x,y with
 | .int i,.int j=>Q (.int (i+j)) M
 | .str a,.str b=>a.length+b.length<=sizeLine/\Q (.str (a++b)) M
 | .ref n,.ref m=>∃xs ys,M[n]?=some (.lst xs)/\M[m]?=some (.lst ys)/\xs.length+ys.length<=sizeLine/\Q (.ref M.length) (M++[.lst (xs++ys)])
 | _,_=>False
theorem DU:OpD X (binaryOp .Add) qAdd:=by
 refine OpR.imp (DC.or (tP.or DB)) λvx vy H R ⟨x,y,M,ρ,Q,sm,r1,r2,q,k⟩=>?_
 unfold qAdd at q
 split at q
 ·cases r1
  cases r2
  exact .inl ⟨_,_,rfl,rfl,k _ H (VQ.now sm (.int _) q)⟩
 ·cases r1
  cases r2
  exact .inr (.inl ⟨_,_,rfl,rfl,q.1,k _ H (VQ.now sm (.str _) q.2)⟩)
 ·obtain⟨xs,ys,e1,e2,hl,q⟩:=q
  obtain⟨_,rfl,h1⟩:=Rep.inv_ref r1
  obtain⟨_,rfl,h2⟩:=Rep.inv_ref r2
  obtain⟨vs,f1,g1⟩:=sm.obj _ _ _ h1 e1
  obtain⟨ws,f2,g2⟩:=sm.obj _ _ _ h2 e2
  exact .inr (.inr ⟨_,_,vs,ws,rfl,rfl,f1,f2,by rw[←g1.length,←g2.length];exact hl,λp hp=>k _ _ (VQ.laidL sm .refl (g1.append g2) hp q)⟩)
 ·exact q.elim
def CY:DR2:=λx y M Q=>match x,y with
 | .int i,.int j=>Q (.int (i-j)) M
 | _,_=>False
theorem DN:OpD X (binaryOp .Sub) CY:=by
 refine OpR.imp Dv λvx vy H R ⟨x,y,M,ρ,Q,sm,r1,r2,q,k⟩=>?_
 unfold CY at q
 split at q
 ·cases r1
  cases r2
  exact⟨_,_,rfl,rfl,k _ H (VQ.now sm (.int _) q)⟩
 ·exact q.elim
def Cn(i j:Int):Prop:=0<j/\j<340282366920938463463374607431768211456
theorem yk:OpR X (binaryOp .FloorDiv) (rI Cn λi j=>.int (i / j)):=opI λi j _ _ _ _ _ hc q=>by
 have h1:(0:Int)<j:=hc.1
 have h2:j<340282366920938463463374607431768211456:=hc.2
 have h3:j.natAbs.log2<128:=(Nat.log2_lt (by lia)).mpr (by rw[show (2:Nat) ^ 128=340282366920938463463374607431768211456 by decide];lia)
 exact floordiv_int (by lia) (by rw[Int.fdiv_eq_ediv_of_nonneg i (by lia)];exact q) (.inl (PyProof.noPylong_of_log2 (by lia)))
def qj:DR2:=λx y M Q=>match x,y with
 | .int i,.int j=>Cn i j/\Q (.int (i / j)) M
 | _,_=>False
theorem Bn:OpD X (binaryOp .FloorDiv) qj:=by
 refine OpR.imp yk λvx vy H R ⟨x,y,M,ρ,Q,sm,r1,r2,q,k⟩=>?_
 unfold qj at q
 split at q
 ·cases r1
  cases r2
  exact⟨_,_,rfl,rfl,q.1,k _ H (VQ.now sm (.int _) q.2)⟩
 ·exact q.elim
def vF:DR2:=λx y M Q=>match x,y with
 | .int i,.int j=>0<j/\Q (.int (i % j)) M
 | _,_=>False
theorem DQ:OpD X (binaryOp .Mod) vF:=by
 refine OpR.imp Dz λvx vy H R ⟨x,y,M,ρ,Q,sm,r1,r2,q,k⟩=>?_
 unfold vF at q
 split at q
 ·cases r1
  cases r2
  exact⟨_,_,rfl,rfl,q.1,k _ H (VQ.now sm (.int _) q.2)⟩
 ·exact q.elim
def qg(a b:Str):Bool:=decide (a.cps.toList<b.cps.toList)
def qLt:DR2:=λx y M Q=>match x,y with
 | .int i,.int j=>Q (.bl (decide (i<j))) M
 | .str a,.str b=>Q (.bl (qg a b)) M
 | _,_=>False
def qGt:DR2:=λx y M Q=>match x,y with
 | .int i,.int j=>Q (.bl (decide (j<i))) M
 | .str a,.str b=>Q (.bl (qg b a)) M
 | _,_=>False
theorem od_lt:OpD X (compareOp .Lt) qLt:=by
 intro pins s σ H vx vy v u R I rx ry ⟨x,y,M,ρ,Q,sm,r1,r2,q,k⟩
 unfold qLt at q
 split at q
 ·cases r1
  cases r2
  exact op_lt pins s σ H _ _ v u R I rx ry ⟨_,_,rfl,rfl,k _ H (VQ.now sm (.bl _) q)⟩
 ·cases r1
  cases r2
  obtain⟨t,rfl⟩:=rx
  obtain⟨t',rfl⟩:=ry
  exact PySem.P.lt_str (iu I sm k q)
 ·exact q.elim
theorem od_gt:OpD X (compareOp .Gt) qGt:=by
 intro pins s σ H vx vy v u R I rx ry ⟨x,y,M,ρ,Q,sm,r1,r2,q,k⟩
 unfold qGt at q
 split at q
 ·cases r1
  cases r2
  exact op_gt pins s σ H _ _ v u R I rx ry ⟨_,_,rfl,rfl,k _ H (VQ.now sm (.bl _) q)⟩
 ·cases r1
  cases r2
  obtain⟨t,rfl⟩:=rx
  obtain⟨t',rfl⟩:=ry
  exact PySem.P.gt_str (iu I sm k q)
 ·exact q.elim
def qIs:DR2:=λx y M Q=>match x,y with
 | .bl a,.bl b=>Q (.bl (a==b)) M
 | .non,.non=>Q (.bl true) M
 | _,.non=>Q (.bl false) M
 | _,_=>False
theorem AH{K:AA4}{ρ:List Addr}{H:Hp}{x:D}{v:V}(r:Rep K ρ H x v)(h:x≠.non):v≠.non:=by
 cases r<;>first | exact absurd rfl h | (intro z;cases z)
theorem od_is:OpD X (compareOp .Is) qIs:=by
 intro pins s σ H vx vy v u R I rx ry ⟨x,y,M,ρ,Q,sm,r1,r2,q,k⟩
 unfold qIs at q
 split at q
 ·cases r1
  cases r2
  cases rx
  cases ry
  exact is_bool (iu I sm k q)
 ·cases r1
  cases r2
  cases rx
  cases ry
  exact is_none_gen (dfin (d:=.bl true) I sm k rfl rfl q)
 ·rename_i h1 h2
  cases r2
  cases ry
  refine is_none_gen (dfin (d:=.bl false) I sm k rfl ?_ q)
  have:=AH r1 λz=>by subst z;exact h2 rfl
  rw[rx.none_iff,decide_eq_false this]
  rfl
 ·exact q.elim
def tyD(M:Mem):D->String
 | .non=>"NoneType"
 | .bl _=>"bool"
 | .int _=>"int"
 | .str _=>"str"
 | .ty _=>"type"
 | .tup _=>"tuple"
 | .ref n=>match M[n]? with
  | some mo=>if mo.isL=true then "list" else "?"
  | none=>"?"
def lE:DRA:=λds M Q=>match ds with
 | [.str x]=>x.length<=sizeLine/\Q (.int x.length) M
 | [.tup xs]=>Q (.int xs.length) M
 | [.ref n]=>∃xs,am M n xs/\Q (.int xs.length) M
 | _=>False
theorem Fl:pR X (.builtin "len") lE:=by
 refine fZ.imp (pI.or pH) λvs H R ⟨ds,M,ρ,Q,sm,rs,q,k⟩=>?_
 unfold lE at q
 split at q
 ·first | have hzz:=Reps.inv_cons rs | have hzz:=aw.inv_cons rs
  clear rs
  obtain⟨_,_,rfl,r1,rs⟩:=hzz
  cases rs
  cases r1
  exact .inr ⟨_,rfl,q.1,k _ H (VQ.now sm (.int _) q.2)⟩
 ·first | have hzz:=Reps.inv_cons rs | have hzz:=aw.inv_cons rs
  clear rs
  obtain⟨_,_,rfl,r1,rs⟩:=hzz
  cases rs
  cases r1 with
  | tup h r=>exact .inl ⟨_,_,rfl,.inr h,k _ H (VQ.now sm (by rw[←r.length];exact .int _) q)⟩
 ·obtain⟨xs,hL,q⟩:=q
  first | have hzz:=Reps.inv_cons rs | have hzz:=aw.inv_cons rs
  clear rs
  obtain⟨_,_,rfl,r1,rs⟩:=hzz
  cases rs
  obtain⟨_,rfl,e⟩:=Rep.inv_ref r1
  obtain⟨ws,hq,r⟩:=am.seq sm hL e
  exact .inl ⟨_,_,rfl,.inl hq,k _ H (VQ.now sm (by rw[←r.length];exact .int _) q)⟩
 ·exact q.elim
end
end L2
namespace L2
open PySem PySem.Spec PyProof.Rows DL _root_.HT
section
variable{prog:Program}{w:World}{A:Around}{E:Value->Shared->Prop}{s:Shared}
theorem mQ{t sl:Addr}{items:Array Value}{vl vu:Value}{lo hi:Option Int}{Q:Value->Shared->Prop}(ht:IsTup s.heap t items)(hs:s.heap.IsSliceOf sl vl vu .none)(pl:IsPart vl lo)(pu:IsPart vu hi)
  (hw:sIx items.size 0 lo=0/\sIx items.size items.size hi=items.size) (h:Q (.ref t) s):wpAny (model prog w) A (getItem (.ref t) (.ref sl)) Q E s:=by
 obtain⟨os,hos,hcs,hds⟩:=id hs
 have hTs:s.TypeIs (.ref sl) "slice":=⟨os,hos,hcs⟩
 unfold getItem
 try with_reducible refine AAh ?_
 first | refine AA0 (AA2 ?_) | skip
 refine AA0 (wpAny_sequenceKey ht.typeIs (by decide) (AA0 (AB0 (name:=AA1 "__getitem__") ht.typeIs ABD (AAt ABD ht.typeIs entry_tuple_getitem ?_ (args_tuple_getitem _ _)))))
 refine(show wpAny (model prog w) _ (ACI (.ref t) >>= _) _ _ s from AA0 (tupleItemsOf_ ht (AA0 (ACc hTs ?_))))
 rw[if_pos (by decide)]
 refine AA0 (dY hs pl pu ?_)
 refine(show wpAny (model prog w) _ (if (((sIx items.size 0 lo:Nat):Int)==0&&(1:Int)==1&&(sIx items.size items.size hi-sIx items.size 0 lo)==items.size)=true then _ else _) _ _ s from ?_)
 rw[if_pos (by rw[hw.1,hw.2];simp)]
 unfold Builtin.Tuple.tupleIsExact
 refine AA0 (AA0 (ACc ht.typeIs (AA2 ?_)))
 rw[if_pos (by decide)]
 exact AA0 (ABX (AA2 ⟨_,rfl,AA2 h⟩))
end
end L2
namespace L2
open PySem PySem.Spec PyProof.Rows DL
section
variable{X:Cx}{a b:Expr}{ta tb:DTE}{pos:Pos}
theorem IxR.imp(h:IxR X r')(i:∀x y H R,r x y H R->r' x y H R):IxR X r:=λvalue slice pins s σ H x y v u R I rx ry q hs=>h value slice pins s σ H x y v u R I rx ry (i x y H R q) hs
theorem Reps.atI{K:AA4}{ρ:List Addr}{H:Hp}{ds:List D}{vs:List V}{i:Int}{d:D}(r:Reps K ρ H ds vs)(h:L2.atI ds i=some d):∃v,L2.atI vs i=some v/\Rep K ρ H d v:=by
 unfold L2.atI at h ⊢
 rw[r.length]at h
 cases e:ixN vs.length i with
 | none=>rw[e]at h;cases h
 | some j =>
  rw[e]at h
  obtain⟨v,hv,rv⟩:=r.get (show ds[j]?=some d from h)
  exact⟨v,hv,rv⟩
def qIx:DR2:=λx y M Q=>match x,y with
 | .tup xs,.int i=>match L2.atI xs i with
  | some d=>Q d M
  | none=>False
 | .str z,.int i=>z.length<=sizeLine/\match L2.atI z.cps.toList i with
  | some c=>Q (.str ⟨#[c]⟩) M
  | none=>False
 | .ref n,.int i=>∃xs,am M n xs/\match L2.atI xs i with
  | some d=>Q d M
  | none=>False
 | _,_=>False
theorem BC:IxR X (lowR X.K qIx):=by
 refine IxR.imp Eu λvx vy H R ⟨x,y,M,ρ,Q,sm,r1,r2,q,k⟩=>?_
 unfold qIx at q
 split at q
 ·rename_i xs i
  split at q
  ·rename_i d e
   cases r2
   obtain⟨_,_,rfl,h,r⟩:=Rep.inv_tup r1
   obtain⟨v,hv,rv⟩:=r.atI e
   exact .inr (.inl ⟨_,_,_,v,rfl,rfl,h,hv,k _ H (VQ.now sm rv q)⟩)
  ·exact q.elim
 ·rename_i z i
  obtain⟨hz,q⟩:=q
  split at q
  ·rename_i c e
   cases r2
   cases r1
   exact .inr (.inr ⟨z,i,c,rfl,rfl,hz,e,k _ H (VQ.now sm (.str _) q)⟩)
  ·exact q.elim
 ·rename_i n i
  obtain⟨xs,hL,q⟩:=q
  split at q
  ·rename_i d e
   cases r2
   obtain⟨_,rfl,hn⟩:=Rep.inv_ref r1
   obtain⟨vs,hq,r⟩:=am.seq sm hL hn
   obtain⟨v,hv,rv⟩:=r.atI e
   exact .inl ⟨_,_,_,v,rfl,rfl,hq,hv,k _ H (VQ.now sm rv q)⟩
  ·exact q.elim
 ·exact q.elim
theorem d_ix(ha:DE X a ta)(hb:DE X b tb)(hs:qY b:=by intro _ _;rfl):DE X (.Subscript a b pos) (dOp qIx ta tb):=PE.imp (pe_ix BC ha hb hs) mH
abbrev DTO:=SD->Mem->(Option Int->Mem->Prop)->Prop
def DZ(K:AA4)(t:DTO):TO:=λσ H R=>∃S M ρ Q,Sim K ρ M H/\SRep K ρ H S σ/\t S M Q/\∀o H',(∃M' ρ',Sim K ρ' M' H'/\Grow K ρ H ρ' H'/\Q o M')->R o H'
def eQ:DTO:=λ_ M Q=>Q none M
def hV(t:DTE):DTO:=λS M Q=>t S M λx M1=>match x with
 | .int i=>Q (some i) M1
 | _=>False
theorem PO.imp(h:PO X e t')(i:∀σ H R,t σ H R->t' σ H R):PO X e t:=λpins s σ H R I q=>h pins s σ H R I (i σ H R q)
theorem BX:PO X none (DZ X.K eQ):=PO.imp AW λσ H R ⟨S,M,ρ,Q,s,sr,q,k⟩=>k none H ⟨M,ρ,s,.refl,q⟩
theorem BW(h:DE X e te):PO X (some e) (DZ X.K (hV te)):=by
 refine PO.imp (AV h) λσ H R ⟨S,M,ρ,Q,s,sr,q,k⟩=>⟨S,M,ρ,_,s,sr,q,λv H1 ⟨d,M1,ρ1,s1,g1,r1,q1⟩=>?_⟩
 cases r1 with
 | int i=>exact⟨i,rfl,k _ H1 ⟨M1,ρ1,s1,g1,q1⟩⟩
 | _=>exact q1.elim
theorem CQ:SlR X (λx lo hi H Q=>∃z,x=.str z/\z.length<=sizeLine/\Q (.str (AE8 z lo hi)) H):=by
 intro pins s σ H x v vl vu lo hi sl Q I rx hs pl pu h
 obtain⟨z,rfl,hz,q⟩:=h
 obtain⟨t,rfl⟩:=rx
 have part:∀{v:Value}{o:Option Int},IsPart v o->∃p:Option (Int×Tok),v=partValue p/\p.map (·.1)=o:=λh=>by
  cases h with
  | none=>exact⟨none,rfl,rfl⟩
  | int i t=>exact⟨some (i,t),rfl,rfl⟩
 obtain⟨p1,rfl,e1⟩:=part pl
 obtain⟨p2,rfl,e2⟩:=part pu
 subst e1 e2
 refine⟨"str",_,slot_str_getitem.lookup,typeIs_str _ _ _,wpAny_getItem_str_slice (l:=p1) (u:=p2) (st:=none) hs rfl ?_⟩
 exact post_val_or_str ⟨AAy (Txt.slice_le z _ _) hz,λt' k=>⟨.str _,H,I.tok k,⟨t',rfl⟩,q⟩⟩
def cutD(xs:List D)(lo hi:Option Int):List D:=(xs.drop (HT.sIx xs.length 0 lo)).take (HT.sIx xs.length xs.length hi-HT.sIx xs.length 0 lo)
theorem Reps.cutD{K:AA4}{ρ:List Addr}{H:Hp}{ds:List D}{vs:List V}(r:Reps K ρ H ds vs)(lo hi:Option Int):Reps K ρ H (L2.cutD ds lo hi) (Al vs lo hi):=by
 unfold L2.cutD Al
 rw[r.length]
 exact(r.drop _).take _
def qSl:D->Option Int->Option Int->Mem->DK->Prop:=λx lo hi M Q=>match x with
 | .str z=>z.length<=sizeLine/\Q (.str (AE8 z lo hi)) M
 | .ref n=>∃xs,am M n xs/\Q (.ref M.length) (M++[.lst (cutD xs lo hi)])
 | .tup xs=>Q (.tup (cutD xs lo hi)) M
 | _=>False
def lowSl(K:AA4)(r:D->Option Int->Option Int->Mem->DK->Prop):V->Option Int->Option Int->Hp->VK->Prop:=λvx lo hi H R=>∃x M ρ Q,Sim K ρ M H/\Rep K ρ H x vx/\r x lo hi M Q/\∀v H',VQ K ρ H Q v H'->R v H'
theorem sld:SlR X (lowSl X.K qSl):=by
 intro pins s σ H x v vl vu lo hi sl R I rx hs pl pu ⟨d,M,ρ,Q,sm,r1,q,k⟩
 unfold qSl at q
 split at q
 ·cases r1
  exact CQ pins s σ H _ v vl vu lo hi sl R I rx hs pl pu ⟨_,rfl,q.1,k _ H (VQ.now sm (.str _) q.2)⟩
 ·obtain⟨xs,hL,q⟩:=q
  obtain⟨_,rfl,hn⟩:=Rep.inv_ref r1
  obtain⟨vs,hq,r⟩:=am.seq sm hL hn
  exact AD pins s σ H _ v vl vu lo hi sl R I rx hs pl pu ⟨_,vs,rfl,hq,λp hp=>k _ _ (VQ.laidL sm .refl (r.cutD lo hi) hp q)⟩
 ·obtain⟨_,_,rfl,h,r⟩:=Rep.inv_tup r1
  rename_i xs a vs
  by_cases hw:HT.sIx xs.length 0 lo=0/\HT.sIx xs.length xs.length hi=xs.length
  ·cases rx
   obtain⟨its,rr,ht,hz⟩:=I.tuple h
   have hlen:its.toArray.size=xs.length:=by rw[AAD,r.length];exact rr.length.symm
   have e:L2.cutD xs lo hi=xs:=by unfold L2.cutD;rw[hw.1,hw.2,List.drop_zero,Nat.sub_zero,ABl]
   rw[e]at q
   exact⟨"tuple",_,ABD.lookup,ht.typeIs,mQ ht hs pl pu (by rw[hlen];exact hw) ⟨.ref _,H,I,rfl,k _ H (VQ.now sm (.tup h r) q)⟩⟩
  ·exact CP pins s σ H _ v vl vu lo hi sl R I rx hs pl pu ⟨_,_,rfl,h,by rw[←r.length];exact hw,λp hp=>k _ _ (VQ.laidT sm .refl (r.cutD lo hi) hp q)⟩
 ·exact q.elim
def dSl(te:DTE)(tl th:DTO):DTE:=λS M Q=>te S M λx M1=>tl S M1 λl M2=>th S M2 λu M3=>qSl x l u M3 Q
theorem Cd{e:Expr}{te:DTE}{lo hi:Option Expr}{tl th:DTO}{p2:Pos}(he:DE X e te)(hl:PO X lo (DZ X.K tl))(hu:PO X hi (DZ X.K th)):DE X (.Subscript e (.Slice lo hi none p2) pos) (dSl te tl th):=by
 refine PE.imp (yh sld he hl hu) λσ H R ⟨S,M,ρ,Q,s,sr,q,k⟩=>⟨S,M,ρ,_,s,sr,q,λv H1 ⟨d,M1,ρ1,s1,g1,r1,q1⟩=>⟨S,M1,ρ1,_,s1,sr.grow g1,q1,λl H2 ⟨M2,ρ2,s2,g2,q2⟩=>⟨S,M2,ρ2,_,s2,sr.grow (g1.trans g2),q2,λu H3 ⟨M3,ρ3,s3,g3,q3⟩=>?_⟩⟩⟩
 exact⟨d,M3,ρ3,Q,s3,r1.grow (g2.trans g3),q3,λv H' w=>k v H' (VQ.trans ((g1.trans g2).trans g3) w)⟩
def mj:DR2:=λx y M Q=>match x,y with
 | .int i,.int j=>CMul i j/\Q (.int (i*j)) M
 | .str z,.int n=>(0<=n/\n<2 ^ 63/\z.length*n.toNat<=sizeLine)/\Q (.str (Txt.mul z n)) M
 | _,_=>False
theorem qv(h0:0<=n)(h:z.length*n.toNat<=sizeLine)(hn:n<2 ^ 63):MulOk z n:=by
 refine⟨?_,λh1 h2=>?_,λh1 h2=>?_⟩
 ·have e1:decide (n < -(2 ^ 63:Int))=false:=decide_eq_false (by lia)
  have e2:decide (n ≥ 2 ^ 63)=false:=decide_eq_false (by lia)
  rw[e1,e2]
  rfl
 ·have hz:(z.length:Int)*n<=2 ^ 24:=by
   have e:((z.length*n.toNat:Nat):Int)=(z.length:Int)*n:=by
    rw[Int.natCast_mul,Int.toNat_of_nonneg h0]
   have h':((z.length*n.toNat:Nat):Int)<=(2 ^ 24:Nat):=Int.ofNat_le.mpr h
   rw[e]at h'
   exact h'
  have hpos:0<n:=by lia
  intro hgt
  have:=Int.lt_of_lt_of_le (Int.lt_mul_of_ediv_lt hpos hgt) hz
  lia
 ·unfold PySem.Builtin.Str.tooLong
  simpa using h
theorem Bm:OpD X (binaryOp .Mult) mj:=by
 intro pins s σ H vx vy v u R I rx ry ⟨x,y,M,ρ,Q,sm,r1,r2,q,k⟩
 unfold mj at q
 split at q
 ·cases r1
  cases r2
  exact Dy pins s σ H _ _ v u R I rx ry ⟨_,_,rfl,rfl,q.1,k _ H (VQ.now sm (.int _) q.2)⟩
 ·rename_i z n
  cases r1
  cases r2
  obtain⟨t,rfl⟩:=rx
  obtain⟨t',rfl⟩:=ry
  obtain⟨⟨h0,h2,h1⟩,q⟩:=q
  exact PySem.SB.mul (qv h0 h1 h2) λt' j=>⟨.str _,H,I.tok j,⟨t',rfl⟩,k _ H (VQ.now sm (.str _) q)⟩
 ·exact q.elim
variable{o e:Expr}{es:List Expr}{to:DTE}{t:DTA}{name:Str}{apos cpos:Pos}{id:String}
def lowMs(K:AA4)(r:Str->DRA):V->List V->Hp->VK->Prop:=λvx vs H R=>∃z ds M ρ Q,vx=.str z/\Sim K ρ M H/\Reps K ρ H ds vs/\r z ds M Q/\∀v H',VQ K ρ H Q v H'->R v H'
def kA(K:AA4)(r:Nat->DRA):V->List V->Hp->VK->Prop:=λvx vs H R=>∃n a ds M ρ Q,vx=.ref a/\ρ[n]?=some a/\Sim K ρ M H/\Reps K ρ H ds vs/\r n ds M Q/\∀v H',VQ K ρ H Q v H'->R v H'
def dMl(r:Nat->DRA)(to:DTE)(t:DTA):DTE:=λS M Q=>to S M λx M1=>match x with
 | .ref n=>(∃xs,am M1 n xs)/\t S M1 λds M2=>r n ds M2 Q
 | _=>False
theorem d_ml(slot:Slot "list" name id)(hty:typeOf (.builtin id)=pure (.type "method_descriptor"))(hm:MtR X id (kA X.K r))(ho:DE X o to)(ha:DA X (e::es) t)
  (hbase:attributeBase o name X.env (eval o X.env)=eval o X.env:=by rfl)
  (hfew:((backTo cpos (starEach (e::es) X.env)).all (λx=>!x.1)&&(backToKw cpos (keywordEach [] X.env)).all (λx=>x.1.isSome)
   && decide ((e::es).length+([]:List Keyword).length+(if ([]:List Keyword).isEmpty then 0 else 1)<30))=true:=by rfl)
  (hline:(apos.endLine==cpos.line)=true:=by rfl) (hs:starEach (e::es) X.env=(false,eval e X.env)::starEach es X.env:=by rfl) (hplain:(backTo cpos (starEach es X.env)).any (·.1)=false:=by rfl) :
  DE X (.Call (.Attribute o name apos) (e::es) [] cpos) (dMl r to t):=by
 refine PE.imp (pe_bm PySem.F.plainAttrs_list slot hty hm ho ha hbase hfew hline hs hplain) λσ H R ⟨S,M,ρ,Q,s,sr,q,k⟩=>⟨S,M,ρ,_,s,sr,q,λv H1 ⟨d,M1,ρ1,s1,g1,r1,q1⟩=>?_⟩
 cases r1 with
 | @ref n a hn =>
  obtain⟨⟨xs,hL⟩,q1⟩:=(show (∃xs,am M1 n xs)/\t S M1 _ from q1)
  obtain⟨vs,hq,_⟩:=am.seq s1 hL hn
  exact⟨.inl ⟨rfl,vs,hq⟩,S,M1,ρ1,_,s1,sr.grow g1,q1,λvs H2 ⟨ds,M2,ρ2,s2,g2,r2,q2⟩=>⟨n,a,ds,M2,ρ2,Q,rfl,av g2.pre hn,s2,r2,q2,λv H' w=>k v H' (VQ.trans (g1.trans g2) w)⟩⟩
 | _=>exact q1.elim
def cw(n:Nat):DRA:=λds M Q=>match ds with
 | [d]=>∃xs,M[n]?=some (.lst xs)/\xs.length<sizeLine/\Q .non (M.set n (.lst (xs++[d])))
 | _=>False
theorem tV:MtR X "list.append" (kA X.K cw):=by
 intro pins s σ H x xs v us R I rx rs ⟨n,a,ds,M,ρ,Q,ez,hn,sm,rr,q,k⟩
 unfold cw at q
 split at q
 ·rename_i d
  obtain⟨ys,e,hl,q⟩:=q
  first | have hzz:=Reps.inv_cons rr | have hzz:=aw.inv_cons rr
  clear rr
  obtain⟨_,_,rfl,r1,rr⟩:=hzz
  cases rr
  obtain⟨vs,hH,r⟩:=sm.obj n a _ hn e
  obtain⟨w1,w2⟩:=sm.write hn e hH (r.append (.cons r1 .nil))
  exact wb pins s σ H x _ v us R I rx rs ⟨a,vs,_,ez,rfl,hH,by rw[←r.length];exact hl,k _ _ ⟨.non,_,ρ,w1,w2,.non,q⟩⟩
 ·exact q.elim
end
end L2
namespace L2
open PySem PySem.Spec PyProof.Rows DL
section
variable{X:Cx}{tg:Expr}
end
end L2
namespace L2
open PySem PySem.Spec PyProof.Rows DL
def cM(K:AA4)(mg:Str->Option Value)(x:Str)(st:Stmt)(ps:List Str):Prop :=
 ∃f fd,Fun K x x st f fd/\mg x=some (.ref f)/\pS K fd ps []
def Cal(P:Program)(w:World)(K:AA4)(mg:Str->Option Value)(base:Heap)(k:Nat)(x:Str)(ps:List Str)(Pr:DSp):Prop :=
 ∃f fd,FnOk P w K mg base CX0 k f fd ps (spL K Pr)/\mg x=some (.ref f)/\ACS K (.ref f)=true/\pS K fd ps []
theorem fnat_mk{K:AA4}{h:Heap}{mg:Str->Option Value}{x:Str}{st:Stmt}{ps:List Str}{f:Addr}{oc:Value}{od an:Option Addr}{osl:Array (Option Value)}{kV doc pm cdv ct:Value}
  (X:K.In h) (G:h.Ns mainGlobals mg) (a:PySem.W.nsIn K mainGlobals x=some (some (.ref f)))
  (l:K.lookup f=some ⟨oc,od,.func (ACb x x (fX st) (bw st) (ao st) .none kV doc pm an cdv ct),osl⟩)
  (c:AEI K cdv x=true) (k:ACS K (.ref f)=true)
  (h:∀(kV doc pm:Value) (an:Option Addr) (cdv ct:Value) (us:List Value),us.length=ps.length->bindArgs (ACb x x (fX st) (bw st) (ao st) .none kV doc pm an cdv ct) ⟨us,[]⟩=pure (ps.zip us)):cM K mg x st ps :=
 have F:=EG (st:=st) l c k
 ⟨f,_,F,PySem.W.mg_of X G a,F.binds h⟩
theorem Cal.of{P:Program}{w:World}{K:AA4}{mg:Str->Option Value}{base:Heap}{x:Str}{st:Stmt}{N ps:List Str}{k:Nat}{Pr:DSp}(F:cM K mg x st ps)(Sc:FnScope N ps (ao st))
  (len:∀ds M R,Pr ds M R->ds.length=ps.length) {t:DTS}
  (der:∀(f:Addr) (cdv:Value) (A:Around) (outer:List Env) (s:Shared) (H:Hp) (E:XK),Room k (A.deeper (envOfC x (ao st) s.heap.objs.size f cdv))->DSs (pF CX0 P w K mg base N x (ao st) f cdv A outer s H E).nox (bw st) t)
  (wp:∀ds M R,Pr ds M R->t ⟨λ_ M'=>bD M R .non M',bD M R,λ_ _=>False,λ_ _=>False⟩ (bY N ds) M):Cal P w K mg base (k+1) x ps Pr:=by
 obtain⟨f,fd,F1,hm,hb⟩:=F
 exact⟨f,fd,d_fn Pr F1 Sc len λcdv A outer s H E hr=>⟨t,der f cdv A outer s H E hr,wp⟩,hm,F1.kp,hb⟩
theorem BK{P:Program}{w:World}{K:AA4}{mg:Str->Option Value}{base:Heap}{x:Str}{st:Stmt}{N ps:List Str}{k:Nat}{Pr:DSp}{f:Addr}{fd:FuncData}(F:Fun K x x st f fd)(Sc:FnScope N ps (ao st))
  (len:∀ds M R,Pr ds M R->ds.length=ps.length) {t:DTS}
  (der:∀(f:Addr) (cdv:Value) (A:Around) (outer:List Env) (s:Shared) (H:Hp) (E:XK),Room k (A.deeper (envOfC x (ao st) s.heap.objs.size f cdv))->DSs (pF CX0 P w K mg base N x (ao st) f cdv A outer s H E).nox (bw st) t)
  (wp:∀ds M R,Pr ds M R->t ⟨λ_ M'=>bD M R .non M',bD M R,λ_ _=>False,λ_ _=>False⟩ (bY N ds) M):FnOk P w K mg base CX0 (k+1) f fd ps (spL K Pr) :=
 d_fn Pr F Sc len λcdv A outer s H E hr=>⟨t,der f cdv A outer s H E hr,wp⟩
section
variable{X:Cx}{e:Expr}{es:List Expr}{t:DTA}{pos:Pos}
theorem d_cal(C:Cal X.prog X.w X.K X.mg X.base j x ps P)(hr:Room k X.A)(ha:DA X (e::es) t)(hj:j<=k:=by decide)
  (hg:Gl X x:=by rfl) (hdb:(x==("__debug__":Str))=false:=by decide) (he:starEach (e::es) X.env=(false,eval e X.env)::starEach es X.env:=by rfl) (hpl:(backTo pos (starEach es X.env)).any (·.1)=false:=by rfl) :
  DE X (.Call (.Name x p) (e::es) [] pos) (dCB P t):=by
 obtain⟨f,fd,F,hm,hk,hb⟩:=C
 exact Fi F (hr.mono hj) hm hk hb ha hg hdb he hpl
end
theorem jR(h:M[n]?=some mo)(hl:mo.isL=true):am M n mo.items:=by
 cases mo with
 | lst xs=>exact .inl h
 | fz xs=>exact .inr (.inl h)
 | kl xs=>exact .inr (.inr h)
 | dct xs=>cases hl
 | dkt xs=>cases hl
 | dkq xs=>cases hl
 | fdc o xs=>cases hl
 | dkm xs=>cases hl
 | tb x b=>cases hl
theorem gG{K:AA4}{ρ:List Addr}{H:Hp}:∀(ns:List Int),Reps K ρ H (ns.map D.int) (ns.map V.int)
 | []=>.nil
 | n::ns=>.cons (.int n) (gG ns)
end L2
namespace L2
open PySem PySem.Spec PyProof.Rows DL
def lT(nm:List (Str×NameKind))(N N':List Str)(nt:Nat)(js:List Nat)(sc:Scope):Bool :=
 sc.kind==.function&&sc.names.all (λy=>y.2 != .cell&&(y.2 != .local||sc.names.lookup y.1==some .local)&&(y.2 != .free||(nm.lookup y.1==some .cell||nm.lookup y.1==some .free))) &&
 N'.length==nt+js.length&&(AAv js.length).all λk=>match js[k]?,N'[nt+k]? with
  | some j,some x=>N[j]?==some x&&sc.names.lookup x==some .free&&(nm.lookup x==some .cell||nm.lookup x==some .free)
  | _,_=>false
theorem BlkSc.chk(h:lT X.env.scope.names X.N N' nt js scope=true):BlkSc X N' nt js scope:=by
 unfold lT at h
 simp only[AAV,AAa,beq_iff_eq,AE9,bne_iff_ne]at h
 obtain⟨⟨⟨h1,h2⟩,h3⟩,h4⟩:=h
 refine⟨h1,λy hy=>(h2 y hy).1.1,λy hy e=>((h2 y hy).1.2.resolve_left (λz=>z e)),λy hy e=>((h2 y hy).2.resolve_left (λz=>z e)),h3,λk j e=>?_⟩
 have hk:k<js.length:=(AA7.mp e).1
 have q:=h4 k (AB1.mpr hk)
 rw[e]at q
 cases f:N'[nt+k]? with
 | none=>rw[f]at q;exact absurd q (by simp)
 | some x =>
  rw[f]at q
  simp only[AAV,beq_iff_eq,AE9]at q
  exact⟨x,rfl,q.1.1,q.1.2,q.2⟩
section
variable{X:Cx}{a:Expr}{ta:DTE}{pos:Pos}
end
end L2
namespace L2
open PySem PySem.Spec PyProof.Rows DL
def eqL(f:D->D->Bool):List D->List D->Bool
 | [],[]=>true
 | x::xs,y::ys=>f x y&&eqL f xs ys
 | _,_=>false
def eqD(M:Mem):Nat->D->D->Bool
 | _,.non,.non=>true
 | _,.bl a,.bl b=>a==b
 | _,.bl a,.int b=>(if a then 1 else 0)==b
 | _,.int a,.bl b=>a==(if b then 1 else 0)
 | _,.int a,.int b=>a==b
 | _,.str a,.str b=>a==b
 | n+1,.tup xs,.tup ys=>eqL (eqD M n) xs ys
 | n+1,.ref i,.ref j=>match M[i]?,M[j]? with
  | some a,some b=>eqL (eqD M n) a.items b.items
  | _,_=>false
 | _,_,_=>false
def okD(M:Mem):Nat->D->Bool
 | _,.ty _=>false
 | n+1,.tup xs=>xs.all (okD M n)
 | n+1,.ref i=>match M[i]? with
  | some a=>a.isL&&a.items.all (okD M n)
  | none=>false
 | 0,.tup _=>false
 | 0,.ref _=>false
 | _,_=>true
theorem xi:∀{xs ys:List D},eqL f xs ys=true->xs.length=ys.length
 | [],[],_=>rfl
 | [],_::_,h=>by simp[eqL]at h
 | _::_,[],h=>by simp[eqL]at h
 | x::xs,y::ys,h=>by
  simp only[eqL,AAV]at h
  rw[AAJ,AAJ,xi h.2]
theorem xE(n:Nat)(e:Nat->Bool):(AAv (n+1)).all e=(e 0&&(AAv n).all λj=>e (j+1)):=by
 rw[List.range_succ_eq_map,ABM,List.all_map]
 rfl
theorem ka:∀{xs ys:List D}{e:Nat->Bool},xs.length=ys.length->(∀(j:Nat) x y,xs[j]?=some x->ys[j]?=some y->e j=f x y)->(AAv xs.length).all e=eqL f xs ys
 | [],[],e,_,_=>by simp[eqL]
 | [],_::_,_,h,_=>by simp at h
 | _::_,[],_,h,_=>by simp at h
 | x::xs,y::ys,e,h,he=>by
  rw[AAJ,xE,eqL,he 0 x y rfl rfl,ka (by simpa using h) λj x' y' h1 h2=>he (j+1) x' y' (by simpa using h1) (by simpa using h2)]
theorem xh(h:xs.length≠ys.length):eqL f xs ys=false:=by
 cases q:eqL f xs ys with
 | false=>rfl
 | true=>exact absurd (xi q) h
theorem gf{vs:List V}{us:List Value}(h:aw vs us){j:Nat}{v:V}(e:vs[j]?=some v):∃u,us[j]?=some u/\aL v u:=by
 induction h generalizing j with
 | nil=>simp at e
 | cons r _ ih =>
  cases j with
  | zero=>simp at e;subst e;exact⟨_,rfl,r⟩
  | succ j=>exact ih (by simpa using e)
section
variable{X:Cx}{pins:List (Addr×Obj)}{σ:St}{H:Hp}{s:Shared}{ρ:List Addr}{M:Mem}
theorem jw(I:Inv X pins σ H s)(sm:Sim X.K ρ M H){i:Nat}{a:Addr}{mo:MO}(e:ρ[i]?=some a)(hm:M[i]?=some mo)(hl:mo.isL=true):∃vs its,SqL X.K H a vs/\Reps X.K ρ H mo.items vs/\aw vs its/\PlainL s.heap a its.toArray:=by
 obtain⟨vs,hq,r⟩:=am.seq sm (jR hm hl) e
 obtain⟨its,rr,pl,_⟩:=I.list hq
 exact⟨vs,its,hq,r,rr,pl⟩
theorem cZ(hm:M[i]?=some mo)(o:okD M (n+1) (.ref i)=true):mo.isL=true/\mo.items.all (okD M n)=true:=by
 have o':(match M[i]? with | some a=>a.isL&&a.items.all (okD M n) | none=>false)=true:=o
 rw[hm]at o'
 exact(AAV _ _).mp o'
theorem yZ(I:Inv X pins σ H s)(sm:Sim X.K ρ M H):∀(n:Nat) (x y:D) (v:V),Rep X.K ρ H x v->Rep X.K ρ H y v->okD M n x=true->okD M n y=true->eqD M n x y=true:=by
 have all:∀(n:Nat),(∀(x y:D) (v:V),Rep X.K ρ H x v->Rep X.K ρ H y v->okD M n x=true->okD M n y=true->eqD M n x y=true) ->
   ∀(xs ys:List D) (vs:List V),Reps X.K ρ H xs vs->Reps X.K ρ H ys vs->xs.all (okD M n)=true->ys.all (okD M n)=true->eqL (eqD M n) xs ys=true:=by
  intro n ih xs
  induction xs with
  | nil=>intro ys vs h1 h2 _ _;cases h1;cases h2;rfl
  | cons x xs hi =>
   intro ys vs h1 h2 o1 o2
   cases h1 with
   | cons r1 t1 =>
    cases h2 with
    | cons r2 t2 =>
     rw[ABM,AAV]at o1 o2
     rw[eqL,ih _ _ _ r1 r2 o1.1 o2.1,hi _ _ t1 t2 o1.2 o2.2]
     rfl
 intro n
 induction n with
 | zero =>
  intro x y v h1 h2 o1 o2
  cases h1<;>cases h2<;>first | (simp[okD]at o1;done) | rfl | simp[eqD]
 | succ n ih =>
  intro x y v h1 h2 o1 o2
  cases h1 with
  | non=>cases h2;rfl
  | bl b=>cases h2;simp[eqD]
  | int b=>cases h2;simp[eqD]
  | str b=>cases h2;simp[eqD]
  | ty b=>simp[okD]at o1
  | @tup a vs ds hq r =>
   cases h2 with
   | tup hq' r' =>
    have e:=I.tuple_inj hq hq'
    subst e
    exact all n ih _ _ _ r r' (by simpa [okD]using o1) (by simpa [okD]using o2)
   | @ref i _ e =>
    exfalso
    obtain⟨its,_,⟨o,e1,e2,_⟩,_⟩:=I.tuple hq
    have hi:i<M.length:=by rw[←sm.len];exact(AA7.mp e).1
    obtain⟨vs',its',_,_,_,⟨o',n',f1,f2,_⟩⟩:=jw I sm e (AA5 hi) (cZ (AA5 hi) o2).1
    rw[e1]at f1;cases f1
    rw[e2]at f2;injection f2 with f3;exact absurd f3 (by decide)
  | @ref i a e =>
   have hi:i<M.length:=by rw[←sm.len];exact(AA7.mp e).1
   have hm:=AA5 hi
   obtain⟨vs,its,hq,r,rr,pl⟩:=jw I sm e hm (cZ hm o1).1
   cases h2 with
   | tup hq' r' =>
    exfalso
    obtain⟨its',_,⟨o,e1,e2,_⟩,_⟩:=I.tuple hq'
    obtain⟨o',n',f1,f2,_⟩:=pl
    rw[e1]at f1;cases f1
    rw[e2]at f2;injection f2 with f3;exact absurd f3 (by decide)
   | @ref j _ e' =>
    have hj:j<M.length:=by rw[←sm.len];exact(AA7.mp e').1
    have hm':=AA5 hj
    obtain⟨vs',its',hq',r',rr',pl'⟩:=jw I sm e' hm' (cZ hm' o2).1
    have ev:vs=vs':=I.list_inj hq hq'
    subst ev
    have o1':=(cZ hm o1).2
    have o2':=(cZ hm' o2).2
    simp only[eqD,hm,hm']
    exact all n ih _ _ _ r r' o1' o2'
theorem iK(I:Inv X pins σ H s)(sm:Sim X.K ρ M H):∀(n:Nat) (A:Around) (x y:D) (vx vy:V) (u v:Value),A.units+n<cLine->Rep X.K ρ H x vx->aL vx u->Rep X.K ρ H y vy->aL vy v->okD M n x=true->okD M n y=true ->
  ACC A s u v (eqD M n x y)/\SeqAt.RcAt A s u v (eqD M n x y)/\SeqAt.RcNeAt A s u v (!eqD M n x y):=by
 intro n
 induction n with
 | zero =>
  intro A x y vx vy u v hu r1 e1 r2 e2 o1 o2
  cases r1 with
  | ty b=>simp[okD]at o1
  | tup b=>simp[okD]at o1
  | ref b=>simp[okD]at o1
  | non =>
   cases e1
   cases r2 with
   | ty b=>simp[okD]at o2
   | tup b=>simp[okD]at o2
   | ref b=>simp[okD]at o2
   | non=>cases e2;exact⟨AEA _,SeqAt.RcAt.none_none,SeqAt.RcNeAt.none_none⟩
   | bl b=>cases e2;exact⟨SeqAt.EqAt.none_bool _,SeqAt.RcAt.none_bool _,SeqAt.RcNeAt.none_bool _⟩
   | int b=>obtain⟨t,rfl⟩:=e2;exact⟨SeqAt.EqAt.none_int _ _,SeqAt.RcAt.none_int _ _,SeqAt.RcNeAt.none_int _ _⟩
   | str b=>obtain⟨t,rfl⟩:=e2;exact⟨SeqAt.EqAt.none_str _ _,SeqAt.RcAt.none_str _ _,SeqAt.RcNeAt.none_str _ _⟩
  | bl a =>
   cases e1
   cases r2 with
   | ty b=>simp[okD]at o2
   | tup b=>simp[okD]at o2
   | ref b=>simp[okD]at o2
   | non=>cases e2;exact⟨SeqAt.EqAt.bool_none _,SeqAt.RcAt.bool_none _,SeqAt.RcNeAt.bool_none _⟩
   | bl b=>cases e2;exact⟨SeqAt.EqAt.bool_bool _ _,SeqAt.RcAt.bool_bool _ _,SeqAt.RcNeAt.bool_bool _ _⟩
   | int b=>obtain⟨t,rfl⟩:=e2;exact⟨SeqAt.EqAt.bool_int _ _ _,SeqAt.RcAt.bool_int _ _ _,SeqAt.RcNeAt.bool_int _ _ _⟩
   | str b=>obtain⟨t,rfl⟩:=e2;exact⟨SeqAt.EqAt.bool_str _ _ _,SeqAt.RcAt.bool_str _ _ _,SeqAt.RcNeAt.bool_str _ _ _⟩
  | int a =>
   obtain⟨t0,rfl⟩:=e1
   cases r2 with
   | ty b=>simp[okD]at o2
   | tup b=>simp[okD]at o2
   | ref b=>simp[okD]at o2
   | non=>cases e2;exact⟨SeqAt.EqAt.int_none _ _,SeqAt.RcAt.int_none _ _,SeqAt.RcNeAt.int_none _ _⟩
   | bl b=>cases e2;exact⟨SeqAt.EqAt.int_bool _ _ _,SeqAt.RcAt.int_bool _ _ _,SeqAt.RcNeAt.int_bool _ _ _⟩
   | int b=>obtain⟨t,rfl⟩:=e2;exact⟨ADS _ _ _ _,SeqAt.RcAt.int_int _ _ _ _,SeqAt.RcNeAt.int_int _ _ _ _⟩
   | str b=>obtain⟨t,rfl⟩:=e2;exact⟨ACq _ _ _ _,SeqAt.RcAt.int_str _ _ _ _,SeqAt.RcNeAt.int_str _ _ _ _⟩
  | str a =>
   obtain⟨t0,rfl⟩:=e1
   cases r2 with
   | ty b=>simp[okD]at o2
   | tup b=>simp[okD]at o2
   | ref b=>simp[okD]at o2
   | non=>cases e2;exact⟨SeqAt.EqAt.str_none _ _,SeqAt.RcAt.str_none _ _,SeqAt.RcNeAt.str_none _ _⟩
   | bl b=>cases e2;exact⟨SeqAt.EqAt.str_bool _ _ _,SeqAt.RcAt.str_bool _ _ _,SeqAt.RcNeAt.str_bool _ _ _⟩
   | int b=>obtain⟨t,rfl⟩:=e2;exact⟨ACr _ _ _ _,SeqAt.RcAt.str_int _ _ _ _,SeqAt.RcNeAt.str_int _ _ _ _⟩
   | str b=>obtain⟨t,rfl⟩:=e2;exact⟨ADT _ _ _ _,SeqAt.RcAt.str_str _ _ _ _,SeqAt.RcNeAt.str_str _ _ _ _⟩
 | succ n ih =>
  intro A x y vx vy u v hu r1 e1 r2 e2 o1 o2
  have hu0:A.units<cLine:=by lia
  have hu1:A.in1.units+n<cLine:=by show A.units+1+n<cLine;lia
  -- what a list or a tuple is,as the heap has it
  have tupAt:∀{a:Addr}{vs:List V}{ds:List D},SqT X.K H a vs->Reps X.K ρ H ds vs->∃its:List Value,aw vs its/\s.heap.IsTuple a its.toArray/\ds.length=its.length:=λ{a vs ds} hq r=>by
   obtain⟨its,rr,pl,_⟩:=I.tuple hq
   exact⟨its,rr,pl,r.length.trans rr.length⟩
  have lstAt:∀{i:Nat}{a:Addr},ρ[i]?=some a->okD M (n+1) (.ref i)=true->∃mo,M[i]?=some mo/\∃vs its,Reps X.K ρ H mo.items vs/\aw vs its/\s.heap.IsList a its.toArray/\mo.items.length=its.length:=λ{i a} e ok=>by
   have hi:i<M.length:=by rw[←sm.len];exact(AA7.mp e).1
   have hm:=AA5 hi
   obtain⟨vs,its,hq,r,rr,pl⟩:=jw I sm e hm (cZ hm ok).1
   exact⟨_,hm,vs,its,r,rr,pl.isList,r.length.trans rr.length⟩
  have items:∀{xs ys:List D}{vs ws:List V}{its jts:List Value},Reps X.K ρ H xs vs->aw vs its->Reps X.K ρ H ys ws->aw ws jts->xs.all (okD M n)=true->ys.all (okD M n)=true ->
    ∀(j:Nat) (h1:j<its.toArray.size) (h2:j<jts.toArray.size),ACC A.in1 s its.toArray[j] jts.toArray[j] (eqD M n (xs.getD j .non) (ys.getD j .non)):=λ{xs ys vs ws its jts} r1 q1 r2 q2 o1 o2 j h1 h2=>by
   have l1:j<xs.length:=by rw[r1.length,q1.length];simpa using h1
   have l2:j<ys.length:=by rw[r2.length,q2.length];simpa using h2
   obtain⟨v1,g1,p1⟩:=r1.get (AA5 l1)
   obtain⟨v2,g2,p2⟩:=r2.get (AA5 l2)
   obtain⟨u1,k1,m1⟩:=gf q1 g1
   obtain⟨u2,k2,m2⟩:=gf q2 g2
   have z1:its.toArray[j]=u1:=by
    have:=(AA7.mp k1).2
    simpa using this
   have z2:jts.toArray[j]=u2:=by
    have:=(AA7.mp k2).2
    simpa using this
   rw[z1,z2]
   have y1:xs.getD j .non=xs[j]:=by simp[AEM,AA5 l1]
   have y2:ys.getD j .non=ys[j]:=by simp[AEM,AA5 l2]
   rw[y1,y2]
   exact(ih A.in1 _ _ _ _ _ _ hu1 p1 m1 p2 m2 (AAa.mp o1 _ (AB8 l1)) (AAa.mp o2 _ (AB8 l2))).1
  have rng:∀(xs ys:List D),xs.length=ys.length->(AAv xs.length).all (λj=>eqD M n (xs.getD j .non) (ys.getD j .non))=eqL (eqD M n) xs ys:=λxs ys h=>ka h λj x y h1 h2=>by
   simp[AEM,h1,h2]
  have fin:∀{a b:Addr}{k:Bool},Rep X.K ρ H x (.ref a)->Rep X.K ρ H y (.ref b)->eqD M (n+1) x y=k->SeqAt.RcAt A s (.ref a) (.ref b) k->SeqAt.RcNeAt A s (.ref a) (.ref b) (!k) ->
    ACC A s (.ref a) (.ref b) (eqD M (n+1) x y)/\SeqAt.RcAt A s (.ref a) (.ref b) (eqD M (n+1) x y)/\SeqAt.RcNeAt A s (.ref a) (.ref b) (!eqD M (n+1) x y):=λ{a b k} p1 p2 ek h1 h2=>by
   subst ek
   refine⟨?_,h1,h2⟩
   by_cases hab:a=b
   ·subst hab
    rw[yZ I sm (n+1) x y _ p1 p2 o1 o2]
    exact AEA _
   ·exact SeqAt.EqAt.of_refs hab h1
  cases r1 with
  | ty b=>simp[okD]at o1
  | non =>
   cases e1
   cases r2 with
   | ty b=>simp[okD]at o2
   | tup hq r=>cases e2;obtain⟨its,rr,pl,_⟩:=tupAt hq r;exact⟨SeqAt.EqAt.none_tuple pl hu0,SeqAt.RcAt.none_tuple pl hu0,SeqAt.RcNeAt.none_tuple pl hu0⟩
   | ref e=>cases e2;obtain⟨mo,hm,vs,its,r,rr,pl,_⟩:=lstAt e o2;exact⟨SeqAt.EqAt.none_list pl hu0,SeqAt.RcAt.none_list pl hu0,SeqAt.RcNeAt.none_list pl hu0⟩
   | non=>cases e2;exact⟨AEA _,SeqAt.RcAt.none_none,SeqAt.RcNeAt.none_none⟩
   | bl b=>cases e2;exact⟨SeqAt.EqAt.none_bool _,SeqAt.RcAt.none_bool _,SeqAt.RcNeAt.none_bool _⟩
   | int b=>obtain⟨t,rfl⟩:=e2;exact⟨SeqAt.EqAt.none_int _ _,SeqAt.RcAt.none_int _ _,SeqAt.RcNeAt.none_int _ _⟩
   | str b=>obtain⟨t,rfl⟩:=e2;exact⟨SeqAt.EqAt.none_str _ _,SeqAt.RcAt.none_str _ _,SeqAt.RcNeAt.none_str _ _⟩
  | bl a =>
   cases e1
   cases r2 with
   | ty b=>simp[okD]at o2
   | tup hq r=>cases e2;obtain⟨its,rr,pl,_⟩:=tupAt hq r;exact⟨SeqAt.EqAt.bool_tuple _ pl hu0,SeqAt.RcAt.bool_tuple _ pl hu0,SeqAt.RcNeAt.bool_tuple _ pl hu0⟩
   | ref e=>cases e2;obtain⟨mo,hm,vs,its,r,rr,pl,_⟩:=lstAt e o2;exact⟨SeqAt.EqAt.bool_list _ pl hu0,SeqAt.RcAt.bool_list _ pl hu0,SeqAt.RcNeAt.bool_list _ pl hu0⟩
   | non=>cases e2;exact⟨SeqAt.EqAt.bool_none _,SeqAt.RcAt.bool_none _,SeqAt.RcNeAt.bool_none _⟩
   | bl b=>cases e2;exact⟨SeqAt.EqAt.bool_bool _ _,SeqAt.RcAt.bool_bool _ _,SeqAt.RcNeAt.bool_bool _ _⟩
   | int b=>obtain⟨t,rfl⟩:=e2;exact⟨SeqAt.EqAt.bool_int _ _ _,SeqAt.RcAt.bool_int _ _ _,SeqAt.RcNeAt.bool_int _ _ _⟩
   | str b=>obtain⟨t,rfl⟩:=e2;exact⟨SeqAt.EqAt.bool_str _ _ _,SeqAt.RcAt.bool_str _ _ _,SeqAt.RcNeAt.bool_str _ _ _⟩
  | int a =>
   obtain⟨t0,rfl⟩:=e1
   cases r2 with
   | ty b=>simp[okD]at o2
   | tup hq r=>cases e2;obtain⟨its,rr,pl,_⟩:=tupAt hq r;exact⟨SeqAt.EqAt.int_tuple _ _ pl hu0,SeqAt.RcAt.int_tuple _ _ pl hu0,SeqAt.RcNeAt.int_tuple _ _ pl hu0⟩
   | ref e=>cases e2;obtain⟨mo,hm,vs,its,r,rr,pl,_⟩:=lstAt e o2;exact⟨SeqAt.EqAt.int_list _ _ pl hu0,SeqAt.RcAt.int_list _ _ pl hu0,SeqAt.RcNeAt.int_list _ _ pl hu0⟩
   | non=>cases e2;exact⟨SeqAt.EqAt.int_none _ _,SeqAt.RcAt.int_none _ _,SeqAt.RcNeAt.int_none _ _⟩
   | bl b=>cases e2;exact⟨SeqAt.EqAt.int_bool _ _ _,SeqAt.RcAt.int_bool _ _ _,SeqAt.RcNeAt.int_bool _ _ _⟩
   | int b=>obtain⟨t,rfl⟩:=e2;exact⟨ADS _ _ _ _,SeqAt.RcAt.int_int _ _ _ _,SeqAt.RcNeAt.int_int _ _ _ _⟩
   | str b=>obtain⟨t,rfl⟩:=e2;exact⟨ACq _ _ _ _,SeqAt.RcAt.int_str _ _ _ _,SeqAt.RcNeAt.int_str _ _ _ _⟩
  | str a =>
   obtain⟨t0,rfl⟩:=e1
   cases r2 with
   | ty b=>simp[okD]at o2
   | tup hq r=>cases e2;obtain⟨its,rr,pl,_⟩:=tupAt hq r;exact⟨SeqAt.EqAt.str_tuple _ _ pl hu0,SeqAt.RcAt.str_tuple _ _ pl hu0,SeqAt.RcNeAt.str_tuple _ _ pl hu0⟩
   | ref e=>cases e2;obtain⟨mo,hm,vs,its,r,rr,pl,_⟩:=lstAt e o2;exact⟨SeqAt.EqAt.str_list _ _ pl hu0,SeqAt.RcAt.str_list _ _ pl hu0,SeqAt.RcNeAt.str_list _ _ pl hu0⟩
   | non=>cases e2;exact⟨SeqAt.EqAt.str_none _ _,SeqAt.RcAt.str_none _ _,SeqAt.RcNeAt.str_none _ _⟩
   | bl b=>cases e2;exact⟨SeqAt.EqAt.str_bool _ _ _,SeqAt.RcAt.str_bool _ _ _,SeqAt.RcNeAt.str_bool _ _ _⟩
   | int b=>obtain⟨t,rfl⟩:=e2;exact⟨ACr _ _ _ _,SeqAt.RcAt.str_int _ _ _ _,SeqAt.RcNeAt.str_int _ _ _ _⟩
   | str b=>obtain⟨t,rfl⟩:=e2;exact⟨ADT _ _ _ _,SeqAt.RcAt.str_str _ _ _ _,SeqAt.RcNeAt.str_str _ _ _ _⟩
  | @tup a vs ds hq r =>
   cases e1
   obtain⟨its,rr,pl,ll⟩:=tupAt hq r
   cases r2 with
   | ty b=>simp[okD]at o2
   | non=>cases e2;exact⟨SeqAt.EqAt.tuple_none pl hu0,SeqAt.RcAt.tuple_none pl hu0,SeqAt.RcNeAt.tuple_none pl hu0⟩
   | bl b=>cases e2;exact⟨SeqAt.EqAt.tuple_bool _ pl hu0,SeqAt.RcAt.tuple_bool _ pl hu0,SeqAt.RcNeAt.tuple_bool _ pl hu0⟩
   | int b=>obtain⟨t,rfl⟩:=e2;exact⟨SeqAt.EqAt.tuple_int _ _ pl hu0,SeqAt.RcAt.tuple_int _ _ pl hu0,SeqAt.RcNeAt.tuple_int _ _ pl hu0⟩
   | str b=>obtain⟨t,rfl⟩:=e2;exact⟨SeqAt.EqAt.tuple_str _ _ pl hu0,SeqAt.RcAt.tuple_str _ _ pl hu0,SeqAt.RcNeAt.tuple_str _ _ pl hu0⟩
   | ref e=>cases e2;obtain⟨mo,hm,vs',its',r',rr',pl',_⟩:=lstAt e o2;exact⟨SeqAt.EqAt.tuple_list pl pl' hu0,SeqAt.RcAt.tuple_list pl pl' hu0,SeqAt.RcNeAt.tuple_list pl pl' hu0⟩
   | @tup b ws es hq' r' =>
    cases e2
    obtain⟨jts,rr',pl',ll'⟩:=tupAt hq' r'
    have ok1:ds.all (okD M n)=true:=by simpa [okD]using o1
    have ok2:es.all (okD M n)=true:=by simpa [okD]using o2
    have key:((AAv (min its.toArray.size jts.toArray.size)).all (λj=>eqD M n (ds.getD j .non) (es.getD j .non))&&its.toArray.size==jts.toArray.size)=eqL (eqD M n) ds es:=by
     rw[AAD,AAD]
     by_cases hl:ds.length=es.length
     ·rw[←ll,←ll',←hl,Nat.min_self,rng ds es hl]
      simp
     ·rw[xh hl,←ll,←ll']
      simp[hl]
    have h1:=SeqAt.RcAt.tuples pl pl' hu0 (items r rr r' rr' ok1 ok2)
    have h2:=SeqAt.RcNeAt.tuples pl pl' hu0 (items r rr r' rr' ok1 ok2)
    rw[key]at h1 h2
    exact fin (.tup hq r) (.tup hq' r') rfl h1 h2
  | @ref i a e =>
   cases e1
   obtain⟨mo,hm,vs,its,r,rr,pl,ll⟩:=lstAt e o1
   cases r2 with
   | ty b=>simp[okD]at o2
   | non=>cases e2;exact⟨SeqAt.EqAt.list_none pl hu0,SeqAt.RcAt.list_none pl hu0,SeqAt.RcNeAt.list_none pl hu0⟩
   | bl b=>cases e2;exact⟨SeqAt.EqAt.list_bool _ pl hu0,SeqAt.RcAt.list_bool _ pl hu0,SeqAt.RcNeAt.list_bool _ pl hu0⟩
   | int b=>obtain⟨t,rfl⟩:=e2;exact⟨SeqAt.EqAt.list_int _ _ pl hu0,SeqAt.RcAt.list_int _ _ pl hu0,SeqAt.RcNeAt.list_int _ _ pl hu0⟩
   | str b=>obtain⟨t,rfl⟩:=e2;exact⟨SeqAt.EqAt.list_str _ _ pl hu0,SeqAt.RcAt.list_str _ _ pl hu0,SeqAt.RcNeAt.list_str _ _ pl hu0⟩
   | tup hq' r'=>cases e2;obtain⟨its',rr',pl',_⟩:=tupAt hq' r';exact⟨SeqAt.EqAt.list_tuple pl pl' hu0,SeqAt.RcAt.list_tuple pl pl' hu0,SeqAt.RcNeAt.list_tuple pl pl' hu0⟩
   | @ref j b e' =>
    cases e2
    obtain⟨mo',hm',ws,jts,r',rr',pl',ll'⟩:=lstAt e' o2
    have ok1:mo.items.all (okD M n)=true:=(cZ hm o1).2
    have ok2:mo'.items.all (okD M n)=true:=(cZ hm' o2).2
    have ek:eqD M (n+1) (.ref i) (.ref j)=eqL (eqD M n) mo.items mo'.items:=by simp only[eqD,hm,hm']
    by_cases hl:mo.items.length=mo'.items.length
    ·have hsz:its.toArray.size=jts.toArray.size:=by rw[AAD,AAD,←ll,←ll',hl]
     have h1:=SeqAt.RcAt.lists pl pl' hsz hu0 (items r rr r' rr' ok1 ok2)
     have h2:=SeqAt.RcNeAt.lists pl pl' hsz hu0 (items r rr r' rr' ok1 ok2)
     rw[AAD,←ll,rng _ _ hl]at h1 h2
     exact fin (.ref e) (.ref e') ek h1 h2
    ·have hsz:(its.toArray.size != jts.toArray.size)=true:=by
      rw[AAD,AAD,←ll,←ll']
      simpa using hl
     have h1:=SeqAt.RcAt.lists_lengths pl pl' hsz hu0
     have h2:=SeqAt.RcNeAt.lists_lengths pl pl' hsz hu0
     exact fin (.ref e) (.ref e') (ek.trans (xh hl)) h1 h2
def eqN:Nat:=30
def qEq:DR2:=λx y M Q=>(okD M eqN x=true/\okD M eqN y=true)/\Q (.bl (eqD M eqN x y)) M
def qNe:DR2:=λx y M Q=>(okD M eqN x=true/\okD M eqN y=true)/\Q (.bl (!eqD M eqN x y)) M
def inD(M:Mem)(x:D)(ys:List D):Bool:=ys.any λy=>eqD M eqN y x
def Da(neg:Bool):DR2:=λx y M Q=>match y with
 | .tup ys=>(okD M eqN x=true/\ys.all (okD M eqN)=true)/\Q (.bl (inD M x ys != neg)) M
 | .ref n=>∃ys,am M n ys/\(okD M eqN x=true/\ys.all (okD M eqN)=true)/\Q (.bl (inD M x ys != neg)) M
 | .str z=>match x with
  | .str p=>Q (.bl ((!(Builtin.Str.occurrences z p 0 z.length 1).isEmpty) != neg)) M
  | _=>False
 | _=>False
abbrev qIn:DR2:=Da false
abbrev gI:DR2:=Da true
end
section
variable{X:Cx}
theorem rh(hr:Room k A):A.units+eqN<cLine:=by have:=hr.un;unfold eqN;lia
theorem od_eq(hr:Room k X.A):OpD X (compareOp .Eq) qEq:=by
 intro pins s σ H vx vy v u R I rx ry ⟨x,y,M,ρ,Q,sm,r1,r2,⟨⟨o1,o2⟩,q⟩,k⟩
 exact(iK I sm eqN X.A x y vx vy v u (rh hr) r1 rx r2 ry o1 o2).2.1 _ _ _ _ (iu I sm k q)
theorem od_ne(hr:Room k X.A):OpD X (compareOp .NotEq) qNe:=by
 intro pins s σ H vx vy v u R I rx ry ⟨x,y,M,ρ,Q,sm,r1,r2,⟨⟨o1,o2⟩,q⟩,k⟩
 exact(iK I sm eqN X.A x y vx vy v u (rh hr) r1 rx r2 ry o1 o2).2.2 _ _ _ _ (iu I sm k q)
theorem pf{pins:List (Addr×Obj)}{σ:St}{H:Hp}{s:Shared}{ρ:List Addr}{M:Mem}(I:Inv X pins σ H s)(sm:Sim X.K ρ M H):∀(n:Nat) (x y z:D) (v:V),Rep X.K ρ H x v->Rep X.K ρ H y v->okD M n x=true->okD M n y=true->eqD M n x z=eqD M n y z:=by
 have all:∀(n:Nat),(∀(x y z:D) (v:V),Rep X.K ρ H x v->Rep X.K ρ H y v->okD M n x=true->okD M n y=true->eqD M n x z=eqD M n y z) ->
   ∀(xs ys zs:List D) (vs:List V),Reps X.K ρ H xs vs->Reps X.K ρ H ys vs->xs.all (okD M n)=true->ys.all (okD M n)=true->eqL (eqD M n) xs zs=eqL (eqD M n) ys zs:=by
  intro n ih xs
  induction xs with
  | nil=>intro ys zs vs h1 h2 _ _;cases h1;cases h2;rfl
  | cons x xs hi =>
   intro ys zs vs h1 h2 o1 o2
   cases h1 with
   | cons r1 t1 =>
    cases h2 with
    | cons r2 t2 =>
     cases zs with
     | nil=>rfl
     | cons z zs =>
      rw[ABM,AAV]at o1 o2
      rw[eqL,eqL,ih _ _ z _ r1 r2 o1.1 o2.1,hi _ zs _ t1 t2 o1.2 o2.2]
 intro n
 induction n with
 | zero =>
  intro x y z v h1 h2 o1 o2
  cases h1<;>cases h2<;>first | rfl | (cases z<;>rfl)
 | succ n ih =>
  intro x y z v h1 h2 o1 o2
  cases h1 with
  | non=>cases h2;rfl
  | bl b=>cases h2;rfl
  | int b=>cases h2;rfl
  | str b=>cases h2;rfl
  | ty b=>cases h2;rfl
  | @tup a vs ds hq r =>
   cases h2 with
   | tup hq' r' =>
    have e:=I.tuple_inj hq hq'
    subst e
    cases z with
    | tup zs=>exact all n ih _ _ zs _ r r' o1 o2
    | _=>rfl
   | @ref i _ e =>
    exfalso
    obtain⟨its,_,⟨o,e1,e2,_⟩,_⟩:=I.tuple hq
    have hi:i<M.length:=by rw[←sm.len];exact(AA7.mp e).1
    obtain⟨vs',its',_,_,_,⟨o',n',f1,f2,_⟩⟩:=jw I sm e (AA5 hi) (cZ (AA5 hi) o2).1
    rw[e1]at f1;cases f1
    rw[e2]at f2;injection f2 with f3;exact absurd f3 (by decide)
  | @ref i a e =>
   have hi:i<M.length:=by rw[←sm.len];exact(AA7.mp e).1
   have hm:=AA5 hi
   obtain⟨vs,its,hq,r,rr,pl⟩:=jw I sm e hm (cZ hm o1).1
   cases h2 with
   | tup hq' r' =>
    exfalso
    obtain⟨its',_,⟨o,e1,e2,_⟩,_⟩:=I.tuple hq'
    obtain⟨o',n',f1,f2,_⟩:=pl
    rw[e1]at f1;cases f1
    rw[e2]at f2;injection f2 with f3;exact absurd f3 (by decide)
   | @ref j _ e' =>
    have hj:j<M.length:=by rw[←sm.len];exact(AA7.mp e').1
    have hm':=AA5 hj
    obtain⟨vs',its',hq',r',rr',pl'⟩:=jw I sm e' hm' (cZ hm' o2).1
    have ev:vs=vs':=I.list_inj hq hq'
    subst ev
    cases z with
    | ref k =>
     simp only[eqD,hm,hm']
     cases M[k]? with
     | none=>rfl
     | some mo=>exact all n ih _ _ _ _ r r' (cZ hm o1).2 (cZ hm' o2).2
    | _=>rfl
theorem wS{k:Nat}(hr:Room k X.A){pins:List (Addr×Obj)}{σ:St}{H:Hp}{s:Shared}{ρ:List Addr}{M:Mem}(I:Inv X pins σ H s)(sm:Sim X.K ρ M H){x:D}{vx:V}{v:Value}(r1:Rep X.K ρ H x vx)(rx:aL vx v)(o1:okD M eqN x=true) :
  ∀{ys:List D}{ws:List V}{its:List Value},Reps X.K ρ H ys ws->aw ws its->ys.all (okD M eqN)=true->∃e:Value->Bool,(∀u∈its,ACC X.A.in1 s u v (e u))/\its.any e=inD M x ys:=by
 have hu:X.A.in1.units+eqN<cLine:=by have:=hr.un;show X.A.units+1+eqN<cLine;unfold eqN;lia
 intro ys ws its rs vs ok
 classical
 refine⟨λu=>if h:∃d v',Rep X.K ρ H d v'/\aL v' u/\okD M eqN d=true then eqD M eqN h.choose x else false,λu hm=>?_,?_⟩
 ·obtain⟨j,hj,ej⟩:=List.getElem_of_mem hm
  have lj:j<ws.length:=by rw[vs.length];exact hj
  obtain⟨d,hd,rd⟩:=rs.getV (AA5 lj)
  obtain⟨u',hu',ru⟩:=gf vs (AA5 lj)
  have:u'=u:=by rw[AA5 hj]at hu';cases hu';exact ej
  subst this
  have okd:=AAa.mp ok _ (AAc hd)
  have h:∃d v',Rep X.K ρ H d v'/\aL v' u'/\okD M eqN d=true:=⟨d,_,rd,ru,okd⟩
  show ACC X.A.in1 s u' v (if h:_ then _ else _)
  rw[dif_pos h]
  obtain⟨v',p1,p2,p3⟩:=h.choose_spec
  have ev:=aL.inj p2 ru
  subst ev
  rw[pf I sm eqN _ d x _ p1 rd p3 okd]
  exact(iK I sm eqN X.A.in1 d x _ vx _ v hu rd ru r1 rx (AAa.mp ok _ (AAc hd)) o1).1
 ·clear hu o1
  unfold inD
  induction ys generalizing ws its with
  | nil=>cases rs;cases vs;rfl
  | cons d ds ih =>
   cases rs with
   | cons r t =>
   cases vs with
   | cons q t' =>
    rename_i v' vs' u us
    rw[ABM,AAV]at ok
    have h:∃d v',Rep X.K ρ H d v'/\aL v' u/\okD M eqN d=true:=⟨d,_,r,q,ok.1⟩
    rw[List.any_cons,List.any_cons,ih t t' ok.2,dif_pos h]
    obtain⟨v2,p1,p2,p3⟩:=h.choose_spec
    have ev:=aL.inj p2 q
    subst ev
    rw[pf I sm eqN _ d x _ p1 r p3 ok.1]
theorem zF(neg:Bool)(hr:Room k X.A):OpD X (compareOp (if neg then .NotIn else .In)) (Da neg):=by
 intro pins s σ H vx vy v u R I rx ry ⟨x,y,M,ρ,Q,sm,r1,r2,q,k⟩
 cases r2 with
 | non=>exact q.elim
 | bl b=>exact q.elim
 | int b=>exact q.elim
 | ty b=>exact q.elim
 | str z =>
  cases r1 with
  | str p =>
   obtain⟨t,rfl⟩:=rx
   obtain⟨t',rfl⟩:=ry
   cases neg with
   | false=>exact in_str (iu I sm k (by simpa [Da]using q))
   | true=>exact notIn_str (iu I sm k (by simpa [Da]using q))
  | _=>exact q.elim
 | @tup a ws ys hq r =>
  cases ry
  obtain⟨⟨o1,o2⟩,q⟩:=(show (okD M eqN x=true/\_)/\_ from q)
  obtain⟨its,rr,pl,hz⟩:=I.tuple hq
  obtain⟨e,he,ee⟩:=wS hr I sm r1 rx o1 r rr o2
  have ea:its.toArray.any e=inD M x ys:=by rw[←ee];simp
  cases neg with
  | false=>exact SeqAt.in_tupleAt e pl (λw hw=>he w (by simpa using hw)) (by rw[ea];exact iu I sm k (by simpa using q))
  | true=>exact SeqAt.notIn_tupleAt e pl (λw hw=>he w (by simpa using hw)) (by rw[ea];exact iu I sm k (by simpa using q))
 | ref h =>
  cases ry
  obtain⟨ys,hL,⟨o1,o2⟩,q⟩:=(show ∃ys,am M _ ys/\(okD M eqN x=true/\_)/\_ from q)
  obtain⟨ws,hq,r⟩:=am.seq sm hL h
  obtain⟨its,rr,pl,hz⟩:=I.list hq
  obtain⟨e,he,ee⟩:=wS hr I sm r1 rx o1 r rr o2
  have ea:its.toArray.any e=inD M x ys:=by rw[←ee];simp
  cases neg with
  | false=>exact SeqAt.in_listAt e pl.isList (λw hw=>he w (by simpa using hw)) (by rw[ea];exact iu I sm k (by simpa using q))
  | true=>exact SeqAt.notIn_listAt e pl.isList (λw hw=>he w (by simpa using hw)) (by rw[ea];exact iu I sm k (by simpa using q))
theorem od_in(hr:Room k X.A):OpD X (compareOp .In) qIn:=zF false hr
theorem yq(hr:Room k X.A):OpD X (compareOp .NotIn) gI:=zF true hr
end
end L2
namespace L2
open PySem PySem.Spec PyProof.Rows DL
theorem Fo:bootBuiltins "len" = some (.builtin "len"):=by decide +kernel
theorem pP:bootBuiltins "sorted" = some (.builtin "sorted"):=by decide +kernel
theorem zq:bootBuiltins "tuple" = some (.type "tuple"):=by decide +kernel
theorem Ck:bootBuiltins "dict" = some (.type "dict"):=by decide +kernel
def visB(sc:Scope)(x:Str):Bool:=match sc.names.lookup x with
 | some .local=>true
 | some .cell=>true
 | some .free=>true
 | _=>false
theorem CB(h:visB sc x=true):Vis sc x:=by
 unfold visB at h
 unfold Vis
 split at h
 ·rename_i e;exact .inl e
 ·rename_i e;exact .inr (.inl e)
 ·rename_i e;exact .inr (.inr e)
 ·cases h
def Cs(sc:Scope)(x:Str):Bool:=match sc.names.lookup x with
 | some .local=>true
 | some .cell=>true
 | _=>false
theorem wj(h:Cs sc x=true):Loc sc x:=by
 unfold Cs at h
 unfold Loc
 split at h
 ·rename_i e;exact .inl e
 ·rename_i e;exact .inr e
 ·cases h
structure HE(X:Cx)(e:Expr)(t:DTE):Prop where
 ok:DE X e t
structure HT(X:Cx)(e:Expr)(t:DTT):Prop where
 ok:DT X e t
structure HW(X:Cx)(e:Expr)(t:DTT):Prop where
 ok:DW X e t
structure HA(X:Cx)(es:List Expr)(t:DTA):Prop where
 ok:DA X es t
structure HS(X:Cx)(e:Stmt)(t:DTS):Prop where
 ok:DS X e t
structure HB(X:Cx)(e:List Stmt)(t:DTS):Prop where
 ok:DSs X e t
structure HG(X:Cx)(e:Expr)(t:DTG):Prop where
 ok:DG X e t
structure HI(X:Cx)(tg e:Expr)(t:DTI):Prop where
 ok:DI X tg e t
structure HTs(X:Cx)(e:List Expr)(t:DTT):Prop where
 ok:PTs X e (lowT X.K t)
structure HO'(X:Cx)(e:Option Expr)(t:DTO):Prop where
 ok:PO X e (DZ X.K t)
structure HOp(X:Cx)(f:Value->Value->Sem Value)(r:DR2):Prop where
 ok:OpD X f r
structure HUn(X:Cx)(f:Value->Sem Value)(r:DR1):Prop where
 ok:UnD X f r
structure HC(X:Cx)(f:Value)(r:DRA):Prop where
 ok:pR X f r
structure HMs(X:Cx)(name:Str)(r:Str->DRA):Prop where
 ok:∃id,Slot "str" name id/\typeOf (.builtin id)=pure (.type "method_descriptor")/\MtR X id (lowMs X.K r)
structure HMl(X:Cx)(name:Str)(r:Nat->DRA):Prop where
 ok:∃id,Slot "list" name id/\typeOf (.builtin id)=pure (.type "method_descriptor")/\MtR X id (kA X.K r)
section
variable{X:Cx}{e a b c o:Expr}{es aI:List Expr}{te ta tb tc to:DTE}{t:DTA}{pos p:Pos}{x:Str}{tA tB:DTT}{k:Nat}
theorem Ef(hN:X.N[i]?=some x:=by kernel_rfl)(hv:visB X.env.scope x=true:=by kernel_rfl)(hd:(x==("__debug__":Str))=false:=by kernel_rfl)
  (hcd:(x==("__classdict__":Str))=false:=by kernel_rfl):HE X (.Name x pos) (ab i):=⟨d_var hN (CB hv) hd hcd⟩
theorem En:HE X (.Constant (.int i) j pos) (dC (.int i)):=⟨d_int⟩
theorem k_bl:HE X (.Constant (.bool i) j pos) (dC (.bl i)):=⟨d_bl⟩
theorem Ej:HE X (.Constant .none j pos) (dC .non):=⟨d_non⟩
theorem Eh:HE X (.Constant (.str i) j pos) (dC (.str i)):=⟨d_str⟩
theorem k_op(ho:HOp X (binaryOp op) r)(ha:HE X a ta)(hb:HE X b tb):HE X (.BinOp a op b pos) (dOp r ta tb):=⟨d_op ho.ok ha.ok hb.ok⟩
theorem Eo(ho:HOp X (compareOp op) r)(ha:HE X a ta)(hb:HE X b tb)(hm:behindInMarks op b=false:=by kernel_rfl):HE X (.Compare a [op] [b] pos) (dOp r ta tb):=⟨d_cmp ho.ok ha.ok hb.ok hm⟩
theorem zN(ho:HOp X (compareOp op) r)(ha:HE X a ta)(hb:HE X b tb)(hm:behindInMarks op b=false:=by kernel_rfl):HT X (.Compare a [op] [b] pos) (aK (dOp r ta tb)):=⟨ER ho.ok ha.ok hb.ok hm⟩
theorem zL(h:HE X e te)(he:∀whole,isTrue e X.env whole=(do let v ←whole;standAt e.pos;holding [v] (truthy v)):=by intro _;kernel_rfl):HT X e (aK te):=⟨EO h.ok he⟩
theorem wy(ha:HT X a tA):HW X (.BoolOp .And [a] pos) tA:=⟨BP ha.ok⟩
theorem zJ(ha:HT X a tA):HW X (.BoolOp .Or [a] pos) tA:=⟨EM ha.ok⟩
theorem sB(ha:HT X a tA)(hb:HW X (.BoolOp .And (b::aI) pos) tB):HW X (.BoolOp .And (a::b::aI) pos) (Fj tA tB):=⟨EN ha.ok hb.ok⟩
theorem yJ(ha:HT X a tA)(hb:HW X (.BoolOp .Or (b::aI) pos) tB):HW X (.BoolOp .Or (a::b::aI) pos) (dOr tA tB):=⟨dw_or ha.ok hb.ok⟩
theorem kw_t(h:HW X e tA):HT X e tA:=⟨dw_t h.ok⟩
theorem zM(ha:HT X a tA):HT X (.UnaryOp .Not a pos) (dNot tA):=⟨EQ ha.ok⟩
theorem Ei{op}(h:HE X a ta):HE X (.BoolOp op [a] pos) ta:=⟨d_one h.ok⟩
theorem Er(ha:HE X a ta)(hb:HE X (.BoolOp .And (b::aI) pos) tb):HE X (.BoolOp .And (a::b::aI) pos) (qT ta tb):=⟨d_and ha.ok hb.ok⟩
theorem k_or(ha:HE X a ta)(hb:HE X (.BoolOp .Or (b::aI) pos) tb):HE X (.BoolOp .Or (a::b::aI) pos) (dOrV ta tb):=⟨d_or ha.ok hb.ok⟩
theorem zV:HA X [] ag:=⟨Fe⟩
theorem wN(ha:HE X e te)(hr:HA X es t)(hs:starEach (e::es) X.env=(false,eval e X.env)::starEach es X.env:=by kernel_rfl):HA X (e::es) (aa te t):=⟨Cc ha.ok hr.ok hs⟩
theorem Eg{x1}(h:HA X es t):HE X (.Tuple es x1 pos) (gY t):=⟨d_tup h.ok⟩
theorem El(h:HA X es t):HE X (.List es pos) (kg t):=⟨d_lst h.ok⟩
theorem wQ{id:String}{r:DRA}(hc:HC X (.builtin id) r)(hm:X.mg x=none)(hv:bootBuiltins x=some (.builtin id))(ha:HA X (e::es) t)(hg:X.env.kindOf x=some .globalImplicit:=by kernel_rfl)(hn:(x==("__name__":Str))=false:=by kernel_rfl)(hdb:(x==("__debug__":Str))=false:=by kernel_rfl)
  (he:starEach (e::es) X.env=(false,eval e X.env)::starEach es X.env:=by kernel_rfl) (hpl:(backTo pos (starEach es X.env)).any (·.1)=false:=by kernel_rfl):HE X (.Call (.Name x p) (e::es) [] pos) (dCB r t):=⟨Ce hc.ok hm hv ha.ok hg (by simpa using hn) hdb he hpl⟩
theorem sK(hc:HC X (.type T) r)(hm:X.mg x=none)(hv:bootBuiltins x=some (.type T))(ha:HA X (e::es) t)(hg:X.env.kindOf x=some .globalImplicit:=by kernel_rfl)(hn:(x==("__name__":Str))=false:=by kernel_rfl)(hdb:(x==("__debug__":Str))=false:=by kernel_rfl)
  (he:starEach (e::es) X.env=(false,eval e X.env)::starEach es X.env:=by kernel_rfl) (hpl:(backTo pos (starEach es X.env)).any (·.1)=false:=by kernel_rfl):HE X (.Call (.Name x p) (e::es) [] pos) (dCB r t):=⟨zk hc.ok hm hv ha.ok hg (by simpa using hn) hdb he hpl⟩
theorem Ep(C:Cal X.prog X.w X.K X.mg X.base j x ps P)(hr:Room k X.A)(ha:HA X (e::es) t)(hj:Nat.ble j k=true:=by kernel_rfl)
  (hg:X.env.kindOf x=some .globalImplicit:=by kernel_rfl) (hdb:(x==("__debug__":Str))=false:=by kernel_rfl) (he:starEach (e::es) X.env=(false,eval e X.env)::starEach es X.env:=by kernel_rfl) (hpl:(backTo pos (starEach es X.env)).any (·.1)=false:=by kernel_rfl) :
  HE X (.Call (.Name x p) (e::es) [] pos) (dCB P t):=⟨d_cal C hr ha.ok (Nat.le_of_ble_eq_true hj) hg hdb he hpl⟩
theorem k_ix(ha:HE X a ta)(hb:HE X b tb)(hs:qY b:=by intro _ _;kernel_rfl):HE X (.Subscript a b pos) (dOp qIx ta tb):=⟨d_ix ha.ok hb.ok hs⟩
theorem wF:HO' X none eQ:=⟨BX⟩
theorem wE(h:HE X e te):HO' X (some e) (hV te):=⟨BW h.ok⟩
theorem wP{lo hi:Option Expr}{tl th:DTO}{p2:Pos}(he:HE X e te)(hl:HO' X lo tl)(hu:HO' X hi th):HE X (.Subscript e (.Slice lo hi none p2) pos) (dSl te tl th):=⟨Cd he.ok hl.ok hu.ok⟩
variable{name:Str}{apos cpos:Pos}
theorem k_ml(hm:HMl X name r)(ho:HE X o to)(ha:HA X (e::es) t)
  (hbase:attributeBase o name X.env (eval o X.env)=eval o X.env:=by kernel_rfl)
  (hfew:((backTo cpos (starEach (e::es) X.env)).all (λx=>!x.1)&&(backToKw cpos (keywordEach [] X.env)).all (λx=>x.1.isSome)
   && decide ((e::es).length+([]:List Keyword).length+(if ([]:List Keyword).isEmpty then 0 else 1)<30))=true:=by kernel_rfl)
  (hline:(apos.endLine==cpos.line)=true:=by kernel_rfl) (hs:starEach (e::es) X.env=(false,eval e X.env)::starEach es X.env:=by kernel_rfl) (hplain:(backTo cpos (starEach es X.env)).any (·.1)=false:=by kernel_rfl) :
  HE X (.Call (.Attribute o name apos) (e::es) [] cpos) (dMl r to t):=let ⟨_,h1,h2,h3⟩:=hm.ok;⟨d_ml h1 h2 h3 ho.ok ha.ok hbase hfew hline hs hplain⟩
variable{st:Stmt}{sts:List Stmt}{ts us:DTS}{aS bS:List Stmt}
theorem zP:HB X [] bo:=⟨EV⟩
theorem zO(h:HS X st ts):HB X [st] ts:=⟨EU h.ok⟩
theorem wD(h1:HS X st ts)(h2:HB X sts us):HB X (st::sts) (aB ts us):=⟨BV h1.ok h2.ok⟩
theorem mN(he:HE X e te)(hs:swapsWith e none pos.line X.env=pure false:=by kernel_rfl):HS X (.Expr e pos) (iT te):=⟨BU he.ok hs⟩
theorem sD(he:HE X e te):HS X (.Return (some e) pos) (bE te):=⟨ET he.ok⟩
theorem yL(hc:HT X c tA)(ha:HB X aS ts)(hb:HB X bS us):HS X (.If c aS bS pos) (dIf tA ts us):=⟨ds_if hc.ok ha.ok hb.ok⟩
theorem sC(hN:X.N.Nodup)(he:HE X e te)(hi:X.N[i]?=some x:=by kernel_rfl)(hx:Cs X.env.scope x=true:=by kernel_rfl)(hs:swapsWith e (some (.Name x pos')) pos.line X.env=pure false:=by kernel_rfl)
  (hf:X.fn x=true:=by kernel_rfl):HS X (.Assign [.Name x pos'] e pos) (aY te i):=⟨ES hN he.ok hi (wj hx) hs (.inl hf)⟩
theorem wJ(hN:X.N.Nodup)(hi:X.N[i]?=some x:=by kernel_rfl)(hx:Cs X.env.scope x=true:=by kernel_rfl)(hf:X.fn x=true:=by kernel_rfl):HG X (.Name x pos) (au i):=⟨qQ hN hi (wj hx) (.inl hf)⟩
theorem zU(hN:X.N.Nodup)(hi:X.N[i]?=some x:=by kernel_rfl)(hf:X.env.scope.names.lookup x=some .local:=by kernel_rfl):HG X (.Name x pos) (au i):=⟨qQ hN hi (.inl hf) (.inr hf)⟩
variable{tg iter:Expr}{di:DTI}{g:DTG}
theorem zQ(h:HE X e te):HI X tg e (bT te):=⟨EY h.ok⟩
theorem sE{body:List Stmt}{tb:DTS}(hi:HI X tg iter di)(hg:HG X tg g)(hb:HB X body tb)(hp:PassesOwn (model X.prog X.w) X.A X.env X.xe:=by exact PassesOwn.never)(hc:X.calm=true:=by kernel_rfl)
  (hs:∀x,foldedSetIterable iter X.env x=pure x:=by intro _;kernel_rfl):HS X (.For tg iter body [] pos) (lR di g tb):=⟨EW hi.ok hg.ok hb.ok hp hc hs⟩
theorem wC:HTs X [] sV:=⟨BS⟩
theorem wB(h:HT X c tA):HTs X [c] tA:=⟨BR h.ok⟩
theorem k_lc(hi:HI X tg iter di)
  (hg:∀cl s0 H0 ex,HG (blk X N' scope cl s0 H0 ex) tg g) (ht:∀cl s0 H0 ex,HTs (blk X N' scope cl s0 H0 ex) ifs tt) (he:∀cl s0 H0 ex,HE (blk X N' scope cl s0 H0 ex) elt te) (B:lT X.env.scope.names X.N N' nt js scope=true:=by kernel_rfl) (hc:X.calm=true:=by kernel_rfl)
  (hs:∀x,foldedSetIterable iter X.env x=pure x:=by intro _;kernel_rfl):HE X (.ListComp elt [⟨tg,iter,ifs,0⟩] scope pos) (dLC nt js di g tt te):=⟨d_lc (BlkSc.chk B) hi.ok (λcl s0 H0 ex=>(hg cl s0 H0 ex).ok) (λcl s0 H0 ex=>(ht cl s0 H0 ex).ok) (λcl s0 H0 ex=>(he cl s0 H0 ex).ok) hc hs⟩
theorem oU(hm:X.mg "range" = none)(ha:HA X [a] t)(hg:X.env.kindOf "range" = some .globalImplicit:=by kernel_rfl)(hs:starEach [a] X.env=[(false,eval a X.env)]:=by kernel_rfl):HI X tg (.Call (.Name "range" p) [a] [] pos) (dI t):=⟨xp hm ha.ok hg hs⟩
theorem oT(hm:X.mg "range" = none)(ha:HA X [a,b] t)(hg:X.env.kindOf "range" = some .globalImplicit:=by kernel_rfl)(hs:starEach [a,b] X.env=[(false,eval a X.env),(false,eval b X.env)]:=by kernel_rfl)(hs2:starEach [b] X.env=[(false,eval b X.env)]:=by kernel_rfl) :
  HI X tg (.Call (.Name "range" p) [a,b] [] pos) (mX t):=⟨xo hm ha.ok hg hs hs2⟩
theorem Ab:HOp X (binaryOp .Sub) CY:=⟨DN⟩
theorem Ae:HOp X (binaryOp .Mult) mj:=⟨Bm⟩
theorem wU:HOp X (binaryOp .FloorDiv) qj:=⟨Bn⟩
theorem Af:HOp X (binaryOp .Mod) vF:=⟨DQ⟩
theorem Ew:HOp X (compareOp .Lt) qLt:=⟨od_lt⟩
theorem Ez:HOp X (compareOp .Gt) qGt:=⟨od_gt⟩
theorem Ex:HOp X (compareOp .Is) qIs:=⟨od_is⟩
theorem EA(hr:Room k X.A):HOp X (compareOp .Eq) qEq:=⟨od_eq hr⟩
theorem Ev(hr:Room k X.A):HOp X (compareOp .NotEq) qNe:=⟨od_ne hr⟩
theorem Ey(hr:Room k X.A):HOp X (compareOp .In) qIn:=⟨od_in hr⟩
theorem sN(hr:Room k X.A):HOp X (compareOp .NotIn) gI:=⟨yq hr⟩
theorem Ai:HC X (.builtin "len") lE:=⟨Fl⟩
theorem oZ:HMl X "append" cw:=⟨_,PySem.F.slot_list_append,PySem.F.type_list_append,tV⟩
end
theorem Cal.byH{P:Program}{w:World}{K:AA4}{mg:Str->Option Value}{base:Heap}{x:Str}{st:Stmt}{N ps:List Str}{k:Nat}{Pr:DSp}(F:cM K mg x st ps)(Sc:FnScope N ps (ao st))
  (len:∀ds M R,Pr ds M R->ds.length=ps.length) {t:DTS}
  (der:∀(f:Addr) (cdv:Value) (A:Around) (outer:List Env) (s:Shared) (H:Hp) (E:XK),Room k (A.deeper (envOfC x (ao st) s.heap.objs.size f cdv))->HB (pF CX0 P w K mg base N x (ao st) f cdv A outer s H E).nox (bw st) t)
  (wp:∀ds M R,Pr ds M R->t ⟨λ_ M'=>bD M R .non M',bD M R,λ_ _=>False,λ_ _=>False⟩ (bY N ds) M):Cal P w K mg base (k+1) x ps Pr :=
 Cal.of F Sc len (λf cdv A outer s H E hr=>(der f cdv A outer s H E hr).ok) wp
theorem yW{P:Program}{w:World}{K:AA4}{mg:Str->Option Value}{base:Heap}{x:Str}{st:Stmt}{N ps:List Str}{k:Nat}{Pr:DSp}{f:Addr}{fd:FuncData}(F:Fun K x x st f fd)(Sc:FnScope N ps (ao st))
  (len:∀ds M R,Pr ds M R->ds.length=ps.length) {t:DTS}
  (der:∀(f:Addr) (cdv:Value) (A:Around) (outer:List Env) (s:Shared) (H:Hp) (E:XK),Room k (A.deeper (envOfC x (ao st) s.heap.objs.size f cdv))->HB (pF CX0 P w K mg base N x (ao st) f cdv A outer s H E).nox (bw st) t)
  (wp:∀ds M R,Pr ds M R->t ⟨λ_ M'=>bD M R .non M',bD M R,λ_ _=>False,λ_ _=>False⟩ (bY N ds) M):FnOk P w K mg base CX0 (k+1) f fd ps (spL K Pr) :=
 BK F Sc len (λf cdv A outer s H E hr=>(der f cdv A outer s H E hr).ok) wp
end L2
namespace L2
open PySem PySem.Spec PyProof.Rows DL
section
variable{ok:Mem->Prop}{g:DTG}{tb:DTS}{E:DEnds}{k0:Mem}
theorem jc(I:List D->SD->Mem->Prop)(h0:∀S M,I [] S M->ok M/\E.nx S M)
  (h1:∀x xs S M,I (x::xs) S M->∀L:SD->Mem->Prop,(∀S' M',I xs S' M'->L S' M')->ok M/\g x S M λS2 M2=>tb ⟨Fgt k0 L,E.rt,E.nx,Fgt k0 L⟩ S2 M2) :
  ∀xs S M,I xs S M->pE ok g tb E k0 xs S M
 | [],S,M,h=>h0 S M h
 | x::xs,S,M,h=>h1 x xs S M h _ (jc I h0 h1 xs)
theorem bc(I:Nat->SD->Mem->Prop)(h0:∀S M,I xs.length S M->ok M/\E.nx S M)
  (h1:∀i x S M,xs[i]?=some x->I i S M->∀L:SD->Mem->Prop,(∀S' M',I (i+1) S' M'->L S' M')->ok M/\g x S M λS2 M2=>tb ⟨Fgt k0 L,E.rt,E.nx,Fgt k0 L⟩ S2 M2)
 (h:I 0 S M):pE ok g tb E k0 xs S M:=by
 refine jc (λys S M=>∃i,xs.drop i=ys/\i+ys.length=xs.length/\I i S M) ?_ ?_ xs S M ⟨0,rfl,by simp,h⟩
 ·rintro S M ⟨i,_,e,q⟩
  have:i=xs.length:=by simpa using e
  subst this
  exact h0 S M q
 ·rintro x ys S M ⟨i,e,el,q⟩ L hL
  have hx:xs[i]?=some x:=by
   have:(xs.drop i)[0]?=some x:=by rw[e];rfl
   simpa using this
  refine h1 i x S M hx q L λS' M' q'=>hL S' M' ⟨i+1,?_,by simp at el;lia,q'⟩
  rw[←List.drop_drop,e]
  rfl
theorem Fgt.now(h:P S M):Fgt k0 P S M:=.inl h
theorem fe{lo:Int}{n i:Nat}{x:D}:(pT lo n)[i]?=some x↔i<n/\x=.int (lo+(i:Int)):=by
 unfold pT
 rw[AAT]
 by_cases h:i<n
 ·simp[h,eq_comm]
 ·simp[h]
theorem gF{lo:Int}{n:Nat}:(pT lo n).length=n:=by simp[pT]
end
theorem aR(p:D->Bool)(f:D->D)(I:SD->Prop)(hok:ok M) :
  ∀(xs acc:List D) (S:SD),(∀x∈xs,∀S,I S->∃S',I S'/\∀(Y:D->SD->Mem->Prop) (Z:SD->Mem->Prop),(if p x=true then Y (f x) S' M else Z S' M) ->
    g x S M λS2 M2=>tt S2 M2 λb M3=>if b=true then te S2 M3 λy M4=>Y y S2 M4 else Z S2 M3) ->
   I S->acc.length+xs.length<=sizeLine->Q (.ref M.length) (M++[.lst (acc++(xs.filter p).map f)])->kH ok g tt te Q xs acc S M
 | [],acc,S,_,_,_,q=>⟨hok,by simpa using q⟩
 | x::xs,acc,S,step,hS,hl,q=>by
  obtain⟨S',hS',k⟩:=step x AAI S hS
  refine⟨hok,k (λy S2 M4=>acc.length<sizeLine/\kH ok g tt te Q xs (acc++[y]) S2 M4) (λS2 M3=>kH ok g tt te Q xs acc S2 M3) ?_⟩
  have step':=λy hy=>step y (AAA _ hy)
  rw[AAJ]at hl
  by_cases hp:p x=true
  ·rw[if_pos hp]
   refine⟨by lia,aR p f I hok xs _ S' step' hS' (by rw[AAB,AAY];lia) ?_⟩
   rw[List.filter_cons_of_pos hp,AAi]at q
   rw[AAs]
   exact q
  ·rw[if_neg hp]
   refine aR p f I hok xs acc S' step' hS' (by lia) ?_
   rw[List.filter_cons_of_neg hp]at q
   exact q
theorem bZ(f:D->D)(I:SD->Prop)(hok:ok M)
  (xs acc:List D) (S:SD) (step:∀x∈xs,∀S,I S->∃S',I S'/\∀(Y:D->SD->Mem->Prop),Y (f x) S' M->g x S M λS2 M2=>te S2 M2 λy M4=>Y y S2 M4)
  (hS:I S) (hl:acc.length+xs.length<=sizeLine) (q:Q (.ref M.length) (M++[.lst (acc++xs.map f)])):kH ok g sV te Q xs acc S M:=by
 refine aR (λ_=>true) f I hok xs acc S (λx hx S hS=>?_) hS hl (by rw[List.filter_eq_self.mpr λ_ _=>rfl];exact q)
 obtain⟨S',hS',k⟩:=step x hx S hS
 refine⟨S',hS',λY Z h=>?_⟩
 rw[if_pos rfl]at h
 have:=k Y h
 simp only[sV,if_true]
 exact this
theorem ae:(M++[mo])[M.length]?=some mo:=by simp
theorem ay:am (M++[.lst xs]) M.length xs:=.inl ae
theorem am.more(h:am M n xs)(L:Mem):am (M++L) n xs:=by
 have key:∀{mo:MO},M[n]?=some mo->(M++L)[n]?=some mo:=λe=>by
  rw[AAP (AA7.mp e).1];exact e
 rcases h with h | h | h
 ·exact .inl (key h)
 ·exact .inr (.inl (key h))
 ·exact .inr (.inr (key h))
theorem bD.keep(h:R d M)(b:Bel M.length d)(p:M <+: M'):bD M R d M':=.inr (.inl ⟨M,.refl,b,p,h⟩)
theorem bD.now(h:R d M):bD M R d M:=.inl h
theorem bD.bl(h:R (.bl b) M)(p:M <+: M'):bD M R (.bl b) M':=.keep h (.bl b) p
theorem dq:M <+: M++[mo]:=AAf _ _
theorem AA{a b:Str}(h:a.cps.toList=b.cps.toList):a=b:=by
 cases a;cases b
 simp only[Array.toList_inj]at h
 simpa using h
theorem jU{a:Str}:a.length=a.cps.toList.length:=by show a.cps.size=_;simp
theorem Cl{a b:Str}:(a++b).cps.toList=a.cps.toList++b.cps.toList:=by
 show (a.cps++b.cps).toList=_
 simp
theorem bU{a b:Str}:(a++b).length=a.length+b.length:=by
 rw[jU,jU,jU,Cl,AAB]
theorem ax(h:n<=1000):n<=sizeLine:=ACN (aE h)
theorem eT{α:Type}{xs:List α}{i:Int}(h0:0<=i)(h1:i<xs.length):∃(j:Nat) (hj:j<xs.length),atI xs i=some xs[j]/\(j:Int)=i:=by
 have hj:i.toNat<xs.length:=by lia
 refine⟨i.toNat,hj,?_,by lia⟩
 have e:i=((i.toNat:Nat):Int):=by lia
 have q:atI xs ((i.toNat:Nat):Int)=some xs[i.toNat]:=az (AA5 hj)
 rw[←e]at q
 exact q
section
variable{M:Mem}
end
section
variable{M:Mem}
theorem am.get(h:am M n xs):∃mo,M[n]?=some mo/\mo.items=xs/\mo.isL=true:=by
 rcases h with h | h | h<;>exact⟨_,h,rfl,rfl⟩
theorem sS(h1:am M i xs)(h2:am M j ys):eqD M (n+1) (.ref i) (.ref j)=eqL (eqD M n) xs ys:=by
 obtain⟨a,ha,rfl,hl1⟩:=h1.get
 obtain⟨b,hb,rfl,hl2⟩:=h2.get
 simp only[eqD,ha,hb]
theorem mF(h1:am M i xs)(h:∀x∈xs,okD M n x=true):okD M (n+1) (.ref i)=true:=by
 obtain⟨a,ha,rfl,hl1⟩:=h1.get
 simp only[okD,ha,hl1,Bool.true_and]
 exact AAa.mpr h
theorem Bk(h:∀x∈xs,okD M n x=true):okD M (n+1) (.tup xs)=true:=by
 simp only[okD]
 exact AAa.mpr h
theorem bb:okD M n (.str x)=true:=by cases n<;>rfl
theorem mG:okD M n (.int x)=true:=by cases n<;>rfl
theorem zE:okD M n (.bl x)=true:=by cases n<;>rfl
theorem vY:okD M n .non=true:=by cases n<;>rfl
theorem BN:eqL f xs []=xs.isEmpty:=by cases xs<;>rfl
theorem kb:eqD M n (.int a) (.int b)=(a==b):=by cases n<;>rfl
theorem cA:eqD M n (.str a) (.str b)=(a==b):=by cases n<;>rfl
end
end L2
namespace L2
open PySem PySem.Spec PyProof.Rows DL
section
variable{X:Cx}{pos:Pos}
def qS:Aq:=λds S M Q=>match ds with
 | []=>Q S M
 | _=>False
def eP(t:DTG)(u:Aq):Aq:=λds S M Q=>match ds with
 | d::r=>t d S M λS' M'=>u r S' M' Q
 | []=>False
def qR(n:Nat)(t:Aq):DTG:=λd S M Q=>match d with
 | .tup ds=>ds.length=n/\t ds S M Q
 | _=>False
theorem BY:DGs X [] qS:=by
 intro pins s σ H vs us R I r ⟨ds,S,M,ρ,Q,sm,sr,rr,q,k⟩
 cases rr with
 | nil=>exact AX pins s σ H _ us R I r ⟨rfl,k σ H ⟨S,M,ρ,sm,.refl,sr,q⟩⟩
 | cons _ _=>exact q.elim
theorem zh(h1:DG X e t)(h2:DGs X es u)
  (hs:(assignEach (e::es) X.env).map (·.2)=assign e X.env::(assignEach es X.env).map (·.2):=by rfl):DGs X (e::es) (eP t u):=by
 intro pins s σ H vs us R I r ⟨ds,S,M,ρ,Q,sm,sr,rr,q,k⟩
 cases rr with
 | nil=>exact q.elim
 | cons r1 rr =>
  refine yf h1 h2 hs pins s σ H _ us R I r ⟨_,_,rfl,_,S,M,ρ,_,sm,sr,r1,q,λσ1 H1 ⟨S1,M1,ρ1,s1,g1,sr1,q1⟩=>?_⟩
  exact⟨_,S1,M1,ρ1,Q,s1,sr1,rr.grow g1,q1,λσ' H' w=>k σ' H' (SQ.trans g1 w)⟩
theorem Fa(h:DGs X es t)(hc:X.calm=true:=by rfl)
  (hn:(assignEach es X.env).length=n:=by rfl) (hst:(assignEach es X.env).findIdx? (·.1)=none:=by rfl):DG X (.Tuple es j pos) (qR n t):=by
 intro pins s σ H v u R I r ⟨d,S,M,ρ,Q,sm,sr,rd,q,k⟩
 cases rd with
 | tup hq rr=>exact Dj hc h hn hst pins s σ H _ u R I r ⟨_,_,rfl,hq,by rw[←rr.length];exact q.1,_,S,M,ρ,Q,sm,sr,rr,q.2,k⟩
 | _=>exact q.elim
def dAsg(te:DTE)(g:DTG):DTS:=λE S M=>te S M λd M1=>g d S M1 E.nx
theorem EX(he:DE X e te)(hg:DG X tg g)(hs:swapsWithSole [tg] e pos.line X.env=pure false:=by rfl)(hw:swappedStores [tg] e X.env=pure none:=by rfl)
  (h1:(assignEach [tg] X.env).map (·.2)=[assign tg X.env]:=by rfl):DS X (.Assign [tg] e pos) (dAsg te g) :=
 PS.imp (Di he hg hs hw h1) λE σ H ⟨S,M,ρ,F,s,sr,q,k⟩=>⟨S,M,ρ,_,s,sr,q,λv H1 ⟨d,M1,ρ1,s1,g1,r1,q1⟩=>⟨d,S,M1,ρ1,_,s1,sr.grow g1,r1,q1,λσ' H' w=>k.nx σ' H' (SQ.trans g1 w)⟩⟩
def qSet:D->D->D->Mem->(Mem->Prop)->Prop:=λo i v M Q=>match o,i with
 | .ref n,.int k=>∃xs j,M[n]?=some (.lst xs)/\ixN xs.length k=some j/\Q (M.set n (.lst (xs.set j v)))
 | _,_=>False
theorem Reps.set{K:AA4}{ρ:List Addr}{H:Hp}{d:D}{v:V}(r:Rep K ρ H d v):∀{ds:List D}{vs:List V} (i:Nat),Reps K ρ H ds vs->Reps K ρ H (ds.set i d) (vs.set i v)
 | _,_,_,.nil=>.nil
 | _,_,0,.cons _ t=>.cons r t
 | _,_,i+1,.cons q t=>.cons q (Reps.set r i t)
def zi(to ti:DTE):DTG:=λv S M Q=>to S M λo M1=>ti S M1 λi M2=>qSet o i v M2 λM3=>Q S M3
theorem Fb(ho:DE X o to)(hi:DE X i ti)
  (ha:∀v,assign (.Subscript o i pos) X.env v=(do
   let ov ←holding [v] (eval o X.env)
   let iv ←holding [v,ov] (eval i X.env)
   standAt pos
   holding [v,ov,iv] (setItem ov iv v)
   release [v,ov,iv] []):=by intro _;rfl):DG X (.Subscript o i pos) (zi to ti):=by
 intro pins s σ H v u R I r ⟨d,S,M,ρ,Q,sm,sr,rd,q,k⟩
 refine Dk ho hi xY ha pins s σ H v u R I r ⟨S,M,ρ,_,sm,sr,q,λvo H1 ⟨o',M1,ρ1,s1,g1,r1,q1⟩=>⟨S,M1,ρ1,_,s1,sr.grow g1,q1,λvi H2 ⟨i',M2,ρ2,s2,g2,r2,q2⟩=>?_⟩⟩
 have r1':=r1.grow g2
 cases r1' with
 | @ref n a hn =>
  cases r2 with
  | int j =>
   obtain⟨xs,jj,e,hj,q3⟩:=(show ∃xs j',M2[n]?=some (.lst xs)/\ixN xs.length j=some j'/\Q S (M2.set n (.lst (xs.set j' d)))from q2)
   obtain⟨vs,hH,rr⟩:=s2.obj n a _ hn e
   obtain⟨w1,w2⟩:=s2.write hn e hH (Reps.set (rd.grow (g1.trans g2)) jj rr)
   exact⟨a,vs,j,jj,rfl,rfl,hH,by rw[←rr.length];exact hj,k σ _ ⟨S,_,ρ2,w1,(g1.trans g2).trans w2,sr.grow ((g1.trans g2).trans w2),q3⟩⟩
  | _=>exact q2.elim
 | _=>exact q2.elim
def fJ:DRA:=λds M Q=>match ds with
 | [.ref n]=>∃xs,am M n xs/\Q (.tup xs) M
 | [.tup xs]=>Q (.tup xs) M
 | _=>False
theorem zp:pR X (.type "tuple") fJ:=by
 refine fZ.imp mZ λvs H R ⟨ds,M,ρ,Q,sm,rs,q,k⟩=>?_
 unfold fJ at q
 split at q
 ·obtain⟨xs,hL,q⟩:=q
  first | have hzz:=Reps.inv_cons rs | have hzz:=aw.inv_cons rs
  clear rs
  obtain⟨_,_,rfl,r1,rs⟩:=hzz
  cases rs
  obtain⟨_,rfl,e⟩:=Rep.inv_ref r1
  obtain⟨ws,hq,r⟩:=am.seq sm hL e
  exact⟨_,ws,rfl,.inl ⟨hq,λl hl=>k _ _ (VQ.laidT sm .refl r hl q)⟩⟩
 ·first | have hzz:=Reps.inv_cons rs | have hzz:=aw.inv_cons rs
  clear rs
  obtain⟨_,_,rfl,r1,rs⟩:=hzz
  cases rs
  cases r1 with
  | tup hq r=>exact⟨_,_,rfl,.inr ⟨hq,k _ H (VQ.now sm (.tup hq r) q)⟩⟩
 ·exact q.elim
theorem ym:OpR X (binaryOp .Add) (λx y H Q=>∃a b ys,x=.ref a/\y=.ref b/\SqT X.K H a []/\SqT X.K H b ys/\Q (.ref b) H):=by
 intro pins s σ H x y v u Q I rx ry h
 obtain⟨a,b,ys,rfl,rfl,ha,hb,q⟩:=h
 cases rx
 cases ry
 obtain⟨its,r1,p1,_⟩:=I.tuple ha
 obtain⟨its2,r2,p2,_⟩:=I.tuple hb
 have e:its=[]:=r1.nil_iff.mpr rfl
 subst e
 obtain⟨⟨cls,dd,data,sl⟩,ho,hc,n,hd⟩:=id p1
 obtain⟨⟨cls2,dd2,data2,sl2⟩,ho2,hc2,n2,hd2⟩:=id p2
 simp only at hc hd hc2 hd2
 subst hc hd hc2 hd2
 exact concat_meets ⟨_,ho,rfl⟩ ⟨_,ho2,rfl⟩ noFill_tuple_add seq_tuple_add ADe ADQ (ADJ _ _)
  (tuple_addW0 a b _ _ n n2 dd dd2 sl sl2 (by simp)) ⟨ho,ho2,⟨.ref b,H,I,rfl,q⟩⟩
def ba:DR2:=λx y M Q=>match x,y with
 | .tup xs,.tup ys=>xs.length+ys.length<=sizeLine/\Q (.tup (xs++ys)) M
 | _,_=>qAdd x y M Q
theorem Bo:OpD X (binaryOp .Add) ba:=by
 intro pins s σ H vx vy v u R I rx ry ⟨x,y,M,ρ,Q,sm,r1,r2,q,k⟩
 unfold ba at q
 split at q
 ·rename_i xs ys
  obtain⟨a,vs,rfl,h1,t1⟩:=Rep.inv_tup r1
  obtain⟨b,ws,rfl,h2,t2⟩:=Rep.inv_tup r2
  have l1:=t1.length
  have l2:=t2.length
  cases xs with
  | nil =>
   cases t1
   exact ym pins s σ H _ _ v u R I rx ry ⟨a,b,ws,rfl,rfl,h1,h2,k _ H (VQ.now sm (.tup h2 t2) q.2)⟩
  | cons x0 xs0 =>
   refine Bh pins s σ H _ _ v u R I rx ry ⟨a,b,vs,ws,rfl,rfl,h1,h2,?_,by rw[←l1,←l2];exact q.1,λz=>?_,λ_ p hp=>k _ _ (VQ.laidT sm .refl (t1.append t2) hp q.2)⟩
   ·intro z
    subst z
    simp at l1
   ·subst z
    have:ys=[]:=by simpa using l2
    subst this
    rw[ABI]at q
    exact k _ H (VQ.now sm (.tup h1 t1) q.2)
 ·exact DU pins s σ H vx vy v u R I rx ry ⟨x,y,M,ρ,Q,sm,r1,r2,q,k⟩
def ic(n:Nat):DRA:=λds M Q=>match ds with
 | [.ref m]=>∃xs ys,M[n]?=some (.lst xs)/\M[m]?=some (.lst ys)/\n≠m/\xs.length+ys.length<=sizeLine/\Q .non (M.set n (.lst (xs++ys)))
 | _=>False
theorem tU:MtR X "list.extend" (kA X.K ic):=by
 intro pins s σ H x xs v us R I rx rs ⟨n,a,ds,M,ρ,Q,ez,hn,sm,rr,q,k⟩
 unfold ic at q
 split at q
 ·rename_i m
  obtain⟨ys,zs,e,e2,hne,hl,q⟩:=q
  first | have hzz:=Reps.inv_cons rr | have hzz:=aw.inv_cons rr
  clear rr
  obtain⟨_,_,rfl,r1,rr⟩:=hzz
  cases rr
  obtain⟨b,rfl,hm⟩:=Rep.inv_ref r1
  obtain⟨vs,hH,r⟩:=sm.obj n a _ hn e
  obtain⟨ws,hH2,r2⟩:=sm.obj m b _ hm e2
  obtain⟨w1,w2⟩:=sm.write hn e hH (r.append r2)
  exact wa pins s σ H x _ v us R I rx rs ⟨a,b,vs,ws,ez,rfl,hH,hH2,by rw[←r.length,←r2.length];exact hl,k _ _ ⟨.non,_,ρ,w1,w2,.non,q⟩⟩
 ·exact q.elim
end
end L2
namespace Srt
open PySem PySem.W PyProof.Rows
def run{α:Type}(c:Nat->Nat->Bool):KasT α->α
 | .ret a=>a
 | .ask i j k=>run c (k (c i j))
theorem eZ{α β:Type}{c:Nat->Nat->Bool}{f:α->KasT β}:∀t:KasT α,run c (t.bind f)=run c (f (run c t))
 | .ret a=>rfl
 | .ask i j k=>eZ (k (c i j))
def Bd{α:Type}(n:Nat):KasT α->Prop
 | .ret _=>True
 | .ask i j k=>i<n/\j<n/\∀b,Bd n (k b)
def All{α:Type}(P:α->Prop):KasT α->Prop
 | .ret a=>P a
 | .ask _ _ k=>∀b,All P (k b)
theorem All.mono{α:Type}{P Q:α->Prop}(h:∀a,P a->Q a):∀t:KasT α,All P t->All Q t
 | .ret a,q=>h a q
 | .ask _ _ k,q=>λb=>All.mono h (k b) (q b)
theorem All.bind{α β:Type}{P:β->Prop}{f:α->KasT β}:∀t:KasT α,All (λa=>All P (f a)) t->All P (t.bind f)
 | .ret a,q=>q
 | .ask _ _ k,q=>λb=>All.bind (k b) (q b)
theorem Bd.bindA{α β:Type}{n:Nat}{f:α->KasT β}:∀t:KasT α,Bd n t->All (λa=>Bd n (f a)) t->Bd n (t.bind f)
 | .ret a,_,q=>q
 | .ask _ _ k,b,q=>⟨b.1,b.2.1,λx=>Bd.bindA (k x) (b.2.2 x) (q x)⟩
theorem All.run{α:Type}{P:α->Prop}{c:Nat->Nat->Bool}:∀t:KasT α,All P t->P (Srt.run c t)
 | .ret a,q=>q
 | .ask i j k,q=>All.run (k (c i j)) (q _)
theorem wp_run{α:Type}{cmp:Nat->Nat->(Bool->Shared->Prop)->Shared->Prop}{c:Nat->Nat->Bool}{n:Nat}{s:Shared}{Q:α->Shared->Prop}(hc:∀i j (C:Bool->Shared->Prop),i<n->j<n->C (c i j) s->cmp i j C s) :
  ∀t:KasT α,Bd n t->Q (run c t) s->t.kasWp cmp Q s
 | .ret a,_,q=>q
 | .ask i j k,b,q=>hc i j _ b.1 b.2.1 (wp_run hc (k (c i j)) (b.2.2 _) q)
structure Ord(c:Nat->Nat->Bool):Prop where
 irr:∀a,c a a=false
 tr:∀a b d,c a b=true->c b d=true->c a d=true
 neg:∀a b d,c a d=true->c a b=true\/c b d=true
section
variable{c:Nat->Nat->Bool}(O:Ord c)
def le(c:Nat->Nat->Bool)(a b:Nat):Prop:=c b a=false
theorem le_refl(O:Ord c)(a:Nat):le c a a:=O.irr a
theorem le_trans(O:Ord c)(h1:le c a b)(h2:le c b d):le c a d:=by
 unfold le at *
 cases q:c d a with
 | false=>rfl
 | true =>
  rcases O.neg d b a q with h | h
  ·rw[h2]at h;cases h
  ·rw[h1]at h;cases h
theorem le_of_lt(O:Ord c)(h:c a b=true):le c a b:=by
 unfold le
 cases q:c b a with
 | false=>rfl
 | true=>have:=O.tr a b a h q;rw[O.irr]at this;cases this
abbrev at_(p:Array Nat)(k:Nat):Nat:=p.getD k 0
def Up(c:Nat->Nat->Bool)(p:Array Nat)(m:Nat):Prop:=∀i j,i<=j->j<m->le c (at_ p i) (at_ p j)
def Dn(c:Nat->Nat->Bool)(p:Array Nat)(m:Nat):Prop:=∀i j,i<=j->j<m->le c (at_ p j) (at_ p i)
def Eqs(c:Nat->Nat->Bool)(p:Array Nat)(a b:Nat):Prop:=∀i j,a<=i->i<b->a<=j->j<b->le c (at_ p i) (at_ p j)
theorem Up.one(O:Ord c)(p:Array Nat):Up c p 1:=λi j hij hj=>by
 have:i=j:=by lia
 subst this;exact le_refl O _
theorem Up.snoc(O:Ord c)(h:Up c p n)(h1:1<=n)(hl:le c (at_ p (n-1)) (at_ p n)):Up c p (n+1):=λi j hij hj=>by
 by_cases hjn:j<n
 ·exact h i j hij hjn
 ·have:j=n:=by lia
  subst this
  by_cases hi:i=j
  ·subst hi;exact le_refl O _
  ·exact le_trans O (h i (j-1) (by lia) (by lia)) hl
theorem Dn.snoc(O:Ord c)(h:Dn c p n)(h1:1<=n)(hl:le c (at_ p n) (at_ p (n-1))):Dn c p (n+1):=λi j hij hj=>by
 by_cases hjn:j<n
 ·exact h i j hij hjn
 ·have:j=n:=by lia
  subst this
  by_cases hi:i=j
  ·subst hi;exact le_refl O _
  ·exact le_trans O hl (h i (j-1) (by lia) (by lia))
theorem fM(hj:j<=p.size)(k:Nat):at_ (AD6 p i j) k=if i<=k/\k<j then at_ p (i+j-1-k)else at_ p k:=by
 have e:=getElem?_mirror_all (xs:=p) (i:=i) hj k
 unfold at_ AD6
 rw[AB5,e]
 by_cases h:i<=k/\k<j
 ·rw[if_pos h,if_pos h,AB5]
 ·rw[if_neg h,if_neg h,AB5]
theorem pQ(hk:k<p.size)(hd:d<=k)(i:Nat):at_ (bubble p k d) i=if i=k-d then at_ p k else if k-d<i/\i<=k then at_ p (i-1)else at_ p i:=by
 have e:=getElem?_bubble (xs:=p) hk d hd i
 unfold at_
 rw[AB5,e]
 by_cases h:i=k-d
 ·rw[if_pos h,if_pos h,AB5]
 ·rw[if_neg h,if_neg h]
  by_cases h':k-d<i/\i<=k
  ·rw[if_pos h',if_pos h',AB5]
  ·rw[if_neg h',if_neg h',AB5]
theorem Dn.rev(h:Dn c p n)(hn:n<=p.size):Up c (AD6 p 0 n) n:=λi j hij hj=>by
 rw[fM hn,fM hn,if_pos ⟨AAS _,by lia⟩,if_pos ⟨AAS _,hj⟩]
 exact h _ _ (by lia) (by lia)
theorem Dn.revEq(O:Ord c)(h:Dn c p n)(hn:n<=p.size)(he:Eqs c p a n):Dn c (AD6 p a n) n:=λi j hij hj=>by
 rw[fM hn,fM hn]
 by_cases h1:a<=i/\i<n
 ·by_cases h2:a<=j/\j<n
  ·rw[if_pos h1,if_pos h2]
   exact he _ _ (by lia) (by lia) (by lia) (by lia)
  ·exact absurd ⟨by lia,hj⟩ h2
 ·by_cases h2:a<=j/\j<n
  ·rw[if_neg h1,if_pos h2]
   exact h _ _ (by lia) (by lia)
  ·rw[if_neg h1,if_neg h2]
   exact h _ _ hij hj
theorem qX(O:Ord c):∀(f n:Nat),1<=n->Up c p n->Up c p (run c (ADi p f n))/\n<=run c (ADi p f n)/\run c (ADi p f n)<=n+f /\
  (run c (ADi p f n)<n+f->c (at_ p (run c (ADi p f n))) (at_ p (run c (ADi p f n)-1))=true)
 | 0,n,_,h=>⟨h,AA8 _,AA8 _,λz=>absurd z (AAn _)⟩
 | f+1,n,h1,h=>by
  show Up c p (run c (if c (at_ p n) (at_ p (n-1))=true then .ret n else ADi p f (n+1)))/\n<=run c (if c (at_ p n) (at_ p (n-1))=true then .ret n else ADi p f (n+1)) /\
   run c (if c (at_ p n) (at_ p (n-1))=true then .ret n else ADi p f (n+1))<=n+(f+1)/\(run c (if c (at_ p n) (at_ p (n-1))=true then .ret n else ADi p f (n+1))<n+(f+1) ->
    c (at_ p (run c (if c (at_ p n) (at_ p (n-1))=true then .ret n else ADi p f (n+1)))) (at_ p (run c (if c (at_ p n) (at_ p (n-1))=true then .ret n else ADi p f (n+1))-1))=true)
  by_cases q:c (at_ p n) (at_ p (n-1))=true
  ·rw[if_pos q]
   exact⟨h,AA8 _,ADF _ _,λ_=>q⟩
  ·rw[if_neg q]
   obtain⟨a1,a2,a3,a4⟩:=qX O f (n+1) (by lia) (h.snoc O h1 (by unfold le;simpa using q))
   exact⟨a1,by lia,by lia,λz=>a4 (by lia)⟩
theorem dm:(AD6 p i j).size=p.size:=mirror_size _ _ _ _
def xH(c:Nat->Nat->Bool)(z n m:Nat)(r:Array Nat×Nat×Nat):Prop:=r.1.size=z/\Dn c r.1 r.2.1/\n<=r.2.1/\r.2.1<=m/\r.2.2+1<=r.2.1/\Eqs c r.1 (r.2.1-(r.2.2+1)) r.2.1
def nj(c:Nat->Nat->Bool)(z nrem:Nat)(r:Nat×Array Nat):Prop:=r.2.size=z/\Up c r.2 r.1/\1<=r.1/\r.1<=nrem
def qZ(c:Nat->Nat->Bool)(p:Array Nat)(k m:Nat):Prop:=m<=k/\(∀i,i<m->le c (at_ p i) (at_ p k))/\∀i,m<=i->i<k->c (at_ p k) (at_ p i)=true
theorem ja(O:Ord c):∀(f:Nat) (p:Array Nat) (n q:Nat),q+1<=n->n+f<=p.size->Dn c p n->Eqs c p (n-(q+1)) n ->
  xH c p.size n (n+f) (run c (AC3 f p n q))
 | 0,p,n,q,h1,h2,hd,he=>⟨rfl,hd,AA8 _,AA8 _,h1,he⟩
 | f+1,p,n,q,h1,h2,hd,he=>by
  have hn:n<=p.size:=by lia
  show xH c p.size n (n+(f+1)) (run c (if c (at_ p n) (at_ p (n-1))=true then(if q > 0 then AC3 f (AD6 p (n-(q+1)) n) (n+1) 0 else AC3 f p (n+1) 0)
   else .ask (at_ p (n-1)) (at_ p n) λd=>if d=true then .ret (p,n,q)else AC3 f p (n+1) (q+1)))
  by_cases hc:c (at_ p n) (at_ p (n-1))=true
  ·rw[if_pos hc]
   by_cases hq:q > 0
   ·rw[if_pos hq]
    have hd':Dn c (AD6 p (n-(q+1)) n) (n+1):=by
     refine(hd.revEq O hn he).snoc O (by lia) ?_
     rw[fM hn,fM hn,if_neg (by lia),if_pos ⟨by lia,by lia⟩]
     exact le_trans O (le_of_lt O hc) (he _ _ (by lia) (by lia) (by lia) (by lia))
    have r:=ja O f (AD6 p (n-(q+1)) n) (n+1) 0 (by lia) (by rw[dm];lia) hd' (λi j a1 a2 a3 a4=>by
     have:i=n:=by lia
     have:j=n:=by lia
     subst_vars
     exact le_refl O _)
    obtain⟨a1,a2,a3,a4,a5,a6⟩:=r
    exact⟨a1.trans dm,a2,by lia,by lia,a5,a6⟩
   ·rw[if_neg hq]
    have r:=ja O f p (n+1) 0 (by lia) (by lia) (hd.snoc O (by lia) (le_of_lt O hc)) (λi j a1 a2 a3 a4=>by
     have:i=n:=by lia
     have:j=n:=by lia
     subst_vars
     exact le_refl O _)
    obtain⟨a1,a2,a3,a4,a5,a6⟩:=r
    exact⟨a1,a2,by lia,by lia,a5,a6⟩
  ·rw[if_neg hc]
   show xH c p.size n (n+(f+1)) (run c (if c (at_ p (n-1)) (at_ p n)=true then .ret (p,n,q)else AC3 f p (n+1) (q+1)))
   by_cases hc':c (at_ p (n-1)) (at_ p n)=true
   ·rw[if_pos hc']
    exact⟨rfl,hd,AA8 _,by show n<=_;lia,h1,he⟩
   ·rw[if_neg hc']
    have l1:le c (at_ p n) (at_ p (n-1)):=by unfold le;simpa using hc'
    have l2:le c (at_ p (n-1)) (at_ p n):=by unfold le;simpa using hc
    have r:=ja O f p (n+1) (q+1) (by lia) (by lia) (hd.snoc O (by lia) l1) (λi j a1 a2 a3 a4=>by
     by_cases hi:i=n
     ·by_cases hj:j=n
      ·subst hi hj;exact le_refl O _
      ·subst hi
       exact le_trans O l1 (he _ _ (by lia) (by lia) (by lia) (by lia))
     ·by_cases hj:j=n
      ·subst hj
       exact le_trans O (he _ _ (by lia) (by lia) (by lia) (by lia)) l2
      ·exact he _ _ (by lia) (by lia) (by lia) (by lia))
    obtain⟨a1,a2,a3,a4,a5,a6⟩:=r
    exact⟨a1,a2,by lia,by lia,a5,a6⟩
theorem nA(O:Ord c)(h1:1<=n)(hn:n<=nrem)(hz:nrem<=p.size)(hd:Dn c p n) :
  nj c p.size nrem (run c (kas_tail3 n nrem p)):=by
 unfold kas_tail3
 rw[eZ]
 obtain⟨a1,a2,a3,_⟩:=qX O (nrem-n) n h1 (hd.rev (by lia))
 exact⟨dm,a1,AAy h1 a2,AAy a3 (by lia)⟩
theorem iL(O:Ord c)(h1:1<=n)(hn:n+1<=nrem)(hz:nrem<=p.size)(he:Eqs c p 0 n)(hc:c (at_ p n) (at_ p (n-1))=true) :
  nj c p.size nrem (run c (ADt n nrem p)):=by
 have hd:Dn c p (n+1):=by
  refine Dn.snoc O (λi j hij hj=>he _ _ (by lia) (by lia) (by lia) (by lia)) h1 (le_of_lt O hc)
 unfold ADt
 rw[eZ]
 obtain⟨b1,b2,b3,b4,b5,b6⟩:=ja O (nrem-(n+1)) p (n+1) 0 (by lia) (by lia) hd (λi j a1 a2 a3 a4=>by
  have:i=n:=by lia
  have:j=n:=by lia
  subst_vars
  exact le_refl O _)
 by_cases hq:(run c (AC3 (nrem-(n+1)) p (n+1) 0)).2.2 > 0
 ·rw[if_pos hq]
  obtain⟨d1,d2,d3,d4⟩:=nA O (p:=AD6 (run c (AC3 (nrem-(n+1)) p (n+1) 0)).1 ((run c (AC3 (nrem-(n+1)) p (n+1) 0)).2.1-((run c (AC3 (nrem-(n+1)) p (n+1) 0)).2.2+1)) (run c (AC3 (nrem-(n+1)) p (n+1) 0)).2.1)
   (n:=(run c (AC3 (nrem-(n+1)) p (n+1) 0)).2.1) (nrem:=nrem) (by lia) (by lia) (by rw[dm,b1];exact hz) (b2.revEq O (by rw[b1];lia) b6)
  exact⟨d1.trans (dm.trans b1),d2,d3,d4⟩
 ·rw[if_neg hq]
  obtain⟨d1,d2,d3,d4⟩:=nA O (p:=(run c (AC3 (nrem-(n+1)) p (n+1) 0)).1) (n:=(run c (AC3 (nrem-(n+1)) p (n+1) 0)).2.1) (nrem:=nrem) (by lia) (by lia) (by rw[b1];exact hz) b2
  exact⟨d1.trans b1,d2,d3,d4⟩
theorem xr(O:Ord c)(h1:1<=nrem)(hz:nrem<=p.size) :
  nj c p.size nrem (run c (kas_count nrem p)):=by
 unfold kas_count
 rw[eZ]
 obtain⟨a1,a2,a3,a4⟩:=qX O (nrem-1) 1 (AA8 _) (Up.one O p)
 generalize run c (ADi p (nrem-1) 1)=n at a1 a2 a3 a4
 by_cases hn:(n==nrem)=true
 ·rw[if_pos hn]
  exact⟨rfl,a1,a2,by show n<=nrem;lia⟩
 ·rw[if_neg hn]
  have hn':n≠nrem:=by simpa using hn
  have hlt:c (at_ p n) (at_ p (n-1))=true:=a4 (by lia)
  by_cases h2:n > 1
  ·rw[if_pos h2]
   show nj c p.size nrem (run c (if c (at_ p 0) (at_ p (n-1))=true then .ret (n,p)else ADt n nrem (AD6 p 0 n)))
   by_cases hc:c (at_ p 0) (at_ p (n-1))=true
   ·rw[if_pos hc]
    exact⟨rfl,a1,a2,by show n<=nrem;lia⟩
   ·rw[if_neg hc]
    have hz':n<=p.size:=by lia
    have l0:le c (at_ p (n-1)) (at_ p 0):=by unfold le;simpa using hc
    have he:Eqs c p 0 n:=λi j b1 b2 b3 b4=>le_trans O (a1 i (n-1) (by lia) (by lia)) (le_trans O l0 (a1 0 j (by lia) b4))
    have he':Eqs c (AD6 p 0 n) 0 n:=λi j b1 b2 b3 b4=>by
     rw[fM hz',fM hz',if_pos ⟨b1,b2⟩,if_pos ⟨b3,b4⟩]
     exact he _ _ (by lia) (by lia) (by lia) (by lia)
    have hc':c (at_ (AD6 p 0 n) n) (at_ (AD6 p 0 n) (n-1))=true:=by
     rw[fM hz',fM hz',if_neg (by lia),if_pos ⟨by lia,by lia⟩]
     rcases O.neg _ (at_ p (0+n-1-(n-1))) _ hlt with z | z
     ·exact z
     ·have:=he (n-1) (0+n-1-(n-1)) (by lia) (by lia) (by lia) (by lia)
      unfold le at this
      rw[this]at z;cases z
    obtain⟨d1,d2,d3,d4⟩:=iL O (p:=AD6 p 0 n) (n:=n) (nrem:=nrem) (by lia) (by lia) (by rw[dm];exact hz) he' hc'
    exact⟨d1.trans dm,d2,d3,d4⟩
  ·rw[if_neg h2]
   have:n=1:=by lia
   subst this
   exact iL O (by lia) (by lia) hz (λi j b1 b2 b3 b4=>by
    have:i=0:=by lia
    have:j=0:=by lia
    subst_vars
    exact le_refl O _) hlt
theorem jC(O:Ord c)(hu:Up c p k):∀(f l r:Nat),l<=r->r<=k->r-l<=f->(∀i,i<l->le c (at_ p i) (at_ p k))->(∀i,r<=i->i<k->c (at_ p k) (at_ p i)=true) ->
  qZ c p k (run c (AD9 p k f l r))
 | 0,l,r,h1,h2,h3,h4,h5=>⟨by show l<=k;lia,h4,λi a1 a2=>h5 i (by have a1':l<=i:=a1;lia) a2⟩
 | f+1,l,r,h1,h2,h3,h4,h5=>by
  show qZ c p k (run c (if l ≥ r then .ret l else .ask (at_ p k) (at_ p ((l+r) / 2)) λc=>if c=true then AD9 p k f l ((l+r) / 2)else AD9 p k f ((l+r) / 2+1) r))
  by_cases hl:l ≥ r
  ·rw[if_pos hl]
   exact⟨by show l<=k;lia,h4,λi a1 a2=>h5 i (by have a1':l<=i:=a1;lia) a2⟩
  ·rw[if_neg hl]
   show qZ c p k (run c (if c (at_ p k) (at_ p ((l+r) / 2))=true then AD9 p k f l ((l+r) / 2)else AD9 p k f ((l+r) / 2+1) r))
   by_cases hc:c (at_ p k) (at_ p ((l+r) / 2))=true
   ·rw[if_pos hc]
    refine jC O hu f l ((l+r) / 2) (by lia) (by lia) (by lia) h4 λi a1 a2=>?_
    rcases O.neg _ (at_ p i) _ hc with z | z
    ·exact z
    ·have:=hu ((l+r) / 2) i a1 a2
     unfold le at this
     rw[this]at z;cases z
   ·rw[if_neg hc]
    have lm:le c (at_ p ((l+r) / 2)) (at_ p k):=by unfold le;simpa using hc
    refine jC O hu f ((l+r) / 2+1) r (by lia) h2 (by lia) (λi hi=>?_) h5
    exact le_trans O (hu i ((l+r) / 2) (by lia) (by lia)) lm
theorem xz(O:Ord c)(hk:k<p.size)(hu:Up c p k)(hm:m<=k)(h1:∀i,i<m->le c (at_ p i) (at_ p k))(h2:∀i,m<=i->i<k->c (at_ p k) (at_ p i)=true):Up c (bubble p k (k-m)) (k+1):=by
 intro i j hij hj
 have e:k-(k-m)=m:=by lia
 rw[pQ hk (by lia),pQ hk (by lia),e]
 by_cases hi:i=m
 ·rw[if_pos hi]
  by_cases hjm:j=m
  ·rw[if_pos hjm];exact le_refl O _
  ·rw[if_neg hjm,if_pos ⟨by lia,by lia⟩]
   exact le_of_lt O (h2 _ (by lia) (by lia))
 ·rw[if_neg hi]
  by_cases hi2:m<i/\i<=k
  ·rw[if_pos hi2,if_neg (by lia),if_pos ⟨by lia,by lia⟩]
   exact hu _ _ (by lia) (by lia)
  ·rw[if_neg hi2]
   by_cases hjm:j=m
   ·rw[if_pos hjm];exact h1 i (by lia)
   ·rw[if_neg hjm]
    by_cases hj2:m<j/\j<=k
    ·rw[if_pos hj2]
     exact hu _ _ (by lia) (by lia)
    ·rw[if_neg hj2]
     exact hu _ _ hij (by lia)
theorem xB(O:Ord c):∀(f:Nat) (p:Array Nat) (k:Nat),k+f<=p.size->Up c p k->(run c (kas_bin f p k)).size=p.size/\Up c (run c (kas_bin f p k)) (k+f)
 | 0,p,k,_,h=>⟨rfl,h⟩
 | f+1,p,k,hz,h=>by
  show (run c ((AD9 p k k 0 k).bind λl=>kas_bin f (bubble p k (k-l)) (k+1))).size=p.size/\Up c (run c ((AD9 p k k 0 k).bind λl=>kas_bin f (bubble p k (k-l)) (k+1))) (k+(f+1))
  rw[eZ]
  obtain⟨a1,a2,a3⟩:=jC O h k 0 k (AAS _) (AA8 _) (by lia) (λi hi=>absurd hi (ABd _)) λi a1 a2=>absurd a2 (by lia)
  obtain⟨b1,b2⟩:=xB O f (bubble p k (k-run c (AD9 p k k 0 k))) (k+1) (by rw[bubble_size];lia) (xz O (by lia) h a1 a2 a3)
  exact⟨b1.trans (bubble_size _ _ _),by rw[show k+(f+1)=k+1+f by lia];exact b2⟩
theorem AB(O:Ord c)(h1:1<=n):(run c (ADs n)).size=n/\Up c (run c (ADs n)) n:=by
 have hs:(ABm (AAv n)).size=n:=by simp
 unfold ADs
 rw[eZ]
 obtain⟨a1,a2,a3,a4⟩:=xr O (p:=ABm (AAv n)) h1 (by rw[hs];exact AA8 _)
 rw[hs]at a1
 generalize run c (kas_count n (ABm (AAv n)))=r at a1 a2 a3 a4
 by_cases hl:r.1<n
 ·rw[if_pos hl]
  obtain⟨b1,b2⟩:=xB O (n-max r.1 1) r.2 (max r.1 1) (by rw[a1];lia) (by rw[show max r.1 1=r.1 by lia];exact a2)
  exact⟨b1.trans a1,by rw[show n=max r.1 1+(n-max r.1 1) by lia];simpa using b2⟩
 ·rw[if_neg hl]
  have e1:r.1=n:=by lia
  rw[e1]at a2
  exact⟨a1,a2⟩
def Ent(n:Nat)(p:Array Nat):Prop:=p.toList.Perm (AAv n)
theorem Ent.lt(h:Ent n p)(h0:0<n)(k:Nat):at_ p k<n:=by
 unfold at_
 rw[AB5]
 cases e:p[k]? with
 | none=>simpa using h0
 | some x =>
  have:x∈p.toList:=by
   rw[←AAQ]at e
   exact AAc e
  have:=h.mem_iff.mp this
  simpa using this
theorem Ent.rev(h:Ent n p):Ent n (AD6 p i j):=(Array.perm_iff_toList_perm.mp (mirror_perm p i j ((j-i) / 2))).trans h
theorem Ent.bub(h:Ent n p):Ent n (bubble p i j):=(Array.perm_iff_toList_perm.mp (bubble_perm p i j)).trans h
section
variable{n:Nat}(h0:0<n)
theorem xD(h0:0<n)(h:Ent n p):∀(f k:Nat),Bd n (ADi p f k)
 | 0,_=>trivial
 | f+1,k=>⟨h.lt h0 _,h.lt h0 _,λb=>by cases b with
  | true=>exact trivial
  | false=>exact xD h0 h f (k+1)⟩
theorem mU(h0:0<n):∀(f:Nat) (p:Array Nat) (k q:Nat),Ent n p->Bd n (AC3 f p k q)/\All (λr=>Ent n r.1) (AC3 f p k q)
 | 0,p,k,q,h=>⟨trivial,h⟩
 | f+1,p,k,q,h=>by
  have key:∀b,(Bd n (if b=true then(if q > 0 then AC3 f (AD6 p (k-(q+1)) k) (k+1) 0 else AC3 f p (k+1) 0)
    else KasT.ask (p.getD (k-1) 0) (p.getD k 0) λd=>if d=true then KasT.ret (p,k,q)else AC3 f p (k+1) (q+1)))/\All (λr=>Ent n r.1) (if b=true then(if q > 0 then AC3 f (AD6 p (k-(q+1)) k) (k+1) 0 else AC3 f p (k+1) 0)
    else KasT.ask (p.getD (k-1) 0) (p.getD k 0) λd=>if d=true then KasT.ret (p,k,q)else AC3 f p (k+1) (q+1)):=λb=>by
   cases b with
   | true =>
    rw[if_pos rfl]
    by_cases hq:q > 0
    ·rw[if_pos hq];exact mU h0 f _ _ _ h.rev
    ·rw[if_neg hq];exact mU h0 f _ _ _ h
   | false =>
    rw[if_neg (by simp)]
    have a:=mU h0 f p (k+1) (q+1) h
    refine⟨⟨h.lt h0 _,h.lt h0 _,λb=>?_⟩,λb=>?_⟩
    ·cases b with
     | true=>exact trivial
     | false=>exact a.1
    ·cases b with
     | true=>exact h
     | false=>exact a.2
  exact⟨⟨h.lt h0 _,h.lt h0 _,λb=>(key b).1⟩,λb=>(key b).2⟩
theorem iU(h0:0<n)(h:Ent n p):Bd n (kas_tail3 k m p)/\All (λr=>Ent n r.2) (kas_tail3 k m p):=by
 have triv:∀{t:KasT Nat}{Q:Prop},Q->All (λ_=>Q) t:=λ{t Q} q=>by
  induction t with
  | ret a=>exact q
  | ask i j k ih=>exact λb=>ih b
 unfold kas_tail3
 exact⟨Bd.bindA _ (xD h0 h.rev _ _) (triv trivial),All.bind _ (triv h.rev)⟩
theorem dH(h0:0<n)(h:Ent n p):Bd n (ADt k m p)/\All (λr=>Ent n r.2) (ADt k m p):=by
 unfold ADt
 obtain⟨b1,b2⟩:=mU h0 (m-(k+1)) p (k+1) 0 h
 refine⟨Bd.bindA _ b1 (b2.mono (λr hr=>?_)),All.bind _ (b2.mono (λr hr=>?_))⟩
 ·by_cases hq:r.2.2 > 0
  ·rw[if_pos hq];exact(iU h0 hr.rev).1
  ·rw[if_neg hq];exact(iU h0 hr).1
 ·by_cases hq:r.2.2 > 0
  ·rw[if_pos hq];exact(iU h0 hr.rev).2
  ·rw[if_neg hq];exact(iU h0 hr).2
theorem zo(h0:0<n)(h:Ent n p):Bd n (kas_count m p)/\All (λr=>Ent n r.2) (kas_count m p):=by
 have triv:∀{t:KasT Nat}{Q:Nat->Prop},(∀a,Q a)->All Q t:=λ{t Q} q=>by
  induction t with
  | ret a=>exact q a
  | ask i j k ih=>exact λb=>ih b
 unfold kas_count
 refine⟨Bd.bindA _ (xD h0 h _ _) (triv λk=>?_),All.bind _ (triv λk=>?_)⟩
 ·by_cases h1:(k==m)=true
  ·rw[if_pos h1];exact trivial
  ·rw[if_neg h1]
   by_cases h2:k > 1
   ·rw[if_pos h2]
    refine⟨h.lt h0 _,h.lt h0 _,λb=>?_⟩
    cases b with
    | true=>exact trivial
    | false=>exact(dH h0 h.rev).1
   ·rw[if_neg h2];exact(dH h0 h).1
 ·by_cases h1:(k==m)=true
  ·rw[if_pos h1];exact h
  ·rw[if_neg h1]
   by_cases h2:k > 1
   ·rw[if_pos h2]
    intro b
    cases b with
    | true=>exact h
    | false=>exact(dH h0 h.rev).2
   ·rw[if_neg h2];exact(dH h0 h).2
theorem mr(h0:0<n)(h:Ent n p):∀(f l r:Nat),Bd n (AD9 p k f l r)
 | 0,_,_=>trivial
 | f+1,l,r=>by
  show Bd n (if l ≥ r then KasT.ret l else KasT.ask (p.getD k 0) (p.getD ((l+r) / 2) 0) λc=>if c=true then AD9 p k f l ((l+r) / 2)else AD9 p k f ((l+r) / 2+1) r)
  by_cases hl:l ≥ r
  ·rw[if_pos hl];exact trivial
  ·rw[if_neg hl]
   refine⟨h.lt h0 _,h.lt h0 _,λb=>?_⟩
   cases b with
   | true=>exact mr h0 h f _ _
   | false=>exact mr h0 h f _ _
theorem sZ(h0:0<n):∀(f:Nat) (p:Array Nat) (k:Nat),Ent n p->Bd n (kas_bin f p k)/\All (λr=>Ent n r) (kas_bin f p k)
 | 0,p,k,h=>⟨trivial,h⟩
 | f+1,p,k,h=>by
  have triv:∀{t:KasT Nat}{Q:Nat->Prop},(∀a,Q a)->All Q t:=λ{t Q} q=>by
   induction t with
   | ret a=>exact q a
   | ask i j k ih=>exact λb=>ih b
  exact⟨Bd.bindA _ (mr h0 h _ _ _) (triv λl=>(sZ h0 f _ _ h.bub).1),All.bind _ (triv λl=>(sZ h0 f _ _ h.bub).2)⟩
theorem sort_bd(h0:0<n):Bd n (ADs n)/\All (λr=>Ent n r) (ADs n):=by
 have h:Ent n (ABm (AAv n)):=by unfold Ent;simp
 obtain⟨b1,b2⟩:=zo h0 (m:=n) h
 unfold ADs
 refine⟨Bd.bindA _ b1 (b2.mono λr hr=>?_),All.bind _ (b2.mono λr hr=>?_)⟩
 ·by_cases hl:r.1<n
  ·rw[if_pos hl];exact(sZ h0 _ _ _ hr).1
  ·rw[if_neg hl];exact trivial
 ·by_cases hl:r.1<n
  ·rw[if_pos hl];exact(sZ h0 _ _ _ hr).2
  ·rw[if_neg hl];exact hr
end
theorem sort_list{α:Type}[Inhabited α]{lt:α->α->Bool}(xs:List α)(h1:1<=xs.length)(irr:∀a∈xs,lt a a=false)(tr:∀a∈xs,∀b∈xs,∀d∈xs,lt a b=true->lt b d=true->lt a d=true)
  (neg:∀a∈xs,∀b∈xs,∀d∈xs,lt a d=true->lt a b=true\/lt b d=true) :
  let c:=λi j=>if i<xs.length then(if j<xs.length then lt (xs.getD i default) (xs.getD j default)else true)else false
  let p:=run c (ADs xs.length)
  let ys:=p.toList.map λi=>xs.getD i default
  ys.Perm xs/\ys.Pairwise λa b=>lt b a=false:=by
 intro c p ys
 have mem:∀i,i<xs.length->xs.getD i default∈xs:=λi hi=>by
  rw[AAU,AA5 hi]
  exact AB8 hi
 have O:Ord c:=by
  refine⟨λa=>?_,λa b d=>?_,λa b d=>?_⟩
  ·show (if a<xs.length then(if a<xs.length then lt _ _ else true)else false)=false
   by_cases ha:a<xs.length
   ·rw[if_pos ha,if_pos ha];exact irr _ (mem a ha)
   ·rw[if_neg ha]
  ·show (if a<xs.length then(if b<xs.length then lt _ _ else true)else false)=true->(if b<xs.length then(if d<xs.length then lt _ _ else true)else false)=true->(if a<xs.length then(if d<xs.length then lt _ _ else true)else false)=true
   by_cases ha:a<xs.length
   ·by_cases hb:b<xs.length
    ·by_cases hd:d<xs.length
     ·rw[if_pos ha,if_pos hb,if_pos hb,if_pos hd,if_pos ha,if_pos hd];exact tr _ (mem a ha) _ (mem b hb) _ (mem d hd)
     ·intro _ _;rw[if_pos ha,if_neg hd]
    ·rw[if_neg (show ¬b<xs.length from hb)]
     intro _ z
     rw[if_neg hb]at z;cases z
   ·intro z;rw[if_neg ha]at z;cases z
  ·show (if a<xs.length then(if d<xs.length then lt _ _ else true)else false)=true->(if a<xs.length then(if b<xs.length then lt _ _ else true)else false)=true\/(if b<xs.length then(if d<xs.length then lt _ _ else true)else false)=true
   by_cases ha:a<xs.length
   ·by_cases hb:b<xs.length
    ·by_cases hd:d<xs.length
     ·rw[if_pos ha,if_pos hd,if_pos ha,if_pos hb,if_pos hb,if_pos hd];exact neg _ (mem a ha) _ (mem b hb) _ (mem d hd)
     ·intro _;right;rw[if_pos hb,if_neg hd]
    ·intro _;left;rw[if_pos ha,if_neg hb]
   ·intro z;rw[if_neg ha]at z;cases z
 have hE:Ent xs.length p:=All.run _ (sort_bd (by lia)).2
 obtain⟨hs,hU⟩:=AB O h1
 refine⟨?_,?_⟩
 ·have e:(AAv xs.length).map (λi=>xs.getD i default)=xs:=by
   apply ADj
   intro i
   rw[AAT]
   by_cases hi:i<xs.length
   ·rw[List.getElem?_range hi]
    simp[AAU,AA5 hi]
   ·rw[ABP (by simpa using hi),ABP (by simpa using hi)]
    rfl
  have:=hE.map λi=>xs.getD i default
  rw[e]at this
  exact this
 ·show (p.toList.map λi=>xs.getD i default).Pairwise λa b=>lt b a=false
  rw[List.pairwise_iff_getElem]
  intro i j hi hj hij
  rw[AA6,AAL]at hi hj
  have hs':p.size=xs.length:=hs
  have l:=hU i j (by lia) (by lia)
  have hl:∀k,at_ p k<xs.length:=λk=>hE.lt (by lia) k
  unfold le at l
  have l':(if at_ p j<xs.length then(if at_ p i<xs.length then lt (xs.getD (at_ p j) default) (xs.getD (at_ p i) default)else true)else false)=false:=l
  rw[if_pos (hl j),if_pos (hl i)]at l'
  have ai:p.toList[i]=at_ p i:=by unfold at_;simp[ACJ,hi]
  have aj:p.toList[j]=at_ p j:=by unfold at_;simp[ACJ,hj]
  rw[ACK,ACK,ai,aj]
  exact l'
end
end Srt
namespace L2
open PySem PySem.Spec PyProof.Rows DL
def uv(A:Around)(s:Shared)(x y:Value)(k:Bool):Prop:=∀(prog:Program) (w:World) (E:Value->Shared->Prop) (Q:Value->Shared->Prop),Q (.bool k) s->wpAny (model prog w) A (richCompare .Lt x y) Q E s
inductive LexAt(A:Around)(s:Shared):List Value->List Value->Bool->Prop
 | nn:LexAt A s [] [] false
 | nc {y:Value}{ys:List Value}:LexAt A s [] (y::ys) true
 | cn {x:Value}{xs:List Value}:LexAt A s (x::xs) [] false
 | eq {x y:Value}{xs ys:List Value}{k:Bool} (h:ACC A s x y true) (t:LexAt A s xs ys k):LexAt A s (x::xs) (y::ys) k
 | ne {x y:Value}{xs ys:List Value}{k:Bool} (h:ACC A s x y false) (t:uv A s x y k):LexAt A s (x::xs) (y::ys) k
section
open PySem.SeqAt
open PySem.AutoSeq1 (wpAny_loadPart')
open PySem.MeetsSeq PySem.MeetsSeq2 PySem.MeetsSeq3
theorem nw(l b:Addr)(items items2:Array Value)(n n2:Nat)(dd dd2:Option Addr)(sl sl2:Array (Option Value))(k:Bool) :
  Meets (Builtin.«tuple.__lt__» ⟨[.ref l,.ref b],[]⟩)
   (λA R s=>s.heap.get? l=some (⟨.type "tuple",dd,.seq items n,sl⟩:Obj)/\s.heap.get? b=some { cls:=.type "tuple",dict:=dd2,data:=.seq items2 n2,slots:=sl2 } /\
    LexAt A.in1 s items.toList items2.toList k/\R (.ok (.ret (.bool k))) s) :=
 .of_wp λprog w A R s h=>by
  obtain⟨hp,g,d,tk,os⟩:=s;obtain⟨hl,hb,hx,h⟩:=h
  have f2:=AutoSeq1.sub_tuple_tuple
  wp_walk using ADP hl,ADP hb,ABJ _ (λaI b s'=>b.1=none/\s'=⟨hp,g,d,tk,os⟩/\∃(vs ws:List Value),aI=vs.zip ws /\
   LexAt A.in1 ⟨hp,g,d,tk,os⟩ vs ws k/\vs.length+items2.size=ws.length+items.size) _
  case turn =>
   rintro⟨y,x⟩ aI b s' ⟨hb',rfl,vs,ws,hz,hlex,hlen⟩
   cases hlex with
   | nn=>cases hz
   | nc=>cases hz
   | cn=>cases hz
   | eq he t =>
    rw[ADU]at hz
    injection hz with hyx hrest
    injection hyx with hy hx
    subst hy hx
    refine AA0 (he prog w _ _ ?_)
    wp_walk
    exact⟨rfl,rfl,_,_,hrest,t,by simp only[AAJ]at hlen;lia⟩
   | ne he t =>
    rw[ADU]at hz
    injection hz with hyx hrest
    injection hyx with hy hx
    subst hy hx
    refine AA0 (he prog w _ _ ?_)
    have hri:=t prog w
    wp_walk using hri
    exact⟨_,rfl,by simpa using h⟩
  case fin =>
   rintro⟨b1,b2⟩ s' ⟨hb',rfl,vs,ws,hz,hlex,hlen⟩
   simp only at hb'
   subst hb'
   have hv:k=decide (items.size<items2.size):=by
    cases hlex with
    | nn=>simp only[AAb]at hlen;exact(decide_eq_false (by lia)).symm
    | nc=>simp only[AAb,AAJ]at hlen;exact(decide_eq_true (by lia)).symm
    | cn=>simp only[AAb,AAJ]at hlen;exact(decide_eq_false (by lia)).symm
    | eq _ _=>rw[ADU]at hz;cases hz
    | ne _ _=>rw[ADU]at hz;cases hz
   rw[hv]at h
   wp_walk
   exact⟨_,rfl,by simpa [Builtin.Tuple.tupleCompareSizes]using h⟩
  case h =>
   exact⟨rfl,rfl,items.toList,items2.toList,rfl,hx,by simp;lia⟩
end
theorem uv.tuples(hl:s.heap.IsTuple l items)(hb:s.heap.IsTuple b items2)(hu:A.units<cLine)(hx:LexAt A.in1 s items.toList items2.toList k):uv A s (.ref l) (.ref b) k:=λprog w E Q h=>by
 obtain⟨⟨cls,dd,data,sl⟩,ho,hc,n,hd⟩:=id hl
 obtain⟨⟨cls2,dd2,data2,sl2⟩,ho2,hc2,n2,hd2⟩:=id hb
 simp only at hc hd hc2 hd2
 subst hc hd hc2 hd2
 exact richCompare_meets_room (op:=.Lt) ⟨_,ho,rfl⟩ ⟨_,ho2,rfl⟩ PySem.F.slot_tuple_lt PySem.F.entry_tuple_lt (PySem.F.args_tuple_lt_2 _ _) (nw l b items items2 n n2 dd dd2 sl sl2 k)
  ⟨ho,ho2,hx,show Value.bool k≠Value.notImplemented/\Q (.bool k) s from⟨(λx=>nomatch x),h⟩⟩ hu
end L2
namespace L2
open PySem PySem.Spec PyProof.Rows DL
def qB(f g:D->D->Bool):List D->List D->Bool
 | [],[]=>false
 | [],_::_=>true
 | _::_,[]=>false
 | x::xs,y::ys=>if f x y=true then qB f g xs ys else g x y
def ltD(M:Mem):Nat->D->D->Bool
 | _,.int a,.int b=>decide (a<b)
 | _,.str a,.str b=>qg a b
 | n+1,.tup xs,.tup ys=>qB (eqD M n) (ltD M n) xs ys
 | _,_,_=>false
def xJ(f g:D->D->Bool):List D->List D->Bool
 | x::xs,y::ys=>if f x y=true then xJ f g xs ys else g x y
 | _,_=>true
def iM(M:Mem):Nat->D->D->Bool
 | _,.int _,.int _=>true
 | _,.str _,.str _=>true
 | n+1,.tup xs,.tup ys=>xJ (eqD M n) (iM M n) xs ys
 | _,_,_=>false
theorem uv.ints(A:Around)(s:Shared)(a:Int)(t:Tok)(c:Int)(u:Tok):uv A s (.int a t) (.int c u) (decide (a<c)):=λprog w E Q h=>HT.rcLt_int A s a t c u prog w E Q h
theorem uv.texts(A:Around)(s:Shared)(a:Str)(t:Tok)(c:Str)(u:Tok):uv A s (.str a t) (.str c u) (qg a c):=λprog w E Q h =>
 (PySem.P.lt_str (show Q (.bool (decide (a.cps.toList<c.cps.toList))) s from h):wpAny (model prog w) A (compareOp .Lt (.str a t) (.str c u)) Q E s)
section
variable{X:Cx}{pins:List (Addr×Obj)}{σ:St}{H:Hp}{s:Shared}{ρ:List Addr}{M:Mem}
theorem zH(I:Inv X pins σ H s)(sm:Sim X.K ρ M H):∀(n:Nat) (A:Around) (x y:D) (vx vy:V) (u v:Value),A.units+n<cLine->Rep X.K ρ H x vx->aL vx u->Rep X.K ρ H y vy->aL vy v->okD M n x=true->okD M n y=true->iM M n x y=true ->
  uv A s u v (ltD M n x y):=by
 intro n
 induction n with
 | zero =>
  intro A x y vx vy u v hu r1 e1 r2 e2 o1 o2 cm
  cases r1 with
  | int a =>
   cases r2 with
   | int b=>obtain⟨t,rfl⟩:=e1;obtain⟨t',rfl⟩:=e2;exact uv.ints A s a t b t'
   | _=>simp[iM]at cm
  | str a =>
   cases r2 with
   | str b=>obtain⟨t,rfl⟩:=e1;obtain⟨t',rfl⟩:=e2;exact uv.texts A s a t b t'
   | _=>simp[iM]at cm
  | _=>simp[iM]at cm
 | succ n ih =>
  intro A x y vx vy u v hu r1 e1 r2 e2 o1 o2 cm
  have hu0:A.units<cLine:=by lia
  have hu1:A.in1.units+n<cLine:=by show A.units+1+n<cLine;lia
  have lex:∀(ds es:List D) (vs ws:List V) (its jts:List Value),Reps X.K ρ H ds vs->aw vs its->Reps X.K ρ H es ws->aw ws jts->ds.all (okD M n)=true->es.all (okD M n)=true->xJ (eqD M n) (iM M n) ds es=true ->
    LexAt A.in1 s its jts (qB (eqD M n) (ltD M n) ds es):=by
   intro ds
   induction ds with
   | nil =>
    intro es vs ws its jts p1 q1 p2 q2 _ _ _
    cases p1;cases q1
    cases p2 with
    | nil=>cases q2;exact .nn
    | cons _ _=>cases q2;exact .nc
   | cons d ds hi =>
    intro es vs ws its jts p1 q1 p2 q2 k1 k2 k3
    cases p1 with
    | cons a1 p1 =>
     cases q1 with
     | cons b1 q1 =>
      cases p2 with
      | nil=>cases q2;exact .cn
      | @cons e _ es' _ a2 p2 =>
       cases q2 with
       | cons b2 q2 =>
        rw[ABM,AAV]at k1 k2
        have he:=(iK I sm n A.in1 d _ _ _ _ _ hu1 a1 b1 a2 b2 k1.1 k2.1).1
        rw[qB]
        rw[xJ]at k3
        by_cases hq:eqD M n d e=true
        ·rw[hq]at he
         rw[if_pos hq]at k3 ⊢
         exact .eq he (hi _ _ _ _ _ p1 q1 p2 q2 k1.2 k2.2 k3)
        ·have hq':=ABL.mpr hq
         rw[hq']at he
         rw[if_neg hq]at k3 ⊢
         exact .ne he (ih A.in1 _ _ _ _ _ _ hu1 a1 b1 a2 b2 k1.1 k2.1 k3)
  cases r1 with
  | int a =>
   cases r2 with
   | int b=>obtain⟨t,rfl⟩:=e1;obtain⟨t',rfl⟩:=e2;exact uv.ints A s a t b t'
   | _=>simp[iM]at cm
  | str a =>
   cases r2 with
   | str b=>obtain⟨t,rfl⟩:=e1;obtain⟨t',rfl⟩:=e2;exact uv.texts A s a t b t'
   | _=>simp[iM]at cm
  | tup hq r =>
   cases r2 with
   | tup hq' r' =>
    cases e1;cases e2
    obtain⟨its,rr,pl,_⟩:=I.tuple hq
    obtain⟨jts,rr',pl',_⟩:=I.tuple hq'
    refine uv.tuples pl pl' hu0 ?_
    exact lex _ _ _ _ _ _ r rr r' rr' (by simpa [okD]using o1) (by simpa [okD]using o2) cm
   | _=>simp[iM]at cm
  | _=>simp[iM]at cm
end
def okP:Nat->D->Bool
 | _,.int _=>true
 | _,.str _=>true
 | n+1,.tup xs=>xs.all (okP n)
 | _,_=>false
def Ct(f:D->List Int):List D->List Int
 | []=>[0]
 | x::xs=>1::(f x++Ct f xs)
def enc:Nat->D->List Int
 | _,.int i=>[0,i]
 | _,.str x=>1::(x.cps.toList.map (λ(c:Nat)=>(c:Int)+1)++[0])
 | n+1,.tup xs=>2::Ct (enc n) xs
 | _,_=>[3]
def bX(x y:List Int):Prop:=∀a b,x++a<y++b
theorem bX.cons(i:Int)(h:bX x y):bX (i::x) (i::y):=λa b=>AB9.mpr (.inr ⟨rfl,h a b⟩)
theorem bX.head(x y:List Int)(h:i<j):bX (i::x) (j::y):=λa b=>AB9.mpr (.inl h)
theorem bX.lt(h:bX x y):x<y:=by have:=h [] [];simpa using this
theorem bX.pre(z:List Int)(h:bX x y):bX (z++x) (z++y):=by
 induction z with
 | nil=>exact h
 | cons i z ih=>exact ih.cons i
theorem bX.more(u v:List Int)(h:bX x y):bX (x++u) (y++v):=λa b=>by
 rw[AAs,AAs]
 exact h _ _
def Tri(x y:D)(n:Nat)(l:Bool)(r:Bool):Prop:=(x=y/\l=false/\r=false)\/(x≠y/\l=true/\r=false/\bX (enc n x) (enc n y))\/(x≠y/\l=false/\r=true/\bX (enc n y) (enc n x))
theorem pG:∀(x y:List Nat),(x=y)\/(x<y/\¬y<x/\bX (x.map (λ(c:Nat)=>(c:Int)+1)++[0]) (y.map (λ(c:Nat)=>(c:Int)+1)++[0]))\/(¬x<y/\y<x/\bX (y.map (λ(c:Nat)=>(c:Int)+1)++[0]) (x.map (λ(c:Nat)=>(c:Int)+1)++[0]))
 | [],[]=>.inl rfl
 | [],c::y=>.inr (.inl ⟨List.nil_lt_cons _ _,List.not_lt_nil _,bX.head _ _ (by dsimp only;lia)⟩)
 | c::x,[]=>.inr (.inr ⟨List.not_lt_nil _,List.nil_lt_cons _ _,bX.head _ _ (by dsimp only;lia)⟩)
 | c::x,e::y=>by
  rcases AD0 c e with h | h | h
  ·refine .inr (.inl ⟨AB9.mpr (.inl h),λz=>?_,bX.head _ _ (by dsimp only;lia)⟩)
   rcases AB9.mp z with z | ⟨z,_⟩<;>lia
  ·subst h
   rcases pG x y with q | ⟨q1,q2,q3⟩|⟨q1,q2,q3⟩
   ·exact .inl (by rw[q])
   ·refine .inr (.inl ⟨AB9.mpr (.inr ⟨rfl,q1⟩),λz=>?_,q3.cons _⟩)
    rcases AB9.mp z with z | ⟨_,z⟩
    ·lia
    ·exact q2 z
   ·refine .inr (.inr ⟨λz=>?_,AB9.mpr (.inr ⟨rfl,q2⟩),q3.cons _⟩)
    rcases AB9.mp z with z | ⟨_,z⟩
    ·lia
    ·exact q1 z
  ·refine .inr (.inr ⟨λz=>?_,AB9.mpr (.inl h),bX.head _ _ (by dsimp only;lia)⟩)
   rcases AB9.mp z with z | ⟨z,_⟩<;>lia
theorem EL(M:Mem):∀(n:Nat) (x y:D),okP n x=true->okP n y=true->(eqD M n x y=true↔x=y):=by
 have all:∀(n:Nat),(∀(x y:D),okP n x=true->okP n y=true->(eqD M n x y=true↔x=y))->∀(xs ys:List D),xs.all (okP n)=true->ys.all (okP n)=true->(eqL (eqD M n) xs ys=true↔xs=ys):=by
  intro n ih xs
  induction xs with
  | nil=>intro ys _ _;cases ys<;>simp[eqL]
  | cons x xs hi =>
   intro ys h1 h2
   cases ys with
   | nil=>simp[eqL]
   | cons y ys =>
    rw[ABM,AAV]at h1 h2
    rw[eqL,AAV,ih x y h1.1 h2.1,hi ys h1.2 h2.2,ADV]
 intro n
 induction n with
 | zero =>
  intro x y h1 h2
  cases x<;>simp[okP]at h1<;>cases y<;>simp[okP]at h2<;>simp[eqD]
 | succ n ih =>
  intro x y h1 h2
  cases x with
  | int a=>cases y<;>simp[okP]at h2<;>simp[eqD]
  | str a=>cases y<;>simp[okP]at h2<;>simp[eqD]
  | tup xs =>
   cases y with
   | tup ys =>
    simp only[eqD,D.tup.injEq]
    exact all n ih xs ys (by simpa [okP]using h1) (by simpa [okP]using h2)
   | int a=>simp[eqD]
   | str a=>simp[eqD]
   | _=>simp[okP]at h2
  | _=>simp[okP]at h1
theorem DJ(M:Mem):∀(n:Nat) (x:D),okP n x=true->okD M n x=true:=by
 intro n
 induction n with
 | zero=>intro x h;cases x<;>simp[okP]at h<;>rfl
 | succ n ih =>
  intro x h
  cases x with
  | int a=>rfl
  | str a=>rfl
  | tup xs =>
   simp only[okD]
   rw[AAa]
   intro y hy
   exact ih y (AAa.mp (show xs.all (okP n)=true from h) y hy)
  | _=>simp[okP]at h
theorem CC(M:Mem):∀(n:Nat) (x y:D),okP n x=true->okP n y=true->iM M n x y=true->Tri x y n (ltD M n x y) (ltD M n y x):=by
 have base:∀(n:Nat) (a b:Int),Tri (.int a) (.int b) n (decide (a<b)) (decide (b<a)):=λn a b=>by
  have e:∀a,enc n (.int a)=[0,a]:=λa=>by cases n<;>rfl
  rcases Int.lt_trichotomy a b with h | h | h
  ·exact .inr (.inl ⟨by simp;lia,decide_eq_true h,decide_eq_false (by lia),by rw[e,e];exact(bX.head [] [] h).cons 0⟩)
  ·subst h;exact .inl ⟨rfl,decide_eq_false (by lia),decide_eq_false (by lia)⟩
  ·exact .inr (.inr ⟨by simp;lia,decide_eq_false (by lia),decide_eq_true h,by rw[e,e];exact(bX.head [] [] h).cons 0⟩)
 have bases:∀(n:Nat) (a b:Str),Tri (.str a) (.str b) n (qg a b) (qg b a):=λn a b=>by
  have e:∀a:Str,enc n (.str a)=1::(a.cps.toList.map (λ(c:Nat)=>(c:Int)+1)++[0]):=λa=>by cases n<;>rfl
  unfold qg
  rcases pG a.cps.toList b.cps.toList with h | ⟨h1,h2,h3⟩|⟨h1,h2,h3⟩
  ·have:a=b:=AA h
   subst this
   exact .inl ⟨rfl,decide_eq_false (ABG _),decide_eq_false (ABG _)⟩
  ·exact .inr (.inl ⟨λz=>by cases z;exact h2 h1,decide_eq_true h1,decide_eq_false h2,by rw[e,e];exact h3.cons 1⟩)
  ·exact .inr (.inr ⟨λz=>by cases z;exact h1 h2,decide_eq_false h1,decide_eq_true h2,by rw[e,e];exact h3.cons 1⟩)
 intro n
 induction n with
 | zero =>
  intro x y h1 h2 h3
  cases x<;>simp[okP]at h1<;>cases y<;>simp[okP]at h2<;>first | exact base 0 _ _ | exact bases 0 _ _ | simp[iM]at h3
 | succ n ih =>
  intro x y h1 h2 h3
  have lists:∀(xs ys:List D),xs.all (okP n)=true->ys.all (okP n)=true->xJ (eqD M n) (iM M n) xs ys=true ->
    (xs=ys/\qB (eqD M n) (ltD M n) xs ys=false/\qB (eqD M n) (ltD M n) ys xs=false) \/
    (xs≠ys/\qB (eqD M n) (ltD M n) xs ys=true/\qB (eqD M n) (ltD M n) ys xs=false/\bX (Ct (enc n) xs) (Ct (enc n) ys)) \/
    (xs≠ys/\qB (eqD M n) (ltD M n) xs ys=false/\qB (eqD M n) (ltD M n) ys xs=true/\bX (Ct (enc n) ys) (Ct (enc n) xs)):=by
   intro xs
   induction xs with
   | nil =>
    intro ys _ _ _
    cases ys with
    | nil=>exact .inl ⟨rfl,rfl,rfl⟩
    | cons y ys=>exact .inr (.inl ⟨by simp,rfl,rfl,bX.head _ _ (by decide)⟩)
   | cons x xs hi =>
    intro ys h1 h2 h3
    cases ys with
    | nil=>exact .inr (.inr ⟨by simp,rfl,rfl,bX.head _ _ (by decide)⟩)
    | cons y ys =>
     rw[ABM,AAV]at h1 h2
     rw[xJ]at h3
     have qe:=EL M n x y h1.1 h2.1
     have qe':=EL M n y x h2.1 h1.1
     rw[qB,qB]
     by_cases hq:x=y
     ·subst hq
      rw[if_pos (qe.mpr rfl)]at h3
      rw[if_pos (qe.mpr rfl),if_pos (qe.mpr rfl)]
      rcases hi ys h1.2 h2.2 h3 with⟨a1,a2,a3⟩|⟨a1,a2,a3,a4⟩|⟨a1,a2,a3,a4⟩
      ·exact .inl ⟨by rw[a1],a2,a3⟩
      ·exact .inr (.inl ⟨λz=>a1 (AEP z).2,a2,a3,(a4.pre (enc n x)).cons 1⟩)
      ·exact .inr (.inr ⟨λz=>a1 (AEP z).2,a2,a3,(a4.pre (enc n x)).cons 1⟩)
     ·have n1:¬eqD M n x y=true:=λz=>hq (qe.mp z)
      have n2:¬eqD M n y x=true:=λz=>hq (qe'.mp z).symm
      rw[if_neg n1]at h3
      rw[if_neg n1,if_neg n2]
      rcases ih x y h1.1 h2.1 h3 with⟨a1,_⟩|⟨a1,a2,a3,a4⟩|⟨a1,a2,a3,a4⟩
      ·exact absurd a1 hq
      ·exact .inr (.inl ⟨λz=>hq (AEP z).1,a2,a3,(a4.more _ _).cons 1⟩)
      ·exact .inr (.inr ⟨λz=>hq (AEP z).1,a2,a3,(a4.more _ _).cons 1⟩)
  cases x with
  | int a=>cases y<;>simp[okP]at h2<;>first | exact base (n+1) _ _ | simp[iM]at h3
  | str a=>cases y<;>simp[okP]at h2<;>first | exact bases (n+1) _ _ | simp[iM]at h3
  | tup xs =>
   cases y with
   | tup ys =>
    rcases lists xs ys (by simpa [okP]using h1) (by simpa [okP]using h2) h3 with⟨a1,a2,a3⟩|⟨a1,a2,a3,a4⟩|⟨a1,a2,a3,a4⟩
    ·exact .inl ⟨by rw[a1],a2,a3⟩
    ·exact .inr (.inl ⟨λz=>a1 (D.tup.inj z),a2,a3,a4.cons 2⟩)
    ·exact .inr (.inr ⟨λz=>a1 (D.tup.inj z),a2,a3,a4.cons 2⟩)
   | _=>simp[iM]at h3
  | _=>simp[okP]at h1
theorem qw(h1:okP n x=true)(h2:okP n y=true)(h3:iM M n x y=true):ltD M n x y=decide (enc n x<enc n y):=by
 rcases CC M n x y h1 h2 h3 with⟨a1,a2,a3⟩|⟨a1,a2,a3,a4⟩|⟨a1,a2,a3,a4⟩
 ·subst a1;rw[a2,decide_eq_false (ABG _)]
 ·rw[a2,decide_eq_true a4.lt]
 ·rw[a2,decide_eq_false (λz=>ABG _ (List.lt_trans z a4.lt))]
theorem xk(h1:okP n x=true)(h2:okP n y=true)(h3:iM M n x y=true)(e:enc n x=enc n y):x=y:=by
 rcases CC M n x y h1 h2 h3 with⟨a1,_⟩|⟨_,_,_,a4⟩|⟨_,_,_,a4⟩
 ·exact a1
 ·have:=a4.lt;rw[e]at this;exact absurd this (ABG _)
 ·have:=a4.lt;rw[e]at this;exact absurd this (ABG _)
end L2
namespace L2
open PySem PySem.Spec PyProof.Rows DL PySem.W
section
variable{X:Cx}{pins:List (Addr×Obj)}{σ:St}{H:Hp}{s:Shared}
theorem Inv.laidF(I:Inv X pins σ H s)(k:∀b u,b≠X.env.locals->s.heap.get? b=some u->h'.get? b=some u)(hn:s.heap.Ns X.env.locals m)(hn':h'.Ns X.env.locals m)
  (hp:s.heap.get? a=none) (fa:H a=none) (new:cF X.prog X.w (upd H a o) h' a o):Inv X pins σ (upd H a o) { s with heap:=h',toks:=t' }:=by
 have nea:∀b u,s.heap.get? b=some u->b≠a:=λb u e z=>by subst z;rw[hp]at e;cases e
 refine I.step (g':=s.gens) (d':=s.drawn) (ch:=[]) (λ_ z=>nomatch z) (λb u hL _ _ e _=>k b u hL e) (λb u hL _ _ e _=>⟨u.slots,k b u hL e⟩) (λb u _ e n=>by rw[ah (nea b u e)];exact n) (λb u _ e=>?_)
  (λb xs q=>by rw[ah (ad q fa)];exact q) (λb u xs q=>by rw[ah (ad q fa)];exact q) (λb ps q=>⟨#[],by rw[ah (ad q fa),q];simp⟩) (λm' hm=>?_) (λb w q=>?_) I.bare
 ·by_cases hb:b=X.env.locals
  ·subst hb
   obtain⟨o',_,_,ho,_⟩:=hn'
   exact⟨o',ho⟩
  ·exact⟨u,k b u hb e⟩
 ·have:m=m':=funext λx=>hn.agree hm x
  subst this
  exact hn'
 ·by_cases hb:b=a
  ·subst hb
   rw[aH]at q
   cases q
   exact new
  ·rw[ah hb]at q
   refine(I.hok b w q).stay (λc v hc r=>k c v ?_ r) (λc z=>by rw[ah (ad z fa)];exact z) λc xs z=>by rw[ah (ad z fa)];exact z
   rcases hc with rfl | hc
   ·exact ad q I.free
   ·exact ad hc I.free
theorem Inv.keptF(I:Inv X pins σ H s)(k:∀b u,b≠X.env.locals->s.heap.get? b=some u->h'.get? b=some u)(hn:s.heap.Ns X.env.locals m)(hn':h'.Ns X.env.locals m):Inv X pins σ H { s with heap:=h',toks:=t' }:=by
 refine I.step (g':=s.gens) (d':=s.drawn) (ch:=[]) (λ_ z=>nomatch z) (λb u hL _ _ e _=>k b u hL e) (λb u hL _ _ e _=>⟨u.slots,k b u hL e⟩) (λb u _ e n=>n) (λb u _ e=>?_)
  (λb xs q=>q) (λb u xs q=>q) (λb ps q=>⟨#[],by rw[q];simp⟩) (λm' hm=>?_) (λb w q=>?_) I.bare
 ·by_cases hb:b=X.env.locals
  ·subst hb
   obtain⟨o',_,_,ho,_⟩:=hn'
   exact⟨o',ho⟩
  ·exact⟨u,k b u hb e⟩
 ·have:m=m':=funext λx=>hn.agree hm x
  subst this
  exact hn'
 ·refine(I.hok b w q).stay (λc v hc r=>k c v ?_ r) (λc z=>z) λc xs z=>z
  rcases hc with rfl | hc
  ·exact ad q I.free
  ·exact ad hc I.free
end
section
variable{prog:Program}{w:World}{A:Around}{E:Value->Shared->Prop}{s:Shared}
theorem om{l:Addr}{vs:List Value}{Q:Value->Shared->Prop}(hl:s.heap.IsList l vs.toArray)(h2:vs.length<2)
  (h:∀D h' n,s.heap.objs.size<=D->(∀b o,s.heap.get? b=some o->h'.get? b=some o)->h'.get? D=some { cls:=.type "list",data:=.seq vs.toArray n }->Q (.ref D) { s with heap:=h' }) :
  wpAny (model prog w) A (call (.builtin "sorted") ([ABU l])) Q E s:=by
 have few:vs.length<=sizeLine:=by rw[AC5];lia
 refine Calls.call_function_entry kind_sorted plain_sorted entry_sorted (args_sorted1 (.ref l)) ?_
 unfold Builtin.«sorted»
 refine AA0 (m:=checkCount "sorted" 1 1 _) (AA2 (AA0 (collect_list hl (AA0 (AD1 ?_ few)) few)))
 generalize hg:((s.heap.push (seqObj "list" #[] 0)).update s.heap.objs.size (ABA (· ++ vs.toArray)))=g1
 have hsz:g1.objs.size=s.heap.objs.size+1:=by rw[←hg,Heap.size_update,size_push']
 have k1:∀b o,s.heap.get? b=some o->g1.get? b=some o:=λb o q=>by
  have hlt:=AAH q
  rw[←hg,ABt _ _ _ _ (AAM hlt),Heap.get?_push_ne _ _ _ (AAM hlt)]
  exact q
 show wpAny _ _ _ _ _ { s with heap:=g1.push (seqObj "list" vs.toArray 0) }
 have hoL:(g1.push (seqObj "list" vs.toArray 0)).get? g1.objs.size=some (seqObj "list" vs.toArray 0):=AAC _ rfl
 refine AA0 (AAh (AAt slot_list_sort (⟨_,hoL,rfl⟩) entry_list_sort ?body (args_list_sort (.ref _))))
 case body =>
  rw[list_sort_plain]
  refine AA0 (ADu hoL rfl ?_)
  refine AA0 (AD2 hoL rfl ?_ (by rw[AAD,AC5];lia) (AAS _))
  obtain⟨e1,ho1⟩:∃e1,((g1.push (seqObj "list" vs.toArray 0)).update g1.objs.size (ABA λ_=>(#[]:Array Value))).get? g1.objs.size=some (seqObj "list" #[] e1):=⟨_,ACY hoL λ_=>#[]⟩
  refine AA0 (seqEpoch_at ho1 rfl (AA0 (wpAny_newTuple (AA0 (AD1 (AAh ?_) (AAS _))) few)))
  dsimp only
  have hv2:vs.toArray.size<2:=by rw[AAD];exact h2
  rw[if_pos hv2,if_pos hv2]
  refine AA0 (AA2 ?_)
  rw[StateT.run_pure]
  refine AA0 (AA2 ?_)
  dsimp only
  generalize hg3:(((g1.push (seqObj "list" vs.toArray 0)).update g1.objs.size (ABA λ_=>(#[]:Array Value))).push (seqObj "tuple" vs.toArray 0)).push (seqObj "list" #[] 0)=g3
  have ho3:g3.get? g1.objs.size=some (seqObj "list" #[] e1):=by rw[←hg3];exact AA3 _ (AA3 _ ho1)
  have k3:∀b o,b≠g1.objs.size->s.heap.get? b=some o->g3.get? b=some o:=λb o hb q=>by
   have q1:=k1 b o q
   rw[←hg3]
   refine AA3 _ (AA3 _ ?_)
   rw[ABt _ _ _ _ hb]
   exact AA3 _ q1
  refine AA0 (seqEpoch_at ho3 rfl ?_)
  have eo:∀us:List Value,us.length<2->(us.toArray.zip us.toArray).map (·.2)=us.toArray:=λus hu=>by
   match us,hu with
   | [],_=>simp
   | [v],_=>simp
   | _::_::_,hu=>simp at hu;lia
  have eout:(arrOf (SortSt.mk' general' (vs.toArray.zip vs.toArray) #[] 7 none)).map (·.2)=vs.toArray:=eo vs h2
  rw[eout]
  refine AA0 (AD2 ho3 rfl ?_ (AAS _) (by rw[AAD,AC5];lia))
  simp only[show failedOf (SortSt.mk' general' (vs.toArray.zip vs.toArray) #[] 7 none)=none from rfl,bne_self_eq_false,AAE,if_false]
  refine AA2 ⟨_,rfl,AA2 ⟨_,rfl,?_⟩⟩
  obtain⟨c2,hc2⟩:∃c2,(g3.update g1.objs.size (ABA λ_=>vs.toArray)).get? g1.objs.size=some (seqObj "list" vs.toArray c2):=⟨_,ACY ho3 λ_=>vs.toArray⟩
  refine h g1.objs.size _ c2 (by lia) (λb o q=>?_) hc2
  have hb:b≠g1.objs.size:=AAM (by rw[hsz];exact ABs (AAH q))
  rw[ABt _ _ _ _ hb]
  exact k3 b o hb q
end
structure SrtOk(M:Mem)(xs:List D):Prop where
 len:xs.length<64
 ok:∀x∈xs,okP eqN x=true
 cm:∀x∈xs,∀y∈xs,iM M eqN x y=true
 kd:(∀x∈xs,∃z,x=.str z)\/(∀x∈xs,∃i,x=.int i)\/(∀x∈xs,∃z r,x=.tup (.str z::r))\/(∀x∈xs,∃i r,x=.tup (.int i::r))\/(∀x∈xs,∃z r,x=.tup (.tup z::r))
structure SrtG(M:Mem)(xs:List D):Prop where
 len:xs.length<64
 okd:∀x∈xs,okD M eqN x=true
 cm:∀x∈xs,∀y∈xs,iM M eqN x y=true
 kd:(∀x∈xs,∃z,x=.str z)\/(∀x∈xs,∃i,x=.int i)\/(∀x∈xs,∃z r,x=.tup (.str z::r))\/(∀x∈xs,∃i r,x=.tup (.int i::r))\/(∀x∈xs,∃z r,x=.tup (.tup z::r))
 od:∃en:D->List Int,∀a∈xs,∀b∈xs,ltD M eqN a b=decide (en a<en b)
theorem SrtOk.g(so:SrtOk M xs):SrtG M xs :=
 ⟨so.len,λx hx=>DJ M _ _ (so.ok x hx),so.cm,so.kd,enc eqN,λa ha b hb=>qw (so.ok a ha) (so.ok b hb) (so.cm a ha b hb)⟩
def Cu(M:Mem)(ys:List D):Prop:=ys.Pairwise λa b=>ltD M eqN b a=false
def jA:DRA:=λds M Q=>match ds with
 | [.ref n]=>∃xs,am M n xs/\SrtG M xs/\∀ys,ys.Perm xs->Cu M ys->Q (.ref M.length) (M++[.lst ys])
 | _=>False
theorem Reps.perm{K:AA4}{ρ:List Addr}{H:Hp}{ds:List D}{vs:List V}(r:Reps K ρ H ds vs)(is:List Nat)(hi:∀i∈is,i<ds.length):Reps K ρ H (is.map λi=>ds.getD i .non) (is.map λi=>vs.getD i .non):=by
 induction is with
 | nil=>exact .nil
 | cons i is ih =>
  have h:=hi i AAI
  obtain⟨v,e,rv⟩:=r.get (AA5 h)
  refine .cons ?_ (ih λj hj=>hi j (AAA _ hj))
  show Rep K ρ H (ds.getD i .non) (vs.getD i .non)
  rw[AAU,AAU,e,AA5 h]
  exact rv
theorem aw.perm(r:aw vs us)(is:List Nat)(hi:∀i∈is,i<vs.length):aw (is.map λi=>vs.getD i .non) (is.map λi=>us.getD i .none):=by
 induction is with
 | nil=>exact .nil
 | cons i is ih =>
  have h:=hi i AAI
  obtain⟨v,e,rv⟩:=gf r (AA5 h)
  refine .cons ?_ (ih λj hj=>hi j (AAA _ hj))
  show aL (vs.getD i .non) (us.getD i .none)
  rw[AAU,AAU,e,AA5 h]
  exact rv
instance:Inhabited D:=⟨.non⟩
section
variable{X:Cx}{pins:List (Addr×Obj)}{σ:St}{H:Hp}{s:Shared}{ρ:List Addr}{M:Mem}
theorem Bp:∀(o:HO),cF P w H h a o->∃u,h.get? a=some u
 | .lst _,⟨_,_,_,_,e⟩=>⟨_,e⟩
 | .tup _,⟨_,_,_,o,e,_⟩=>⟨o,e⟩
 | .dK _,⟨_,_,_,_,_,_,_,e,_⟩=>⟨_,e⟩
 | .dT _,⟨_,_,_,_,o,_,_,e,_⟩=>⟨o,e⟩
 | .set _ _,x=>by obtain⟨o,_,_,_,e,_⟩:=x;exact⟨_,e⟩
 | .ins _ _ _,⟨_,_,_,e,_⟩=>⟨_,e⟩
 | .own _,x=>x
 | .xd _,⟨_,⟨_,_,_,e,_⟩,_⟩=>⟨_,e⟩
 | .rng _ _,⟨_,_,_,e⟩=>⟨_,e⟩
 | .frz _ _,⟨e,_⟩=>⟨_,e⟩
 | .tbl _,e=>⟨_,e⟩
 | .met _ _,e=>⟨_,e⟩
 | .ext _,⟨_,e,_⟩=>e
theorem HOk.none(x:HOk P w H h)(e:h.get? a=none):H a=none:=by
 cases q:H a with
 | none=>rfl
 | some o =>
  exfalso
  obtain⟨u,hu⟩:=Bp o (x a o q)
  rw[e]at hu;cases hu
theorem Bs(I:Inv X pins σ H s)(sm:Sim X.K ρ M H)(n:Nat)(A:Around)(hu:A.units+n<cLine):∀(ds es:List D) (vs ws:List V) (its jts:List Value),Reps X.K ρ H ds vs->aw vs its->Reps X.K ρ H es ws->aw ws jts->ds.all (okD M n)=true->es.all (okD M n)=true ->
  xJ (eqD M n) (iM M n) ds es=true->LexAt A s its jts (qB (eqD M n) (ltD M n) ds es):=by
 intro ds
 induction ds with
 | nil =>
  intro es vs ws its jts p1 q1 p2 q2 _ _ _
  cases p1;cases q1
  cases p2 with
  | nil=>cases q2;exact .nn
  | cons _ _=>cases q2;exact .nc
 | cons d ds hi =>
  intro es vs ws its jts p1 q1 p2 q2 k1 k2 k3
  cases p1 with
  | cons a1 p1 =>
   cases q1 with
   | cons b1 q1 =>
    cases p2 with
    | nil=>cases q2;exact .cn
    | @cons e _ es' _ a2 p2 =>
     cases q2 with
     | cons b2 q2 =>
      rw[ABM,AAV]at k1 k2
      have he:=(iK I sm n A d _ _ _ _ _ hu a1 b1 a2 b2 k1.1 k2.1).1
      rw[qB]
      rw[xJ]at k3
      by_cases hq:eqD M n d e=true
      ·rw[hq]at he
       rw[if_pos hq]at k3 ⊢
       exact .eq he (hi _ _ _ _ _ p1 q1 p2 q2 k1.2 k2.2 k3)
      ·have hq':=ABL.mpr hq
       rw[hq']at he
       rw[if_neg hq]at k3 ⊢
       exact .ne he (zH I sm n A _ _ _ _ _ _ hu a1 b1 a2 b2 k1.1 k2.1 k3)
end
section
variable{prog:Program}{w:World}{A:Around}{s:Shared}{b:Bool}{Q:Bool->Shared->Prop}
theorem yQ(h:LexAt A s its jts k):∀(i:Nat),(b&&i==0)=false->(b&&i+1==0)=false->Q k s->KatLex prog w A b (decide (its.length<jts.length)) Q (its.zip jts) i s:=by
 have un:∀i:Nat,(b&&i+1==0)=false:=λi=>by cases b<;>simp
 induction h with
 | nn=>intro i _ _ q;exact q
 | nc=>intro i _ _ q;exact(show Q (decide (0<_+1)) s by rw[decide_eq_true (Nat.succ_pos _)];exact q)
 | cn=>intro i _ _ q;exact(show Q (decide (_+1<0)) s by rw[decide_eq_false (ABd _)];exact q)
 | @eq x y xs ys k he t ih =>
  intro i hb _ q
  refine kat_cons (he prog w _ _ (kat_yes ?_))
  have:=ih (i+1) (un i) (un (i+1)) q
  rw[show decide ((x::xs).length<(y::ys).length)=decide (xs.length<ys.length) by simp]
  exact this
 | @ne x y xs ys k he t =>
  intro i hb _ q
  refine kat_cons (he prog w _ _ (kat_no ?_))
  rw[hb]
  exact kat_one _ _ (t prog w _ _ q)
theorem wL(he:ACC A s p q e)(hl:e=false->∀Q':Bool->Shared->Prop,Q' l s->wpAny (model prog w) A (oneLt' (b&&0==0) p q) Q' (λ_ _=>False) s)(ht:e=true->LexAt A s its jts k)(h:Q (if e=true then k else l) s) :
  KatLex prog w A b (decide ((p::its).length<(q::jts).length)) Q ((p::its).zip (q::jts)) 0 s:=by
 refine kat_cons (he prog w _ _ ?_)
 cases e with
 | true =>
  refine kat_yes ?_
  rw[show decide ((p::its).length<(q::jts).length)=decide (its.length<jts.length) by simp]
  exact yQ (ht rfl) 1 (by cases b<;>rfl) (by cases b<;>rfl) h
 | false=>exact kat_no (hl rfl _ h)
end
section
variable{X:Cx}{pins:List (Addr×Obj)}{σ:St}{H:Hp}{s:Shared}{ρ:List Addr}{M:Mem}
theorem oK{M:Model}{h:Heap}{x:Str}{t:Tok}:Looks M h (typeOf (.str x t)) (.type "str"):=Looks.of_pure rfl
theorem oM{M:Model}{h:Heap}{x:Int}{t:Tok}:Looks M h (typeOf (.int x t)) (.type "int"):=Looks.of_pure rfl
theorem Reps.getD'(r:Reps X.K ρ H ds vs)(rr:aw vs its)(h:i<ds.length):∃v,Rep X.K ρ H (ds.getD i default) v/\aL v (its.getD i .none)/\ds.getD i default∈ds:=by
 obtain⟨v,e,rv⟩:=r.get (AA5 h)
 obtain⟨u,e',ru⟩:=gf rr e
 refine⟨v,?_,?_,?_⟩
 ·rw[AAU,AA5 h];exact rv
 ·rw[AAU,e'];exact ru
 ·rw[AAU,AA5 h];exact AB8 h
theorem Reps.mem(r:Reps X.K ρ H ds vs)(rr:aw vs its)(h:u∈its):∃d v,d∈ds/\Rep X.K ρ H d v/\aL v u:=by
 induction ds generalizing vs its with
 | nil=>cases r;cases rr;cases h
 | cons d0 ds ih =>
  cases r with
  | cons r1 r =>
   cases rr with
   | cons q1 q =>
    rcases(AAN (a:=u)).mp h with rfl | h
    ·exact⟨_,_,AAI,r1,q1⟩
    ·obtain⟨d,v,h1,h2,h3⟩:=ih r q h
     exact⟨d,v,AAA _ h1,h2,h3⟩
theorem qI(I:Inv X pins σ H s)(r:Reps X.K ρ H xs ws)(rr:aw ws its)(hx:∀x∈xs,∃f r,x=.tup (f::r)) :
  ∃fs,KatTups s.heap its fs/\fs.length=its.length/\∀u∈fs,∃d v,Rep X.K ρ H d v/\aL v u/\∃r,D.tup (d::r)∈xs:=by
 induction xs generalizing ws its with
 | nil=>cases r;cases rr;exact⟨[],.nil,rfl,λ_ z=>nomatch z⟩
 | cons d ds ih =>
  cases r with
  | cons r1 r =>
   cases rr with
   | cons q1 q =>
    obtain⟨fs,h1,h2,h3⟩:=ih r q λx hx'=>hx x (AAA _ hx')
    obtain⟨f,aI,rfl⟩:=hx d AAI
    cases r1 with
    | tup hq rs =>
     cases q1
     obtain⟨its,rv,pl,hz⟩:=I.tuple hq
     cases rs with
     | cons a1 rs =>
      cases rv with
      | cons b1 rv =>
       obtain⟨o,ho,hc,n,hd⟩:=pl
       refine⟨_::fs,.cons ho hc hd rfl h1,by simp[h2],λu hu=>?_⟩
       rcases AAN.mp hu with rfl | hu
       ·exact⟨_,_,a1,b1,_,AAI⟩
       ·obtain⟨d,v,e1,e2,r',e3⟩:=h3 u hu
        exact⟨d,v,e1,e2,r',AAA _ e3⟩
def ltc(M:Mem)(xs:List D)(i j:Nat):Bool:=ltD M eqN (xs.getD i default) (xs.getD j default)
theorem jv(I:Inv X pins σ H s)(sm:Sim X.K ρ M H){xs:List D}{ws:List V}{its:List Value}(so:SrtG M xs)(r:Reps X.K ρ H xs ws)(rr:aw ws its)(h2:2<=its.length){A:Around}(hu:A.units+eqN<cLine) :
  wpAny (model X.prog X.w) A (keyKind' its.toArray) (λκ s'=>s'=s/\∀i j (C:Bool->Shared->Prop),i<its.length->j<its.length->C (ltc M xs i j) s->kas_ask X.prog X.w A κ its i j C s) (λ_ _=>False) s:=by
 have lw:=r.length
 have li:=rr.length
 have le:xs.length=its.length:=by lia
 have tups:∀(b:Bool),(∀x∈xs,∃f r,x=.tup (f::r))->(∀(f g:D) (vf vg:V) (p q:Value) (r r':List D),D.tup (f::r)∈xs->D.tup (g::r')∈xs->Rep X.K ρ H f vf->aL vf p->Rep X.K ρ H g vg->aL vg q ->
   (eqD M 29 f g=false->∀Q':Bool->Shared->Prop,Q' (ltD M 29 f g) s->wpAny (model X.prog X.w) A (oneLt' (b&&0==0) p q) Q' (λ_ _=>False) s)) ->
   ∀i j (C:Bool->Shared->Prop),i<its.length->j<its.length->C (ltc M xs i j) s->kas_ask X.prog X.w A (tuples' b) its i j C s:=by
  intro b hx hone i j C hi hj hc
  unfold kas_ask
  obtain⟨v1,r1,e1,m1⟩:=r.getD' rr (show i<xs.length by lia)
  obtain⟨v2,r2,e2,m2⟩:=r.getD' rr (show j<xs.length by lia)
  unfold ltc at hc
  have k1:=so.okd _ m1
  have k2:=so.okd _ m2
  have k3:=so.cm _ m1 _ m2
  generalize xs.getD i default=x at *
  generalize xs.getD j default=y at *
  obtain⟨f,rf,rfl⟩:=hx _ m1
  obtain⟨g,rg,rfl⟩:=hx _ m2
  cases r1 with
  | tup hq rs =>
   cases r2 with
   | tup hq' rs' =>
    generalize its.getD i .none=u1 at *
    generalize its.getD j .none=u2 at *
    cases e1;cases e2
    obtain⟨as,ra,pa,_⟩:=I.tuple hq
    obtain⟨bs,rb,pb,_⟩:=I.tuple hq'
    obtain⟨o,ho,_,n,hd⟩:=pa
    obtain⟨o',ho',_,n',hd'⟩:=pb
    refine kat_lt ho hd ho' hd' ?_
    cases rs with
    | cons a1 rs =>
     cases ra with
     | @cons _ p _ la b1 ra =>
      cases rs' with
      | cons a2 rs' =>
       cases rb with
       | @cons _ q _ lb b2 rb =>
        have hu':A.units+29<cLine:=by have:eqN=30:=rfl;lia
        have z1:okD M 29 f=true/\rf.all (okD M 29)=true:=by
         have:(f::rf).all (okD M 29)=true:=k1
         rwa [ABM,AAV]at this
        have z2:okD M 29 g=true/\rg.all (okD M 29)=true:=by
         have:(g::rg).all (okD M 29)=true:=k2
         rwa [ABM,AAV]at this
        have z3:(if eqD M 29 f g=true then xJ (eqD M 29) (iM M 29) rf rg else iM M 29 f g)=true:=k3
        have he:=(iK I sm 29 A _ _ _ _ _ _ hu' a1 b1 a2 b2 z1.1 z2.1).1
        have hc':C (if eqD M 29 f g=true then qB (eqD M 29) (ltD M 29) rf rg else ltD M 29 f g) s:=hc
        cases hq3:eqD M 29 f g with
        | true =>
         rw[hq3]at he hc' z3
         have:=wL (prog:=X.prog) (w:=X.w) (b:=b) (Q:=C) (l:=true) he (λz=>nomatch z) (λ_=>Bs I sm 29 A hu' _ _ _ _ _ _ rs ra rs' rb z1.2 z2.2 z3) hc'
         simpa using this
        | false =>
         rw[hq3]at he hc'
         have:=wL (prog:=X.prog) (w:=X.w) (b:=b) (Q:=C) (l:=ltD M 29 f g) (its:=la) (jts:=lb) (k:=true) he (λ_=>hone f g _ _ _ _ _ _ m1 m2 a1 b1 a2 b2 hq3) (λz=>nomatch z) hc'
         simpa using this
 have fin:∀(κ:SortKind),(∀i j (C:Bool->Shared->Prop),i<its.length->j<its.length->C (ltc M xs i j) s->kas_ask X.prog X.w A κ its i j C s)->(s=s/\∀i j (C:Bool->Shared->Prop),i<its.length->j<its.length->C (ltc M xs i j) s->kas_ask X.prog X.w A κ its i j C s):=λκ h=>⟨rfl,h⟩
 have eqn:A.units+29<cLine:=by have:eqN=30:=rfl;lia
 rcases so.kd with hk | hk | hk | hk | hk
 ·refine kas_kind (T:=.type "str") h2 (λu hu=>?_) (by decide) (by decide) (fin _ λi j C hi hj hc=>?_)
  ·obtain⟨d,v,m1,r1,e1⟩:=r.mem rr hu
   obtain⟨z,rfl⟩:=hk d m1
   cases r1
   obtain⟨t,rfl⟩:=e1
   exact oK
  ·unfold kas_ask
   obtain⟨v1,r1,e1,m1⟩:=r.getD' rr (show i<xs.length by lia)
   obtain⟨v2,r2,e2,m2⟩:=r.getD' rr (show j<xs.length by lia)
   unfold ltc at hc
   obtain⟨z,hz⟩:=hk _ m1
   obtain⟨z',hz'⟩:=hk _ m2
   rw[hz]at r1 hc
   rw[hz']at r2 hc
   cases r1;cases r2
   obtain⟨t,h1⟩:=e1
   obtain⟨t',h2⟩:=e2
   rw[h1,h2]
   exact kas_lt_str hc
 ·refine kas_kind (T:=.type "int") h2 (λu hu=>?_) (by decide) (by decide) (fin _ λi j C hi hj hc=>?_)
  ·obtain⟨d,v,m1,r1,e1⟩:=r.mem rr hu
   obtain⟨z,rfl⟩:=hk d m1
   cases r1
   obtain⟨t,rfl⟩:=e1
   exact oM
  ·unfold kas_ask
   obtain⟨v1,r1,e1,m1⟩:=r.getD' rr (show i<xs.length by lia)
   obtain⟨v2,r2,e2,m2⟩:=r.getD' rr (show j<xs.length by lia)
   unfold ltc at hc
   obtain⟨z,hz⟩:=hk _ m1
   obtain⟨z',hz'⟩:=hk _ m2
   rw[hz]at r1 hc
   rw[hz']at r2 hc
   cases r1;cases r2
   obtain⟨t,h1⟩:=e1
   obtain⟨t',h2⟩:=e2
   rw[h1,h2]
   exact kat_lt_int hc
 ·obtain⟨fs,t1,t2,t3⟩:=qI I r rr λx hx=>(hk x hx).elim λz ⟨r,e⟩=>⟨_,_,e⟩
  refine kat_kind (T:=.type "str") t1 (by lia) (λu hu=>?_) (by decide) (fin _ (tups _ (λx hx=>(hk x hx).elim λz ⟨r,e⟩=>⟨_,_,e⟩) λf g vf vg p q r r' m1 m2 r1 e1 r2 e2 hq Q' h=>?_))
  ·obtain⟨d,v,r1,e1,r',m1⟩:=t3 u hu
   obtain⟨z,r'',e⟩:=hk _ m1
   cases e
   cases r1
   obtain⟨t,rfl⟩:=e1
   exact oK
  ·obtain⟨z,_,e⟩:=hk _ m1
   cases e
   obtain⟨z',_,e'⟩:=hk _ m2
   cases e'
   cases r1;cases r2
   obtain⟨t,rfl⟩:=e1
   obtain⟨t',rfl⟩:=e2
   exact oneLt_str h
 ·obtain⟨fs,t1,t2,t3⟩:=qI I r rr λx hx=>(hk x hx).elim λz ⟨r,e⟩=>⟨_,_,e⟩
  refine kat_kind (T:=.type "int") t1 (by lia) (λu hu=>?_) (by decide) (fin _ (tups _ (λx hx=>(hk x hx).elim λz ⟨r,e⟩=>⟨_,_,e⟩) λf g vf vg p q r r' m1 m2 r1 e1 r2 e2 hq Q' h=>?_))
  ·obtain⟨d,v,r1,e1,r',m1⟩:=t3 u hu
   obtain⟨z,r'',e⟩:=hk _ m1
   cases e
   cases r1
   obtain⟨t,rfl⟩:=e1
   exact oM
  ·obtain⟨z,_,e⟩:=hk _ m1
   cases e
   obtain⟨z',_,e'⟩:=hk _ m2
   cases e'
   cases r1;cases r2
   obtain⟨t,rfl⟩:=e1
   obtain⟨t',rfl⟩:=e2
   exact oneLt_int h
 ·obtain⟨fs,t1,t2,t3⟩:=qI I r rr λx hx=>(hk x hx).elim λz ⟨r,e⟩=>⟨_,_,e⟩
  refine kat_kind (T:=.type "tuple") t1 (by lia) (λu hu=>?_) (by decide) (fin _ (tups _ (λx hx=>(hk x hx).elim λz ⟨r,e⟩=>⟨_,_,e⟩) λf g vf vg p q r r' m1 m2 r1 e1 r2 e2 hq Q' h=>?_))
  ·obtain⟨d,v,r1,e1,r',m1⟩:=t3 u hu
   obtain⟨z,r'',e⟩:=hk _ m1
   cases e
   cases r1 with
   | tup hq rs =>
    cases e1
    obtain⟨_,_,pl,_⟩:=I.tuple hq
    obtain⟨o,ho,hc,_⟩:=pl
    rw[←hc]
    exact(show Looks _ s.heap (typeOf (.ref _)) o.cls from(Looks.ld ho).andThen .now)
  ·have k1:okD M 29 f=true:=by
    have:(f::r).all (okD M 29)=true:=so.okd _ m1
    rw[ABM,AAV]at this
    exact this.1
   have k2:okD M 29 g=true:=by
    have:(g::r').all (okD M 29)=true:=so.okd _ m2
    rw[ABM,AAV]at this
    exact this.1
   have k3:(if eqD M 29 f g=true then xJ (eqD M 29) (iM M 29) r r' else iM M 29 f g)=true:=so.cm _ m1 _ m2
   rw[hq]at k3
   exact kat_one _ _ (zH I sm 29 A _ _ _ _ _ _ eqn r1 e1 r2 e2 k1 k2 k3 _ _ _ _ h)
end
section
variable{X:Cx}{pins:List (Addr×Obj)}{σ:St}{H:Hp}{s:Shared}{ρ:List Addr}{M:Mem}
theorem Bg(so:SrtG M xs):(∀a∈xs,ltD M eqN a a=false)/\(∀a∈xs,∀b∈xs,∀d∈xs,ltD M eqN a b=true->ltD M eqN b d=true->ltD M eqN a d=true)/\∀a∈xs,∀b∈xs,∀d∈xs,ltD M eqN a d=true->ltD M eqN a b=true\/ltD M eqN b d=true:=by
 obtain⟨en,e⟩:=so.od
 refine⟨λa ha=>?_,λa ha b hb d hd h1 h2=>?_,λa ha b hb d hd h=>?_⟩
 ·rw[e a ha a ha,decide_eq_false (ABG _)]
 ·rw[e a ha b hb,decide_eq_true_eq]at h1
  rw[e b hb d hd,decide_eq_true_eq]at h2
  rw[e a ha d hd,decide_eq_true_eq]
  exact List.lt_trans h1 h2
 ·rw[e a ha d hd,decide_eq_true_eq]at h
  rw[e a ha b hb,e b hb d hd,decide_eq_true_eq,decide_eq_true_eq]
  by_cases z:en a<en b
  ·exact .inl z
  ·have z':en b<=en a:=z
   exact .inr (List.lt_of_le_of_lt z' h)
theorem xU{k:Nat}{l:Addr}{xs:List D}{ws:List V}{its:List Value}{R:VK}(hr:Room k X.A)(I:Inv X pins σ H s)(sm:Sim X.K ρ M H)(so:SrtG M xs)(r:Reps X.K ρ H xs ws)(rr:aw ws its)(hl:s.heap.IsList l its.toArray)(hz:ws.length<=sizeLine)(h2:2<=its.length)(h64:its.length<64)
  (hne:l≠X.env.locals) (kk:∀v H',((∀Q:DK,(∀ys,ys.Perm xs->Cu M ys->Q (.ref M.length) (M++[.lst ys]))->VQ X.K ρ H Q v H'))->R v H') :
  wpAny (model X.prog X.w) X.A (call (.builtin "sorted") [.ref l]) (EP X pins σ R) X.xe s:=by
 obtain⟨m,hn,hm⟩:=I.loc
 have lw:=r.length
 have li:=rr.length
 obtain⟨ol,hol,_⟩:=id hl
 have mem:∀a o,(a,o)∈[]++(l,ol)::Att.ledger s.heap X.env.locals l↔a≠X.env.locals/\s.heap.get? a=some o:=λa o=>by
  rw[AAx,AAN,Att.mem_ledger]
  constructor
  ·rintro(h | ⟨h1,_,h3⟩)
   ·cases h;exact⟨hne,hol⟩
   ·exact⟨h1,h3⟩
  ·rintro⟨h1,h2⟩
   by_cases hal:a=l
   ·subst hal
    rw[hol]at h2;cases h2
    exact .inl rfl
   ·exact .inr ⟨h1,hal,h2⟩
 refine kat_sorted (Att.fr_all hn) (Att.news_ledger hne hol) hl h2 h64 λD e1 h' F' N' lt=>?_
 have kp:∀b u,b≠X.env.locals->s.heap.get? b=some u->h'.get? b=some u:=λb u hb e=>(N' (b,u) (AAA _ ((mem b u).mpr ⟨hb,e⟩))).1
 have hDL:D≠X.env.locals:=(N' _ AAI).2.1
 have hD:s.heap.get? D=none:=by
  cases q:s.heap.get? D with
  | none=>rfl
  | some o=>exact absurd (lt (D,o) ((mem D o).mpr ⟨hDL,q⟩)) (AAn _)
 have I':Inv X pins σ H { s with heap:=h' }:=I.keptF (t':=s.toks) kp hn F'.ns
 have hu:X.A.in1.in1.units+eqN<cLine:=by
  have:=hr.un
  have:eqN=30:=rfl
  show X.A.units+1+1+eqN<cLine
  lia
 refine AB7 (jv I' sm so r rr h2 hu) (λκ s' hk=>?_) λ_ _ x=>x
 obtain⟨rfl,hask⟩:=hk
 refine Srt.wp_run (n:=its.length) (c:=λi j=>if i<xs.length then(if j<xs.length then ltD M eqN (xs.getD i default) (xs.getD j default)else true)else false) (λi j C hi hj hc=>?_) _ (Srt.sort_bd (by lia)).1 ?_
 ·refine hask i j C hi hj ?_
  rw[if_pos (by lia),if_pos (by lia)]at hc
  exact hc
 ·have hent:=Srt.All.run (c:=λi j=>if i<xs.length then(if j<xs.length then ltD M eqN (xs.getD i default) (xs.getD j default)else true)else false) _ (Srt.sort_bd (n:=its.length) (by lia)).2
  obtain⟨o1,o2,o3⟩:=Bg so
  have hsl:=Srt.sort_list xs (by lia) o1 o2 o3
  try dsimp only at hsl
  rw[show xs.length=its.length by lia]at hsl hent ⊢
  generalize Srt.run _ (ADs its.length)=p at hent hsl ⊢
  have hi:∀i∈p.toList,i<xs.length:=λi h=>by
   have:=hent.mem_iff.mp h
   rw[AB1]at this
   lia
  refine KasFin.intro F' N' (UpdF.head λq hq=>AAM (lt q hq)) λh2 c F2 N2=>?_
  have r':=r.perm p.toList hi
  have rr':=rr.perm p.toList (λi h=>by have:=hi i h;lia)
  have hD':H D=none:=HOk.none I.hok hD
  refine⟨.ref D,_,I.laidF (t':=s.toks) (o:=.lst (p.toList.map λi=>ws.getD i .non)) (λb u hb e=>(N2 (b,u) (AAA _ ((mem b u).mpr ⟨hb,e⟩))).1) hn F2.ns hD hD' ⟨?_,_,c,rr',(N2 _ AAI).1⟩,rfl,
   kk _ _ λQ hQ=>VQ.laidL sm .refl r' hD' (hQ _ hsl.1 hsl.2)⟩
  rw[AA6]
  have:=hsl.1.length_eq
  rw[AA6]at this
  lia
end
theorem Inv.sqL_ne(I:Inv X pins σ H s)(h:SqL X.K H a xs):a≠X.env.locals:=by
 rcases h with h | ⟨o,its,n,hk,_⟩
 ·rcases h with h | ⟨_,h⟩
  ·exact ad h I.free
  ·exact ad h I.free
 ·have:=AAH (I.mod.kin a o hk)
  exact AAM (AAZ this (AAy I.ok.bsz I.ok.above))
section
variable{X:Cx}
theorem xw(hr:Room k X.A):pR X (.builtin "sorted") jA:=by
 intro pins s σ H vs us R I rv ⟨ds,M,ρ,Q,sm,rs,q,kk⟩
 unfold jA at q
 split at q
 ·obtain⟨xs,hL,so,q⟩:=q
  cases rs with
  | cons r1 rs =>
   cases rs
   obtain⟨u,rfl,e1⟩:=aw.one rv
   cases r1 with
   | ref e =>
    cases e1
    obtain⟨ws,hq,r⟩:=am.seq sm hL e
    obtain⟨its,rr,pl,hz⟩:=I.list hq
    have lw:=r.length
    have li:=rr.length
    by_cases h2:its.length<2
    ·refine om pl.isList h2 λD h' n hD hk ho=>?_
     refine⟨.ref D,_,I.laid (t':=s.toks) (o:=.lst ws) hk hD ⟨hz,its,n,rr,ho⟩,rfl,kk _ _ (VQ.laidL sm .refl r (I.hok.fresh hD) (q xs (ACl _) ?_))⟩
     unfold Cu
     match xs,(show xs.length<2 by lia) with
     | [],_=>exact ACy
     | [x],_=>exact ADW _ _
     | _::_::_,hx=>simp at hx;lia
    ·have h2':2<=its.length:=by lia
     have h64:its.length<64:=by have:=so.len;lia
     exact xU hr I sm so r rr pl.isList hz h2' h64 (I.sqL_ne hq) λv H' x=>kk v H' (x Q q)
 ·exact q.elim
end
end L2
namespace L2
open PySem PySem.Spec PyProof.Rows DL PySem.W
section
variable{prog:Program}{w:World}{A:Around}{E:Value->Shared->Prop}{s:Shared}
end
structure ZA(z TI TO i1 i2:Addr)(f1 f2:List Addr):Prop where
 nd:[z,TI,TO,i1,i2].Nodup
 z1:z∉f1
 o1:TO∉f1
 y1:i2∉f1
 z2:z∉f2
 o2:TO∉f2
 x2:i1∉f2
section
variable{prog:Program}{w:World}{A:Around}{E:Value->Shared->Prop}{s:Shared}{z TI TO i1 i2:Addr}{f1 f2:List Addr}{n1 n2 k:Nat}{P1 P2:Nat->Value->Prop}{S1 S2:Nat->Heap->Prop}{a b:Value}
end
section
variable{X:Cx}{pins:List (Addr×Obj)}{σ:St}{H:Hp}{s:Shared}{h':Heap}
theorem Inv.turnedL{t':Nat}{fp:List Addr}(I:Inv X pins σ H s)(hf:∀b∈fp,uA X pins H b)(k:∀b o,b∉fp->s.heap.get? b=some o->h'.get? b=some o):Inv X pins σ H { s with heap:=h',toks:=t' }:=by
 have nfp:∀b u,H b=some u->b∉fp:=λb u e z=>by rw[(hf b z).1]at e;cases e
 refine I.step (g':=s.gens) (d':=s.drawn) (ch:=fp) (λb hb=>⟨(hf b hb).2.2.2.1,(hf b hb).2.1,(hf b hb).2.2.2.2.1,(hf b hb).2.2.2.2.2⟩) (λb o _ _ hc e _=>k b o hc e) (λb o _ _ hc e _=>⟨o.slots,k b o hc e⟩) (λ_ _ _ _ n=>n)
  (λb o hc e=>⟨o,k b o hc e⟩) (λ_ _ e=>e) (λ_ _ _ e=>e) (λb ps e=>⟨#[],by rw[e];simp⟩) (λm hm=>?_) (λb u e=>?_) I.bare
 ·obtain⟨o,es,ep,ho,r⟩:=hm
  exact⟨o,es,ep,k _ o (λz=>(hf _ z).2.1 rfl) ho,r⟩
 ·refine(I.hok b u e).stay (λc v hc q=>k c v ?_ q) (λ_ q=>q) λ_ _ q=>q
  rcases hc with rfl | z
  ·exact nfp _ u e
  ·exact nfp _ _ z
end
section
variable{prog:Program}{w:World}{A:Around}{E:Value->Shared->Prop}{s:Shared}
end
def zipD(xs ys:List D):List D:=(xs.zip ys).map λp=>.tup [p.1,p.2]
def RowAt(M:Mem)(x:D)(xs:List D)(ok:Mem->Prop):Prop:=match x with
 | .tup ds=>xs=ds/\ok=λ_=>True
 | .ref n=>am M n xs/\ok=λM=>am M n xs
 | _=>False
section
variable{X:Cx}
end
end L2
namespace L2
open PySem PySem.Spec PyProof.Rows DL PySem.W
section
variable{X:Cx}{e:Expr}{te:DTE}{pos p2:Pos}
end
section
variable{X:Cx}
end
end L2
namespace L2
open PySem PySem.Spec PyProof.Rows DL PySem.W
section
variable{prog:Program}{w:World}{A:Around}{E:Value->Shared->Prop}{s:Shared}
theorem qz{D:Addr}{vs:List Value}{n:Nat}{Q:Value->Shared->Prop}(ho:s.heap.get? D=some (seqObj "list" vs.toArray n))(h2:vs.length<2)
  (h:∀h' c,(∀b o,b≠D->s.heap.get? b=some o->h'.get? b=some o)->h'.get? D=some (seqObj "list" vs.toArray c)->Q .none { s with heap:=h' }):wpAny (model prog w) A (call (.builtin "list.sort") [.ref D]) Q E s:=by
 have few:vs.length<=sizeLine:=by rw[AC5];lia
 refine AAt slot_list_sort (⟨_,ho,rfl⟩) entry_list_sort ?_ (args_list_sort (.ref D))
 rw[list_sort_plain]
 refine AA0 (ADu ho rfl (AA0 (AD2 ho rfl ?_ (by rw[AAD];exact few) (AAS _))))
 obtain⟨e1,ho1⟩:∃e1,(s.heap.update D (ABA λ_=>(#[]:Array Value))).get? D=some (seqObj "list" #[] e1):=⟨_,ACY ho λ_=>#[]⟩
 refine AA0 (seqEpoch_at ho1 rfl (AA0 (wpAny_newTuple (AA0 (AD1 (AAh ?_) (AAS _))) few)))
 dsimp only
 have hv2:vs.toArray.size<2:=by rw[AAD];exact h2
 rw[if_pos hv2,if_pos hv2]
 refine AA0 (AA2 ?_)
 rw[StateT.run_pure]
 refine AA0 (AA2 ?_)
 dsimp only
 generalize hg3:((s.heap.update D (ABA λ_=>(#[]:Array Value))).push (seqObj "tuple" vs.toArray 0)).push (seqObj "list" #[] 0)=g3
 have ho3:g3.get? D=some (seqObj "list" #[] e1):=by rw[←hg3];exact AA3 _ (AA3 _ ho1)
 have k3:∀b o,b≠D->s.heap.get? b=some o->g3.get? b=some o:=λb o hb q=>by
  rw[←hg3]
  refine AA3 _ (AA3 _ ?_)
  rw[ABt _ _ _ _ hb]
  exact q
 refine AA0 (seqEpoch_at ho3 rfl ?_)
 have eo:∀us:List Value,us.length<2->(us.toArray.zip us.toArray).map (·.2)=us.toArray:=λus hu=>by
  match us,hu with
  | [],_=>simp
  | [v],_=>simp
  | _::_::_,hu=>simp at hu;lia
 have eout:(arrOf (SortSt.mk' general' (vs.toArray.zip vs.toArray) #[] 7 none)).map (·.2)=vs.toArray:=eo vs h2
 rw[eout]
 refine AA0 (AD2 ho3 rfl ?_ (AAS _) (by rw[AAD];exact Nat.le_succ_of_le few))
 simp only[show failedOf (SortSt.mk' general' (vs.toArray.zip vs.toArray) #[] 7 none)=none from rfl,bne_self_eq_false,AAE,if_false]
 obtain⟨c2,hc2⟩:∃c2,(g3.update D (ABA λ_=>vs.toArray)).get? D=some (seqObj "list" vs.toArray c2):=⟨_,ACY ho3 λ_=>vs.toArray⟩
 refine AA2 ⟨_,rfl,h _ c2 (λb o hb q=>?_) hc2⟩
 rw[ABt _ _ _ _ hb]
 exact k3 b o hb q
end
section
variable{X:Cx}{pins:List (Addr×Obj)}{σ:St}{H:Hp}{s:Shared}{ρ:List Addr}{M:Mem}
theorem AC{k:Nat}{D:Addr}{xs:List L2.D}{ws:List V}{its:List Value}{R:VK}{h1:Heap}{tk n:Nat}{m:Str->Option Value}{A:Around}{E:Value->Shared->Prop}(hr:Room k X.A)(hA:A.units<=X.A.units+4)(I:Inv X pins σ H s)(sm:Sim X.K ρ M H)(so:SrtG M xs)(r:Reps X.K ρ H xs ws)(rr:aw ws its)
  (hn:s.heap.Ns X.env.locals m) (hn1:h1.Ns X.env.locals m) (kp1:∀b u,b≠X.env.locals->s.heap.get? b=some u->h1.get? b=some u) (hD:s.heap.get? D=none) (hne:D≠X.env.locals) (ho:h1.get? D=some (seqObj "list" its.toArray n))
  (kk:∀v H',((∀Q:DK,(∀ys,ys.Perm xs->Cu M ys->Q (.ref M.length) (M++[.lst ys]))->VQ X.K ρ H Q v H'))->R v H') :
  wpAny (model X.prog X.w) A (call (.builtin "list.sort") [.ref D]) (λ_ s'=>EP X pins σ R (.ref D) s') E { s with heap:=h1,toks:=tk }:=by
 have lw:=r.length
 have li:=rr.length
 have l64:=so.len
 have hH:H D=none:=HOk.none I.hok hD
 have neD:∀b u,s.heap.get? b=some u->b≠D:=λb u e q=>by subst q;rw[hD]at e;cases e
 by_cases h2:its.length<2
 ·refine qz ho h2 λh' c kp' ho'=>?_
  have hn':h'.Ns X.env.locals m:=by
   obtain⟨o,es,ep,e,aI⟩:=hn1
   exact⟨o,es,ep,kp' _ _ (ABC hne) e,aI⟩
  refine⟨.ref D,_,I.laidF (t':=tk) (o:=.lst ws) (λb u hb e=>kp' b u (neD b u e) (kp1 b u hb e)) hn hn' hD hH ⟨by rw[AC5];lia,its,c,rr,ho'⟩,rfl,kk _ _ λQ hQ=>VQ.laidL sm .refl r hH (hQ xs (ACl _) ?_)⟩
  unfold Cu
  match xs,(show xs.length<2 by lia) with
  | [],_=>exact ACy
  | [x],_=>exact ADW _ _
  | _::_::_,hx=>simp at hx;lia
 ·have h2':2<=its.length:=by lia
  have mem:∀a o,(a,o)∈Att.ledger h1 X.env.locals D↔a≠X.env.locals/\a≠D/\h1.get? a=some o:=λa o=>Att.mem_ledger
  have U:UpdF D (seqObj "list" its.toArray n) ([]++(D,seqObj "list" its.toArray n)::Att.ledger h1 X.env.locals D) λo'=>(D,o')::Att.ledger h1 X.env.locals D:=UpdF.head λp hp=>((mem p.1 p.2).mp hp).2.1
  refine kat_lsort (s:={ s with heap:=h1,toks:=tk }) (vs:=its) (Att.fr_all hn1) (Att.news_ledger hne ho) U rfl h2' (by lia) λe1 h' F' N'=>?_
  have kp:∀b u,b≠X.env.locals->s.heap.get? b=some u->h'.get? b=some u:=λb u hb e=>(N' (b,u) (AAA _ ((mem b u).mpr ⟨hb,neD b u e,kp1 b u hb e⟩))).1
  have I':Inv X pins σ H { s with heap:=h',toks:=tk }:=I.keptF (t':=tk) kp hn F'.ns
  have hu:A.in1.units+eqN<cLine:=by
   have:=hr.un
   have:eqN=30:=rfl
   show A.units+1+eqN<cLine
   lia
  refine AB7 (jv I' sm so r rr h2' hu) (λκ s' hk=>?_) λ_ _ x=>x
  obtain⟨rfl,hask⟩:=hk
  refine Srt.wp_run (n:=its.length) (c:=λi j=>if i<xs.length then(if j<xs.length then ltD M eqN (xs.getD i default) (xs.getD j default)else true)else false) (λi j C hi hj hc=>?_) _ (Srt.sort_bd (by lia)).1 ?_
  ·refine hask i j C hi hj ?_
   rw[if_pos (by lia),if_pos (by lia)]at hc
   exact hc
  ·have hent:=Srt.All.run (c:=λi j=>if i<xs.length then(if j<xs.length then ltD M eqN (xs.getD i default) (xs.getD j default)else true)else false) _ (Srt.sort_bd (n:=its.length) (by lia)).2
   obtain⟨o1,o2,o3⟩:=Bg so
   have hsl:=Srt.sort_list xs (by lia) o1 o2 o3
   try dsimp only at hsl
   rw[show xs.length=its.length by lia]at hsl hent ⊢
   generalize Srt.run _ (ADs its.length)=p at hent hsl ⊢
   have hi:∀i∈p.toList,i<xs.length:=λi h=>by
    have:=hent.mem_iff.mp h
    rw[AB1]at this
    lia
   refine KasFin.intro F' N' (UpdF.head λq hq=>((mem q.1 q.2).mp hq).2.1) λh2 c F2 N2=>?_
   have r':=r.perm p.toList hi
   have rr':=rr.perm p.toList (λi h=>by have:=hi i h;lia)
   refine⟨.ref D,_,I.laidF (t':=tk) (o:=.lst (p.toList.map λi=>ws.getD i .non)) (λb u hb e=>(N2 (b,u) (AAA _ ((mem b u).mpr ⟨hb,neD b u e,kp1 b u hb e⟩))).1) hn F2.ns hD hH ⟨?_,_,c,rr',(N2 _ AAI).1⟩,rfl,
    kk _ _ λQ hQ=>VQ.laidL sm .refl r' hH (hQ _ hsl.1 hsl.2)⟩
   rw[AA6]
   have:=hsl.1.length_eq
   rw[AA6]at this
   rw[AC5]
   lia
end
section
variable{K:AA4}{ρ:List Addr}{H:Hp}{M:Mem}
theorem Sim.laidM(S:Sim K ρ M H)(hp:H p=none)(ok:uz K (ρ++[p]) (upd H p o) p mo):Sim K (ρ++[p]) (M++[mo]) (upd H p o):=by
 have g:Grow K ρ H (ρ++[p]) (upd H p o):=Grow.laidR hp
 have old:∀(n:Nat),ρ[n]?=some p->isK M[n]?:=λn e=>by
  rcases S.tracked e with⟨o,q⟩ | q
  ·rw[hp]at q;cases q
  ·exact q
 refine⟨λn m a hnm e1 e2=>?_,by rw[AAB,AAB,S.len];rfl,λn a mo' e1 e2=>?_⟩
 ·rcases aQ e1 with f1 | ⟨f1,g1⟩
  ·rcases aQ e2 with f2 | ⟨f2,g2⟩
   ·exact(S.nd n m a hnm f1 f2).elim (λz=>.inl z.more) λz=>.inr z.more
   ·subst g2
    exact .inl (old n f1).more
  ·rcases aQ e2 with f2 | ⟨f2,g2⟩
   ·subst g1
    exact .inr (old m f2).more
   ·exact absurd (f1.trans f2.symm) hnm
 ·rcases aQ e1 with f1 | ⟨f1,g1⟩
  ·have hn:n<M.length:=by rw[←S.len];exact(AA7.mp f1).1
   rw[AAP hn]at e2
   exact(S.obj n a mo' f1 e2).grow g (S.keeps hp f1 e2)
  ·subst g1 f1
   rw[S.len,AAg (AA8 _),ADL]at e2
   simp at e2
   subst e2
   exact ok
end
section
variable{X:Cx}{o i value:Expr}{td ty tv:DTE}{pos pos':Pos}
end
end L2
namespace L2
open PySem PySem.Spec PyProof.Rows DL PySem.W
structure HGs(X:Cx)(es:List Expr)(t:Aq):Prop where
 ok:DGs X es t
section
variable{X:Cx}{e a b c o i tg:Expr}{es aI:List Expr}{te ta tb tc to ti:DTE}{t:DTA}{pos p p2 pos':Pos}{x:Str}{k:Nat}{g:DTG}{u:Aq}{name:Str}{apos cpos:Pos}
theorem wI:HGs X [] qS:=⟨BY⟩
theorem sI(h1:HG X e g)(h2:HGs X es u)(hs:(assignEach (e::es) X.env).map (·.2)=assign e X.env::(assignEach es X.env).map (·.2):=by kernel_rfl):HGs X (e::es) (eP g u):=⟨zh h1.ok h2.ok hs⟩
theorem zS(h:HGs X es u)(hc:X.calm=true:=by kernel_rfl)(hn:(assignEach es X.env).length=n:=by kernel_rfl)(hst:(assignEach es X.env).findIdx? (·.1)=none:=by kernel_rfl):HG X (.Tuple es j pos) (qR n u):=⟨Fa h.ok hc hn hst⟩
theorem zT(ho:HE X o to)(hi:HE X i ti)
  (ha:∀v,assign (.Subscript o i pos) X.env v=(do
   let ov ←holding [v] (eval o X.env)
   let iv ←holding [v,ov] (eval i X.env)
   standAt pos
   holding [v,ov,iv] (setItem ov iv v)
   release [v,ov,iv] []):=by intro _;kernel_rfl):HG X (.Subscript o i pos) (zi to ti):=⟨Fb ho.ok hi.ok ha⟩
theorem sF(he:HE X e te)(hg:HG X tg g)(hs:swapsWithSole [tg] e pos.line X.env=pure false:=by kernel_rfl)(hw:swappedStores [tg] e X.env=pure none:=by kernel_rfl)
  (h1:(assignEach [tg] X.env).map (·.2)=[assign tg X.env]:=by kernel_rfl):HS X (.Assign [tg] e pos) (dAsg te g):=⟨EX he.ok hg.ok hs hw h1⟩
theorem wV:HOp X (binaryOp .Add) ba:=⟨Bo⟩
theorem sO:HC X (.type "tuple") fJ:=⟨zp⟩
theorem oY:HMl X "extend" ic:=⟨_,PySem.F.slot_list_extend,PySem.F.type_list_extend,tU⟩
def dMl0(r:Nat->DRA)(to:DTE):DTE:=λS M Q=>to S M λx M1=>match x with
 | .ref n=>(∃xs,am M1 n xs)/\r n [] M1 Q
 | _=>False
theorem Ek(hm:HMl X name r)(ho:HE X o to)(hbase:attributeBase o name X.env (eval o X.env)=eval o X.env:=by kernel_rfl)(hline:(apos.endLine==cpos.line)=true:=by kernel_rfl) :
  HE X (.Call (.Attribute o name apos) [] [] cpos) (dMl0 r to):=by
 obtain⟨id,h1,h2,h3⟩:=hm.ok
 refine⟨PE.imp (Ds PySem.F.plainAttrs_list h1 h2 h3 ho.ok hbase hline) λσ H R ⟨S,M,ρ,Q,s,sr,q,k⟩=>⟨S,M,ρ,_,s,sr,q,λv H1 ⟨d,M1,ρ1,s1,g1,r1,q1⟩=>?_⟩⟩
 cases r1 with
 | @ref n a hn =>
  obtain⟨⟨xs,hL⟩,q1⟩:=(show (∃xs,am M1 n xs)/\r n [] M1 _ from q1)
  obtain⟨vs,hq,_⟩:=am.seq s1 hL hn
  exact⟨.inl ⟨rfl,vs,hq⟩,n,a,[],M1,ρ1,Q,rfl,hn,s1,.nil,q1,λv H' w=>k v H' (VQ.trans g1 w)⟩
 | _=>exact q1.elim
end
end L2
namespace L2
open PySem PySem.Spec PyProof.Rows DL PySem.W
section
variable{X:Cx}
def CL(nt:Nat)(js:List Nat)(wi:TI)(g:TG)(tt:TT)(te:TE)(gN:TG):TS:=λD σ H=>tLC nt js wi g tt te σ H λv H1=>gN v σ H1 D.nx
theorem yd(B:BlkSc X N' nt js scope)(hc:X.calm=true)(hi:PI X tg iter wi)
  (hg:∀cl s0 H0 ex,PG (blk X N' scope cl s0 H0 ex) tg g) (ht:∀cl s0 H0 ex,PTs (blk X N' scope cl s0 H0 ex) ifs tt) (he:∀cl s0 H0 ex,PE (blk X N' scope cl s0 H0 ex) elt te) (hn:PG X (.Name x pos') gN)
  (hs:∀x,foldedSetIterable iter X.env x=pure x) (hsw:swapsWith (.ListComp elt [⟨tg,iter,ifs,0⟩] scope pos) (some (.Name x pos')) pos2.line X.env=pure true) :
  PS X (.Assign [.Name x pos'] (.ListComp elt [⟨tg,iter,ifs,0⟩] scope pos) pos2) (CL nt js wi g tt te gN):=by
 intro pins s σ H Dn I h
 rw[exec_Assign_Name_used _ _ _ _ hsw]
 refine AA0 (wpAny_standAt ?_)
 obtain⟨cl,ecl,hcl1,hcl2⟩:=iN (scope:=scope) (env:=X.env) λp hp hf=>I.ok.has p.1 (B.free p hp hf)
 refine AA0 (show wpAny (model X.prog X.w) X.A (comprehension (.ListComp elt [⟨tg,iter,ifs,0⟩] scope pos) scope X.env _ (newList []) false (eval iter X.env) (some (assign (.Name x pos') X.env)) >>= λ_=>pure ()) _ _ _ from AA0 ?_)
 refine wpAny_comprehension_free (use:=some (assign (.Name x pos') X.env)) (Q:=λ_ s''=>wpAny (model X.prog X.w) X.A (pure ()) (λ_ s3=>wpAny (model X.prog X.w) X.A (pure Flow.next) (SP X pins Dn) X.xe s3) X.xe s'') rfl hs ecl B.kind B.loc ?_
 refine thn (hi pins s σ H _ I h) λv s1 h1=>thn h1 λitv s2 h2=>?_
 obtain⟨it,fp,tn,J,H2,e,I2,T,st2,f2,W,⟨m0,w0⟩,turn⟩:=h2
 subst e
 refine AAk (wpAny_newFunctionEnv B.nocell (by intro y hy;simp at hy) (λh1 hns1 hsb1=>?_) B.kind)
 have hfs:∀b∈fp,b<s2.heap.objs.size:=λb hb=>by
  obtain⟨o,e,_⟩:=T.obj _ _ st2 b hb
  exact AAH e
 have hC:(s2.heap.push (cb [] 0)).objs.size=s2.heap.objs.size+1:=ABR ..
 have old:∀b o,(s2.heap.push (cb [] 0)).get? b=some o->h1.get? b=some o:=λb o e=>(hsb1.2 b (AAM (AAH e))).trans (AA3 _ e)
 have I3:=I2.blkStart (tk:=s2.toks+([]:List (Str×Value)).length) B hcl1 hcl2 f2 hfs old hns1
 have st3:tn 0 h1:=T.keep _ _ _ st2 λb _ o e=>old b o (AA3 _ e)
 have hDf:s2.heap.objs.size∉fp:=λz=>AAn _ (hfs _ z)
 have hDs:s2.heap.objs.size∉frs X.stack:=λz=>by
  rcases AAN.mp (I2.stkSub _ z)with q | q
  ·exact absurd I2.lt (by rw[←q];exact AAn _)
  ·exact I2.nofs (AA8 _) q
 have hDC:s2.heap.objs.size≠(s2.heap.push (cb [] 0)).objs.size:=by rw[hC];exact AAM (AAz _)
 have ltc:∀z c,cl.lookup z=some c->c<s2.heap.objs.size:=λz c e=>by
  obtain⟨v,q⟩:=I2.cell z c (hcl1 z c e)
  exact q.lt
 have hstat:∀b∈fp,b≠(s2.heap.push (cb [] 0)).objs.size/\b∉frs X.stack/\∀x c,cl.lookup x=some c->c≠b:=λb hb=>by
  refine⟨by rw[hC];exact AAM (ABs (hfs b hb)),λz=>?_,λx c e=>(f2 b hb).2.2.2.2.1 x c (hcl1 x c e)⟩
  rcases AAN.mp (I2.stkSub b z)with q | q
  ·exact(f2 b hb).2.1 q
  ·exact(f2 b hb).2.2.1 q
 have leC:s2.heap.objs.size<=(s2.heap.push (cb [] 0)).objs.size:=by rw[hC];exact AE7 _
 have loop:codeAny (model X.prog X.w) X.A (.compLoop (.ListComp elt [⟨tg,iter,ifs,0⟩] scope pos) 0 (.ref it) (.ref s2.heap.objs.size) (compEnvC scope cl (s2.heap.push (cb [] 0)).objs.size X.env))
   (compPost (model X.prog X.w) X.A X.xe (some (assign (.Name x pos') X.env)) (λ_ s''=>wpAny (model X.prog X.w) X.A (pure ()) (λ_ s3=>wpAny (model X.prog X.w) X.A (pure Flow.next) (SP X pins Dn) X.xe s3) X.xe s'') (.ref s2.heap.objs.size) (s2.heap.push (cb [] 0)).objs.size) { s2 with heap:=h1,toks:=s2.toks+([]:List (Str×Value)).length }:=by
  refine ww (s0:={ s2 with heap:=s2.heap.push (cb [] 0) }) (H0:=H2) (N':=N') (Q:=λv H1=>gN v σ H1 Dn.nx) hc (hg _ _ _ _) (ht _ _ _ _) (he _ _ _ _) T hDf turn hstat hDC hDs (λx c e=>AAM (ltc x c e)) ?_ m0 I3 st3 (λb hb=>(f2 b hb).1) w0
  intro τ H' s' vs its k I4 rv hl q
  obtain⟨mm,hn4,_⟩:=id I4.loc
  obtain⟨oC,es,ep,eC,aI⟩:=id hn4
  have I5:Inv X pins σ (upd H' s2.heap.objs.size (.lst vs)) s':=I2.blkEnd f2 I4 rv hl ⟨rfl,λ_ _=>rfl⟩
  have fC:upd H' s2.heap.objs.size (.lst vs) (s2.heap.push (cb [] 0)).objs.size=none:=by rw[ah (ABC hDC)];exact I4.free
  have fk:∀Hx:Hp,Hx (s2.heap.push (cb [] 0)).objs.size=none->uA X pins Hx (s2.heap.push (cb [] 0)).objs.size:=λHx hx=>I2.fpOk leC hx
  have dC:∀v,oC.data≠.cell v:=λv z=>by
   have:∃es ep,oC.data=.dict es ep:=by
    first
     | (obtain⟨d,_⟩:=aI;exact⟨_,_,d⟩)
     | (obtain⟨_,d,_⟩:=aI;exact⟨_,_,d⟩)
     | (obtain⟨_,_,d,_⟩:=aI;exact⟨_,_,d⟩)
   obtain⟨_,_,d⟩:=this
   rw[d]at z;cases z
  have I6:Inv X (pins++[((s2.heap.push (cb [] 0)).objs.size,oC)]) σ (upd H' s2.heap.objs.size (.lst vs)) s':=I5.pins_of λp hp=>by
   rcases AAl.mp hp with hp | hp
   ·exact I5.pin p (AAG _ hp)
   ·have:p=((s2.heap.push (cb [] 0)).objs.size,oC):=by simpa using hp
    subst this
    exact⟨eC,fC,(fk _ fC).2.1,(fk _ fC).2.2.1,dC⟩
  refine thn (hn _ s' σ _ (.ref s2.heap.objs.size) (.ref s2.heap.objs.size) _ I6 rfl q) λ_ s7 ⟨σ7,H7,I7,q7⟩=>?_
  obtain⟨p1,p2,_⟩:=I7.pin ((s2.heap.push (cb [] 0)).objs.size,oC) (AAG _ (AAG _ AAI))
  refine⟨mm,⟨oC,es,ep,p1,aI⟩,λh' sb=>AA2 (AA2 ⟨σ7,H7,?_,q7⟩)⟩
  have I8:Inv X pins σ7 H7 s7:=I7.pins_of λp hp=>I7.pin p (AAG _ (AAW _ hp))
  refine I8.turnedL (t':=s7.toks) (fp:=[(s2.heap.push (cb [] 0)).objs.size]) (λb hb=>?_) λb o hb e=>(sb.2 b (by simpa using hb)).trans e
  have:b=(s2.heap.push (cb [] 0)).objs.size:=by simpa using hb
  subst this
  exact fk H7 p2
 exact codeAny_compStart_list loop (T.self _ 0 _ _ _ st3 loop)
def kh(nt:Nat)(js:List Nat)(di:DTI)(g:DTG)(tt:DTT)(te:DTE)(i:Nat):DTS:=λE S M=>dLC nt js di g tt te S M λd M1=>au i d S M1 E.nx
theorem ze(B:BlkSc X N' nt js scope)(hc:X.calm=true)(hi:DI X tg iter di)
  (hg:∀cl s0 H0 ex,DG (blk X N' scope cl s0 H0 ex) tg g) (ht:∀cl s0 H0 ex,PTs (blk X N' scope cl s0 H0 ex) ifs (lowT X.K tt)) (he:∀cl s0 H0 ex,DE (blk X N' scope cl s0 H0 ex) elt te) (hn:DG X (.Name x pos') (au i))
  (hs:∀x,foldedSetIterable iter X.env x=pure x) (hsw:swapsWith (.ListComp elt [⟨tg,iter,ifs,0⟩] scope pos) (some (.Name x pos')) pos2.line X.env=pure true) :
  DS X (.Assign [.Name x pos'] (.ListComp elt [⟨tg,iter,ifs,0⟩] scope pos) pos2) (kh nt js di g tt te i) :=
 PS.imp (yd (g:=lowG X.K g) (tt:=lowT X.K tt) (te:=lowE X.K te) B hc hi (λcl s0 H0 ex=>hg cl s0 H0 ex) ht (λcl s0 H0 ex=>he cl s0 H0 ex) hn hs hsw) λE σ H ⟨S,M,ρ,F,s,sr,q,k⟩ =>
  wf σ H _ ⟨S,M,ρ,_,s,sr,q,λv H1 ⟨d,M1,ρ1,s1,g1,r1,q1⟩=>⟨d,S,M1,ρ1,_,s1,sr.grow g1,r1,q1,λσ' H' w=>k.nx σ' H' (SQ.trans g1 w)⟩⟩
theorem yK(hN:X.N.Nodup)(hi:HI X tg iter di)
  (hg:∀cl s0 H0 ex,HG (blk X N' scope cl s0 H0 ex) tg g) (ht:∀cl s0 H0 ex,HTs (blk X N' scope cl s0 H0 ex) ifs tt) (he:∀cl s0 H0 ex,HE (blk X N' scope cl s0 H0 ex) elt te) (B:lT X.env.scope.names X.N N' nt js scope=true:=by kernel_rfl) (hc:X.calm=true:=by kernel_rfl)
  (hs:∀x,foldedSetIterable iter X.env x=pure x:=by intro _;kernel_rfl) (hsw:swapsWith (.ListComp elt [⟨tg,iter,ifs,0⟩] scope pos) (some (.Name x pos')) pos2.line X.env=pure true:=by kernel_rfl)
  (hix:X.N[i]?=some x:=by kernel_rfl) (hx:Cs X.env.scope x=true:=by kernel_rfl) (hf:X.fn x=true:=by kernel_rfl):HS X (.Assign [.Name x pos'] (.ListComp elt [⟨tg,iter,ifs,0⟩] scope pos) pos2) (kh nt js di g tt te i) :=
 ⟨ze (BlkSc.chk B) hc hi.ok (λcl s0 H0 ex=>(hg cl s0 H0 ex).ok) (λcl s0 H0 ex=>(ht cl s0 H0 ex).ok) (λcl s0 H0 ex=>(he cl s0 H0 ex).ok) (qQ hN hix (wj hx) (.inl hf)) hs hsw⟩
end
end L2
namespace L2
open PySem PySem.Spec PyProof.Rows DL PySem.W
theorem at0:atI (a::r) 0=some a:=by
 have:=az (xs:=a::r) (j:=0) (v:=a) rfl
 simpa using this
theorem at1:atI (a::b::r) 1=some b:=by
 have:=az (xs:=a::b::r) (j:=1) (v:=b) rfl
 simpa using this
theorem at2:atI (a::b::c::r) 2=some c:=by
 have:=az (xs:=a::b::c::r) (j:=2) (v:=c) rfl
 simpa using this
theorem bD.lst(h:R (.ref M.length) (M++[.lst xs]))(hn:M.length<=n)(e:(M++L)[n]?=some (.lst xs))(b:Bels M.length xs):bD M R (.ref n) (M++L) :=
 .inr (.inr ⟨M,n,xs,.refl,rfl,hn,e,AAf _ _,b,h⟩)
theorem bD.chg(c:Chg M M1)(h:R d M1)(b:Bel M.length d)(p:M1 <+: M'):bD M R d M':=.inr (.inl ⟨M1,c,b,p,h⟩)
theorem bD.chgL(c:Chg M M1)(h:R (.ref M.length) (M1++[.lst xs]))(hn:M.length<=n)(e:M'[n]?=some (.lst xs))(p:M1 <+: M')(b:Bels M.length xs):bD M R (.ref n) M':=.inr (.inr ⟨M1,n,xs,c,rfl,hn,e,p,b,h⟩)
theorem mh:(M++a::L).set M.length b=M++b::L:=by
 rw[ADv _ _ (AA8 _)]
 simp
theorem ip:(M++a::L)[M.length]?=some a:=by simp
theorem mY(I:List D->List D->SD->Mem->Prop)(h0:∀acc S M,I [] acc S M->ok M/\Q (.ref M.length) (M++[.lst acc]))
  (h1:∀x xs acc S M,I (x::xs) acc S M->∀K:List D->SD->Mem->Prop,(∀acc S M,I xs acc S M->K acc S M)->ok M/\g x S M λS2 M2=>tt S2 M2 λb M3=>if b=true then te S2 M3 λy M4=>acc.length<sizeLine/\K (acc++[y]) S2 M4 else K acc S2 M3) :
  ∀xs acc S M,I xs acc S M->kH ok g tt te Q xs acc S M
 | [],acc,S,M,h=>h0 acc S M h
 | x::xs,acc,S,M,h=>h1 x xs acc S M h _ (mY I h0 h1 xs)
def unS:D->Str
 | .str x=>x
 | _=>Str.empty
theorem oB{ys:List D}{ks:List Str}(h:ys.Perm (ks.map D.str)):∃ns:List Str,ys=ns.map D.str/\ns.Perm ks:=by
 refine⟨ys.map unS,?_,?_⟩
 ·rw[AB6]
  have:∀y∈ys,(D.str ∘ unS) y=y:=λy hy=>by
   obtain⟨x,_,rfl⟩:=AAO.mp (h.mem_iff.mp hy)
   rfl
  exact(ACf this ▸ (List.map_id' ys).symm:ys=ys.map (D.str ∘ unS))
 ·have:=h.map unS
  rw[AB6]at this
  have e:(unS ∘ D.str)=id:=rfl
  rwa [e,ACG]at this
theorem sQ:(M++a::b::L)[M.length+1]?=some b:=by
 rw[AAg (by lia),show M.length+1-M.length=1 by lia];rfl
theorem yg{α:Type}(f:α->D)(g:D->α)(hg:∀a,g (f a)=a){ys:List D}{l:List α}(h:ys.Perm (l.map f)):∃l':List α,ys=l'.map f/\l'.Perm l:=by
 refine⟨ys.map g,?_,?_⟩
 ·rw[AB6]
  have:∀y∈ys,(f ∘ g) y=y:=λy hy=>by
   obtain⟨x,_,rfl⟩:=AAO.mp (h.mem_iff.mp hy)
   show f (g (f x))=f x
   rw[hg]
  exact(ACf this ▸ (List.map_id' ys).symm:ys=ys.map (f ∘ g))
 ·have:=h.map g
  rw[AB6]at this
  have e:(g ∘ f)=id:=funext hg
  rwa [e,ACG]at this
end L2
namespace L2
open PySem PySem.Spec PyProof.Rows DL PySem.W
section
variable{prog:Program}{w:World}{A:Around}{E:Value->Shared->Prop}{s:Shared}
end
end L2
namespace L2
open PySem PySem.Spec PyProof.Rows DL PySem.W
section
variable{prog:Program}{w:World}{A:Around}{E:Value->Shared->Prop}{s:Shared}
def aU(w:World):Obj:={ cls:=.type "set",dict:=none,data:=.set #[] 0 (.fresh 0 0 (!w.params.followText "set-order")) }
theorem qV(a:Value)(h:Q₁ (.ref s.heap.objs.size) { s with heap:=s.heap.push (aU w) }) :
  codeAny (model prog w) A (.call (.builtin "set.__new__") ⟨[.type "set",a],[]⟩) (wants Q₁ E) s:=by
 refine codeAny_of_tree (show wpAny (model prog w) A.in1 (do checkBuiltinCall "set.__new__" ⟨[.type "set",a],[]⟩;again (.builtin "set.__new__" ⟨[.type "set",a],[]⟩)) _ _ s from ?_)
 refine AA0 (wpAny_of_eq (F.newCall_set_1 a) (AA2 ⟨AD3 F.plain_set_new _,ABe F.entry_set_new ?_⟩))
 rw[ABj F.plain_set_new _]
 have hsub:=sub_set_self
 obtain⟨hp,g,d,tk,os⟩:=s
 unfold Builtin.«set.__new__» Builtin.Frozenset.newClass
 dsimp only
 wp_walk
 refine ACL (AA2 ?_)
 simp only[newObj]
 exact AA0 (wpAny_alloc (AA2 (AA2 h)))
end
end L2
namespace L2
open PySem PySem.Spec PyProof.Rows DL PySem.W
structure TxSrc(prog:Program)(w:World)(h:Heap)(l:Addr)(T:String)(n:Nat)(P:Nat->Value->Prop):Prop where
 obj:∃o,h.get? l=some o/\o.cls=.type T
 ns:isSubtype (.type T) (.type "set")=pure false
 nf:isSubtype (.type T) (.type "frozenset")=pure false
 nd:(ADG T==ADG "dict")=false
 iter:∀(A:Around) (s':Shared),A.handled=none->(∀o,h.get? l=some o->s'.heap.get? l=some o)->∃(oI:Obj) (St:Nat->Heap->Prop),
  (∀(E:Value->Shared->Prop) (Q:Value->Shared->Prop),Q (.ref s'.heap.objs.size) { s' with heap:=s'.heap.push oI }->wpAny (model prog w) A (pyIter (.ref l)) Q E s') /\
  Walks prog w A s'.heap.objs.size [s'.heap.objs.size,l] [s'.heap.objs.size] n P St/\St 0 (s'.heap.push oI)
theorem qd:isSubtype (.type "tuple") (.type "set")=pure false:=by rw[isSubtype_type];kernel_rfl
theorem oi:isSubtype (.type "tuple") (.type "frozenset")=pure false:=by rw[isSubtype_type];kernel_rfl
theorem TxSrc.list(hl:h.IsList l its):TxSrc prog w h l "list" its.size (λi v=>its[i]?=some v):=by
 refine⟨let ⟨o,e,c,_⟩:=hl;⟨o,e,c⟩,F.sub_list_set,F.sub_list_frozenset,by decide,λA s' hh hk=>?_⟩
 have hl':s'.heap.IsList l its:=hl.at hk
 have lt:l<s'.heap.objs.size:=let ⟨o,e,_⟩:=hl';AAH e
 exact⟨_,_,λE Q q=>wpAny_pyIter_list hl' q,Walks.list hh _ l (AAM lt) its,⟨_,AAC _ rfl,rfl,rfl⟩,hl'.push _⟩
theorem TxSrc.tuple(hl:h.IsTuple l its):TxSrc prog w h l "tuple" its.size (λi v=>its[i]?=some v):=by
 refine⟨let ⟨o,e,c,_⟩:=hl;⟨o,e,c⟩,qd,oi,by decide,λA s' hh hk=>?_⟩
 have hl':s'.heap.IsTuple l its:=let ⟨o,e,r⟩:=hl;⟨o,hk o e,r⟩
 have lt:l<s'.heap.objs.size:=let ⟨o,e,_⟩:=hl';AAH e
 exact⟨_,_,λE Q q=>wpAny_pyIter_tuple hl' q,Walks.tuple hh _ l (AAM lt) its,⟨_,AAC _ rfl,rfl,rfl⟩,let ⟨o,e,r⟩:=hl';⟨o,AA3 _ e,r⟩⟩
section
variable{prog:Program}{w:World}{A:Around}{E:Value->Shared->Prop}{s:Shared}
end
end L2
namespace L2
open PySem PySem.Spec PyProof.Rows DL PySem.W
theorem aV:Slot "set_iterator" "__next__" "set_iterator.__next__" :=
 .of (owner:="set_iterator") (n:="__next__") (by rw[AEB,ACu];kernel_rfl) (by decide +kernel) (by decide +kernel) (by decide +kernel) (by first | exact .inl (by decide +kernel) | exact .inr (by decide +kernel)) (by rw[isSubtype_type];kernel_rfl)
theorem dF:entryFor table "set_iterator.__next__" = some Builtin.«set_iterator.__next__»:=entryFor_of_tree (by kernel_rfl)
theorem jJ:Manifest.owners.lookup (String.ofList ['r','o','t','a','r','e','t','i','_','t','e','s'].reverse)=some Manifest.sig_set_iterator:=by kernel_rfl
theorem fq(a:Value):argsOk "set_iterator.__next__" ⟨[a],[]⟩:=by
 unfold argsOk;rw[signature?_of (id:="set_iterator.__next__") (n:=['_','_','t','x','e','n','_','_']) (o:=['r','o','t','a','r','e','t','i','_','t','e','s']) (by kernel_rfl) jJ];kernel_rfl
theorem mS:entryFor table "set.__iter__" = some Builtin.«frozenset.__iter__»:=entryFor_alias (id':="frozenset.__iter__") (by kernel_rfl) rfl (by decide +kernel) (by kernel_rfl)
theorem ir{α:Type}:∀(l:List α) (i:Nat) (h:i<l.length),(l[i]::l.eraseIdx i).Perm l
 | x::l,0,_=>ACl _
 | x::l,i+1,h=>by
  have h':i<l.length:=by simpa using h
  exact(List.Perm.swap x l[i] (l.eraseIdx i)).trans (AEK x (ir l i h'))
theorem ut(hn:n≠0)(h:∀i d,i<n->Q i { s with drawn:=d }):wpAny M A (choose src n) Q E s:=by
 intro Γ p hΓ
 show Sem.wp M Γ (Sem.choose src n λi=>Sem.pure i) _ _ p s
 rw[Sem.wp_choose]
 refine⟨hn,?_⟩
 rw[Sem.wp_pure]
 exact h _ _ (Nat.mod_lt _ (Nat.pos_of_ne_zero hn))
theorem pz{α:Type}{M:Model}{A:Around}{E:Value->Shared->Prop}:∀(n:Nat) (xs:List α) (s:Shared) (Q:List α->Shared->Prop),xs.length=n->(∀ys d,ys.Perm xs->Q ys { s with drawn:=d })->wpAny M A (drawOrder n xs) Q E s
 | 0,xs,s,Q,e,h=>by
  cases xs with
  | nil=>exact AA2 (h [] s.drawn (ACl _))
  | cons _ _=>cases e
 | n+1,[],s,Q,e,h=>by cases e
 | n+1,x::xs,s,Q,e,h=>by
  unfold drawOrder
  refine AA0 (ut (by simp) λi d hi=>?_)
  rw[AA5 hi]
  refine AA0 (pz n ((x::xs).eraseIdx i) { s with drawn:=d } _ (by rw[List.length_eraseIdx_of_lt hi];simp at e ⊢;lia) λys d' hp=>AA2 (h _ d' ?_))
  exact(AEK _ hp).trans (ir _ i hi)
theorem jD{α:Type}(next:Nat->Nat)(xs:Array α):(pickOrder next xs).toList.Perm xs.toList:=by
 have go:∀(fuel k:Nat) (left:List α) (out:Array α),left.length=fuel->(pickOrder.go next fuel k left out).toList.Perm (out.toList++left):=by
  intro fuel
  induction fuel with
  | zero =>
   intro k left out e
   cases left with
   | nil=>simp[pickOrder.go]
   | cons _ _=>cases e
  | succ n ih =>
   intro k left out e
   have hi:next k % left.length<left.length:=Nat.mod_lt _ (by lia)
   unfold pickOrder.go
   rw[AA5 hi]
   dsimp only
   refine(ih (k+1) _ _ (by rw[List.length_eraseIdx_of_lt hi];lia)).trans ?_
   rw[ADk,AAs]
   exact List.Perm.append_left _ (ir _ _ hi)
 have:=go xs.size 0 xs.toList #[] (by simp)
 simpa [pickOrder]using this
end L2
namespace L2
open PySem PySem.Spec PyProof.Rows DL PySem.W
def dD(first:Value)(i n:Nat)(a:Addr)(ep:Nat):Obj:={ cls:=.type "set_iterator",data:=.fields #[first,rawInt i,.ref a,rawInt n,rawInt ep] }
structure SetAt(h:Heap)(a:Addr)(o:Obj)(es:Array (Int×Value))(ep:Nat)(t:SetTable):Prop where
 ob:h.get? a=some o
 dt:o.data=.set es ep t
 ft:t.fits es.size=true
section
variable{prog:Program}{w:World}{A:Around}{E:Value->Shared->Prop}{s:Shared}{a it:Addr}{o:Obj}{es:Array (Int×Value)}{ep:Nat}{t:SetTable}
theorem lB(hh:A.handled=none)(h:∀h' e,(∀b o,s.heap.get? b=some o->h'.get? b=some o)->(∃o,h'.get? e=some o/\o.cls=.type "StopIteration")->F (.ref e) { s with heap:=h' }) :
  wpAny (model prog w) A (do raiseNew (←newExc (.type "StopIteration") []):Sem Fin) Q F s:=by
 refine AA0 ?_
 simp only[newExc,newTuple]
 refine AA0 (AAk (AA0 (m:=firstArgMember _ _) (wpAny_of_eq (a:=ABi) (by first | rfl | (simp only[firstArgMember];rfl)) (AAk ?_ (by size_fits)))) (by size_fits))
 simp only[raiseNew]
 refine AA0 (wpAny_handled ?_)
 rw[hh]
 exact AA0 (AA2 (wpAny_throw (h _ _ (λb o e=>AA3 _ (AA3 _ e)) ⟨_,AAC _ rfl,rfl⟩)))
theorem jP{slot i next:Nat}{x:Value}{Q:Option Value->Shared->Prop}(hI:s.heap.get? it=some (dD (rawInt slot) i es.size a ep))(S:SetAt s.heap a o es ep t)
  (hn:∀(A:Around) (E:Value->Shared->Prop) (Q:Option (Value×Nat)->Shared->Prop),Q (some (x,next)) s->wpAny (model prog w) A (setNext a slot i ep) Q E s)
  (hQ:∀h',h'.get? it=some (dD (rawInt next) (i+1) es.size a ep)->ABz it s.heap h'->Q (some x) { s with heap:=h' }):wpAny (model prog w) A (pyNext (.ref it)) Q E s:=by
 have hT:s.TypeIs (.ref it) "set_iterator":=⟨_,hI,rfl⟩
 unfold pyNext
 refine AA0 (ACO (AB0 (name:=AA1 "__next__") hT aV (AAt aV hT dF ?_ (fq _))))
 unfold Builtin.«set_iterator.__next__»
 refine AA0 (AA2 (AA0 (ABV hI rfl ?_)))
 dsimp only [dD,rawInt]
 refine AA0 (ACg S.ob S.dt S.ft ?_)
 rw[if_neg (by simp)]
 refine AA0 (hn _ _ _ ?_)
 dsimp only
 refine AA0 (ABx hI rfl (by simp) (AA0 (ABx (AAe _ hI rfl) rfl (by simp) (AA2 ⟨x,rfl,AA2 (hQ _ ?_ ((AAo ..).trans (AAo ..)))⟩))))
 refine(AAe _ (AAe _ hI rfl) rfl).trans ?_
 simp[dD,AD4,rawInt]
theorem dA{slot i:Nat}{Q:Option Value->Shared->Prop}(hh:A.handled=none)(hI:s.heap.get? it=some (dD (rawInt slot) i es.size a ep))(S:SetAt s.heap a o es ep t)
  (hn:∀(A:Around) (E:Value->Shared->Prop) (Q:Option (Value×Nat)->Shared->Prop),Q none s->wpAny (model prog w) A (setNext a slot i ep) Q E s)
  (hQ:∀h',(∀b o,b≠it->s.heap.get? b=some o->h'.get? b=some o)->Q none { s with heap:=h' }):wpAny (model prog w) A (pyNext (.ref it)) Q E s:=by
 have hT:s.TypeIs (.ref it) "set_iterator":=⟨_,hI,rfl⟩
 unfold pyNext
 refine AA0 (ACO (AB0 (name:=AA1 "__next__") hT aV (AAt aV hT dF ?_ (fq _))))
 unfold Builtin.«set_iterator.__next__»
 refine AA0 (AA2 (AA0 (ABV hI rfl ?_)))
 dsimp only [dD,rawInt]
 refine AA0 (ACg S.ob S.dt S.ft ?_)
 rw[if_neg (by simp)]
 refine AA0 (hn _ _ _ ?_)
 dsimp only
 refine AA0 (ABx hI rfl (by simp) ?_)
 refine lB (by simp[hh]) λh' e hk ⟨oe,he,hc⟩=>?_
 refine AA0 (ACM (T:="StopIteration") (b:=true) ⟨oe,he,hc⟩ isSubtype_stop (AA2 (hQ h' λb ob hb eb=>hk b ob ?_)))
 exact((AAo ..).2 b hb).trans eb
theorem tT{tt:Addr}{ps:List Nat}{i j:Nat}{e:Int×Value}{Q:Option Value->Shared->Prop}(hI:s.heap.get? it=some (dD (.ref tt) i es.size a ep))(hP:s.heap.IsTuple tt (ps.map λ(k:Nat)=>rawInt k).toArray)(S:SetAt s.heap a o es ep t)
  (hj:ps[i]?=some j) (he:es[j]?=some e) (hQ:∀h',h'.get? it=some (dD (.ref tt) (i+1) es.size a ep)->ABz it s.heap h'->Q (some e.2) { s with heap:=h' }):wpAny (model prog w) A (pyNext (.ref it)) Q E s:=by
 have hT:s.TypeIs (.ref it) "set_iterator":=⟨_,hI,rfl⟩
 obtain⟨ot,hot,_,nt,hdt⟩:=hP
 unfold pyNext
 refine AA0 (ACO (AB0 (name:=AA1 "__next__") hT aV (AAt aV hT dF ?_ (fq _))))
 unfold Builtin.«set_iterator.__next__»
 refine AA0 (AA2 (AA0 (ABV hI rfl ?_)))
 dsimp only [dD,rawInt]
 refine AA0 (ACg S.ob S.dt S.ft ?_)
 rw[if_neg (by simp)]
 refine AA0 (ACm hot hdt ?_)
 have hx:(ps.map λ(k:Nat)=>rawInt k).toArray[i]?=some (.int j 0):=by simp[hj,rawInt]
 simp only[ABY,hx]
 unfold setNextDrawn
 refine AA0 (AA0 (ABE S.ob S.dt S.ft ?_))
 simp only[bne_self_eq_false,AAE,if_false,he]
 refine AA2 (AA0 (ABx hI rfl (by simp) (AA2 ⟨_,rfl,AA2 (hQ _ ?_ (AAo ..))⟩)))
 refine(AAe _ hI rfl).trans ?_
 simp[dD,AD4,rawInt]
theorem kz{tt:Addr}{ps:List Nat}{i:Nat}{Q:Option Value->Shared->Prop}(hh:A.handled=none)(hI:s.heap.get? it=some (dD (.ref tt) i es.size a ep))(hP:s.heap.IsTuple tt (ps.map λ(k:Nat)=>rawInt k).toArray)(S:SetAt s.heap a o es ep t)
  (hj:ps[i]?=none) (hQ:∀h',(∀b o,b≠it->s.heap.get? b=some o->h'.get? b=some o)->Q none { s with heap:=h' }):wpAny (model prog w) A (pyNext (.ref it)) Q E s:=by
 have hT:s.TypeIs (.ref it) "set_iterator":=⟨_,hI,rfl⟩
 obtain⟨ot,hot,_,nt,hdt⟩:=hP
 unfold pyNext
 refine AA0 (ACO (AB0 (name:=AA1 "__next__") hT aV (AAt aV hT dF ?_ (fq _))))
 unfold Builtin.«set_iterator.__next__»
 refine AA0 (AA2 (AA0 (ABV hI rfl ?_)))
 dsimp only [dD,rawInt]
 refine AA0 (ACg S.ob S.dt S.ft ?_)
 rw[if_neg (by simp)]
 refine AA0 (ACm hot hdt ?_)
 have hx:(ps.map λ(k:Nat)=>rawInt k).toArray[i]?=none:=by simpa using hj
 simp only[ABY,hx]
 refine AA0 (ABx hI rfl (by simp) (AA0 (ABx (AAe _ hI rfl) rfl (by simp) ?_)))
 refine lB (by simp[hh]) λh' e hk ⟨oe,he,hc⟩=>?_
 refine AA0 (ACM (T:="StopIteration") (b:=true) ⟨oe,he,hc⟩ isSubtype_stop (AA2 (hQ h' λb ob hb eb=>hk b ob ?_)))
 exact(((AAo ..).trans (AAo ..)).2 b hb).trans eb
end
end L2
namespace L2
theorem nodup_le{α:Type}[DecidableEq α]:∀(l xs:List α),l.Nodup->(∀x∈l,x∈xs)->l.length<=xs.length
 | [],xs,_,_=>AAS _
 | a::l,xs,nd,h=>by
  have ha:a∈xs:=h a AAI
  have nd':=ABb.mp nd
  have ih:=nodup_le l (xs.erase a) nd'.2 λx hx=>(List.mem_erase_of_ne (show x≠a from λz=>nd'.1 (by rw[←z];exact hx))).mpr (h x (AAA _ hx))
  rw[List.length_erase_of_mem ha]at ih
  have:0<xs.length:=List.length_pos_of_mem ha
  rw[AAJ]
  lia
end L2
namespace Ht
open PySem
def adv(m:Nat)(p:ACU):ACU :=
 if p.more > 0 then { p with j:=p.j+1,more:=p.more-1 } else
 { p with j:=(ACP m p.i p.perturb).1,more:=AAu m (ACP m p.i p.perturb).1-(ACP m p.i p.perturb).1,i:=(ACP m p.i p.perturb).1,perturb:=(ACP m p.i p.perturb).2 }
def ib(m i pt:Nat):ACU:={ j:=i,more:=AAu m i-i,i,perturb:=pt,dummy:=none }
def ju(m:Nat)(p:ACU):Nat->ACU
 | 0=>p
 | n+1=>adv m (ju m p n)
def sq(m:Nat)(h:Int)(n:Nat):ACU:=ju m (ib m (ABy h % (m+1)) (ABy h)) n
theorem oj(m:Nat)(p:ACU)(a b:Nat):ju m p (a+b)=ju m (ju m p a) b:=by
 induction b with
 | zero=>rfl
 | succ b ih=>rw[Nat.add_succ,ju,ih];rfl
theorem CU(m i:Nat):AAu m i-i<=9:=by
 unfold AAu;split<;>lia
theorem wT(m i pt:Nat):∀k,k<=AAu m i-i->ju m (ib m i pt) k={ j:=i+k,more:=AAu m i-i-k,i,perturb:=pt,dummy:=none }
 | 0,_=>by simp[ju,ib]
 | k+1,h=>by
  rw[ju,wT m i pt k (by lia)]
  unfold adv
  rw[if_pos (show AAu m i-i-k > 0 by lia)]
  simp only[SetTable.Probe.mk.injEq,true_and,and_true]
  lia
theorem yt(m i pt:Nat):ju m (ib m i pt) (AAu m i-i+1)=ib m (ACP m i pt).1 (ACP m i pt).2:=by
 rw[ju,wT m i pt _ (AA8 _)]
 unfold adv
 rw[if_neg (show ¬AAu m i-i-(AAu m i-i) > 0 by lia)]
 rfl
def dj(m:Nat)(h:Int):Nat->Nat×Nat
 | 0=>(ABy h % (m+1),ABy h)
 | k+1=>ACP m (dj m h k).1 (dj m h k).2
def dL(m:Nat)(h:Int):Nat->Nat
 | 0=>0
 | k+1=>dL m h k+(AAu m (dj m h k).1-(dj m h k).1+1)
theorem zr(m:Nat)(h:Int)(k:Nat):dL m h k<=10*k:=by
 induction k with
 | zero=>exact AA8 _
 | succ k ih=>have:=CU m (dj m h k).1;unfold dL;lia
theorem zB(m:Nat)(h:Int)(k:Nat):sq m h (dL m h k)=ib m (dj m h k).1 (dj m h k).2:=by
 induction k with
 | zero=>rfl
 | succ k ih =>
  unfold sq at ih ⊢
  unfold dL
  rw[oj,ih,yt]
  rfl
theorem vz(m:Nat)(h:Int)(k r:Nat)(hr:r<=AAu m (dj m h k).1-(dj m h k).1):(sq m h (dL m h k+r)).j=(dj m h k).1+r:=by
 have e:=zB m h k
 unfold sq at e ⊢
 rw[oj,e,wT _ _ _ _ hr]
theorem Cj(h:Int):ABy h<2 ^ 64:=by
 unfold ABy
 have h0:=Int.emod_nonneg h (show (2 ^ 64:Int)≠0 by decide)
 have h1:=Int.emod_lt_of_pos h (show (0:Int)<2 ^ 64 by decide)
 lia
theorem lG(m:Nat)(h:Int):∀k,(dj m h k).2=ABy h / 32 ^ k
 | 0=>by simp[dj]
 | k+1=>by
  show (dj m h k).2 / 32=_
  rw[lG m h k,Nat.div_div_eq_div_mul,←Nat.pow_succ]
theorem oA(m:Nat)(h:Int)(k:Nat)(hk:13<=k):(dj m h k).2=0:=by
 rw[lG]
 apply Nat.div_eq_of_lt
 have h1:=Cj h
 have h2:32 ^ 13<=32 ^ k:=Nat.pow_le_pow_right (by decide) hk
 have h3:(2:Nat) ^ 64<32 ^ 13:=by decide
 lia
def re(m i:Nat):Nat:=(i*5+1) % (m+1)
def bF(m i:Nat):Nat->Nat
 | 0=>i
 | k+1=>re m (bF m i k)
theorem dh(m i a b:Nat):bF m i (a+b)=bF m (bF m i a) b:=by
 induction b with
 | zero=>rfl
 | succ b ih=>rw[Nat.add_succ,bF,ih];rfl
theorem qh(m:Nat)(h:Int)(r:Nat):(dj m h (13+r)).1=bF m (dj m h 13).1 r:=by
 induction r with
 | zero=>rfl
 | succ r ih =>
  show (ACP m (dj m h (13+r)).1 (dj m h (13+r)).2).1=re m (bF m (dj m h 13).1 r)
  rw[oA m h _ (by lia),ih]
  rfl
theorem qi(m:Nat)(h:Int):∀k,(dj m h k).1<=m
 | 0=>Nat.lt_succ_iff.mp (Nat.mod_lt _ (Nat.succ_pos _))
 | k+1=>Nat.lt_succ_iff.mp (Nat.mod_lt _ (Nat.succ_pos _))
def Cv(m:Nat):Prop:=bF m 0 (m+1)=0/\∀s,s<=m->∃k,k<=m/\bF m 0 k=s
def qr(m:Nat):Nat->Nat->List Nat
 | 0,_=>[]
 | n+1,i=>i::qr m n (re m i)
theorem jK(m:Nat):∀(n i k:Nat),k<n->(qr m n i)[k]?=some (bF m i k)
 | 0,_,_,h=>absurd h (ABd _)
 | n+1,i,0,_=>rfl
 | n+1,i,k+1,h=>by
  rw[qr,ACB,jK m n (re m i) k (by lia),←show bF m (bF m i 1) k=bF m i (k+1)from by rw[←dh,Nat.add_comm]]
  rfl
theorem qN(m:Nat)(h:((qr m (m+2) 0)[m+1]?==some 0&&(AAv (m+1)).all λs=>(qr m (m+1) 0).contains s)=true):Cv m:=by
 rw[AAV,beq_iff_eq,AAa]at h
 refine⟨?_,λs hs=>?_⟩
 ·have:=jK m (m+2) 0 (m+1) (by lia)
  rw[h.1]at this
  exact(AAR this).symm
 ·have:=h.2 s (AB1.mpr (by lia))
  rw[List.contains_iff_mem]at this
  obtain⟨k,hk⟩:=ABB this
  have hl:k<m+1:=by
   have:=(AA7.mp hk).1
   have len:∀n i,(qr m n i).length=n:=by
    intro n;induction n with
    | zero=>intro i;rfl
    | succ n ih=>intro i;simp[qr,ih]
   rw[len]at this;exact this
  rw[jK m _ 0 k hl]at hk
  exact⟨k,by lia,AAR hk⟩
theorem full7:Cv 7:=qN 7 (by decide +kernel)
theorem EH:Cv 31:=qN 31 (by decide +kernel)
theorem BI:Cv 127:=qN 127 (by decide +kernel)
theorem xb(F:Cv m)(hi:i<=m)(hs:s<=m):∃k,k<=m/\bF m i k=s:=by
 obtain⟨a,ha,ea⟩:=F.2 i hi
 obtain⟨b,hb,eb⟩:=F.2 s hs
 by_cases h:a<=b
 ·refine⟨b-a,by lia,?_⟩
  rw[←ea,←dh,show a+(b-a)=b by lia];exact eb
 ·refine⟨m+1-a+b,by lia,?_⟩
  rw[←ea,←dh,show a+(m+1-a+b)=(m+1)+b by lia,dh,F.1];exact eb
def kJ(m:Nat):Prop:=m=7\/m=31\/m=127
theorem kJ.full(h:kJ m):Cv m:=by
 rcases h with rfl | rfl | rfl
 ·exact full7
 ·exact EH
 ·exact BI
theorem Am(hm:kJ m)(h:Int)(hs:s<=m):∃k,k<=m+13/\(dj m h k).1=s:=by
 obtain⟨r,hr,e⟩:=xb hm.full (qi m h 13) hs
 exact⟨13+r,by lia,by rw[qh];exact e⟩
theorem AI(hm:kJ m)(h:Int)(hs:s<=m):∃n,n<10*(m+15)/\(sq m h n).j=s:=by
 obtain⟨k,hk,e⟩:=Am hm h hs
 refine⟨dL m h k,by have:=zr m h k;lia,?_⟩
 rw[zB];exact e
theorem CO(h:Int):∀n,∃k r,r<=AAu m (dj m h k).1-(dj m h k).1/\n=dL m h k+r
 | 0=>⟨0,0,AAS _,rfl⟩
 | n+1=>by
  obtain⟨k,r,hr,e⟩:=CO (m:=m) h n
  by_cases q:r<AAu m (dj m h k).1-(dj m h k).1
  ·exact⟨k,r+1,q,by lia⟩
  ·exact⟨k+1,0,AAS _,by rw[dL];lia⟩
theorem vt(h:Int)(n:Nat):(sq m h n).j<=m:=by
 obtain⟨k,r,hr,e⟩:=CO (m:=m) h n
 rw[e,vz m h k r hr]
 have:=qi m h k
 unfold AAu at hr
 split at hr<;>lia
end Ht
namespace Ht
open PySem
theorem below_spec(xs:Array Nat)(hr:xs.toList.Pairwise (· < ·))(j:Nat) :
  AAd xs j<=xs.size/\(∀k (h:k<xs.size),k<AAd xs j->xs[k]<j)/\∀k (h:k<xs.size),AAd xs j<=k->j<=xs[k]:=by
 have mono:∀a b (ha:a<xs.size) (hb:b<xs.size),a<b->xs[a]<xs[b]:=λa b ha hb h=>by
  have:=ADA.mp hr a b (by simpa using ha) (by simpa using hb) h
  simpa using this
 have go:∀(fuel lo hi:Nat),lo<=hi->hi<=xs.size->hi-lo<=fuel->(∀k (h:k<xs.size),k<lo->xs[k]<j)->(∀k (h:k<xs.size),hi<=k->j<=xs[k]) ->
   ACD xs j fuel lo hi<=xs.size/\(∀k (h:k<xs.size),k<ACD xs j fuel lo hi->xs[k]<j)/\∀k (h:k<xs.size),ACD xs j fuel lo hi<=k->j<=xs[k]:=by
  intro fuel
  induction fuel with
  | zero =>
   intro lo hi h1 h2 h3 h4 h5
   have:lo=hi:=by lia
   subst this
   exact⟨h2,h4,h5⟩
  | succ fuel ih =>
   intro lo hi h1 h2 h3 h4 h5
   unfold ACD
   by_cases h:lo<hi
   ·rw[if_pos h]
    have hm:(lo+hi) / 2<xs.size:=by lia
    have eg:xs.getD ((lo+hi) / 2) j=xs[(lo+hi) / 2]:=by simp[ACJ,hm]
    simp only[eg]
    by_cases q:xs[(lo+hi) / 2]<j
    ·rw[if_pos q]
     refine ih _ _ (by lia) h2 (by lia) (λk hk hlt=>?_) h5
     rcases ABS k ((lo+hi) / 2)with z | z
     ·exact Nat.lt_trans (mono k _ hk hm z) q
     ·have:k=(lo+hi) / 2:=by lia
      subst this;exact q
    ·rw[if_neg q]
     refine ih _ _ (by lia) (by lia) (by lia) h4 λk hk hle=>?_
     rcases ABS ((lo+hi) / 2) k with z | z
     ·exact AAy (ACz.mp q) (ACN (mono _ k hm hk z))
     ·have:k=(lo+hi) / 2:=by lia
      subst this;exact ACz.mp q
   ·rw[if_neg h]
    have:lo=hi:=by lia
    subst this
    exact⟨h2,h4,h5⟩
 exact go xs.size 0 xs.size (AAS _) (AA8 _) (by lia) (λk _ h=>absurd h (ABd _)) λk h h'=>absurd h (ACz.mpr h')
theorem below_at(hr:xs.toList.Pairwise (· < ·))(h:xs[i]?=some j):AAd xs j=i:=by
 obtain⟨hi,e⟩:=AAr.mp h
 obtain⟨b1,b2,b3⟩:=below_spec xs hr j
 have mono:∀a b (ha:a<xs.size) (hb:b<xs.size),a<b->xs[a]<xs[b]:=λa b ha hb h=>by
  have:=ADA.mp hr a b (by simpa using ha) (by simpa using hb) h
  simpa using this
 rcases AD0 (AAd xs j) i with q | q | q
 ·have hb:AAd xs j<xs.size:=by lia
  have:=b3 _ hb (AA8 _)
  have:=mono _ i hb hi q
  lia
 ·exact q
 ·have:=b2 i hi q
  lia
theorem slot_live{t:SetTable}(hr:t.place.toList.Pairwise (· < ·)){i j:Nat}(h:t.place[i]?=some j):t.slot j=.live i:=by
 unfold SetTable.slot
 simp only[below_at hr h]
 rw[if_pos (by rw[h];simp)]
theorem tN{t:SetTable}(hd:t.dummies = #[]){j:Nat}(h:j∉t.place.toList):t.slot j=.empty:=by
 unfold SetTable.slot
 have e1:¬(t.place[AAd t.place j]?==some j)=true:=λz=>h (by
  rw[beq_iff_eq]at z
  have:=Array.mem_of_getElem? z
  simpa using this)
 have e2:SetTable.has t.dummies j=false:=by rw[hd];rfl
 simp only[e1,if_false,e2,AAE]
theorem go_spec{t:SetTable}(hr:t.place.toList.Pairwise (· < ·))(hd:t.dummies = #[])(hashAt:Nat->Int)(h:Int):∀(fuel n N:Nat),n<=N->N<n+fuel->(sq t.mask h N).j∉t.place.toList->(∀k,n<=k->k<N->(sq t.mask h k).j∈t.place.toList) ->
  (∀k,(sq t.mask h k).dummy=none) ->
  ((∀k i,n<=k->k<N->t.place[i]?=some (sq t.mask h k).j->hashAt i≠h)/\AEN t hashAt h fuel (sq t.mask h n)=some (.empty (sq t.mask h N).j none)) \/
  ∃n' i,n<=n'/\n' < N/\t.place[i]?=some (sq t.mask h n').j/\hashAt i=h/\(∀k i,n<=k->k<n'->t.place[i]?=some (sq t.mask h k).j->hashAt i≠h)/\AEN t hashAt h fuel (sq t.mask h n)=some (.candidate (sq t.mask h n').j i (sq t.mask h (n'+1))):=by
 intro fuel
 induction fuel with
 | zero=>intro n N h1 h2;lia
 | succ fuel ih =>
  intro n N h1 h2 h3 h4 h5
  unfold AEN
  by_cases e:n=N
  ·subst e
   rw[tN hd h3]
   exact .inl ⟨λk i a b=>by lia,by rw[h5]⟩
  ·have hm:=h4 n (AA8 _) (by lia)
   obtain⟨i,hi⟩:=ABB hm
   have hi':t.place[i]?=some (sq t.mask h n).j:=by rw[←AAQ];exact hi
   rw[slot_live hr hi']
   dsimp only
   have uq:∀i',t.place[i']?=some (sq t.mask h n).j->i'=i:=λi' z=>by rw[←below_at hr z,below_at hr hi']
   by_cases q:hashAt i=h
   ·simp only[beq_iff_eq,q,if_true]
    exact .inr ⟨n,i,AA8 _,by lia,hi',q,λk i a b=>by lia,rfl⟩
   ·simp only[beq_iff_eq,q,if_false]
    rcases ih (n+1) N (by lia) (by lia) h3 (λk a b=>h4 k (by lia) b) h5 with⟨z1,z2⟩|⟨n',i',a1,a2,a3,a4,a5,a6⟩
    ·refine .inl ⟨λk i' a b c=>?_,z2⟩
     rcases ABS n k with z | z
     ·exact z1 k i' z b c
     ·have:k=n:=by lia
      subst this;rw[uq i' c];exact q
    ·refine .inr ⟨n',i',by lia,a2,a3,a4,λk i'' a b c=>?_,a6⟩
     rcases ABS n k with z | z
     ·exact a5 k i'' z b c
     ·have:k=n:=by lia
      subst this;rw[uq i'' c];exact q
theorem sq_dummy(m:Nat)(h:Int):∀n,(sq m h n).dummy=none
 | 0=>rfl
 | n+1=>by
  show (adv m (sq m h n)).dummy=none
  unfold adv
  split
  ·exact sq_dummy m h n
  ·exact sq_dummy m h n
structure TOk(t:SetTable)(hs:List Int):Prop where
 msk:kJ t.mask
 len:t.place.size=hs.length
 nod:t.dummies = #[]
 ris:t.place.toList.Pairwise (· < ·)
 rng:∀j∈t.place.toList,j<=t.mask
 few:t.place.size*5<t.mask*3
 path:∀(i:Nat) (h:Int) (j:Nat),hs[i]?=some h->t.place[i]?=some j->∃n,(sq t.mask h n).j=j/\∀n',n' < n->(sq t.mask h n').j∈t.place.toList
theorem wZ{m:Nat}{l:List Nat}(hn:l.Nodup)(hr:∀j∈l,j<=m)(hl:l.length<=m):∃j,j<=m/\j∉l:=by
 refine AB3 λhc=>?_
 have all:∀j∈AAv (m+1),j∈l:=λj hj=>AB3 λhj'=>hc ⟨j,by have:=AB1.mp hj;lia,hj'⟩
 have:=L2.nodup_le (AAv (m+1)) l List.nodup_range all
 rw[AD5]at this
 lia
theorem qO{m:Nat}(hm:kJ m){l:List Nat}(hn:l.Nodup)(hr:∀j∈l,j<=m)(hl:l.length<=m)(h:Int):∃N,N<10*(m+15)/\(sq m h N).j∉l/\∀k,k<N->(sq m h k).j∈l:=by
 obtain⟨s,hs,hs'⟩:=wZ hn hr hl
 obtain⟨n,hn1,hn2⟩:=AI hm h hs
 have:∀b n,n<b->(sq m h n).j∉l->∃N,N<=n/\(sq m h N).j∉l/\∀k,k<N->(sq m h k).j∈l:=by
  intro b
  induction b with
  | zero=>intro n h;lia
  | succ b ih =>
   intro n hb hq
   by_cases q:∀k,k<n->(sq m h k).j∈l
   ·exact⟨n,AA8 _,hq,q⟩
   ·have:∃k,k<n/\(sq m h k).j∉l:=AB3 λz=>q λk hk=>AB3 λz'=>z ⟨k,hk,z'⟩
    obtain⟨k,hk,hk'⟩:=this
    obtain⟨N,a1,a2,a3⟩:=ih k (by lia) hk'
    exact⟨N,by lia,a2,a3⟩
 obtain⟨N,a1,a2,a3⟩:=this (n+1) n (AAz _) (by rw[hn2];exact hs')
 exact⟨N,by lia,a2,a3⟩
theorem TOk.empty{t:SetTable}{hs:List Int}(T:TOk t hs)(h:Int):∃N,N<10*(t.mask+15)/\(sq t.mask h N).j∉t.place.toList/\∀k,k<N->(sq t.mask h k).j∈t.place.toList:=by
 refine qO T.msk (T.ris.imp λh=>AAM h) T.rng ?_ h
 have:=T.few
 rw[AAL]
 rcases T.msk with e | e | e<;>lia
theorem vH{t:SetTable}(hr:t.place.toList.Pairwise (· < ·)){j:Nat}(hj:j∉t.place.toList) :
  (t.put j).1.place.toList=t.place.toList.take (AAd t.place j)++j::t.place.toList.drop (AAd t.place j)/\(t.put j).1.place.toList.Pairwise (· < ·):=by
 obtain⟨b1,b2,b3⟩:=below_spec t.place hr j
 have e:(t.put j).1.place.toList=t.place.toList.take (AAd t.place j)++j::t.place.toList.drop (AAd t.place j):=by
  show (ADl t.place (AAd t.place j) j).toList=_
  rw[SetTable.toList_insertAt]
 refine⟨e,?_⟩
 rw[e,List.pairwise_append]
 refine⟨hr.sublist (List.take_sublist ..),List.pairwise_cons.mpr ⟨λx hx=>?_,hr.sublist (List.drop_sublist ..)⟩,λx hx y hy=>?_⟩
 ·obtain⟨k,hk⟩:=ABB hx
  rw[ADX]at hk
  have hk':t.place[AAd t.place j+k]?=some x:=by rw[←AAQ];exact hk
  obtain⟨hl,ex⟩:=AAr.mp hk'
  have:=b3 _ hl (ADF _ _)
  rw[ex]at this
  rcases ABS j x with z | z
  ·exact z
  ·have:x=j:=by lia
   subst this
   exact absurd (List.mem_of_mem_drop hx) hj
 ·obtain⟨k,hk⟩:=ABB hx
  rw[List.getElem?_take]at hk
  split at hk
  ·rename_i hkl
   have hk':t.place[k]?=some x:=by rw[←AAQ];exact hk
   obtain⟨hl,ex⟩:=AAr.mp hk'
   have h1:=b2 k hl hkl
   rw[ex]at h1
   rcases AAN.mp hy with rfl | hy
   ·exact h1
   ·obtain⟨k2,hk2⟩:=ABB hy
    rw[ADX]at hk2
    have hk2':t.place[AAd t.place j+k2]?=some y:=by rw[←AAQ];exact hk2
    obtain⟨hl2,ey⟩:=AAr.mp hk2'
    have:=b3 _ hl2 (ADF _ _)
    rw[ey]at this
    lia
  ·cases hk
end Ht
namespace L2
open PySem PySem.Spec PyProof.Rows DL PySem.W
theorem eF:Slot "set_iterator" "__iter__" "set_iterator.__iter__" :=
 .of (owner:="set_iterator") (n:="__iter__") (by rw[AEB,ACu];kernel_rfl) (by decide +kernel) (by decide +kernel) (by decide +kernel) (by first | exact .inl (by decide +kernel) | exact .inr (by decide +kernel)) (by rw[isSubtype_type];kernel_rfl)
theorem iS:entryFor table "set_iterator.__iter__" = some Builtin.«dict_keyiterator.__iter__»:=entryFor_alias (id':="dict_keyiterator.__iter__") (by kernel_rfl) rfl (by decide +kernel) (by kernel_rfl)
theorem ko(a:Value):argsOk "set_iterator.__iter__" ⟨[a],[]⟩:=by
 unfold argsOk;rw[signature?_of (id:="set_iterator.__iter__") (n:=['_','_','r','e','t','i','_','_']) (o:=['r','o','t','a','r','e','t','i','_','t','e','s']) (by kernel_rfl) jJ];kernel_rfl
section
variable{prog:Program}{w:World}{A:Around}{E:Value->Shared->Prop}{s:Shared}{a it:Addr}{o:Obj}{es:Array (Int×Value)}{ep:Nat}{t:SetTable}
theorem eX(hI:s.heap.get? it=some (dD first i n a ep))(h:Q (.ref it) s):wpAny (model prog w) A (pyIter (.ref it)) Q E s:=by
 have hT:s.TypeIs (.ref it) "set_iterator":=⟨_,hI,rfl⟩
 refine ADm hT eF (AAt eF hT iS (show wpAny _ _ (ret (.ref it)) _ _ s from ?_) (ko _))
 exact AA2 ⟨_,rfl,"set_iterator",_,hT,aV.lookup,h⟩
theorem SetAt.at(S:SetAt h a o es ep t)(k:∀o,h.get? a=some o->h'.get? a=some o):SetAt h' a o es ep t:=⟨k _ S.ob,S.dt,S.ft⟩
theorem iD(hb:w.params.followText "set-order" = true)(S:SetAt s.heap a o es ep t)(h:Q (((pickOrder (w.params.setOrder a ep) es)[i]?).map λe=>(e.2,0)) s) :
  wpAny (model prog w) A (setNext a 0 i ep) Q E s:=by
 unfold setNext
 refine AA0 (ABE S.ob S.dt S.ft ?_)
 unfold setsByText
 refine AA0 (AA0 (ACL (AA2 ?_)))
 simp only[model,hb,if_true,bne_self_eq_false,AAE,if_false]
 unfold setWalk
 refine AA0 (AA0 (ABE S.ob S.dt S.ft ?_))
 unfold setsByText
 refine AA0 (AA0 (ACL (AA2 ?_)))
 simp only[model,hb,if_true]
 exact AA0 (ACL (AA2 (AA2 h)))
theorem tE(hb:w.params.followText "set-order" = true)(hh:A.handled=none)(hne:a≠it) :
  Walks prog w A it [it,a] [it] es.size (λi v=>((pickOrder (w.params.setOrder a ep) es).toList.map (·.2))[i]?=some v) (λi h=>h.get? it=some (dD (rawInt 0) i es.size a ep)/\SetAt h a o es ep t) where
 sub:=λb hb=>by simp at hb;simp[hb]
 frame:=λ_ _ _ st hk=>⟨hk it (by simp) _ st.1,st.2.at λo e=>hk a (by simp) o e⟩
 item:=λi s Q E hi st hQ=>by
  have hl:(pickOrder (w.params.setOrder a ep) es).size=es.size:=by have:=(jD (w.params.setOrder a ep) es).length_eq;simpa using this
  obtain⟨e,he⟩:∃e,(pickOrder (w.params.setOrder a ep) es)[i]?=some e:=⟨_,AAK (by rw[hl];exact hi)⟩
  refine jP (slot:=0) (next:=0) (x:=e.2) st.1 st.2 (λA E Q q=>iD hb st.2 (by rw[he];exact q)) λh' h1 sb=>hQ _ h' s.toks (by simp[he]) ⟨h1,st.2.at λo e=>(sb.2 a hne).trans e⟩ λb o hb e=>(sb.2 b (by simpa using hb)).trans e
 done:=λs Q E st hQ=>by
  have hl:(pickOrder (w.params.setOrder a ep) es).size=es.size:=by have:=(jD (w.params.setOrder a ep) es).length_eq;simpa using this
  refine dA (slot:=0) hh st.1 st.2 (λA E Q q=>iD hb st.2 ?_) λh' k=>hQ h' s.toks λb o hb e=>k b o (by simpa using hb) e
  rw[ABq (by rw[hl];exact AA8 _)]
  exact q
 self:=λ_ _ _ _ st hQ=>eX st.1 hQ
theorem pW{tt:Addr}{ps:List Nat}(hp:ps.Perm (AAv es.size))(hh:A.handled=none)(hne:a≠it)(hnt:tt≠it) :
  Walks prog w A it [it,a,tt] [it] es.size (λi v=>(ps.filterMap λj=>(es[j]?).map (·.2))[i]?=some v) (λi h=>h.get? it=some (dD (.ref tt) i es.size a ep)/\SetAt h a o es ep t/\h.IsTuple tt (ps.map λ(k:Nat)=>rawInt k).toArray) where
 sub:=λb hb=>by simp at hb;simp[hb]
 frame:=λ_ _ _ st hk=>⟨hk it (by simp) _ st.1,st.2.1.at λo e=>hk a (by simp) o e,let ⟨o,e,r⟩:=st.2.2;⟨o,hk tt (by simp) _ e,r⟩⟩
 item:=λi s Q E hi st hQ=>by
  have hl:ps.length=es.size:=by have:=hp.length_eq;simpa using this
  have hall:∀j∈ps,j<es.size:=λj hj=>by have:=hp.mem_iff.mp hj;simpa using this
  have hj:ps[i]?=some ps[i]:=AA5 (by lia)
  have hlt:ps[i]<es.size:=hall _ (AB8 _)
  have he:es[ps[i]]?=some es[ps[i]]:=AAK hlt
  have fm:(ps.filterMap λj=>(es[j]?).map (·.2))=ps.map λj=>(es.getD j default).2:=by
   clear hj hl hp hi st hQ he hlt
   induction ps with
   | nil=>rfl
   | cons j r ih =>
    have hj:=hall j AAI
    rw[ABr,AAK hj,AAi,←ih λk hk=>hall k (AAA _ hk)]
    simp[ACJ,hj]
  refine tT st.1 st.2.2 st.2.1 hj he λh' h1 sb=>hQ _ h' s.toks ?_ ⟨h1,st.2.1.at λo e=>(sb.2 a hne).trans e,let ⟨o,e,r⟩:=st.2.2;⟨o,(sb.2 tt hnt).trans e,r⟩⟩ λb o hb e=>(sb.2 b (by simpa using hb)).trans e
  rw[fm,AAT,hj]
  simp[ACJ,hlt]
 done:=λs Q E st hQ=>by
  have hl:ps.length=es.size:=by have:=hp.length_eq;simpa using this
  exact kz hh st.1 st.2.2 st.2.1 (ABP (by lia)) λh' k=>hQ h' s.toks λb o hb e=>k b o (by simpa using hb) e
 self:=λ_ _ _ _ st hQ=>eX st.1 hQ
theorem iE(hb:w.params.followText "set-order" = false)(hled:t.led=true)(hsz:es.size<=1)(S:SetAt s.heap a o es ep t)
  (h:Q (match es[AAd t.place slot]?,t.place[AAd t.place slot]? with | some (_,x),some j=>some (x,j+1) | _,_=>none) s) :
  wpAny (model prog w) A (setNext a slot i ep) Q E s:=by
 unfold setNext
 refine AA0 (ABE S.ob S.dt S.ft ?_)
 unfold setsByText
 refine AA0 (AA0 (ACL (AA2 ?_)))
 simp only[model,hb,AAE,if_false]
 refine ABf (λz=>?_) λ_=>?_
 ·have z':(!t.plain&&decide (es.size > 1))=true:=z
  simp at z'
  lia
 ·refine AA0 (show wpAny (model prog w) A (if (!t.led && !es.isEmpty)=true then unsupported _ else pure ()) _ _ s from ?_)
  rw[hled]
  simp only[ABg,Bool.false_and,AAE,if_false]
  exact AA2 (AA2 h)
theorem pO(j k:Nat):AAd #[j] k=if j<k then 1 else 0:=by
 unfold AAd
 simp only[AAD,AAJ,AAb]
 unfold ACD
 simp only[Nat.zero_lt_succ,if_true]
 by_cases h:j<k
 ·simp[h,ACD]
 ·simp[h,ACD]
theorem tF(hb:w.params.followText "set-order" = false)(hled:t.led=true)(hsz:es.size<=1)(hh:A.handled=none)(hne:a≠it) :
  Walks prog w A it [it,a] [it] es.size (λi v=>(es.toList.map (·.2))[i]?=some v) (λi h=>h.get? it=some (dD (rawInt (if i=0 then 0 else t.place.getD 0 0+1:Nat)) i es.size a ep)/\SetAt h a o es ep t) where
 sub:=λb hb=>by simp at hb;simp[hb]
 frame:=λ_ _ _ st hk=>⟨hk it (by simp) _ st.1,st.2.at λo e=>hk a (by simp) o e⟩
 item:=λi s Q E hi st hQ=>by
  obtain rfl:i=0:=by lia
  have ps:t.place.size=1:=by have:=st.2.ft;simp[ADY]at this;lia
  obtain⟨j,hj⟩:∃j,t.place = #[j]:=⟨t.place[0],by apply Array.ext (by simpa using ps);intro i h1 h2;simp at h2;subst h2;rfl⟩
  have he:es[0]?=some es[0]:=AAK hi
  refine jP (slot:=0) (next:=j+1) (x:=es[0].2) st.1 st.2 (λA E Q q=>iE hb hled hsz st.2 ?_) λh' h1 sb=>hQ _ h' s.toks ?_ ⟨?_,st.2.at λo e=>(sb.2 a hne).trans e⟩ λb o hb e=>(sb.2 b (by simpa using hb)).trans e
  ·rw[hj,pO,if_neg (ABd _),he]
   exact q
  ·rw[AAT,AAQ,he];rfl
  ·simpa [hj]using h1
 done:=λs Q E st hQ=>by
  refine dA (slot:=if es.size=0 then 0 else t.place.getD 0 0+1) hh st.1 st.2 (λA E Q q=>iE hb hled hsz st.2 ?_) λh' k=>hQ h' s.toks λb o hb e=>k b o (by simpa using hb) e
  have ps:t.place.size=es.size:=by have:=st.2.ft;simp[ADY]at this;lia
  by_cases z:es.size=0
  ·have:es = #[]:=Array.eq_empty_of_size_eq_zero z
   subst this
   simpa using q
  ·obtain⟨j,hj⟩:∃j,t.place = #[j]:=⟨t.place[0],by apply Array.ext (by simp;lia);intro i h1 h2;simp at h2;subst h2;rfl⟩
   have e1:AAd t.place (if es.size=0 then 0 else t.place.getD 0 0+1)=1:=by rw[if_neg z,hj,pO];simp
   rw[e1,ABq (by lia)]
   exact q
 self:=λ_ _ _ _ st hQ=>eX st.1 hQ
theorem iF(hb:w.params.followText "set-order" = false)(hled:t.led=true)(hnd:(!t.plain&&decide (es.size > 1))=false)(S:SetAt s.heap a o es ep t)
  (h:Q (match es[AAd t.place slot]?,t.place[AAd t.place slot]? with | some (_,x),some j=>some (x,j+1) | _,_=>none) s) :
  wpAny (model prog w) A (setNext a slot i ep) Q E s:=by
 unfold setNext
 refine AA0 (ABE S.ob S.dt S.ft ?_)
 unfold setsByText
 refine AA0 (AA0 (ACL (AA2 ?_)))
 simp only[model,hb,AAE,if_false]
 refine ABf (λz=>?_) λ_=>?_
 ·have z':(!t.plain&&decide (es.size > 1))=true:=z
  rw[hnd]at z';cases z'
 ·refine AA0 (show wpAny (model prog w) A (if (!t.led && !es.isEmpty)=true then unsupported _ else pure ()) _ _ s from ?_)
  rw[hled]
  simp only[ABg,Bool.false_and,AAE,if_false]
  exact AA2 (AA2 h)
theorem tG(hb:w.params.followText "set-order" = false)(hled:t.led=true)(hnd:(!t.plain&&decide (es.size > 1))=false)(hr:t.place.toList.Pairwise (· < ·))(hh:A.handled=none)(hne:a≠it) :
  Walks prog w A it [it,a] [it] es.size (λi v=>(es.toList.map (·.2))[i]?=some v) (λi h=>h.get? it=some (dD (rawInt (if i=0 then 0 else t.place.getD (i-1) 0+1:Nat)) i es.size a ep)/\SetAt h a o es ep t):=by
 have bel:∀i,i<=t.place.size->AAd t.place (if i=0 then 0 else t.place.getD (i-1) 0+1)=i:=λi hi=>by
  obtain⟨b1,b2,b3⟩:=Ht.below_spec t.place hr (if i=0 then 0 else t.place.getD (i-1) 0+1)
  have mono:∀a b (ha:a<t.place.size) (hb:b<t.place.size),a<b->t.place[a]<t.place[b]:=λa b ha hb h=>by
   have:=ADA.mp hr a b (by simpa using ha) (by simpa using hb) h
   simpa using this
  by_cases z:i=0
  ·rw[if_pos z]at b1 b2 b3 ⊢
   rcases Nat.eq_zero_or_pos (AAd t.place 0)with q | q
   ·rw[q,z]
   ·have:=b2 0 (by lia) q
    lia
  ·rw[if_neg z]at b1 b2 b3 ⊢
   have hl:i-1<t.place.size:=by lia
   have eg:t.place.getD (i-1) 0=t.place[i-1]:=by simp[ACJ,hl]
   rw[eg]at b1 b2 b3 ⊢
   rcases AD0 (AAd t.place (t.place[i-1]+1)) i with q | q | q
   ·have:=b3 (i-1) hl (by lia)
    lia
   ·exact q
   ·have:=b2 i (by lia) q
    have:=mono (i-1) i hl (by lia) (by lia)
    lia
 exact {
  sub:=λb hb=>by simp at hb;simp[hb]
  frame:=λ_ _ _ st hk=>⟨hk it (by simp) _ st.1,st.2.at λo e=>hk a (by simp) o e⟩
  item:=λi s Q E hi st hQ=>by
   have ps:t.place.size=es.size:=by have:=st.2.ft;simp[ADY]at this;lia
   have hp:i<t.place.size:=by lia
   have he:es[i]?=some es[i]:=AAK hi
   have hpl:t.place[i]?=some t.place[i]:=AAK hp
   refine jP (next:=t.place[i]+1) (x:=es[i].2) st.1 st.2 (λA E Q q=>iF hb hled hnd st.2 ?_) λh' h1 sb=>hQ _ h' s.toks ?_ ⟨?_,st.2.at λo e=>(sb.2 a hne).trans e⟩ λb o hb e=>(sb.2 b (by simpa using hb)).trans e
   ·rw[bel i (by lia),he,hpl]
    exact q
   ·rw[AAT,AAQ,he];rfl
   ·rw[if_neg (Nat.succ_ne_zero i),ADZ,show t.place.getD i 0=t.place[i] by simp[ACJ,hp]]
    exact h1
  done:=λs Q E st hQ=>by
   have ps:t.place.size=es.size:=by have:=st.2.ft;simp[ADY]at this;lia
   refine dA hh st.1 st.2 (λA E Q q=>iF hb hled hnd st.2 ?_) λh' k=>hQ h' s.toks λb o hb e=>k b o (by simpa using hb) e
   rw[bel es.size (by lia),ABq (AA8 _)]
   exact q
  self:=λ_ _ _ _ st hQ=>eX st.1 hQ }
end
end L2
namespace L2
open PySem PySem.Spec PyProof.Rows DL PySem.W
section
variable{prog:Program}{w:World}{A:Around}{E:Value->Shared->Prop}{s:Shared}{a:Addr}{o:Obj}{es:Array (Int×Value)}{ep:Nat}{t:SetTable}
theorem yR(S:SetAt s.heap a o es ep t)(hc:o.cls=.type "set")(hpl:t.plain=true->es.size<=1\/t.place.toList.Pairwise (· < ·))(hled:t.led = !w.params.followText "set-order")(hz:es.size<=sizeLine)
  (h:∀(it:Addr) (h':Heap) (d:Drawn) (vs:List Value) (fp:List Addr) (St:Nat->Heap->Prop),(∀b o,s.heap.get? b=some o->h'.get? b=some o)->vs.Perm (es.toList.map (·.2))->s.heap.objs.size<=it->it<h'.objs.size->(∀b∈fp,b=a\/s.heap.objs.size<=b/\b<h'.objs.size) ->
   (∀A':Around,A'.handled=none->Walks prog w A' it fp [it] es.size (λi v=>vs[i]?=some v) St)->St 0 h'->Q (.ref it) { s with heap:=h',drawn:=d }):wpAny (model prog w) A (pyIter (.ref a)) Q E s:=by
 have hT:s.TypeIs (.ref a) "set":=⟨o,S.ob,hc⟩
 have la:a<s.heap.objs.size:=AAH S.ob
 refine ADm hT F.slot_set_iter (AAt F.slot_set_iter hT mS ?_ (F.args_set_iter_1 _))
 unfold Builtin.«frozenset.__iter__»
 refine AA0 (show wpAny (model prog w) _ (pure a) _ _ s from AA2 ?_)
 unfold Builtin.Frozenset.sizeOf
 refine AA0 (AA0 (ACg S.ob S.dt S.ft (AA2 ?_)))
 unfold setDrawn
 refine AA0 (AA0 (ABE S.ob S.dt S.ft ?_))
 unfold setsByText
 refine AA0 (AA0 (ACL (AA2 (AA2 ?_))))
 by_cases hd:(!w.params.followText "set-order" && (!t.plain&&decide (es.size > 1)))=true
 ·refine ABf (λ_=>?_) λz=>absurd hd z
  refine AA0 (pz _ _ _ _ (by simp) λps d hp=>?_)
  refine AA0 (show wpAny (model prog w) _ (newObj (.type "tuple") (.seq (ps.map λ(i:Nat)=>rawInt i).toArray)) _ _ _ from AAk ?_ (by have e:=hp.length_eq;rw[AD5]at e;show (ps.map λ(i:Nat)=>rawInt i).toArray.size<=sizeLine;rw[AAD,AA6,e];exact hz))
  have S1:=S.at (h':=s.heap.push { cls:=.type "tuple",data:=.seq (ps.map λ(i:Nat)=>rawInt i).toArray }) λo e=>AA3 _ e
  refine AA0 (wpAny_setEpoch_of (s:={ s with heap:=_,drawn:=d }) S1.ob S1.dt S1.ft ?_)
  refine AA0 (show wpAny (model prog w) _ (newObj (.type "set_iterator") (.fields #[.ref s.heap.objs.size,rawInt 0,.ref a,rawInt es.size,rawInt ep])) _ _ _ from AAk ?_ (by size_fits))
  refine AA2 ⟨_,rfl,"set_iterator",_,⟨_,AAC _ rfl,rfl⟩,aV.lookup,?_⟩
  have sz:(s.heap.push { cls:=.type "tuple",data:=.seq (ps.map λ(i:Nat)=>rawInt i).toArray }).objs.size=s.heap.objs.size+1:=ABR ..
  refine h _ _ d (ps.filterMap λj=>(es[j]?).map (·.2)) _ _ (λb o e=>AA3 _ (AA3 _ e)) ?_ (by show s.heap.objs.size<=(s.heap.push _).objs.size;rw[sz];exact AE7 _) (by show _<((s.heap.push _).push _).objs.size;rw[ABR (h:=s.heap.push _)];exact AAz _) ?_
   (λA' hh=>pW (o:=o) (t:=t) (ep:=ep) hp hh (AAM (by rw[sz];exact ABs la)) (AAM (by rw[sz];exact AAz _))) ⟨AAC _ rfl,S1.at λo e=>AA3 _ e,⟨_,AA3 _ (AAC _ rfl),rfl,_,rfl⟩⟩
  ·refine(hp.filterMap _).trans ?_
   have e1:(AAv es.size).filterMap (λj=>(es[j]?).map (·.2))=((AAv es.size).filterMap λj=>es[j]?).map (·.2):=by rw[List.map_filterMap]
   rw[e1,filterMap_getElem?_range]
  ·intro b hb
   rw[ABR,sz]
   rcases AAN.mp hb with rfl | hb
   ·exact .inr ⟨by rw[sz];exact AE7 _,by rw[sz];exact AAz _⟩
   ·rcases AAN.mp hb with rfl | hb
    ·exact .inl rfl
    ·rw[AC4.mp hb]
     exact .inr ⟨AA8 _,ABs (AAz _)⟩
 ·refine ABf (λz=>absurd z hd) λ_=>?_
  refine AA0 (AA2 (AA0 (wpAny_setEpoch_of S.ob S.dt S.ft ?_)))
  refine AA0 (show wpAny (model prog w) _ (newObj (.type "set_iterator") (.fields #[rawInt 0,rawInt 0,.ref a,rawInt es.size,rawInt ep])) _ _ _ from AAk ?_ (by size_fits))
  refine AA2 ⟨_,rfl,"set_iterator",_,⟨_,AAC _ rfl,rfl⟩,aV.lookup,?_⟩
  have S1:=S.at (h':=s.heap.push (dD (rawInt 0) 0 es.size a ep)) λo e=>AA3 _ e
  have fpl:∀b∈[s.heap.objs.size,a],b=a\/s.heap.objs.size<=b/\b<(s.heap.push (dD (rawInt 0) 0 es.size a ep)).objs.size:=λb hb=>by
   rcases AAN.mp hb with rfl | hb
   ·exact .inr ⟨AA8 _,by rw[ABR];exact AAz _⟩
   ·exact .inl (AC4.mp hb)
  by_cases hb:w.params.followText "set-order" = true
  ·refine h _ _ s.drawn ((pickOrder (w.params.setOrder a ep) es).toList.map (·.2)) _ _ (λb o e=>AA3 _ e) ((jD _ es).map _) (AA8 _) (by rw[ABR];exact AAz _) fpl
    (λA' hh=>tE (o:=o) (t:=t) (ep:=ep) hb hh (AAM la)) ⟨AAC _ rfl,S1⟩
  ·have hb':w.params.followText "set-order" = false:=by simpa using hb
   have hnd:(!t.plain&&decide (es.size > 1))=false:=by
    rw[hb']at hd
    simpa using hd
   have ax:es.size<=1\/t.place.toList.Pairwise (· < ·):=by
    by_cases q:t.plain=true
    ·exact hpl q
    ·simp[q]at hnd
     exact .inl hnd
   rcases ax with h1 | hr
   ·refine h _ _ s.drawn (es.toList.map (·.2)) _ _ (λb o e=>AA3 _ e) (ACl _) (AA8 _) (by rw[ABR];exact AAz _) fpl
     (λA' hh=>tF (o:=o) (t:=t) (ep:=ep) hb' (by rw[hled,hb'];rfl) h1 hh (AAM la)) ⟨?_,S1⟩
    rw[if_pos rfl]
    exact AAC _ rfl
   ·refine h _ _ s.drawn (es.toList.map (·.2)) _ _ (λb o e=>AA3 _ e) (ACl _) (AA8 _) (by rw[ABR];exact AAz _) fpl
     (λA' hh=>tG (o:=o) (t:=t) (ep:=ep) hb' (by rw[hled,hb'];rfl) hnd hr hh (AAM la)) ⟨?_,S1⟩
    rw[if_pos rfl]
    exact AAC _ rfl
end
end L2
namespace L2
open PySem PySem.Spec PyProof.Rows DL PySem.W PySem.Calls PyProof.V
section
variable{prog:Program}{w:World}{A:Around}{E:Value->Shared->Prop}{s:Shared}{a:Addr}{o:Obj}{es:Array (Int×Value)}{ep:Nat}{t:SetTable}
theorem yT(hT:s.TypeIs (.ref a) "set")(h:Q false s):wpAny (model prog w) A (AEC (.ref a)) Q E s:=by
 unfold AEC
 refine AA0 (AC0 hT F.slot_set_len.lookup ?_)
 generalize hi:("set.__len__":String)=ident
 wp_delta
 rw[show splitId ident=some ("set","__len__") by rw[←hi];decide +kernel]
 rw[←hi]
 refine AA0 (ACM (T:="set") (b:=true) hT sub_set_self (ABf (λz=>absurd z (by decide)) λ_=>ABf (λ_=>AA0 (ACc hT (AA2 h))) λz=>absurd (by decide +kernel) z))
theorem uh{R:Result->Shared->Prop}(hh:A.handled=none)(S:SetAt s.heap a o es ep t)(hc:o.cls=.type "set")(hpl:t.plain=true->es.size<=1\/t.place.toList.Pairwise (· < ·))(hled:t.led = !w.params.followText "set-order")(hz:es.size<=sizeLine)
  {D:Addr}{c₀:Nat} (hDa:D≠a) (hD:s.heap.get? D=some { cls:=.type "list",data:=.seq #[] c₀ }) (res:Value)
  (hR:∀h' tk d vs c,(∀b u,b≠D->s.heap.get? b=some u->h'.get? b=some u)->h'.get? D=some { cls:=.type "list",data:=.seq vs c }->vs.toList.Perm (es.toList.map (·.2))->R (.ok (.ret res)) { s with heap:=h',toks:=tk,drawn:=d }) :
  wpAny (model prog w) A.in1 (ACH (.ref D) (.ref a) res)
   (λfin s'=>match fin with | .done f=>R (.ok f) s' | .again c'=>c'.quiet=true/\codeAny (model prog w) A c' R s') (λe s'=>R (.error e) s') s:=by
 have ld:D<s.heap.objs.size:=AAH hD
 have hT:s.TypeIs (.ref a) "set":=⟨o,S.ob,hc⟩
 unfold ACH
 refine AA0 (ACc hT ?_)
 have e1:Builtin.List.listSameRef (.ref D) (.ref a)=false:=by simp[Builtin.List.listSameRef,hDa]
 have e2:(ADG "set" == ADG "list")=false:=by decide
 have e3:(ADG "set" == ADG "tuple")=false:=by decide
 simp only[e1,e2,e3,Bool.or_false,AAE,if_false]
 refine AA0 (yR S hc hpl hled hz λit h1 d vs fp St k1 pv lit uit hfp W st=>?_)
 have hDf:D∉fp:=λz=>by
  rcases hfp D z with e | ⟨e,_⟩
  ·exact hDa e
  ·exact absurd ld (ACz.mpr e)
 have lv:vs.length=es.size:=by have:=pv.length_eq;simpa using this
 have go:∀(h:Heap) (c₁:Nat),St 0 h->(∀b u,b≠D->h1.get? b=some u->h.get? b=some u)->h.get? D=some { cls:=.type "list",data:=.seq #[] c₁ } ->
   codeAny (model prog w) A (.builtin "list.extend.loop" ⟨[.ref D,.ref it,res],[]⟩) R { s with heap:=h,drawn:=d }:=λh c₁ st' kk hD'=>by
  refine codeAny_extend_loopS (W A.in1 (by simp[hh])).toS hz D hDf res es.size 0 _ #[] c₁ rfl (AAS _) st' hD' (ItemsOf.nil _) λs' acc c' hm hD'' hacc=>?_
  rw[Moved.eq_with hm]
  have ea:acc.toList=vs:=by
   apply ADj
   intro i
   by_cases hi:i<es.size
   ·have hi':i<acc.size:=by rw[hacc.1];exact hi
    have h1:acc[i]?=some acc[i]:=AAK hi'
    rw[AAQ,h1]
    exact(hacc.2 i _ h1).symm
   ·rw[ABP (by rw[AAL,hacc.1];lia),ABP (by lia)]
  refine hR s'.heap s'.toks d acc c' (λb u hb e=>hm.heap b u (λz=>?_) (kk b u hb (k1 b u e))) hD'' (by rw[ea];exact pv)
  rcases AAN.mp z with e' | z
  ·exact hb e'
  ·rw[AC4.mp z]at e
   exact absurd (AAH e) (ACz.mpr lit)
 have hD1:=k1 _ _ hD
 refine AA0 (AAh (yT (s:={ s with heap:=h1,drawn:=d }) ⟨o,k1 _ _ S.ob,hc⟩ ?_))
 refine ABf (λz=>?_) λ_=>AA2 ⟨AD3 F.plain_extend_loop _,go h1 c₀ st (λ_ _ _ e=>e) hD1⟩
 refine AA0 (ABX (AA0 (show wpAny (model prog w) _ (updateSeq D (·.push .none) >>= λ_=>updateSeq D (·.pop)) _ _ _ from AA0 (wpAny_updateSeq hD1 rfl ?_))))
 have hD2:=AAe (ABA (·.push ABi)) hD1 rfl
 refine wpAny_updateSeq (hz:=by seq_fits) hD2 rfl ?_
 have hD3:=AAe (ABA (·.pop)) hD2 rfl
 have other:∀b,b≠D->((h1.update D (ABA (·.push ABi))).update D (ABA (·.pop))).get? b=h1.get? b:=λb hb=>by
  rw[ABo _ _ (ABC hb),ABo _ _ (ABC hb)]
 refine AA2 ⟨AD3 F.plain_extend_loop _,go _ _ ((W A hh).frame 0 _ _ st λb hb u e=>(other b λq=>hDf (q ▸ hb)).trans e) (λb u hb e=>(other b hb).trans e) hD3⟩
theorem tL{Q:Value->Shared->Prop}(hh:A.handled=none)(S:SetAt s.heap a o es ep t)(hc:o.cls=.type "set")(hpl:t.plain=true->es.size<=1\/t.place.toList.Pairwise (· < ·))(hled:t.led = !w.params.followText "set-order")(hz:es.size<=sizeLine)
  (h:∀h' tk d D (vs:List Value),(∀b u,s.heap.get? b=some u->h'.get? b=some u)->s.heap.get? D=none->h'.get? D=some { cls:=.type "list",data:=.seq vs.toArray }->vs.Perm (es.toList.map (·.2)) ->
   wpAny (model prog w) A.in1 (call (.builtin "list.sort") [.ref D]) (λ_ s'=>Q (.ref D) s') E { s with heap:=h',toks:=tk,drawn:=d }):wpAny (model prog w) A (call (.builtin "sorted") [.ref a]) Q E s:=by
 have la:a<s.heap.objs.size:=AAH S.ob
 refine call_function_entry kind_sorted plain_sorted entry_sorted (args_sorted1 _) ?_
 unfold Builtin.«sorted»
 refine AA0 (m:=checkCount "sorted" 1 1 _) (AA2 ?_)
 unfold collect
 refine AA0 (AA0 (wpAny_runValue (ABe F.entry_proto_collect ?_)))
 rw[ABj F.plain_proto_collect _]
 refine(show wpAny (model prog w) _ (newList [] >>= λl=>again (.builtin "list.__iadd__" ⟨[l,.ref a],[]⟩)) _ _ s from AA0 (AAk (AA2 ⟨AD3 F.plain_list_iadd _,ABe F.entry_list_iadd ?_⟩)))
 rw[ABj F.plain_list_iadd _]
 have S1:=S.at (h':=s.heap.push { cls:=.type "list",data:=.seq ([]:List Value).toArray }) λo e=>AA3 _ e
 have key:=uh (prog:=prog) (A:=A.in1) (s:={ s with heap:=s.heap.push { cls:=.type "list",data:=.seq ([]:List Value).toArray } }) (D:=s.heap.objs.size) (c₀:=0) (res:=.ref s.heap.objs.size)
  (R:=λr s'=>∃h' tk d vs c,r=.ok (.ret (.ref s.heap.objs.size))/\s'={ s with heap:=h',toks:=tk,drawn:=d }/\(∀b u,s.heap.get? b=some u->h'.get? b=some u)/\h'.get? s.heap.objs.size=some { cls:=.type "list",data:=.seq vs c }/\vs.toList.Perm (es.toList.map (·.2)))
  (by simp[hh]) S1 hc hpl hled hz (Nat.ne_of_gt la) (AAC _ rfl) λh' tk d vs c k hD p=>⟨h',tk,d,vs,c,rfl,rfl,λb u e=>k b u (AAM (AAH e)) (AA3 _ e),hD,p⟩
 have last:∀h' tk d (vs:Array Value) c,(∀b u,s.heap.get? b=some u->h'.get? b=some u)->h'.get? s.heap.objs.size=some { cls:=.type "list",data:=.seq vs c }->vs.toList.Perm (es.toList.map (·.2)) ->
   wpAny (model prog w) A.in1 (do let ob ←load s.heap.objs.size;match ob.data with | .seq xs _=>pure xs.toList | _=>unsupported "internal:collect":Sem (List Value))
    (λxs s'=>wpAny (model prog w) A.in1 (do let l ←newList xs;let _ ←holding [l] (call (.builtin "list.sort") [l] []);ret l) (λfin s'=>∃v,fin=Fin.done (Flow.ret v)/\Q v s') E s') E { s with heap:=h',toks:=tk,drawn:=d }:=λh' tk d vs c kk hD p=>by
  refine AA0 (wpAny_load hD (AA2 (AA0 (AD1 ?_ (by rw[p.length_eq];simpa using hz)))))
  have la':s.heap.objs.size<h'.objs.size:=AAH hD
  refine AA0 (AAh (AB7 (h (h'.push { cls:=.type "list",data:=.seq vs.toList.toArray }) tk d h'.objs.size vs.toList (λb u e=>AA3 _ (kk b u e)) ?_ (AAC _ rfl) p) (λ_ s' q=>AA2 ⟨_,rfl,q⟩) λ_ _ z=>z))
  cases q:s.heap.get? h'.objs.size with
  | none=>rfl
  | some o'=>exact absurd (AAH (kk _ _ q)) (AAn _)
 refine AB7 key (λfin s' x=>?_) λe s' ⟨_,_,_,_,_,z,_⟩=>by cases z
 cases fin with
 | done f =>
  obtain⟨h',tk,d,vs,c,z,rfl,kk,hD,p⟩:=x
  cases z
  exact last h' tk d vs c kk hD p
 | again c' =>
  refine⟨x.1,ADH x.2 λr s2 ⟨h',tk,d,vs,c,z,e,kk,hD,p⟩=>?_⟩
  subst z e
  exact last h' tk d vs c kk hD p
end
end L2
namespace L2
open PySem PySem.Spec PyProof.Rows DL PySem.W
section
variable{X:Cx}{e:Expr}{te:DTE}{p p' pos pos':Pos}{k:Nat}
theorem Inv.drew(I:Inv X pins σ H s):Inv X pins σ H { s with drawn:=d } :=
 ⟨I.ok,I.os,I.bare,I.base,I.loc,I.cell,I.free,I.freeC,I.pin,I.hok,I.len⟩
end
end L2
namespace L2
open PySem PySem.Spec PyProof.Rows DL PySem.Builtin PySem.Builtin.Str PySem.StrLaws
theorem xv(a b len:Nat):strSliceIndices (some (a:Int)) (some (b:Int)) 1 len=strSliceIndices (some ((min a len:Nat):Int)) (some ((min b len:Nat):Int)) 1 len:=by
 have e:∀i:Nat,max (0:Int) (min (i:Int) (len:Int))=max (0:Int) (min ((min i len:Nat):Int) (len:Int)):=λi=>by lia
 have n:∀i:Nat,¬((i:Int)<0):=λi=>by lia
 simp only[strSliceIndices,n,if_false,show ((1:Int) > 0)=True by simp,if_true]
 rw[e a,e b]
theorem gx(x:Str)(l u:Option Int):(AE8 x l u).cps.toList=if (strSliceIndices l u 1 x.length).length=x.length then x.cps.toList else(strSliceIndices l u 1 x.length).filterMap (x.cps[·]?):=by
 unfold AE8
 by_cases h:(strSliceIndices l u 1 x.length).length=x.length
 ·rw[if_pos (by simp[h]),if_pos h]
 ·rw[if_neg (by simp[h]),if_neg h]
theorem vA(x:Str){a b:Nat}(hab:a<=b):(AE8 x (some (a:Int)) (some (b:Int))).cps.toList=(x.cps.toList.drop a).take (b-a):=by
 have hm:min a x.length<=min b x.length:=by lia
 have key:(strSliceIndices (some ((min a x.length:Nat):Int)) (some ((min b x.length:Nat):Int)) 1 x.length).filterMap (x.cps[·]?)=(x.cps.toList.drop (min a x.length)).take (min b x.length-min a x.length):=sliced_plain x hm (Nat.min_le_right ..)
 have ll:=jU (a:=x)
 have fin:(x.cps.toList.drop (min a x.length)).take (min b x.length-min a x.length)=(x.cps.toList.drop a).take (b-a):=by
  by_cases ha:a<=x.length
  ·rw[Nat.min_eq_left ha]
   by_cases hb:b<=x.length
   ·rw[Nat.min_eq_left hb]
   ·rw[Nat.min_eq_right (by lia),ACo (by rw[ABk];lia),ACo (by rw[ABk];lia)]
  ·rw[List.drop_eq_nil_of_le (i:=a) (by lia),List.drop_eq_nil_of_le (i:=min a x.length) (by lia)]
   simp
 rw[gx,xv,key,fin]
 split
 ·rename_i h
  rw[strSliceIndices_plain hm (Nat.min_le_right ..)]at h
  simp only[AA6,AD5]at h
  have h0:min a x.length=0:=by lia
  by_cases hx:x.length=0
  ·have:x.cps.toList=[]:=List.eq_nil_of_length_eq_zero (by lia)
   rw[this];simp
  ·have:a=0:=by lia
   subst this
   rw[List.drop_zero,ACo (by lia)]
 ·rfl
end L2
namespace L2
open PySem PySem.Spec PyProof.Rows DL PySem.W
section
variable{X:Cx}
def AL:DR2:=λx y M Q=>match x,y with
 | .int i,.int j=>CPow i j/\Q (.int (i ^ j.toNat)) M
 | _,_=>False
theorem DP:OpD X (binaryOp .Pow) AL:=by
 refine OpR.imp Dx λvx vy H R ⟨x,y,M,ρ,Q,sm,r1,r2,q,k⟩=>?_
 unfold AL at q
 split at q
 ·cases r1
  cases r2
  exact⟨_,_,rfl,rfl,q.1,k _ H (VQ.now sm (.int _) q.2)⟩
 ·exact q.elim
theorem Ad:HOp X (binaryOp .Pow) AL:=⟨DP⟩
end
end L2
namespace Ht
open PySem
def Occ(ow:Array (Option Nat))(s:Nat):Prop:=∃i,ow[s]?=some (some i)
theorem getD_none(hs:s<ow.size):(ow.getD s (some 0)).isNone=true↔¬Occ ow s:=by
 have e:ow[s]?=some ow[s]:=AAK hs
 have e2:ow.getD s (some 0)=ow[s]:=by simp[ACJ,hs]
 rw[e2]
 unfold Occ
 rw[e]
 cases ow[s]<;>simp
theorem xc(hz:ow.size=m+1)(h:Int):∀(fuel k0 k:Nat),k0<=k->k<k0+fuel->¬Occ ow (dj m h k).1->(∀n,n<dL m h k0->Occ ow (sq m h n).j) ->
  ∃N,ACp m ow fuel (dj m h k0).1 (dj m h k0).2=some (sq m h N).j/\¬Occ ow (sq m h N).j/\∀n,n<N->Occ ow (sq m h n).j:=by
 intro fuel
 induction fuel with
 | zero=>intro k0 k h1 h2;lia
 | succ fuel ih =>
  intro k0 k h1 h2 h3 h4
  have ile:=qi m h k0
  have rle:AAu m (dj m h k0).1<=m/\(dj m h k0).1<=AAu m (dj m h k0).1:=by
   unfold AAu;split<;>lia
  unfold ACp
  cases hf:(AAv (AAu m (dj m h k0).1+1-(dj m h k0).1)).find? λk=>(ow.getD ((dj m h k0).1+k) (some 0)).isNone with
  | some r =>
   have hr:=AED hf
   have hmem:=List.mem_of_find?_eq_some hf
   rw[AB1]at hmem
   refine⟨dL m h k0+r,by rw[vz m h k0 r (by lia)],?_,λn hn=>?_⟩
   ·rw[vz m h k0 r (by lia)]
    exact(getD_none (by lia)).mp hr
   ·rcases ABS n (dL m h k0)with q | q
    ·exact h4 n q
    ·obtain⟨r',rfl⟩:∃r',n=dL m h k0+r':=⟨n-dL m h k0,by lia⟩
     rw[vz m h k0 r' (by lia)]
     refine AB3 λhno=>?_
     have hlt:r' < r:=by lia
     have z:=(getD_none (ow:=ow) (s:=(dj m h k0).1+r') (by lia)).mpr hno
     have:=List.find?_range_eq_some.mp hf
     have:=this.2.2 r' hlt
     rw[z]at this
     exact absurd this (by simp)
  | none =>
   have all:∀r,r<=AAu m (dj m h k0).1-(dj m h k0).1->Occ ow ((dj m h k0).1+r):=λr hr=>by
    refine AB3 λhno=>?_
    have z:=(getD_none (ow:=ow) (s:=(dj m h k0).1+r) (by lia)).mpr hno
    have:=List.find?_eq_none.mp hf r (AB1.mpr (by lia))
    exact this z
   have hk:k0≠k:=λe=>by subst e;exact h3 (all 0 (AAS _))
   refine ih (k0+1) k (by lia) (by lia) h3 λn hn=>?_
   unfold dL at hn
   rcases ABS n (dL m h k0)with q | q
   ·exact h4 n q
   ·obtain⟨r',rfl⟩:∃r',n=dL m h k0+r':=⟨n-dL m h k0,by lia⟩
    rw[vz m h k0 r' (by lia)]
    exact all r' (by lia)
structure Laid(m:Nat)(hs:List Int)(ow:Array (Option Nat))(k:Nat):Prop where
 sz:ow.size=m+1
 lt:∀s i:Nat,ow[s]?=some (some i)->i<k
 inj:∀s s' i:Nat,ow[s]?=some (some i)->ow[s']?=some (some i)->s=s'
 all:∀i:Nat,i<k->∃s:Nat,ow[s]?=some (some i)
 path:∀(s i:Nat) (h:Int),ow[s]?=some (some i)->hs[i]?=some h->∃n,(sq m h n).j=s/\∀n',n' < n->Occ ow (sq m h n').j
theorem Laid.room(L:Laid m hs ow k)(hk:k<=m):∃s,s<=m/\¬Occ ow s:=by
 refine AB3 λhc=>?_
 have occ:∀s,s<=m->Occ ow s:=λs hs=>AB3 λz=>hc ⟨s,hs,z⟩
 have idx:∀s,s∈AAv (m+1)->((ow.getD s none).getD 0)∈AAv k:=λs hs'=>by
  obtain⟨i,e⟩:=occ s (by have:=AB1.mp hs';lia)
  have:ow.getD s none=some i:=by
   obtain⟨hl,z⟩:=AAr.mp e
   simp[ACJ,hl,z]
  rw[this]
  exact AB1.mpr (L.lt s i e)
 have nd:((AAv (m+1)).map λs=>(ow.getD s none).getD 0).Nodup:=by
  rw[ABn,ADn]
  have base:=List.nodup_range (n:=m+1)
  rw[ABn]at base
  refine base.imp_of_mem λ{a b} ha hb hne e=>hne ?_
  obtain⟨i,ei⟩:=occ a (by have:=AB1.mp ha;lia)
  obtain⟨j,ej⟩:=occ b (by have:=AB1.mp hb;lia)
  have e1:ow.getD a none=some i:=by
   obtain⟨hl,z⟩:=AAr.mp ei
   simp[ACJ,hl,z]
  have e2:ow.getD b none=some j:=by
   obtain⟨hl,z⟩:=AAr.mp ej
   simp[ACJ,hl,z]
  rw[e1,e2]at e
  have:i=j:=e
  subst this
  exact L.inj a b i ei ej
 have:=L2.nodup_le _ (AAv k) nd λx hx=>by
  obtain⟨s,hs',rfl⟩:=AAO.mp hx
  exact idx s hs'
 rw[AA6,AD5,AD5]at this
 lia
theorem Laid.step(hm:kJ m)(L:Laid m hs ow k)(hk:k<=m)(hh:hs[k]?=some h) :
  ∃j,ACp m ow (ADB m) (ABy h % (m+1)) (ABy h)=some j/\Laid m hs (ow.setIfInBounds j (some k)) (k+1):=by
 obtain⟨s,hs1,hs2⟩:=L.room hk
 obtain⟨k',hk',e⟩:=Am hm h hs1
 obtain⟨N,f1,f2,f3⟩:=xc L.sz h (ADB m) 0 k' (AAS _) (by unfold ADB;lia) (by rw[e];exact hs2) λn hn=>absurd hn (ABd _)
 refine⟨(sq m h N).j,f1,?_⟩
 have jl:(sq m h N).j<ow.size:=by have:=vt (m:=m) h N;rw[L.sz];lia
 have same:(ow.setIfInBounds (sq m h N).j (some k))[(sq m h N).j]?=some (some k):=by
  rw[Array.getElem?_setIfInBounds_self_of_lt jl]
 have other:∀s,s≠(sq m h N).j->(ow.setIfInBounds (sq m h N).j (some k))[s]?=ow[s]?:=λs hne=>Array.getElem?_setIfInBounds_ne (ABC hne)
 have grow:∀s,Occ ow s->Occ (ow.setIfInBounds (sq m h N).j (some k)) s:=λs ⟨i,z⟩=>by
  by_cases q:s=(sq m h N).j
  ·subst q;exact⟨k,same⟩
  ·exact⟨i,by rw[other s q];exact z⟩
 have wh:∀s i,(ow.setIfInBounds (sq m h N).j (some k))[s]?=some (some i)->(s=(sq m h N).j/\i=k)\/(s≠(sq m h N).j/\ow[s]?=some (some i)):=λs i z=>by
  by_cases q:s=(sq m h N).j
  ·subst q;rw[same]at z;cases z;exact .inl ⟨rfl,rfl⟩
  ·rw[other s q]at z;exact .inr ⟨q,z⟩
 refine⟨by rw[Array.size_setIfInBounds];exact L.sz,λs i z=>?_,λs s' i z z'=>?_,λi hi=>?_,λs i h' z hh'=>?_⟩
 ·rcases wh s i z with⟨_,e⟩|⟨_,z⟩
  ·lia
  ·have:=L.lt s i z;lia
 ·rcases wh s i z with⟨e1,e2⟩|⟨_,z⟩
  ·rcases wh s' i z' with⟨e3,_⟩|⟨_,z'⟩
   ·rw[e1,e3]
   ·have:=L.lt s' i z';lia
  ·rcases wh s' i z' with⟨_,e4⟩|⟨_,z'⟩
   ·have:=L.lt s i z;lia
   ·exact L.inj s s' i z z'
 ·by_cases q:i=k
  ·subst q;exact⟨_,same⟩
  ·obtain⟨s,z⟩:=L.all i (by lia)
   refine⟨s,?_⟩
   rw[other s λe=>f2 ⟨i,by rw[←e];exact z⟩]
   exact z
 ·rcases wh s i z with⟨e1,e2⟩|⟨_,z⟩
  ·subst e1 e2
   rw[hh]at hh';cases hh'
   exact⟨N,rfl,λn' hn'=>grow _ (f3 n' hn')⟩
  ·obtain⟨n,a1,a2⟩:=L.path s i h' z hh'
   exact⟨n,a1,λn' hn'=>grow _ (a2 n' hn')⟩
theorem Bx(hm:kJ m)(hs:List Int)(hl:hs.length<=m):∃ow,SetTable.layClean m hs.toArray=some ow/\Laid m hs ow hs.length:=by
 have start:Laid m hs (Array.replicate (m+1) none) 0:=by
  have no:∀s i:Nat,(Array.replicate (m+1) (none:Option Nat))[s]?≠some (some i):=λs i z=>by
   rw[Array.getElem?_replicate]at z
   split at z<;>cases z
  exact⟨by simp,λs i z=>absurd z (no s i),λs _ i z=>absurd z (no s i),λi hi=>absurd hi (ABd _),λs i _ z=>absurd z (no s i)⟩
 have go:∀(aI:List Int) (k:Nat) (ow:Array (Option Nat)),hs.drop k=aI->k+aI.length=hs.length->Laid m hs ow k ->
   ∃ow',aI.foldl (init:=some (ow,k)) (λacc h=>do
    let (owner,k) ←acc
    let j ←ACp m owner (ADB m) (ABy h % (m+1)) (ABy h)
    pure (owner.setIfInBounds j (some k),k+1))=some (ow',hs.length)/\Laid m hs ow' hs.length:=by
  intro aI
  induction aI with
  | nil =>
   intro k ow e hk L
   have:k=hs.length:=by simpa using hk
   subst this
   exact⟨ow,rfl,L⟩
  | cons h aI ih =>
   intro k ow e hk L
   have hh:hs[k]?=some h:=by
    have:(hs.drop k)[0]?=some h:=by rw[e];rfl
    rw[ADX]at this
    simpa using this
   rw[AAJ]at hk
   obtain⟨j,f1,L'⟩:=L.step hm (by lia) hh
   obtain⟨ow',g1,g2⟩:=ih (k+1) (ow.setIfInBounds j (some k)) (by
    have:hs.drop (k+1)=(hs.drop k).drop 1:=by rw[List.drop_drop]
    rw[this,e];rfl) (by lia) L'
   refine⟨ow',?_,g2⟩
   rw[List.foldl_cons]
   simp only[Option.bind_eq_bind,Option.bind_some,f1,Option.pure_def]
   exact g1
 obtain⟨ow,g1,g2⟩:=go hs 0 _ rfl (by simp) start
 refine⟨ow,?_,g2⟩
 unfold SetTable.layClean
 rw[←Array.foldl_toList]
 have:hs.toArray.toList=hs:=by simp
 rw[this,g1]
 rfl
end Ht
namespace Ht
open PySem
theorem jE{α:Type}[DecidableEq α]:∀{l l':List α},l.Nodup->l'.Nodup->(∀x,x∈l↔x∈l')->l.Perm l'
 | [],l',_,_,h=>by
  have:l'=[]:=List.eq_nil_iff_forall_not_mem.mpr λx hx=>absurd ((h x).mpr hx) (by simp)
  rw[this]
 | x::l,l',n,n',h=>by
  have hx:x∈l':=(h x).mp AAI
  have n1:=ABb.mp n
  refine(AEK x (jE n1.2 (n'.erase x) λy=>?_)).trans (List.perm_cons_erase hx).symm
  by_cases e:y=x
  ·subst e
   constructor
   ·intro z;exact absurd z n1.1
   ·intro z;exact absurd z (List.Nodup.not_mem_erase n')
  ·rw[List.mem_erase_of_ne e,←h y,AAN]
   exact⟨.inr,λz=>z.resolve_left e⟩
def bi(m:Nat)(ow:Array (Option Nat)):List (Nat×Nat):=(AAv (m+1)).filterMap λj=>(ow.getD j none).map (j,·)
theorem dB(L:Laid m hs ow k):(s,i)∈bi m ow↔ow[s]?=some (some i):=by
 unfold bi
 rw[ADN]
 constructor
 ·rintro⟨j,hj,e⟩
  have hj':j<ow.size:=by rw[L.sz];exact AB1.mp hj
  have e2:ow.getD j none=ow[j]:=by simp[ACJ,hj']
  rw[e2]at e
  cases q:ow[j] with
  | none=>rw[q]at e;cases e
  | some i' =>
   rw[q]at e
   have:=AAR e
   cases this
   rw[AAK hj',q]
 ·intro e
  obtain⟨hl,z⟩:=AAr.mp e
  refine⟨s,AB1.mpr (by rw[←L.sz];exact hl),?_⟩
  have e2:ow.getD s none=ow[s]:=by simp[ACJ,hl]
  rw[e2,z];rfl
theorem oN(m:Nat)(ow:Array (Option Nat)):((bi m ow).map (·.1)).Pairwise (· < ·):=by
 unfold bi
 rw[ADn]
 refine List.Pairwise.filterMap (R:=(· < ·)) _ (λa a' h b hb b' hb'=>?_) (List.pairwise_lt_range)
 obtain⟨x,_,rfl⟩:=ABT.mp hb
 obtain⟨y,_,rfl⟩:=ABT.mp hb'
 exact h
theorem oO(L:Laid m hs ow hs.length):((bi m ow).map (·.2)).Perm (AAv hs.length):=by
 have nd1:(bi m ow).Nodup:=by
  have:=oN m ow
  rw[ADn]at this
  exact this.imp λh e=>by rw[e]at h;exact AAn _ h
 have nd:((bi m ow).map (·.2)).Nodup:=by
  rw[ABn,ADn]
  rw[ABn]at nd1
  refine nd1.imp_of_mem λ{a b} ha hb hne e=>hne ?_
  obtain⟨s,i⟩:=a
  obtain⟨s',i'⟩:=b
  have e':i=i':=e
  subst e'
  rw[L.inj s s' i ((dB L).mp ha) ((dB L).mp hb)]
 refine jE nd List.nodup_range λi=>?_
 rw[AB1,AAO]
 constructor
 ·rintro⟨⟨s,i'⟩,hm,rfl⟩
  exact L.lt s i' ((dB L).mp hm)
 ·intro hi
  obtain⟨s,e⟩:=L.all i hi
  exact⟨(s,i),(dB L).mpr e,rfl⟩
end Ht
namespace Ht
open PySem
theorem mP{α:Type}{l:List α}{p:Nat}{x y:α}(hp:p<=l.length){i:Nat}(h:(l.take p++x::l.drop p)[i]?=some y):(i<p/\l[i]?=some y)\/(i=p/\y=x)\/(p<i/\l[i-1]?=some y):=by
 have lt:(l.take p).length=p:=by rw[AB2];lia
 rcases AD0 i p with q | q | q
 ·rw[AAP (by lia),List.getElem?_take,if_pos q]at h
  exact .inl ⟨q,h⟩
 ·subst q
  rw[AAg (by lia),lt,ADL]at h
  exact .inr (.inl ⟨rfl,(AAR h).symm⟩)
 ·rw[AAg (by lia),lt]at h
  obtain⟨r,hr⟩:∃r,i-p=r+1:=⟨i-p-1,by lia⟩
  rw[hr,ACB,ADX]at h
  exact .inr (.inr ⟨q,by rw[show i-1=p+r by lia];exact h⟩)
structure TPre(t:SetTable)(hs:List Int):Prop where
 msk:kJ t.mask
 len:t.place.size=hs.length
 nod:t.dummies = #[]
 ris:t.place.toList.Pairwise (· < ·)
 rng:∀j∈t.place.toList,j<=t.mask
 path:∀(i:Nat) (h:Int) (j:Nat),hs[i]?=some h->t.place[i]?=some j->∃n,(sq t.mask h n).j=j/\∀n',n' < n->(sq t.mask h n').j∈t.place.toList
theorem put_pre(T:TOk t hs)(h2:(sq t.mask h N).j∉t.place.toList)(h3:∀k,k<N->(sq t.mask h k).j∈t.place.toList)(pl:Bool) :
  (t.put (sq t.mask h N).j).2<=hs.length/\TPre { (t.put (sq t.mask h N).j).1 with plain:=pl } (hs.take (t.put (sq t.mask h N).j).2++h::hs.drop (t.put (sq t.mask h N).j).2):=by
 obtain⟨e,ris⟩:=vH T.ris h2
 obtain⟨b1,_,_⟩:=below_spec t.place T.ris (sq t.mask h N).j
 have bl:AAd t.place (sq t.mask h N).j<=hs.length:=by rw[←T.len];exact b1
 refine⟨bl,⟨T.msk,?_,?_,ris,λj hj=>?_,λi h' j hh hj=>?_⟩⟩
 ·have:=congrArg ABc e
  rw[AAL,AAB,AAJ,AB2,ABk,AAL]at this
  show (t.put (sq t.mask h N).j).1.place.size=(hs.take (AAd t.place (sq t.mask h N).j)++h::hs.drop (AAd t.place (sq t.mask h N).j)).length
  rw[this,AAB,AAJ,AB2,ABk,T.len]
 ·show (if SetTable.has t.dummies (sq t.mask h N).j then SetTable.eraseAt t.dummies (AAd t.dummies (sq t.mask h N).j)else t.dummies) = #[]
  rw[T.nod]
  rfl
 ·have hj':j∈(t.put (sq t.mask h N).j).1.place.toList:=hj
  rw[e]at hj'
  rcases AAl.mp hj' with q | q
  ·exact T.rng j (List.mem_of_mem_take q)
  ·rcases AAN.mp q with q | q
   ·rw[q];exact vt h N
   ·exact T.rng j (List.mem_of_mem_drop q)
 ·have sub:∀x,x∈t.place.toList->x∈(t.put (sq t.mask h N).j).1.place.toList:=λx hx=>by
   rw[e]
   rw[←ADw (AAd t.place (sq t.mask h N).j) t.place.toList]at hx
   rcases AAl.mp hx with q | q
   ·exact AAW _ q
   ·exact AAG _ (AAA _ q)
  have hj':(t.put (sq t.mask h N).j).1.place.toList[i]?=some j:=by rw[AAQ];exact hj
  rw[e]at hj'
  have go:∀k,hs[k]?=some h'->t.place[k]?=some j->∃n,(sq t.mask h' n).j=j/\∀n',n' < n->(sq t.mask h' n').j∈(t.put (sq t.mask h N).j).1.place.toList:=λk z1 z2=>by
   obtain⟨n,a1,a2⟩:=T.path k h' j z1 z2
   exact⟨n,a1,λn' hn'=>sub _ (a2 n' hn')⟩
  rcases mP (by rw[AAL];exact b1) hj' with⟨q,z⟩|⟨q,z⟩|⟨q,z⟩
  ·rcases mP bl hh with⟨q',z'⟩|⟨q',z'⟩|⟨q',z'⟩
   ·exact go i z' (by rw[←AAQ];exact z)
   ·lia
   ·lia
  ·rcases mP bl hh with⟨q',z'⟩|⟨q',z'⟩|⟨q',z'⟩
   ·lia
   ·subst z z'
    exact⟨N,rfl,λn' hn'=>sub _ (h3 n' hn')⟩
   ·lia
  ·rcases mP bl hh with⟨q',z'⟩|⟨q',z'⟩|⟨q',z'⟩
   ·lia
   ·lia
   ·exact go (i-1) z' (by rw[←AAQ];exact z)
theorem TPre.ok(T:TPre t hs)(h:t.tooFull=false):TOk t hs:=by
 refine⟨T.msk,T.len,T.nod,T.ris,T.rng,?_,T.path⟩
 unfold SetTable.tooFull AEQ at h
 rw[T.nod]at h
 simp at h
 simpa using h
theorem TPre.anew(T:TPre t hs)(h:t.tooFull=true)(hb:(hs.length-1)*5<t.mask*3)(h60:hs.length<=64) :
  AEH (ACn hs.length)<=sizeLine/\∃t2 ord,t.relaid hs.toArray (ACn hs.length)=some (t2,ord)/\ord.toList.Perm (AAv hs.length)/\TOk t2 (ord.toList.map λi=>hs.getD i 0)/\t2.led=t.led:=by
 have full:hs.length*5 ≥ t.mask*3:=by
  unfold SetTable.tooFull AEQ at h
  rw[T.nod,T.len]at h
  simpa using h
 have gm:∃m,AEH (ACn hs.length)=m+1/\kJ m/\hs.length<=m/\hs.length*5<m*3:=by
  rcases T.msk with e | e | e
  ·have:hs.length=5:=by lia
   rw[this]
   exact⟨31,by decide +kernel,.inr (.inl rfl),by decide,by decide⟩
  ·have:hs.length=19:=by lia
   rw[this]
   exact⟨127,by decide +kernel,.inr (.inr rfl),by decide,by decide⟩
  ·lia
 obtain⟨m,e,hm,hl,few⟩:=gm
 refine⟨by rw[e,AC5];rcases hm with rfl | rfl | rfl<;>lia,?_⟩
 obtain⟨ow,f1,L⟩:=Bx hm hs hl
 unfold SetTable.relaid
 rw[e,ADZ]
 unfold SetTable.laid
 rw[f1]
 refine⟨_,_,rfl,?_,?_,rfl⟩
 ·show ((bi m ow).map (·.2)).toArray.toList.Perm _
  simpa using oO L
 ·have pl:((bi m ow).map (·.1)).toArray.toList=(bi m ow).map (·.1):=by simp
  have ol:((bi m ow).map (·.2)).toArray.toList=(bi m ow).map (·.2):=by simp
  have ln:(bi m ow).length=hs.length:=by have:=(oO L).length_eq;simpa using this
  refine⟨hm,?_,rfl,?_,λj hj=>?_,?_,λi h' j hh hj=>?_⟩
  ·show ((bi m ow).map (·.1)).toArray.size=(((bi m ow).map (·.2)).toArray.toList.map λi=>hs.getD i 0).length
   simp
  ·show ((bi m ow).map (·.1)).toArray.toList.Pairwise _
   rw[pl];exact oN m ow
  ·have hj':j∈((bi m ow).map (·.1)).toArray.toList:=hj
   rw[pl]at hj'
   obtain⟨⟨s,i⟩,hm',rfl⟩:=AAO.mp hj'
   have:=(AAr.mp ((dB L).mp hm')).1
   rw[L.sz]at this
   show s<=m
   lia
  ·show ((bi m ow).map (·.1)).toArray.size*5<m*3
   rw[AAD,AA6,ln];exact few
  ·have hh':(((bi m ow).map (·.2)).map λi=>hs.getD i 0)[i]?=some h':=by rw[←ol];exact hh
   have hj':((bi m ow).map (·.1))[i]?=some j:=by rw[←pl,AAQ];exact hj
   rw[AB6,AAT]at hh'
   rw[AAT]at hj'
   cases q:(bi m ow)[i]? with
   | none=>rw[q]at hj';cases hj'
   | some p =>
    obtain⟨s,k⟩:=p
    rw[q]at hh' hj'
    have e1:s=j:=AAR hj'
    have e2:hs.getD k 0=h':=AAR hh'
    subst e1
    have mem:=(dB L).mp (AAc q)
    have kl:=L.lt s k mem
    have hk:hs[k]?=some h':=by
     rw[AA5 kl]
     rw[←e2];simp[AEM,kl]
    obtain⟨n,a1,a2⟩:=L.path s k h' mem hk
    refine⟨n,a1,λn' hn'=>?_⟩
    obtain⟨k',z⟩:=a2 n' hn'
    show (sq m h' n').j∈((bi m ow).map (·.1)).toArray.toList
    rw[pl]
    exact AAO.mpr ⟨(_,k'),(dB L).mpr z,rfl⟩
end Ht
namespace L2
open PySem PySem.Spec PyProof.Rows DL PySem.W
theorem mO:∀(n:Nat) (d:D),cc n d=true->okD M n d=true
 | 0,d,h=>by cases d<;>first | rfl | cases h
 | n+1,d,h=>by
  cases d with
  | tup ds =>
   have h':ds.all (cc n)=true:=h
   show ds.all (okD M n)=true
   rw[AAa]at h' ⊢
   exact λx hx=>mO n x (h' x hx)
  | str x=>rfl
  | int i=>rfl
  | _=>cases h
theorem fV:∀(n:Nat) (x y:D),cc n x=true->cc n y=true->(eqD M n x y=true↔x=y):=by
 intro n
 induction n with
 | zero =>
  intro x y h1 h2
  cases x with
  | str a =>
   cases y with
   | str b=>simp[eqD]
   | int b=>simp[eqD]
   | _=>cases h2
  | int a =>
   cases y with
   | str b=>simp[eqD]
   | int b=>simp[eqD]
   | _=>cases h2
  | _=>cases h1
 | succ n ih =>
  have go:∀xs ys:List D,xs.all (cc n)=true->ys.all (cc n)=true->(eqL (eqD M n) xs ys=true↔xs=ys):=by
   intro xs
   induction xs with
   | nil=>intro ys _ _;cases ys<;>simp[eqL]
   | cons x xs ih2 =>
    intro ys a1 a2
    cases ys with
    | nil=>simp[eqL]
    | cons y ys =>
     rw[ABM,AAV]at a1 a2
     show (eqD M n x y&&eqL (eqD M n) xs ys)=true↔_
     rw[AAV,ih x y a1.1 a2.1,ih2 ys a1.2 a2.2,ADV]
  intro x y h1 h2
  cases x with
  | str a =>
   cases y with
   | str b=>simp[eqD]
   | int b=>simp[eqD]
   | tup ys=>simp[eqD]
   | _=>cases h2
  | int a =>
   cases y with
   | str b=>simp[eqD]
   | int b=>simp[eqD]
   | tup ys=>simp[eqD]
   | _=>cases h2
  | tup xs =>
   cases y with
   | str b=>simp[eqD]
   | int b=>simp[eqD]
   | tup ys=>rw[D.tup.injEq];exact go _ _ h1 h2
   | _=>cases h2
  | _=>cases h1
section
variable{X:Cx}{pins:List (Addr×Obj)}{σ:St}{H:Hp}{ρ:List Addr}{M:Mem}
theorem EC(sm:Sim X.K ρ M H):∀(n:Nat) (A:Around) (s:Shared) (d:D) (v:V) (u:Value) (E:Value->Shared->Prop) (Q:Int->Shared->Prop),A.units+n<cLine->Inv X pins σ H s->Rep X.K ρ H d v->aL v u->cc n d=true ->
  (∀tk,Q (hkD X.w n d) { s with toks:=tk })->wpAny (model X.prog X.w) A (pyHash u) Q E s:=by
 intro n
 induction n with
 | zero =>
  intro A s d v u E Q hu I r rv hk h
  cases r with
  | str x=>obtain⟨t,rfl⟩:=rv;exact ADE (h _)
  | int x=>obtain⟨t,rfl⟩:=rv;exact ADD (h _)
  | _=>cases hk
 | succ n ih =>
  intro A s d v u E Q hu I r rv hk h
  cases r with
  | str x=>obtain⟨t,rfl⟩:=rv;exact ADE (h _)
  | int x=>obtain⟨t,rfl⟩:=rv;exact ADD (h _)
  | @tup a vs ds hq rr =>
   cases rv
   obtain⟨its,r2,p,_⟩:=I.tuple hq
   obtain⟨o,ho,hc,nn,hd⟩:=id p
   have hT:s.TypeIs (.ref a) "tuple":=⟨o,ho,hc⟩
   have hks:ds.all (cc n)=true:=hk
   unfold pyHash
   first | unfold pyHashByItsType | skip
   first | refine AA0 (wpAny_cRoomFor_or (.inr (by lia)) ?_) | skip
   refine AA0 (AC0 hT F.slot_tuple_hash.lookup ?_)
   refine(show wpAny (model X.prog X.w) _ (if (some (Value.builtin "tuple.__hash__")==some ABi)=true then _ else _) Q E s from ?_)
   rw[if_neg (by rw[beq_builtin_none];exact ABF)]
   refine AA0 (AC0 hT F.slot_tuple_hash.lookup ?_)
   refine(show wpAny (model X.prog X.w) _ (callSpecialIfBoundUnlessNone? (.ref a) "__hash__" _ >>= _) Q E s from AA0 (ACs hT F.slot_tuple_hash (AAt F.slot_tuple_hash hT F.entry_tuple_hash ?_ (F.args_tuple_hash_1 _))))
   refine(show wpAny (model X.prog X.w) _ (ACI (.ref a) >>= _) _ _ s from AA0 (wpAny_tupleItemsOf ho hd (AA0 ?_)))
   rw[←ABh]
   refine ABJ _ (λaI (b:Array Int) s'=>∃done left ws,ds=done++left/\Reps X.K ρ H left ws/\aw ws aI/\b.toList=done.map (hkD X.w n)/\∃tk,s'={ s with toks:=tk }) _ ?_ ?_ _ _ ⟨[],ds,vs,rfl,rr,by simpa using r2,rfl,s.toks,rfl⟩
   ·rintro x aI b s' ⟨done,left,ws,e,h1,h2,hb,tk,rfl⟩
    cases h2 with
    | @cons v0 _ ws' _ q1 q2 =>
     cases h1 with
     | @cons d0 _ left' _ r0 t0 =>
      refine AA0 (ih _ _ d0 v0 x _ _ (by show A.units+1+n<cLine;lia) (I.tok tk) r0 q1 ?_ λtk'=>?_)
      ·have:=AAa.mp hks d0 (by rw[e];simp)
       exact this
      ·first
        | exact AA2 ⟨done++[d0],left',ws',by rw[e];simp,t0,q2,by simp[hb],tk',rfl⟩
        | exact AA0 (AA2 (AA2 ⟨done++[d0],left',ws',by rw[e];simp,t0,q2,by simp[hb],tk',rfl⟩))
   ·rintro b s' ⟨done,left,ws,e,h1,h2,hb,tk,rfl⟩
    cases h2
    cases h1
    rw[ABI]at e
    subst e
    refine(show wpAny (model X.prog X.w) _ (retInt (ABK b.toList)) _ _ _ from ?_)
    rw[hb]
    refine wpAny_ret_mkInt ?_
    have key:hkD X.w (n+1) (.tup ds)=reduceHash (ABK (ds.map (hkD X.w n))):=rfl
    generalize ABK (ds.map (hkD X.w n))=z at key
    refine(show wpAny (model X.prog X.w) _ (if (decide (-(2:Int) ^ 63<=z)&&decide (z<2 ^ 63))=true then _ else _) Q E _ from ?_)
    unfold reduceHash at key
    by_cases hr:(decide (-(2:Int) ^ 63<=z)&&decide (z<2 ^ 63))=true
    ·rw[if_pos hr]at key ⊢
     exact AA2 (by rw[←key];exact h _)
    ·rw[if_neg hr]at key ⊢
     exact AA0 (ABX (AA2 (by rw[←key];exact h _)))
  | _=>cases hk
end
end L2
namespace L2
open PySem PySem.Spec PyProof.Rows DL PySem.W
section
variable{X:Cx}{pins:List (Addr×Obj)}{σ:St}{H:Hp}{ρ:List Addr}{M:Mem}
theorem hbv_D(sm:Sim X.K ρ M H):∀(n k:Nat) (A:Around) (s:Shared) (d:D) (v:V) (u:Value) (E:Value->Shared->Prop) (Q:Bool->Shared->Prop),n<=k->Inv X pins σ H s->Rep X.K ρ H d v->aL v u->cc n d=true->(∀b,Q b s)->wpAny (model X.prog X.w) A (hashByValue k u) Q E s:=by
 intro n
 induction n with
 | zero =>
  intro k A s d v u E Q hk I r rv kd h
  cases r with
  | str x=>obtain⟨t,rfl⟩:=rv;cases k<;>exact AA2 (h _)
  | int x=>obtain⟨t,rfl⟩:=rv;cases k<;>exact AA2 (h _)
  | _=>cases kd
 | succ n ih =>
  intro k A s d v u E Q hk I r rv kd h
  cases r with
  | str x=>obtain⟨t,rfl⟩:=rv;cases k<;>exact AA2 (h _)
  | int x=>obtain⟨t,rfl⟩:=rv;cases k<;>exact AA2 (h _)
  | @tup a vs ds hq rr =>
   cases rv
   obtain⟨k,rfl⟩:∃k',k=k'+1:=⟨k-1,by lia⟩
   obtain⟨its,r2,p,_⟩:=I.tuple hq
   obtain⟨o,ho,hc,nn,hd⟩:=id p
   have hT:s.TypeIs (.ref a) "tuple":=⟨o,ho,hc⟩
   have hks:ds.all (cc n)=true:=kd
   unfold hashByValue
   refine AA0 (AC0 hT F.slot_tuple_hash.lookup ?_)
   dsimp only
   refine AA0 (ACm ho hd ?_)
   simp only[Option.getD_some]
   rw[←ABh]
   refine AA0 ?_
   refine ABJ _ (λaI r s'=>s'=s/\r.1=none/\∃left ws,(∀x∈left,cc n x=true)/\Reps X.K ρ H left ws/\aw ws aI) _ ?_ ?_ _ _ ⟨rfl,rfl,ds,vs,AAa.mp hks,rr,by simpa using r2⟩
   ·rintro x aI r s' ⟨rfl,hr,left,ws,hl,h1,h2⟩
    cases h2 with
    | cons q1 q2 =>
     cases h1 with
     | cons r0 t0 =>
      refine AA0 (ih k _ _ _ _ x _ _ (by lia) I r0 q1 (hl _ AAI) λb=>?_)
      cases b with
      | false=>exact AA2 (AA2 (h _))
      | true=>exact AA2 ⟨rfl,rfl,_,_,λx hx=>hl x (AAA _ hx),t0,q2⟩
   ·rintro⟨r1,r2⟩ s' ⟨rfl,hr,_⟩
    simp only at hr
    subst hr
    exact AA2 (h _)
  | _=>cases kd
theorem vE(sm:Sim X.K ρ M H):∀(n k:Nat) (A:Around) (s:Shared) (d:D) (v:V) (u:Value) (E:Value->Shared->Prop) (Q:Bool->Shared->Prop),n<=k->Inv X pins σ H s->Rep X.K ρ H d v->aL v u->cc n d=true->Q true s->wpAny (model X.prog X.w) A (eqIsQuiet k u) Q E s:=by
 intro n
 induction n with
 | zero =>
  intro k A s d v u E Q hk I r rv kd h
  cases r with
  | str x=>obtain⟨t,rfl⟩:=rv;rw[ABu k (v:=.str x t) rfl];exact AA2 h
  | int x=>obtain⟨t,rfl⟩:=rv;rw[ABu k (v:=.int x t) rfl];exact AA2 h
  | _=>cases kd
 | succ n ih =>
  intro k A s d v u E Q hk I r rv kd h
  cases r with
  | str x=>obtain⟨t,rfl⟩:=rv;rw[ABu k (v:=.str x t) rfl];exact AA2 h
  | int x=>obtain⟨t,rfl⟩:=rv;rw[ABu k (v:=.int x t) rfl];exact AA2 h
  | @tup a vs ds hq rr =>
   cases rv
   obtain⟨k,rfl⟩:∃k',k=k'+1:=⟨k-1,by lia⟩
   obtain⟨its,r2,p,_⟩:=I.tuple hq
   obtain⟨o,ho,hc,nn,hd⟩:=id p
   have hT:s.TypeIs (.ref a) "tuple":=⟨o,ho,hc⟩
   have hks:ds.all (cc n)=true:=kd
   unfold eqIsQuiet
   refine AA0 (AC0 hT F.slot_tuple_eq.lookup ?_)
   refine(show wpAny (model X.prog X.w) A (isInstance (.ref a) (.type "tuple") >>= _) _ _ s from AA0 (ACM hT isSubtype_tuple_tuple ?_))
   simp only[ABg,AAE,if_false]
   refine AA0 (ACm ho hd ?_)
   simp only[Option.getD_some]
   refine AA0 ?_
   rw[←ABh]
   refine ABJ _ (λaI r s'=>s'=s/\r.1=none/\∃left ws,(∀x∈left,cc n x=true)/\Reps X.K ρ H left ws/\aw ws aI) _ ?_ ?_ _ _ ⟨rfl,rfl,ds,vs,AAa.mp hks,rr,by simpa using r2⟩
   ·rintro x aI r s' ⟨rfl,hr,left,ws,hl,h1,h2⟩
    cases h2 with
    | cons q1 q2 =>
     cases h1 with
     | cons r0 t0 =>
      refine AA0 (ih k _ _ _ _ x _ _ (by lia) I r0 q1 (hl _ AAI) ?_)
      simp only[ABg,AAE,if_false]
      exact AA2 ⟨rfl,rfl,_,_,λx hx=>hl x (AAA _ hx),t0,q2⟩
   ·rintro⟨r1,r2⟩ s' ⟨rfl,hr,_⟩
    simp only at hr
    subst hr
    exact AA2 h
  | _=>cases kd
theorem Fk(sm:Sim X.K ρ M H):∀(n k:Nat) (A:Around) (s:Shared) (d:D) (v:V) (u:Value) (E:Value->Shared->Prop) (Q:Bool->Shared->Prop),n<=k->Inv X pins σ H s->Rep X.K ρ H d v->aL v u->cc n d=true->Q false s->wpAny (model X.prog X.w) A (ofAClassStatement k u) Q E s:=by
 intro n
 induction n with
 | zero =>
  intro k A s d v u E Q hk I r rv kd h
  cases r with
  | str x=>obtain⟨t,rfl⟩:=rv;cases k<;>exact AA2 h
  | int x=>obtain⟨t,rfl⟩:=rv;cases k<;>exact AA2 h
  | _=>cases kd
 | succ n ih =>
  intro k A s d v u E Q hk I r rv kd h
  cases r with
  | str x=>obtain⟨t,rfl⟩:=rv;cases k<;>exact AA2 h
  | int x=>obtain⟨t,rfl⟩:=rv;cases k<;>exact AA2 h
  | @tup a vs ds hq rr =>
   cases rv
   obtain⟨k,rfl⟩:∃k',k=k'+1:=⟨k-1,by lia⟩
   obtain⟨its,r2,p,_⟩:=I.tuple hq
   obtain⟨o,ho,hc,nn,hd⟩:=id p
   have hT:s.TypeIs (.ref a) "tuple":=⟨o,ho,hc⟩
   have hks:ds.all (cc n)=true:=kd
   unfold ofAClassStatement
   refine AA0 (ACc hT ?_)
   dsimp only
   simp only[beq_self_eq_true,if_true]
   refine AA0 (AA2 ?_)
   simp only[ABg,AAE,if_false]
   refine AA0 (ACm ho hd ?_)
   dsimp only
   refine AA0 ?_
   rw[←ABh]
   refine ABJ _ (λaI r s'=>s'=s/\r.1=none/\∃left ws,(∀x∈left,cc n x=true)/\Reps X.K ρ H left ws/\aw ws aI) _ ?_ ?_ _ _ ⟨rfl,rfl,ds,vs,AAa.mp hks,rr,by simpa using r2⟩
   ·rintro x aI r s' ⟨rfl,hr,left,ws,hl,h1,h2⟩
    cases h2 with
    | cons q1 q2 =>
     cases h1 with
     | cons r0 t0 =>
      refine AA0 (ih k _ _ _ _ x _ _ (by lia) I r0 q1 (hl _ AAI) ?_)
      simp only[AAE,if_false]
      exact AA2 ⟨rfl,rfl,_,_,λx hx=>hl x (AAA _ hx),t0,q2⟩
   ·rintro⟨r1,r2⟩ s' ⟨rfl,hr,_⟩
    simp only at hr
    subst hr
    exact AA2 h
  | _=>cases kd
end
end L2
namespace L2
open PySem PySem.Spec PyProof.Rows DL PySem.W
def fL:D->Bool
 | .tup _=>true
 | _=>false
def Ent(X:Cx)(ρ:List Addr)(H:Hp)(n:Nat)(d:D)(e:Int×Value):Prop:=(∃v,Rep X.K ρ H d v/\aL v e.2)/\e.1=hkD X.w n d/\cc n d=true/\fL d=true
structure KSet(X:Cx)(ρ:List Addr)(H:Hp)(h:Heap)(a:Addr)(n:Nat)(ds:List D)(o:Obj)(es:Array (Int×Value))(ep:Nat)(t:SetTable):Prop where
 ob:h.get? a=some o
 ex:o.ExactSet
 dt:o.data=.set es ep t
 en:Paired (Ent X ρ H n) ds es.toList
 nd:ds.Nodup
 tk:Ht.TOk t (es.toList.map (·.1))
 ld:t.led = !X.w.params.followText "set-order"
theorem cO{α β:Type}{R:α->β->Prop}:∀{xs:List α}{ys:List β}{i:Nat}{y:β},Paired R xs ys->ys[i]?=some y->∃x,xs[i]?=some x/\R x y
 | _,_,i,y,.nil,e=>by simp at e
 | _,_,0,y,.cons r _,e=>by simp at e;subst e;exact⟨_,rfl,r⟩
 | _,_,i+1,y,.cons _ t,e=>by
  obtain⟨x,h1,h2⟩:=cO (i:=i) t (by simpa using e)
  exact⟨x,by simpa using h1,h2⟩
theorem gL{α β:Type}{R:α->β->Prop}:∀{xs:List α}{ys:List β}{i:Nat}{x:α},Paired R xs ys->xs[i]?=some x->∃y,ys[i]?=some y/\R x y
 | _,_,i,y,.nil,e=>by simp at e
 | _,_,0,y,.cons r _,e=>by simp at e;subst e;exact⟨_,rfl,r⟩
 | _,_,i+1,y,.cons _ t,e=>by
  obtain⟨x,h1,h2⟩:=gL (i:=i) t (by simpa using e)
  exact⟨x,by simpa using h1,h2⟩
theorem KSet.fits(S:KSet X ρ H h a n ds o es ep t):t.fits es.size=true:=by
 have h1:=S.tk.len
 have h2:=S.tk.few
 rw[AA6,AAL]at h1
 unfold ADY
 have h3:t.fill=t.place.size:=by unfold AEQ;rw[S.tk.nod];rfl
 rw[h3]
 simp only[AAV,beq_iff_eq,decide_eq_true_eq]
 lia
section
variable{X:Cx}{pins:List (Addr×Obj)}{σ:St}{H:Hp}{ρ:List Addr}{M:Mem}{A:Around}{E:Value->Shared->Prop}{s:Shared}{a:Addr}{n:Nat}{ds:List D}{o:Obj}{es:Array (Int×Value)}{ep:Nat}{t:SetTable}
theorem xO(sm:Sim X.K ρ M H)(I:Inv X pins σ H s)(hn:n<=8)(r:Rep X.K ρ H d v)(rv:aL v u)(kd:cc n d=true)(h:Q false s) :
  ∀(l:List Value),(∀y∈l,∃d' v',Rep X.K ρ H d' v'/\aL v' y/\cc n d'=true)->wpAny (model X.prog X.w) A (searchCouldBeSeen u l) Q E s:=by
 intro l hl
 unfold searchCouldBeSeen
 refine AA0 ?_
 refine ABJ _ (λaI r s'=>s'=s/\r.1=none/\∀y∈aI,∃d' v',Rep X.K ρ H d' v'/\aL v' y/\cc n d'=true) _ ?_ ?_ _ _ ⟨rfl,rfl,hl⟩
 ·rintro y aI r' s' ⟨rfl,hr,hy⟩
  have tl:∀z∈aI,∃d' v',Rep X.K ρ H d' v'/\aL v' z/\cc n d'=true:=λz hz=>hy z (AAA _ hz)
  obtain⟨d',v',r1,r2,kd'⟩:=hy y AAI
  dsimp only
  refine ABf (λ_=>AA2 ⟨rfl,rfl,tl⟩) λ_=>?_
  refine AA0 (vE sm n 8 A _ d v u _ _ hn I r rv kd ?_)
  simp only[ABg,AAE,if_false]
  refine AA0 (vE sm n 8 A _ d' v' y _ _ hn I r1 r2 kd' ?_)
  simp only[ABg,AAE,if_false]
  refine AA0 (Fk sm n 8 A _ d v u _ _ hn I r rv kd ?_)
  simp only[AAE,if_false]
  refine AA0 (Fk sm n 8 A _ d' v' y _ _ hn I r1 r2 kd' ?_)
  simp only[AAE,if_false]
  exact AA2 ⟨rfl,rfl,tl⟩
 ·rintro⟨r1,r2⟩ s' ⟨rfl,hr,_⟩
  simp only at hr
  subst hr
  exact AA2 h
theorem xZ(sm:Sim X.K ρ M H)(I:Inv X pins σ H s)(hn:n<=8)(hu:A.units+n<cLine)(S:KSet X ρ H s.heap a n ds o es ep t)(r:Rep X.K ρ H d v)(rv:aL v u)(kd:cc n d=true)
  (hthere:d∈ds->Q (.there none) s) (hN1:N<10*(t.mask+15)) (hN2:(Ht.sq t.mask (hkD X.w n d) N).j∉t.place.toList) (hN3:∀k,k<N->(Ht.sq t.mask (hkD X.w n d) k).j∈t.place.toList)
  (hfree:d∉ds->Q (.free (Ht.sq t.mask (hkD X.w n d) N).j false) s) :
  ∀(fuel m:Nat) (stand:Option ACU),m<=N->N<m+fuel->stand.getD (t.probeStart (hkD X.w n d))=Ht.sq t.mask (hkD X.w n d) m->(∀k i:Nat,k<m->t.place[i]?=some (Ht.sq t.mask (hkD X.w n d) k).j->ds[i]?≠some d) ->
   wpAny (model X.prog X.w) A (setSearchFrom a u (hkD X.w n d) true fuel stand) Q E s:=by
 intro fuel
 induction fuel with
 | zero=>intro m stand h1 h2;lia
 | succ fuel ih =>
  intro m stand h1 h2 hs hb
  unfold setSearchFrom
  refine AA0 (ABE S.ob S.dt S.fits ?_)
  dsimp only
  have gw:t.gaveWay=false:=by
   unfold SetTable.gaveWay
   rcases S.tk.msk with e | e | e<;>rw[e]<;>rfl
  rw[gw]
  simp only[AAE,if_false]
  rw[hs]
  rcases Ht.go_spec S.tk.ris S.tk.nod (λi=>(es[i]?.map (·.1)).getD 0) (hkD X.w n d) (10*ADB t.mask) m N h1 (by unfold ADB;lia) hN2 (λk _ hk=>hN3 k hk) (Ht.sq_dummy _ _)with⟨z1,z2⟩|⟨m',i,a1,a2,a3,a4,a5,a6⟩
  ·generalize hpr:SetTable.probe t _ (hkD X.w n d) (Ht.sq t.mask (hkD X.w n d) m)=pr
   obtain rfl:pr=_:=hpr.symm.trans z2
   dsimp only
   refine AA2 (hfree λhd=>?_)
   obtain⟨i,hi⟩:=ABB hd
   obtain⟨e,he,_,eh,_⟩:=gL S.en hi
   have he':es[i]?=some e:=by rw[←AAQ];exact he
   have hh:(es.toList.map (·.1))[i]?=some (hkD X.w n d):=by rw[AAT,he];exact congrArg some eh
   have hl:i<t.place.size:=by rw[S.tk.len];exact(AA7.mp hh).1
   obtain⟨ni,b1,b2⟩:=S.tk.path i _ t.place[i] hh (AAK hl)
   have hlt:ni<N:=by
    rcases AD0 ni N with q | q | q
    ·exact q
    ·subst q
     exact absurd (show (Ht.sq t.mask (hkD X.w n d) ni).j∈t.place.toList by rw[b1];simp) hN2
    ·exact absurd (b2 N q) hN2
   have hp:t.place[i]?=some (Ht.sq t.mask (hkD X.w n d) ni).j:=by rw[b1];exact AAK hl
   rcases ABS ni m with q | q
   ·exact hb ni i q hp hi
   ·refine z1 ni i q hlt hp ?_
    rw[he']
    exact eh
  ·generalize hpr:SetTable.probe t _ (hkD X.w n d) (Ht.sq t.mask (hkD X.w n d) m)=pr
   obtain rfl:pr=_:=hpr.symm.trans a6
   dsimp only
   have hil:i<es.size:=by
    have:=(AAr.mp a3).1
    rw[S.tk.len,AA6,AAL]at this
    exact this
   have hei:es[i]?=some es[i]:=AAK hil
   obtain⟨d0,hd0,⟨v0,r0,rv0⟩,eh0,kd0,it0⟩:=cO S.en (i:=i) (y:=es[i]) (by rw[AAQ];exact hei)
   have seen:∀(f:Bool->Sem SetFound),wpAny (model X.prog X.w) A (f false) Q E s->wpAny (model X.prog X.w) A (searchCouldBeSeen u ((es.filter (·.1==hkD X.w n d)).toList.map (·.2)) >>= f) Q E s:=λf hf=>by
    refine AA0 (xO sm I hn r rv kd hf _ λy hy=>?_)
    obtain⟨e,he,rfl⟩:=AAO.mp hy
    have he2:e∈es.toList:=by
     have:e∈es.filter (·.1==hkD X.w n d):=by simpa using he
     simpa using(Array.mem_filter.mp this).1
    obtain⟨j,hj⟩:=ABB he2
    obtain⟨d1,_,⟨v1,r1,rv1⟩,_,kd1,_⟩:=cO S.en hj
    exact⟨d1,v1,r1,rv1,kd1⟩
   have hbv:∃b,es[i].2=ABU b:=by
    cases r0 with
    | tup _ _=>exact⟨_,rv0⟩
    | _=>cases it0
   obtain⟨b,hbv⟩:=hbv
   have heq:ACC A s es[i].2 u (eqD M n d0 d):=(iK I sm n A d0 d v0 v es[i].2 u hu r0 rv0 r rv (mO n d0 kd0) (mO n d kd)).1
   refine ABf (λ_=>seen _ ?_) λ_=>?_
   ·simp only[AAE,if_false]
    rw[hei]
    dsimp only
    refine AA0 (AAh (heq _ _ _ _ (AA0 (ABE S.ob S.dt S.fits ?_))))
    dsimp only
    by_cases hq:eqD M n d0 d=true
    ·rw[hq]
     simp only[Bool.and_self,if_true]
     have:d0=d:=(fV n d0 d kd0 kd).mp hq
     subst this
     exact AA2 (hthere (AAc hd0))
    ·rw[ABL.mpr hq]
     simp only[AEJ,AAE,if_false]
     have sm':t.sameMemory t.moves t.mask=some true:=by unfold SetTable.sameMemory;simp
     rw[sm']
     dsimp only
     simp only[if_true]
     rw[Ht.slot_live S.tk.ris a3]
     dsimp only
     rw[hei]
     have sam:wpAny (model X.prog X.w) A (isSame es[i].2 es[i].2) (λb s'=>b=true/\s'=s) E s:=by
      unfold isSame
      rw[hbv]
      simp only[beq_self_eq_true,if_true]
      exact AA2 (And.intro rfl rfl)
     refine AA0 (AB7 sam (λb s' ⟨e1,e2⟩=>?_) λ_ _ z=>z)
     subst e1 e2
     refine AA0 (AA2 ?_)
     simp only[if_true]
     refine ih (m'+1) _ (by lia) (by lia) rfl λk i' hk hp hds=>?_
     rcases ABS k m with q | q
     ·exact hb k i' q hp hds
     ·rcases ABS k m' with q' | q'
      ·refine a5 k i' q q' hp ?_
       obtain⟨e,he,_,eh,_⟩:=gL S.en hds
       have he':es[i']?=some e:=by rw[←AAQ];exact he
       rw[he'];exact eh
      ·have:k=m':=by lia
       subst this
       have:i'=i:=by rw[←Ht.below_at S.tk.ris hp,Ht.below_at S.tk.ris a3]
       subst this
       rw[hd0]at hds
       cases hds
       exact hq ((fV n d d kd kd).mpr rfl)
   ·rw[hei]
    dsimp only
    refine AA0 (AAh (heq _ _ _ _ (AA0 (ABE S.ob S.dt S.fits ?_))))
    dsimp only
    by_cases hq:eqD M n d0 d=true
    ·rw[hq]
     simp only[Bool.and_self,if_true]
     have:d0=d:=(fV n d0 d kd0 kd).mp hq
     subst this
     exact AA2 (hthere (AAc hd0))
    ·rw[ABL.mpr hq]
     simp only[AEJ,AAE,if_false]
     have sm':t.sameMemory t.moves t.mask=some true:=by unfold SetTable.sameMemory;simp
     rw[sm']
     dsimp only
     simp only[if_true]
     rw[Ht.slot_live S.tk.ris a3]
     dsimp only
     rw[hei]
     have sam:wpAny (model X.prog X.w) A (isSame es[i].2 es[i].2) (λb s'=>b=true/\s'=s) E s:=by
      unfold isSame
      rw[hbv]
      simp only[beq_self_eq_true,if_true]
      exact AA2 (And.intro rfl rfl)
     refine AA0 (AB7 sam (λb s' ⟨e1,e2⟩=>?_) λ_ _ z=>z)
     subst e1 e2
     refine AA0 (AA2 ?_)
     simp only[if_true]
     refine ih (m'+1) _ (by lia) (by lia) rfl λk i' hk hp hds=>?_
     rcases ABS k m with q | q
     ·exact hb k i' q hp hds
     ·rcases ABS k m' with q' | q'
      ·refine a5 k i' q q' hp ?_
       obtain⟨e,he,_,eh,_⟩:=gL S.en hds
       have he':es[i']?=some e:=by rw[←AAQ];exact he
       rw[he'];exact eh
      ·have:k=m':=by lia
       subst this
       have:i'=i:=by rw[←Ht.below_at S.tk.ris hp,Ht.below_at S.tk.ris a3]
       subst this
       rw[hd0]at hds
       cases hds
       exact hq ((fV n d d kd kd).mpr rfl)
end
end L2
namespace L2
open PySem PySem.Spec PyProof.Rows DL PySem.W
theorem Paired.ins{α β:Type}{R:α->β->Prop}{x:α}{y:β}(r:R x y):∀{xs:List α}{ys:List β} (p:Nat),Paired R xs ys->Paired R (xs.take p++x::xs.drop p) (ys.take p++y::ys.drop p)
 | _,_,0,h=>by simpa using .cons r h
 | _,_,p+1,.nil=>.cons r .nil
 | _,_,p+1,.cons h t=>.cons h (Paired.ins r p t)
theorem Paired.pick{α β:Type}{R:α->β->Prop}:∀{xs:List α}{ys:List β} (is:List Nat),Paired R xs ys->(∀i∈is,i<xs.length)->Paired R (is.filterMap (xs[·]?)) (is.filterMap (ys[·]?))
 | _,_,[],_,_=>.nil
 | xs,ys,i::is,h,hi=>by
  have hl:=hi i AAI
  have e:xs[i]?=some xs[i]:=AA5 hl
  obtain⟨y,hy,r⟩:=gL h e
  rw[ABr,ABr,e,hy]
  exact .cons r (Paired.pick is h λj hj=>hi j (AAA _ hj))
theorem lF{α:Type}{l:List α}{is:List Nat}(h:is.Perm (AAv l.length)):(is.filterMap (l[·]?)).Perm l:=by
 have:=h.filterMap (l[·]?)
 rwa [List.filterMap_getElem?_range_length]at this
section
variable{X:Cx}{pins:List (Addr×Obj)}{σ:St}{H:Hp}{ρ:List Addr}{M:Mem}{A:Around}{E:Value->Shared->Prop}{s:Shared}{a:Addr}{n:Nat}{ds:List D}{o:Obj}{es:Array (Int×Value)}{ep:Nat}{t:SetTable}
def KS(X:Cx)(ρ:List Addr)(H:Hp)(h:Heap)(a:Addr)(n:Nat)(ds:List D):Prop:=∃o es ep t,KSet X ρ H h a n ds o es ep t
set_option maxHeartbeats 1000000 in
theorem add_D(sm:Sim X.K ρ M H)(I:Inv X pins σ H s)(hn:n<=8)(hu:A.units+n+1<cLine)(S:KS X ρ H s.heap a n ds)(h60:ds.length+1<=64)(r:Rep X.K ρ H d v)(rv:aL v u)(kd:cc n d=true)(it:fL d=true)
  (h:∀b h' tk ds',(∀c u,c≠a->s.heap.get? c=some u->h'.get? c=some u)->KS X ρ H h' a n ds'->(∀x,x∈ds'↔x∈ds\/x=d)->ds'.length<=ds.length+1->Q b { s with heap:=h',toks:=tk }) :
  wpAny (model X.prog X.w) A (setAdd a u) Q E s:=by
 obtain⟨o,es,ep,t,S⟩:=S
 obtain⟨ra,rfl⟩:∃ra,u=ABU ra:=by
  cases r with
  | tup _ _=>exact⟨_,rv⟩
  | _=>cases it
 unfold setAdd
 refine AAh (AA0 (EC sm n A s d v _ _ _ (by lia) I r rv kd λtk=>?_))
 unfold setAddHashed setAddHashedIn
 refine AAh (AA0 (ABE (s:={ s with toks:=tk }) S.ob S.dt S.fits ?_))
 dsimp only
 have bs:byScan (.ref ra) es=false:=rfl
 rw[bs]
 simp only[AAE,if_false]
 obtain⟨N,hN1,hN2,hN3⟩:=S.tk.empty (hkD X.w n d)
 have I1:Inv X pins σ H { s with toks:=tk }:=I.tok tk
 unfold setSearch
 refine AA0 (xZ (s:={ s with toks:=tk }) sm I1 hn (by lia) S r rv kd (λhd=>?_) hN1 hN2 hN3 (λhd=>?_) 100000 0 none (AAS _) ?_ rfl λk i hk=>absurd hk (ABd _))
 ·exact AA2 (h _ s.heap tk ds (λ_ _ _ e=>e) ⟨o,es,ep,t,S⟩ (λx=>⟨.inl,λz=>z.elim id λe=>e ▸ hd⟩) (AE7 _))
 ·dsimp only
  refine AA0 (ABE (s:={ s with toks:=tk }) S.ob S.dt S.fits ?_)
  dsimp only
  have len:=S.tk.len
  rw[AA6,AAL]at len
  have dl:ds.length=es.size:=by have:=Paired.length S.en;simpa using this
  have fin:∀pl:Bool,wpAny (model X.prog X.w) A (do
    storeSet a (ADl es (t.put (Ht.sq t.mask (hkD X.w n d) N).j).2 (hkD X.w n d,ABU ra)) { (t.put (Ht.sq t.mask (hkD X.w n d) N).j).1 with plain:=pl }
    if (!false&&({ (t.put (Ht.sq t.mask (hkD X.w n d) N).j).1 with plain:=pl }:SetTable).tooFull)=true then do
      setRelay a (ACn (es.size+1))
      pure true
     else pure true) Q E { s with toks:=tk }:=λpl=>by
   obtain⟨pb,T1⟩:=Ht.put_pre S.tk hN2 hN3 pl
   have ld1:({ (t.put (Ht.sq t.mask (hkD X.w n d) N).j).1 with plain:=pl }:SetTable).led=t.led:=rfl
   have mk1:({ (t.put (Ht.sq t.mask (hkD X.w n d) N).j).1 with plain:=pl }:SetTable).mask=t.mask:=rfl
   generalize ({ (t.put (Ht.sq t.mask (hkD X.w n d) N).j).1 with plain:=pl }:SetTable)=t1 at T1 ld1 mk1
   generalize (t.put (Ht.sq t.mask (hkD X.w n d) N).j).2=p at pb T1
   rw[AA6,AAL]at pb
   have e1:(ADl es p (hkD X.w n d,ABU ra)).toList=es.toList.take p++(hkD X.w n d,ABU ra)::es.toList.drop p:=SetTable.toList_insertAt ..
   generalize ADl es p (hkD X.w n d,ABU ra)=es1 at e1
   have hs1:es1.toList.map (·.1)=(es.toList.map (·.1)).take p++hkD X.w n d::(es.toList.map (·.1)).drop p:=by rw[e1,AAm,AAi,List.map_take,List.map_drop]
   rw[←hs1]at T1
   have sz1:es1.size=es.size+1:=by
    have:=congrArg ABc e1
    rw[AAL,AAB,AAJ,AB2,ABk,AAL]at this
    lia
   have en1:Paired (Ent X ρ H n) (ds.take p++d::ds.drop p) es1.toList:=by
    rw[e1]
    exact Paired.ins ⟨⟨v,r,rv⟩,rfl,kd,it⟩ p S.en
   have pm:(ds.take p++d::ds.drop p).Perm (d::ds):=by
    refine List.perm_middle.trans (AEK d ?_)
    rw[ADw]
   have nd1:(ds.take p++d::ds.drop p).Nodup:=pm.nodup_iff.mpr (ABb.mpr ⟨hd,S.nd⟩)
   have fit1:t1.fits es1.size=true:=by
    have l1:=T1.len
    rw[AA6,AAL]at l1
    have h3:t1.fill=t1.place.size:=by unfold AEQ;rw[T1.nod];rfl
    have fw:=S.tk.few
    unfold ADY
    rw[h3]
    simp only[AAV,beq_iff_eq,decide_eq_true_eq]
    rw[len]at fw
    rcases S.tk.msk with e | e | e<;>rw[mk1,e]<;>rw[e]at fw<;>lia
   have zz:es1.size<=sizeLine:=by rw[AC5];lia
   refine AA0 (wpAny_storeSet_of (s:={ s with toks:=tk }) S.ob S.dt ?_ zz)
   have ob1:(s.heap.update a (AEO es1 t1)).get? a=some { o with data:=.set es1 (ep+1) t1 }:=by
    have q:=AAe (AEO es1 t1) S.ob (by rw[putSet_of es1 t1 S.dt];rfl)
    rwa [putSet_of es1 t1 S.dt]at q
   have oth:∀c u,c≠a->s.heap.get? c=some u->(s.heap.update a (AEO es1 t1)).get? c=some u:=λc u hc e=>(ABo _ _ (ABC hc)).trans e
   by_cases tf:t1.tooFull=true
   ·rw[tf]
    simp only[Bool.not_false,Bool.and_self,if_true]
    have hbd:((es1.toList.map (·.1)).length-1)*5<t1.mask*3:=by
     have fw:=S.tk.few
     rw[len]at fw
     rw[AA6,AAL,sz1,mk1]
     simpa using fw
    obtain⟨zl,t2,ord,g1,g2,T2,ld2⟩:=T1.anew tf hbd (by rw[AA6,AAL];lia)
    rw[AA6,AAL]at g2 zl
    have eg:ACn (es.size+1)=ACn (es1.toList.map (·.1)).length:=by rw[AA6,AAL,sz1]
    unfold setRelay
    refine AA0 (AA0 (ABE (s:={ s with heap:=_,toks:=tk }) ob1 rfl fit1 ?_))
    dsimp only
    rw[eg]
    have nz:¬AEH (ACn (es1.toList.map (·.1)).length) > sizeLine:=by
     rw[AA6,AAL];lia
    simp only[nz,if_false]
    have ea:es1.map (·.1)=(es1.toList.map (·.1)).toArray:=by apply Array.ext';simp
    rw[ea,g1]
    have es2:(ord.filterMap (es1[·]?)).toList=ord.toList.filterMap (es1.toList[·]?):=by
     rw[Array.toList_filterMap]
     congr 1
     funext i
     rw[AAQ]
    have sz2:(ord.filterMap (es1[·]?)).size=es1.size:=by
     have:=(lF (l:=es1.toList) (is:=ord.toList) (by rw[AAL];exact g2)).length_eq
     rw[←es2,AAL,AAL]at this
     exact this
    refine AA0 (show wpAny (model X.prog X.w) A (if ((ord.filterMap (es1[·]?)).size != es1.size)=true then _ else pure (ord.filterMap (es1[·]?),t2)) _ _ _ from ?_)
    rw[if_neg (by rw[sz2];simp)]
    refine AA2 ?_
    generalize ord.filterMap (es1[·]?)=es2' at es2 sz2
    have pm2:(ord.toList.filterMap ((ds.take p++d::ds.drop p)[·]?)).Perm (ds.take p++d::ds.drop p):=lF (by
     have:(ds.take p++d::ds.drop p).length=es1.size:=by rw[pm.length_eq,AAJ,dl,sz1]
     rw[this];exact g2)
    refine wpAny_storeSet_of (s:={ s with heap:=_,toks:=tk }) ob1 rfl ?_ (by rw[sz2];exact zz)
    have ob2:((s.heap.update a (AEO es1 t1)).update a (AEO es2' t2)).get? a=some { o with data:=.set es2' (ep+1+1) t2 }:=by
     have q:=AAe (AEO es2' t2) ob1 (by rw[putSet_of es2' t2 (es:=es1) (ep:=ep+1) (t:=t1) rfl];rfl)
     rwa [putSet_of es2' t2 (es:=es1) (ep:=ep+1) (t:=t1) rfl]at q
    refine AA2 (h _ _ tk (ord.toList.filterMap ((ds.take p++d::ds.drop p)[·]?)) (λc u hc e=>(ABo _ _ (ABC hc)).trans (oth c u hc e)) ⟨_,es2',_,t2,ob2,S.ex,rfl,?_,pm2.nodup_iff.mpr nd1,?_,ld2.trans (ld1.trans S.ld)⟩ (λx=>?_) ?_)
    ·rw[es2]
     refine Paired.pick _ en1 λi hi=>?_
     have:=g2.mem_iff.mp hi
     rw[AB1]at this
     rw[pm.length_eq,AAJ,dl,←sz1]
     exact this
    ·have e2:es2'.toList.map (·.1)=ord.toList.map λi=>(es1.toList.map (·.1)).getD i 0:=by
      rw[es2]
      have:∀(is:List Nat),(∀i∈is,i<es1.toList.length)->(is.filterMap (es1.toList[·]?)).map (·.1)=is.map λi=>(es1.toList.map (·.1)).getD i 0:=by
       intro is
       induction is with
       | nil=>intro _;rfl
       | cons i is ih =>
        intro hi
        have hl:=hi i AAI
        rw[ABr,AA5 hl,AAi,AAi,ih λj hj=>hi j (AAA _ hj)]
        congr 1
        rw[AAU,AAT,AA5 hl]
        rfl
      refine this _ λi hi=>?_
      have:=g2.mem_iff.mp hi
      rw[AB1]at this
      rw[AAL];exact this
     rw[e2]
     exact T2
    ·rw[pm2.mem_iff,pm.mem_iff,AAN]
     exact⟨λz=>z.symm,λz=>z.symm⟩
    ·rw[pm2.length_eq,pm.length_eq];exact AA8 _
   ·rw[ABL.mpr tf]
    simp only[AEJ,AAE,if_false]
    refine AA2 (h _ _ tk _ oth ⟨_,es1,_,t1,ob1,S.ex,rfl,en1,nd1,T1.ok (ABL.mpr tf),ld1.trans S.ld⟩ (λx=>?_) ?_)
    ·rw[pm.mem_iff,AAN]
     exact⟨λz=>z.symm,λz=>z.symm⟩
    ·rw[pm.length_eq];exact AA8 _
  refine ABf (λ_=>AA0 (hbv_D sm n 8 A _ d v _ _ _ hn I1 r rv kd λb=>?_)) λ_=>?_
  ·cases b with
   | true=>exact fin (t.put (Ht.sq t.mask (hkD X.w n d) N).j).1.plain
   | false=>exact fin false
  ·exact fin (t.put (Ht.sq t.mask (hkD X.w n d) N).j).1.plain
 ·have:=hN1
  rcases S.tk.msk with e | e | e<;>rw[e]at this<;>lia
end
end L2
namespace L2
open PySem PySem.Spec PyProof.Rows DL PySem.W
section
variable{X:Cx}{pins:List (Addr×Obj)}{σ:St}{H:Hp}{ρ:List Addr}{M:Mem}{A:Around}{E:Value->Shared->Prop}{s:Shared}{n:Nat}
theorem KS.at(x:KS X ρ H h a n ds)(k:∀o,h.get? a=some o->h'.get? a=some o):KS X ρ H h' a n ds:=by
 obtain⟨o,es,ep,t,S⟩:=x
 exact⟨o,es,ep,t,k _ S.ob,S.ex,S.dt,S.en,S.nd,S.tk,S.ld⟩
theorem BB(sm:Sim X.K ρ M H)(I:Inv X pins σ H s)(hn:n<=8)(hu:A.units+n+2<cLine)(W:Walks X.prog X.w A.in1 J fp wr m P Sx)(S:Addr)(hSf:S∉fp)
  (hS0:s.heap.get? S=none) (hw0:∀b∈wr,s.heap.get? b=none) (val:Nat->D) (hval:∀i v,P i v->∃vv,Rep X.K ρ H (val i) vv/\aL vv v/\cc n (val i)=true/\fL (val i)=true) (hb:m<=63) :
  ∀(k i:Nat) (h:Heap) (tk:Nat) (ds:List D),m-i=k->i<=m->Sx i h->KS X ρ H h S n ds->(∀x,x∈ds↔∃j,j<i/\val j=x)->ds.length<=i->(∀b u,s.heap.get? b=some u->h.get? b=some u) ->
   (∀h' tk ds',(∀b u,s.heap.get? b=some u->h'.get? b=some u)->KS X ρ H h' S n ds'->(∀x,x∈ds'↔∃j,j<m/\val j=x)->ds'.length<=m->R (.ok (.ret .none)) { s with heap:=h',toks:=tk }) ->
   codeAny (model X.prog X.w) A (.builtin "set.update.loop" ⟨[.ref S,.ref J],[]⟩) R { s with heap:=h,toks:=tk }:=by
 have hSw:S∉wr:=λh=>hSf (W.sub _ h)
 intro k
 induction k with
 | zero =>
  intro i h tk ds hk hi hst hS hm hl hold hR
  obtain rfl:i=m:=by lia
  refine ABe F.entry_set_update_loop ?_
  rw[ABj F.plain_set_update_loop _]
  refine(show wpAny (model X.prog X.w) A.in1 (pyNext (.ref J) >>= _) _ _ _ from AA0 (W.done _ _ _ hst λh' tk hk'=>?_))
  refine AA2 (hR h' tk ds (λb u e=>hk' b u (λz=>by rw[hw0 b z]at e;cases e) (hold b u e)) (hS.at λo e=>hk' S o hSw e) hm hl)
 | succ k ih =>
  intro i h tk ds hk hi hst hS hm hl hold hR
  refine ABe F.entry_set_update_loop ?_
  rw[ABj F.plain_set_update_loop _]
  refine(show wpAny (model X.prog X.w) A.in1 (pyNext (.ref J) >>= _) _ _ _ from AA0 (W.item i _ _ _ (by lia) hst λv h' tk hP hst' hk'=>?_))
  obtain⟨vv,r,rv,kd,it⟩:=hval i v hP
  have old':∀b u,s.heap.get? b=some u->h'.get? b=some u:=λb u e=>hk' b u (λz=>by rw[hw0 b z]at e;cases e) (hold b u e)
  have I':Inv X pins σ H { s with heap:=h',toks:=tk }:=I.kept old'
  refine AA0 (AAh (add_D (s:={ s with heap:=h',toks:=tk }) sm I' hn (by show A.units+1+n+1<cLine;lia) (hS.at λo e=>hk' S o hSw e) (by lia) r rv kd it λb h2 tk2 ds2 k2 hS2 hm2 hl2=>?_))
  refine AA2 ⟨AD3 F.plain_set_update_loop _,ih (i+1) h2 tk2 ds2 (by lia) (by lia) (W.frame _ h' h2 hst' λb' hb' o e=>k2 b' o (λz=>hSf (z ▸ hb')) e) hS2 (λx=>?_) (by lia) (λb u e=>k2 b u (λz=>by rw[z,hS0]at e;cases e) (old' b u e)) hR⟩
  rw[hm2,hm]
  constructor
  ·rintro(⟨j,hj,e⟩ | rfl)
   ·exact⟨j,by lia,e⟩
   ·exact⟨i,by lia,rfl⟩
  ·rintro⟨j,hj,rfl⟩
   by_cases q:j=i
   ·subst q;exact .inr rfl
   ·exact .inl ⟨j,by lia,rfl⟩
theorem yM(e:h.get? a=some (aU X.w)):KS X ρ H h a n [] :=
 ⟨_,#[],0,_,e,⟨rfl,rfl,rfl⟩,rfl,.nil,ADC,⟨.inl rfl,rfl,rfl,ACy,λj hj=>by simp[SetTable.fresh]at hj,(by show 0*5<7*3;decide),λi h j hh=>by simp at hh⟩,rfl⟩
end
end L2
namespace L2
open PySem PySem.Spec PyProof.Rows DL PySem.W
section
variable{X:Cx}{pins:List (Addr×Obj)}{σ:St}{H:Hp}{ρ:List Addr}{M:Mem}{A:Around}{E:Value->Shared->Prop}{s:Shared}{m:Nat}
theorem BF(sm:Sim X.K ρ M H)(I:Inv X pins σ H s)(hm8:m<=8)(hu:A.units+m+3<cLine){l:Addr}{T:String}{n:Nat}{P:Nat->Value->Prop}{G:Shared->Prop}(hh:A.handled=none)(K:TxSrc X.prog X.w s.heap l T n P)(val:Nat->D)(hval:∀i v,P i v->∃vv,Rep X.K ρ H (val i) vv/\aL vv v/\cc m (val i)=true/\fL (val i)=true)(hb:n<=63)
  (h:∀h' tk ds,(∀b o,s.heap.get? b=some o->h'.get? b=some o)->KS X ρ H h' s.heap.objs.size m ds->(∀x,x∈ds↔∃j,j<n/\val j=x)->ds.length<=n->G { s with heap:=h',toks:=tk }) :
  wpAny (model X.prog X.w) A (Builtin.«set.__init__» ⟨[.ref s.heap.objs.size,.ref l],[]⟩) (λfin s'=>fin=.done (.ret .none)/\G s') E { s with heap:=s.heap.push (aU X.w) }:=by
 have hS:(s.heap.push (aU X.w)).get? s.heap.objs.size=some (aU X.w):=AAC _ rfl
 have hT:AE2 { s with heap:=s.heap.push (aU X.w) } (.ref s.heap.objs.size) "set":=⟨_,hS,rfl⟩
 obtain⟨ol,hol,hcl⟩:=K.obj
 have hol':(s.heap.push (aU X.w)).get? l=some ol:=AA3 _ hol
 have hTl:AE2 { s with heap:=s.heap.push (aU X.w) } (.ref l) T:=⟨ol,hol',hcl⟩
 have ll:l<s.heap.objs.size:=AAH hol
 have sz:(s.heap.push (aU X.w)).objs.size=s.heap.objs.size+1:=ABR ..
 obtain⟨oI,St,hit,W,st⟩:=K.iter A.in1 { s with heap:=s.heap.push (aU X.w) } hh λo e=>AA3 _ e
 have ns:=K.ns
 have nf:=K.nf
 have nd:=K.nd
 unfold Builtin.«set.__init__» noKeywords Builtin.Frozenset.updateFrom
 generalize hPI:pyIter=PI
 wp_walk
 subst hPI
 refine wpAny_of_in1 (hit _ _ ?_)
 have hSf:s.heap.objs.size∉[(s.heap.push (aU X.w)).objs.size,l]:=by
  rw[sz]
  simp only[AAN,List.not_mem_nil,or_false,not_or]
  exact⟨AAM (AAz _),Nat.ne_of_gt ll⟩
 have hS0:s.heap.get? s.heap.objs.size=none:=by
  cases q:s.heap.get? s.heap.objs.size with
  | none=>rfl
  | some o=>exact absurd (AAH q) (AAn _)
 have hw0:∀b∈[(s.heap.push (aU X.w)).objs.size],s.heap.get? b=none:=λb hb'=>by
  rw[AC4.mp hb',sz]
  cases q:s.heap.get? (s.heap.objs.size+1) with
  | none=>rfl
  | some o=>exact absurd (AAH q) (ACz.mpr (AE7 _))
 refine AA0 (wpAny_runValue (BB (s:=s) sm I hm8 (by first | exact(show A.units+m+2<cLine by lia) | exact(show A.units+1+m+2<cLine by lia)) W s.heap.objs.size hSf hS0 hw0 val hval hb n 0 _ _ [] rfl (AAS _) st (yM (AA3 _ hS)) (λx=>by simp) (AA8 _) (λb u e=>AA3 _ (AA3 _ e)) λh' tk ks hk hks hm hl=>?_))
 exact AA2 (AA2 ⟨rfl,h h' tk ks hk hks hm hl⟩)
set_option maxHeartbeats 1000000 in
theorem Cg(sm:Sim X.K ρ M H)(I:Inv X pins σ H s)(hm8:m<=8)(hu:A.units+m+20<cLine){l:Addr}{T:String}{n:Nat}{P:Nat->Value->Prop}{Q:Value->Shared->Prop}(hh:A.handled=none)(K:TxSrc X.prog X.w s.heap l T n P)(val:Nat->D)(hval:∀i v,P i v->∃vv,Rep X.K ρ H (val i) vv/\aL vv v/\cc m (val i)=true/\fL (val i)=true)(hb:n<=63)
  (h:∀h' tk ds,(∀b o,s.heap.get? b=some o->h'.get? b=some o)->KS X ρ H h' s.heap.objs.size m ds->(∀x,x∈ds↔∃j,j<n/\val j=x)->ds.length<=n->Q (.ref s.heap.objs.size) { s with heap:=h',toks:=tk }) :
  wpAny (model X.prog X.w) A (call (.type "set") [.ref l]) Q E s:=by
 have fm:=F.called_set.made
 have fs:=F.called_set.sub
 have fn:=F.called_set.notType
 have fc:=F.called_set.canCreate
 have ft:=F.typeCall_set_1 (.ref l)
 obtain⟨c,tl,fo⟩:=F.called_set.mro
 refine wpAny_call (codeAny_of_tree (show wpAny _ _ (callAny (.type "set") _) _ _ _ from AA2 ⟨Code.quiet_builtin _ (by decide +kernel),ABe F.entry_type_call ?_⟩))
 rw[Around.under_plain (weight_type_call_type "set" [.ref l] []) rfl]
 repeat (any_goals (first | assumption | wp_step))
 refine ADH (qV (.ref l) (E:=E) (Q₁:=λobj s₁=>obj=.ref s.heap.objs.size/\s₁={ s with heap:=s.heap.push (aU X.w) }) ⟨rfl,rfl⟩) λr s₁ hr=>?_
 match r,hr with
 | .error e,hr=>exact hr
 | .ok (.ret obj),⟨e1,e2⟩ =>
  subst e1 e2
  have hS:(s.heap.push (aU X.w)).get? s.heap.objs.size=some (aU X.w):=AAC _ rfl
  have hT:AE2 { s with heap:=s.heap.push (aU X.w) } (.ref s.heap.objs.size) "set":=⟨_,hS,rfl⟩
  have fl:=F.called_set.init.lookup
  have fb:=F.called_set.init.bind (.ref s.heap.objs.size)
  repeat (any_goals (first | assumption | wp_step))
  refine ADH (codeAny_call_builtin (R:=wants (λr s₂=>r=.none/\Q (.ref s.heap.objs.size) s₂) E) F.called_set.init.plain F.entry_set_init (check_set_init_1 hT ?_)) λr₂ s₂ hr₂=>?_
  ·refine AB7 (BF (G:=λs2=>Q (.ref s.heap.objs.size) s2) sm I hm8 (by first | (show A.units+1+1+1+m+3<cLine;lia) | (show A.units+1+1+m+3<cLine;lia) | (show A.units+1+m+3<cLine;lia)) (by simp[hh]) K val hval hb h) (λfin s' ⟨e,g⟩=>?_) λ_ _ z=>z
   subst e
   exact⟨rfl,g⟩
  ·match r₂,hr₂ with
   | .error e,hr₂=>exact hr₂
   | .ok (.ret r),⟨e,q⟩ =>
    subst e
    repeat (any_goals (first | assumption | wp_step))
end
end L2
namespace L2
open PySem PySem.Spec PyProof.Rows DL PySem.W
def SqAt(M:Mem)(d:D)(xs:List D):Prop:=(∃n,d=.ref n/\am M n xs)\/d=.tup xs
theorem SrtOk.sub(h:SrtOk M xs)(s:∀y∈ys,y∈xs)(l:ys.length<64):SrtOk M ys:=by
 refine⟨l,λx hx=>h.ok x (s x hx),λx hx y hy=>h.cm x (s x hx) y (s y hy),?_⟩
 rcases h.kd with k | k | k | k | k
 ·exact .inl λx hx=>k x (s x hx)
 ·exact .inr (.inl λx hx=>k x (s x hx))
 ·exact .inr (.inr (.inl λx hx=>k x (s x hx)))
 ·exact .inr (.inr (.inr (.inl λx hx=>k x (s x hx))))
 ·exact .inr (.inr (.inr (.inr λx hx=>k x (s x hx))))
section
variable{X:Cx}{e:Expr}{te:DTE}{p p' pos pos':Pos}{k:Nat}
theorem CN(I:Inv X pins σ H s)(sm:Sim X.K ρ M H)(r:Rep X.K ρ H d v)(rv:aL v u)(t:SqAt M d xs) :
  ∃(a:Addr) (T:String) (its:Array Value) (vs:List V),u=.ref a/\TxSrc X.prog X.w s.heap a T its.size (λi v=>its[i]?=some v)/\Reps X.K ρ H xs vs/\aw vs its.toList:=by
 rcases t with⟨n,rfl,hL⟩ | rfl
 ·cases r with
  | @ref _ a ha =>
   cases rv
   obtain⟨vs,hs,rr⟩:=hL.seq sm ha
   obtain⟨its,r2,p,_⟩:=I.list hs
   exact⟨a,_,its.toArray,vs,rfl,TxSrc.list p.isList,rr,by simpa using r2⟩
 ·cases r with
  | @tup a vs _ hs rr =>
   cases rv
   obtain⟨its,r2,p,_⟩:=I.tuple hs
   exact⟨a,_,its.toArray,vs,rfl,TxSrc.tuple p,rr,by simpa using r2⟩
theorem pX:∀{ds:List D}{vs:List V}{its:List Value}{i:Nat}{u:Value}{ρ:List Addr}{H:Hp},Reps X.K ρ H ds vs->aw vs its->its[i]?=some u->∃d v,ds[i]?=some d/\Rep X.K ρ H d v/\aL v u
 | _,_,_,i,u,_,_,.nil,h,e=>by cases h;simp at e
 | _,_,_,0,u,_,_,.cons r _,h,e=>by
  cases h with
  | cons a _=>simp at e;subst e;exact⟨_,_,rfl,r,a⟩
 | _,_,_,i+1,u,_,_,.cons _ t,h,e=>by
  cases h with
  | cons _ b =>
   obtain⟨d,v,e1,r,rv⟩:=pX (i:=i) t b (by simpa using e)
   exact⟨d,v,by simpa using e1,r,rv⟩
theorem ents:∀{ds:List D}{es:List (Int×Value)},Paired (Ent X ρ H n) ds es->∃vs,Reps X.K ρ H ds vs/\aw vs (es.map (·.2))
 | _,_,.nil=>⟨[],.nil,.nil⟩
 | _,_,.cons ⟨⟨v,r,rv⟩,_⟩ t=>by
  obtain⟨vs,a,b⟩:=ents t
  exact⟨v::vs,.cons r a,.cons rv b⟩
theorem vM(p:us'.Perm us):∀{ds:List D}{vs:List V},Reps X.K ρ H ds vs->aw vs us->∃ds' vs',ds'.Perm ds/\Reps X.K ρ H ds' vs'/\aw vs' us':=by
 induction p with
 | nil=>intro ds vs r h;exact⟨ds,vs,.refl _,r,h⟩
 | cons x _ ih =>
  intro ds vs r h
  cases h with
  | cons a b =>
   cases r with
   | cons c d =>
    obtain⟨ds',vs',h1,h2,h3⟩:=ih d b
    exact⟨_,_,h1.cons _,.cons c h2,.cons a h3⟩
 | swap x y l =>
  intro ds vs r h
  cases h with
  | cons a b =>
   cases b with
   | cons a2 b2 =>
    cases r with
    | cons c d =>
     cases d with
     | cons c2 d2=>exact⟨_,_,.swap _ _ _,.cons c2 (.cons c d2),.cons a2 (.cons a b2)⟩
 | trans _ _ ih1 ih2 =>
  intro ds vs r h
  obtain⟨ds',vs',h1,h2,h3⟩:=ih2 r h
  obtain⟨ds2,vs2,g1,g2,g3⟩:=ih1 h2 h3
  exact⟨ds2,vs2,g1.trans h1,g2,g3⟩
end
end L2
namespace L2
open PySem PySem.Spec PyProof.Rows DL PySem.W
def gZ(te:DTE):DTE:=λS M Q=>te S M λd M1=>∃n xs,n<=8/\SqAt M1 d xs/\xs.length<64/\(∀x∈xs,cc n x=true/\fL x=true)/\SrtOk M1 xs/\∀ys:List D,ys.Nodup->(∀x,x∈ys↔x∈xs)->Cu M1 ys->Q (.ref M1.length) (M1++[.lst ys])
section
variable{X:Cx}{e:Expr}{te:DTE}{p p' pos pos':Pos}{k:Nat}
set_option maxHeartbeats 1000000 in
theorem ul(hr:Room k X.A)(hc:X.calm=true)(he:DE X e te)(hm1:X.mg "sorted" = none)(hm2:X.mg "set" = none)(hg1:X.env.kindOf "sorted" = some .globalImplicit)(hg2:X.env.kindOf "set" = some .globalImplicit)
  (h1:starEach [e] X.env=[(false,eval e X.env)]) (h2:starEach [AEE (.Name "set" p') [e] [] pos'] X.env=[(false,eval (AEE (.Name "set" p') [e] [] pos') X.env)]) :
  DE X (.Call (.Name "sorted" p) [.Call (.Name "set" p') [e] [] pos'] [] pos) (gZ te):=by
 intro pins s σ H R I ⟨S,M,ρ,Q,sm,sr,q,kk⟩
 refine AC2 (gQ I hg1 hm1 (by rfl) ?_)
 refine callWith_builtin1 ?_ (by rw[h2];rfl) rfl
 rw[h2]
 refine ADO ?_
 refine AC2 (gQ I hg2 hm2 (by rfl) ?_)
 refine callWith_type1 ?_ (by rw[h1];rfl) rfl
 rw[h1]
 refine ADO (thn (he pins s σ H _ I ⟨S,M,ρ,_,sm,sr,q,λv H' z=>z⟩) λu s1 ⟨v,H1,I1,rv,d,M1,ρ1,sm1,g1,r1,cases⟩=>?_)
 refine ADh ?_
 obtain⟨n,xs,n8,sq,hl,hk,so,fin⟩:=cases
 obtain⟨a,T,its,ws,rfl,src,rps,vx⟩:=CN I1 sm1 r1 rv sq
 have li:its.size=xs.length:=by have h1:=vx.length;have h2:=rps.length;simp at h1;lia
 have un:=hr.un
 refine Cg sm1 I1 n8 (by lia) (I1.ok.hd hc) src (λi=>xs.getD i .non) (λi v e=>?_) (by lia) λh2 tk2 ds k2 kset hks hle=>?_
 ·obtain⟨d,vv,e1,r,rv⟩:=pX rps vx (by rw[AAQ];exact e)
  have ed:xs.getD i .non=d:=by rw[AAU,e1];rfl
  have:=hk d (AAc e1)
  exact⟨vv,by rw[ed];exact r,rv,by rw[ed];exact this.1,by rw[ed];exact this.2⟩
 refine ADh ?_
 have I2:=I1.kept (t':=tk2) k2
 obtain⟨o,es,ep,t,KSt⟩:=kset
 have lds:ds.length=es.size:=by have:=KSt.en.length;simpa using this
 have hz:es.size<=sizeLine:=by rw[AC5];lia
 refine tL (s:={ s1 with heap:=h2,toks:=tk2 }) (I2.ok.hd hc) ⟨KSt.ob,KSt.dt,KSt.fits⟩ KSt.ex.1 (λz=>.inr KSt.tk.ris) KSt.ld hz λh3 tk3 dr D vs k3 hD hD3 pv=>?_
 have hmem:∀x,x∈ds↔x∈xs:=λx=>by
  rw[hks x,li]
  constructor
  ·rintro⟨j,hj,rfl⟩
   have e:xs.getD j .non=xs[j]:=by simp[AEM,hj]
   rw[e]
   exact AB8 hj
  ·intro hx
   obtain⟨j,hj,e⟩:=List.getElem_of_mem hx
   exact⟨j,hj,by rw[show xs.getD j .non=xs[j] by simp[AEM,hj]];exact e⟩
 obtain⟨ws0,rp0,va0⟩:=ents KSt.en
 obtain⟨ds',ws',pd,rp1,va1⟩:=vM pv rp0 va0
 obtain⟨m,hn,_⟩:=I2.loc
 have hDL:D≠X.env.locals:=λz=>by
  obtain⟨oL,_,_,hL,_⟩:=hn
  rw[z]at hD
  rw[hD]at hL;cases hL
 have hn3:h3.Ns X.env.locals m:=hn.at' λo e=>k3 _ _ e
 refine AC (X:=X) (pins:=pins) (σ:=σ) (s:={ s1 with heap:=h2,toks:=tk2,drawn:=dr }) (n:=0) hr (by show X.A.units+1<=X.A.units+4;lia) I2.drew sm1 (so.sub (ys:=ds') (λy hy=>(hmem y).mp (pd.mem_iff.mp hy)) (by rw[pd.length_eq];lia)).g rp1 va1 hn hn3 (λb u _ e=>k3 b u e) hD hDL hD3 λv H' x=>?_
 refine kk v H' ?_
 have:=x (λd M'=>Q d M') λys hp hri=>?_
 ·obtain⟨d,M',ρ',a1,a2,a3,a4⟩:=this
  exact⟨d,M',ρ',a1,g1.trans a2,a3,a4⟩
 ·exact fin ys ((hp.trans pd).nodup_iff.mpr KSt.nd) (λx=>((hp.trans pd).mem_iff).trans (hmem x)) hri
theorem lJ(hr:Room k X.A)(he:HE X e te)(hm1:X.mg "sorted" = none)(hm2:X.mg "set" = none)(hc:X.calm=true:=by kernel_rfl)(hg1:X.env.kindOf "sorted" = some .globalImplicit:=by kernel_rfl)(hg2:X.env.kindOf "set" = some .globalImplicit:=by kernel_rfl)
  (h1:starEach [e] X.env=[(false,eval e X.env)]:=by kernel_rfl) (h2:starEach [AEE (.Name "set" p') [e] [] pos'] X.env=[(false,eval (AEE (.Name "set" p') [e] [] pos') X.env)]:=by kernel_rfl) :
  HE X (.Call (.Name "sorted" p) [.Call (.Name "set" p') [e] [] pos'] [] pos) (gZ te):=⟨ul hr hc he.ok hm1 hm2 hg1 hg2 h1 h2⟩
end
end L2
namespace L2
open PySem PySem.Spec PyProof.Rows DL PySem.W
def er(h:Heap):Nat->D->Value->Prop
 | _,.str x,v=>∃t,v=.str x t
 | _,.int i,v=>∃t,v=.int i t
 | n+1,.tup ds,v=>∃a its,v=.ref a/\h.IsTuple a its/\Paired (er h n) ds its.toList
 | _,_,_=>False
def drD:Nat->D->Nat
 | n+1,.tup ds=>(ds.map (drD n)).sum+1
 | _,_=>1
theorem gU:∀(n:Nat) (d:D) (v:Value),er h n d v->cc n d=true:=by
 intro n
 induction n with
 | zero=>intro d v k;cases d<;>first | rfl | exact k.elim
 | succ n ih =>
  intro d v k
  cases d with
  | str x=>rfl
  | int x=>rfl
  | tup ds =>
   obtain⟨a,its,_,_,p⟩:=k
   show ds.all (cc n)=true
   generalize its.toList=l at p
   induction p with
   | nil=>rfl
   | cons r _ i2=>rw[ABM,ih _ _ r,i2];rfl
  | _=>exact k.elim
theorem qJ{h:Heap}{a:Addr}{xs ys:Array Value}(h1:h.IsTuple a xs)(h2:h.IsTuple a ys):xs=ys:=by
 obtain⟨o,e1,_,n,d1⟩:=h1
 obtain⟨o',e2,_,n',d2⟩:=h2
 obtain rfl:o=o':=AAR (e1.symm.trans e2)
 rw[d1]at d2
 injection d2
theorem jX{h:Heap}:∀(n:Nat) (x y:D) (v:Value),er h n x v->er h n y v->x=y:=by
 intro n
 induction n with
 | zero =>
  intro x y v k1 k2
  cases x with
  | str a =>
   obtain⟨t,rfl⟩:=k1
   cases y with
   | str b=>obtain⟨t',e⟩:=k2;injection e with e;rw[e]
   | int b=>obtain⟨t',e⟩:=k2;cases e
   | _=>exact k2.elim
  | int a =>
   obtain⟨t,rfl⟩:=k1
   cases y with
   | str b=>obtain⟨t',e⟩:=k2;cases e
   | int b=>obtain⟨t',e⟩:=k2;injection e with e;rw[e]
   | _=>exact k2.elim
  | _=>exact k1.elim
 | succ n ih =>
  intro x y v k1 k2
  cases x with
  | str a =>
   obtain⟨t,rfl⟩:=k1
   cases y with
   | str b=>obtain⟨t',e⟩:=k2;injection e with e;rw[e]
   | int b=>obtain⟨t',e⟩:=k2;cases e
   | tup b=>obtain⟨_,_,e,_⟩:=k2;cases e
   | _=>exact k2.elim
  | int a =>
   obtain⟨t,rfl⟩:=k1
   cases y with
   | str b=>obtain⟨t',e⟩:=k2;cases e
   | int b=>obtain⟨t',e⟩:=k2;injection e with e;rw[e]
   | tup b=>obtain⟨_,_,e,_⟩:=k2;cases e
   | _=>exact k2.elim
  | tup xs =>
   obtain⟨a,its,rfl,t1,p1⟩:=k1
   cases y with
   | str b=>obtain⟨t',e⟩:=k2;cases e
   | int b=>obtain⟨t',e⟩:=k2;cases e
   | tup ys =>
    obtain⟨_,its',e,t2,p2⟩:=k2
    cases e
    obtain rfl:=qJ t1 t2
    congr 1
    generalize its.toList=l at p1 p2
    induction p1 generalizing ys with
    | nil=>cases p2;rfl
    | cons r _ i2=>cases p2 with
     | cons r' t'=>rw[ih _ _ _ r r',i2 _ t']
   | _=>exact k2.elim
  | _=>exact k1.elim
theorem uf(k:∀a its,h.IsTuple a its->h'.IsTuple a its):∀(n:Nat) (d:D) (v:Value),er h n d v->er h' n d v:=by
 intro n
 induction n with
 | zero=>intro d v q;cases d<;>first | exact q | exact q.elim
 | succ n ih =>
  intro d v q
  cases d with
  | str x=>exact q
  | int x=>exact q
  | tup ds =>
   obtain⟨a,its,e,t,p⟩:=q
   exact⟨a,its,e,k _ _ t,Paired.mapP p λx y r=>ih x y r⟩
  | _=>exact q.elim
theorem qH{es ep}(q:er h n k v)(ho:h.get? d=some o)(hd:o.data=.dict es ep)(hs:ABz d h h'):er h' n k v:=by
 refine uf (λa its ⟨o',e,c,m,t⟩=>?_) n k v q
 have hne:a≠d:=by
  rintro rfl
  obtain rfl:o'=o:=AAR (e.symm.trans ho)
  rw[hd]at t;cases t
 exact⟨o',(hs.2 a hne).trans e,c,m,t⟩
section
variable{prog:Program}{w:World}
theorem lI:∀(n:Nat) (A:Around) (s:Shared) (d:D) (u:Value) (E:Value->Shared->Prop) (Q:Int->Shared->Prop),A.units+n<cLine->er s.heap n d u ->
  Q (hkD w n d) { s with toks:=s.toks+drD n d }->wpAny (model prog w) A (pyHash u) Q E s:=by
 intro n
 induction n with
 | zero =>
  intro A s d u E Q hu k h
  cases d with
  | str x=>obtain⟨t,rfl⟩:=k;exact ADE h
  | int x=>obtain⟨t,rfl⟩:=k;exact ADD h
  | _=>exact k.elim
 | succ n ih =>
  intro A s d u E Q hu k h
  cases d with
  | str x=>obtain⟨t,rfl⟩:=k;exact ADE h
  | int x=>obtain⟨t,rfl⟩:=k;exact ADD h
  | tup ds =>
   obtain⟨a,its,rfl,⟨o,ho,hc,nn,hd⟩,p⟩:=k
   have hT:s.TypeIs (.ref a) "tuple":=⟨o,ho,hc⟩
   unfold pyHash
   first | unfold pyHashByItsType | skip
   first | refine AA0 (wpAny_cRoomFor_or (.inr (by lia)) ?_) | skip
   refine AA0 (AC0 hT F.slot_tuple_hash.lookup ?_)
   refine(show wpAny (model prog w) _ (if (some (Value.builtin "tuple.__hash__")==some ABi)=true then _ else _) Q E s from ?_)
   rw[if_neg (by rw[beq_builtin_none];exact ABF)]
   refine AA0 (AC0 hT F.slot_tuple_hash.lookup ?_)
   refine(show wpAny (model prog w) _ (callSpecialIfBoundUnlessNone? (.ref a) "__hash__" _ >>= _) Q E s from AA0 (ACs hT F.slot_tuple_hash (AAt F.slot_tuple_hash hT F.entry_tuple_hash ?_ (F.args_tuple_hash_1 _))))
   refine(show wpAny (model prog w) _ (ACI (.ref a) >>= _) _ _ s from AA0 (wpAny_tupleItemsOf ho hd (AA0 ?_)))
   rw[←ABh]
   refine ABJ _ (λaI (b:Array Int) s'=>∃done left,ds=done++left/\Paired (er s.heap n) left aI/\b.toList=done.map (hkD w n)/\s'={ s with toks:=s.toks+(done.map (drD n)).sum }) _ ?_ ?_ _ _ ⟨[],ds,rfl,p,rfl,rfl⟩
   ·rintro x aI b s' ⟨done,left,e,h1,hb,rfl⟩
    cases h1 with
    | @cons d0 _ left' _ r0 t0 =>
     refine AA0 (ih _ _ d0 x _ _ (by show A.units+1+n<cLine;lia) r0 ?_)
     first
      | exact AA2 ⟨done++[d0],left',by rw[e];simp,t0,by simp[hb],by simp[Nat.add_assoc]⟩
      | exact AA0 (AA2 (AA2 ⟨done++[d0],left',by rw[e];simp,t0,by simp[hb],by simp[Nat.add_assoc]⟩))
   ·rintro b s' ⟨done,left,e,h1,hb,rfl⟩
    cases h1
    rw[ABI]at e
    subst e
    refine(show wpAny (model prog w) _ (retInt (ABK b.toList)) _ _ _ from ?_)
    rw[hb]
    refine wpAny_ret_mkInt ?_
    have key:hkD w (n+1) (.tup ds)=reduceHash (ABK (ds.map (hkD w n))):=rfl
    have h':Q (hkD w (n+1) (.tup ds)) { s with toks:=s.toks+(ds.map (drD n)).sum+1 }:=h
    generalize ABK (ds.map (hkD w n))=z at key
    refine(show wpAny (model prog w) _ (if (decide (-(2:Int) ^ 63<=z)&&decide (z<2 ^ 63))=true then _ else _) Q E _ from ?_)
    unfold reduceHash at key
    by_cases hr:(decide (-(2:Int) ^ 63<=z)&&decide (z<2 ^ 63))=true
    ·rw[if_pos hr]at key ⊢
     exact AA2 (by rw[←key];exact h')
    ·rw[if_neg hr]at key ⊢
     exact AA0 (ABX (AA2 (by rw[←key];exact h')))
  | _=>exact k.elim
theorem jW:∀(n k:Nat) (A:Around) (s:Shared) (d:D) (u:Value) (E:Value->Shared->Prop) (Q:Bool->Shared->Prop),n<=k->er s.heap n d u->Q true s->wpAny (model prog w) A (eqIsQuiet k u) Q E s:=by
 intro n
 induction n with
 | zero =>
  intro k A s d u E Q hk q h
  cases d with
  | str x=>obtain⟨t,rfl⟩:=q;rw[ABu k (v:=.str x t) rfl];exact AA2 h
  | int x=>obtain⟨t,rfl⟩:=q;rw[ABu k (v:=.int x t) rfl];exact AA2 h
  | _=>exact q.elim
 | succ n ih =>
  intro k A s d u E Q hk q h
  cases d with
  | str x=>obtain⟨t,rfl⟩:=q;rw[ABu k (v:=.str x t) rfl];exact AA2 h
  | int x=>obtain⟨t,rfl⟩:=q;rw[ABu k (v:=.int x t) rfl];exact AA2 h
  | tup ds =>
   obtain⟨a,its,rfl,⟨o,ho,hc,nn,hd⟩,p⟩:=q
   obtain⟨k,rfl⟩:∃k',k=k'+1:=⟨k-1,by lia⟩
   have hT:s.TypeIs (.ref a) "tuple":=⟨o,ho,hc⟩
   unfold eqIsQuiet
   refine AA0 (AC0 hT F.slot_tuple_eq.lookup ?_)
   refine(show wpAny (model prog w) A (isInstance (.ref a) (.type "tuple") >>= _) _ _ s from AA0 (ACM hT isSubtype_tuple_tuple ?_))
   simp only[ABg,AAE,if_false]
   refine AA0 (ACm ho hd ?_)
   simp only[Option.getD_some]
   refine AA0 ?_
   refine(show wpAny (model prog w) A (forIn its _ _) _ _ s from ?_)
   rw[←ABh]
   refine ABJ _ (λaI r s'=>r.1=none/\s'=s/\∃left,Paired (er s.heap n) left aI) _ ?_ ?_ _ _ ⟨rfl,rfl,ds,p⟩
   ·rintro x aI r s' ⟨hr,rfl,left,h1⟩
    cases h1 with
    | cons r0 t0 =>
     refine AA0 (ih k _ _ _ x _ _ (by lia) r0 ?_)
     simp only[ABg,AAE,if_false]
     exact AA2 ⟨rfl,rfl,_,t0⟩
   ·rintro⟨r1,r2⟩ s' ⟨hr,rfl,_⟩
    simp only at hr
    subst hr
    exact AA2 h
  | _=>exact q.elim
theorem iJ{h:Heap}{n:Nat}{ds:List D}{its:Array Value}(p:Paired (er h n) ds its.toList):ds.length=its.size:=by
 rw[←AAL]
 generalize its.toList=l at p
 induction p with
 | nil=>rfl
 | cons _ _ ih=>rw[AAJ,AAJ,ih]
theorem yP:∀(n:Nat) (A:Around) (s:Shared) (x y:D) (u v:Value),A.units+n<cLine->er s.heap n x u->er s.heap n y v->ACC A s u v (eqD [] n x y):=by
 intro n
 induction n with
 | zero =>
  intro A s x y u v hu k1 k2
  cases x with
  | str a =>
   obtain⟨t,rfl⟩:=k1
   cases y with
   | str b=>obtain⟨t',rfl⟩:=k2;exact ADT _ _ _ _
   | int b=>obtain⟨t',rfl⟩:=k2;exact ACr _ _ _ _
   | _=>exact k2.elim
  | int a =>
   obtain⟨t,rfl⟩:=k1
   cases y with
   | str b=>obtain⟨t',rfl⟩:=k2;exact ACq _ _ _ _
   | int b=>obtain⟨t',rfl⟩:=k2;exact ADS _ _ _ _
   | _=>exact k2.elim
  | _=>exact k1.elim
 | succ n ih =>
  intro A s x y u v hu k1 k2
  have hu0:A.units<cLine:=by lia
  have hu1:A.in1.units+n<cLine:=by show A.units+1+n<cLine;lia
  cases x with
  | str a =>
   obtain⟨t,rfl⟩:=k1
   cases y with
   | str b=>obtain⟨t',rfl⟩:=k2;exact ADT _ _ _ _
   | int b=>obtain⟨t',rfl⟩:=k2;exact ACr _ _ _ _
   | tup b=>obtain⟨_,_,rfl,pl,_⟩:=k2;exact SeqAt.EqAt.str_tuple _ _ pl hu0
   | _=>exact k2.elim
  | int a =>
   obtain⟨t,rfl⟩:=k1
   cases y with
   | str b=>obtain⟨t',rfl⟩:=k2;exact ACq _ _ _ _
   | int b=>obtain⟨t',rfl⟩:=k2;exact ADS _ _ _ _
   | tup b=>obtain⟨_,_,rfl,pl,_⟩:=k2;exact SeqAt.EqAt.int_tuple _ _ pl hu0
   | _=>exact k2.elim
  | tup xs =>
   obtain⟨a,its,rfl,pl,p1⟩:=id k1
   cases y with
   | str b=>obtain⟨t',rfl⟩:=k2;exact SeqAt.EqAt.tuple_str _ _ pl hu0
   | int b=>obtain⟨t',rfl⟩:=k2;exact SeqAt.EqAt.tuple_int _ _ pl hu0
   | tup ys =>
    obtain⟨b,jts,rfl,pl',p2⟩:=id k2
    by_cases hab:a=b
    ·subst hab
     have e:=jX (n+1) _ _ _ k1 k2
     rw[e,(fV (M:=[]) (n+1) _ _ (gU _ _ _ k2) (gU _ _ _ k2)).mpr rfl]
     exact AEA _
    ·have ll:=iJ p1
     have ll':=iJ p2
     have items:∀(j:Nat) (h1:j<its.size) (h2:j<jts.size),ACC A.in1 s its[j] jts[j] (eqD [] n (xs.getD j .non) (ys.getD j .non)):=λj h1 h2=>by
      obtain⟨x0,e1,r1⟩:=cO p1 (i:=j) (y:=its[j]) (by rw[AAQ];exact AAK h1)
      obtain⟨y0,e2,r2⟩:=cO p2 (i:=j) (y:=jts[j]) (by rw[AAQ];exact AAK h2)
      have z1:xs.getD j .non=x0:=by rw[AAU,e1];rfl
      have z2:ys.getD j .non=y0:=by rw[AAU,e2];rfl
      rw[z1,z2]
      exact ih A.in1 s x0 y0 _ _ hu1 r1 r2
     have key:((AAv (min its.size jts.size)).all (λj=>eqD [] n (xs.getD j .non) (ys.getD j .non))&&its.size==jts.size)=eqL (eqD [] n) xs ys:=by
      by_cases hl:xs.length=ys.length
      ·have rng:(AAv xs.length).all (λj=>eqD [] n (xs.getD j .non) (ys.getD j .non))=eqL (eqD [] n) xs ys:=ka hl λj x y h1 h2=>by simp[AEM,h1,h2]
       rw[←ll,←ll',←hl,Nat.min_self,rng]
       simp
      ·rw[xh hl,←ll,←ll']
       simp[hl]
     have h1:=SeqAt.RcAt.tuples pl pl' hu0 items
     rw[key]at h1
     exact SeqAt.EqAt.of_refs hab h1
   | _=>exact k2.elim
  | _=>exact k1.elim
end
noncomputable instance decD:DecidableEq D:=λa b=>AA9 (a=b)
noncomputable def bC(prog:Program)(w:World):HeapKind prog w D where
 is:=λh d a=>er h 8 d (.ref a)
 hash:=hkD w 8
 draws:=drD 8
 room:=λA=>A.units+8<cLine
 inj:=λx y=>jX 8 _ _ _ x y
 keeps:=λx ho hd hs=>qH x ho hd hs
 pyHash:=λhu k h=>lI 8 _ _ _ _ _ _ hu k h
 eqBool:=λ{A E s x y a b Q} hu k1 k2 h=>by
  refine yP 8 A s x y _ _ hu k1 k2 _ _ _ _ ?_
  have e:eqD [] 8 x y=decide (x=y):=by
   rw[Bool.eq_iff_iff,fV 8 x y (gU _ _ _ k1) (gU _ _ _ k2),decide_eq_true_eq]
  rw[e]
  exact h
 quiet:=λk h=>jW 8 8 _ _ _ _ _ _ (AA8 _) k h
end L2
namespace L2
open PySem PySem.Spec PyProof.Rows DL PySem.W
noncomputable def aM(kvs:List (D×D))(k:D):Option D:=(kvs.find? λp=>decide (p.1=k)).map (·.2)
noncomputable def cX(kvs:List (D×D))(k d:D):List (D×D):=if (aM kvs k).isSome then kvs.map (λp=>if p.1=k then(p.1,d)else p)else kvs++[(k,d)]
section
variable{K:AA4}{ρ:List Addr}{H:Hp}{M:Mem}{kvs:List (D×D)}{xs:List (D×Addr×Value)}
theorem oS(r:Paired (uw K ρ H) kvs xs)(k:D):(aM kvs k=none/\atKey xs k=none)\/∃d p v,aM kvs k=some d/\atKey xs k=some p/\Rep K ρ H d v/\aL v p.2:=by
 unfold aM atKey
 induction r with
 | nil=>exact .inl ⟨rfl,rfl⟩
 | @cons p q ps qs h t ih =>
  obtain⟨h1,_,_,v,h4,h5⟩:=h
  rw[ADa,ADa]
  by_cases e:p.1=k
  ·rw[decide_eq_true e,decide_eq_true (h1.symm.trans e)]
   exact .inr ⟨_,_,v,rfl,rfl,h4,h5⟩
  ·rw[decide_eq_false e,decide_eq_false (λz=>e (h1.trans z))]
   exact ih
theorem zK(r:Paired (uw K ρ H) kvs xs)(kd:cc 8 k=true)(rk:Rep K ρ H k (.ref b))(rd:Rep K ρ H d v)(rv:aL v u):Paired (uw K ρ H) (cX kvs k d) (storedH xs k b u):=by
 unfold cX storedH
 have is:(aM kvs k).isSome=(atKey xs k).isSome:=by
  rcases oS r k with⟨e1,e2⟩|⟨_,_,_,e1,e2,_⟩<;>rw[e1,e2]<;>rfl
 rw[is]
 by_cases q:(atKey xs k).isSome=true
 ·rw[if_pos q,if_pos q]
  clear is q
  induction r with
  | nil=>exact .nil
  | @cons p q ps qs h t ih =>
   rw[AAi,AAi]
   refine .cons ?_ ih
   obtain⟨h1,h2,h3,w,h4,h5⟩:=h
   by_cases e:p.1=k
   ·rw[if_pos e,putAt,if_pos (h1.symm.trans e)]
    exact⟨h1,h2,h3,v,rd,rv⟩
   ·rw[if_neg e,putAt,if_neg (λz=>e (h1.trans z))]
    exact⟨h1,h2,h3,w,h4,h5⟩
 ·rw[if_neg q,if_neg q]
  clear is q
  induction r with
  | nil=>exact .cons ⟨rfl,kd,rk,v,rd,rv⟩ .nil
  | cons h t ih=>exact .cons h ih
theorem fU(r:Paired (uw K ρ H) kvs xs):xs.map (·.1)=kvs.map (·.1):=by
 induction r with
 | nil=>rfl
 | cons h t ih=>rw[AAi,AAi,ih,h.1]
theorem sj:(cX kvs k d).length<=kvs.length+1:=by
 unfold cX
 split
 ·rw[AA6];lia
 ·rw[AAB];exact AA8 _
theorem SqT.writtenX{a p:Addr}{xs:List V}{φ:Program->World->Heap->Prop}{o:HO}(hp:H p=some (.ext φ))(h:SqT K H a xs):SqT K (upd H p o) a xs:=by
 rcases h with h | h
 ·rcases h with h | ⟨ob,h⟩
  ·exact .inl (.inl (by rw[ah (yu h hp (by intro z;cases z))];exact h))
  ·exact .inl (.inr ⟨ob,by rw[ah (yu h hp (by intro z;cases z))];exact h⟩)
 ·exact .inr h
theorem Sim.writeT(S:Sim K ρ M H)(e1:ρ[n]?=some a)(hM:M[n]?=some (.dkt kvs))(hH:H a=some (.ext (dX a xs)))(hl:kvs'.length<=sizeLine)(hs:(a==sysModules)=false)(nd:(kvs'.map (·.1)).Nodup)(r:Paired (uw K ρ H) kvs' xs') :
  Sim K ρ (M.set n (.dkt kvs')) (upd H a (.ext (dX a xs')))/\Grow K ρ H ρ (upd H a (.ext (dX a xs'))):=by
 have g:Grow K ρ H ρ (upd H a (.ext (dX a xs'))):=⟨ACX,λ_ _ h=>SqT.writtenX hH h⟩
 have hk:∀m,m≠n->(M.set n (.dkt kvs'))[m]?=M[m]?:=λm hm=>AAq (ABC hm)
 have notK:¬isK M[n]?:=λ⟨_,z⟩=>by rw[hM]at z;cases z
 refine⟨⟨λm m' b hne f1 f2=>?_,by rw[AAw];exact S.len,λm b mo f1 f2=>?_⟩,g⟩
 ·have q:=S.nd m m' b hne f1 f2
  by_cases h1:m=n
  ·subst h1
   rw[hk m' (ABC hne)]
   exact .inr (q.resolve_left notK)
  ·rw[hk m h1]
   by_cases h2:m'=n
   ·subst h2
    exact .inl (q.resolve_right notK)
   ·rw[hk m' h2]
    exact q
 by_cases hm:m=n
 ·subst hm
  have hb:b=a:=AAR (f1.symm.trans e1)
  subst hb
  rw[AAj (by rw[←S.len];exact(AA7.mp e1).1)]at f2
  cases f2
  exact⟨hl,hs,nd,xs',aH,Paired.mapP r λ_ _ ⟨q1,q2,q3,v,q4,q5⟩=>⟨q1,q2,q3.grow g,v,q4.grow g,q5⟩⟩
 ·rw[hk m hm]at f2
  by_cases hb:b=a
  ·subst hb
   have q':=(S.nd m n b hm f1 e1).resolve_right notK
   rw[f2]at q'
   exact(S.obj m b mo f1 f2).grow g (.inr q')
  ·exact(S.obj m b mo f1 f2).grow g (.inl (ah hb))
end
section
variable{X:Cx}{pins:List (Addr×Obj)}{σ:St}{H:Hp}{s:Shared}{ρ:List Addr}{M:Mem}
theorem dn(I:Inv X pins σ H s):∀(n:Nat) (d:D) (v:V) (u:Value),Rep X.K ρ H d v->aL v u->cc n d=true->er s.heap n d u:=by
 intro n
 induction n with
 | zero =>
  intro d v u r rv k
  cases r with
  | str x=>exact rv
  | int x=>exact rv
  | _=>cases k
 | succ n ih =>
  intro d v u r rv k
  cases r with
  | str x=>exact rv
  | int x=>exact rv
  | @tup a vs ds hq rr =>
   cases rv
   obtain⟨its,r2,p,hz⟩:=I.tuple hq
   have hk:∀x∈ds,cc n x=true:=AAa.mp (show ds.all (cc n)=true from k)
   refine⟨a,its.toArray,rfl,p,?_⟩
   rw[List.toList_toArray]
   clear p hq k hz
   induction r2 generalizing ds with
   | nil=>cases rr;exact .nil
   | cons q1 q2 i2 =>
    cases rr with
    | cons h1 t1=>exact .cons (ih _ _ _ h1 q1 (hk _ AAI)) (i2 t1 λx hx=>hk x (AAA _ hx))
  | _=>cases k
theorem gX(I:Inv X pins σ H s)(sm:Sim X.K ρ M H){n:Nat}{a:Addr}{kvs:List (D×D)}(e:ρ[n]?=some a)(hM:M[n]?=some (.dkt kvs)) :
  ∃xs,H a=some (.ext (dX a xs))/\Paired (uw X.K ρ H) kvs xs/\s.heap.DictOfH (bC X.prog X.w) a xs/\(a==sysModules)=false/\kvs.length<=sizeLine/\xs.length=kvs.length/\(kvs.map (·.1)).Nodup:=by
 obtain⟨h1,h2,h3,xs,hH,r⟩:=sm.obj _ _ _ e hM
 obtain⟨⟨o,es,e1,e2,e3,e4⟩,_⟩:=(show cF X.prog X.w H s.heap a (.ext (dX a xs))from I.hok a _ hH)
 have ek:=fU r
 refine⟨xs,hH,r,⟨o,es,_,e1,e2,e3,e4,λx hx=>?_,by rw[ek];exact h3⟩,h2,h1,?_,h3⟩
 ·obtain⟨i,hi⟩:=ABB hx
  obtain⟨p,_,q1,q2,q3,_⟩:=cO r hi
  rw[←q1]
  exact dn I 8 _ _ _ q3 rfl q2
 ·have:=congrArg ABc ek
  rwa [AA6,AA6]at this
theorem qP(d:dX a xs P w h'):cF P w H' h' a (.ext (dX a xs)):=by
 obtain⟨o,es,e1,e2,e3,e4⟩:=d
 exact⟨⟨o,es,e1,e2,e3,e4⟩,⟨o,e1⟩,λh1 h2 ⟨o,es,e1,e2,e3,e4⟩ k=>⟨o,es,k _ e1,e2,e3,e4⟩⟩
theorem Ak(I:Inv X pins σ H s)(hH:H a=some (.ext (dX a xs))):dX a xs X.prog X.w s.heap :=
 (show cF X.prog X.w H s.heap a (.ext (dX a xs))from I.hok a _ hH).1
end
theorem setE(hu:(bC prog w).room A.in1)(kat:(bC prog w).is s.heap k b)
  (hm:s.heap.DictOfH (bC prog w) d xs) (hx:dX d xs prog w s.heap) (hz:xs.length<=sizeLine)
  (hQ:∀h',dX d (storedH xs k b v) prog w h'->ABz d s.heap h'->Q () { s with heap:=h',toks:=s.toks+(bC prog w).draws k }):wpAny (model prog w) A (setItem (.ref d) (.ref b) v) Q E s:=by
 have hT:=hm.typeIs
 obtain⟨_,_,_,_,_,_,_,his,hn⟩:=hm
 obtain⟨o,es,ho,hc,hd,he'⟩:=hx
 have he:es.toList=xs.map (entryOfKey (bC prog w)):=he'
 unfold setItem
 try with_reducible refine AAh ?_
 refine AA0 (wpAny_sequenceKey hT (by decide) (AA0 (AB0 (name:=AA1 "__setitem__") hT slot_dict_setitem (AAt slot_dict_setitem hT entry_dict_setitem ?_ (args_dict_setitem _ _ _)))))
 refine(show wpAny (model prog w) _ (Builtin.Dict.notOrdered "__setitem__" ⟨[.ref d,.ref b,v],[]⟩ >>= _) _ _ s from AA0 (ACQ hT ?_))
 refine(show wpAny (model prog w) _ (dictSet d (.ref b) v >>= _) _ _ s from AA0 ?_)
 unfold dictSet
 try with_reducible refine AAh ?_
 refine AA0 ((bC prog w).pyHash hu kat ?_)
 unfold dictSetHashed
 try with_reducible refine AAh ?_
 have hl:es.size=xs.length:=size_of_entries he
 refine AA0 (wpAny_dictFind_heap (s:={ s with toks:=s.toks+(bC prog w).draws k }) hu kat ho hd he his hn (λhno=>?_) λj p hj=>?_)
 ·refine AA0 (ABX (wpAny_updateDictKeys (hz:=by lia) (s:={ s with toks:=s.toks+(bC prog w).draws k }) ho hd (AA2 ⟨.none,rfl,AA2 (hQ _ ⟨_,es.push ⟨(bC prog w).hash k,.ref b,v⟩,AAe _ ho (ACh (ACA hd _)),hc.mapDictKeys _,?_,?_⟩ (AAo ..))⟩)))
  ·rw[ACA hd,storedH_new (ADo hno),AAB];rfl
  ·rw[storedH_new (ADo hno)]
   rw[ADk,he,AAm]
   rfl
 ·refine AA0 (ABX (AA0 (wpAny_updateDict (s:={ s with toks:=s.toks+(bC prog w).draws k }) ho hd (wpAny_point (AA2 ⟨.none,rfl,AA2 (hQ _ ⟨_,es.modify j λe=>{ e with val:=v },AAe _ ho (ACh (ADy hd _)),hc.mapDict _,?_,?_⟩ (AAo ..))⟩)))))
  ·rw[ADy hd,storedH_old (atKey_of_get hn hj),AA6]
  ·rw[storedH_old (atKey_of_get hn hj)]
   have q:=modify_map_putAt (entryOfKey (bC prog w)) (λe:DictEntry=>{ e with val:=v }) k v (λ_ _=>rfl) hn hj
   rw[←he]at q
   obtain⟨l⟩:=es
   have q2:(Array.modify ⟨l⟩ j λe:DictEntry=>{ e with val:=v }).toList=(xs.map (putAt k v)).map (entryOfKey (bC prog w)):=by simpa using q
   exact q2
section
variable{X:Cx}{o i value:Expr}{td ty tv:DTE}{pos pos':Pos}{k:Nat}
def pC:DTE:=λ_ M Q=>Q (.ref M.length) (M++[.dkt []])
theorem Ff:DE X (.Dict [] [] pos) pC:=by
 intro pins s σ H R I ⟨S,M,ρ,Q,sm,sr,q,kk⟩
 have hf:H s.heap.objs.size=none:=I.hok.fresh (AA8 _)
 have hb:(s.heap.objs.size==sysModules)=false:=beq_eq_false_iff_ne.mpr (ABC (AAM I.big))
 refine wpAny_Dict_empty ⟨.ref s.heap.objs.size,_,I.laid (a:=s.heap.objs.size) (o:=.ext (dX s.heap.objs.size [])) (t':=s.toks) (λ_ _ q=>AA3 _ q) (AA8 _) (qP ⟨_,#[],AAC _ rfl,⟨rfl,rfl,rfl⟩,rfl,rfl⟩),rfl,?_⟩
 exact kk _ _ ⟨.ref M.length,M++[.dkt []],ρ++[s.heap.objs.size],sm.laidM (mo:=.dkt []) hf ⟨AAS _,hb,ADC,[],aH,.nil⟩,Grow.laidR hf,.ref sm.last,(show Q (.ref M.length) (M++[.dkt []])from q)⟩
def mW(td ty:DTE):DTE:=λS M Q=>td S M λx M1=>ty S M1 λy M2=>match x,y with
 | .ref n,.tup ks=>∃kvs d,M2[n]?=some (.dkt kvs)/\cc 8 (.tup ks)=true/\aM kvs (.tup ks)=some d/\Q d M2
 | _,_=>False
theorem Fg(hr:Room k X.A)(ho:DE X o td)(hi:DE X i ty)(hs:NoSl i):DE X (.Subscript o i pos) (mW td ty):=by
 intro pins s σ H R I ⟨S,M,ρ,Q,sm,sr,q,kk⟩
 have un:=hr.un
 refine Ay PySem.F.slot_dict_getitem.lookup hs (thn (ho pins s σ H _ I ⟨S,M,ρ,_,sm,sr,q,λv H' z=>z⟩) λu s1 ⟨v,H1,I1,rv,x,M1,ρ1,sm1,g1,r1,q1⟩=>thn (hi pins s1 σ H1 _ I1 ⟨S,M1,ρ1,_,sm1,sr.grow g1,q1,λv H' z=>z⟩) λiv s2 ⟨w,H2,I2,rw',y,M2,ρ2,sm2,g2,r2,q2⟩=>?_)
 cases x with
 | ref n =>
  cases y with
  | tup ks =>
   obtain⟨kvs,d,hM,kd,hg,q3⟩:=q2
   obtain⟨a,rfl,hn⟩:=Rep.inv_ref r1
   obtain rfl:u=ABU a:=rv
   obtain⟨xs,hH,r,dd,hsm,hl,hx,_⟩:=gX I2 sm2 (av g2.pre hn) hM
   have kat:=dn I2 8 _ _ _ r2 rw' kd
   rcases oS r (.tup ks)with⟨z,_⟩|⟨d',p,v',e1,e2,e3,e4⟩
   ·rw[hg]at z;cases z
   ·rw[hg]at e1
    cases e1
    obtain⟨b,_,rfl,_⟩:=id kat
    refine⟨dd.typeIs,wpAny_getItem_heap (knd:=bC X.prog X.w) (k:=.tup ks) (by show X.A.units+1+8<cLine;lia) kat dd e2 ⟨v',H2,I2.tok _,e4,kk _ _ ⟨d,M2,ρ2,sm2,g1.trans g2,e3,q3⟩⟩⟩
  | _=>exact q2.elim
 | _=>exact q2.elim
def mV(td ty tv:DTE):DTS:=λE S M=>tv S M λv M1=>td S M1 λx M2=>ty S M2 λy M3=>match x,y with
 | .ref n,.tup ks=>∃kvs,M3[n]?=some (.dkt kvs)/\cc 8 (.tup ks)=true/\kvs.length<sizeLine/\E.nx S (M3.set n (.dkt (cX kvs (.tup ks) v)))
 | _,_=>False
theorem mq(h:(kvs.map (·.1)).Nodup):((cX kvs y v).map (·.1)).Nodup:=by
 unfold cX
 split
 ·rw[AB6]
  have:((λx:D×D=>x.1) ∘ λp:D×D=>if p.1=y then(p.1,v)else p)=λx=>x.1:=by
   funext p
   show (if p.1=y then(p.1,v)else p).1=p.1
   split<;>rfl
  rw[this];exact h
 ·rename_i q
  rw[AAm,List.map_singleton,ABv]
  refine⟨h,by simp,λa ha b hb=>?_⟩
  rw[AC4.mp hb]
  rintro rfl
  obtain⟨p,hp,e⟩:=AAO.mp ha
  refine q ?_
  unfold aM
  rw[Option.isSome_map,List.find?_isSome]
  exact⟨p,hp,by simpa using e⟩
theorem BT(hr:Room k X.A)(ho:DE X o td)(hi:DE X i ty)(hv:DE X value tv)(hs:swapsWith value (some (.Subscript o i pos')) pos.line X.env=pure false):DS X (.Assign [.Subscript o i pos'] value pos) (mV td ty tv):=by
 intro pins s σ H E I ⟨S,M,ρ,F,sm,sr,q,kk⟩
 have un:=hr.un
 refine wpAny_Assign_Subscript (thn (hv pins s σ H _ I ⟨S,M,ρ,_,sm,sr,q,λv H' z=>z⟩) λr s1 ⟨v,H1,I1,rv,dv,M1,ρ1,sm1,g1,r1,q1⟩=>thn (ho pins s1 σ H1 _ I1 ⟨S,M1,ρ1,_,sm1,sr.grow g1,q1,λv H' z=>z⟩) λu s2 ⟨vx,H2,I2,rx,x,M2,ρ2,sm2,g2,r2,q2⟩=>thn (hi pins s2 σ H2 _ I2 ⟨S,M2,ρ2,_,sm2,(sr.grow g1).grow g2,q2,λv H' z=>z⟩) λiv s3 ⟨vy,H3,I3,ry,y,M3,ρ3,sm3,g3,r3,q3⟩=>?_) hs
 cases x with
 | ref n =>
  cases y with
  | tup ks =>
   obtain⟨kvs,hM,kd,hl,q4⟩:=q3
   obtain⟨a,rfl,hn⟩:=Rep.inv_ref r2
   obtain rfl:u=ABU a:=rx
   have hn3:=av g3.pre hn
   obtain⟨xs,hH,r,dd,hsm,_,hx,nd⟩:=gX I3 sm3 hn3 hM
   have kat:=dn I3 8 _ _ _ r3 ry kd
   obtain⟨b,_,rfl,_⟩:=id kat
   obtain⟨_,_,rfl,hq,rr⟩:=Rep.inv_tup r3
   cases ry
   have r':=zK r kd (.tup hq rr) ((r1.grow g2).grow g3) rv
   have pl:=sj (kvs:=kvs) (k:=.tup ks) (d:=dv)
   obtain⟨w1,w2⟩:=sm3.writeT hn3 hM hH (by have:=pl;lia) hsm (mq nd) r'
   refine setE (k:=.tup ks) (by show X.A.units+1+8<cLine;lia) kat dd (Ak I3 hH) (by lia) λh' dd' hsb=>?_
   have he:∃q,h'.get? a=some q:=let ⟨q,_,hq,_⟩:=dd';⟨q,hq⟩
   exact⟨σ,_,xq I3 (by rw[hH];exact True.intro) hsb he (qP dd'),kk.nx σ _ (SQ.trans ((g1.trans g2).trans g3) ⟨S,_,ρ3,w1,w2,(((sr.grow g1).grow g2).grow g3).grow w2,q4⟩)⟩
  | _=>exact q3.elim
 | _=>exact q3.elim
def dMt(r:Nat->DRA)(to:DTE)(t:DTA):DTE:=λS M Q=>to S M λx M1=>match x with
 | .ref n=>(∃kvs,M1[n]?=some (.dkt kvs))/\t S M1 λds M2=>r n ds M2 Q
 | _=>False
variable{name:Str}{id:String}{e:Expr}{es:List Expr}{to:DTE}{t:DTA}{apos cpos:Pos}
theorem d_mt{r:Nat->DRA}(slot:Slot "dict" name id)(hty:typeOf (.builtin id)=pure (.type "method_descriptor"))(hm:MtR X id (kA X.K r))(ho:DE X o to)(ha:DA X (e::es) t)
  (hbase:attributeBase o name X.env (eval o X.env)=eval o X.env:=by rfl)
  (hfew:((backTo cpos (starEach (e::es) X.env)).all (λx=>!x.1)&&(backToKw cpos (keywordEach [] X.env)).all (λx=>x.1.isSome)
   && decide ((e::es).length+([]:List Keyword).length+(if ([]:List Keyword).isEmpty then 0 else 1)<30))=true:=by rfl)
  (hline:(apos.endLine==cpos.line)=true:=by rfl) (hs:starEach (e::es) X.env=(false,eval e X.env)::starEach es X.env:=by rfl) (hplain:(backTo cpos (starEach es X.env)).any (·.1)=false:=by rfl) :
  DE X (.Call (.Attribute o name apos) (e::es) [] cpos) (dMt r to t):=by
 intro pins s σ H R I ⟨S,M,ρ,Q,sm,sr,q,kk⟩
 refine ADf hbase hfew hline rfl (thn (ho pins s σ H _ I ⟨S,M,ρ,_,sm,sr,q,λv H' z=>z⟩) λu s1 ⟨v,H1,I1,rv,x,M1,ρ1,sm1,g1,r1,q1⟩=>?_)
 cases r1 with
 | @ref n a hn =>
  cases rv
  obtain⟨⟨kvs,hM⟩,q1⟩:=(show (∃kvs,M1[n]?=some (.dkt kvs))/\t S M1 _ from q1)
  obtain⟨xs,hH,r,dd,hsm,hl,hx,nd⟩:=gX I1 sm1 hn hM
  refine⟨"dict",id,ACi,slot,hty,dd.typeIs,λb z=>?_,?_⟩
  ·cases z
   obtain⟨ob,_,_,h1,h2,_⟩:=dd
   exact⟨ob,h1,h2.2.1⟩
  ·have hA:=ha cpos pins s1 σ H1 _ I1 ⟨S,M1,ρ1,_,sm1,sr.grow g1,q1,λvs H' z=>z⟩
   rw[hs]at hA ⊢
   refine ABp (by show (false||(backTo cpos (starEach es X.env)).any (·.1))=false;rw[hplain]<;>rfl) (AE0 ?_)
   exact thn hA λus s2 ⟨vs,H2,I2,rvs,ds,M2,ρ2,sm2,g2,rr,q2⟩=>hm pins s2 σ H2 (.ref a) vs (.ref a) us R I2 rfl rvs ⟨n,a,ds,M2,ρ2,Q,rfl,av g2.pre hn,sm2,rr,q2,λv H' w=>kk v H' (VQ.trans (g1.trans g2) w)⟩
 | _=>exact q1.elim
def gH(n:Nat):DRA:=λds M Q=>match ds with
 | [.tup ks,d]=>∃kvs,M[n]?=some (.dkt kvs)/\cc 8 (.tup ks)=true/\Q ((aM kvs (.tup ks)).getD d) M
 | _=>False
theorem yw(hr:Room k X.A):MtR X "dict.get" (kA X.K gH):=by
 intro pins s σ H x xs v us R I rx rs ⟨n,a,ds,M,ρ,Q,ez,hn,sm,rr,q,kk⟩
 have un:=hr.un
 unfold gH at q
 split at q
 ·rename_i ks d
  obtain⟨kvs,hM,kd,q⟩:=q
  first | have hzz:=Reps.inv_cons rr | have hzz:=aw.inv_cons rr
  clear rr
  obtain⟨_,_,rfl,r1,rr⟩:=hzz
  first | have hzz:=Reps.inv_cons rr | have hzz:=aw.inv_cons rr
  clear rr
  obtain⟨_,_,rfl,r2,rr⟩:=hzz
  cases rr
  obtain⟨u1,u2,rfl,e1,e2⟩:=aw.two rs
  subst ez
  cases rx
  obtain⟨ys,hH,r,dd,hsm,hl,hx,nd⟩:=gX I sm hn hM
  have kat:=dn I 8 _ _ _ r1 e1 kd
  obtain⟨b,_,rfl,_⟩:=id kat
  refine call_meetsIn ACv dd.typeIs PySem.F.entry_dict_get (PySem.F.args_dict_get_3 _ _ _) (meetsH_dict_get_default (bC X.prog X.w) a b hsm u2) ⟨by show X.A.units+1+8<cLine;lia,.tup ks,ys,kat,dd,?_⟩
  rcases oS r (.tup ks)with⟨z1,z2⟩|⟨d',p,v',z1,z2,z3,z4⟩
  ·rw[z2]
   rw[z1]at q
   exact⟨_,H,I.tok _,e2,kk _ _ ⟨d,M,ρ,sm,.refl,r2,q⟩⟩
  ·rw[z2]
   rw[z1]at q
   exact⟨_,H,I.tok _,z4,kk _ _ ⟨d',M,ρ,sm,.refl,z3,q⟩⟩
 ·exact q.elim
end
end L2
namespace L2
open PySem PySem.Spec PyProof.Rows DL PySem.W
def cW(h:Heap)(d:Addr)(es:Array DictEntry)(ep:Nat):Prop:=∃o,h.get? d=some o/\o.ExactDict/\o.data=.dict es ep
theorem cW.ty{s:Shared}{d:Addr}{es:Array DictEntry}{ep:Nat}(x:cW s.heap d es ep):s.TypeIs (.ref d) "dict":=by
 obtain⟨o,h1,h2,_⟩:=x
 exact⟨o,h1,h2.1⟩
theorem cW.lt(x:cW h d es ep):d<h.objs.size:=by
 obtain⟨o,h1,_⟩:=x
 exact AAH h1
theorem cW.to(x:cW h d es ep)(k:∀o,h.get? d=some o->h'.get? d=some o):cW h' d es ep:=by
 obtain⟨o,h1,h2⟩:=x
 exact⟨o,k o h1,h2⟩
section
variable{prog:Program}{w:World}{A:Around}{E:Value->Shared->Prop}{s:Shared}{d:Addr}{es:Array DictEntry}{ep:Nat}
theorem zc{Q:Value->Shared->Prop}(hd:(d==sysModules)=false)(hm:cW s.heap d es ep)
  (hQ:Q (.ref s.heap.objs.size) { s with heap:=s.heap.push { cls:=.type "dict_keyiterator",data:=.fields #[.ref d,.int 0 0,.int es.size 0,.int ep 0] } }) :
  wpAny (model prog w) A (pyIter (.ref d)) Q E s:=by
 have hT:=hm.ty
 obtain⟨o,h1,h2,h3⟩:=hm
 refine ADm hT F.slot_dict_iter (AAt F.slot_dict_iter hT F.entry_dict_iter ?_ (F.args_dict_iter_1 _))
 unfold Builtin.«dict.__iter__»
 refine AA0 ?_
 unfold Builtin.Dict.dictSlotNone
 refine AA0 (ACQ hT (AA2 ?_))
 refine(show wpAny (model prog w) _ (ACw d >>= _) _ _ s from ?_)
 unfold ACw
 rw[hd]
 refine AA0 (AA2 (AA0 (ABZ h1 h3 (AA0 (ABQ h1 h3 ?_)))))
 exact AA0 (AAk (AA2 ⟨_,rfl,"dict_keyiterator",_,⟨_,AAC _ rfl,rfl⟩,F.slot_dict_keyiterator_next.lookup,by simpa [rawInt]using hQ⟩))
theorem zb(hit:s.heap.IsKeyIter it d i es.size ep)(hm:cW s.heap d es ep)(hi:i<es.size)
  (hQ:∀h',h'.IsKeyIter it d (i+1) es.size ep->ABz it s.heap h'->Q (some es[i].key) { s with heap:=h' }):wpAny (model prog w) A (pyNext (.ref it)) Q E s:=by
 obtain⟨o,ho,hc,hd⟩:=id hit
 obtain⟨od,k1,k2,k3⟩:=id hm
 unfold pyNext
 refine AA0 (ACO (AB0 (name:=AA1 "__next__") hit.typeIs F.slot_dict_keyiterator_next (AAt F.slot_dict_keyiterator_next hit.typeIs F.entry_dict_keyiterator_next ?_ (F.args_dict_keyiterator_next_1 _))))
 refine AA0 (AA2 (AA0 (AA0 ?_)))
 first | refine AA0 (AC7 hit.typeIs (AA2 (AA0 (ABV ho hd ?_)))) | refine AA0 (ACZ hit.typeIs (AA2 (AA0 (ABV ho hd ?_))))
 simp only[show ABa "dict_keyiterator" = false by decide,AAE,if_false]
 refine(show wpAny (model prog w) _ (if (ABU d==ABi)=true then _ else _) _ _ s from ?_)
 rw[if_neg (by exact ABF)]
 refine AA0 (AA2 (AA0 (ABZ k1 k3 ?_)))
 rw[if_neg (by simp)]
 refine AA0 (AA2 (AA0 (ABQ k1 k3 ?_)))
 rw[if_neg (by simp)]
 refine AA2 ?_
 simp only[show ¬((i:Int)<0)from by lia,if_false,ABY,AAK hi]
 refine AA0 ?_
 first | refine AA0 (AC7 hit.typeIs (AA2 ?_)) | refine AA0 (ACZ hit.typeIs (AA2 ?_))
 refine AA0 (wpAny_isOneOf_keyiter hit.typeIs ?_)
 refine(show wpAny (model prog w) _ (setField (.ref it) 1 (rawInt ((i:Int)+1)) >>= _) _ _ s from AA0 (ABx ho hd (by simp) ?_))
 have hit':(s.heap.update it (AD4 (·.setIfInBounds 1 (rawInt ((i:Int)+1))))).IsKeyIter it d (i+1) es.size ep:=by
  refine⟨_,AAe _ ho (Obj.isFreed_of_fields (ADb hd _)),(Obj.cls_mapFields ..).trans hc,?_⟩
  rw[ADb hd];simp[rawInt]
 refine AA0 (AAh (AA0 (wpAny_isOneOf_keyiter (s:={ s with heap:=s.heap.update it (AD4 (·.setIfInBounds 1 (rawInt ((i:Int)+1)))) }) hit'.typeIs ?_)))
 refine(show wpAny (model prog w) _ (pure es[i].key) _ _ _ from ?_)
 exact AA2 (AA2 ⟨_,rfl,AA2 (hQ _ hit' (AAo ..))⟩)
theorem BO(hh:A.handled=none)(hit:s.heap.IsKeyIter it d es.size es.size ep)(hm:cW s.heap d es ep)
  (hQ:∀h',Heap.ExtBut it s.heap h'->Q none { s with heap:=h' }):wpAny (model prog w) A (pyNext (.ref it)) Q E s:=by
 obtain⟨o,ho,hc,hd⟩:=id hit
 obtain⟨od,k1,k2,k3⟩:=id hm
 unfold pyNext
 refine AA0 (ACO (AB0 (name:=AA1 "__next__") hit.typeIs F.slot_dict_keyiterator_next (AAt F.slot_dict_keyiterator_next hit.typeIs F.entry_dict_keyiterator_next ?_ (F.args_dict_keyiterator_next_1 _))))
 refine AA0 (AA2 (AA0 (AA0 ?_)))
 first | refine AA0 (AC7 hit.typeIs (AA2 (AA0 (ABV ho hd ?_)))) | refine AA0 (ACZ hit.typeIs (AA2 (AA0 (ABV ho hd ?_))))
 simp only[show ABa "dict_keyiterator" = false by decide,AAE,if_false]
 refine(show wpAny (model prog w) _ (if (ABU d==ABi)=true then _ else _) _ _ s from ?_)
 rw[if_neg (by exact ABF)]
 refine AA0 (AA2 (AA0 (ABZ k1 k3 ?_)))
 rw[if_neg (by simp)]
 refine AA0 (AA2 (AA0 (ABQ k1 k3 ?_)))
 rw[if_neg (by simp)]
 refine AA2 ?_
 simp only[show ¬((es.size:Int)<0)from by lia,if_false,ABY,ABq (AA8 es.size)]
 refine AA0 ?_
 first | refine AA0 (AC7 hit.typeIs (AA2 ?_)) | refine AA0 (ACZ hit.typeIs (AA2 ?_))
 refine(show wpAny (model prog w) _ (setField (.ref it) 0 .none >>= _) _ _ s from AA0 (ABx ho hd (by simp) ?_))
 refine(show wpAny (model prog w) _ (newExc (.type "StopIteration") [] >>= _) _ _ _ from AA0 ?_)
 simp only[newExc,newTuple]
 refine AA0 (AAk ?_ (by size_fits))
 refine AA0 (m:=firstArgMember _ _) (wpAny_of_eq (a:=ABi) (by first | rfl | (simp only[firstArgMember];rfl)) ?_)
 refine AAk ?_ (by size_fits)
 simp only[raiseNew]
 refine AA0 (wpAny_handled ?_)
 rw[show A.in1.handled=none from hh]
 refine AA0 (AA2 (wpAny_throw ?_))
 refine AA0 (ACM (b:=true) (T:="StopIteration") ⟨_,AAC _ rfl,rfl⟩ isSubtype_stop ?_)
 exact AA2 (hQ _ (((AAo ..).extBut.push _).push _))
end
end L2
namespace L2
open PySem PySem.Spec PyProof.Rows DL PySem.W
def Ite(a:Addr)(n:Nat):It :=
 ⟨λi H=>∃xs,H a=some (.ext (dX a xs))/\xs.length=n/\i<n,λi H v H'=>H'=H/\∀xs,H a=some (.ext (dX a xs))->∃x,xs[i]?=some x/\v=.ref x.2.1,λi H=>(∃xs,H a=some (.ext (dX a xs))/\xs.length=n)/\i=n⟩
section
variable{X:Cx}{pins:List (Addr×Obj)}{σ:St}{H:Hp}{s:Shared}
theorem gW(I:Inv X pins σ H s)(hH:H a=some (.ext (dX a xs))):∃es,cW s.heap a es xs.length/\es.size=xs.length/\∀(i:Nat) x,xs[i]?=some x->∃e,es[i]?=some e/\e.key=.ref x.2.1/\e.val=x.2.2:=by
 obtain⟨o,es,h1,h2,h3,h4⟩:=Ak I hH
 refine⟨es,⟨o,h1,h2,h3⟩,?_,λi x hx=>?_⟩
 ·have:=congrArg ABc h4
  rwa [AAL,AA6]at this
 ·refine⟨⟨hkD X.w 8 x.1,.ref x.2.1,x.2.2⟩,?_,rfl,rfl⟩
  rw[←AAQ,h4,AAT,hx]
  rfl
theorem sU(x:cW h a es ep)(y:cW h a es' ep'):es=es'/\ep=ep':=by
 obtain⟨o,h1,_,h3⟩:=x
 obtain⟨o',h1',_,h3'⟩:=y
 obtain rfl:o=o':=AAR (h1.symm.trans h1')
 rw[h3]at h3'
 injection h3' with e1 e2
 exact⟨e1,e2⟩
end
theorem xQ{P:Program}{w:World}{K:AA4}{tg:Expr}(a it:Addr)(n:Nat):Turn P w K tg (Ite a n) [it] it (λi h=>h.IsKeyIter it a i n n) where
 mem:=by simp
 obj:=λi h st b hb=>by
  obtain rfl:b=it:=by simpa using hb
  obtain⟨o,e,c,d⟩:=st
  exact⟨o,e,λv z=>by rw[d]at z;cases z⟩
 keep:=λi h h' st k=>st.at λo e=>k it (by simp) o e
 item:=by
  intro X hP hw hK hc i pins s σ H E I hf st hg
  subst hP hw hK
  obtain⟨xs,hH,rfl,hi⟩:=hg
  obtain⟨es,em,el,eg⟩:=gW I hH
  obtain⟨e,e1,e2,e3⟩:=eg i xs[i] (AA5 hi)
  obtain⟨f0,f1,f2,f3,f4,f5⟩:=hf it (by simp)
  have hi':i<es.size:=by lia
  have ee:es[i]=e:=by
   rw[AAK hi']at e1
   exact AAR e1
  rw[←el]at em st
  refine zb st em hi' λh' st' sb=>?_
  rw[ee,e2]
  have I1:Inv X pins σ H { s with heap:=h' }:=I.turned (t':=s.toks) (λb o hb e=>(sb.2 b hb).trans e) f0 f1 f3 f4 f5
  obtain⟨o,q1,q2,q3⟩:=id st'
  refine⟨_,rfl,qL (s:={ s with heap:=h' }) q1 q2 q3 (by decide) ⟨.ref xs[i].2.1,H,I1,rfl,⟨rfl,λys hy=>?_⟩,by rw[el]at st';exact st',λb hb=>(hf b hb).1⟩⟩
  obtain⟨es',em',el',eg'⟩:=gW I hy
  obtain⟨rfl,ep⟩:=sU em em'
  have hj:i<ys.length:=by lia
  obtain⟨e',z1,z2,_⟩:=eg' i ys[i] (AA5 hj)
  rw[AAK hi',ee]at z1
  obtain rfl:=AAR z1
  rw[e2]at z2
  injection z2 with z2
  exact⟨ys[i],AA5 hj,by rw[z2]⟩
 done:=by
  intro X hP hw hK hc i pins s σ H E I hf st hg
  subst hP hw hK
  obtain⟨⟨xs,hH,rfl⟩,rfl⟩:=hg
  obtain⟨es,em,el,eg⟩:=gW I hH
  obtain⟨f0,f1,f2,f3,f4,f5⟩:=hf it (by simp)
  rw[←el]at em st
  exact BO (I.ok.hd hc) st em λh' he=>⟨rfl,I.turned (t':=s.toks) (λb o hb e=>he b o hb e) f0 f1 f3 f4 f5⟩
 self:=λA i s Q E st hQ=>wpAny_pyIter_keyiter st hQ
section
variable{X:Cx}{tg:Expr}
def sX(tl:DTE):DTI:=λS M R=>tl S M λd M1=>match d with
 | .ref n=>∃kvs,M1[n]?=some (.dkt kvs)/\(kvs.length<=sizeLine->R ⟨kvs.map (·.1),λM=>M[n]?=some (.dkt kvs)⟩ M1)
 | _=>False
theorem zg{l:Expr}{tl:DTE}(hl:DE X l tl):DI X tg l (sX tl):=by
 intro pins s σ H R I h
 obtain⟨S,M,ρ,Q,sm,sr,q,k⟩:=h
 refine thn (hl pins s σ H _ I ⟨S,M,ρ,_,sm,sr,q,λv H' w=>w⟩) λu s1 ⟨v,H1,I1,rv,d,M1,ρ1,sm1,g1,r1,q1⟩=>?_
 cases r1 with
 | @ref n a hn =>
  cases rv
  obtain⟨kvs,hM,q2⟩:=(show ∃kvs,M1[n]?=some (.dkt kvs)/\(kvs.length<=sizeLine->Q ⟨kvs.map (·.1),λM=>M[n]?=some (.dkt kvs)⟩ M1)from q1)
  obtain⟨xs,hH,r,dd,hsm,hz,hx,nd⟩:=gX I1 sm1 hn hM
  obtain⟨es,em,el,_⟩:=gW I1 hH
  refine zc hsm em ?_
  rw[el]
  refine⟨s1.heap.objs.size,[s1.heap.objs.size],_,_,H1,rfl,I1.kept (t':=s1.toks) λb o e=>AA3 _ e,xQ a _ xs.length,⟨_,AAC _ rfl,rfl,rfl⟩,λb hb=>?_,k _ H1 ⟨⟨kvs.map (·.1),λM=>M[n]?=some (.dkt kvs)⟩,M1,ρ1,sm1,g1,?_,q2 hz⟩⟩
  ·obtain rfl:b=s1.heap.objs.size:=by simpa using hb
   exact I1.fpOk (AA8 _) (I1.hok.fresh (AA8 _))
  ·refine⟨λi ρ' M' H' s' g ok hi=>?_,λi ρ' M' H' x H2 s' g ok hi y=>?_,λρ' M' H' s' g ok=>?_⟩
   ·obtain⟨_,_,_,ys,hy,ry⟩:=s'.obj _ _ _ (av g.pre hn) ok
    have ly:ys.length=kvs.length:=by have:=congrArg ABc (fU ry);rwa [AA6,AA6]at this
    exact⟨ys,hy,by lia,by rw[AA6]at hi;lia⟩
   ·obtain⟨rfl,hall⟩:=y
    obtain⟨_,_,_,ys,hy,ry⟩:=s'.obj _ _ _ (av g.pre hn) ok
    obtain⟨z,hz1,rfl⟩:=hall ys hy
    obtain⟨p,hp,_,_,rp,_⟩:=cO ry hz1
    exact⟨p.1,ρ',by rw[AAT,hp];rfl,s',.refl,rp⟩
   ·obtain⟨_,_,_,ys,hy,ry⟩:=s'.obj _ _ _ (av g.pre hn) ok
    have ly:ys.length=kvs.length:=by have:=congrArg ABc (fU ry);rwa [AA6,AA6]at this
    exact⟨⟨ys,hy,by lia⟩,by rw[AA6];lia⟩
 | _=>exact q1.elim
end
end L2
namespace L2
open PySem PySem.Spec PyProof.Rows DL PySem.W
section
variable{prog:Program}{w:World}{A:Around}{E:Value->Shared->Prop}{s:Shared}{d:Addr}{es:Array DictEntry}{ep:Nat}
theorem lP(hd:(d==sysModules)=false)(hm:cW s.heap d es ep)(hQ:Q (.ref s.heap.objs.size) { s with heap:=s.heap.push { cls:=.type "dict_values",data:=.fields #[.ref d] } }) :
  wpAny (model prog w) A (call (.builtin "dict.values") [.ref d]) Q E s:=by
 refine call_meetsIn ADM hm.ty PySem.F.entry_dict_values (PySem.F.args_dict_values_1 _) (S:=λ_ R s'=>s'=s/\R (.ok (.ret (.ref s.heap.objs.size))) { s with heap:=s.heap.push { cls:=.type "dict_values",data:=.fields #[.ref d] } }) (.of_wp ?_) ⟨rfl,hQ⟩
 rintro A R s' ⟨rfl,h⟩
 refine AA0 ?_
 unfold Builtin.Dict.noArgs
 refine AA0 (ACQ hm.ty (AA2 ?_))
 refine(show wpAny (model prog w) _ (ACw d >>= _) _ _ s' from ?_)
 unfold ACw
 rw[hd]
 exact AA0 (AA2 (AA0 (AAk (AA2 ⟨_,rfl,h⟩))))
theorem pp(hv:s.heap.IsValuesView v d)(hm:cW s.heap d es ep)
  (hQ:Q (.ref s.heap.objs.size) { s with heap:=s.heap.push { cls:=.type "dict_valueiterator",data:=.fields #[.ref d,.int 0 0,.int es.size 0,.int ep 0] } }):wpAny (model prog w) A (pyIter (.ref v)) Q E s:=by
 obtain⟨ov,v1,v2,v3⟩:=id hv
 obtain⟨o,h1,h2,h3⟩:=hm
 refine ADm hv.typeIs F.slot_dict_values_iter (AAt F.slot_dict_values_iter hv.typeIs F.entry_dict_values_iter ?_ (F.args_dict_values_iter_1 _))
 unfold Builtin.«dict_values.__iter__»
 refine AA0 (AA2 (AA0 ?_))
 unfold Builtin.Dict_items.dictOf
 refine AA0 (wpAny_field v1 v3 (x:=.ref d) rfl (AA2 (AA0 ?_)))
 unfold Builtin.Dict_items.newIterator
 refine AA0 (ABZ h1 h3 (AA0 (ABQ h1 h3 ?_)))
 simp only[show ABa "dict_valueiterator" = false by decide,AAE,if_false]
 exact AAk (AA2 ⟨_,rfl,"dict_valueiterator",_,⟨_,AAC _ rfl,rfl⟩,F.slot_dict_valueiterator_next.lookup,by simpa [rawInt]using hQ⟩)
theorem pj(hit:s.heap.IsValIter it d i es.size ep)(hm:cW s.heap d es ep)(hi:i<es.size)
  (hQ:∀h',h'.IsValIter it d (i+1) es.size ep->ABz it s.heap h'->Q (some es[i].val) { s with heap:=h' }):wpAny (model prog w) A (pyNext (.ref it)) Q E s:=by
 obtain⟨o,ho,hc,hd⟩:=id hit
 obtain⟨od,k1,k2,k3⟩:=id hm
 unfold pyNext
 refine AA0 (ACO (AB0 (name:=AA1 "__next__") hit.typeIs F.slot_dict_valueiterator_next (AAt F.slot_dict_valueiterator_next hit.typeIs F.entry_dict_valueiterator_next ?_ (F.args_dict_valueiterator_next_1 _))))
 refine AA0 (AA2 (AA0 (AA0 ?_)))
 first | refine AA0 (AC8 hit.typeIs (AA2 (AA0 (ABV ho hd ?_)))) | refine AA0 (ACa hit.typeIs (AA2 (AA0 (ABV ho hd ?_))))
 simp only[show ABa "dict_valueiterator" = false by decide,AAE,if_false]
 refine(show wpAny (model prog w) _ (if (ABU d==ABi)=true then _ else _) _ _ s from ?_)
 rw[if_neg (by exact ABF)]
 refine AA0 (AA2 (AA0 (ABZ k1 k3 ?_)))
 rw[if_neg (by simp)]
 refine AA0 (AA2 (AA0 (ABQ k1 k3 ?_)))
 rw[if_neg (by simp)]
 refine AA2 ?_
 simp only[show ¬((i:Int)<0)from by lia,if_false,ABY,AAK hi]
 refine AA0 ?_
 first | refine AA0 (AC8 hit.typeIs (AA2 ?_)) | refine AA0 (ACa hit.typeIs (AA2 ?_))
 refine AA0 (ADx hit.typeIs ?_)
 refine(show wpAny (model prog w) _ (setField (.ref it) 1 (rawInt ((i:Int)+1)) >>= _) _ _ s from AA0 (ABx ho hd (by simp) ?_))
 have hit':(s.heap.update it (AD4 (·.setIfInBounds 1 (rawInt ((i:Int)+1))))).IsValIter it d (i+1) es.size ep:=by
  refine⟨_,AAe _ ho (Obj.isFreed_of_fields (ADb hd _)),(Obj.cls_mapFields ..).trans hc,?_⟩
  rw[ADb hd];simp[rawInt]
 refine AA0 (AAh (AA0 (ADx (s:={ s with heap:=s.heap.update it (AD4 (·.setIfInBounds 1 (rawInt ((i:Int)+1)))) }) hit'.typeIs (AA0 (ADx (s:={ s with heap:=s.heap.update it (AD4 (·.setIfInBounds 1 (rawInt ((i:Int)+1)))) }) hit'.typeIs ?_)))))
 refine(show wpAny (model prog w) _ (pure es[i].val) _ _ _ from ?_)
 exact AA2 (AA2 ⟨_,rfl,AA2 (hQ _ hit' (AAo ..))⟩)
theorem sT(hh:A.handled=none)(hit:s.heap.IsValIter it d es.size es.size ep)(hm:cW s.heap d es ep)
  (hQ:∀h',Heap.ExtBut it s.heap h'->Q none { s with heap:=h' }):wpAny (model prog w) A (pyNext (.ref it)) Q E s:=by
 obtain⟨o,ho,hc,hd⟩:=id hit
 obtain⟨od,k1,k2,k3⟩:=id hm
 unfold pyNext
 refine AA0 (ACO (AB0 (name:=AA1 "__next__") hit.typeIs F.slot_dict_valueiterator_next (AAt F.slot_dict_valueiterator_next hit.typeIs F.entry_dict_valueiterator_next ?_ (F.args_dict_valueiterator_next_1 _))))
 refine AA0 (AA2 (AA0 (AA0 ?_)))
 first | refine AA0 (AC8 hit.typeIs (AA2 (AA0 (ABV ho hd ?_)))) | refine AA0 (ACa hit.typeIs (AA2 (AA0 (ABV ho hd ?_))))
 simp only[show ABa "dict_valueiterator" = false by decide,AAE,if_false]
 refine(show wpAny (model prog w) _ (if (ABU d==ABi)=true then _ else _) _ _ s from ?_)
 rw[if_neg (by exact ABF)]
 refine AA0 (AA2 (AA0 (ABZ k1 k3 ?_)))
 rw[if_neg (by simp)]
 refine AA0 (AA2 (AA0 (ABQ k1 k3 ?_)))
 rw[if_neg (by simp)]
 refine AA2 ?_
 simp only[show ¬((es.size:Int)<0)from by lia,if_false,ABY,ABq (AA8 es.size)]
 refine AA0 ?_
 first | refine AA0 (AC8 hit.typeIs (AA2 ?_)) | refine AA0 (ACa hit.typeIs (AA2 ?_))
 refine(show wpAny (model prog w) _ (setField (.ref it) 0 .none >>= _) _ _ s from AA0 (ABx ho hd (by simp) ?_))
 refine(show wpAny (model prog w) _ (newExc (.type "StopIteration") [] >>= _) _ _ _ from AA0 ?_)
 simp only[newExc,newTuple]
 refine AA0 (AAk ?_ (by size_fits))
 refine AA0 (m:=firstArgMember _ _) (wpAny_of_eq (a:=ABi) (by first | rfl | (simp only[firstArgMember];rfl)) ?_)
 refine AAk ?_ (by size_fits)
 simp only[raiseNew]
 refine AA0 (wpAny_handled ?_)
 rw[show A.in1.handled=none from hh]
 refine AA0 (AA2 (wpAny_throw ?_))
 refine AA0 (ACM (b:=true) (T:="StopIteration") ⟨_,AAC _ rfl,rfl⟩ isSubtype_stop ?_)
 exact AA2 (hQ _ (((AAo ..).extBut.push _).push _))
theorem uj(hh:A.handled=none)(I:Addr)(hne:d≠I):Walks prog w A I [I,d] [I] es.size (λi v=>∃e,es[i]?=some e/\v=e.val) (λi h=>h.IsValIter I d i es.size ep/\cW h d es ep) where
 sub:=λb hb=>by simp at hb;simp[hb]
 frame:=λ_ _ _ st hk=>⟨st.1.at λo e=>hk I (by simp) o e,st.2.to λo e=>hk d (by simp) o e⟩
 item:=λi s Q E hi st hQ=>pj st.1 st.2 hi λh' hit' hs'=>hQ _ h' s.toks ⟨es[i],by simp[hi],rfl⟩ ⟨hit',st.2.to λo e=>hs'.extBut d o hne e⟩ λb o hb e=>hs'.extBut b o (λh=>hb (by simp[h])) e
 done:=λs Q E st hQ=>sT hh st.1 st.2 λh' he'=>hQ h' s.toks λb o hb e=>he' b o (λh=>hb (by simp[h])) e
 self:=λ_ _ _ _ st hQ=>wpAny_pyIter_valiter st.1 hQ
end
def Itv(a:Addr)(n:Nat):It :=
 ⟨λi H=>∃xs x v,H a=some (.ext (dX a xs))/\xs.length=n/\xs[i]?=some x/\aL v x.2.2,λi H v H'=>H'=H/\∀xs,H a=some (.ext (dX a xs))->∃x,xs[i]?=some x/\aL v x.2.2,λi H=>(∃xs,H a=some (.ext (dX a xs))/\xs.length=n)/\i=n⟩
theorem uF{P:Program}{w:World}{K:AA4}{tg:Expr}(a it:Addr)(n:Nat):Turn P w K tg (Itv a n) [it] it (λi h=>h.IsValIter it a i n n) where
 mem:=by simp
 obj:=λi h st b hb=>by
  obtain rfl:b=it:=by simpa using hb
  obtain⟨o,e,c,d⟩:=st
  exact⟨o,e,λv z=>by rw[d]at z;cases z⟩
 keep:=λi h h' st k=>st.at λo e=>k it (by simp) o e
 item:=by
  intro X hP hw hK hc i pins s σ H E I hf st hg
  subst hP hw hK
  obtain⟨xs,x,v,hH,rfl,hx,hv⟩:=hg
  obtain⟨es,em,el,eg⟩:=gW I hH
  obtain⟨e,e1,e2,e3⟩:=eg i x hx
  obtain⟨f0,f1,f2,f3,f4,f5⟩:=hf it (by simp)
  have hi':i<es.size:=(AAr.mp e1).1
  have ee:es[i]=e:=by
   rw[AAK hi']at e1
   exact AAR e1
  rw[←el]at em st
  refine pj st em hi' λh' st' sb=>?_
  rw[ee,e3]
  have I1:Inv X pins σ H { s with heap:=h' }:=I.turned (t':=s.toks) (λb o hb e=>(sb.2 b hb).trans e) f0 f1 f3 f4 f5
  obtain⟨o,q1,q2,q3⟩:=id st'
  refine⟨_,rfl,qL (s:={ s with heap:=h' }) q1 q2 q3 (by decide) ⟨v,H,I1,hv,⟨rfl,λys hy=>?_⟩,by rw[el]at st';exact st',λb hb=>(hf b hb).1⟩⟩
  obtain⟨es',em',el',eg'⟩:=gW I hy
  obtain⟨rfl,ep⟩:=sU em em'
  have hj:i<ys.length:=by lia
  obtain⟨e',z1,_,z2⟩:=eg' i ys[i] (AA5 hj)
  rw[AAK hi',ee]at z1
  obtain rfl:=AAR z1
  rw[e3]at z2
  exact⟨ys[i],AA5 hj,by rw[←z2];exact hv⟩
 done:=by
  intro X hP hw hK hc i pins s σ H E I hf st hg
  subst hP hw hK
  obtain⟨⟨xs,hH,rfl⟩,rfl⟩:=hg
  obtain⟨es,em,el,eg⟩:=gW I hH
  obtain⟨f0,f1,f2,f3,f4,f5⟩:=hf it (by simp)
  rw[←el]at em st
  exact sT (I.ok.hd hc) st em λh' he=>⟨rfl,I.turned (t':=s.toks) (λb o hb e=>he b o hb e) f0 f1 f3 f4 f5⟩
 self:=λA i s Q E st hQ=>wpAny_pyIter_valiter st hQ
section
variable{X:Cx}{tg o:Expr}{to:DTE}{apos cpos:Pos}
def pA(to:DTE):DTI:=λS M R=>to S M λd M1=>match d with
 | .ref n=>∃kvs,M1[n]?=some (.dkt kvs)/\(kvs.length<=sizeLine->R ⟨kvs.map (·.2),λM=>M[n]?=some (.dkt kvs)⟩ M1)
 | _=>False
theorem zf(ho:DE X o to)(hbase:attributeBase o "values" X.env (eval o X.env)=eval o X.env:=by rfl)(hline:(apos.endLine==cpos.line)=true:=by rfl):DI X tg (.Call (.Attribute o "values" apos) [] [] cpos) (pA to):=by
 intro pins s σ H R I h
 obtain⟨S,M,ρ,Q,sm,sr,q,k⟩:=h
 refine ADR hbase hline (thn (ho pins s σ H _ I ⟨S,M,ρ,_,sm,sr,q,λv H' w=>w⟩) λu s1 ⟨v,H1,I1,rv,d,M1,ρ1,sm1,g1,r1,q1⟩=>?_)
 cases r1 with
 | @ref n a hn =>
  cases rv
  obtain⟨kvs,hM,q2⟩:=(show ∃kvs,M1[n]?=some (.dkt kvs)/\(kvs.length<=sizeLine->Q ⟨kvs.map (·.2),λM=>M[n]?=some (.dkt kvs)⟩ M1)from q1)
  obtain⟨xs,hH,r,dd,hsm,hz,hx,nd⟩:=gX I1 sm1 hn hM
  obtain⟨es,em,el,_⟩:=gW I1 hH
  refine⟨"dict","dict.values",ACi,ADM,PySem.F.type_dict_values,dd.typeIs,λb z=>?_,ABp rfl (AE5 (lP hsm em ?_))⟩
  ·cases z
   obtain⟨ob,_,_,h1,h2,_⟩:=dd
   exact⟨ob,h1,h2.2.1⟩
  have I2:Inv X pins σ H1 { s1 with heap:=s1.heap.push { cls:=.type "dict_values",data:=.fields #[.ref a] } }:=I1.kept (t':=s1.toks) λb o e=>AA3 _ e
  have em2:cW ({ s1 with heap:=s1.heap.push { cls:=.type "dict_values",data:=.fields #[.ref a] } }:Shared).heap a es xs.length:=em.to λo e=>AA3 _ e
  refine pp (d:=a) ⟨_,AAC _ rfl,rfl,rfl⟩ em2 ?_
  rw[el]
  have fin:∀s2:Shared,Inv X pins σ H1 s2->PIE X pins σ tg R (.ref s2.heap.objs.size) { s2 with heap:=s2.heap.push { cls:=.type "dict_valueiterator",data:=.fields #[.ref a,.int 0 0,.int xs.length 0,.int xs.length 0] } }:=λs2 I2=>by
   refine⟨s2.heap.objs.size,[s2.heap.objs.size],_,_,H1,rfl,I2.kept (t':=s2.toks) λb o e=>AA3 _ e,uF a _ xs.length,⟨_,AAC _ rfl,rfl,rfl⟩,λb hb=>?_,k _ H1 ⟨⟨kvs.map (·.2),λM=>M[n]?=some (.dkt kvs)⟩,M1,ρ1,sm1,g1,?_,q2 hz⟩⟩
   ·obtain rfl:b=s2.heap.objs.size:=by simpa using hb
    exact I2.fpOk (AA8 _) (I2.hok.fresh (AA8 _))
   ·refine⟨λi ρ' M' H' s' g ok hi=>?_,λi ρ' M' H' x H2 s' g ok hi y=>?_,λρ' M' H' s' g ok=>?_⟩
    ·obtain⟨_,_,_,ys,hy,ry⟩:=s'.obj _ _ _ (av g.pre hn) ok
     have ly:ys.length=kvs.length:=by have:=congrArg ABc (fU ry);rwa [AA6,AA6]at this
     rw[AA6]at hi
     have hj:i<ys.length:=by lia
     obtain⟨p,_,_,_,_,v,_,rv⟩:=cO ry (AA5 hj)
     exact⟨ys,ys[i],v,hy,by lia,AA5 hj,rv⟩
    ·obtain⟨rfl,hall⟩:=y
     obtain⟨_,_,_,ys,hy,ry⟩:=s'.obj _ _ _ (av g.pre hn) ok
     obtain⟨z,hz1,rz⟩:=hall ys hy
     obtain⟨p,hp,_,_,_,v,rp,rv⟩:=cO ry hz1
     obtain rfl:x=v:=rz.inj rv
     exact⟨p.2,ρ',by rw[AAT,hp];rfl,s',.refl,rp⟩
    ·obtain⟨_,_,_,ys,hy,ry⟩:=s'.obj _ _ _ (av g.pre hn) ok
     have ly:ys.length=kvs.length:=by have:=congrArg ABc (fU ry);rwa [AA6,AA6]at this
     exact⟨⟨ys,hy,by lia⟩,by rw[AA6];lia⟩
  exact fin _ I2
 | _=>exact q1.elim
end
end L2
namespace L2
open PySem PySem.Spec PyProof.Rows DL PySem.W
section
variable{prog:Program}{w:World}{d r:Addr}{es:Array DictEntry}{ep:Nat}
theorem za:KdlSrc prog w "dict_values" r d es.size (λi v=>∃e,es[i]?=some e/\v=e.val) (λh=>h.IsValuesView r d/\cW h d es ep) where
 type:=λ_ hm=>hm.1.typeIs
 there:=λ_ hm=>⟨let ⟨_,ho,_⟩:=hm.1;AAH ho,hm.2.lt⟩
 keep:=λ_ _ hm hk=>⟨let ⟨o,ho,x⟩:=hm.1;⟨o,hk r (.inl rfl) o ho,x⟩,hm.2.to λo e=>hk d (.inr rfl) o e⟩
 notList:=by decide
 notTuple:=by decide
 hint:=λ_ _ _ _ hm hq=>kdl_hint_values hm.1.typeIs hq
 iter:=λ_ _ hh hm=>⟨_,_,(λ_ _ hq=>pp hm.1 hm.2 hq),uj hh _ (AAM hm.2.lt),⟨⟨_,AAC _ rfl,rfl,rfl⟩,hm.2.to λo e=>AA3 _ e⟩⟩
end
theorem uE{K:AA4}{ρ:List Addr}{H:Hp}{kvs:List (D×D)}{xs:List (D×Addr×Value)}(r:Paired (uw K ρ H) kvs xs):∃ws,Reps K ρ H (kvs.map (·.2)) ws/\aw ws (xs.map λx=>x.2.2):=by
 induction r with
 | nil=>exact⟨[],.nil,.nil⟩
 | cons h t ih =>
  obtain⟨_,_,_,v,q1,q2⟩:=h
  obtain⟨ws,h1,h2⟩:=ih
  exact⟨v::ws,.cons q1 h1,.cons q2 h2⟩
section
variable{X:Cx}{o:Expr}{to:DTE}{apos cpos p pos:Pos}{k:Nat}
def hW(to:DTE):DTE:=λS M Q=>to S M λd M1=>match d with
 | .ref n=>∃kvs,M1[n]?=some (.dkt kvs)/\Q (.ref M1.length) (M1++[.lst (kvs.map (·.2))])
 | _=>False
theorem um(hc:X.calm=true)(ho:DE X o to)(hm:X.mg "list" = none)(hg:X.env.kindOf "list" = some .globalImplicit)
  (hs:starEach [AEE (.Attribute o "values" apos) [] [] cpos] X.env=[(false,eval (AEE (.Attribute o "values" apos) [] [] cpos) X.env)])
  (hbase:attributeBase o "values" X.env (eval o X.env)=eval o X.env) (hline:(apos.endLine==cpos.line)=true) :
  DE X (.Call (.Name "list" p) [.Call (.Attribute o "values" apos) [] [] cpos] [] pos) (hW to):=by
 intro pins s σ H R I ⟨S,M,ρ,Q,sm,sr,q,kk⟩
 refine AC2 (gQ I hg hm (by rfl) ?_)
 refine callWith_type1 ?_ (by rw[hs];rfl) rfl
 rw[hs]
 refine ADO (ADR hbase hline (thn (ho pins s σ H _ I ⟨S,M,ρ,_,sm,sr,q,λv H' w=>w⟩) λu s1 ⟨v,H1,I1,rv,x,M1,ρ1,sm1,g1,r1,q1⟩=>?_))
 cases r1 with
 | @ref n a hn =>
  cases rv
  obtain⟨kvs,hM,q2⟩:=(show ∃kvs,M1[n]?=some (.dkt kvs)/\Q (.ref M1.length) (M1++[.lst (kvs.map (·.2))])from q1)
  obtain⟨xs,hH,r,dd,hsm,hz,hx,nd⟩:=gX I1 sm1 hn hM
  obtain⟨es,em,el,eg⟩:=gW I1 hH
  refine⟨"dict","dict.values",ACi,ADM,PySem.F.type_dict_values,dd.typeIs,λb z=>?_,ABp rfl (AE5 (lP hsm em ?_))⟩
  ·cases z
   obtain⟨ob,_,_,h1,h2,_⟩:=dd
   exact⟨ob,h1,h2.2.1⟩
  refine ADh ?_
  have I2:Inv X pins σ H1 { s1 with heap:=s1.heap.push { cls:=.type "dict_values",data:=.fields #[.ref a] } }:=I1.kept (t':=s1.toks) λb o e=>AA3 _ e
  have em2:cW ({ s1 with heap:=s1.heap.push { cls:=.type "dict_values",data:=.fields #[.ref a] } }:Shared).heap a es xs.length:=em.to λo e=>AA3 _ e
  have vw:({ s1 with heap:=s1.heap.push { cls:=.type "dict_values",data:=.fields #[.ref a] } }:Shared).heap.IsValuesView s1.heap.objs.size a:=⟨_,AAC _ rfl,rfl,rfl⟩
  generalize ({ s1 with heap:=s1.heap.push { cls:=.type "dict_values",data:=.fields #[.ref a] } }:Shared)=s2 at I2 em2 vw ⊢
  refine kdl_call (za (es:=es) (ep:=xs.length)) (I2.ok.hd hc) ⟨vw,em2⟩ (by lia) λh' tk acc' c' hk hD hacc=>?_
  obtain⟨ws,w1,w2⟩:=uE r
  have ea:acc'.toList=xs.map λx=>x.2.2:=by
   refine ADj λj=>?_
   rw[AAQ,AAT]
   cases hj:xs[j]? with
   | none =>
    have:xs.length<=j:=by rw[List.getElem?_eq_none_iff]at hj;exact hj
    rw[ABq (by have:=hacc.1;lia)];rfl
   | some x =>
    have hlt:=(AA7.mp hj).1
    have hlt':j<acc'.size:=by have:=hacc.1;lia
    obtain⟨e,g1,g2⟩:=hacc.2 j acc'[j] (AAK hlt')
    obtain⟨e',z1,_,z2⟩:=eg j x hj
    rw[g1]at z1
    obtain rfl:=AAR z1
    rw[AAK hlt',g2,z2];rfl
  have hf:H1 s2.heap.objs.size=none:=I2.hok.fresh (AA8 _)
  refine⟨.ref s2.heap.objs.size,_,I2.laid (a:=s2.heap.objs.size) (o:=.lst ws) (t':=tk) hk (AA8 _) ⟨by rw[←w1.length,AA6];exact hz,acc'.toList,c',by rw[ea];exact w2,by simpa using hD⟩,rfl,kk _ _ (VQ.laidL sm1 g1 w1 hf q2)⟩
 | _=>exact q1.elim
def Cq:DR2:=λx y M Q=>match x,y with
 | .tup ks,.ref n=>∃kvs,M[n]?=some (.dkt kvs)/\cc 8 (.tup ks)=true/\Q (.bl (aM kvs (.tup ks)).isSome) M
 | _,_=>False
def mi:DR2:=λx y M Q=>match x,y with
 | .tup ks,.ref n=>∃kvs,M[n]?=some (.dkt kvs)/\cc 8 (.tup ks)=true/\Q (.bl (!(aM kvs (.tup ks)).isSome)) M
 | _,_=>False
theorem DR(hr:Room k X.A):OpD X (compareOp .In) Cq:=by
 intro pins s σ H vx vy v u R I rx ry ⟨x,y,M,ρ,Q,sm,r1,r2,q,kk⟩
 have un:=hr.un
 cases x with
 | tup ks =>
  cases y with
  | ref n =>
   obtain⟨kvs,hM,kd,q⟩:=q
   obtain⟨a,rfl,hn⟩:=Rep.inv_ref r2
   cases ry
   obtain⟨xs,hH,r,dd,hsm,hl,hx,_⟩:=gX I sm hn hM
   have kat:=dn I 8 _ _ _ r1 rx kd
   obtain⟨b,_,rfl,_⟩:=id kat
   refine wpAny_in_heap (knd:=bC X.prog X.w) (k:=.tup ks) (by show X.A.units+1+8<cLine;lia) kat hsm dd ?_
   have e:(atKey xs (.tup ks)).isSome=(aM kvs (.tup ks)).isSome:=by
    rcases oS r (.tup ks)with⟨z1,z2⟩|⟨_,_,_,z1,z2,_⟩<;>rw[z1,z2]<;>rfl
   rw[e]
   exact iu (I.tok _) sm kk q
  | _=>exact q.elim
 | _=>exact q.elim
theorem vZ(hr:Room k X.A):OpD X (compareOp .NotIn) mi:=by
 intro pins s σ H vx vy v u R I rx ry ⟨x,y,M,ρ,Q,sm,r1,r2,q,kk⟩
 have un:=hr.un
 cases x with
 | tup ks =>
  cases y with
  | ref n =>
   obtain⟨kvs,hM,kd,q⟩:=q
   obtain⟨a,rfl,hn⟩:=Rep.inv_ref r2
   cases ry
   obtain⟨xs,hH,r,dd,hsm,hl,hx,_⟩:=gX I sm hn hM
   have kat:=dn I 8 _ _ _ r1 rx kd
   obtain⟨b,_,rfl,_⟩:=id kat
   refine wpAny_notIn_heap (knd:=bC X.prog X.w) (k:=.tup ks) (by show X.A.units+1+8<cLine;lia) kat hsm dd ?_
   have e:(atKey xs (.tup ks)).isSome=(aM kvs (.tup ks)).isSome:=by
    rcases oS r (.tup ks)with⟨z1,z2⟩|⟨_,_,_,z1,z2,_⟩<;>rw[z1,z2]<;>rfl
   rw[e]
   exact iu (I.tok _) sm kk q
  | _=>exact q.elim
 | _=>exact q.elim
def pD:DTS:=λ_ _ _=>False
theorem zd{st:Stmt}:DS X st pD:=λpins s σ H E I ⟨S,M,ρ,F,sm,sr,q,kk⟩=>q.elim
end
section
variable{X:Cx}{o i e:Expr}{to ti te:DTE}{pos pos' p apos cpos:Pos}{k:Nat}{tg:Expr}{es:List Expr}{t:DTA}{st:Stmt}
theorem zW:HE X (.Dict [] [] pos) pC:=⟨Ff⟩
theorem zX(hr:Room k X.A)(ho:HE X o to)(hi:HE X i ti)(hs:NoSl i:=by intro _ _;kernel_rfl):HE X (.Subscript o i pos) (mW to ti):=⟨Fg hr ho.ok hi.ok hs⟩
theorem mM(hr:Room k X.A)(ho:HE X o to)(hi:HE X i ti)(hv:HE X e te)(hs:swapsWith e (some (.Subscript o i pos')) pos.line X.env=pure false:=by kernel_rfl):HS X (.Assign [.Subscript o i pos'] e pos) (mV to ti te):=⟨BT hr ho.ok hi.ok hv.ok hs⟩
theorem wO(hr:Room k X.A)(ho:HE X o to)(ha:HA X (e::es) t)(hbase:attributeBase o "get" X.env (eval o X.env)=eval o X.env:=by kernel_rfl)
  (hfew:((backTo cpos (starEach (e::es) X.env)).all (λx=>!x.1)&&(backToKw cpos (keywordEach [] X.env)).all (λx=>x.1.isSome)
   && decide ((e::es).length+([]:List Keyword).length+(if ([]:List Keyword).isEmpty then 0 else 1)<30))=true:=by kernel_rfl)
  (hline:(apos.endLine==cpos.line)=true:=by kernel_rfl) (hs:starEach (e::es) X.env=(false,eval e X.env)::starEach es X.env:=by kernel_rfl) (hplain:(backTo cpos (starEach es X.env)).any (·.1)=false:=by kernel_rfl) :
  HE X (.Call (.Attribute o "get" apos) (e::es) [] cpos) (dMt gH to t):=⟨d_mt ACv PySem.F.type_dict_get (yw hr) ho.ok ha.ok hbase hfew hline hs hplain⟩
theorem sH(h:HE X e te):HI X tg e (sX te):=⟨zg h.ok⟩
theorem sG(ho:HE X o to)(hbase:attributeBase o "values" X.env (eval o X.env)=eval o X.env:=by kernel_rfl)(hline:(apos.endLine==cpos.line)=true:=by kernel_rfl):HI X tg (.Call (.Attribute o "values" apos) [] [] cpos) (pA to):=⟨zf ho.ok hbase hline⟩
theorem lK(ho:HE X o to)(hm:X.mg "list" = none)(hc:X.calm=true:=by kernel_rfl)(hg:X.env.kindOf "list" = some .globalImplicit:=by kernel_rfl)
  (hs:starEach [AEE (.Attribute o "values" apos) [] [] cpos] X.env=[(false,eval (AEE (.Attribute o "values" apos) [] [] cpos) X.env)]:=by kernel_rfl)
  (hbase:attributeBase o "values" X.env (eval o X.env)=eval o X.env:=by kernel_rfl) (hline:(apos.endLine==cpos.line)=true:=by kernel_rfl) :
  HE X (.Call (.Name "list" p) [.Call (.Attribute o "values" apos) [] [] cpos] [] pos) (hW to):=⟨um hc ho.ok hm hg hs hbase hline⟩
theorem Ag(hr:Room k X.A):HOp X (compareOp .In) Cq:=⟨DR hr⟩
theorem oX(hr:Room k X.A):HOp X (compareOp .NotIn) mi:=⟨vZ hr⟩
theorem iY:HS X st pD:=⟨zd⟩
end
end L2
namespace L2
open PySem PySem.Spec PyProof.Rows DL PySem.W
theorem sL{K:AA4}{ρ:List Addr}{H:Hp}:∀{ns:List Int}{ws:List V}{its:List Value},Reps K ρ H (ns.map D.int) ws->aw ws its->IntsAre its ns
 | [],_,_,r,v=>by cases r;cases v;exact .nil
 | n::ns,_,_,r,v=>by
  rw[AAi]at r
  first | have hzz:=Reps.inv_cons r | have hzz:=aw.inv_cons r
  clear r
  obtain⟨_,_,rfl,h,t⟩:=hzz
  cases h
  cases v with
  | cons q q' =>
   obtain⟨tk,rfl⟩:=q
   exact .cons _ _ (sL t q')
section
variable{X:Cx}{k:Nat}
def vG:DRA:=λds M Q=>match ds with
 | [.ref n]=>∃ns:List Int,am M n (ns.map D.int)/\ns≠[]/\∀m,m∈ns->(∀a∈ns,a<=m)->Q (.int m) M
 | _=>False
theorem Cf(hc:X.calm=true):pR X (.builtin "max") vG:=by
 intro pins s σ H vs us R I rv ⟨ds,M,ρ,Q,sm,rs,q,kk⟩
 unfold vG at q
 split at q
 ·obtain⟨ns,hL,hne0,q⟩:=q
  first | have hzz:=Reps.inv_cons rs | have hzz:=aw.inv_cons rs
  clear rs
  obtain⟨_,_,rfl,r1,rs⟩:=hzz
  cases rs
  obtain⟨u,rfl,e1⟩:=aw.one rv
  obtain⟨a,rfl,e⟩:=Rep.inv_ref r1
  cases e1
  obtain⟨ws,hq,r⟩:=am.seq sm hL e
  obtain⟨its,rr,pl,hz⟩:=I.list hq
  obtain⟨m,hn,hm⟩:=I.loc
  obtain⟨oa,nn,hoa,hca,hdict,hdata⟩:=id pl
  have hne:a≠X.env.locals:=λz=>by
   subst z
   obtain⟨o,es,ep,e,hd,_⟩:=hn
   rw[hoa]at e
   cases e
   rw[hd]at hdata
   cases hdata
  have mem:∀b o,b≠X.env.locals->s.heap.get? b=some o->(b,o)∈[]++(a,oa)::Att.ledger s.heap X.env.locals a:=λb o h1 h2=>by
   rw[AAx,AAN,Att.mem_ledger]
   by_cases hal:b=a
   ·subst hal
    rw[hoa]at h2;cases h2
    exact .inl rfl
   ·exact .inr ⟨h1,hal,h2⟩
  refine max_list_N (I.ok.hd hc) (Att.fr_all hn) (Att.news_ledger hne hoa) pl.isList (sL r rr) (List.length_pos_iff.mpr hne0) λh' mm t tk F' N' h1 h2=>?_
  have kp:∀b u,b≠X.env.locals->s.heap.get? b=some u->h'.get? b=some u:=λb u hb e=>(N' (b,u) (mem b u hb e)).1
  exact⟨.int mm,H,I.keptF (t':=tk) kp hn F'.ns,⟨t,rfl⟩,kk _ _ ⟨.int mm,M,ρ,sm,.refl,.int mm,q mm h1 h2⟩⟩
 ·exact q.elim
theorem Fm:bootBuiltins "max" = some (.builtin "max"):=by decide +kernel
theorem wX(hc:X.calm=true:=by kernel_rfl):HC X (.builtin "max") vG:=⟨Cf hc⟩
end
end L2
namespace L2
open PySem PySem.Spec PyProof.Rows DL PySem.W PySem.Calls PyProof.V
section
variable{prog:Program}{w:World}{A:Around}{E:Value->Shared->Prop}{s:Shared}{d:Addr}{es:Array DictEntry}{ep:Nat}
end
structure PairsAt(es:Array DictEntry)(lo:Addr)(h:Heap)(as:List Addr):Prop where
 nd:as.Nodup
 above:∀a∈as,lo<a
 tup:∀(j:Nat) (a:Addr),as[j]?=some a->∃e,es[j]?=some e/\h.get? a=some { cls:=.type "tuple",data:=.seq #[e.key,e.val] }
section
variable{prog:Program}{w:World}{A:Around}{E:Value->Shared->Prop}{s:Shared}{d:Addr}{es:Array DictEntry}{ep:Nat}
end
end L2
namespace L2
open PySem PySem.Spec PyProof.Rows DL PySem.W PySem.Calls PyProof.V
section
variable{X:Cx}{pins:List (Addr×Obj)}{σ:St}{H:Hp}{s:Shared}
end
section
variable{K:AA4}{ρ:List Addr}{H H':Hp}{M:Mem}
end
section
variable{X:Cx}{o:Expr}{to:DTE}{apos cpos p pos:Pos}{k:Nat}
end
end L2
namespace L2
open PySem PySem.Spec PyProof.Rows DL PySem.W
section
variable{X:Cx}
def Cp:DR2:=λx y M Q=>match x,y with
 | .int i,.int j=>CPow i j/\Q (.int (i*2 ^ j.toNat)) M
 | _,_=>False
theorem DO:OpD X (binaryOp .LShift) Cp:=by
 refine OpR.imp Dw λvx vy H R ⟨x,y,M,ρ,Q,sm,r1,r2,q,k⟩=>?_
 unfold Cp at q
 split at q
 ·cases r1
  cases r2
  exact⟨_,_,rfl,rfl,q.1,k _ H (VQ.now sm (.int _) q.2)⟩
 ·exact q.elim
theorem Ac:HOp X (binaryOp .LShift) Cp:=⟨DO⟩
theorem lN(hr:Room k X.A):HC X (.builtin "sorted") jA:=⟨xw hr⟩
end
noncomputable def dictOf(ps:List (D×D)):List (D×D):=ps.foldl (λkvs p=>cX kvs p.1 p.2) []
theorem dG:dictOf (ps++[p])=cX (dictOf ps) p.1 p.2:=by
 unfold dictOf
 rw[List.foldl_append];rfl
theorem pe:∀(ps kvs:List (D×D)),(ps.foldl (λkvs p=>cX kvs p.1 p.2) kvs).length<=kvs.length+ps.length
 | [],_=>AA8 _
 | p::ps,kvs=>by
  have h1:=pe ps (cX kvs p.1 p.2)
  have h2:=sj (kvs:=kvs) (k:=p.1) (d:=p.2)
  rw[List.foldl_cons,AAJ];lia
theorem lQ:(dictOf ps).length<=ps.length:=by
 have:=pe ps []
 rw[AAb,Nat.zero_add]at this
 exact this
theorem ph:entryFor table "dict.update.loop" = some Builtin.«dict.update.loop»:=entryFor_of_tree (by kernel_rfl)
theorem gJ:plainId "dict.update.loop" = true:=by decide +kernel
theorem il:typeLookup (.type "list") "__getattr__" = pure none:=by rw[AEB,ACu];kernel_rfl
theorem kB:typeLookup (.type "list") "keys" = pure none:=by rw[AEB,ACu];kernel_rfl
section
variable{prog:Program}{w:World}{A:Around}{E:Value->Shared->Prop}{h:Heap}{g:Array GenState}{d:Drawn}{t:Nat}{os:OsState}{a:Addr}{o:Obj}
theorem wk(hx:h.get? a=some o)(hc:o.cls=.type "list")(hdict:o.dict=none)(hdat:o.data=.seq its nn)(hA:A.handled=none)(hq:∀h' tk e,Heap.NewAttrErr h h' e (.ref a) "keys"->R (.error (.ref e)) ⟨h',g,d,tk,os⟩) :
  codeAny (model prog w) A (.call (.builtin "list.__getattribute__") ⟨[.ref a,.str "keys" u],[]⟩) R ⟨h,g,d,t,os⟩:=by
 obtain⟨oc,od,odt,osl⟩:=o
 obtain rfl:oc=.type "list":=hc
 obtain rfl:od=none:=hdict
 obtain rfl:odt=.seq its nn:=hdat
 have hT:(⟨h,g,d,t,os⟩:Shared).TypeIs (.ref a) "list":=⟨_,hx,rfl⟩
 have f4:=kB
 refine codeAny_call_builtin AC1.plain PySem.F.entry_list_ga (AC1.check _ _ _ _ _ _ _ _ hT (PySem.F.args_list_getattribute_2 _ _) ?_)
 unfold Builtin.«object.__getattribute__»
 repeat (any_goals (first | assumption | wp_step))
 refine wpAny_raiseAttrError (o:=.ref a) (name:="keys") (by first | exact hA | simpa using hA) hq ?_
 exact attrMsg_fits (by decide +kernel) (by size_fits)
theorem qA(hx:h.get? a=some o)(hc:o.cls=.type "list")(hdict:o.dict=none)(hdat:o.data=.seq its nn)(hA:A.handled=none)(hq:∀h' tk,(∀b ob,h.get? b=some ob->h'.get? b=some ob)->Q none ⟨h',g,d,tk,os⟩) :
  wpAny (model prog w) A (getAttr? (.ref a) "keys") Q E ⟨h,g,d,t,os⟩:=by
 obtain⟨oc,od,odt,osl⟩:=o
 obtain rfl:oc=.type "list":=hc
 obtain rfl:od=none:=hdict
 obtain rfl:odt=.seq its nn:=hdat
 have hT:∀tk,(⟨h,g,d,tk,os⟩:Shared).TypeIs (.ref a) "list":=λ_=>⟨_,hx,rfl⟩
 have f1:=sub_AttributeError
 have f2:=AC1.lookup
 have f3:=AC1.bind (.ref a)
 have f5:=il
 unfold getAttr? getAttrBy? getAttrBy
 repeat (any_goals (first | assumption | exact hT _ | wp_step))
 refine wk hx rfl rfl rfl (by first | exact hA | simpa using hA) λh' tk e hx'=>?_
 obtain⟨t',u',he⟩:=hx'.there
 unfold getattributeRaised
 repeat (any_goals (first | assumption | wp_step))
 exact hq _ _ hx'.keeps
end
theorem dsetE(hu:(bC prog w).room A)(kat:(bC prog w).is s.heap k b)
  (hm:s.heap.DictOfH (bC prog w) d xs) (hx:dX d xs prog w s.heap) (hz:xs.length<=sizeLine)
  (hQ:∀h',dX d (storedH xs k b v) prog w h'->ABz d s.heap h'->Q () { s with heap:=h',toks:=s.toks+(bC prog w).draws k }):wpAny (model prog w) A (dictSet d (.ref b) v) Q E s:=by
 obtain⟨_,_,_,_,_,_,_,his,hn⟩:=hm
 obtain⟨o,es,ho,hc,hd,he'⟩:=hx
 have he:es.toList=xs.map (entryOfKey (bC prog w)):=he'
 unfold dictSet
 try with_reducible refine AAh ?_
 refine AA0 ((bC prog w).pyHash hu kat ?_)
 unfold dictSetHashed
 try with_reducible refine AAh ?_
 have hl:es.size=xs.length:=size_of_entries he
 refine AA0 (wpAny_dictFind_heap (s:={ s with toks:=s.toks+(bC prog w).draws k }) hu kat ho hd he his hn (λhno=>?_) λj p hj=>?_)
 ·refine AA0 (ABX (wpAny_updateDictKeys (hz:=by lia) (s:={ s with toks:=s.toks+(bC prog w).draws k }) ho hd (hQ _ ⟨_,es.push ⟨(bC prog w).hash k,.ref b,v⟩,AAe _ ho (ACh (ACA hd _)),hc.mapDictKeys _,?_,?_⟩ (AAo ..))))
  ·rw[ACA hd,storedH_new (ADo hno),AAB];rfl
  ·rw[storedH_new (ADo hno)]
   rw[ADk,he,AAm]
   rfl
 ·refine AA0 (ABX (AA0 (wpAny_updateDict (s:={ s with toks:=s.toks+(bC prog w).draws k }) ho hd (wpAny_point (hQ _ ⟨_,es.modify j λe=>{ e with val:=v },AAe _ ho (ACh (ADy hd _)),hc.mapDict _,?_,?_⟩ (AAo ..))))))
  ·rw[ADy hd,storedH_old (atKey_of_get hn hj),AA6]
  ·rw[storedH_old (atKey_of_get hn hj)]
   have q:=modify_map_putAt (entryOfKey (bC prog w)) (λe:DictEntry=>{ e with val:=v }) k v (λ_ _=>rfl) hn hj
   rw[←he]at q
   obtain⟨l⟩:=es
   have q2:(Array.modify ⟨l⟩ j λe:DictEntry=>{ e with val:=v }).toList=(xs.map (putAt k v)).map (entryOfKey (bC prog w)):=by simpa using q
   exact q2
section
variable{X:Cx}{pins:List (Addr×Obj)}{σ:St}{H:Hp}{ρ:List Addr}{M:Mem}{A:Around}{E:Value->Shared->Prop}{s:Shared}
structure DD(X:Cx)(ρ:List Addr)(H:Hp)(h:Heap)(a:Addr)(kvs:List (D×D))(xs:List (D×Addr×Value)):Prop where
 dx:dX a xs X.prog X.w h
 kv:Paired (uw X.K ρ H) kvs xs
 nd:(kvs.map (·.1)).Nodup
theorem DD.at(x:DD X ρ H h a kvs xs)(k:∀o,h.get? a=some o->h'.get? a=some o):DD X ρ H h' a kvs xs:=by
 obtain⟨⟨o,es,e1,e2,e3,e4⟩,kv,nd⟩:=x
 exact⟨⟨o,es,k _ e1,e2,e3,e4⟩,kv,nd⟩
theorem DD.len(x:DD X ρ H h a kvs xs):xs.length=kvs.length:=by
 have:=congrArg ABc (fU x.kv)
 rwa [AA6,AA6]at this
theorem DD.of(I:Inv X pins σ H s)(x:DD X ρ H s.heap a kvs xs):s.heap.DictOfH (bC X.prog X.w) a xs:=by
 obtain⟨o,es,e1,e2,e3,e4⟩:=x.dx
 have ek:=fU x.kv
 refine⟨o,es,_,e1,e2,e3,e4,λy hy=>?_,by rw[ek];exact x.nd⟩
 obtain⟨i,hi⟩:=ABB hy
 obtain⟨p,_,q1,q2,q3,_⟩:=cO x.kv hi
 rw[←q1]
 exact dn I 8 _ _ _ q3 rfl q2
theorem Cb(I:Inv X pins σ H s)(hu:A.units+20<cLine)(W:Walks X.prog X.w A.in1 J fp wr m P Sx)(S:Addr)(hSf:S∉fp)
  (hS0:s.heap.get? S=none) (hw0:∀b∈wr,s.heap.get? b=none) (ps:List (D×D)) (hm:ps.length=m) (hval:∀i v,P i v->∃p,ps[i]?=some p/\(∃vv,Rep X.K ρ H (.tup [p.1,p.2]) vv/\aL vv v)/\cc 8 p.1=true/\fL p.1=true) (hb:m<=1000) :
  ∀(k i:Nat) (h:Heap) (tk:Nat) (xs:List (D×Addr×Value)) (j:Int) (t:Tok),m-i=k->i<=m->Sx i h->DD X ρ H h S (dictOf (ps.take i)) xs->(∀b u,s.heap.get? b=some u->h.get? b=some u) ->
   (∀h' tk xs',(∀b u,s.heap.get? b=some u->h'.get? b=some u)->DD X ρ H h' S (dictOf ps) xs'->R (.ok (.ret .none)) { s with heap:=h',toks:=tk }) ->
   codeAny (model X.prog X.w) A (.builtin "dict.update.loop" ⟨[.ref S,.ref J,.int j t,.none],[]⟩) R { s with heap:=h,toks:=tk }:=by
 have hSw:S∉wr:=λh=>hSf (W.sub _ h)
 intro k
 induction k with
 | zero =>
  intro i h tk xs j t hk hi hst hS hold hR
  obtain rfl:i=m:=by lia
  refine ABe ph ?_
  rw[ABj gJ _]
  refine(show wpAny (model X.prog X.w) A.in1 (pyNext (.ref J) >>= _) _ _ _ from AA0 (W.done _ _ _ hst λh' tk hk'=>?_))
  rw[←hm,ABl]at hS
  refine(show wpAny (model X.prog X.w) A.in1 (Builtin.Dict.addKeywords S [] >>= _) _ _ _ from AA0 (AA2 (AA2 ?_)))
  exact hR h' tk xs (λb u e=>hk' b u (λz=>by rw[hw0 b z]at e;cases e) (hold b u e)) (hS.at λo e=>hk' S o hSw e)
 | succ k ih =>
  intro i h tk xs j t hk hi hst hS hold hR
  refine ABe ph ?_
  rw[ABj gJ _]
  refine(show wpAny (model X.prog X.w) A.in1 (pyNext (.ref J) >>= _) _ _ _ from AA0 (W.item i _ _ _ (by lia) hst λv h' tk hP hst' hk'=>?_))
  obtain⟨p,hp,⟨vv,r,rv⟩,kd,it⟩:=hval i v hP
  have old':∀b u,s.heap.get? b=some u->h'.get? b=some u:=λb u e=>hk' b u (λz=>by rw[hw0 b z]at e;cases e) (hold b u e)
  have I':Inv X pins σ H { s with heap:=h',toks:=tk }:=I.kept old'
  have hS':=hS.at λo e=>hk' S o hSw e
  have hl:=hS'.len
  have dl:=lQ (ps:=ps.take i)
  have dd:=hS'.of (s:={ s with heap:=h',toks:=tk }) I'
  obtain⟨a,vs,rfl,hq,rr⟩:=Rep.inv_tup r
  cases rv
  first | have hzz:=Reps.inv_cons rr | have hzz:=aw.inv_cons rr
  clear rr
  obtain⟨_,_,rfl,r1,rr⟩:=hzz
  first | have hzz:=Reps.inv_cons rr | have hzz:=aw.inv_cons rr
  clear rr
  obtain⟨_,_,rfl,r2,rr⟩:=hzz
  cases rr
  obtain⟨its,r2',pl,hz⟩:=I'.tuple hq
  obtain⟨u1,u2,rfl,e1,e2⟩:=aw.two r2'
  obtain⟨k0,d0⟩:=p
  cases k0 with
  | tup ks =>
   have kat:=dn I' 8 _ _ _ r1 e1 kd
   obtain⟨b,_,rfl,_⟩:=id kat
   obtain⟨_,_,rfl,hq1,rr1⟩:=Rep.inv_tup r1
   cases e1
   obtain⟨o,ho,hc,nn,hd⟩:=pl
   have hT:({ s with heap:=h',toks:=tk }:Shared).TypeIs (.ref a) "tuple":=⟨o,ho,hc⟩
   refine AA0 (AAh (AA0 (wpAny_tryCatch ?_)))
   unfold Builtin.Dict.pairItems
   refine AA0 (ACc hT ?_)
   rw[if_pos (by decide)]
   refine AA0 (ACm ho hd (AA2 ?_))
   refine(show wpAny (model X.prog X.w) _ (holding [.ref b,u2] (dictSet S (.ref b) u2)) _ _ _ from AAh ?_)
   refine dsetE (k:=.tup ks) (s:={ s with heap:=h',toks:=tk }) (by show A.units+1+8<cLine;lia) kat dd hS'.dx (ax (by rw[hl];rw[AB2]at dl;lia)) λh2 dx2 sb=>?_
   have k2:∀b u,b≠S->h'.get? b=some u->h2.get? b=some u:=λb u hb e=>(sb.2 b hb).trans e
   have kv2:=zK hS'.kv kd (.tup hq1 rr1) r2 e2
   have et:ps.take (i+1)=ps.take i++[(.tup ks,d0)]:=by rw[ACE,hp];rfl
   refine AA2 ⟨AD3 gJ _,ih (i+1) h2 _ _ _ _ (by lia) (by lia) (W.frame _ h' h2 hst' λb' hb' o e=>k2 b' o (λz=>hSf (z ▸ hb')) e) ⟨dx2,?_,?_⟩ (λb u e=>k2 b u (λz=>by rw[z,hS0]at e;cases e) (old' b u e)) hR⟩
   ·rw[et,dG];exact kv2
   ·rw[et,dG];exact mq hS'.nd
  | _=>cases it
theorem Ch(I:Inv X pins σ H s)(hu:A.units+30<cLine)(hh:A.handled=none)(hl:s.heap.IsList l its)(hol:s.heap.get? l=some ol)(hdict:ol.dict=none)(ps:List (D×D))(hm:ps.length=its.size)
  (hval:∀(i:Nat) v,its[i]?=some v->∃p:D×D,ps[i]?=some p/\(∃vv,Rep X.K ρ H (.tup [p.1,p.2]) vv/\aL vv v)/\cc 8 p.1=true/\fL p.1=true) (hb:its.size<=1000)
  (h:∀h' tk xs,(∀b u,s.heap.get? b=some u->h'.get? b=some u)->DD X ρ H h' s.heap.objs.size (dictOf ps) xs->Q (.ref s.heap.objs.size) { s with heap:=h',toks:=tk }) :
  wpAny (model X.prog X.w) A (call (.type "dict") [.ref l]) Q E s:=by
 refine callType_codes (Q₁:=λobj s₁=>obj=.ref s.heap.objs.size/\s₁={ s with heap:=s.heap.push { cls:=.type "dict",data:=.dict #[] } }) PySem.F.kt_called_dict (PySem.F.kt_typeCall_dict_1 _) PySem.F.entry_dict_init (kt_code_dict_new _ ⟨rfl,rfl⟩) ?_
 rintro obj s₁ ⟨rfl,rfl⟩
 have hS:(s.heap.push { cls:=.type "dict",data:=.dict #[] }).get? s.heap.objs.size=some { cls:=.type "dict",data:=.dict #[] }:=AAC _ rfl
 have hT:AE2 { s with heap:=s.heap.push { cls:=.type "dict",data:=.dict #[] } } (.ref s.heap.objs.size) "dict":=⟨_,hS,rfl⟩
 obtain⟨ol',e1,hcl,nn,hdd⟩:=id hl
 obtain rfl:ol'=ol:=AAR (e1.symm.trans hol)
 have hol':(s.heap.push { cls:=.type "dict",data:=.dict #[] }).get? l=some ol':=AA3 _ hol
 have hTl:AE2 { s with heap:=s.heap.push { cls:=.type "dict",data:=.dict #[] } } (.ref l) "list":=⟨ol',hol',hcl⟩
 have ll:l<s.heap.objs.size:=AAH hol
 refine⟨hT,PySem.F.args_dict_init_2 _ _,?_⟩
 unfold Builtin.«dict.__init__»
 refine AA0 ?_
 unfold Builtin.Dict.selfAndRest
 refine AA0 (ACQ hT ?_)
 refine(show wpAny _ _ (pure (s.heap.objs.size,[ABU l])) _ _ _ from AA2 ?_)
 refine(show wpAny _ _ (Builtin.Dict.updateFrom "dict.__init__" s.heap.objs.size (.ref l) [] .none) _ _ _ from ?_)
 unfold Builtin.Dict.updateFrom
 refine AA0 (ACc hTl ?_)
 rw[if_pos (by decide)]
 refine AA0 (qA hol' hcl hdict hdd (by simpa using hh) λh1 tk1 k1=>?_)
 have kp1:∀b u,s.heap.get? b=some u->h1.get? b=some u:=λb u e=>k1 b u (AA3 _ e)
 rw[if_pos (show (none:Option Value).isNone=true from rfl)]
 refine AA0 (ABX ?_)
 obtain⟨oI,St,hit,W,st⟩:=(TxSrc.list (prog:=X.prog) (w:=X.w) hl).iter A.in1.in1 { s with heap:=h1,toks:=tk1 } (by simpa using hh) λo e=>kp1 _ _ e
 refine AA0 (hit _ _ ?_)
 have hS1:=k1 _ _ hS
 have lS:s.heap.objs.size<h1.objs.size:=AAH hS1
 have hS0:s.heap.get? s.heap.objs.size=none:=by
  cases q:s.heap.get? s.heap.objs.size with
  | none=>rfl
  | some o=>exact absurd (AAH q) (AAn _)
 refine AA2 ⟨AD3 gJ _,Cb (A:=A.in1) (s:=s) I (by show A.units+1+20<cLine;lia) W s.heap.objs.size ?_ hS0 ?_ ps hm hval hb its.size 0 _ _ [] _ _ rfl (AAS _) st ⟨⟨_,#[],AA3 _ hS1,⟨rfl,rfl,rfl⟩,rfl,rfl⟩,.nil,ADC⟩ (λb u e=>AA3 _ (kp1 b u e)) λh2 tk2 xs k2 dd=>⟨rfl,h h2 tk2 xs k2 dd⟩⟩
 ·simp only[AAN,List.not_mem_nil,or_false,not_or]
  exact⟨AAM lS,Nat.ne_of_gt ll⟩
 ·intro b hb'
  rw[AC4.mp hb']
  cases q:s.heap.get? h1.objs.size with
  | none=>rfl
  | some o=>exact absurd (Nat.lt_trans (AAH q) lS) (AAn _)
end
section
variable{X:Cx}{k:Nat}
def ie:DRA:=λds M Q=>match ds with
 | [.ref n]=>∃ps:List (D×D),am M n (ps.map λp=>.tup [p.1,p.2])/\(∀p∈ps,cc 8 p.1=true/\fL p.1=true)/\ps.length<=1000/\Q (.ref M.length) (M++[.dkt (dictOf ps)])
 | _=>False
theorem xx(hr:Room k X.A)(hc:X.calm=true):pR X (.type "dict") ie:=by
 intro pins s σ H vs us R I rv ⟨ds,M,ρ,Q,sm,rs,q,kk⟩
 have un:=hr.un
 unfold ie at q
 split at q
 ·obtain⟨ps,hL,hk,hl,q⟩:=q
  first | have hzz:=Reps.inv_cons rs | have hzz:=aw.inv_cons rs
  clear rs
  obtain⟨_,_,rfl,r1,rs⟩:=hzz
  cases rs
  obtain⟨u,rfl,e1⟩:=aw.one rv
  obtain⟨a,rfl,e⟩:=Rep.inv_ref r1
  cases e1
  obtain⟨ws,hq,r⟩:=am.seq sm hL e
  obtain⟨its,rr,pl,hz⟩:=I.list hq
  obtain⟨oa,nn,hoa,hca,hdict,hdata⟩:=id pl
  have lw:=r.length
  have li:=rr.length
  rw[AA6]at lw
  have hf:H s.heap.objs.size=none:=I.hok.fresh (AA8 _)
  have hb:(s.heap.objs.size==sysModules)=false:=beq_eq_false_iff_ne.mpr (ABC (AAM I.big))
  refine Ch (A:=X.A) (ρ:=ρ) I (by lia) (I.ok.hd hc) pl.isList hoa hdict ps (by rw[AAD];lia) (λi v hv=>?_) (by rw[AAD];lia) λh' tk xs kp dd=>?_
  ·obtain⟨d,vv,e1,r1,rv1⟩:=pX r rr (i:=i) (u:=v) (by simpa using hv)
   rw[AAT]at e1
   obtain⟨p,hp,rfl⟩:=ABT.mp e1
   exact⟨p,hp,⟨vv,r1,rv1⟩,hk p (AAc hp)⟩
  ·have dl:=lQ (ps:=ps)
   refine⟨.ref s.heap.objs.size,_,I.laid (a:=s.heap.objs.size) (o:=.ext (dX s.heap.objs.size xs)) (t':=tk) kp (AA8 _) (qP dd.dx),rfl,?_⟩
   exact kk _ _ ⟨.ref M.length,M++[.dkt (dictOf ps)],ρ++[s.heap.objs.size],sm.laidM (mo:=.dkt (dictOf ps)) hf ⟨ax (by lia),hb,dd.nd,xs,aH,Paired.mapP dd.kv λ_ _ ⟨q1,q2,q3,v,q4,q5⟩=>⟨q1,q2,q3.grow (Grow.laidR hf),v,q4.grow (Grow.laidR hf),q5⟩⟩,Grow.laidR hf,.ref sm.last,q⟩
 ·exact q.elim
theorem pc(hr:Room k X.A)(hc:X.calm=true:=by kernel_rfl):HC X (.type "dict") ie:=⟨xx hr hc⟩
end
end L2
namespace L2
open PySem PySem.Spec PyProof.Rows DL PySem.W
section
variable{P:Params}{K:AA4}{z:Str}
variable{a:Addr}{es:Array DictEntry}{n:Nat}{kvs:List (Str×List Str)}
end
section
variable{X:Cx}{e:Expr}{te:DTE}{x:Str}{p pos:Pos}{a:Addr}{es:Array DictEntry}{n:Nat}{kvs:List (Str×List Str)}
end
end L2
namespace L2
open PySem PySem.Spec PyProof.Rows DL PySem.W
abbrev EE(M:Mem)(R:DK):DEnds:=⟨λ_ M'=>bD M R .non M',bD M R,λ_ _=>False,λ_ _=>False⟩
def dst(n:Nat)(ds:List D):SD:=ds.map some++ADr (n-ds.length) none
abbrev WpT(Pr:DSp)(n:Nat)(t:DTS):Prop:=∀ds M R,Pr ds M R->t (EE M R) (dst n ds) M
abbrev de(Pr:DSp)(p:List Str):Prop:=∀ds M R,Pr ds M R->ds.length=p.length
abbrev DerT(P:Program)(w:World)(K:AA4)(mg:Str->Option Value)(base:Heap)(k:Nat)(x:Str)(N:List Str)(st:Stmt)(t:DTS):Prop :=
 ∀(f:Addr) (cdv:Value) (A:Around) (outer:List Env) (s:Shared) (H:Hp) (E:XK),Room k (A.deeper (PyProof.Rows.envOfC x (ao st) s.heap.objs.size f cdv))->HB (pF CX0 P w K mg base N x (ao st) f cdv A outer s H E).nox (bw st) t
end L2
namespace L2
open PySem PySem.Spec PyProof.Rows DL PySem.W
def sW(c:DTT)(tb:DTS):DTS:=λE S M=>∃W:Nat->SD->Mem->Prop,(∃m,W m S M)/\∀m S M,W m S M ->
 c S M λb M1=>if b=true then tb ⟨λS' M'=>∃m',m' < m/\W m' S' M',E.rt,E.nx,λS' M'=>∃m',m' < m/\W m' S' M'⟩ S M1 else E.nx S M1
theorem tY{K:AA4}{c:DTT}{tb:DTS}(E:Ends)(σ:St)(H:Hp)(h:lowS K (sW c tb) E σ H):zA (lowT K c) (lowS K tb) E σ H:=by
 obtain⟨S,M,ρ,F,s,sr,⟨W,⟨m0,w0⟩,turn⟩,k⟩:=h
 refine⟨λm τ H2=>∃S2 M2 ρ2,Sim K ρ2 M2 H2/\Grow K ρ H ρ2 H2/\SRep K ρ2 H2 S2 τ/\W m S2 M2,⟨m0,S,M,ρ,s,.refl,sr,w0⟩,?_⟩
 rintro m τ H2 ⟨S2,M2,ρ2,s2,g2,sr2,w2⟩
 refine⟨S2,M2,ρ2,_,s2,sr2,turn m S2 M2 w2,λb H3 ⟨M3,ρ3,s3,g3,q3⟩=>?_⟩
 have g13:=g2.trans g3
 cases b with
 | true =>
  have again:∀τ5 H5,SQ K ρ3 H3 (λS' M'=>∃m',m' < m/\W m' S' M') τ5 H5->∃m',m' < m/\∃S2 M2 ρ2,Sim K ρ2 M2 H5/\Grow K ρ H ρ2 H5/\SRep K ρ2 H5 S2 τ5/\W m' S2 M2:=λτ5 H5 ⟨S5,M5,ρ5,s5,g5,sr5,m',lt,w5⟩=>⟨m',lt,S5,M5,ρ5,s5,g13.trans g5,sr5,w5⟩
  refine da ⟨_,λτ' H' z=>z,S2,M3,ρ3,_,s3,sr2.grow g3,(show tb _ S2 M3 from q3),?_⟩
  exact⟨again,λv H5 z=>k.rt v H5 (VQ.trans g13 z),λτ5 H5 z=>k.nx τ5 H5 (SQ.trans g13 z),again⟩
 | false=>exact cD (k.nx τ H3 ⟨S2,M3,ρ3,s3,g13,sr2.grow g3,(show F.nx S2 M3 from q3)⟩)
section
variable{X:Cx}{c:Expr}{body:List Stmt}{tc:DTT}{tb:DTS}{pos:Pos}
theorem iX(hc:HT X c tc)(hb:HB X body tb)(hp:PassesOwn (model X.prog X.w) X.A X.env X.xe:=by exact PassesOwn.never):HS X (.While c body [] pos) (sW tc tb):=⟨PS.imp (yc hp hc.ok hb.ok) tY⟩
end
end L2
namespace L2
open PySem PySem.Spec PyProof.Rows DL PySem.W
section
variable{prog:Program}{w:World}{A:Around}{E:Value->Shared->Prop}{h:Heap}{g:Array GenState}{d:Drawn}{t:Nat}{os:OsState}{a:Addr}{o:Obj}
end
section
variable{X:Cx}{pins:List (Addr×Obj)}{σ:St}{H:Hp}{ρ:List Addr}{M:Mem}{A:Around}{E:Value->Shared->Prop}{s:Shared}
end
section
variable{X:Cx}{k:Nat}
end
end L2
namespace L2
open PySem PySem.Spec PyProof.Rows DL PySem.W
inductive TopB(mg:Str->Option Value):List Str->List (Str×Int)->Prop
 | nil:TopB mg [] []
 | b {x:Str}{B:List Str}{C:List (Str×Int)} (h:mg x=none) (t:TopB mg B C):TopB mg (x::B) C
 | c {x:Str}{i:Int}{C:List (Str×Int)} (h:∃t,mg x=some (.int i t)) (t:TopB mg [] C):TopB mg [] ((x,i)::C)
theorem TopB.no(h:TopB mg B C)(c:B.contains x=true):mg x=none:=by
 induction h with
 | nil=>simp at c
 | b h _ ih =>
  simp only[List.contains_cons,AE9,beq_iff_eq]at c
  rcases c with rfl | c
  ·exact h
  ·exact ih c
 | c _ _ _=>simp at c
def nodB:List Str->Bool
 | []=>true
 | x::xs=>!xs.contains x&&nodB xs
theorem Bq:∀{l:List Str},nodB l=true->l.Nodup
 | [],_=>ADC
 | x::xs,h=>by
  simp only[nodB,AAV,Bool.not_eq_true',List.contains_eq_mem,decide_eq_false_iff_not]at h
  exact ABb.mpr ⟨h.1,Bq h.2⟩
def tgN:Expr->List Str
 | .Name x _=>[x]
 | .Tuple es _ _=>es.filterMap fun | .Name x _=>some x | _=>none
 | _=>[]
abbrev lcN(N:List Str)(js:List Nat)(tg:Expr):List Str:=tgN tg++js.map λj=>N.getD j ""
section
variable{X:Cx}{tg iter elt:Expr}{ifs:List Expr}{scope:Scope}{nt i:Nat}{js:List Nat}{di:DTI}{g:DTG}{tt:DTT}{te:DTE}{pos pos' pos2:Pos}{x:Str}
theorem Em(hi:HI X tg iter di)(hg:∀cl s0 H0 ex,HG (blk X (lcN X.N js tg) scope cl s0 H0 ex) tg g)(ht:∀cl s0 H0 ex,HTs (blk X (lcN X.N js tg) scope cl s0 H0 ex) ifs tt)(he:∀cl s0 H0 ex,HE (blk X (lcN X.N js tg) scope cl s0 H0 ex) elt te)
  (B:lT X.env.scope.names X.N (lcN X.N js tg) nt js scope=true:=by kernel_rfl) (hc:X.calm=true:=by kernel_rfl) (hs:∀x,foldedSetIterable iter X.env x=pure x:=by intro _;kernel_rfl):HE X (.ListComp elt [⟨tg,iter,ifs,0⟩] scope pos) (dLC nt js di g tt te):=k_lc hi hg ht he B hc hs
theorem gR(hN:X.N.Nodup)(hi:HI X tg iter di)(hg:∀cl s0 H0 ex,HG (blk X (lcN X.N js tg) scope cl s0 H0 ex) tg g)(ht:∀cl s0 H0 ex,HTs (blk X (lcN X.N js tg) scope cl s0 H0 ex) ifs tt)(he:∀cl s0 H0 ex,HE (blk X (lcN X.N js tg) scope cl s0 H0 ex) elt te)
  (B:lT X.env.scope.names X.N (lcN X.N js tg) nt js scope=true:=by kernel_rfl) (hc:X.calm=true:=by kernel_rfl) (hs:∀x,foldedSetIterable iter X.env x=pure x:=by intro _;kernel_rfl) (hsw:swapsWith (.ListComp elt [⟨tg,iter,ifs,0⟩] scope pos) (some (.Name x pos')) pos2.line X.env=pure true:=by kernel_rfl)
  (hix:X.N[i]?=some x:=by kernel_rfl) (hx:Cs X.env.scope x=true:=by kernel_rfl) (hf:X.fn x=true:=by kernel_rfl):HS X (.Assign [.Name x pos'] (.ListComp elt [⟨tg,iter,ifs,0⟩] scope pos) pos2) (kh nt js di g tt te i):=yK hN hi hg ht he B hc hs hsw hix hx hf
theorem gA(h:HA X es t):HA X es t:=h
theorem gE(h:HE X e te):HE X e te:=h
theorem EF(h:HE X (.Call a b c pos) te):HE X (.Call a b c pos) te:=h
theorem gIx(h:HE X (.Subscript a b pos) te):HE X (.Subscript a b pos) te:=h
theorem Aj(h:HE X (.Constant a b pos) te):HE X (.Constant a b pos) te:=h
theorem gT(h:HT X e tt):HT X e tt:=h
theorem gS{st:Stmt}{t:DTS}(h:HS X st t):HS X st t:=h
theorem gOp(h:HOp X f r):HOp X f r:=h
theorem gC(h:HC X f r):HC X f r:=h
theorem wY{b:List Stmt}{st:Stmt}{sts:List Stmt}{t:DTS}(h:b=st::sts)(q:HB X (st::sts) t):HB X b t:=h ▸ q
end
section
variable{P:Program}{w:World}{K:AA4}{mg:Str->Option Value}{base:Heap}{x:Str}{st:Stmt}{N ps:List Str}{k:Nat}{Pr:DSp}{B:List Str}{C:List (Str×Int)}{t:DTS}
theorem Cal.byD(T:TopB mg B C)(F:cM K mg x st ps)(Sc:FnScope N ps (ao st))(len:de Pr ps)(der:TopB mg B C->N.Nodup->DerT P w K mg base k x N st t)(wp:∀ds M R,Pr ds M R->t (EE M R) (bY N ds) M):Cal P w K mg base (k+1) x ps Pr :=
 Cal.byH F Sc len (der T Sc.nd) wp
theorem yX(T:TopB mg B C)(F:Fun K x x st f fd)(Sc:FnScope N ps (ao st))(len:de Pr ps)(der:TopB mg B C->N.Nodup->DerT P w K mg base k x N st t)(wp:∀ds M R,Pr ds M R->t (EE M R) (bY N ds) M):FnOk P w K mg base CX0 (k+1) f fd ps (spL K Pr) :=
 yW F Sc len (der T Sc.nd) wp
end
end L2
namespace L2
open PySem PySem.Spec PyProof.Rows DL PySem.W
section
variable{prog:Program}{w:World}{A:Around}{E:Value->Shared->Prop}{s:Shared}
theorem qU(ho:s.heap.get? l=some o)(hc:o.cls=.type "list"\/o.cls=.type "tuple")(hd:o.data=.seq vs.toArray n)
  (h:Q vs { s with heap:=(s.heap.push (seqObj "list" #[] 0)).update s.heap.objs.size (ABA (· ++ vs.toArray)) }) (hsz:vs.length<=sizeLine):wpAny (model prog w) A (collect (.ref l)) Q E s:=by
 rcases hc with hc | hc
 ·exact collect_list ⟨o,ho,hc,n,hd⟩ h hsz
 unfold collect
 refine AA0 (wpAny_runValue (ABe entry_proto_collect' ?_))
 show wpAny _ _ (do again (.builtin "list.__iadd__" ⟨[←newList [],.ref l],[]⟩)) _ _ s
 refine AA0 (AD1 (AA2 ⟨Code.quiet_builtin _ (by decide +kernel),ABe entry_list_iadd' ?_⟩) (AAS _))
 show wpAny _ _ (ACH (.ref s.heap.objs.size) (.ref l) (.ref s.heap.objs.size)) _ _ { s with heap:=s.heap.push (seqObj "list" #[] 0) }
 unfold ACH
 have ho':(s.heap.push (seqObj "list" #[] 0)).get? l=some o:=AA3 _ ho
 refine AA0 (ACc (T:="tuple") ⟨o,ho',hc⟩ ?_)
 have ht:(ADG "tuple" == ADG "tuple")=true:=by rfl
 rw[if_pos (by rw[ht];simp)]
 refine AA0 (ADu ho' hd ?_)
 refine AA0 (ADu (xs:=#[]) (n:=0) (AAC _ rfl) rfl ?_)
 rw[if_neg (by simp)]
 refine AA0 (AD2 (xs:=#[]) (n:=0) (AAC _ rfl) rfl ?_ (AAS _) (by show (#[]++vs.toArray).size<=sizeLine+1;simp only[Array.size_append,AAD,AAb];lia))
 refine AA2 ?_
 show wpAny (model prog w) A (do
   let o ←load s.heap.objs.size
   match o.data with
   | .seq xs _=>pure xs.toList
   | _=>unsupported "internal:collect") Q E { s with heap:=(s.heap.push (seqObj "list" #[] 0)).update s.heap.objs.size (ABA (· ++ vs.toArray)) }
 refine AA0 (wpAny_load (ACY (AAC _ rfl) _) ?_)
 show wpAny _ _ (pure ((#[]:Array Value)++vs.toArray).toList) Q E _
 rw[show ((#[]:Array Value)++vs.toArray).toList=vs by simp]
 exact AA2 h
variable{h₀:Heap}{L kS a:Addr}{m:Str->Option Value}{vs:List Value}
theorem AG(hl:ks.length=vs.length)(h2:vs.length<2)(h:KatFin h₀ L m kS a ks e e1 vs (λs3=>P (.done (.ret .none)) s3) s) :
  wpAny (model prog w) A (ksk_end a false vs.toArray e1 (.ref kS) (ABm ks)) P E s:=by
 have hn2:vs.toArray.size<2:=by rw[AAD];exact h2
 unfold ksk_end
 dsimp only
 simp only[AAE,if_false]
 rw[if_pos hn2,if_pos hn2]
 refine AA0 (AA2 ?_)
 rw[StateT.run_pure]
 refine AA0 (AA2 ?_)
 dsimp only
 refine kat_tail (out:=vs) ?_ (by lia) (by lia) rfl h
 show ((ABm ks).zip vs.toArray).map (·.2)=vs.toArray
 match ks,vs,hl,h2 with
 | [],[],_,_=>simp
 | [k],[v],_,_=>simp
 | [],_::_,hl,_=>simp at hl
 | _::_,[],hl,_=>simp at hl
 | _::_::_,[_],hl,_=>simp at hl
 | _,_::_::_,_,h2=>simp at h2;lia
theorem AE{f:Value}{e1:Nat}{P:PySem.Fin->Shared->Prop}{Fin:List Value->Nat->Shared->Prop}(hk:s.heap.get? kS=some (seqObj "list" #[] 0))(h64:vs.length<64)
  (hend:∀ks e s',ks.length=vs.length->Fin ks e s'->wpAny (model prog w) A (ksk_end a false vs.toArray e1 (.ref kS) (ABm ks)) P E s') (h:KatKeys prog w A h₀ L m kS f Fin vs [] 0 s) :
  wpAny (model prog w) A (ksk_rest a f false vs.toArray e1 (.ref kS)) P E s:=by
 unfold ksk_rest
 refine AA0 (ABX ?_)
 first
  | rw[List.forIn_toArray]
  | (rw[←ABh];simp only[List.toList_toArray])
  | rw[←ABh]
 refine AA0 (AB7 (kat_fold h64 (λx ks e s' C hz hx=>?_) vs [] 0 s (by simp) hk h) (λ_ s' hd=>?_) λ_ _ x=>x)
 ·refine AA0 (ACO (AB7 hx (λk s'' hk=>?_) λ_ _ hF=>hF.elim))
  obtain⟨news',g,F',N',U,c⟩:=hk
  obtain⟨pre,post,e0,hg,x1,x2⟩:=U.split
  rw[e0]at N'
  have nk:=N' (kS,seqObj "list" (ABm ks) e) (AAG _ (.head _))
  have s1:=AAo s''.heap kS (ABA (·.push k))
  have ea:(ABm ks).push k=ABm (ks++[k]):=by simp
  obtain⟨c2,hc2⟩:∃c2,(s''.heap.update kS (ABA (·.push k))).get? kS=some (seqObj "list" (ABm (ks++[k])) c2):=⟨_,by rw[←ea];exact ACY nk.1 (·.push k)⟩
  try dsimp only
  refine AA0 (AD2 nk.1 rfl ?_ (by rw[AAD,AC5];lia) (AAy (Nat.le_of_eq (Array.size_push ..)) (by rw[AAD,AC5];lia)))
  exact AA2 ⟨rfl,k,c2,hc2,c _ c2 (kas_fr F' s1 nk.2.1 nk.2.2) (by rw[hg];exact news_set N' x1 x2 s1 hc2)⟩
 ·obtain⟨ks,e,hk',hl,fin⟩:=hd
  try dsimp only
  exact AA0 (ADu hk' rfl (hend ks e s' hl fin))
end
section
variable{X:Cx}{pins:List (Addr×Obj)}{σ:St}{H:Hp}{s:Shared}{a:Addr}
structure Own(X:Cx)(pins:List (Addr×Obj))(H:Hp)(a:Addr):Prop where
 un:H a=none
 ne:a≠X.env.locals
 fs:a∉X.fs
 s0:X.s₀.heap.objs.size<=a
 cl:∀x c,X.env.cells.lookup x=some c->c≠a
 pn:∀p∈X.pn++pins,p.1≠a
theorem Inv.own(I:Inv X pins σ H s)(h:s.heap.objs.size<=a):Own X pins H a :=
 ⟨I.hok.fresh h,λe=>by rw[e]at h;exact absurd (AAZ I.lt h) (AAn _),I.nofs h,AAy I.sz h,λx c e z=>by
  obtain⟨v,o,ho,_⟩:=I.cell x c e
  rw[z]at ho
  exact absurd (AAZ (AAH ho) h) (AAn _),λp hp e=>by
  have:=AAH (I.pin p hp).1
  rw[e]at this
  exact absurd (AAZ this h) (AAn _)⟩
theorem Inv.turnF(I:Inv X pins σ H s)(w:Own X pins H a)(k:∀b u,b≠X.env.locals->b≠a->s.heap.get? b=some u->h'.get? b=some u)(hn:s.heap.Ns X.env.locals m)(hn':h'.Ns X.env.locals m):Inv X pins σ H { s with heap:=h' }:=by
 have na:∀b u,H b=some u->b≠a:=λb u e=>ad e w.un
 refine I.step (g':=s.gens) (d':=s.drawn) (t':=s.toks) (ch:=[a]) (λb hb=>?_) (λb u hL _ hc e _=>k b u hL (by simpa using hc) e) (λb u hL _ hc e _=>⟨u.slots,k b u hL (by simpa using hc) e⟩) (λb u _ e n=>n) (λb u hc e=>?_)
  (λb xs q=>q) (λb u xs q=>q) (λb ps q=>⟨#[],by rw[q];simp⟩) (λm' hm=>?_) (λb u q=>?_) I.bare
 ·obtain rfl:b=a:=by simpa using hb
  exact⟨.inr w.s0,w.ne,w.cl,w.pn⟩
 ·by_cases hb:b=X.env.locals
  ·subst hb
   obtain⟨o',_,_,ho,_⟩:=hn'
   exact⟨o',ho⟩
  ·exact⟨u,k b u hb (by simpa using hc) e⟩
 ·have:m=m':=funext λx=>hn.agree hm x
  subst this
  exact hn'
 ·refine(I.hok b u q).stay (λc v hc r=>k c v ?_ ?_ r) (λc z=>z) λc xs z=>z
  ·rcases hc with rfl | hc
   ·exact ad q I.free
   ·exact ad hc I.free
  ·rcases hc with rfl | hc
   ·exact na _ _ q
   ·exact na _ _ hc
theorem Inv.adoptF(I:Inv X pins σ H s)(w:Own X pins H a)(k:∀b u,b≠X.env.locals->b≠a->s.heap.get? b=some u->h'.get? b=some u)(hn:s.heap.Ns X.env.locals m)(hn':h'.Ns X.env.locals m)
  (new:cF X.prog X.w (upd H a o) h' a o):Inv X pins σ (upd H a o) { s with heap:=h' }:=by
 have fa:=w.un
 refine I.step (g':=s.gens) (d':=s.drawn) (t':=s.toks) (ch:=[a]) (λb hb=>?_) (λb u hL _ hc e _=>k b u hL (by simpa using hc) e) (λb u hL _ hc e _=>⟨u.slots,k b u hL (by simpa using hc) e⟩) (λb u hc e n=>by rw[ah (by simpa using hc)];exact n) (λb u hc e=>?_)
  (λb xs q=>by rw[ah (ad q fa)];exact q) (λb u xs q=>by rw[ah (ad q fa)];exact q) (λb ps q=>⟨#[],by rw[ah (ad q fa),q];simp⟩) (λm' hm=>?_) (λb u q=>?_) I.bare
 ·obtain rfl:b=a:=by simpa using hb
  exact⟨.inr w.s0,w.ne,w.cl,w.pn⟩
 ·by_cases hb:b=X.env.locals
  ·subst hb
   obtain⟨o',_,_,ho,_⟩:=hn'
   exact⟨o',ho⟩
  ·exact⟨u,k b u hb (by simpa using hc) e⟩
 ·have:m=m':=funext λx=>hn.agree hm x
  subst this
  exact hn'
 ·by_cases hb:b=a
  ·subst hb
   rw[aH]at q
   cases q
   exact new
  ·rw[ah hb]at q
   refine(I.hok b u q).stay (λc v hc r=>k c v ?_ ?_ r) (λc z=>by rw[ah (ad z fa)];exact z) λc xs z=>by rw[ah (ad z fa)];exact z
   ·rcases hc with rfl | hc
    ·exact ad q I.free
    ·exact ad hc I.free
   ·rcases hc with rfl | hc
    ·exact ad q fa
    ·exact ad hc fa
end
section
variable{X:Cx}{pins:List (Addr×Obj)}{σ:St}{ρ:List Addr}{M:Mem}
structure KySt(X:Cx)(pins:List (Addr×Obj))(σ:St)(ρ:List Addr)(M:Mem)(m:Str->Option Value)(kS aD:Addr)(e1:Nat)(H0 H:Hp)(s:Shared)(ks:List Value)(e:Nat):Prop where
 inv:Inv X pins σ H s
 ns:s.heap.Ns X.env.locals m
 sm:Sim X.K ρ M H
 gr:Grow X.K ρ H0 ρ H
 hk:s.heap.get? kS=some (seqObj "list" (ABm ks) e)
 hd:s.heap.get? aD=some (seqObj "list" #[] e1)
 ok:Own X pins H kS
 od:Own X pins H aD
 ne:aD≠kS
theorem BJ(n:h.Ns L m):Fr (Att.noObjs h0) L h m :=
 ⟨n,λb o e=>(by rw[Att.noObjs_get]at e;cases e),AAS _⟩
theorem qu(hne:d≠L)(ho:h.get? d=some od):News (Att.noObjs h0) L h ((d,od)::Att.ledger h L d):=by
 rintro⟨a,o⟩ hp
 rcases AAN.mp hp with e | hp
 ·cases e
  exact⟨ho,hne,Att.noObjs_get _ _⟩
 ·obtain⟨n1,n2,e⟩:=Att.mem_ledger.mp hp
  exact⟨e,n1,Att.noObjs_get _ _⟩
theorem jQ(N:News (Att.noObjs h0) L h' ((d,o)::Att.ledger h L d)):∀b u,b≠L->b≠d->h.get? b=some u->h'.get? b=some u :=
 λb u h1 h2 e=>(N (b,u) (AAA _ (Att.mem_ledger.mpr ⟨h1,h2,e⟩))).1
abbrev KeyG(X:Cx)(pins:List (Addr×Obj))(σ:St)(ρ:List Addr)(M:Mem)(f:Addr)(key:D->D)(xs:List D):Prop:=∀(s:Shared) (H:Hp) (d:D) (v:V) (u:Value),d∈xs->Inv X pins σ H s->Sim X.K ρ M H->Rep X.K ρ H d v->aL v u ->
 codeAny (model X.prog X.w) X.A.in1.in1 (.call (.ref f) ⟨[u],[]⟩) (CR CX0 X.stack X.prog X.w H s (λv' H'=>VQ X.K ρ H (λx M'=>x=key d/\M'=M) v' H') E0) s
theorem AF{f:Addr}{key:D->D}{xs:List D}(G:KeyG X pins σ ρ M f key xs){h0:Heap}{m:Str->Option Value}{aD kS:Addr}{e1:Nat}{H0:Hp}
  {Fin:List Value->Nat->Shared->Prop}{keys:List D} (fin:∀H s kvs ks e,KySt X pins σ ρ M m kS aD e1 H0 H s ks e->Reps X.K ρ H keys kvs->aw kvs ks->Fin ks e s) :
  ∀(r:List D) (ws:List V) (its:List Value) (done:List D) (kvs:List V) (ks:List Value) (e:Nat) (H:Hp) (s:Shared),KySt X pins σ ρ M m kS aD e1 H0 H s ks e->Reps X.K ρ H r ws->aw ws its->Reps X.K ρ H done kvs->aw kvs ks ->
   done++r.map key=keys->(∀d∈r,d∈xs)->KatKeys X.prog X.w X.A.in1.in1 (Att.noObjs h0) X.env.locals m kS (.ref f) Fin its ks e s:=by
 intro r
 induction r with
 | nil =>
  intro ws its done kvs ks e H s g r v rd vd hk _
  obtain rfl:=Reps.inv_nil r
  obtain rfl:=aw.inv_nil v
  refine KatKeys.nil (fin H s kvs ks e g ?_ vd)
  rw[←hk,List.map_nil,ABI]
  exact rd
 | cons d r ih =>
  intro ws its done kvs ks e H s g rr v rd vd hk hP
  obtain⟨vd1,ws,rfl,r1,rr⟩:=Reps.inv_cons rr
  obtain⟨u,its,rfl,ru,v⟩:=aw.inv_cons v
  have I:=g.inv
  refine KatKeys.cons (wpAny_call (ADH (G s H d vd1 u (hP d AAI) I g.sm r1 ru) λres s' hq=>?_))
  cases res with
  | error e=>exact hq.elim
  | ok fl =>
   cases fl with
   | next=>exact hq.elim
   | brk=>exact hq.elim
   | cont=>exact hq.elim
   | ret u' =>
    obtain⟨v',H',os,bare,un,hok,rv,q⟩:=hq
    obtain⟨hh,gg,dr,tk,os'⟩:=s'
    obtain rfl:os'=s.os:=os
    obtain⟨_,_,ρ',s1,g1,r1',rfl,rfl⟩:=q
    have eρ:ρ'=ρ:=by
     obtain⟨t,rfl⟩:=g1.pre
     have h1:=s1.len
     have h2:=g.sm.len
     rw[AAB]at h1
     rw[List.eq_nil_of_length_eq_zero (show t.length=0 by lia),ABI]
    subst eρ
    have J:Inv X ((kS,seqObj "list" (ABm ks) e)::(aD,seqObj "list" #[] e1)::pins) σ H s:=I.pins_of λp hp=>by
     rcases AAN.mp hp with rfl | hp
     ·exact⟨g.hk,g.ok.un,g.ok.ne,g.ok.fs,λ_ z=>nomatch z⟩
     ·rcases AAN.mp hp with rfl | hp
      ·exact⟨g.hd,g.od.un,g.od.ne,g.od.fs,λ_ z=>nomatch z⟩
      ·exact I.pin p (AAG _ hp)
    have J':=J.call (h':=hh) (g':=gg) (d':=dr) (t':=tk) (ch:=[]) un hok bare (λb z=>absurd z (by simp))
    have pk:=J'.pin (kS,_) (AAG _ AAI)
    have pd:=J'.pin (aD,_) (AAG _ (AAA _ AAI))
    have I':Inv X pins σ H' ⟨hh,gg,dr,tk,s.os⟩:=J'.pins_of λp hp=>J'.pin p (AAG _ (AAA _ (AAA _ hp)))
    have ns':hh.Ns X.env.locals m:=by
     obtain⟨o,es,ep,ho,aI⟩:=g.ns
     obtain⟨sl,hL⟩:=un.any ho I.free (by simp)
     exact⟨_,es,ep,hL,aI⟩
    have ok':Own X pins H' kS:=⟨pk.2.1,g.ok.ne,g.ok.fs,g.ok.s0,g.ok.cl,g.ok.pn⟩
    have od':Own X pins H' aD:=⟨pd.2.1,g.od.ne,g.od.fs,g.od.s0,g.od.cl,g.od.pn⟩
    refine KatBack.intro (s:=⟨hh,gg,dr,tk,s.os⟩) (BJ ns') (qu ok'.ne pk.1) (UpdF.head λp hp=>(Att.mem_ledger.mp hp).2.1) λh2 c F2 N2=>?_
    have kp:=jQ N2
    refine ih ws its (done++[key d]) (kvs++[v']) (ks++[u']) c H' _ ⟨I'.turnF ok' kp ns' F2.ns,F2.ns,s1,⟨g.gr.pre,λx xs h=>g1.tup x xs (g.gr.tup x xs h)⟩,(N2 _ AAI).1,kp aD _ od'.ne g.ne pd.1,ok',od',g.ne⟩ (rr.grow g1) v
     ((rd.grow g1).append (.cons r1' .nil)) (vd.append (.cons rv .nil)) (by rw[←hk,AAi,AAs];rfl) λx hx=>hP x (AAA _ hx)
theorem se{k n:Nat}{f l:Addr}{o:Obj}{s:Shared}{H:Hp}{xs:List D}{ws:List V}{its:List Value}{key:D->D}{R:VK}(G:KeyG X pins σ ρ M f key xs)(hr:Room (k+2) X.A)
  (I:Inv X pins σ H s) (sm:Sim X.K ρ M H) (r:Reps X.K ρ H xs ws) (rr:aw ws its) (ho:s.heap.get? l=some o) (hc:o.cls=.type "list"\/o.cls=.type "tuple") (hd:o.data=.seq its.toArray n) (h64:its.length<64) (so:SrtG M (xs.map key)) (kk:∀v H',(∀Q:DK,(∀ys,ys.Perm xs->ys.Pairwise (λa b=>ltD M eqN (key b) (key a)=false)->Q (.ref M.length) (M++[.lst ys]))->VQ X.K ρ H Q v H')->R v H') :
  wpAny (model X.prog X.w) X.A (call (.builtin "sorted") [.ref l] [(AA1 "key",.ref f)]) (EP X pins σ R) X.xe s:=by
 have lw:=r.length
 have li:=rr.length
 have few:its.length<=sizeLine:=by rw[AC5];lia
 refine call_function_entry_kw kind_sorted plain_sorted entry_sorted (ksk_s1 _ _) ?_
 unfold Builtin.«sorted»
 refine AA0 (m:=checkCount "sorted" 1 1 _) (AA2 (AA0 (qU ho hc hd (AA0 (AD1 ?_ few)) few)))
 generalize hg:((s.heap.push (seqObj "list" #[] 0)).update s.heap.objs.size (ABA (· ++ its.toArray)))=g1
 have hsz:g1.objs.size=s.heap.objs.size+1:=by rw[←hg,Heap.size_update,size_push']
 have k1:∀b o,s.heap.get? b=some o->g1.get? b=some o:=λb o q=>by
  have hlt:=AAH q
  rw[←hg,ABt _ _ _ _ (AAM hlt),Heap.get?_push_ne _ _ _ (AAM hlt)]
  exact q
 show wpAny _ _ _ _ _ { s with heap:=g1.push (seqObj "list" its.toArray 0) }
 have hoL:(g1.push (seqObj "list" its.toArray 0)).get? g1.objs.size=some (seqObj "list" its.toArray 0):=AAC _ rfl
 refine AA0 (AAh (wpAny_call_entry_kw slot_list_sort (⟨_,hoL,rfl⟩) entry_list_sort ?body (ksk_l1 _ _)))
 case body =>
  show wpAny (model X.prog X.w) X.A.in1.in1 (Builtin.«list.sort» ⟨[.ref g1.objs.size],[(AA1 "key",.ref f)]⟩) _ _ _
  rw[ksk_t1]
  unfold ksk_tree
  refine AA0 (ADu hoL rfl (AA0 (AD2 hoL rfl ?_ (by rw[AAD];exact few) (AAS _))))
  obtain⟨e1,ho1⟩:∃e1,((g1.push (seqObj "list" its.toArray 0)).update g1.objs.size (ABA λ_=>(#[]:Array Value))).get? g1.objs.size=some (seqObj "list" #[] e1):=⟨_,ACY hoL λ_=>#[]⟩
  refine AA0 (seqEpoch_at ho1 rfl (AA0 (wpAny_newTuple (AA0 (AD1 (AAh ?_) (AAS _))) few)))
  have k2:∀b o,s.heap.get? b=some o->((g1.push (seqObj "list" its.toArray 0)).update g1.objs.size (ABA λ_=>(#[]:Array Value))).get? b=some o:=λb o q=>by
   rw[ABt _ _ _ _ (AAM (by rw[hsz];exact ABs (AAH q)))]
   exact AA3 _ (k1 b o q)
  have hsz2:((g1.push (seqObj "list" its.toArray 0)).update g1.objs.size (ABA λ_=>(#[]:Array Value))).objs.size=g1.objs.size+1:=by rw[Heap.size_update,size_push']
  generalize ((g1.push (seqObj "list" its.toArray 0)).update g1.objs.size (ABA λ_=>(#[]:Array Value)))=g2 at ho1 k2 hsz2 ⊢
  dsimp only
  have k3:∀b o,g2.get? b=some o->((g2.push (seqObj "tuple" its.toArray 0)).push (seqObj "list" #[] 0)).get? b=some o:=λb o q=>AA3 _ (AA3 _ q)
  have hk3:((g2.push (seqObj "tuple" its.toArray 0)).push (seqObj "list" #[] 0)).get? (g2.push (seqObj "tuple" its.toArray 0)).objs.size=some (seqObj "list" #[] 0):=AAC _ rfl
  have hsz3:(g2.push (seqObj "tuple" its.toArray 0)).objs.size=g2.objs.size+1:=size_push' _ _
  generalize (g2.push (seqObj "tuple" its.toArray 0)).objs.size=kS at hk3 hsz3 ⊢
  generalize ((g2.push (seqObj "tuple" its.toArray 0)).push (seqObj "list" #[] 0))=g3 at hk3 k3 ⊢
  generalize g1.objs.size=aD at ho1 hsz hsz2 ⊢
  obtain⟨m,hn,_⟩:=I.loc
  have st:KySt X pins σ ρ M m kS aD e1 H H { s with heap:=g3 } [] 0 :=
   ⟨I.kept (t':=s.toks) λb o q=>k3 b o (k2 b o q),(by obtain⟨o',es,ep,ho',aI⟩:=hn;exact⟨o',es,ep,k3 _ _ (k2 _ _ ho'),aI⟩),sm,.refl,hk3,k3 _ _ ho1,I.own (by rw[hsz3,hsz2,hsz];exact ADF _ 3),I.own (by rw[hsz];exact ADF _ 1),by rw[hsz3,hsz2];exact AAM (Nat.lt_add_of_pos_right (by decide:0<2))⟩
  have hr2:Room k X.A.in1.in1:=(Room.in1 (k:=k+1) hr).in1
  refine AE (h₀:=Att.noObjs s.heap) (L:=X.env.locals) (m:=m) (Fin:=λks e s'=>∃H' kvs,KySt X pins σ ρ M m kS aD e1 H H' s' ks e/\Reps X.K ρ H' (xs.map key) kvs/\aw kvs ks) hk3 h64 (λks e s' hl ⟨H',kvs,g,rk,vk⟩=>?_)
   (AF G (λH' s' kvs ks e g r v=>⟨H',kvs,g,r,v⟩) xs ws its [] [] [] 0 H _ st r rr .nil .nil rfl λ_ q=>q)
  have fin:∀ys zs out,Reps X.K ρ H' ys zs->aw zs out->ys.Perm xs->ys.Pairwise (λa b=>ltD M eqN (key b) (key a)=false)->KatFin (Att.noObjs s.heap) X.env.locals m kS aD ks e e1 out (λs4=>EP X pins σ R (.ref aD) s4) s':=λys zs out ry vy hp hw=>by
   refine KatFin.intro (BJ g.ns) (qu g.ok.ne g.hk) (UpdF.head λp hp=>(Att.mem_ledger.mp hp).2.1) λh2 c F2 N2=>?_
   have kp:=jQ N2
   refine KasFin.intro (s:={ s' with heap:=h2 }) (BJ F2.ns) (qu g.od.ne (kp aD _ g.od.ne g.ne g.hd)) (UpdF.head λp hp=>(Att.mem_ledger.mp hp).2.1) λh3 c3 F3 N3=>?_
   refine⟨.ref aD,_,(g.inv.turnF g.ok kp g.ns F2.ns).adoptF (o:=.lst zs) g.od (jQ N3) F2.ns F3.ns ⟨?_,out,c3,vy,(N3 _ AAI).1⟩,rfl,kk _ _ λQ hQ=>VQ.laidL g.sm g.gr ry g.od.un (hQ ys hp hw)⟩
   rw[←ry.length,hp.length_eq,lw,li]
   exact few
  by_cases h2:its.length<2
  ·refine AG (hl) h2 ((fin xs ws its (r.grow g.gr) rr (ACl _) ?_).mono λs4 hq=>⟨_,rfl,AA2 ⟨_,rfl,hq⟩⟩)
   match xs,(show xs.length<2 by lia) with
   | [],_=>exact ACy
   | [x],_=>exact ADW _ _
   | _::_::_,hx=>simp at hx;lia
  ·have h2':2<=its.length:=by lia
   refine kat_end (b:=false) (h₀:=Att.noObjs s.heap) (L:=X.env.locals) (m:=m) (e:=e) hl h2' h64 ?_
   have hu:X.A.in1.in1.units+eqN<cLine:=by
    have:=hr.un
    have:eqN=30:=rfl
    show X.A.units+1+1+eqN<cLine
    lia
   have kl:ks.length=xs.length:=by lia
   refine AB7 (jv g.inv g.sm so rk vk (by lia) hu) (λκ s'' hk=>?_) λ_ _ x=>x
   obtain⟨rfl,hask⟩:=hk
   show (ADs its.length).kasWp (kas_ask X.prog X.w X.A.in1.in1 κ ks) (λp s3=>KatFin (Att.noObjs s.heap) X.env.locals m kS aD ks e e1 (p.toList.map λi=>its.getD i ABi) _ s3) _
   have kget:∀i,i<xs.length->(xs.map key).getD i default=key (xs.getD i default):=λi hi=>by
    rw[AAU,AAU,AAT,AA5 hi]
    rfl
   refine Srt.wp_run (n:=its.length) (c:=λi j=>if i<xs.length then(if j<xs.length then ltD M eqN (key (xs.getD i default)) (key (xs.getD j default))else true)else false) (λi j C hi hj hc=>?_) _ (Srt.sort_bd (by lia)).1 ?_
   ·refine hask i j C (by lia) (by lia) ?_
    rw[if_pos (by lia),if_pos (by lia)]at hc
    unfold ltc
    rw[kget i (by lia),kget j (by lia)]
    exact hc
   ·have hent:=Srt.All.run (c:=λi j=>if i<xs.length then(if j<xs.length then ltD M eqN (key (xs.getD i default)) (key (xs.getD j default))else true)else false) _ (Srt.sort_bd (n:=its.length) (by lia)).2
    obtain⟨o1,o2,o3⟩:=Bg so
    have hm:∀x∈xs,key x∈xs.map key:=λx hx=>AAp hx
    have hsl:=Srt.sort_list (lt:=λa b=>ltD M eqN (key a) (key b)) xs (by lia) (λa ha=>o1 _ (hm a ha)) (λa ha b hb d hd=>o2 _ (hm a ha) _ (hm b hb) _ (hm d hd)) (λa ha b hb d hd=>o3 _ (hm a ha) _ (hm b hb) _ (hm d hd))
    try dsimp only at hsl
    rw[show xs.length=its.length by lia]at hsl hent ⊢
    generalize Srt.run _ (ADs its.length)=p at hent hsl ⊢
    have hi:∀i∈p.toList,i<xs.length:=λi h=>by
     have:=hent.mem_iff.mp h
     rw[AB1]at this
     lia
    exact(fin _ _ _ ((r.grow g.gr).perm p.toList hi) (rr.perm p.toList λi h=>by have:=hi i h;lia) hsl.1 hsl.2).mono λs4 hq=>⟨_,rfl,AA2 ⟨_,rfl,hq⟩⟩
end
end L2
namespace L2
open PySem PySem.Spec PyProof.Rows DL PySem.W
end L2
namespace L2
open PySem PySem.Spec PyProof.Rows DL PySem.W
structure BlkScC(X:Cx)(N':List Str)(nt:Nat)(js:List Nat)(scope:Scope):Prop where
 kind:scope.kind=.function
 kinds:∀y∈scope.names,scope.names.lookup y.1=some y.2
 free:∀y∈scope.names,y.2=.free->(X.env.kindOf y.1=some .cell\/X.env.kindOf y.1=some .free)
 len:N'.length=nt+js.length
 fr:∀(k j:Nat),js[k]?=some j->∃x,N'[nt+k]?=some x/\X.N[j]?=some x/\scope.names.lookup x=some .free/\(X.env.kindOf x=some .cell\/X.env.kindOf x=some .free)
structure CfOk(h:Heap)(k:Nat)(names:List (Str×NameKind))(acc cs:List (Str×Addr)):Prop where
 look:∀z c,cs.lookup z=some c->(acc.lookup z=some c/\(z,ACe)∉names)\/((z,ACe)∈names/\k<=c/\h.IsCell c none)
 inj:∀y z c,cs.lookup y=some c->cs.lookup z=some c->y=z
 old:∀z c,acc.lookup z=some c->∃c',cs.lookup z=some c'
 new:∀z,(z,ACe)∈names->∃c,cs.lookup z=some c
section
variable{X:Cx}{pins:List (Addr×Obj)}{σ:St}{H:Hp}{s:Shared}
end
section
variable{X:Cx}
end
def BZ(i:Nat):DTG:=au i
section
variable{X:Cx}{tg iter elt:Expr}{ifs:List Expr}{scope:Scope}{nt i:Nat}{js:List Nat}{di:DTI}{g:DTG}{tt:DTT}{te:DTE}{pos:Pos}{x:Str}
end
end L2
namespace L2
open PySem PySem.Spec PyProof.Rows DL PySem.W
section
variable{prog:Program}{w:World}{A:Around}{E:Value->Shared->Prop}{s:Shared}{d b:Addr}{k:D}{xs:List (D×Addr×Value)}{e:Nat}
end
section
variable{K:AA4}{ρ:List Addr}{H:Hp}{M:Mem}{kvs:List (D×D)}{xs:List (D×Addr×Value)}
end
section
variable{X:Cx}{pins:List (Addr×Obj)}{σ:St}{H:Hp}{s:Shared}{ρ:List Addr}{M:Mem}
end
section
variable{X:Cx}{o:Expr}{pos:Pos}{k:Nat}{name:Str}{id:String}{e:Expr}{es:List Expr}{to:DTE}{t:DTA}{apos cpos:Pos}
end
end L2
namespace L2
open PySem PySem.Spec PyProof.Rows DL PySem.W
section
variable{X:Cx}{o i ke ve:Expr}{td ty tk tv:DTE}{pos:Pos}{k:Nat}
end
section
variable{X:Cx}{k:Nat}{o i:Expr}{td ty tk tv:DTE}{pos:Pos}{ke ve:Expr}
end
end L2
namespace L2
open PySem PySem.Spec PyProof.Rows DL PySem.W
section
variable{K:AA4}{ρ:List Addr}{H:Hp}
end
section
variable{X:Cx}{o:Expr}{pos:Pos}{k:Nat}{name:Str}{id:String}{e:Expr}{es:List Expr}{to:DTE}{t:DTA}{apos cpos:Pos}
end
end L2
namespace L2
open PySem PySem.Spec PyProof.Rows DL PySem.W
section
variable{X:Cx}{k:Nat}
end
end L2
namespace L2
open PySem PySem.Spec PyProof.Rows DL PySem.W
section
variable{X:Cx}{pins:List (Addr×Obj)}{σ:St}{H:Hp}{ρ:List Addr}{M:Mem}{A:Around}{E:Value->Shared->Prop}{s:Shared}
end
section
variable{X:Cx}{k:Nat}
end
end L2
namespace L2
open PySem PySem.Spec PyProof.Rows DL PySem.W
section
variable{X:Cx}{o:Expr}{to:DTE}{apos cpos:Pos}{elts:List Expr}{x1:Nat}{pos:Pos}
end
end L2
namespace L2
open PySem PySem.Spec PyProof.Rows DL PySem.W
section
variable{X:Cx}
end
end L2
namespace L2
open PySem PySem.Spec PyProof.Rows DL PySem.W
section
variable{K:AA4}{ρ:List Addr}{H:Hp}{M:Mem}
end
section
variable{X:Cx}{tg:Expr}{o i:Expr}{td ty:DTE}{pos:Pos}{k:Nat}
end
end L2
namespace L2
open PySem PySem.Spec PyProof.Rows DL PySem.W
def BMain(mg:Str->Option Value)(base:Heap):Prop:=∃bm o,mg "__builtins__" = some (.ref bm)/\bm≠builtinsNs/\bm≠mainGlobals/\base.get? bm=some o/\o.cls=.type "module"/\o.dict=some builtinsNs/\o.data=.plain
def Self(X:Cx)(x:Str):Prop:=∃(f:Addr) (oc:Value) (od:Option Addr) (fd:FuncData) (sl:Array (Option Value)),X.mg x=some (.ref f)/\X.K.lookup f=some ⟨oc,od,.func fd,sl⟩/\X.env.code=fd.code
theorem Self.code(S:Self X x)(I:Inv X pins σ H s)(h:tabIn X.K x=some (c,P)):X.env.code=.ref c:=by
 obtain⟨f,oc,od,fd,sl,h1,h2,h3⟩:=S
 unfold tabIn at h
 split at h
 ·rename_i f' hf
  have e1:=mg_of I.mod.kin I.mod.glob hf
  rw[h1]at e1
  cases e1
  split at h
  ·rename_i e2
   rw[h2]at e2
   cases e2
   split at h
   ·rename_i c' hc
    split at h
    ·split at h
     ·cases h
      rw[h3,hc]
     ·cases h
    ·cases h
   ·cases h
  ·cases h
 ·cases h
section
variable{K:AA4}{ρ:List Addr}{M:Mem}{H:Hp}
theorem SqT.writtenB(hp:H p=some (.tbl ps))(h:SqT K H a xs):SqT K (upd H p o) a xs:=by
 have ne:∀u,H a=some u->(∀q,u≠.tbl q)->a≠p:=λu e q z=>by
  rw[z,hp]at e
  exact q ps (AAR e).symm
 rcases h with h | h
 ·rcases h with h | ⟨ob,h⟩
  ·exact .inl (.inl (by rw[ah (ne _ h λ_ z=>by cases z)];exact h))
  ·exact .inl (.inr ⟨ob,by rw[ah (ne _ h λ_ z=>by cases z)];exact h⟩)
 ·exact .inr h
theorem Sim.writeB(S:Sim K ρ M H)(e1:ρ[n]?=some a)(hM:M[n]?=some (.tb x b))(hH:H a=some (.tbl ps)) :
  Sim K ρ (M.set n (.tb x true)) (upd H a (.tbl ps'))/\Grow K ρ H ρ (upd H a (.tbl ps')):=by
 have g:Grow K ρ H ρ (upd H a (.tbl ps')):=⟨ACX,λ_ _ h=>SqT.writtenB hH h⟩
 have hk:∀m,m≠n->(M.set n (.tb x true))[m]?=M[m]?:=λm hm=>AAq (ABC hm)
 have notK:¬isK M[n]?:=λ⟨_,z⟩=>by rw[hM]at z;cases z
 refine⟨⟨λm m' b hne f1 f2=>?_,by rw[AAw];exact S.len,λm b' mo f1 f2=>?_⟩,g⟩
 ·have q:=S.nd m m' b hne f1 f2
  by_cases h1:m=n
  ·subst h1
   rw[hk m' (ABC hne)]
   exact .inr (q.resolve_left notK)
  ·rw[hk m h1]
   by_cases h2:m'=n
   ·subst h2
    exact .inl (q.resolve_right notK)
   ·rw[hk m' h2]
    exact q
 by_cases hm:m=n
 ·subst hm
  have hb:b'=a:=AAR (f1.symm.trans e1)
  subst hb
  rw[AAj (by rw[←S.len];exact(AA7.mp e1).1)]at f2
  cases f2
  exact⟨(S.obj m b' _ e1 hM).1,ps',aH,λz=>by cases z⟩
 ·rw[hk m hm]at f2
  by_cases hb:b'=a
  ·subst hb
   have q':=(S.nd m n b' hm f1 e1).resolve_right notK
   rw[f2]at q'
   exact(S.obj m b' mo f1 f2).grow g (.inr q')
  ·exact(S.obj m b' mo f1 f2).grow g (.inl (ah hb))
end
theorem By{P:Program}{w:World}{K:AA4}{mg:Str->Option Value}{base:Heap}{A:Around}{outer:List Env}{s:Shared}{H:Hp}{k:Nat}{f c':Addr}{nm qual:Str}{params:Arguments}{body:Expr}{scope:Scope}{pm ctv:Value}{N ps:List Str}{te:DTE}
  {ρ:List Addr}{M:Mem}{d:D}{v:V}{u:Value}{R:DK} (e0:Env0 P w K mg base A outer s H) (ho:s.heap.get? f=some (kla_obj nm qual params body scope [] pm c' ctv)) (hcd:s.heap.CodeRec (.ref c') qual) (S:FnScope N ps scope) (hr:Room (k+1) A)
  (hb:BindsTo s (kla_fn nm qual params body scope [] pm (.ref c') ctv) ⟨[u],[]⟩ (ps.zip [u])) (hl:1=ps.length) (der:∀E,Room k (A.deeper (envOfC qual scope s.heap.objs.size f (.ref c')))->DE (pF CX0 P w K mg base N qual scope f (.ref c') A outer s H E).nox body te)
  (sm:Sim K ρ M H) (r:Rep K ρ H d v) (ru:aL v u) (hq:te (bY N [d]) M (bD M R)) :
  codeAny (model P w) A (.call (.ref f) ⟨[u],[]⟩) (CR CX0 outer P w H s (λv' H'=>VQ K ρ H R v' H') E0) s:=by
 have lim:s.heap.NoLimit:=e0.mod.nolimit.keeps λb o e=>(e0.bs b o e).1
 have hkind:∀y∈ps.zip [u],scope.names.lookup y.1=some .local\/(scope.names.lookup y.1=some .cell/\((cellsFrom (s.heap.objs.size+1) scope.names []).lookup y.1).isSome=true):=λ⟨n,v⟩ hy=>by
  rcases S.par n (AE4 hy).1 with q | q
  ·exact .inl q
  ·exact .inr ⟨q,ADd _ _ _ (.inl q)⟩
 refine kla_callFunE hr.depth ho rfl S.co S.gen rfl hcd (hb _ _ _ _ ?_)
 refine wpAny_newFunctionEnv_cells S.kind hkind λenv he s1 x=>?_
 subst he
 refine⟨lim.keeps x.toInCall.keep,kla_codeExpr ?_⟩
 have I:Inv (pF CX0 P w K mg base N qual scope f (.ref c') A outer s H E0) [] (start N [v]) H s1:=oW S hr.hd e0 hl (.cons ru .nil) x
 have dd:=PE.nox (der E0 (hr.deeper _))
 refine AB7 (dd [] s1 (start N [v]) H (λv' H'=>VQ K ρ H (bD M R) v' H') I ⟨bY N [d],M,ρ,_,sm,SRep.start (.cons r .nil) N,hq,λ_ _ z=>z⟩) (λu' s' hs=>?_) λe s' hs=>hs
 obtain⟨v',H',J,rv,q⟩:=hs
 exact⟨v',H',J.os,J.bare,J.base,J.hok,rv,VQ.endq sm q⟩
section
variable{X:Cx}{pins:List (Addr×Obj)}{σ:St}{H:Hp}{s:Shared}
theorem Inv.writeB(I:Inv X pins σ H s)(hH:H P=some (.tbl ps))(k:∀b u,b≠P->s.heap.get? b=some u->h'.get? b=some u)(hP:h'.get? P=some (tabObj (ps++more))):Inv X pins σ (upd H P (.tbl (ps++more))) { s with heap:=h',toks:=t' }:=by
 have nn:∀b,H b=none->b≠P:=λb n z=>by rw[z,hH]at n;cases n
 have ne:∀b u,H b=some u->(∀q,u≠.tbl q)->b≠P:=λb u e q z=>by
  rw[z,hH]at e
  exact q ps (AAR e).symm
 refine I.un ⟨λb u q n _ _=>k b u (nn b n) q,λb u q n _ _=>⟨u.slots,k b u (nn b n) q⟩,λb u q n _=>by rw[ah (nn b n)];exact n,λb u q _=>?_,λb xs q=>by rw[ah (ne b _ q λ_ z=>by cases z)];exact q,λb u xs q=>by rw[ah (ne b _ q λ_ z=>by cases z)];exact q,λb qs q=>?_⟩ λb u q=>?_
 ·by_cases hb:b=P
  ·subst hb;exact⟨_,hP⟩
  ·exact⟨u,k b u hb q⟩
 ·by_cases hb:b=P
  ·subst hb
   rw[hH]at q
   cases q
   exact⟨more,aH⟩
  ·exact⟨#[],by rw[ah hb,q];simp⟩
 ·by_cases hb:b=P
  ·subst hb
   rw[aH]at q
   cases q
   exact hP
  ·rw[ah hb]at q
   refine(I.hok b u q).stay (λc v hc r=>k c v ?_ r) (λc r=>by rw[ah (ne c _ r λ_ z=>by cases z)];exact r) λc xs r=>by rw[ah (ne c _ r λ_ z=>by cases z)];exact r
   rcases hc with rfl | hc
   ·exact hb
   ·exact ne c _ hc λ_ z=>by cases z
theorem yI(I:Inv X pins σ H s)(hH:H P=some (.tbl #[]))(C:∀h:Heap,X.K.In h->CodeHd h c P)(hcode:X.env.code=.ref c)(B:BMain X.mg X.base)
  (hcl:closureFor scope X.env=pure []) (hdef:defaultsOf params X.env=([],[]))
  (h:∀f c' oc vs t ctv ps' s',Inv X ((f,kla_obj "<lambda>" (X.env.qual ++ "<lambda>") params body scope [] ((X.mg "__name__").getD .none) c' ctv)::(c',oc)::pins) σ (upd H P (.tbl ps')) s'->oc.data=.fields vs->vs[1]?=some (.str (X.env.qual ++ "<lambda>") t)->Q (.ref f) s') :
  wpAny (model X.prog X.w) A (eval (.Lambda params body scope pos) X.env) Q E s:=by
 have hP:s.heap.get? P=some (tabObj #[]):=I.hok P _ hH
 have hg:s.heap.Ns mainGlobals X.mg:=I.mod.glob.keeps I.bk
 have nP:∀b o,X.base.get? b=some o->b≠P:=λb o e z=>by
  have:=(I.bs b o e).2
  rw[z,hH]at this
  cases this
 obtain⟨bm,ob,b1,b2,b3,b4,b5⟩:=B
 have hgP:mainGlobals≠P:=by
  obtain⟨o,es,ep,e,_⟩:=I.mod.glob
  exact nP _ _ e
 refine kla_eval hdef (kla_makeFunction hcl I.ok.glob hg hcode (C _ I.kIn) hP trivial rfl hgP ⟨bm,ob,b1,b2,b3,nP _ _ b4,I.bk _ _ b4,b5⟩ λc' ctv h' tk hx hge hlt hrec htb=>?_)
 obtain⟨c2,oc,vs,t,e2,hoc,hd,hv⟩:=hrec
 cases e2
 have Pn:P≠h'.objs.size:=λz=>by rw[z]at htb;exact absurd (AAH htb) (AAn _)
 have hs:s.heap.objs.size<=h'.objs.size:=AAy hge (ACN hlt)
 have J:Inv X pins σ (upd H P (.tbl (#[] ++ #[rawInt pos.line,rawInt pos.col,.ref c']))) { s with heap:=h'.push (kla_obj "<lambda>" (X.env.qual ++ "<lambda>") params body scope [] ((X.mg "__name__").getD .none) c' ctv),toks:=tk }:=by
  exact I.writeB hH (λb u hb e=>AA3 _ (hx b u hb e)) (AA3 _ htb)
 have fresh:∀b,s.heap.objs.size<=b->b≠P->upd H P (.tbl (#[] ++ #[rawInt pos.line,rawInt pos.col,.ref c'])) b=none/\b≠X.env.locals/\b∉X.fs:=λb hb hn=>by
  refine⟨by rw[ah hn];exact I.hok.fresh hb,λz=>?_,I.nofs hb⟩
  rw[z]at hb
  exact absurd (AAZ I.lt hb) (AAn _)
 have cP:c'≠P:=λz=>by
  rw[z]at hge
  exact absurd (AAZ (AAH hP) hge) (AAn _)
 refine h h'.objs.size c' oc vs t ctv _ _ (J.pins_of λp hp=>?_) hd hv
 rcases AAN.mp hp with rfl | hp
 ·obtain⟨a1,a2,a3⟩:=fresh h'.objs.size hs (ABC Pn)
  exact⟨AAC _ rfl,a1,a2,a3,λv z=>by cases z⟩
 rcases AAN.mp hp with rfl | hp
 ·obtain⟨a1,a2,a3⟩:=fresh c' hge cP
  exact⟨AA3 _ hoc,a1,a2,a3,λv z=>by rw[hd]at z;cases z⟩
 ·exact J.pin p (AAG _ hp)
end
def lamB(sc:Scope)(y:Str):Bool:=decide (sc.kind=.function) && !sc.isCoroutine && !sc.isGenerator&&decide (sc.names.lookup y=some .local)&&sc.names.all λp=>decide (p.2≠.free)
theorem oR(h:lamB sc y=true):FnScope [y] [y] sc:=by
 simp only[lamB,AAV,decide_eq_true_eq,Bool.not_eq_true',AAa]at h
 obtain⟨⟨⟨⟨h1,h2⟩,h3⟩,h4⟩,h5⟩:=h
 refine⟨h1,h2,h3,ABb.mpr ⟨List.not_mem_nil,ADC⟩,rfl,λx hx=>?_,λp hp=>h5 p hp⟩
 obtain rfl:x=y:=by simpa using hx
 exact .inl h4
def jb(x:Str)(N:List Str)(te:DTE)(t:DTA):DTE:=λS M Q=>t S M λds M1=>match ds with
 | [y]=>∃q xs key,M1[q]?=some (.tb x false)/\(y=.tup xs\/∃n,y=.ref n/\am (M1.set q (.tb x true)) n xs)/\(∀d∈xs,te (bY N [d]) (M1.set q (.tb x true)) (bD (M1.set q (.tb x true)) λz M'=>z=key d/\M'=M1.set q (.tb x true)))/\SrtG (M1.set q (.tb x true)) (xs.map key) /\
   ∀ys,ys.Perm xs->ys.Pairwise (λa b=>ltD (M1.set q (.tb x true)) eqN (key b) (key a)=false)->Q (.ref M1.length) (M1.set q (.tb x true)++[.lst ys])
 | _=>False
theorem oV(Sf:Self X x)(B:BMain X.mg X.base)(hr:Room (k+3) X.A)(he:HA X [e] t)(hm:X.mg "sorted" = none)
  (der:∀(s:Shared) (H:Hp) (f:Addr) (cdv:Value) (A:Around) (outer:List Env) (E:XK),Room k (A.deeper (envOfC (X.env.qual ++ "<lambda>") scope s.heap.objs.size f cdv))->HE (pF CX0 X.prog X.w X.K X.mg X.base [y] (X.env.qual ++ "<lambda>") scope f cdv A outer s H E).nox body te)
  (Sc:FnScope [y] [y] scope) (hcl:closureFor scope X.env=pure []) (hdef:defaultsOf params X.env=([],[]))
  (hb:∀(pm ctv:Value) (c':Addr) (u:Value),bindArgs (kla_fn "<lambda>" (X.env.qual ++ "<lambda>") params body scope [] pm (.ref c') ctv) ⟨[u],[]⟩=pure [(y,u)])
  (hg1:X.env.kindOf "sorted" = some .globalImplicit:=by kernel_rfl) (hs:starEach [e] X.env=[(false,eval e X.env)]:=by kernel_rfl) :
  HE X (.Call (.Name "sorted" p) [e] [⟨some "key",.Lambda params body scope lpos,kpos⟩] pos) (jb x [y] te t):=by
 refine⟨λpins s σ H R I h=>?_⟩
 obtain⟨S,M,ρ,Q,sm,sr,q,kk⟩:=h
 refine AC2 (gQ I hg1 hm pP ?_ (by decide) (by decide))
 unfold jb at q
 refine callWith_kw (thn (he.ok pos pins s σ H (λvs H1=>AQ X.K ρ H _ vs H1) I ⟨S,M,ρ,_,sm,sr,q,λ_ _ z=>z⟩) λus s1 ⟨vs,H1,I1,r1,q1⟩=>?_) (by rw[hs];rfl) (by rw[hs];rfl)
 obtain⟨ds,M1,ρ1,sm1,g1,rs,q1⟩:=q1
 split at q1
 ·rename_i y0
  obtain⟨qn,xs,key,hq,hx,hP,so,fin⟩:=q1
  obtain⟨v1,_,rfl,rx,rs⟩:=Reps.inv_cons rs
  obtain rfl:=Reps.inv_nil rs
  obtain⟨u,rfl,ru⟩:=aw.one r1
  obtain⟨Pa,ep,mo⟩:=sm1.get hq
  obtain⟨⟨c,tc,C⟩,ps,hH,h0⟩:=mo
  obtain rfl:=h0 rfl
  refine kws_cons (yI I1 hH C (Sf.code I1 tc) B hcl hdef λf c' oc vs t' ctv ps' s2 I2 hd hv=>kws_nil ?_)
  obtain⟨sm2,g2⟩:=sm1.writeB (ps':=ps') ep hq hH
  show wpAny _ _ (call (.builtin "sorted") [u] [(AA1 "key",.ref f)]) _ _ _
  have l64:=so.len
  rw[AA6]at l64
  have hr2:Room (k+1+2) X.A:=hr
  generalize upd H1 Pa (.tbl ps')=H2 at sm2 g2 I2
  have ml:(M1.set qn (.tb x true)).length=M1.length:=AAw ..
  generalize M1.set qn (.tb x true)=M2 at sm2 hP so fin hx ml
  have G:KeyG X ((f,kla_obj "<lambda>" (X.env.qual ++ "<lambda>") params body scope [] ((X.mg "__name__").getD .none) c' ctv)::(c',oc)::pins) σ ρ1 M2 f key xs:=λs H d v u hm I sm r ru=>by
   have p1:=(I.pin _ (AAG _ AAI)).1
   have p2:=(I.pin (c',oc) (AAG _ (AAA _ AAI))).1
   exact By (k:=k) I.env0.in1.in1 p1 ⟨c',oc,vs,t',rfl,p2,hd,hv⟩ Sc (Room.in1 (k:=k+2) hr2).in1 (.of_eq (hb _ _ _ _)) rfl (λE hr=>(der s H f _ _ _ E hr).ok) sm r ru (hP d hm)
  have back:∀{v:Value}{s':Shared},EP X ((f,kla_obj "<lambda>" (X.env.qual ++ "<lambda>") params body scope [] ((X.mg "__name__").getD .none) c' ctv)::(c',oc)::pins) σ R v s'->EP X pins σ R v s':=λ{v s'} ⟨v',H',J,rv,q⟩=>⟨v',H',J.pins_of λp hp=>J.pin p (AAG _ (AAA _ (AAA _ hp))),rv,q⟩
  have fin':∀ys,ys.Perm xs->ys.Pairwise (λa b=>ltD M2 eqN (key b) (key a)=false)->Q (.ref M2.length) (M2++[.lst ys]):=λys h1 h2=>by rw[ml];exact fin ys h1 h2
  rcases hx with rfl | ⟨n,rfl,hL⟩
  ·obtain⟨a,vs,rfl,hq',r⟩:=Rep.inv_tup (rx.grow g2)
   cases ru
   obtain⟨its,rr,⟨o,ho,hc,n,hd'⟩,_⟩:=I2.tuple hq'
   have h1:=r.length
   have h2:=rr.length
   exact AB7 (se G hr2 I2 sm2 r rr ho (.inr hc) hd' (by lia) so λv H' z=>kk v H' (VQ.trans g1 (VQ.trans g2 (z Q fin')))) (λ_ _ z=>back z) λ_ _ z=>z
  ·obtain⟨a,rfl,en⟩:=Rep.inv_ref rx
   cases ru
   obtain⟨vs,hq',r⟩:=am.seq sm2 hL en
   obtain⟨its,rr,⟨o,n,ho,hc,_,hd'⟩,_⟩:=I2.list hq'
   have h1:=r.length
   have h2:=rr.length
   exact AB7 (se G hr2 I2 sm2 r rr ho (.inl hc) hd' (by lia) so λv H' z=>kk v H' (VQ.trans g1 (VQ.trans g2 (z Q fin')))) (λ_ _ z=>back z) λ_ _ z=>z
 ·exact q1.elim
end L2
namespace L2
open PySem PySem.Spec PyProof.Rows DL PySem.W
section
variable{P:Program}{w:World}{K:AA4}{mg:Str->Option Value}{base:Heap}{x:Str}{st:Stmt}{N ps:List Str}{k:Nat}{Pr:DSp}{B:List Str}{C:List (Str×Int)}{t:DTS}
abbrev DerL(P:Program)(w:World)(K:AA4)(mg:Str->Option Value)(base:Heap)(k:Nat)(x:Str)(N:List Str)(st:Stmt)(t:DTS):Prop :=
 ∀(f:Addr) (cdv:Value) (A:Around) (outer:List Env) (s:Shared) (H:Hp) (E:XK),Room k (A.deeper (PyProof.Rows.envOfC x (ao st) s.heap.objs.size f cdv))->Self (pF CX0 P w K mg base N x (ao st) f cdv A outer s H E).nox x->HB (pF CX0 P w K mg base N x (ao st) f cdv A outer s H E).nox (bw st) t
theorem Cal.byL(T:TopB mg B C)(F:cM K mg x st ps)(Sc:FnScope N ps (ao st))(len:de Pr ps)(der:TopB mg B C->N.Nodup->DerL P w K mg base k x N st t)(wp:∀ds M R,Pr ds M R->t (EE M R) (bY N ds) M):Cal P w K mg base (k+1) x ps Pr:=by
 obtain⟨f,fd,F1,hm,hb⟩:=F
 refine⟨f,fd,?_,hm,F1.kp,hb⟩
 obtain⟨oc,od,kV,doc,pm,an,cdv,ct,osl,rfl,lk,hcd⟩:=F1.ex
 refine EI lk hcd Sc (λvs H Q E ⟨ds,M,ρ,R,s,r,q,_⟩=>by rw[←r.length];exact len ds M R q) λA outer s H vs Q E hr h=>?_
 obtain⟨ds,M,ρ,R,sm,r,q,kk⟩:=h
 have ht:=der T Sc.nd f cdv A outer s H E hr ⟨f,oc,od,_,osl,hm,lk,rfl⟩
 refine⟨lowS K t,PSs.nox ht.ok,bY N ds,M,ρ,_,sm,SRep.start r N,wp ds M R q,⟨λσ' H' ⟨S',M',ρ',s',g',sr',q'⟩=>?_,λv H' z=>kk v H' (VQ.endq sm z),λσ' H' ⟨S',M',ρ',s',g',sr',q'⟩=>q'.elim,λσ' H' ⟨S',M',ρ',s',g',sr',q'⟩=>q'.elim⟩⟩
 exact kk .non H' (VQ.endq sm ⟨.non,M',ρ',s',g',.non,q'⟩)
end
def uc(z:Str):DSp:=λds M R=>∃(ns:List Int) (mo:MO),ns.length<=63/\(mo.items=ns.map D.int/\mo.isL=true)/\ds=[.ref 0]/\M=[mo,.tb z false]/\∀M',R (.bl true) M'
theorem qG{K:AA4}{H:Hp}{a Pt c:Addr}{z:Str}{ns:List Int}(hl:ns.length<=63)(hS:SqL K H a (ns.map V.int))(hP:H Pt=some (.tbl #[]))(tc:tabIn K z=some (c,Pt))(C:∀h:Heap,K.In h->CodeHd h c Pt)(ne:a≠Pt):spL K (uc z) [.ref a] H (λv _=>v=.bl true) λ_ _ _=>False:=by
 have one:∀{mo:MO},mo.items=ns.map D.int/\mo.isL=true->uz K [a,Pt] H a mo->spL K (uc z) [.ref a] H (λv _=>v=.bl true) λ_ _ _=>False:=λ{mo} e ok=>by
  refine⟨[.ref 0],[mo,.tb z false],[a,Pt],λd _=>d=.bl true,⟨λn m b hne e1 e2=>?_,rfl,λn b mo' e1 e2=>?_⟩,.cons (.ref rfl) .nil,⟨ns,mo,hl,e,rfl,rfl,λ_=>rfl⟩,λv H' ⟨d,M',ρ',_,_,r,q⟩=>?_⟩
  ·match n,m,e1,e2 with
   | 0,0,_,_=>exact absurd rfl hne
   | 1,1,_,_=>exact absurd rfl hne
   | 0,1,e1,e2=>simp at e1 e2;exact absurd (e1.trans e2.symm) ne
   | 1,0,e1,e2=>simp at e1 e2;exact absurd (e2.trans e1.symm) ne
   | n+2,_,e1,_=>simp at e1
   | _,m+2,_,e2=>simp at e2
  ·match n,e1,e2 with
   | 0,e1,e2 =>
    simp at e1 e2
    subst e1 e2
    exact ok
   | 1,e1,e2 =>
    simp at e1 e2
    subst e1 e2
    exact⟨⟨c,tc,C⟩,#[],hP,λ_=>rfl⟩
   | n+2,e1,_=>simp at e1
  ·have q':d=.bl true:=q
   subst q'
   obtain rfl:=Rep.inv_bl r
   rfl
 rcases hS with(h | ⟨o,h⟩) | h
 ·exact one (mo:=.lst _) ⟨rfl,rfl⟩ ⟨_,h,gG ns⟩
 ·exact one (mo:=.fz _) ⟨rfl,rfl⟩ ⟨o,_,h,gG ns⟩
 ·exact one (mo:=.kl _) ⟨rfl,rfl⟩ ⟨_,h,gG ns⟩
theorem wx{P:Program}{w:World}{K:AA4}{mg mb:Str->Option Value}{k:Nat}{fa a Pt:Addr}{fd:FuncData}{x:Str}{sp:Sp}{s₁:Shared}{vs:List Value}{ns:List Int}
  (KX:K.In s₁.heap) (hns:s₁.heap.Ns mainGlobals mg) (hb:s₁.heap.Ns builtinsNs mb) (hbb:∀x:Str,x≠"__name__"->mb x=bootBuiltins x) (hlim:s₁.heap.NoLimit) (hg:s₁.gens = #[])
  (ha:s₁.heap.get? a=some { cls:=.type "list",data:=.seq vs.toArray }) (hi:IntsAre vs ns) (hl:ns.length<=sizeLine) (hr:Room k callerA) (nt:noTabs K=true) (hP:s₁.heap.get? Pt=some (tabObj #[])) (isT:isCodeTable s₁.heap Pt) (BM:BMain mg s₁.heap)
  (F:∀base:Heap,K.In base->base.Ns mainGlobals mg->BMain mg base->FnOk P w K mg base CX0 k fa fd [x] sp) (hbind:∀(s:Shared) (u:Value),BindsTo s fd ⟨[u],[]⟩ [(x,u)])
  (hsp:∀H:Hp,SqL K H a (ns.map V.int)->H Pt=some (.tbl #[])->sp [.ref a] H (λv _=>v=.bl true) λ_ _ _=>False) :
  codeAny (model P w) callerA (.call (.ref fa) ⟨[.ref a],[]⟩) (λr s'=>r=.ok (.ret (.bool true))/\OldK s₁.heap s'.heap/\s'.os=s₁.os/\AllBare s'.gens) s₁:=by
 have rv:=nr hi
 have lenV:=hi.length
 have aP:a≠Pt:=λe=>by rw[e,hP]at ha;cases ha
 have core:∀H:Hp,(∀b,b≠Pt->H b=none\/∃o xs,H b=some (.frz o (.lst xs)))->SqL K H a (ns.map V.int)->H Pt=some (.tbl #[])->HOk P w H s₁.heap->(∀b,H b≠none->b=a\/b=Pt)->(H a≠none->K.lookup a=none) ->
   codeAny (model P w) callerA (.call (.ref fa) ⟨[.ref a],[]⟩) (λr s'=>r=.ok (.ret (.bool true))/\OldK s₁.heap s'.heap/\s'.os=s₁.os/\AllBare s'.gens) s₁:=by
  intro H hO hS hT hok hA hK
  have base_of:∀{b:Addr}{o:Obj},s₁.heap.get? b=some o->H b=none->(xI s₁.heap H).get? b=some o:=λe n=>yU e n
  have noA:∀{b:Addr}{o:Obj},s₁.heap.get? b=some o->o.cls≠.type "list"\/(∀v n,o.data≠.seq v n)->o≠tabObj #[]->H b=none:=λ{b o} e d1 d2=>by
   cases q:H b with
   | none=>rfl
   | some u =>
    rcases hA b (by rw[q];simp)with e' | e'
    ·subst e'
     rw[ha]at e;cases e
     rcases d1 with d1 | d1
     ·exact absurd rfl d1
     ·exact absurd rfl (d1 _ _)
    ·subst e'
     rw[hP]at e;cases e
     exact absurd rfl d2
  have nsK:∀{b:Addr}{m:Str->Option Value},s₁.heap.Ns b m->(xI s₁.heap H).Ns b m:=λ{b m} ⟨o,es,ep,e,d,r⟩=>⟨o,es,ep,base_of e (noA e (.inr λv n z=>by rw[d]at z;cases z) λz=>by rw[z]at d;cases d),d,r⟩
  have hKb:K.In (xI s₁.heap H):=λb o e=>base_of (KX b o e) (by
   cases q:H b with
   | none=>rfl
   | some u =>
    rcases hA b (by rw[q];simp)with e' | e'
    ·subst e'
     rw[hK (by rw[q];simp)]at e;cases e
    ·subst e'
     have h2:=AAa.mp nt (b,o) (mem_of_lookupK e)
     have h3:=KX b o e
     rw[hP]at h3
     cases h3
     exact absurd (show false=true from h2) ABF)
  have hM:Mod K mg (xI s₁.heap H):=⟨hKb,nsK hns,⟨mb,nsK hb,hbb⟩,let ⟨mc,h1,h2⟩:=hlim;⟨mc,nsK h1,h2⟩⟩
  have e0:Env0 P w K mg (xI s₁.heap H) callerA [] s₁ H:=⟨rfl,hM,λb o e=>Bl e,Nat.le_of_eq (wW _ _),trivial,λb hb=>absurd (show b∈([]:List Addr)from hb) (by simp),hok,.of_eq hg⟩
  have bm:BMain mg (xI s₁.heap H):=by
   obtain⟨bm,ob,b1,b2,b3,b4,b5,b6⟩:=BM
   exact⟨bm,ob,b1,b2,b3,base_of b4 (noA b4 (.inl λz=>by rw[z]at b5;injection b5 with h;exact absurd h (by decide)) λz=>by rw[z]at b5;cases b5),b5,b6⟩
  refine ADH ((F _ hKb (nsK hns) bm).run callerA [] s₁ H ⟨[.ref a],[]⟩ [.ref a] [.ref a] _ _ hr e0 (hbind s₁ (.ref a)) (.cons rfl .nil) (hsp H hS hT)) λr s' h=>?_
  cases r with
  | error e=>exact h.elim
  | ok fl =>
   cases fl with
   | next=>exact ACk h
   | brk=>exact ACk h
   | cont=>exact ACk h
   | ret u =>
    obtain⟨v,H',os,bare,un,hok',r',q⟩:=h
    have q':v=.bl true:=q
    subst q'
    obtain rfl:u=Value.bool true:=r'
    obtain⟨more,hT'⟩:=un.tbls Pt _ hT
    have hP':s'.heap.get? Pt=some (tabObj (#[]++more)):=hok' Pt _ hT'
    have old:∀b o,b≠Pt->s₁.heap.get? b=some o->s'.heap.get? b=some o:=λb o hb e=>by
     cases q:H b with
     | none=>exact un.keep b o e q (by intro z;exact absurd (show b∈([]:List Addr)from z) (by simp)) (by simp)
     | some u =>
      rcases hO b hb with z | ⟨ob,xs,z⟩
      ·rw[q]at z;cases z
      ·have z2:=un.frzs b ob _ z
       obtain⟨e1,_⟩:=hok b _ z
       obtain⟨e2,_⟩:=hok' b _ z2
       rw[e]at e1;cases e1
       exact e2
    refine⟨rfl,⟨λb o e=>?_,λb o e=>?_⟩,os,bare⟩
    ·by_cases hb:b=Pt
     ·subst hb
      rw[hP]at e;cases e
      exact .inr (.inl ⟨isT,rfl,#[],more,rfl,hP'⟩)
     ·exact .inl (old b o hb e)
    ·by_cases hb:b=Pt
     ·subst hb;exact⟨_,hP'⟩
     ·exact⟨o,old b o hb e⟩
 cases hk:K.lookup a with
 | some o =>
  have e:=KX a o hk
  rw[ha]at e
  cases e
  refine core (upd (λ_=>none) Pt (.tbl #[])) (λb hb=>.inl (ah hb)) (.inr ⟨_,vs.toArray,_,hk,rfl,rfl,rfl,by rw[AAD,lenV];exact hl,by simpa using rv⟩) aH (λb u z=>?_) (λb z=>?_) λz=>absurd (ah aP) z
  ·by_cases hb:b=Pt
   ·subst hb
    rw[aH]at z
    cases z
    exact hP
   ·rw[ah hb]at z
    cases z
  ·by_cases hb:b=Pt
   ·exact .inr hb
   ·exact absurd (ah hb) z
 | none =>
  refine core (upd (λb=>if b=a then some (.frz { cls:=.type "list",data:=.seq vs.toArray } (.lst (ns.map V.int)))else none) Pt (.tbl #[])) (λb hp=>?_) (.inl (.inr ⟨{ cls:=.type "list",data:=.seq vs.toArray },(ah aP).trans (if_pos rfl)⟩)) aH (λb u z=>?_) (λb z=>?_) λ_=>hk
  ·rw[ah hp]
   by_cases hb:b=a
   ·exact .inr ⟨_,_,if_pos hb⟩
   ·exact .inl (if_neg hb)
  ·by_cases hp:b=Pt
   ·subst hp
    rw[aH]at z
    cases z
    exact hP
   rw[ah hp]at z
   by_cases hb:b=a
   ·have z':=(if_pos hb).symm.trans z
    cases z'
    subst hb
    exact⟨ha,by rw[AA6];exact hl,vs,_,rv,ha⟩
   ·have z':=(if_neg hb).symm.trans z
    cases z'
  ·by_cases hp:b=Pt
   ·exact .inr hp
   rw[ah hp]at z
   by_cases hb:b=a
   ·exact .inl hb
   ·exact absurd (if_neg hb) z
theorem xS{K:AA4}{x:Str}{c P:Addr}(h:tabIn K x=some (c,P)):∃o,K.lookup c=some o:=by
 unfold tabIn at h
 split at h
 ·split at h
  ·split at h
   ·rename_i c' _
    split at h
    ·rename_i e
     split at h
     ·cases h;exact⟨_,e⟩
     ·cases h
    ·cases h
   ·cases h
  ·cases h
 ·cases h
theorem law_walkL{l:PySem.W.OpenLaw}{q:Program}{loose:List Str}{XP:(Str->Option Value)->Heap->Prop}{YP:World->Heap->Prop}{d dz:DefRec}{K:Params->AA4}{k:Nat}{st:Stmt}{x z:Str}{cz Pz:Params->Addr}(hn:l.most=some 63)(hdf:d.params.defaults=[])(hd:d.name = "law")(hr:Room k callerA)
  (hY:∀(w:World) (h:Heap),YP w h->(K w.params).In h) (nt:∀p,noTabs (K p)=true) (hz:(recsOf q).find? (λe=>e.name==z)=some dz) (tz:∀p,tabIn (K p) z=some (cz p,Pz p))
  (F:∀(w:World) (mg:Str->Option Value) (h:Heap),(K w.params).In h->h.Ns mainGlobals mg->cM (K w.params) mg "law" st [x] /\
   ∀(base:Heap) (f:Addr) (fd:FuncData),BMain mg base->Fun (K w.params) "law" "law" st f fd->FnOk l.prog w (K w.params) mg base CX0 k f fd [x] (spL (K w.params) (uc z)))
  (hb:∀(kV doc pm:Value) (an:Option Addr) (cdv ct:Value) (u:Value),bindArgs (ACb "law" "law" (fX st) (bw st) (ao st) .none kV doc pm an cdv ct) ⟨[u],[]⟩=pure [(x,u)]) :
  PySem.W.WalkO q loose XP YP l.row.toRowW d [] (λf vs=>PySem.call f vs):=by
 refine Att.attach_call hn hdf λw s₀ s₁ mg mb fa o pm cd doc a vs ns G Y ho hdd hcd hmg hobj hints hlen hg=>?_
 have KX:=hY w _ Y
 rw[hd]at hmg
 obtain⟨⟨f,fd,F1,hm,_⟩,C⟩:=F w mg _ KX G.T.g
 have e:=hmg.symm.trans hm
 cases e
 obtain⟨CH,hP⟩:=tab_of G.T KX hz (tz w.params)
 obtain⟨oc',hlc⟩:=xS (tz w.params)
 have CK:∀h:Heap,(K w.params).In h->CodeHd h (cz w.params) (Pz w.params):=λh X=>by
  obtain⟨o2,vs2,file,tf,flags,tg,inF,text,tt,e1,r⟩:=CH
  have e2:=KX _ _ hlc
  rw[e1]at e2
  cases e2
  exact⟨_,vs2,file,tf,flags,tg,inF,text,tt,X _ _ hlc,r⟩
 have bmn:BMain mg s₁.heap:=by
  obtain⟨bm,ob,b1,b2,b3,b4,b5,b6⟩:=G.T.bmain
  refine⟨bm,ob,b1,b2,λz=>?_,b3,b4,b5,b6⟩
  obtain⟨og,es,ep,eg,dg,_⟩:=G.T.g
  rw[z,eg]at b3
  cases b3
  rw[dg]at b6
  cases b6
 have aP:a≠Pz w.params:=λe=>by rw[e,hP]at hobj;cases hobj
 obtain⟨oc,od,kV,doc',pm',an,cdv,ct,osl,rfl,lk,hcd'⟩:=id F1.ex
 exact wx KX G.T.g G.T.b G.T.builtins G.T.nolimit hg hobj hints (AAy hlen (by decide)) hr (nt _) hP (CH.tab hP).isCodeTable bmn (λbase _ _ B=>C base _ _ B F1) (λs v=>.of_eq (hb kV doc' pm' an cdv ct v)) λH hS hT=>qG hlen hS hT (tz w.params) CK aP
end L2
namespace L2
open PySem PySem.Spec PyProof.Rows DL
def GtAt(A:Around)(s:Shared)(x y:Value)(k:Bool):Prop:=∀(prog:Program) (w:World) (E:Value->Shared->Prop) (Q:Value->Shared->Prop),Q (.bool k) s->wpAny (model prog w) A (richCompare .Gt x y) Q E s
inductive GexAt(A:Around)(s:Shared):List Value->List Value->Bool->Prop
 | nn:GexAt A s [] [] false
 | nc {y:Value}{ys:List Value}:GexAt A s [] (y::ys) false
 | cn {x:Value}{xs:List Value}:GexAt A s (x::xs) [] true
 | eq {x y:Value}{xs ys:List Value}{k:Bool} (h:ACC A s x y true) (t:GexAt A s xs ys k):GexAt A s (x::xs) (y::ys) k
 | ne {x y:Value}{xs ys:List Value}{k:Bool} (h:ACC A s x y false) (t:GtAt A s x y k):GexAt A s (x::xs) (y::ys) k
section
open PySem.SeqAt
open PySem.AutoSeq1 (wpAny_loadPart')
open PySem.MeetsSeq PySem.MeetsSeq2 PySem.MeetsSeq3
end
section
variable{X:Cx}{pins:List (Addr×Obj)}{σ:St}{H:Hp}{s:Shared}{ρ:List Addr}{M:Mem}
end
section
variable{prog:Program}{w:World}{A:Around}{R:Result->Shared->Prop}{s:Shared}{items:Array Value}{bt:Nat->Nat->Bool}{l I S:Addr}
end
section
variable{X:Cx}
end
end L2
namespace L2
open PySem PySem.Spec PyProof.Rows DL
section
variable{prog:Program}{w:World}{A:Around}{E:Value->Shared->Prop}{s:Shared}{d:Addr}{o:Obj}{es:Array DictEntry}{ep:Nat}{xs:List (D×Value×Value)}{k:D}{key:Value}{hs:D->Int}{Q:Option Nat->Shared->Prop}
theorem mT(he:es.toList=xs.map (xj hs))(j:Nat):es[j]?=(xs[j]?).map (xj hs):=by
 rw[←AAQ,he,AAT]
def xF(xs:List (D×Value×Value))(k:D)(i:Nat)(hit:Option Nat):Prop:=(hit=none/\∀j p,j<i->xs[j]?≠some (k,p))\/∃j p,hit=some j/\j<i/\xs[j]?=some (k,p)
def pM(es:Array DictEntry)(h:Int)(i:Nat):Bool:=(es[i]?.map (·.hash))==some h
theorem gh(he:es.toList=xs.map (xj hs))(hskip:∀j,i<=j->j<x->pM es (hs k) j=false)(h:xF xs k i hit)(hix:i<=x):xF xs k x hit:=by
 rcases h with⟨h0,hno⟩|⟨j,p,h1,hji,hj⟩
 ·refine .inl ⟨h0,λj p hjx hj=>?_⟩
  rcases ABS j i with h | h
  ·exact hno j p h hj
  ·have:=hskip j h hjx
   unfold pM at this
   rw[mT he j,hj]at this
   simp[xj]at this
 ·exact .inr ⟨j,p,h1,by lia,hj⟩
theorem bx(h:xF xs k x hit)(hx:xs[x]?=some (k',p'))(hne:¬k'=k):xF xs k (x+1) hit:=by
 rcases h with⟨h0,hno⟩|⟨j,p,h1,hjx,hj⟩
 ·refine .inl ⟨h0,λj p hjx hj=>?_⟩
  rcases ABS j x with h | h
  ·exact hno j p h hj
  ·obtain rfl:j=x:=by lia
   rw[hx]at hj
   exact hne (by injection hj with hj;injection hj)
 ·exact .inr ⟨j,p,h1,by lia,hj⟩
theorem fg(hn:(xs.map (·.1)).Nodup){i j:Nat}{p q:Value×Value}(hi:xs[i]?=some (k,p))(hj:xs[j]?=some (k,q)):i=j:=by
 have hi':(xs.map (·.1))[i]?=some k:=by rw[AAT,hi];rfl
 have hj':(xs.map (·.1))[j]?=some k:=by rw[AAT,hj];rfl
 exact(List.getElem?_inj (AA7.mp hi').1 hn).mp (hi'.trans hj'.symm)
theorem lZ(he:es.toList=xs.map (xj hs))(hr:(ADp i (es.size-i)).filter (pM es (hs k))=[])(h:xF xs k i hit):xF xs k xs.length hit:=by
 have hsz:es.size=xs.length:=by rw[←AAL,he,AA6]
 rcases ABS i xs.length with hi | hi
 ·refine gh he (λj h1 h2=>?_) h (ACN hi)
  have:=List.filter_eq_nil_iff.mp hr j (List.mem_range'_1.mpr ⟨h1,by lia⟩)
  simpa using this
 ·rcases h with⟨h0,hno⟩|⟨j,p,h1,hji,hj⟩
  ·exact .inl ⟨h0,λj p hj=>hno j p (by lia)⟩
  ·exact .inr ⟨j,p,h1,(AA7.mp hj).1,hj⟩
theorem kK{stored:List Value}{Q:Bool->Shared->Prop}(qk:∀(Q:Bool->Shared->Prop) (E:Value->Shared->Prop),Q true s->wpAny (model prog w) A (eqIsQuiet 8 key) Q E s)
  (qs:∀v∈stored,∀(Q:Bool->Shared->Prop) (E:Value->Shared->Prop),Q true s->wpAny (model prog w) A (eqIsQuiet 8 v) Q E s) (h:Q false s):wpAny (model prog w) A (tableMayTell key stored) Q E s:=by
 unfold tableMayTell
 split
 ·exact AA2 h
 ·refine AA0 (qk _ _ ?_)
  simp only[ABg,AAE,if_false]
  refine AA0 ?_
  refine ABJ _ (λaI r s'=>s'=s/\r=(none,())/\∀v∈aI,v∈stored) _ ?_ ?_ _ _ ⟨rfl,rfl,λ_ hv=>hv⟩
  ·rintro x aI r s' ⟨rfl,rfl,hr⟩
   refine AA0 (qs x (hr x AAI) _ _ ?_)
   simp only[ABg,AAE,if_false]
   exact AA2 ⟨rfl,rfl,λv hv=>hr v (AAA _ hv)⟩
  ·rintro r s' ⟨rfl,rfl,_⟩
   exact AA2 h
theorem yY(ho:s.heap.get? d=some o)(hd:o.data=.dict es ep)(he:es.toList=xs.map (xj hs))(hn:(xs.map (·.1)).Nodup)(kk:key=.none\/∃a,key=.ref a)
  (qk:∀(Q:Bool->Shared->Prop) (E:Value->Shared->Prop),Q true s->wpAny (model prog w) A (eqIsQuiet 8 key) Q E s)
  (qx:∀x∈xs,∀(Q:Bool->Shared->Prop) (E:Value->Shared->Prop),Q true s->wpAny (model prog w) A (eqIsQuiet 8 x.2.1) Q E s)
  (inj:∀x∈xs,x.2.1=key->x.1=k)
  (eq:∀x∈xs,∀(Q:Bool->Shared->Prop) (E:Value->Shared->Prop),Q (decide (x.1=k)) s->wpAny (model prog w) A (eqBool x.2.1 key) Q E s)
  (hnone:(∀(j:Nat) (p:Value×Value),xs[j]?≠some (k,p))->Q none s) (hsome:∀(j:Nat) (p:Value×Value),xs[j]?=some (k,p)->Q (some j) s) :
  wpAny (model prog w) A (dictFind d key (hs k)) Q E s:=by
 have hsz:es.size=xs.length:=by rw[←AAL,he,AA6]
 have hmem:∀e∈es,∃x∈xs,e=xj hs x:=by
  intro e hin
  have:e∈xs.map (xj hs):=he ▸ Array.mem_toList_iff.mpr hin
  obtain⟨x,hx,rfl⟩:=AAO.mp this
  exact⟨x,hx,rfl⟩
 have hany:¬(es.any λe=>e.key==key&&e.hash != hs k)=true:=by
  rw[←Array.any_toList,List.any_eq_true]
  rintro⟨e,hin,hc⟩
  obtain⟨x,hx,rfl⟩:=hmem e (Array.mem_toList_iff.mp hin)
  simp only[xj,AAV,beq_iff_eq,bne_iff_ne,ne_eq]at hc
  exact hc.2 (by rw[inj x hx hc.1])
 have hst:∀v∈(placesWithHash es.size (λi=>es[i]?.map (·.hash)) (hs k)).filterMap (λi=>es[i]?.map (·.key)),∃x∈xs,v=x.2.1:=by
  intro v hv
  obtain⟨i,_,hi⟩:=ADN.mp hv
  cases hei:es[i]? with
  | none=>rw[hei]at hi;cases hi
  | some e =>
   rw[hei]at hi
   obtain rfl:e.key=v:=by simpa using hi
   obtain⟨x,hx,rfl⟩:=hmem e (Array.mem_of_getElem? hei)
   exact⟨x,hx,rfl⟩
 have fin:∀hit,xF xs k xs.length hit->Q hit s:=by
  rintro hit (⟨rfl,hno⟩|⟨j,p,rfl,_,hj⟩)
  ·exact hnone λj p hj=>hno j p (AA7.mp hj).1 hj
  ·exact hsome j p hj
 have start:placesWithHash es.size (λi=>es[i]?.map (·.hash)) (hs k)=(ADp 0 (es.size-0)).filter (pM es (hs k)):=by
  rw[placesWithHash,List.range_eq_range',Nat.sub_zero];rfl
 have up0:xF xs k 0 none:=.inl ⟨rfl,λ_ _ h=>absurd h (ABd _)⟩
 have turn:∀{x i:Nat}{aI:List Nat},x::aI=(ADp i (es.size-i)).filter (pM es (hs k))->i<=es.size->∃k' u v,xs[x]?=some (k',u,v)/\es[x]?=some ⟨hs k',u,v⟩/\i<=x/\x+1<=es.size/\aI=(ADp (x+1) (es.size-(x+1))).filter (pM es (hs k))/\∀j,i<=j->j<x->pM es (hs k) j=false:=by
  intro x i aI hr hi
  obtain⟨hix,hxn,hpx,hskip,hrest⟩:=filter_range'_cons _ _ _ _ _ hr.symm
  have hlt:x<es.size:=by lia
  obtain⟨⟨k',u,v⟩,hkv⟩:∃y,xs[x]?=some y:=⟨xs[x]'(by rw[←hsz];exact hlt),AA5 _⟩
  exact⟨k',u,v,hkv,by rw[mT he x,hkv];rfl,hix,hlt,by rw[hrest];congr 2;lia,hskip⟩
 unfold dictFind
 try with_reducible refine AAh ?_
 refine AA0 (ABZ ho hd ?_)
 have qst:∀v∈(placesWithHash es.size (λi=>es[i]?.map (·.hash)) (hs k)).filterMap (λi=>es[i]?.map (·.key)),∀(Q:Bool->Shared->Prop) (E:Value->Shared->Prop),Q true s->wpAny (model prog w) A (eqIsQuiet 8 v) Q E s:=λv hv=>by
  obtain⟨x,hx,rfl⟩:=hst v hv
  exact qx x hx
 rcases kk with rfl | ⟨a,rfl⟩
 ·dsimp only
  by_cases hall:((ABi::(placesWithHash es.size (λi=>es[i]?.map (·.hash)) (hs k)).filterMap (λi=>es[i]?.map (·.key))).all carriedByValue)=true
  ·rw[if_pos hall]
   unfold dictWalkPlain
   refine AA0 ?_
   rw[start]
   refine ABJ _ (λaI b s'=>s'=s/\b=(none,())/\∃i,aI=(ADp i (es.size-i)).filter (pM es (hs k))/\i<=es.size/\xF xs k i none) _ ?_ ?_ _ _ ⟨rfl,rfl,0,rfl,AAS _,up0⟩
   ·rintro x aI b s' ⟨rfl,rfl,i,hr,hi,hH⟩
    obtain⟨k',u,v,hkv,hex,hix,hlt,hrest,hskip⟩:=turn hr hi
    have hH:=gh he hskip hH hix
    rw[hex]
    dsimp only
    by_cases hh:(hs k'==hs k)=true
    ·rw[if_pos hh]
     refine AA0 (ABQ ho hd (AA0 (eq _ (AAc hkv) _ _ (AA0 (ABQ ho hd ?_)))))
     show wpAny _ _ (if (ep != ep)=true then _ else _) _ E _
     rw[if_neg (by simp)]
     by_cases hkk:k'=k
     ·rw[decide_eq_true hkk]
      subst hkk
      rw[if_pos rfl]
      exact AA0 (ABX (AA2 (AA2 (hsome x _ hkv))))
     ·rw[decide_eq_false hkk,if_neg (by decide)]
      exact AA0 (ABX (AA2 ⟨rfl,rfl,x+1,hrest,hlt,bx hH hkv hkk⟩))
    ·rw[if_neg hh]
     exact AA2 ⟨rfl,rfl,x+1,hrest,hlt,bx hH hkv λe=>hh (by rw[e];simp)⟩
   ·rintro b s' ⟨rfl,rfl,i,hr,hi,hH⟩
    exact AA2 (fin none (lZ he hr.symm hH))
  ·rw[if_neg hall]
   by_cases hone:(((placesWithHash es.size (λi=>es[i]?.map (·.hash)) (hs k)).filterMap (λi=>es[i]?.map (·.key)))==[ABi])=true <;>
   (first | rw[if_pos hone] | rw[if_neg hone])<;>(first | refine AA0 (AA2 ?_) | refine AA0 (kK qk qst ?_))<;>(
    rw[if_neg (by simp)]
    refine AA0 ?_
    rw[start]
    refine ABJ _ (λaI b s'=>s'=s/\∃i hit,b=(none,hit)/\aI=(ADp i (es.size-i)).filter (pM es (hs k))/\i<=es.size/\xF xs k i hit) _ ?_ ?_ _ _ ⟨rfl,0,none,rfl,rfl,AAS _,up0⟩
    ·rintro x aI b s' ⟨rfl,i,hit,rfl,hr,hi,hH⟩
     obtain⟨k',u,v,hkv,hex,hix,hlt,hrest,hskip⟩:=turn hr hi
     have hH:=gh he hskip hH hix
     rw[hex]
     dsimp only
     by_cases hh:(hs k'==hs k)=true
     ·rw[if_pos hh]
      refine AA0 (ABQ ho hd (AA0 (eq _ (AAc hkv) _ _ (AA0 (ABQ ho hd ?_)))))
      show wpAny _ _ (if (ep != ep)=true then _ else _) _ E _
      rw[if_neg (by simp)]
      by_cases hkk:k'=k
      ·rw[decide_eq_true hkk]
       subst hkk
       rcases hH with⟨rfl,_⟩|⟨j,p,_,hjx,hj⟩
       ·first | rw[if_pos rfl] | skip
        simp only[Option.isSome_none,AAE,if_false]
        first | refine AA0 (AA2 ?_) | skip
        refine AA0 (ABX ?_)
        split
        ·exact AA2 (AA2 (hsome x _ hkv))
        ·exact AA2 ⟨rfl,x+1,some x,rfl,hrest,hlt,.inr ⟨x,_,rfl,AAz x,hkv⟩⟩
       ·exact absurd (fg hn hj hkv) (by lia)
      ·rw[decide_eq_false hkk]
       simp only[AAE,if_false]
       refine AA0 (ABX ?_)
       first | rw[if_neg (by simp)] | skip
       first
        | exact AA2 ⟨rfl,x+1,hit,rfl,hrest,hlt,bx hH hkv hkk⟩
        | exact AA0 (AA2 (AA2 ⟨rfl,x+1,hit,rfl,hrest,hlt,bx hH hkv hkk⟩))
     ·rw[if_neg hh]
      exact AA2 ⟨rfl,x+1,hit,rfl,hrest,hlt,bx hH hkv λe=>hh (by rw[e];simp)⟩
    ·rintro b s' ⟨rfl,i,hit,rfl,hr,hi,hH⟩
     have z:=fin hit (lZ he hr.symm hH)
     exact AA2 z)
 ·dsimp only
  rw[if_neg (show ¬((ABU a::(placesWithHash es.size (λi=>es[i]?.map (·.hash)) (hs k)).filterMap (λi=>es[i]?.map (·.key))).all carriedByValue)=true by simp[carriedByValue]),if_neg hany]
  by_cases hone:(((placesWithHash es.size (λi=>es[i]?.map (·.hash)) (hs k)).filterMap (λi=>es[i]?.map (·.key)))==[ABU a])=true <;>
  (first | rw[if_pos hone] | rw[if_neg hone])<;>(first | refine AA0 (AA2 ?_) | refine AA0 (kK qk qst ?_))<;>(
   rw[if_neg (by simp)]
   refine AA0 ?_
   rw[start]
   refine ABJ _ (λaI b s'=>s'=s/\∃i hit,b=(none,hit)/\aI=(ADp i (es.size-i)).filter (pM es (hs k))/\i<=es.size/\xF xs k i hit) _ ?_ ?_ _ _ ⟨rfl,0,none,rfl,rfl,AAS _,up0⟩
   ·rintro x aI b s' ⟨rfl,i,hit,rfl,hr,hi,hH⟩
    obtain⟨k',u,v,hkv,hex,hix,hlt,hrest,hskip⟩:=turn hr hi
    have hH:=gh he hskip hH hix
    rw[hex]
    dsimp only
    by_cases hh:(hs k'==hs k)=true
    ·rw[if_pos hh]
     refine AA0 (ABQ ho hd (AA0 (eq _ (AAc hkv) _ _ (AA0 (ABQ ho hd ?_)))))
     show wpAny _ _ (if (ep != ep)=true then _ else _) _ E _
     rw[if_neg (by simp)]
     by_cases hkk:k'=k
     ·rw[decide_eq_true hkk]
      subst hkk
      rcases hH with⟨rfl,_⟩|⟨j,p,_,hjx,hj⟩
      ·first | rw[if_pos rfl] | skip
       simp only[Option.isSome_none,AAE,if_false]
       first | refine AA0 (AA2 ?_) | skip
       refine AA0 (ABX ?_)
       split
       ·exact AA2 (AA2 (hsome x _ hkv))
       ·exact AA2 ⟨rfl,x+1,some x,rfl,hrest,hlt,.inr ⟨x,_,rfl,AAz x,hkv⟩⟩
      ·exact absurd (fg hn hj hkv) (by lia)
     ·rw[decide_eq_false hkk]
      simp only[AAE,if_false]
      refine AA0 (ABX ?_)
      first | rw[if_neg (by simp)] | skip
      first
       | exact AA2 ⟨rfl,x+1,hit,rfl,hrest,hlt,bx hH hkv hkk⟩
       | exact AA0 (AA2 (AA2 ⟨rfl,x+1,hit,rfl,hrest,hlt,bx hH hkv hkk⟩))
    ·rw[if_neg hh]
     exact AA2 ⟨rfl,x+1,hit,rfl,hrest,hlt,bx hH hkv λe=>hh (by rw[e];simp)⟩
   ·rintro b s' ⟨rfl,i,hit,rfl,hr,hi,hH⟩
    have z:=fin hit (lZ he hr.symm hH)
    exact AA2 z)
end
end L2
namespace L2
open PySem PySem.Spec PyProof.Rows DL
section
variable{X:Cx}{pins:List (Addr×Obj)}{σ:St}{H:Hp}{s:Shared}{ρ:List Addr}{M:Mem}{kvs:List (D×D)}{xs:List (D×Value×Value)}
theorem wK(h:ue d=true):okD M 8 d=true:=by
 cases d with
 | non=>rfl
 | tup ks=>exact mO 8 _ h
 | _=>cases h
theorem jV(I:Inv X pins σ H s)(r:Rep X.K ρ H k u)(e:aL u key)(hk:ue k=true):(k=.non/\key=.none)\/∃ks a,k=.tup ks/\key=.ref a/\er s.heap 8 (.tup ks) (.ref a):=by
 cases k with
 | non=>obtain rfl:=Rep.inv_non r;exact .inl ⟨rfl,e⟩
 | tup ks =>
  have kat:=dn I 8 _ _ _ r e hk
  obtain⟨a,its,rfl,h⟩:=id kat
  exact .inr ⟨ks,a,rfl,rfl,kat⟩
 | _=>cases hk
theorem sP(I:Inv X pins σ H s)(hu:A.units+8<cLine)(r:Rep X.K ρ H k u)(e:aL u key)(hk:ue k=true)(h:∀tk,Q (hkM X.w k) { s with toks:=tk }):wpAny (model X.prog X.w) A (pyHash key) Q E s:=by
 rcases jV I r e hk with⟨rfl,rfl⟩|⟨ks,a,rfl,rfl,kat⟩
 ·exact PySem.W.pyHash_slot (T:="NoneType") rfl PySem.F.slot_NoneType_hash PySem.F.entry_NoneType_hash (PySem.F.args_NoneType_hash_1 _) (beq_builtin_none _) (.inr (by lia)) (AA0 (AA2 (AA0 (wpAny_mkInt (AA2 ⟨_,_,rfl,h _⟩)))))
 ·exact lI 8 _ _ _ _ _ _ hu kat (h _)
theorem EK(I:Inv X pins σ H s)(sm:Sim X.K ρ M H)(hu:A.units+8<cLine)(r:Rep X.K ρ H k u)(e:aL u key)(hk:ue k=true)(r':Rep X.K ρ H k' u')(e':aL u' key')(hk':ue k'=true) :
  ACC A s key key' (decide (k=k')):=by
 have h:=(iK I sm 8 A k k' _ _ _ _ hu r e r' e' (wK hk) (wK hk')).1
 have q:eqD M 8 k k'=decide (k=k'):=by
  cases k with
  | non=>cases k' with
   | non=>rw[decide_eq_true rfl];rfl
   | tup _=>rw[decide_eq_false λz=>by cases z];rfl
   | _=>cases hk'
  | tup ks=>cases k' with
   | non=>rw[decide_eq_false λz=>by cases z];rfl
   | tup ks'=>rw[Bool.eq_iff_iff,fV 8 _ _ hk hk',decide_eq_true_eq]
   | _=>cases hk'
  | _=>cases hk
 rw[q]at h
 exact h
theorem oq(I:Inv X pins σ H s)(r:Rep X.K ρ H k u)(e:aL u key)(hk:ue k=true)(h:Q true s):wpAny (model X.prog X.w) A (eqIsQuiet 8 key) Q E s:=by
 rcases jV I r e hk with⟨rfl,rfl⟩|⟨ks,a,rfl,rfl,kat⟩
 ·exact AA2 h
 ·exact jW 8 8 _ _ _ _ _ _ (AA8 _) kat h
theorem yj:∀{kvs:List (D×D)}{xs:List (D×Value×Value)}{x:D×Value×Value},Paired (KvM X.K ρ H) kvs xs->x∈xs->∃p∈kvs,KvM X.K ρ H p x
 | _,_,x,.cons q t,h=>by
  rcases AAN.mp h with rfl | h
  ·exact⟨_,AAI,q⟩
  ·obtain⟨p,hp,z⟩:=yj t h
   exact⟨p,AAA _ hp,z⟩
theorem iW(r:Paired (KvM X.K ρ H) kvs xs):xs.map (·.1)=kvs.map (·.1):=by
 induction r with
 | nil=>rfl
 | cons h t ih=>rw[AAi,AAi,ih,h.1]
theorem mL(r:Paired (KvM X.K ρ H) kvs xs)(k:D):(aM kvs k=none/\∀(j:Nat) (p:Value×Value),xs[j]?≠some (k,p))\/∃(d:D) (v:V) (j:Nat) (u u':Value),aM kvs k=some d/\xs[j]?=some (k,u,u')/\Rep X.K ρ H d v/\aL v u':=by
 unfold aM
 induction r with
 | nil=>exact .inl ⟨rfl,λj p z=>by simp at z⟩
 | @cons p q ps qs h t ih =>
  obtain⟨h1,_,_,v,h4,h5⟩:=h
  rw[ADa]
  by_cases e:p.1=k
  ·rw[decide_eq_true e]
   exact .inr ⟨_,v,0,q.2.1,q.2.2,rfl,by rw[ADc,←e,h1],h4,h5⟩
  ·rw[decide_eq_false e]
   rcases ih with⟨g,no⟩|⟨d,v,j,u,u',g,ej,rd,rv⟩
   ·refine .inl ⟨g,λj p' z=>?_⟩
    cases j with
    | zero=>rw[ADc]at z;injection z with z;exact e (by rw[h1,z])
    | succ j=>rw[ACB]at z;exact no j p' z
   ·exact .inr ⟨d,v,j+1,u,u',g,by rw[ACB];exact ej,rd,rv⟩
theorem xm(I:Inv X pins σ H s)(sm:Sim X.K ρ M H){n:Nat}{a:Addr}(e:ρ[n]?=some a)(hM:M[n]?=some (.dkm kvs)) :
  ∃xs,H a=some (.ext (dM a xs))/\Paired (KvM X.K ρ H) kvs xs/\dM a xs X.prog X.w s.heap/\(a==sysModules)=false/\kvs.length<=sizeLine/\xs.length=kvs.length/\(kvs.map (·.1)).Nodup:=by
 obtain⟨h1,h2,h3,xs,hH,r⟩:=sm.obj _ _ _ e hM
 refine⟨xs,hH,r,(show cF X.prog X.w H s.heap a (.ext (dM a xs))from I.hok a _ hH).1,h2,h1,?_,h3⟩
 have:=congrArg ABc (iW r)
 rwa [AA6,AA6]at this
theorem xg(I:Inv X pins σ H s)(sm:Sim X.K ρ M H)(hu:A.units+8<cLine)(r:Paired (KvM X.K ρ H) kvs xs)(nd:(kvs.map (·.1)).Nodup)
  (ho:s.heap.get? a=some o) (hd:o.data=.dict es ep) (he:es.toList=xs.map (xj (hkM X.w))) (rk:Rep X.K ρ H k u) (ek:aL u key) (hk:ue k=true)
  (hnone:(∀(j:Nat) (p:Value×Value),xs[j]?≠some (k,p))->Q none s) (hsome:∀(j:Nat) (p:Value×Value),xs[j]?=some (k,p)->Q (some j) s):wpAny (model X.prog X.w) A (dictFind a key (hkM X.w k)) Q E s:=by
 refine yY ho hd he (by rw[iW r];exact nd) ?_ (λQ E h=>oq I rk ek hk h) (λx hx Q E h=>?_) (λx hx e=>?_) (λx hx Q E h=>?_) hnone hsome
 ·rcases jV I rk ek hk with⟨rfl,rfl⟩|⟨ks,b,rfl,rfl,_⟩
  ·exact .inl rfl
  ·exact .inr ⟨b,rfl⟩
 ·obtain⟨p,_,q1,q2,⟨u',q3,q4⟩,_⟩:=yj r hx
  exact oq I q3 q4 q2 h
 ·obtain⟨p,_,q1,q2,⟨u',q3,q4⟩,_⟩:=yj r hx
  rw[e]at q4
  rw[←q1]
  rcases jV I q3 q4 q2 with⟨e1,e2⟩|⟨ks,b,e1,e2,kat⟩<;>rcases jV I rk ek hk with⟨f1,f2⟩|⟨ks',b',f1,f2,kat'⟩
  ·rw[e1,f1]
  ·rw[e2]at f2;cases f2
  ·rw[e2]at f2;cases f2
  ·rw[e2]at f2;cases f2
   rw[e1,f1]
   exact jX 8 _ _ _ kat kat'
 ·obtain⟨p,_,q1,q2,⟨u',q3,q4⟩,_⟩:=yj r hx
  rw[←q1]at h
  exact EK I sm hu q3 q4 q2 rk ek hk _ _ _ _ h
theorem Sim.writeM(S:Sim X.K ρ M H)(e1:ρ[n]?=some a)(hM:M[n]?=some (.dkm kvs))(hH:H a=some (.ext (dM a xs)))(hl:kvs'.length<=sizeLine)(hs:(a==sysModules)=false)(nd:(kvs'.map (·.1)).Nodup)(r:Paired (KvM X.K ρ H) kvs' xs') :
  Sim X.K ρ (M.set n (.dkm kvs')) (upd H a (.ext (dM a xs')))/\Grow X.K ρ H ρ (upd H a (.ext (dM a xs'))):=by
 have g:Grow X.K ρ H ρ (upd H a (.ext (dM a xs'))):=⟨ACX,λ_ _ h=>SqT.writtenX hH h⟩
 have hk:∀m,m≠n->(M.set n (.dkm kvs'))[m]?=M[m]?:=λm hm=>AAq (ABC hm)
 have notK:¬isK M[n]?:=λ⟨_,z⟩=>by rw[hM]at z;cases z
 refine⟨⟨λm m' b hne f1 f2=>?_,by rw[AAw];exact S.len,λm b mo f1 f2=>?_⟩,g⟩
 ·have q:=S.nd m m' b hne f1 f2
  by_cases h1:m=n
  ·subst h1
   rw[hk m' (ABC hne)]
   exact .inr (q.resolve_left notK)
  ·rw[hk m h1]
   by_cases h2:m'=n
   ·subst h2
    exact .inl (q.resolve_right notK)
   ·rw[hk m' h2]
    exact q
 by_cases hm:m=n
 ·subst hm
  obtain rfl:b=a:=AAR (f1.symm.trans e1)
  rw[AAj (by rw[←S.len];exact(AA7.mp e1).1)]at f2
  cases f2
  exact⟨hl,hs,nd,xs',aH,Paired.mapP r λ_ _ ⟨q1,q2,⟨u,q3,q3'⟩,v,q4,q5⟩=>⟨q1,q2,⟨u,q3.grow g,q3'⟩,v,q4.grow g,q5⟩⟩
 ·rw[hk m hm]at f2
  by_cases hb:b=a
  ·subst hb
   have q':=(S.nd m n b hm f1 e1).resolve_right notK
   rw[f2]at q'
   exact(S.obj m b mo f1 f2).grow g (.inr q')
  ·exact(S.obj m b mo f1 f2).grow g (.inl (ah hb))
theorem sR(d:dM a xs P w h'):cF P w H' h' a (.ext (dM a xs)):=by
 obtain⟨o,es,e1,e2,e3,e4⟩:=d
 exact⟨⟨o,es,e1,e2,e3,e4⟩,⟨o,e1⟩,λh1 h2 ⟨o,es,e1,e2,e3,e4⟩ k=>⟨o,es,k _ e1,e2,e3,e4⟩⟩
theorem oz(h:aM kvs k=none):cX kvs k d=kvs++[(k,d)]:=by
 unfold cX
 rw[h];rfl
theorem vO(r:Paired (KvM X.K ρ H) kvs xs)(h:KvM X.K ρ H p q):Paired (KvM X.K ρ H) (kvs++[p]) (xs++[q]):=by
 induction r with
 | nil=>exact .cons h .nil
 | cons z _ ih=>exact .cons z ih
end
section
variable{X:Cx}{o i value:Expr}{td ty tv:DTE}{pos pos':Pos}{k:Nat}
def zn:DTE:=λ_ M Q=>Q (.ref M.length) (M++[.dkm []])
theorem Fh:DE X (.Dict [] [] pos) zn:=by
 intro pins s σ H R I ⟨S,M,ρ,Q,sm,sr,q,kk⟩
 have hf:H s.heap.objs.size=none:=I.hok.fresh (AA8 _)
 have hb:(s.heap.objs.size==sysModules)=false:=beq_eq_false_iff_ne.mpr (ABC (AAM I.big))
 refine wpAny_Dict_empty ⟨.ref s.heap.objs.size,_,I.laid (a:=s.heap.objs.size) (o:=.ext (dM s.heap.objs.size [])) (t':=s.toks) (λ_ _ q=>AA3 _ q) (AA8 _) (sR ⟨_,#[],AAC _ rfl,⟨rfl,rfl,rfl⟩,rfl,rfl⟩),rfl,?_⟩
 exact kk _ _ ⟨.ref M.length,M++[.dkm []],ρ++[s.heap.objs.size],sm.laidM (mo:=.dkm []) hf ⟨AAS _,hb,ADC,[],aH,.nil⟩,Grow.laidR hf,.ref sm.last,(show Q (.ref M.length) (M++[.dkm []])from q)⟩
def dMm(r:Nat->DRA)(to:DTE)(t:DTA):DTE:=λS M Q=>to S M λx M1=>match x with
 | .ref n=>(∃kvs,M1[n]?=some (.dkm kvs))/\t S M1 λds M2=>r n ds M2 Q
 | _=>False
variable{name:Str}{id:String}{e:Expr}{es:List Expr}{to:DTE}{t:DTA}{apos cpos:Pos}
theorem d_mm{r:Nat->DRA}(slot:Slot "dict" name id)(hty:typeOf (.builtin id)=pure (.type "method_descriptor"))(hm:MtR X id (kA X.K r))(ho:DE X o to)(ha:DA X (e::es) t)
  (hbase:attributeBase o name X.env (eval o X.env)=eval o X.env:=by rfl)
  (hfew:((backTo cpos (starEach (e::es) X.env)).all (λx=>!x.1)&&(backToKw cpos (keywordEach [] X.env)).all (λx=>x.1.isSome)
   && decide ((e::es).length+([]:List Keyword).length+(if ([]:List Keyword).isEmpty then 0 else 1)<30))=true:=by rfl)
  (hline:(apos.endLine==cpos.line)=true:=by rfl) (hs:starEach (e::es) X.env=(false,eval e X.env)::starEach es X.env:=by rfl) (hplain:(backTo cpos (starEach es X.env)).any (·.1)=false:=by rfl) :
  DE X (.Call (.Attribute o name apos) (e::es) [] cpos) (dMm r to t):=by
 intro pins s σ H R I ⟨S,M,ρ,Q,sm,sr,q,kk⟩
 refine ADf hbase hfew hline rfl (thn (ho pins s σ H _ I ⟨S,M,ρ,_,sm,sr,q,λv H' z=>z⟩) λu s1 ⟨v,H1,I1,rv,x,M1,ρ1,sm1,g1,r1,q1⟩=>?_)
 cases r1 with
 | @ref n a hn =>
  obtain rfl:u=ABU a:=rv
  obtain⟨⟨kvs,hM⟩,q1⟩:=(show (∃kvs,M1[n]?=some (.dkm kvs))/\t S M1 _ from q1)
  obtain⟨xs,hH,r,⟨ob,eb,h1,h2,h3,h4⟩,hsm,hl,hx,nd⟩:=xm I1 sm1 hn hM
  refine⟨"dict",id,ACi,slot,hty,⟨ob,h1,h2.1⟩,λb z=>?_,?_⟩
  ·cases z
   exact⟨ob,h1,h2.2.1⟩
  ·have hA:=ha cpos pins s1 σ H1 _ I1 ⟨S,M1,ρ1,_,sm1,sr.grow g1,q1,λvs H' z=>z⟩
   rw[hs]at hA ⊢
   refine ABp (by show (false||(backTo cpos (starEach es X.env)).any (·.1))=false;rw[hplain]<;>rfl) (AE0 ?_)
   exact thn hA λus s2 ⟨vs,H2,I2,rvs,ds,M2,ρ2,sm2,g2,rr,q2⟩=>hm pins s2 σ H2 (.ref a) vs (.ref a) us R I2 rfl rvs ⟨n,a,ds,M2,ρ2,Q,rfl,av g2.pre hn,sm2,rr,q2,λv H' w=>kk v H' (VQ.trans (g1.trans g2) w)⟩
 | _=>exact q1.elim
def lD(n:Nat):DRA:=λds M Q=>match ds with
 | [k,d]=>∃kvs,M[n]?=some (.dkm kvs)/\ue k=true/\Q ((aM kvs k).getD d) M
 | _=>False
theorem yy(hr:Room k X.A):MtR X "dict.get" (kA X.K lD):=by
 intro pins s σ H x xs v us R I rx rs ⟨n,a,ds,M,ρ,Q,ez,hn,sm,rr,q,kk⟩
 have un:=hr.un
 unfold lD at q
 split at q
 ·rename_i k d
  obtain⟨kvs,hM,kd,q⟩:=q
  have hzz:=Reps.inv_cons rr
  clear rr
  obtain⟨_,_,rfl,r1,rr⟩:=hzz
  have hzz:=Reps.inv_cons rr
  clear rr
  obtain⟨_,_,rfl,r2,rr⟩:=hzz
  obtain rfl:=Reps.inv_nil rr
  obtain⟨u1,u2,rfl,e1,e2⟩:=aw.two rs
  subst ez
  obtain rfl:v=ABU a:=rx
  obtain⟨ys,hH,r,⟨ob,eb,h1,h2,h3,h4⟩,hsm,hl,hx,nd⟩:=xm I sm hn hM
  refine call_meetsIn ACv ⟨ob,h1,h2.1⟩ PySem.F.entry_dict_get (PySem.F.args_dict_get_3 _ _ _) (.of_wp λA R s (h:wpAny (model X.prog X.w) A.in1 (Builtin.«dict.get» ⟨[.ref a,u1,u2],[]⟩) (λfin s'=>∃v,fin=.done (.ret v)/\R (.ok (.ret v)) s') (λe s'=>R (.error e) s') s)=>h) ?_
  show wpAny _ _ (dictGet a u1 >>= _) _ _ s
  unfold dictGet
  refine AA0 ?_
  try with_reducible refine AAh ?_
  refine AA0 (sP I (by show X.A.units+1+8<cLine;lia) r1 e1 kd λtk=>?_)
  refine AA0 (xg (I.tok tk) sm (by show X.A.units+1+8<cLine;lia) r nd h1 h3 h4 r1 e1 kd (λno=>?_) λj p hj=>?_)
  ·rcases mL r k with⟨z1,_⟩|⟨d',v',j,u,u',z1,z2,z3,z4⟩
   ·rw[z1]at q
    refine AA2 ?_
    show wpAny _ _ (Builtin.Dict.missed a u1 >>= _) _ _ _
    exact AA0 (wpAny_missed_other hsm (AA2 ⟨u2,rfl,_,H,I.tok _,e2,kk _ _ ⟨d,M,ρ,sm,.refl,r2,q⟩⟩))
   ·exact absurd z2 (no j _)
  ·refine AA0 (ABZ (s:={ s with toks:=tk }) h1 h3 ?_)
   rcases mL r k with⟨_,no⟩|⟨d',v',j',u,u',z1,z2,z3,z4⟩
   ·exact absurd hj (no j p)
   ·have:j=j':=fg (by rw[iW r];exact nd) hj z2
    subst this
    rw[hj]at z2
    rw[mT h4 j,hj]
    rw[z1]at q
    obtain rfl:p=(u,u'):=by injection z2 with z2;injection z2
    exact AA2 (AA2 ⟨u',rfl,v',H,I.tok _,z4,kk _ _ ⟨d',M,ρ,sm,.refl,z3,q⟩⟩)
 ·exact q.elim
def ou(n:Nat):DRA:=λds M Q=>match ds with
 | [k,d]=>∃kvs,M[n]?=some (.dkm kvs)/\ue k=true/\kvs.length<sizeLine/\(∀y,aM kvs k=some y->Q y M)/\(aM kvs k=none->Q d (M.set n (.dkm (kvs++[(k,d)]))))
 | _=>False
theorem yx(hr:Room k X.A):MtR X "dict.setdefault" (kA X.K ou):=by
 intro pins s σ H x xs v us R I rx rs ⟨n,a,ds,M,ρ,Q,ez,hn,sm,rr,q,kk⟩
 have un:=hr.un
 unfold ou at q
 split at q
 ·rename_i k d
  obtain⟨kvs,hM,kd,kl,q1,q2⟩:=q
  have hzz:=Reps.inv_cons rr
  clear rr
  obtain⟨_,_,rfl,r1,rr⟩:=hzz
  have hzz:=Reps.inv_cons rr
  clear rr
  obtain⟨_,_,rfl,r2,rr⟩:=hzz
  obtain rfl:=Reps.inv_nil rr
  obtain⟨u1,u2,rfl,e1,e2⟩:=aw.two rs
  subst ez
  obtain rfl:v=ABU a:=rx
  obtain⟨ys,hH,r,⟨ob,eb,h1,h2,h3,h4⟩,hsm,hl,hx,nd⟩:=xm I sm hn hM
  have esz:eb.size=ys.length:=by rw[←AAL,h4,AA6]
  refine call_meetsIn PySem.F.slot_dict_setdefault ⟨ob,h1,h2.1⟩ PySem.F.entry_dict_setdefault (PySem.F.args_dict_setdefault_3 _ _ _) (.of_wp λA R s (h:wpAny (model X.prog X.w) A.in1 (Builtin.«dict.setdefault» ⟨[.ref a,u1,u2],[]⟩) (λfin s'=>∃v,fin=.done (.ret v)/\R (.ok (.ret v)) s') (λe s'=>R (.error e) s') s)=>h) ?_
  unfold Builtin.«dict.setdefault»
  refine AA0 ?_
  unfold Builtin.Dict.keyAndDefault
  refine AA0 (ACQ (show s.TypeIs (.ref a) "dict" from⟨ob,h1,h2.1⟩) ?_)
  show wpAny _ _ (pure (a,u1,some u2)) _ _ s
  refine AA2 ?_
  show wpAny _ _ (if (a==sysModules)=true then _ else(dictSetDefault a u1 u2 >>= _)) _ _ s
  rw[if_neg (by rw[hsm];exact ABF)]
  unfold dictSetDefault
  refine AA0 ?_
  try with_reducible refine AAh ?_
  refine AA0 (sP I (by show X.A.units+1+8<cLine;lia) r1 e1 kd λtk=>?_)
  refine AA0 (xg (I.tok tk) sm (by show X.A.units+1+8<cLine;lia) r nd h1 h3 h4 r1 e1 kd (λno=>?_) λj p hj=>?_)
  ·have gn:aM kvs k=none:=by
    rcases mL r k with⟨z1,_⟩|⟨_,_,j,_,_,_,z2,_⟩
    ·exact z1
    ·exact absurd z2 (no j _)
   have nd':((kvs++[(k,d)]).map (·.1)).Nodup:=by
    rw[←oz gn];exact mq nd
   obtain⟨w1,w2⟩:=sm.writeM (xs':=ys++[(k,u1,u2)]) hn hM hH (by rw[AAB,AAY];lia) hsm nd' (vO r ⟨rfl,kd,⟨_,r1,e1⟩,_,r2,e2⟩)
   have sb:ABz a s.heap (s.heap.update a (Obj.mapDictKeys λe=>e.push ⟨hkM X.w k,u1,u2⟩)):=AAo ..
   have dd':dM a (ys++[(k,u1,u2)]) X.prog X.w (s.heap.update a (Obj.mapDictKeys λe=>e.push ⟨hkM X.w k,u1,u2⟩)):=by
    refine⟨_,eb.push ⟨hkM X.w k,u1,u2⟩,AAe _ h1 (ACh (ACA h3 _)),h2.mapDictKeys _,?_,?_⟩
    ·rw[ACA h3,AAB];rfl
    ·rw[ADk,h4,AAm];rfl
   have he:∃q,(s.heap.update a (Obj.mapDictKeys λe=>e.push ⟨hkM X.w k,u1,u2⟩)).get? a=some q:=let ⟨q,_,hq,_⟩:=dd';⟨q,hq⟩
   refine AA0 (ABX (AA0 (wpAny_updateDictKeys (hz:=by lia) (s:={ s with toks:=tk }) h1 h3 (AA2 (AA2 ⟨u2,rfl,?_⟩)))))
   exact⟨_,_,xq (I.tok tk) (by rw[hH];exact True.intro) sb he (sR dd'),e2,kk _ _ ⟨d,_,ρ,w1,w2,r2.grow w2,q2 gn⟩⟩
  ·refine AA0 (ABZ (s:={ s with toks:=tk }) h1 h3 ?_)
   rcases mL r k with⟨_,no⟩|⟨d',v',j',u,u',z1,z2,z3,z4⟩
   ·exact absurd hj (no j p)
   ·have:j=j':=fg (by rw[iW r];exact nd) hj z2
    subst this
    rw[hj]at z2
    rw[mT h4 j,hj]
    obtain rfl:p=(u,u'):=by injection z2 with z2;injection z2
    exact AA0 (ABX (AA2 (AA2 ⟨u',rfl,v',H,I.tok _,z4,kk _ _ ⟨d',M,ρ,sm,.refl,z3,q1 _ z1⟩⟩)))
 ·exact q.elim
end
end L2
namespace L2
open PySem PySem.Spec PyProof.Rows DL
section
variable{X:Cx}{tg o:Expr}{to:DTE}{e:Expr}{es:List Expr}{t:DTA}{pos apos cpos:Pos}{k:Nat}
theorem zZ:HE X (.Dict [] [] pos) zn:=⟨Fh⟩
theorem Aa(hr:Room k X.A)(ho:HE X o to)(ha:HA X (e::es) t)(hbase:attributeBase o "get" X.env (eval o X.env)=eval o X.env:=by kernel_rfl)
  (hfew:((backTo cpos (starEach (e::es) X.env)).all (λx=>!x.1)&&(backToKw cpos (keywordEach [] X.env)).all (λx=>x.1.isSome)
   && decide ((e::es).length+([]:List Keyword).length+(if ([]:List Keyword).isEmpty then 0 else 1)<30))=true:=by kernel_rfl)
  (hline:(apos.endLine==cpos.line)=true:=by kernel_rfl) (hs:starEach (e::es) X.env=(false,eval e X.env)::starEach es X.env:=by kernel_rfl) (hplain:(backTo cpos (starEach es X.env)).any (·.1)=false:=by kernel_rfl) :
  HE X (.Call (.Attribute o "get" apos) (e::es) [] cpos) (dMm lD to t):=⟨d_mm ACv PySem.F.type_dict_get (yy hr) ho.ok ha.ok hbase hfew hline hs hplain⟩
theorem zY(hr:Room k X.A)(ho:HE X o to)(ha:HA X (e::es) t)(hbase:attributeBase o "setdefault" X.env (eval o X.env)=eval o X.env:=by kernel_rfl)
  (hfew:((backTo cpos (starEach (e::es) X.env)).all (λx=>!x.1)&&(backToKw cpos (keywordEach [] X.env)).all (λx=>x.1.isSome)
   && decide ((e::es).length+([]:List Keyword).length+(if ([]:List Keyword).isEmpty then 0 else 1)<30))=true:=by kernel_rfl)
  (hline:(apos.endLine==cpos.line)=true:=by kernel_rfl) (hs:starEach (e::es) X.env=(false,eval e X.env)::starEach es X.env:=by kernel_rfl) (hplain:(backTo cpos (starEach es X.env)).any (·.1)=false:=by kernel_rfl) :
  HE X (.Call (.Attribute o "setdefault" apos) (e::es) [] cpos) (dMm ou to t):=⟨d_mm PySem.F.slot_dict_setdefault PySem.F.type_dict_setdefault (yx hr) ho.ok ha.ok hbase hfew hline hs hplain⟩
def CZ(n:Nat):DRA:=λds M Q=>match ds with
 | []=>∃xs d,M[n]?=some (.lst (xs++[d]))/\Q d (M.set n (.lst xs))
 | _=>False
theorem Br:MtR X "list.pop" (kA X.K CZ):=by
 intro pins s σ H x xs v us R I rx rs ⟨n,a,ds,M,ρ,Q,ez,hn,sm,rr,q,k⟩
 unfold CZ at q
 split at q
 ·obtain⟨ys,d,e,q⟩:=q
  obtain rfl:=Reps.inv_nil rr
  obtain⟨vs,hH,r⟩:=sm.obj n a _ hn e
  have lr:=r.length
  rw[AAB,AAY]at lr
  obtain⟨y,hy,ry⟩:=r.get (i:=ys.length) (d:=d) (by simp)
  have rd:Reps X.K ρ H ys vs.dropLast:=by
   have:=r.take ys.length
   rw[List.take_left]at this
   rw[List.dropLast_eq_take,←lr,ADZ]
   exact this
  obtain⟨w1,w2⟩:=sm.write hn e hH rd
  exact DV pins s σ H x _ v us R I rx rs ⟨a,vs,y,ez,rfl,hH,by rw[←lr,ADZ];exact hy,k _ _ ⟨d,_,ρ,w1,w2,ry.grow w2,q⟩⟩
 ·exact q.elim
theorem Ah:HMl X "pop" CZ:=⟨_,PySem.F.slot_list_pop,PySem.F.type_list_pop,Br⟩
def Itb(K:AA4)(a:Addr)(n:Nat):It :=
 ⟨λi H=>i<n/\∃xs x,SqL K H a xs/\xs[n-1-i]?=some x,λi H x H'=>H'=H/\∀xs,SqL K H a xs->xs[n-1-i]?=some x,λi H=>i=n⟩
theorem xP{P:Program}{w:World}{K:AA4}{tg:Expr}(a it:Addr)(n:Nat):Turn P w K tg (Itb K a n) [it] it (λi h=>i<=n/\h.IsRevIter it a ((n:Int)-1-(i:Int))) where
 mem:=by simp
 obj:=λi h st b hb=>by
  obtain rfl:b=it:=by simpa using hb
  obtain⟨_,o,e,c,d⟩:=st
  exact⟨o,e,λv z=>by rw[d]at z;cases z⟩
 keep:=λi h h' st k=>⟨st.1,st.2.at λo e=>k it (by simp) o e⟩
 item:=by
  intro X hP hw hK hc i pins s σ H E I hf st hg
  subst hP hw hK
  obtain⟨hi,xs,x,hq,hx⟩:=hg
  obtain⟨its,rv,p,hz⟩:=I.list hq
  obtain⟨u,hu,ru⟩:=rv.get hx
  obtain⟨f0,f1,f2,f3,f4,f5⟩:=hf it (by simp)
  have st2:=st.2
  rw[show (n:Int)-1-(i:Int)=((n-1-i:Nat):Int) by lia]at st2
  refine wpAny_pyNext_rev_item st2 p.isList (x:=u) (by simpa using hu) λh' st' sb=>?_
  rw[show ((n-1-i:Nat):Int)-1=(n:Int)-1-((i+1:Nat):Int) by lia]at st'
  have I1:Inv X pins σ H { s with heap:=h' }:=I.turned (t':=s.toks) (λb o hb e=>(sb.2 b hb).trans e) f0 f1 f3 f4 f5
  obtain⟨o,e,c,d⟩:=id st'
  exact⟨u,rfl,qL (s:={ s with heap:=h' }) e c d (by decide) ⟨x,H,I1,ru,⟨rfl,λys hy=>by rw[I.list_inj hy hq];exact hx⟩,⟨hi,st'⟩,λb hb=>(hf b hb).1⟩⟩
 done:=by
  intro X hP hw hK hc i pins s σ H E I hf st hg
  subst hP hw hK
  obtain rfl:i=n:=hg
  obtain⟨f0,f1,f2,f3,f4,f5⟩:=hf it (by simp)
  have st2:=st.2
  rw[show (i:Int)-1-(i:Int) = -1 by lia]at st2
  exact wpAny_pyNext_rev_end (I.ok.hd hc) st2 λh' eb=>⟨rfl,I.turned (t':=s.toks) (λb o hb e=>eb b o hb e) f0 f1 f3 f4 f5⟩
 self:=λ_ _ _ _ _ st h=>wpAny_pyIter_revIter st.2 h
theorem ng:bootBuiltins "reversed" = some (.type "reversed"):=by decide +kernel
def zm(ta:DTA):DTI:=λS M R=>ta S M λds M1=>match ds with
 | [.ref n]=>∃xs,am M1 n xs/\(xs.length<=sizeLine->R ⟨xs.reverse,λM=>am M n xs⟩ M1)
 | _=>False
theorem EZ{a:Expr}{ta:DTA}{p pos:Pos}(hm:X.mg "reversed" = none)(ha:DA X [a] ta)(hg:Gl X "reversed":=by rfl)(hs:starEach [a] X.env=[(false,eval a X.env)]:=by rfl):DI X tg (.Call (.Name "reversed" p) [a] [] pos) (zm ta):=by
 intro pins s σ H R I h
 obtain⟨S,M,ρ,Q,sm,sr,hq,k⟩:=h
 refine Call_ (gQ I hg hm ng (ACF (thn (ha pos pins s σ H _ I ⟨S,M,ρ,_,sm,sr,hq,λv H' w=>w⟩) λus s1 ⟨vs,H1,I1,r1,ds,M1,ρ1,sm1,g1,rr,q1⟩=>?_) hs rfl))
 try dsimp only at q1
 split at q1
 ·rename_i n
  obtain⟨xs,hL,q2⟩:=q1
  have hzz:=Reps.inv_cons rr
  clear rr
  obtain⟨_,_,rfl,d1,rr⟩:=hzz
  obtain rfl:=Reps.inv_nil rr
  obtain⟨u,rfl,e1⟩:=aw.one r1
  obtain⟨a,rfl,hn⟩:=Rep.inv_ref d1
  obtain rfl:u=ABU a:=e1
  obtain⟨ws,hw,r⟩:=am.seq sm1 hL hn
  obtain⟨its,rv,p,hz⟩:=I1.list hw
  have lr:=r.length
  have lv:=rv.length
  refine call_reversed_list p.isList ?_
  refine wpAny_pyIter_revIter (l:=a) (i:=((its.toArray.size:Int)-1)) ⟨_,AAC _ rfl,rfl,rfl⟩ ?_
  refine⟨s1.heap.objs.size,[s1.heap.objs.size],_,_,H1,rfl,I1.kept (t':=s1.toks) λb o e=>AA3 _ e,xP a _ xs.length,⟨AAS _,_,AAC _ rfl,rfl,?_⟩,λb hb=>?_,k _ H1 ⟨⟨xs.reverse,λM=>am M n xs⟩,M1,ρ1,sm1,g1,?_,q2 (by lia)⟩⟩
  ·show Data.fields #[.ref a,rawInt ((its.toArray.size:Int)-1)]=Data.fields #[.ref a,rawInt ((xs.length:Int)-1-((0:Nat):Int))]
   rw[AAD,←lv,←lr,show ((xs.length:Int)-1-((0:Nat):Int))=(xs.length:Int)-1 by lia]
  ·obtain rfl:b=s1.heap.objs.size:=by simpa using hb
   exact I1.fpOk (AA8 _) (I1.hok.fresh (AA8 _))
  ·refine⟨λi ρ' M' H' s' g ok hi=>?_,λi ρ' M' H' x H2 s' g ok hi y=>?_,λρ' M' H' s' g ok=>?_⟩
   ·rw[ACj]at hi
    obtain⟨vs,h,r⟩:=am.seq s' ok (av g.pre hn)
    have hl:xs.length-1-i<vs.length:=by rw[←r.length];lia
    exact⟨hi,vs,vs[xs.length-1-i],h,AA5 hl⟩
   ·rw[ACj]at hi
    obtain⟨rfl,y⟩:=y
    obtain⟨vs,h,r⟩:=am.seq s' ok (av g.pre hn)
    obtain⟨d,hd,rd⟩:=r.getV (y vs h)
    exact⟨d,ρ',by rw[List.getElem?_reverse hi];exact hd,s',.refl,rd⟩
   ·exact(ACj:xs.reverse.length=xs.length)
 ·exact q1.elim
theorem zR(hm:X.mg "reversed" = none)(ha:HA X [a] ta)(hg:X.env.kindOf "reversed" = some .globalImplicit:=by kernel_rfl)(hs:starEach [a] X.env=[(false,eval a X.env)]:=by kernel_rfl):HI X tg (.Call (.Name "reversed" p) [a] [] pos) (zm ta):=⟨EZ hm ha.ok hg hs⟩
end
end L2
namespace LW
open PySem L2
local macro_rules | `(tactic| walk_at "sc")=>`(tactic| exact⟨rfl,rfl,rfl,by decide +kernel,rfl,by decide +kernel,by decide +kernel⟩)
local macro_rules | `(tactic| walk_at "dl")=>`(tactic| simp only[EE,aB,dIf,dNot,Fj,dOr,aK,dCB,aa,ag,bo,qT,dOrV,dLC,sV,bT,au,bE,aY,iT,lR,dOp,dC,ab,gY,kg,dSl,hV,eQ,dMl,dI,mX,zD,qAdd,ba,CY,mj,qj,vF,qLt,qGt,qIs,qEq,qNe,lE,qIx,qSl,cw,dAsg,zi,qR,eP,qS,dMl0,ic,fJ,gZ,pC,mW,mV,dMt,gH,sX,pA,hW,Cq,mi,pD,vG,zn,dMm,lD,ou,CZ,zm,Cp,jA,jb,sW,BZ,ie,SqAt,AL,kh,at0,at1,at2,tyD,dst,bY,Fd,AAi,List.map_nil,List.cons_append,AAx,ADc,ACB,AAJ,AAb,List.replicate_zero,List.replicate_succ,List.set_cons_zero,List.set_cons_succ,ADL,Nat.reduceAdd,Nat.reduceSub,Option.join_some,if_true,if_false,AAE])
def top(i:Nat):Stmt:=PySem.Challenge.pw_talkmarks_k25_whole_later_logs.main.body.getD i (.Pass ⟨0,0,0,0⟩)
abbrev B_:List Str:=["dict","sorted","set","reversed","len","range","tuple","list","max"]
abbrev C_:List (Str×Int):=[]
abbrev fO:List Str:=["pairs"]
abbrev jH:List Str:=["house","thing"]
abbrev eK:List Str:=["house","room"]
abbrev ii:List Str:=["deed"]
abbrev fN:List Str:=["deed"]
abbrev cx:List Str:=["log","kind"]
abbrev jG:List Str:=["say"]
abbrev ig:List Str:=["say"]
abbrev fP:List Str:=["house","say","elders"]
abbrev bQ:List Str:=["house","log"]
abbrev cS:List Str:=["deed","says"]
abbrev du:List Str:=["log","kind","says"]
abbrev cR:List Str:=["log","says"]
abbrev bu:List Str:=["log","says"]
abbrev eJ:List Str:=["say","changes"]
abbrev eI:List Str:=["house","log"]
abbrev dw:List Str:=["house","log"]
abbrev eH:List Str:=["house","log"]
abbrev ca:List Str:=["says","room"]
abbrev eM:List Str:=["depth","stamps"]
abbrev cQ:List Str:=["beneath"]
abbrev jF:List Str:=["house","log","room"]
abbrev jI:List Str:=["_law_script","_law_k"]
abbrev my:List Str:=["_law_cell"]
abbrev vQ:List Str:=["_law_held","_law_many"]
abbrev vT:List Str:=["_law_held"]
abbrev qm:List Str:=["_law_held","_law_many"]
abbrev qo:List Str:=["_law_cell"]
abbrev mw:List Str:=["_law_held","_law_names_here"]
abbrev vR:List Str:=["_law_held","_law_hands_here","_law_says"]
abbrev mv:List Str:=["_law_held","_law_hands_here","_law_done"]
abbrev vP:List Str:=["_law_held","_law_house_here","_law_hands_here","_law_says"]
abbrev Bf:List Str:=["_law_held","_law_house_here","_law_hands_here","_law_says","_law_done"]
abbrev qp:List Str:=["_law_house_here"]
abbrev Bc:List Str:=["_law_cells","_law_house_here"]
abbrev vS:List Str:=["_law_log_here","_law_counts"]
abbrev qq:List Str:=["_law_house_here","_law_part_here","_law_log_here"]
abbrev Be:List Str:=["_law_script"]
structure Tops(P:Program)(w:World)(K:AA4)(mg:Str->Option Value)(base:Heap):Prop where
 f_firsts_of:cM K mg "firsts_of" (top 4) fO
 f_is_room:cM K mg "is_room" (top 5) jH
 f_members_of:cM K mg "members_of" (top 6) eK
 f_stamp_of:cM K mg "stamp_of" (top 8) ii
 f_person_of:cM K mg "person_of" (top 9) fN
 f_deeds_of_kind:cM K mg "deeds_of_kind" (top 11) cx
 f_room_of:cM K mg "room_of" (top 13) jG
 f_under_of:cM K mg "under_of" (top 14) ig
 f_can_stand:cM K mg "can_stand" (top 15) fP
 f_says_that_count:cM K mg "says_that_count" (top 16) bQ
 f_is_by_writer:cM K mg "is_by_writer" (top 17) cS
 f_writers_own:cM K mg "writers_own" (top 18) du
 f_last_changes:cM K mg "last_changes" (top 19) cR
 f_stamps_taken_back:cM K mg "stamps_taken_back" (top 20) bu
 f_message_of:cM K mg "message_of" (top 21) eJ
 f_says_shown:cM K mg "says_shown" (top 22) eI
 f_messages_of:cM K mg "messages_of" (top 23) dw
 f_taken_back:cM K mg "taken_back" (top 24) eH
 f_stamps_beneath:cM K mg "stamps_beneath" (top 26) ca
 f_last_first:cM K mg "last_first" (top 27) eM
 f_rows_of_tree:cM K mg "rows_of_tree" (top 28) cQ
 f_rows_of:cM K mg "rows_of" (top 29) jF
 f_cell_at:cM K mg "_law_cell_at" (top 31) jI
 f_digits:cM K mg "_law_digits" (top 32) my
 f_take:cM K mg "_law_take" (top 33) vQ
 f_name:cM K mg "_law_name" (top 34) vT
 f_names:cM K mg "_law_names" (top 35) qm
 f_house:cM K mg "_law_house" (top 36) qo
 f_saying:cM K mg "_law_saying" (top 37) mw
 f_pick:cM K mg "_law_pick" (top 38) vR
 f_vector:cM K mg "_law_vector" (top 39) mv
 f_what:cM K mg "_law_what" (top 40) vP
 f_act:cM K mg "_law_act" (top 41) Bf
 f_hands:cM K mg "_law_hands" (top 42) qp
 f_log:cM K mg "_law_log" (top 43) Bc
 f_part:cM K mg "_law_part" (top 44) vS
 f_grown:cM K mg "_law_grown" (top 45) qq
 f_law:cM K mg "law" (top 46) Be
 b:TopB mg B_ C_
 bm:BMain mg base
local macro_rules | `(tactic| walk_at "bb")=>`(tactic| first | exact Ck | exact Fo | exact Fm | exact pP | exact zq)
local macro_rules | `(tactic| walk_at "tb")=>`(tactic| exact TopB.no (by k_dflt assumption) (by kernel_rfl))
local macro_rules | `(tactic| walk_at "dv")=>`(tactic| (intro _ _ _ _ _ _ _ _ _ _;refine wY rfl ?_;repeat' (first | (with_reducible first | (refine gA ?_;first | exact zV | refine wN ?_ ?_) | exact Ef | (refine Aj ?_;first | exact En | exact k_bl | exact Ej | exact Eh) | (refine EF ?_;first | refine lJ (by k_dflt assumption) ?_ (by walk_at "tb") (by walk_at "tb") | refine lK ?_ (by walk_at "tb") | refine oV (by k_dflt assumption) (by k_dflt assumption) (by k_dflt assumption) ?_ (by walk_at "tb") (λ_ _ _ _ _ _ _ _=>?_) (by k_dflt (exact oR (by kernel_rfl))) (by k_dflt kernel_rfl) (by k_dflt kernel_rfl) (by k_dflt (intro _ _ _ _;kernel_rfl)) | refine wQ ?_ (by walk_at "tb") (by walk_at "bb") ?_ | refine sK ?_ (by walk_at "tb") (by walk_at "bb") ?_ | refine Ep (by k_dflt assumption) (by k_dflt assumption) ?_ | refine wO (by k_dflt assumption) ?_ ?_ | refine Aa (by k_dflt assumption) ?_ ?_ | refine zY (by k_dflt assumption) ?_ ?_ | refine k_ml ?_ ?_ ?_ | refine Ek ?_ ?_) | (refine gIx ?_;first | refine wP ?_ ?_ ?_ | refine zX (by k_dflt assumption) ?_ ?_ (hs:=by k_dflt (intro _ _;kernel_rfl)) | refine k_ix ?_ ?_ (hs:=by k_dflt (intro _ _;kernel_rfl))) | (refine gT ?_;first | refine zN ?_ ?_ ?_ | refine zM ?_ | refine kw_t (sB ?_ ?_) | refine kw_t (yJ ?_ ?_) | refine zL ?_) | (refine gE ?_;first | exact zW | exact zZ | refine k_op ?_ ?_ ?_ | refine Eo ?_ ?_ ?_ | refine Ei ?_ | refine Er ?_ ?_ | refine k_or ?_ ?_ | refine Eg ?_ | refine El ?_ | refine Em ?_ (λ_ _ _ _=>?_) (λ_ _ _ _=>?_) (λ_ _ _ _=>?_)) | (refine gS ?_;first | exact iY | refine mN ?_ | refine sD ?_ | refine yL ?_ ?_ ?_ | refine gR (by k_dflt assumption) ?_ (λ_ _ _ _=>?_) (λ_ _ _ _=>?_) (λ_ _ _ _=>?_) | refine sC (by k_dflt assumption) ?_ | refine sF ?_ ?_ | refine mM (by k_dflt assumption) ?_ ?_ ?_ | refine sE ?_ ?_ ?_ | refine iX ?_ ?_) | (refine gOp ?_;first | exact wV | exact EA (by k_dflt assumption) | exact wU | exact Ez | exact Ey (by k_dflt assumption) | exact Ag (by k_dflt assumption) | exact Ex | exact Ew | exact Af | exact Ae | exact Ev (by k_dflt assumption) | exact oX (by k_dflt assumption) | exact sN (by k_dflt assumption) | exact Ad | exact Ac | exact Ab) | (refine gC ?_;first | exact pc (by k_dflt assumption) | exact Ai | exact wX | exact lN (by k_dflt assumption) | exact sO) | exact zP | exact wC | exact wF | exact wI | refine zO ?_ | refine sB ?_ ?_ | refine yJ ?_ ?_ | refine wy ?_ | refine zJ ?_ | refine wB ?_ | refine wE ?_ | refine oU (by walk_at "tb") ?_ | refine oT (by walk_at "tb") ?_ | refine zR (by walk_at "tb") ?_ | refine sG ?_ | refine sH ?_ | refine zQ ?_ | exact wJ (by k_dflt assumption) | exact zU (Bq (by kernel_rfl)) | refine sI ?_ ?_ | refine zS ?_ | refine zT ?_ ?_ | exact oZ | exact oY | exact Ah) | refine wD ?_ ?_ | refine mN ?_ | refine sD ?_ | refine yL ?_ ?_ ?_ | refine gR (by k_dflt assumption) ?_ (λ_ _ _ _=>?_) (λ_ _ _ _=>?_) (λ_ _ _ _=>?_) | refine sC (by k_dflt assumption) ?_ | refine sF ?_ ?_ | refine mM (by k_dflt assumption) ?_ ?_ ?_ | refine sE ?_ ?_ ?_ | refine iX ?_ ?_ | exact iY)))
local macro_rules | `(tactic| walk_at "dvl")=>`(tactic| (intro _ _ _ _ _ _ _ _ _ _ _;refine wY rfl ?_;repeat' (first | (with_reducible first | (refine gA ?_;first | exact zV | refine wN ?_ ?_) | exact Ef | (refine Aj ?_;first | exact En | exact k_bl | exact Ej | exact Eh) | (refine EF ?_;first | refine lJ (by k_dflt assumption) ?_ (by walk_at "tb") (by walk_at "tb") | refine lK ?_ (by walk_at "tb") | refine oV (by k_dflt assumption) (by k_dflt assumption) (by k_dflt assumption) ?_ (by walk_at "tb") (λ_ _ _ _ _ _ _ _=>?_) (by k_dflt (exact oR (by kernel_rfl))) (by k_dflt kernel_rfl) (by k_dflt kernel_rfl) (by k_dflt (intro _ _ _ _;kernel_rfl)) | refine wQ ?_ (by walk_at "tb") (by walk_at "bb") ?_ | refine sK ?_ (by walk_at "tb") (by walk_at "bb") ?_ | refine Ep (by k_dflt assumption) (by k_dflt assumption) ?_ | refine wO (by k_dflt assumption) ?_ ?_ | refine Aa (by k_dflt assumption) ?_ ?_ | refine zY (by k_dflt assumption) ?_ ?_ | refine k_ml ?_ ?_ ?_ | refine Ek ?_ ?_) | (refine gIx ?_;first | refine wP ?_ ?_ ?_ | refine zX (by k_dflt assumption) ?_ ?_ (hs:=by k_dflt (intro _ _;kernel_rfl)) | refine k_ix ?_ ?_ (hs:=by k_dflt (intro _ _;kernel_rfl))) | (refine gT ?_;first | refine zN ?_ ?_ ?_ | refine zM ?_ | refine kw_t (sB ?_ ?_) | refine kw_t (yJ ?_ ?_) | refine zL ?_) | (refine gE ?_;first | exact zW | exact zZ | refine k_op ?_ ?_ ?_ | refine Eo ?_ ?_ ?_ | refine Ei ?_ | refine Er ?_ ?_ | refine k_or ?_ ?_ | refine Eg ?_ | refine El ?_ | refine Em ?_ (λ_ _ _ _=>?_) (λ_ _ _ _=>?_) (λ_ _ _ _=>?_)) | (refine gS ?_;first | exact iY | refine mN ?_ | refine sD ?_ | refine yL ?_ ?_ ?_ | refine gR (by k_dflt assumption) ?_ (λ_ _ _ _=>?_) (λ_ _ _ _=>?_) (λ_ _ _ _=>?_) | refine sC (by k_dflt assumption) ?_ | refine sF ?_ ?_ | refine mM (by k_dflt assumption) ?_ ?_ ?_ | refine sE ?_ ?_ ?_ | refine iX ?_ ?_) | (refine gOp ?_;first | exact wV | exact EA (by k_dflt assumption) | exact wU | exact Ez | exact Ey (by k_dflt assumption) | exact Ag (by k_dflt assumption) | exact Ex | exact Ew | exact Af | exact Ae | exact Ev (by k_dflt assumption) | exact oX (by k_dflt assumption) | exact sN (by k_dflt assumption) | exact Ad | exact Ac | exact Ab) | (refine gC ?_;first | exact pc (by k_dflt assumption) | exact Ai | exact wX | exact lN (by k_dflt assumption) | exact sO) | exact zP | exact wC | exact wF | exact wI | refine zO ?_ | refine sB ?_ ?_ | refine yJ ?_ ?_ | refine wy ?_ | refine zJ ?_ | refine wB ?_ | refine wE ?_ | refine oU (by walk_at "tb") ?_ | refine oT (by walk_at "tb") ?_ | refine zR (by walk_at "tb") ?_ | refine sG ?_ | refine sH ?_ | refine zQ ?_ | exact wJ (by k_dflt assumption) | exact zU (Bq (by kernel_rfl)) | refine sI ?_ ?_ | refine zS ?_ | refine zT ?_ ?_ | exact oZ | exact oY | exact Ah) | refine wD ?_ ?_ | refine mN ?_ | refine sD ?_ | refine yL ?_ ?_ ?_ | refine gR (by k_dflt assumption) ?_ (λ_ _ _ _=>?_) (λ_ _ _ _=>?_) (λ_ _ _ _=>?_) | refine sC (by k_dflt assumption) ?_ | refine sF ?_ ?_ | refine mM (by k_dflt assumption) ?_ ?_ ?_ | refine sE ?_ ?_ ?_ | refine iX ?_ ?_ | exact iY)))
section
variable{P:Program}{w:World}{K:AA4}{mg:Str->Option Value}{base:Heap}
def gM(p:Str×Int):D:=.tup [.str p.1,.int p.2]
def Hd(d:D):Prop:=∃(x:Str) (k:Int),d=.tup [.str x,.int k]
theorem hd_eq(ha:Hd a)(hb:Hd b):eqD M (n+1) a b=true↔a=b:=by
 obtain⟨x,k,rfl⟩:=ha
 obtain⟨y,l,rfl⟩:=hb
 show (eqD M n (.str x) (.str y)&&(eqD M n (.int k) (.int l)&&true))=true↔_
 rw[cA,kb]
 simp
theorem hd_ok(ha:Hd a):okD M eqN a=true:=by
 obtain⟨x,k,rfl⟩:=ha
 rfl
theorem hd_key(ha:Hd a):cc 8 a=true:=by
 obtain⟨x,k,rfl⟩:=ha
 rfl
def vecD(hs:List (D×Int)):List D:=hs.map λp=>.tup [p.1,.int p.2]
noncomputable def CA(hs:List (D×Int))(hd:D)(num:Int):Bool:=match hs.find? λp=>decide (p.1=hd) with
 | some p=>decide (num<p.2)
 | none=>false
def plD:Nat->D->Bool
 | n+1,.tup xs=>xs.all (plD n)
 | 0,.tup _=>false
 | _,.ref _=>false
 | _,.ty _=>false
 | _,_=>true
def Pln(n:Nat)(d:D):Prop:=plD n d=true
def kI(n:Nat)(ds:List D):Prop:=ds.all (plD n)=true
theorem Pln.non:Pln n .non:=by cases n<;>rfl
theorem Pln.bl(b:Bool):Pln n (.bl b):=by cases n<;>rfl
theorem Pln.int(i:Int):Pln n (.int i):=by cases n<;>rfl
theorem Pln.str(x:Str):Pln n (.str x):=by cases n<;>rfl
theorem kI.nil:kI n []:=rfl
theorem kI.cons(h:Pln n d)(t:kI n ds):kI n (d::ds):=by
 unfold kI Pln at *
 rw[ABM,h,t];rfl
theorem Pln.tup(h:kI n ds):Pln (n+1) (.tup ds):=h
theorem kI.of(h:∀d∈ds,Pln n d):kI n ds:=AAa.mpr h
theorem bH:∀(n:Nat) (d:D),Pln n d->Bel k d:=by
 intro n
 induction n with
 | zero =>
  intro d h
  cases d with
  | tup xs=>cases h
  | ref i=>cases h
  | ty t=>cases h
  | non=>exact .non
  | bl b=>exact .bl b
  | int i=>exact .int i
  | str x=>exact .str x
 | succ n ih =>
  intro d h
  cases d with
  | tup xs=>exact .tup (Bels.of λx hx=>ih x (AAa.mp h x hx))
  | ref i=>cases h
  | ty t=>cases h
  | non=>exact .non
  | bl b=>exact .bl b
  | int i=>exact .int i
  | str x=>exact .str x
theorem mR:∀{xs:List D},(∀x∈xs,f x x=true)->eqL f xs xs=true
 | [],_=>rfl
 | x::xs,h=>by
  show (f x x&&eqL f xs xs)=true
  rw[h x (by simp),mR λy hy=>h y (AAA _ hy)];rfl
theorem vJ:∀(n m:Nat) (d:D),n<=m->Pln n d->okD M m d=true/\eqD M m d d=true:=by
 intro n
 induction n with
 | zero =>
  intro m d _ h
  cases d with
  | tup xs=>cases h
  | ref i=>cases h
  | ty t=>cases h
  | non=>exact⟨vY,by cases m<;>rfl⟩
  | bl b=>exact⟨zE,by cases m<;>cases b<;>rfl⟩
  | int i=>exact⟨mG,by rw[kb];exact beq_self_eq_true i⟩
  | str x=>exact⟨bb,by rw[cA];exact beq_self_eq_true x⟩
 | succ n ih =>
  intro m d hm h
  cases m with
  | zero=>lia
  | succ m =>
   cases d with
   | tup xs=>exact⟨Bk λx hx=>(ih m x (by lia) (AAa.mp h x hx)).1,mR λx hx=>(ih m x (by lia) (AAa.mp h x hx)).2⟩
   | ref i=>cases h
   | ty t=>cases h
   | non=>exact⟨vY,rfl⟩
   | bl b=>exact⟨zE,by cases b<;>rfl⟩
   | int i=>exact⟨mG,by rw[kb];exact beq_self_eq_true i⟩
   | str x=>exact⟨bb,by rw[cA];exact beq_self_eq_true x⟩
theorem yV(h:Hd d):Pln (n+1) d:=by
 obtain⟨x,i,rfl⟩:=h
 exact .tup (.cons (.str _) (.cons (.int _) .nil))
theorem EB(h:Hd d):Bel k d:=bH 1 d (yV h)
def Deed(d:D):Prop:=∃(t:Int) (hd:D) (num:Int) (act:D),d=.tup [.int t,hd,.int num,act]/\Hd hd/\Pln 5 act
theorem Ca(h:Deed d):Pln 6 d:=by
 obtain⟨t,hd,num,act,rfl,hh,ha⟩:=h
 exact .tup (.cons (.int _) (.cons (yV hh) (.cons (.int _) (.cons ha .nil))))
theorem zj(h:Deed d):Bel k d:=bH 6 d (Ca h)
theorem Fc(h:∀d∈ds,Deed d):Bels k ds:=Bels.of λd hd=>zj (h d hd)
def handD:D->D
 | .tup (_::h::_)=>h
 | _=>.non
def numD:D->Int
 | .tup (_::_::.int n::_)=>n
 | _=>0
noncomputable def many(log:List D)(hd:D):Nat:=(log.filter λd=>decide (handD d=hd)).length
theorem cf:aM (cX kvs k d) k=some d:=by
 unfold cX
 split
 ·rename_i hs
  unfold aM at hs ⊢
  rw[Option.isSome_map]at hs
  obtain⟨q,hq⟩:=ADI.mp hs
  rw[List.find?_map]
  have e:((λp:D×D=>decide (p.1=k)) ∘ λp:D×D=>if p.1=k then(p.1,d)else p)=λp=>decide (p.1=k):=by
   funext p
   show decide ((if p.1=k then(p.1,d)else p).1=k)=decide (p.1=k)
   split<;>rfl
  rw[e,hq]
  have hk:q.1=k:=by
   have:=AED hq
   exact of_decide_eq_true this
  show some (if q.1=k then(q.1,d)else q).2=_
  rw[if_pos hk]
 ·rename_i hs
  unfold aM at hs ⊢
  rw[Option.isSome_map,Option.not_isSome_iff_eq_none]at hs
  rw[List.find?_append,hs]
  simp
theorem cy(h:j≠k):aM (cX kvs k d) j=aM kvs j:=by
 unfold cX
 split
 ·unfold aM
  rw[List.find?_map]
  have e:((λp:D×D=>decide (p.1=j)) ∘ λp:D×D=>if p.1=k then(p.1,d)else p)=λp=>decide (p.1=j):=by
   funext p
   show decide ((if p.1=k then(p.1,d)else p).1=j)=decide (p.1=j)
   split<;>rfl
  rw[e]
  cases hf:kvs.find? λp=>decide (p.1=j) with
  | none=>rfl
  | some q =>
   have hq:q.1=j:=by
    have:=AED hf
    exact of_decide_eq_true this
   show some (if q.1=k then(q.1,d)else q).2=some q.2
   rw[if_neg (by rw[hq];exact h)]
 ·unfold aM
  rw[List.find?_append]
  cases hf:kvs.find? λp=>decide (p.1=j) with
  | none=>simp[ABC h]
  | some q=>rfl
theorem fS:∀{kvs:List (D×D)}{p:D×D},(kvs.map (·.1)).Nodup->p∈kvs->aM kvs p.1=some p.2
 | q::kvs,p,nd,h=>by
  rw[AAi,List.nodup_cons]at nd
  unfold aM
  rw[ADa]
  rcases AAN.mp h with rfl | h
  ·rw[decide_eq_true rfl];rfl
  ·have:q.1≠p.1:=λz=>nd.1 (by rw[z];exact AAp h)
   rw[decide_eq_false this]
   exact fS nd.2 h
theorem bK(h:aM kvs k=some d):(k,d)∈kvs:=by
 unfold aM at h
 obtain⟨q,hq,rfl⟩:=ABT.mp h
 have e:q.1=k:=by
  have:=AED hq
  exact of_decide_eq_true this
 rw[←e]
 exact List.mem_of_find?_eq_some hq
theorem cI{α:Type}{P:List α->Prop}(h0:P [])(h1:∀l x,P l->P (l++[x]))(l:List α):P l:=by
 rw[←List.reverse_reverse l]
 induction l.reverse with
 | nil=>exact h0
 | cons x xs ih=>rw[List.reverse_cons];exact h1 _ _ ih
theorem iV(hL:am M n xs)(ok:∀x∈xs,okD (M++[MO.lst []]) 29 x=true):(okD (M++[MO.lst []]) eqN (.ref n)=true/\okD (M++[MO.lst []]) eqN (.ref M.length)=true)/\eqD (M++[MO.lst []]) eqN (.ref n) (.ref M.length)=xs.isEmpty:=by
 have h1:am (M++[MO.lst []]) n xs:=hL.more _
 have h2:am (M++[MO.lst []]) M.length []:=ay
 refine⟨⟨mF (n:=29) h1 ok,mF (n:=29) h2 λ_ z=>nomatch z⟩,?_⟩
 exact(sS (n:=29) h1 h2).trans BN
theorem lst_ne(h:m≠n)(l:am M m xs):am (M.set n x) m xs:=by
 rcases l with l | l | l
 ·exact .inl (by rw[AAq (ABC h)];exact l)
 ·exact .inr (.inl (by rw[AAq (ABC h)];exact l))
 ·exact .inr (.inr (by rw[AAq (ABC h)];exact l))
theorem ap{M:Mem}{m n:Nat}{x y:MO}(h:m≠n)(l:M[m]?=some y):(M.set n x)[m]?=some y:=by rw[AAq (ABC h)];exact l
theorem aF{M:Mem}{m:Nat}{y:MO}(l:M[m]?=some y):m<M.length:=(AA7.mp l).1
theorem DY(l:am M m xs):m<M.length:=by
 rcases l with l | l | l<;>exact aF l
theorem ac{B:Mem}{q:Nat}{x a:MO}(h:B[q]?=some x):(B++[a])[q]?=some x:=by
 rw[AAP (AA7.mp h).1];exact h
theorem bn{B:Mem}{q:Nat}{x a:MO}(h:B[q]?=some x):(B.set q a)[q]?=some a:=AAj (AA7.mp h).1
theorem qy(p:M <+: B)(l:am M q xs):am B q xs:=by
 obtain⟨L,rfl⟩:=p
 exact l.more L
theorem bv{M B:Mem}{q:Nat}{x:MO}(p:M <+: B)(l:M[q]?=some x):B[q]?=some x:=by
 obtain⟨L,rfl⟩:=p
 rw[AAP (aF l)];exact l
theorem ints_bel(xs:List Int):Bels k (xs.map D.int):=Bels.of λd hd=>by
 obtain⟨x,_,rfl⟩:=AAO.mp hd
 exact .int x
theorem rZ(xs:List Str):Bels k (xs.map D.str):=Bels.of λd hd=>by
 obtain⟨x,_,rfl⟩:=AAO.mp hd
 exact .str x
theorem su{a b:Int}(h:0<b):0<=a % b:=Int.emod_nonneg _ (by lia)
theorem sw{a b:Int}(h:0<b):a % b<b:=Int.emod_lt_of_pos _ h
theorem at_mod{α:Type}{xs:List α}{i:Int}(h:1<=xs.length):∃x∈xs,atI xs (i % (xs.length:Int))=some x:=by
 obtain⟨j,hj,ej,_⟩:=eT (xs:=xs) (su (a:=i) (b:=xs.length) (by lia)) (sw (by lia))
 exact⟨xs[j],AB8 hj,ej⟩
theorem bG(p:M <+: B)(h:M.length<=q):M <+: B.set q x:=by
 obtain⟨L,rfl⟩:=p
 rw[ADv _ _ h]
 exact AAf _ _
def dE(p:Str×Int):List D:=(pT 0 p.2.toNat).map λk=>.tup [.str p.1,k]
def ar(ps:List (Str×Int)):List D:=ps.flatMap dE
def Few(ps:List (Str×Int)):Prop:=ps.length<=4/\∀p∈ps,0<=p.2/\p.2<=3
theorem fW:(dE p).length=p.2.toNat:=by simp[dE,pT]
theorem lO(h:∀p∈ps,0<=p.2/\p.2<=3):(ar ps).length<=3*ps.length:=by
 induction ps with
 | nil=>simp[ar]
 | cons p ps ih =>
  have:=ih λq hq=>h q (AAA _ hq)
  have h1:=h p AAI
  have e:(ar (p::ps)).length=p.2.toNat+(ar ps).length:=by
   rw[ar,List.flatMap_cons,AAB,fW];rfl
  rw[e,AAJ]
  lia
theorem iZ:∀d∈ar ps,Hd d:=λd hd=>by
 unfold ar at hd
 obtain⟨p,_,hp⟩:=List.mem_flatMap.mp hd
 unfold dE pT at hp
 simp only[AB6,AAO]at hp
 obtain⟨i,_,rfl⟩:=hp
 exact⟨_,_,rfl⟩
theorem ug:Bels k (ar ps):=Bels.of λd hd=>EB (iZ d hd)
def jz(p:Str×List Str):D:=.tup [.str p.1,.tup (p.2.map .str)]
def aG(ps:List (Str×Int))(rs:List (Str×List Str)):D:=.tup [.tup (ps.map gM),.tup (rs.map jz)]
structure HouseF(ps:List (Str×Int))(rs:List (Str×List Str)):Prop where
 len:1<=ps.length/\ps.length<=4
 many:∀p∈ps,1<=p.2/\p.2<=3
 nm:∀p∈ps,p.1.length<=8
 rl:1<=rs.length/\rs.length<=4
 pnd:(ps.map (·.1)).Nodup
 rnd:(rs.map (·.1)).Nodup
 rm:∀r∈rs,r.2.length<=4
def St(d:D):Prop:=∃(t:Int) (z:Str) (k:Int),d=.tup [.int t,.tup [.str z,.int k]]
theorem St.key(h:St d):cc 8 d=true:=by obtain⟨t,z,k,rfl⟩:=h;rfl
theorem St.ok(h:St d):okD M eqN d=true:=by obtain⟨t,z,k,rfl⟩:=h;rfl
theorem St.pl(h:St d):Pln (n+2) d:=by
 obtain⟨t,z,k,rfl⟩:=h
 exact .tup (.cons (.int _) (.cons (.tup (.cons (.str _) (.cons (.int _) .nil))) .nil))
theorem St.eq(ha:St a)(hb:St b):eqD M (n+2) a b=decide (a=b):=by
 obtain⟨t,z,k,rfl⟩:=ha
 obtain⟨t',z',k',rfl⟩:=hb
 have e:eqD M (n+2) (.tup [.int t,.tup [.str z,.int k]]) (.tup [.int t',.tup [.str z',.int k']])=((t==t')&&(((z==z')&&((k==k')&&true))&&true)):=by
  show (eqD M (n+1) (.int t) (.int t')&&((eqD M n (.str z) (.str z')&&(eqD M n (.int k) (.int k')&&true))&&true))=_
  rw[kb,cA,kb]
 rw[e]
 by_cases h:D.tup [.int t,.tup [.str z,.int k]]=.tup [.int t',.tup [.str z',.int k']]
 ·rw[decide_eq_true h]
  simp only[D.tup.injEq,ADV,D.int.injEq,D.str.injEq,and_true]at h
  obtain⟨rfl,rfl,rfl⟩:=h
  simp
 ·rw[decide_eq_false h]
  simp only[D.tup.injEq,ADV,D.int.injEq,D.str.injEq,and_true]at h
  refine ABL.mpr λq=>h ?_
  simpa using q
theorem St.tup(h:St d):∃ks,d=.tup ks:=by obtain⟨t,z,k,rfl⟩:=h;exact⟨_,rfl⟩
structure ActK(rs:List (Str×List Str))(x:Str)(ds:List D):Prop where
 say:x=AA1 "say"->∃(r:Str) (u:D) (s:Str),ds=[.str r,u,.str s]/\r∈rs.map (·.1)/\(u=.non\/St u)
 change:x=AA1 "change"->∃(m:D) (s:Str),ds=[m,.str s]/\St m
 back:x=AA1 "back"->∃m:D,ds=[m]/\St m
 like:x=AA1 "like"->∃(m:D) (s:Str) (b:Bool),ds=[m,.str s,.bl b]/\St m
section
variable{rs:List (Str×List Str)}
theorem ux:AA1 "say"≠AA1 "change"/\AA1 "say"≠AA1 "back"/\AA1 "say"≠AA1 "like"/\AA1 "change"≠AA1 "back"/\AA1 "change"≠AA1 "like"/\AA1 "back"≠AA1 "like":=by decide +kernel
theorem ActK.mkSay(hr:r∈rs.map (·.1))(hu:u=.non\/St u):ActK rs (AA1 "say") [.str r,u,.str s] :=
 ⟨λ_=>⟨r,u,s,rfl,hr,hu⟩,λe=>absurd e ux.1,λe=>absurd e ux.2.1,λe=>absurd e ux.2.2.1⟩
theorem ActK.mkChange(h:St m):ActK rs (AA1 "change") [m,.str s] :=
 ⟨λe=>absurd e.symm ux.1,λ_=>⟨m,s,rfl,h⟩,λe=>absurd e ux.2.2.2.1,λe=>absurd e ux.2.2.2.2.1⟩
theorem ActK.mkBack(h:St m):ActK rs (AA1 "back") [m] :=
 ⟨λe=>absurd e.symm ux.2.1,λe=>absurd e.symm ux.2.2.2.1,λ_=>⟨m,rfl,h⟩,λe=>absurd e ux.2.2.2.2.2⟩
theorem ActK.mkLike(h:St m):ActK rs (AA1 "like") [m,.str s,.bl b] :=
 ⟨λe=>absurd e.symm ux.2.2.1,λe=>absurd e.symm ux.2.2.2.2.1,λe=>absurd e.symm ux.2.2.2.2.2,λ_=>⟨m,s,b,rfl,h⟩⟩
theorem ActK.mkNone(h:x≠AA1 "say"/\x≠AA1 "change"/\x≠AA1 "back"/\x≠AA1 "like"):ActK rs x ds :=
 ⟨λe=>absurd e h.1,λe=>absurd e h.2.1,λe=>absurd e h.2.2.1,λe=>absurd e h.2.2.2⟩
end
def aT(ps:List (Str×Int))(rs:List (Str×List Str))(d:D):Prop:=∃(t:Int) (z:Str) (k num:Int) (x:Str) (ds:List D),d=.tup [.int t,.tup [.str z,.int k],.int num,.tup (.str x::ds)]/\1<=t/\D.tup [.str z,.int k]∈ar ps/\kI 4 ds/\ActK rs x ds
section
variable{ps:List (Str×Int)}{rs:List (Str×List Str)}
theorem aT.pl(h:aT ps rs d):Pln 6 d:=by
 obtain⟨t,z,k,num,x,ds,rfl,_,_,hp,_⟩:=h
 exact .tup (.cons (.int _) (.cons (yV ⟨_,_,rfl⟩) (.cons (.int _) (.cons (.tup (.cons (.str _) hp)) .nil))))
theorem aT.bels(h:∀d∈ds,aT ps rs d):Bels k ds:=Bels.of λd hd=>bH 6 d (h d hd).pl
end
def cU:D->Str
 | .tup [_,_,_,.tup (.str x::_)]=>x
 | _=>AA1 ""
def gO:D->Str
 | .tup (_::.tup (.str z::_)::_)=>z
 | _=>AA1 ""
def stD:D->D
 | .tup (t::h::_)=>.tup [t,h]
 | _=>.non
def cE:D->Str
 | .tup [_,_,_,.tup (_::.str r::_)]=>r
 | _=>AA1 ""
def df:D->D
 | .tup [_,_,_,.tup (_::_::u::_)]=>u
 | _=>.non
def tW:D->D
 | .tup [_,_,_,.tup (_::m::_)]=>m
 | _=>.non
def sayO:D->D
 | .tup [_,_,_,.tup (_::_::_::s::_)]=>s
 | _=>.non
def numO:D->D
 | .tup [_,_,n,_]=>n
 | _=>.non
def sortO:D->Str
 | .tup [_,_,_,.tup (_::_::.str s::_)]=>s
 | _=>AA1 ""
def onO:D->Bool
 | .tup [_,_,_,.tup (_::_::_::.bl b::_)]=>b
 | _=>false
def uy(rs:List (Str×List Str))(r:Str):List Str:=((rs.find? λp=>decide (p.1=r)).map (·.2)).getD []
noncomputable def kinds(log:List D)(k:Str):List D:=log.filter λd=>decide (cU d=k)
section
variable{ps:List (Str×Int)}{rs:List (Str×List Str)}
theorem gB(h:aT ps rs d)(e:cU d=AA1 "say"):∃(t:Int) (z:Str) (k num:Int) (r:Str) (u:D) (s:Str),d=.tup [.int t,.tup [.str z,.int k],.int num,.tup [.str (AA1 "say"),.str r,u,.str s]]/\1<=t/\D.tup [.str z,.int k]∈ar ps/\r∈rs.map (·.1)/\(u=.non\/St u):=by
 obtain⟨t,z,k,num,x,ds,rfl,h1,h2,_,ha⟩:=h
 obtain rfl:x=AA1 "say":=e
 obtain⟨r,u,s,rfl,hr,hu⟩:=ha.say rfl
 exact⟨t,z,k,num,r,u,s,rfl,h1,h2,hr,hu⟩
theorem kn(h:aT ps rs d)(e:cU d=AA1 "change"):∃(t:Int) (z:Str) (k num:Int) (m:D) (s:Str),d=.tup [.int t,.tup [.str z,.int k],.int num,.tup [.str (AA1 "change"),m,.str s]]/\St m:=by
 obtain⟨t,z,k,num,x,ds,rfl,h1,h2,_,ha⟩:=h
 obtain rfl:x=AA1 "change":=e
 obtain⟨m,s,rfl,hm⟩:=ha.change rfl
 exact⟨t,z,k,num,m,s,rfl,hm⟩
theorem xC(h:aT ps rs d)(e:cU d=AA1 "back"):∃(t:Int) (z:Str) (k num:Int) (m:D),d=.tup [.int t,.tup [.str z,.int k],.int num,.tup [.str (AA1 "back"),m]]/\St m:=by
 obtain⟨t,z,k,num,x,ds,rfl,h1,h2,_,ha⟩:=h
 obtain rfl:x=AA1 "back":=e
 obtain⟨m,rfl,hm⟩:=ha.back rfl
 exact⟨t,z,k,num,m,rfl,hm⟩
theorem like_of(h:aT ps rs d)(e:cU d=AA1 "like"):∃(t:Int) (z:Str) (k num:Int) (m:D) (s:Str) (b:Bool),d=.tup [.int t,.tup [.str z,.int k],.int num,.tup [.str (AA1 "like"),m,.str s,.bl b]]/\St m:=by
 obtain⟨t,z,k,num,x,ds,rfl,h1,h2,_,ha⟩:=h
 obtain rfl:x=AA1 "like":=e
 obtain⟨m,s,b,rfl,hm⟩:=ha.like rfl
 exact⟨t,z,k,num,m,s,b,rfl,hm⟩
end
local macro_rules | `(tactic| walk_at "ifs")=>`(tactic| simp only[zD,AAE,↓reduceIte,ABg,Bool.not_false])
noncomputable def iC(rs:List (Str×List Str))(kvs:List (D×D))(d:D):Bool:=decide (gO d∈uy rs (cE d))&&(decide (df d=.non)||match aM kvs (df d) with
 | some e=>decide (cE e=cE d)
 | none=>false)
noncomputable def tK(rs:List (Str×List Str))(kvs:List (D×D))(d:D):List (D×D):=if iC rs kvs d=true then cX kvs (stD d) d else kvs
noncomputable def aN(rs:List (Str×List Str))(l:List D):List (D×D):=l.foldl (tK rs) []
theorem dJ:aN rs (l++[d])=tK rs (aN rs l) d:=by
 unfold aN
 rw[List.foldl_append];rfl
noncomputable def af(rs:List (Str×List Str))(log:List D):List (D×D):=aN rs (kinds log (AA1 "say"))
theorem ud:kinds (log++[d]) k=kinds log k++if cU d=k then[d]else[]:=by
 unfold kinds
 rw[ACR]
 congr 1
 by_cases h:cU d=k
 ·rw[AC9,decide_eq_true h,if_pos rfl,if_pos h];rfl
 ·rw[AC9,decide_eq_false h,if_neg (by decide),if_neg h];rfl
theorem bd(h:d∈kinds log k):d∈log/\cU d=k:=⟨(AAX.mp h).1,of_decide_eq_true (AAX.mp h).2⟩
theorem bJ:(kinds log k).length<=log.length:=AB4 _ _
structure TabK(l:List D)(kvs:List (D×D)):Prop where
 nd:(kvs.map (·.1)).Nodup
 en:∀p∈kvs,p.1=stD p.2/\p.2∈l
 len:kvs.length<=l.length
theorem ff(h:p∈cX kvs k d):p=(k,d)\/p∈kvs:=by
 unfold cX at h
 split at h
 ·obtain⟨q,hq,rfl⟩:=AAO.mp h
  split
  ·rename_i e;rw[e];exact .inl rfl
  ·exact .inr hq
 ·rcases AAl.mp h with h | h
  ·exact .inr h
  ·exact .inl (by simpa using h)
theorem jB:(cX kvs k d).length<=kvs.length+1:=by
 unfold cX
 split
 ·rw[AA6];lia
 ·simp
theorem fj(l:List D):TabK l (aN rs l):=by
 refine cI (P:=λl=>TabK l (aN rs l)) ⟨.nil,(λ_ z=>nomatch z),AA8 _⟩ (λl d ih=>?_) l
 rw[dJ]
 unfold tK
 have hs:∀p∈aN rs l,p.1=stD p.2/\p.2∈l++[d]:=λp hp=>⟨(ih.en p hp).1,AAW _ (ih.en p hp).2⟩
 have hl:=ih.len
 split
 ·refine⟨mq ih.nd,λp hp=>?_,?_⟩
  ·rcases ff hp with rfl | hp
   ·exact⟨rfl,by simp⟩
   ·exact hs p hp
  ·have:=jB (kvs:=aN rs l) (k:=stD d) (d:=d)
   rw[AAB,AAY];lia
 ·exact⟨ih.nd,hs,by rw[AAB,AAY];lia⟩
theorem aW:TabK (kinds log (AA1 "say")) (af rs log):=fj _
theorem xa(t:TabK l kvs)(h:aM kvs k=some e):k=stD e/\e∈l:=t.en _ (bK h)
noncomputable def byW(kvs:List (D×D))(d:D):Bool:=match aM kvs (tW d) with
 | some e=>decide (gO d=gO e)
 | none=>false
def NmK(d:D):Prop:=∃(a:D) (z:Str) (r1 r2:List D),d=.tup (a::.tup (.str z::r1)::r2)
section
variable{ps:List (Str×Int)}{rs:List (Str×List Str)}
theorem aT.nm(h:aT ps rs d):NmK d:=by
 obtain⟨t,z,k,num,x,ds,rfl,_⟩:=h
 exact⟨_,_,_,_,rfl⟩
theorem aT.st(h:aT ps rs d):St (stD d):=by
 obtain⟨t,z,k,num,x,ds,rfl,_⟩:=h
 exact⟨_,_,_,rfl⟩
theorem St.cm(ha:St a)(hb:St b):iM M eqN a b=true:=by
 obtain⟨t,z,k,rfl⟩:=ha
 obtain⟨t',z',k',rfl⟩:=hb
 show (if eqD M 29 (.int t) (.int t')=true then(if eqD M 29 (.tup [.str z,.int k]) (.tup [.str z',.int k'])=true then true else(if eqD M 28 (.str z) (.str z')=true then(if eqD M 28 (.int k) (.int k')=true then true else true)else true))else true)=true
 repeat' split
 all_goals rfl
theorem vp(h:∀x∈xs,St x)(l:xs.length<64):SrtOk M xs:=by
 refine⟨l,λx hx=>?_,λx hx y hy=>(h x hx).cm (h y hy),.inr (.inr (.inr (.inl λx hx=>?_)))⟩
 ·obtain⟨t,z,k,rfl⟩:=h x hx;rfl
 ·obtain⟨t,z,k,rfl⟩:=h x hx;exact⟨_,_,rfl⟩
end
def aO(kvs:List (D×D))(log:List D)(k:D):Prop:=∃d∈kinds log (AA1 "back"),byW kvs d=true/\tW d=k
theorem mn(h:k∉kvs.map (·.1)):cX kvs k d=kvs++[(k,d)]:=by
 unfold cX
 rw[if_neg]
 intro z
 obtain⟨e,he⟩:=ADI.mp z
 exact h (AAp (f:=(·.1)) (bK he))
theorem xn(ps:List (D×D))(h:(ps.map (·.1)).Nodup):dictOf ps=ps:=by
 revert h
 refine cI (P:=λps=>(ps.map (·.1)).Nodup->dictOf ps=ps) (λ_=>rfl) (λps p ih h=>?_) ps
 rw[AAm]at h
 have h':=ABv.mp h
 rw[dG,ih h'.1,mn]
 intro z
 exact h'.2.2 _ z _ (by simp) rfl
theorem qK{M:Mem}{x:Str}{l:List Str}:inD M (.str x) (l.map .str)=decide (x∈l):=by
 unfold inD
 rw[List.any_map]
 by_cases h:x∈l
 ·rw[decide_eq_true h]
  exact ADz.mpr ⟨x,h,by show eqD M eqN (.str x) (.str x)=true;rw[cA];exact beq_self_eq_true x⟩
 ·rw[decide_eq_false h]
  refine ABL.mpr λz=>?_
  obtain⟨y,hy,e⟩:=ADz.mp z
  have e':eqD M eqN (.str y) (.str x)=true:=e
  rw[cA]at e'
  exact h (eq_of_beq e' ▸ hy)
theorem qf{M:Mem}{l:List Str}:(l.map D.str).all (okD M eqN)=true:=AAa.mpr λx hx=>by
 obtain⟨y,_,rfl⟩:=AAO.mp hx
 exact bb
noncomputable def bz(rs:List (Str×List Str))(log:List D):List (D×D):=(af rs log).filter λp=>@decide (¬aO (af rs log) log p.1) (AA9 _)
theorem gz:p∈bz rs log↔p∈af rs log/\¬aO (af rs log) log p.1:=by
 unfold bz
 rw[List.mem_filter]
 exact and_congr Iff.rfl (@decide_eq_true_iff _ (AA9 _))
theorem sf:((bz rs log).map (·.1)).Nodup:=(AEF.map _).nodup aW.nd
theorem CS(h:aM (af rs log) k=some e)(hb:¬aO (af rs log) log k):aM (bz rs log) k=some e:=fS (p:=(k,e)) sf (gz.mpr ⟨bK h,hb⟩)
noncomputable def cJ(kvs:List (D×D))(log:List D):List (D×D):=dictOf (((kinds log (AA1 "change")).filter (byW kvs)).map λd=>(tW d,df d))
noncomputable def Cr(ch:List (D×D))(d:D):D:=.tup [stD d,.str (cE d),df d,.str (gO d),(aM ch (stD d)).getD (sayO d),.bl (aM ch (stD d)).isSome]
noncomputable def ak(rs:List (Str×List Str))(log:List D):List D:=(bz rs log).map λp=>Cr (cJ (bz rs log) log) p.2
structure BackL(rs:List (Str×List Str))(log:List D)(ys:List D):Prop where
 st:∀x∈ys,St x
 mem:∀x,x∈ys↔aO (af rs log) log x
 nd:ys.Nodup
 up:ys.Pairwise λa b=>¬enc eqN b<enc eqN a
def Ao:D->D
 | .tup [_,_,_,a]=>a
 | _=>.non
noncomputable def jx(l:List D):List (D×D):=l.foldl (λkvs d=>cX kvs (stD d) (Ao d)) []
noncomputable def ya(log:List D):List (D×D):=jx (kinds log (AA1 "say"))
theorem eY:jx (l++[d])=cX (jx l) (stD d) (Ao d):=by
 unfold jx
 rw[List.foldl_append];rfl
theorem Co:ya (log++[d])=if cU d=AA1 "say" then cX (ya log) (stD d) (Ao d)else ya log:=by
 unfold ya
 rw[ud]
 split
 ·rw[eY]
 ·rw[ABI]
theorem said_en(l:List D):∀p∈jx l,∃d∈l,p=(stD d,Ao d):=by
 refine cI (P:=λl=>∀p∈jx l,∃d∈l,p=(stD d,Ao d)) (λ_ z=>nomatch z) (λl d ih p hp=>?_) l
 rw[eY]at hp
 rcases ff hp with rfl | hp
 ·exact⟨d,by simp,rfl⟩
 ·obtain⟨e,he,r⟩:=ih p hp
  exact⟨e,AAW _ he,r⟩
theorem said_len(l:List D):(jx l).length<=l.length:=by
 refine cI (P:=λl=>(jx l).length<=l.length) (AA8 _) (λl d ih=>?_) l
 rw[eY,AAB,AAY]
 have:=jB (kvs:=jx l) (k:=stD d) (d:=Ao d)
 lia
def Ris(l:List D):Prop:=l.Pairwise λa b=>enc eqN (stD a)<enc eqN (stD b)
theorem Ris.one(h:Ris l):∀a∈l,∀b∈l,stD a=stD b->a=b:=by
 induction l with
 | nil=>intro a ha;cases ha
 | cons x l ih =>
  obtain⟨h1,h2⟩:=List.pairwise_cons.mp h
  intro a ha b hb e
  rcases AAN.mp ha with ea | ha'<;>rcases AAN.mp hb with eb | hb'
  ·rw[ea,eb]
  ·have:=h1 b hb';rw[←ea,e]at this;exact absurd this (ABG _)
  ·have:=h1 a ha';rw[←eb,e]at this;exact absurd this (ABG _)
  ·exact ih h2 a ha' b hb' e
theorem said_has(h:Ris l):∀d∈l,aM (jx l) (stD d)=some (Ao d):=by
 revert h
 refine cI (P:=λl=>Ris l->∀d∈l,aM (jx l) (stD d)=some (Ao d)) (λ_ _ z=>nomatch z) (λl x ih h d hd=>?_) l
 obtain⟨h1,_,h3⟩:=AE1.mp h
 rw[eY]
 rcases AAl.mp hd with hd | hd
 ·have:=h3 d hd x (by simp)
  rw[cy (λe=>by rw[e]at this;exact ABG _ this)]
  exact ih h1 d hd
 ·rw[show d=x by simpa using hd,cf]
inductive Stn(rs:List (Str×List Str))(l:List D):D->Prop
 | top {d:D} (h:d∈l) (m:gO d∈uy rs (cE d)) (u:df d=.non):Stn rs l d
 | sub {d e:D} (h:d∈l) (m:gO d∈uy rs (cE d)) (s:Stn rs l e) (u:df d=stD e) (o:enc eqN (stD e)<enc eqN (stD d)) (r:cE e=cE d):Stn rs l d
theorem Stn.mem(h:Stn rs l d):d∈l:=by cases h<;>assumption
theorem Stn.nm(h:Stn rs l d):gO d∈uy rs (cE d):=by cases h<;>assumption
theorem Stn.more(h:Stn rs l d):Stn rs (l++l') d:=by
 induction h with
 | top h m u=>exact .top (AAW _ h) m u
 | sub h m _ u o r ih=>exact .sub (AAW _ h) m ih u o r
theorem Stn.less(hl:∀y∈l,enc eqN (stD y)<enc eqN (stD x))(h:Stn rs (l++[x]) d):d∈l->Stn rs l d:=by
 induction h with
 | top h m u=>exact λhd=>.top hd m u
 | sub h m s u o r ih =>
  intro hd
  rename_i d e
  rcases AAl.mp s.mem with he | he
  ·exact .sub hd m (ih he) u o r
  ·rw[show e=x by simpa using he]at o
   exact absurd (List.lt_trans o (hl d hd)) (ABG _)
theorem xt(hu:∀d∈l,df d=.non\/St (df d))(hS:∀d∈l,St (stD d))(h:Ris l):∀d∈l,aM (aN rs l) (stD d)=some d↔Stn rs l d:=by
 revert h hu hS
 refine cI (P:=λl=>(∀d∈l,df d=.non\/St (df d))->(∀d∈l,St (stD d))->Ris l->∀d∈l,aM (aN rs l) (stD d)=some d↔Stn rs l d) (λ_ _ _ _ z=>nomatch z) (λl x ih hu hS h d hd=>?_) l
 obtain⟨h1,_,h3⟩:=AE1.mp h
 have lx:∀y∈l,enc eqN (stD y)<enc eqN (stD x):=λy hy=>h3 y hy x (by simp)
 have ih':=ih (λd hd=>hu d (AAW _ hd)) (λd hd=>hS d (AAW _ hd)) h1
 have tb:=fj (rs:=rs) l
 have nx:aM (aN rs l) (stD x)=none:=by
  cases e:aM (aN rs l) (stD x) with
  | none=>rfl
  | some e' =>
   obtain⟨e1,e2⟩:=xa tb e
   have:=lx e' e2
   rw[←e1]at this
   exact absurd this (ABG _)
 rw[dJ]
 unfold tK
 rcases AAl.mp hd with hd | hd
 ·have ne:stD d≠stD x:=λe=>by have:=lx d hd;rw[e]at this;exact ABG _ this
  have:aM (if iC rs (aN rs l) x=true then cX (aN rs l) (stD x) x else aN rs l) (stD d)=aM (aN rs l) (stD d):=by
   split
   ·exact cy ne
   ·rfl
  rw[this,ih' d hd]
  exact⟨Stn.more,λz=>z.less lx hd⟩
 ·obtain rfl:d=x:=by simpa using hd
  have sb:aM (if iC rs (aN rs l) d=true then cX (aN rs l) (stD d) d else aN rs l) (stD d)=some d↔iC rs (aN rs l) d=true:=by
   split
   ·rename_i e;rw[cf];exact⟨λ_=>e,λ_=>rfl⟩
   ·rename_i e;rw[nx];exact⟨λz=>(by cases z),λz=>absurd z e⟩
  rw[sb]
  unfold iC
  rw[AAV,AE9,decide_eq_true_eq,decide_eq_true_eq]
  constructor
  ·rintro⟨m,u | u⟩
   ·exact .top (by simp) m u
   ·cases e:aM (aN rs l) (df d) with
    | none=>rw[e]at u;cases u
    | some e' =>
     rw[e]at u
     obtain⟨e1,e2⟩:=xa tb e
     rw[e1]at e
     exact .sub (by simp) m ((ih' e' e2).mp e).more e1 (lx e' e2) (of_decide_eq_true u)
  ·intro s
   cases s with
   | top _ m u=>exact⟨m,.inl u⟩
   | @sub _ e _ m s u o r =>
    have he:e∈l:=by
     rcases AAl.mp s.mem with he | he
     ·exact he
     ·rw[show e=d by simpa using he]at o
      exact absurd o (ABG _)
    refine⟨m,.inr ?_⟩
    rw[u,(ih' e he).mpr (s.less lx he)]
    exact decide_eq_true r
theorem BL{α:Type}{p q:α->Bool}{x:α}(hpq:∀y,p y=true->q y=true)(hq:q x=true)(hp:p x=false):∀{l:List α},x∈l->(l.filter p).length<(l.filter q).length
 | y::l,h=>by
  have mono:∀l:List α,(l.filter p).length<=(l.filter q).length:=λl=>by
   induction l with
   | nil=>exact AA8 _
   | cons z l ih =>
    rw[AC9,AC9]
    cases e:p z with
    | true=>rw[hpq z e,if_pos rfl,if_pos rfl,AAJ,AAJ];lia
    | false =>
     rw[if_neg (by decide)]
     split
     ·rw[AAJ];lia
     ·exact ih
  rw[AC9,AC9]
  rcases AAN.mp h with rfl | h
  ·rw[hp,hq,if_neg (by decide),if_pos rfl,AAJ]
   have:=mono l
   lia
  ·have ih:=BL hpq hq hp h
   cases e:p y with
   | true=>rw[hpq y e,if_pos rfl,if_pos rfl,AAJ,AAJ];lia
   | false =>
    rw[if_neg (by decide)]
    split
    ·rw[AAJ];lia
    ·exact ih
def HdP(M:Mem)(q:Nat):Prop:=∃n:Int,M[q]?=some (.lst [.int n])
def Hl(M B:Mem)(q:Nat):Prop:=∃(n:Int) (L:Mem),B=M.set q (.lst [.int n])++L
section
variable{M B:Mem}{q m i:Nat}{n:Int}{x:MO}
theorem xX(h:M[q]?=some x):M.set q x=M:=by
 refine ADj λj=>?_
 by_cases e:q=j
 ·subst e;rw[AAj (aF h),h]
 ·rw[AAq e]
theorem HdP.lt(h:HdP M q):q<M.length:=by obtain⟨n,h⟩:=h;exact aF h
theorem HdP.start(h:HdP M q):Hl M M q:=by
 obtain⟨n,h⟩:=h
 exact⟨n,[],by rw[ABI,xX h]⟩
theorem Hl.len(h:Hl M B q):M.length<=B.length:=by
 obtain⟨n,L,rfl⟩:=h
 rw[AAB,AAw];lia
theorem Hl.hd(hq:q<M.length)(h:Hl M B q):HdP B q:=by
 obtain⟨n,L,rfl⟩:=h
 exact⟨n,by rw[AAP (by rw[AAw];exact hq),AAj hq]⟩
theorem Hl.set(hq:q<M.length)(h:Hl M B q):Hl M (B.set q (.lst [.int n])) q:=by
 obtain⟨n',L,rfl⟩:=h
 exact⟨n,L,by rw[List.set_append_left _ _ (by rw[AAw];exact hq),List.set_set]⟩
theorem Hl.more(h:Hl M B q):Hl M (B++L) q:=by
 obtain⟨n',L',rfl⟩:=h
 exact⟨n',L'++L,by rw[AAs]⟩
theorem Hl.setO(h:Hl M B q)(hm:M.length<=m):Hl M (B.set m x) q:=by
 obtain⟨n',L,rfl⟩:=h
 exact⟨n',L.set (m-M.length) x,by rw[ADv _ _ (by rw[AAw];exact hm),AAw]⟩
theorem Hl.old(h:Hl M B q)(hi:i≠q)(e:M[i]?=some x):B[i]?=some x:=by
 obtain⟨n',L,rfl⟩:=h
 rw[AAP (by rw[AAw];exact aF e),AAq (ABC hi)]
 exact e
theorem Hl.oldL(h:Hl M B q)(hi:i≠q)(e:am M i xs):am B i xs:=by
 rcases e with e | e | e
 ·exact .inl (h.old hi e)
 ·exact .inr (.inl (h.old hi e))
 ·exact .inr (.inr (h.old hi e))
theorem Hl.fin(h:Hl M B q)(b:Bel M.length d)(k:∀n:Int,R d (M.set q (.lst [.int n]))):bD M R d B:=by
 obtain⟨n',L,rfl⟩:=h
 exact bD.chg (Chg.set .refl (.cons (.int _) .nil)) (k n') b (AAf _ _)
theorem Hl.finL(h:Hl M B q)(hm:M.length<=m)(e:B[m]?=some (.lst xs))(b:Bels M.length xs)(k:∀n:Int,R (.ref M.length) (M.set q (.lst [.int n])++[.lst xs])):bD M R (.ref m) B:=by
 obtain⟨n',L,rfl⟩:=h
 exact bD.chgL (Chg.set .refl (.cons (.int _) .nil)) (k n') hm e (AAf _ _) b
end
theorem yS(u:Option Int)(n:Nat):ACx none u 1 n=ACx (some ((0:Nat):Int)) u 1 n:=by
 unfold ACx
 simp only[show (1:Int) > 0 by decide,if_true]
 congr 1
theorem xW(x:Str)(b:Nat):(AE8 x none (some (b:Int))).cps.toList=x.cps.toList.take b:=by
 have e:=vA x (a:=0) (b:=b) (AAS _)
 rw[gx]at e ⊢
 rw[yS]
 rw[e];simp
theorem xV(x:Str)(b:Nat):(AE8 x none (some (b:Int))).length<=b:=by
 rw[jU,xW,AB2];lia
theorem xT{M:Mem}{l:List Str}(h:l.length<64):SrtOk M (l.map .str) :=
 ⟨by rw[AA6];exact h,λx hx=>by obtain⟨y,_,rfl⟩:=AAO.mp hx;rfl,λx hx y hy=>by
  obtain⟨a,_,rfl⟩:=AAO.mp hx
  obtain⟨b,_,rfl⟩:=AAO.mp hy
  rfl,.inl λx hx=>by obtain⟨y,_,rfl⟩:=AAO.mp hx;exact⟨y,rfl⟩⟩
theorem oB{ys:List D}{xs:List Str}(h:ys.Perm (xs.map .str)):∃zs:List Str,ys=zs.map .str/\zs.Perm xs:=yg D.str unS (λ_=>rfl) h
noncomputable def aC(r:Str)(es:List D)(k:D):List D:=(es.filter λe=>decide (cE e=r)&&decide (df e=k)).map stD
theorem wG:aC r (es++[e]) k=if cE e=r/\df e=k then aC r es k++[stD e]else aC r es k:=by
 unfold aC
 rw[ACR,AAm,AC9,List.filter_nil]
 by_cases h:cE e=r/\df e=k
 ·rw[if_pos h,decide_eq_true h.1,decide_eq_true h.2];rfl
 ·rw[if_neg h,if_neg]
  ·simp
  ·intro z
   have:=(AAV _ _).mp z
   exact h ⟨of_decide_eq_true this.1,of_decide_eq_true this.2⟩
structure TreeAt(B:Mem)(n:Nat)(tab:List (D×D))(f:D->List D):Prop where
 at_:B[n]?=some (.dkm tab)
 got:∀k d,aM tab k=some d->∃m,d=.ref m/\n<m/\B[m]?=some (.lst (f k))
 no:∀k,aM tab k=none->f k=[]
 one:∀k k' m,aM tab k=some (.ref m)->aM tab k'=some (.ref m)->k=k'
def bB(n:Int)(xs:List D):List D:=xs.reverse.map λx=>.tup [.int n,x]
inductive RunW(f:D->List D):List D->List D->List D->Prop
 | done {rows:List D}:RunW f rows [] rows
 | step {rows todo out:List D}{n:Int}{x:D} (h:RunW f (rows++[.tup [.int n,x]]) (todo++bB (n+1) (f x)) out):RunW f rows (todo++[.tup [.int n,x]]) out
theorem RunW.uni(h:RunW f rows todo out)(h':RunW f rows todo out'):out=out':=by
 induction h generalizing out' with
 | done =>
  generalize e:([]:List D)=t at h'
  cases h' with
  | done=>rfl
  | step h=>simp at e
 | @step rows todo out n x h ih =>
  generalize e:todo++[.tup [.int n,x]]=t at h'
  cases h' with
  | done=>simp at e
  | @step _ todo2 _ n2 x2 h2 =>
   obtain⟨rfl,e2⟩:=List.append_inj' e rfl
   injection e2 with e2
   injection e2 with e2
   injection e2 with e3 e4
   injection e3 with e3
   injection e4 with e4
   subst e3 e4
   exact ih h2
def bf:D->D
 | .tup [_,s]=>s
 | _=>.non
structure TreeW(r:Str)(es rows todo:List D):Prop where
 nd:((rows++todo).map bf).Nodup
 ok:∀x∈rows++todo,∃(k:Int) (e:D),x=.tup [.int k,stD e]/\e∈es/\cE e=r/\(df e=.non\/df e∈rows.map bf)
theorem fi:x∈aC r es k↔∃e∈es,stD e=x/\cE e=r/\df e=k:=by
 unfold aC
 rw[AAO]
 constructor
 ·rintro⟨e,he,rfl⟩
  have h1:=AAX.mp he
  have h2:=(AAV _ _).mp h1.2
  exact⟨e,h1.1,rfl,of_decide_eq_true h2.1,of_decide_eq_true h2.2⟩
 ·rintro⟨e,he,rfl,h1,h2⟩
  exact⟨e,AAX.mpr ⟨he,by rw[decide_eq_true h1,decide_eq_true h2];rfl⟩,rfl⟩
theorem gD:x∈bB n xs↔∃s∈xs,x=.tup [.int n,s]:=by
 unfold bB
 rw[AAO]
 exact⟨λ⟨s,h,e⟩=>⟨s,List.mem_reverse.mp h,e.symm⟩,λ⟨s,h,e⟩=>⟨s,List.mem_reverse.mpr h,e.symm⟩⟩
theorem jy:(bB n xs).map bf=xs.reverse:=by
 unfold bB
 rw[AB6]
 exact ACG _
section
variable{r:Str}{es rows todo:List D}
theorem wH(h:(es.map stD).Nodup)(k:D):(aC r es k).Nodup:=(AEF.map _).nodup h
theorem Az(h:(es.map stD).Nodup)(ha:a∈es)(hb:b∈es)(e:stD a=stD b):a=b:=by
 induction es with
 | nil=>cases ha
 | cons x es ih =>
  rw[AAi,List.nodup_cons]at h
  rcases AAN.mp ha with ha | ha<;>rcases AAN.mp hb with hb | hb
  ·rw[ha,hb]
  ·rw[ha]at e;exact absurd (e ▸ AAp hb) h.1
  ·rw[hb]at e;exact absurd (e ▸ AAp ha) h.1
  ·exact ih h.2 ha hb
theorem TreeW.start(h:(es.map stD).Nodup):TreeW r es [] (bB 0 (aC r es .non)):=by
 refine⟨?_,λx hx=>?_⟩
 ·rw[AAx,jy]
  exact(List.reverse_perm _).nodup_iff.mpr (wH h _)
 ·obtain⟨s,hs,rfl⟩:=gD.mp hx
  obtain⟨e,he,rfl,h1,h2⟩:=fi.mp hs
  exact⟨0,e,rfl,he,h1,.inl h2⟩
theorem TreeW.step(h:(es.map stD).Nodup)(hS:∀e∈es,stD e≠.non)(w:TreeW r es rows (todo++[.tup [.int k,s]])):TreeW r es (rows++[.tup [.int k,s]]) (todo++bB (k+1) (aC r es s)):=by
 obtain⟨k0,e0,q0,he0,_⟩:=w.ok (.tup [.int k,s]) (by simp)
 have es0:s=stD e0:=by injection q0 with q;injection q with _ q;injection q
 have sn:s≠.non:=by rw[es0];exact hS e0 he0
 have w1:=w.nd
 have sr:s∉rows.map bf:=λz=>by
  rw[AAm]at w1
  have:=(ABv.mp w1).2.2 s z s (by rw[AAm];exact AAG _ (by simp[bf]))
  exact this rfl
 refine⟨?_,λx hx=>?_⟩
 ·have p:(rows++[D.tup [.int k,s]]++(todo++bB (k+1) (aC r es s))).Perm (rows++(todo++[D.tup [.int k,s]])++bB (k+1) (aC r es s)):=by
   rw[AAs,AAs]
   refine List.Perm.append_left _ ?_
   rw[←AAs]
   exact List.Perm.append_right _ List.perm_append_comm
  rw[(p.map bf).nodup_iff,AAm,ABv]
  refine⟨w1,by rw[jy];exact(List.reverse_perm _).nodup_iff.mpr (wH h _),λa ha b hb e=>?_⟩
  subst e
  rw[jy,List.mem_reverse]at hb
  obtain⟨e,he,f1,_,f2⟩:=fi.mp hb
  obtain⟨x,hx,f3⟩:=AAO.mp ha
  obtain⟨k',e',rfl,he',_,f4⟩:=w.ok x hx
  have:e'=e:=Az h he' he (f3.trans f1.symm)
  subst this
  rcases f4 with f4 | f4
  ·exact sn (f2.symm.trans f4)
  ·exact sr (f2 ▸ f4)
 ·have up:∀y,y∈rows.map bf->y∈(rows++[D.tup [.int k,s]]).map bf:=λy hy=>by rw[AAm];exact AAW _ hy
  have old:∀x,x∈rows++(todo++[D.tup [.int k,s]])->∃(k':Int) (e:D),x=.tup [.int k',stD e]/\e∈es/\cE e=r/\(df e=.non\/df e∈(rows++[D.tup [.int k,s]]).map bf):=λx hx=>by
   obtain⟨k',e,q1,q2,q3,q4⟩:=w.ok x hx
   exact⟨k',e,q1,q2,q3,q4.imp_right (up _)⟩
  rcases AAl.mp hx with hx | hx
  ·rcases AAl.mp hx with hx | hx
   ·exact old x (AAW _ hx)
   ·exact old x (AAG _ (AAG _ hx))
  ·rcases AAl.mp hx with hx | hx
   ·exact old x (AAG _ (AAW _ hx))
   ·obtain⟨y,hy,rfl⟩:=gD.mp hx
    obtain⟨e,he,rfl,h1,h2⟩:=fi.mp hy
    exact⟨k+1,e,rfl,he,h1,.inr (by rw[h2,AAm];exact AAG _ (by simp[bf]))⟩
theorem oH{l l':List D}(nd:l.Nodup)(h:∀x∈l,x∈l'):l.length<=l'.length:=by
 induction l generalizing l' with
 | nil=>exact AAS _
 | cons x l ih =>
  obtain⟨n1,n2⟩:=ABb.mp nd
  obtain⟨s,t,rfl⟩:=List.append_of_mem (h x (by simp))
  have:=ih (l':=s++t) n2 λy hy=>by
   have:=h y (AAA _ hy)
   rcases AAl.mp this with q | q
   ·exact AAW _ q
   ·rcases AAN.mp q with rfl | q
    ·exact absurd hy n1
    ·exact AAG _ q
  rw[AAB]at this
  rw[AAB,AAJ,AAJ]
  lia
theorem TreeW.len(w:TreeW r es rows todo):rows.length+todo.length<=es.length:=by
 have:=oH w.nd (l':=es.map stD) λx hx=>by
  obtain⟨y,hy,rfl⟩:=AAO.mp hx
  obtain⟨k,e,rfl,he,_⟩:=w.ok y hy
  exact AAp he
 rw[AA6,AA6,AAB]at this
 exact this
theorem yN:(aC r es k).length<=es.length:=by
 unfold aC
 rw[AA6]
 exact AB4 _ _
end
theorem TreeAt.pre(h:TreeAt B n tab f)(p:B <+: B'):TreeAt B' n tab f :=
 ⟨bv p h.at_,λk d hd=>let ⟨m,e,l,g⟩:=h.got k d hd;⟨m,e,l,bv p g⟩,h.no,h.one⟩
theorem TreeAt.kids(h:TreeAt B n tab f)(g0:B[q0]?=some (.lst [])):∃q,(aM tab k).getD (.ref q0)=.ref q/\B[q]?=some (.lst (f k)):=by
 cases e:aM tab k with
 | none=>exact⟨q0,rfl,by rw[h.no k e];exact g0⟩
 | some d =>
  obtain⟨m,rfl,_,g⟩:=h.got k d e
  exact⟨m,rfl,g⟩
def xf:D->D
 | .tup (a::_)=>a
 | _=>.non
def cK:DSp:=λds M R=>∃xs:List D,ds=[.tup xs]/\(∀x∈xs,∃a r,x=.tup (a::r))/\R (.ref M.length) (M++[.lst (xs.map xf)])
theorem mJ:de cK fO:=by rintro ds M R ⟨xs,rfl,_⟩;rfl
def jq:DTS:=bE (dLC 1 [] (bT (ab 0)) (au 0) sV (dOp qIx (ab 0) (dC (.int 0))))
theorem np:WpT cK 1 jq:=by
 rintro ds M R ⟨xs,rfl,hx,h⟩
 simp only[jq]
 walk_at "dl"
 intro hl
 refine bZ xf (λS=>∃a,S=[a]) trivial _ _ _ ?_ ⟨_,rfl⟩ ?_ ?_
 ·rintro y hy S ⟨a,rfl⟩
  obtain⟨b,r,rfl⟩:=hx y hy
  refine⟨[some (.tup (b::r))],⟨_,rfl⟩,λY hY=>?_⟩
  walk_at "dl"
  exact hY
 ·simpa using hl
 ·exact .inl h
theorem oE(T:Tops P w K mg base):Cal P w K mg base 1 "firsts_of" fO cK :=
 Cal.byD (N:=["pairs"]) T.b T.f_firsts_of (by walk_at "sc") mJ (by walk_at "dv") np
def fu:DSp:=λds M R=>∃(ps:List (Str×Int)) (rs:List (Str×List Str)) (r:Str),ds=[aG ps rs,.str r]/\r∈rs.map (·.1)/\R (.bl true) M
theorem qE:de fu jH:=by rintro ds M R ⟨ps,rs,r,rfl,_⟩;rfl
def nH:DTS:=bE (dOp qIn (ab 1) (dCB cK (aa (dOp qIx (ab 0) (dC (.int 1))) ag)))
theorem tx:WpT fu 2 nH:=by
 rintro ds M R ⟨ps,rs,r,rfl,hr,h⟩
 simp only[nH,aG]
 walk_at "dl"
 refine⟨_,rfl,λx hx=>?_,?_⟩
 ·obtain⟨p,_,rfl⟩:=AAO.mp hx
  exact⟨_,_,rfl⟩
 have e:(rs.map jz).map xf=(rs.map (·.1)).map .str:=by rw[AB6,AB6];rfl
 rw[e]
 refine⟨_,ay,⟨bb,qf⟩,?_⟩
 rw[qK,decide_eq_true hr]
 exact bD.bl h dq
theorem tR(T:Tops P w K mg base):Cal P w K mg base 2 "is_room" jH fu :=
 Cal.byD (N:=["house","thing"]) T.b T.f_is_room (by walk_at "sc") qE (by have:=oE T;walk_at "dv") tx
def ck:DSp:=λds M R=>∃(ps:List (Str×Int)) (rs:List (Str×List Str)) (r:Str),ds=[aG ps rs,.str r]/\r∈rs.map (·.1)/\R (.tup ((uy rs r).map .str)) M
theorem kF:de ck eK:=by rintro ds M R ⟨ps,rs,r,rfl,_⟩;rfl
theorem wd:uy (p::rs) r=if p.1=r then p.2 else uy rs r:=by
 unfold uy
 rw[ADa]
 by_cases h:p.1=r
 ·rw[decide_eq_true h,if_pos h];rfl
 ·rw[decide_eq_false h,if_neg h]
def kw:DTS:=pD
def iA:DTS:=aB (lR (bT (dOp qIx (ab 0) (dC (.int 1)))) (qR 2 (eP (au 2) (eP (au 3) qS))) (dIf (aK (dOp qEq (ab 2) (ab 1))) (bE (ab 3)) bo)) (kw)
theorem lX:WpT ck 4 iA:=by
 rintro ds M R ⟨ps,rs,r,rfl,hr,h⟩
 simp only[iA,aG]
 walk_at "dl"
 intro _
 refine jc (λys S M'=>∃qs a b,ys=qs.map jz/\M'=M/\S=[some (aG ps rs),some (.str r),a,b]/\uy rs r=uy qs r/\r∈qs.map (·.1)) ?_ ?_ _ _ _ ⟨rs,_,_,rfl,rfl,rfl,rfl,hr⟩
 ·rintro S M' ⟨qs,a,b,hq,rfl,rfl,e,hm⟩
  have:qs=[]:=by cases qs<;>simp_all
  subst this
  cases hm
 ·rintro x xs S M' ⟨qs,a,b,hq,rfl,rfl,e,hm⟩ L hL
  cases qs with
  | nil=>cases hq
  | cons p qs =>
   rw[AAi]at hq
   injection hq with h1 h2
   subst h1
   refine⟨trivial,?_⟩
   unfold jz
   walk_at "dl"
   refine⟨trivial,⟨bb,bb⟩,?_⟩
   rw[cA]
   rw[wd]at e
   by_cases hq:p.1=r
   ·rw[beq_iff_eq.mpr hq]
    rw[if_pos hq]at e
    refine da (bD.now ?_)
    rw[←e];exact h
   ·rw[beq_eq_false_iff_ne.mpr hq]
    rw[if_neg hq]at e
    rw[AAi,AAN]at hm
    exact cD (Fgt.now (hL _ _ ⟨qs,_,_,h2,rfl,rfl,e,hm.resolve_left (ABC hq)⟩))
theorem mD(T:Tops P w K mg base):Cal P w K mg base 1 "members_of" eK ck :=
 Cal.byD (N:=["house","room","told","members"]) T.b T.f_members_of (by walk_at "sc") kF (by walk_at "dv") lX
def bW:DSp:=λds M R=>∃(a b:D) (r:List D),ds=[.tup (a::b::r)]/\R (.tup [a,b]) M
theorem oQ:de bW ii:=by rintro ds M R ⟨a,b,r,rfl,_⟩;rfl
def kP:DTS:=bE (gY (aa (dOp qIx (ab 0) (dC (.int 0))) (aa (dOp qIx (ab 0) (dC (.int 1))) ag)))
theorem pV:WpT bW 1 kP:=by
 rintro ds M R ⟨a,b,r,rfl,h⟩
 simp only[kP]
 walk_at "dl"
 exact⟨ax (by lia),bD.now h⟩
theorem fR(T:Tops P w K mg base):Cal P w K mg base 1 "stamp_of" ii bW :=
 Cal.byD (N:=["deed"]) T.b T.f_stamp_of (by walk_at "sc") oQ (by walk_at "dv") pV
def be:DSp:=λds M R=>∃(t x:D) (r1 r2:List D),ds=[.tup (t::.tup (x::r1)::r2)]/\R x M
theorem mI:de be fN:=by rintro ds M R ⟨t,x,r1,r2,rfl,_⟩;rfl
def jm:DTS:=bE (dOp qIx (dOp qIx (ab 0) (dC (.int 1))) (dC (.int 0)))
theorem nl:WpT be 1 jm:=by
 rintro ds M R ⟨t,x,r1,r2,rfl,h⟩
 simp only[jm]
 walk_at "dl"
 exact bD.now h
theorem eN(T:Tops P w K mg base):Cal P w K mg base 1 "person_of" fN be :=
 Cal.byD (N:=["deed"]) T.b T.f_person_of (by walk_at "sc") mI (by walk_at "dv") nl
def aZ:DSp:=λds M R=>∃(ps:List (Str×Int)) (rs:List (Str×List Str)) (log:List D) (k:Str),ds=[.tup log,.str k]/\(∀d∈log,aT ps rs d)/\log.length<=1000/\R (.ref M.length) (M++[.lst (kinds log k)])
theorem io:de aZ cx:=by rintro ds M R ⟨ps,rs,log,k,rfl,_⟩;rfl
def eE:DTS:=bE (dLC 1 [1] (bT (ab 0)) (au 0) (aK (dOp qEq (dOp qIx (dOp qIx (ab 0) (dC (.int 3))) (dC (.int 0))) (ab 1))) (ab 0))
theorem iO:WpT aZ 2 eE:=by
 rintro ds M R ⟨ps,rs,log,k,rfl,hd,hl,h⟩
 simp only[eE]
 walk_at "dl"
 intro _
 refine aR (λd=>decide (cU d=k)) id (λS=>∃a,S=[a,some (.str k)]) trivial _ _ _ ?_ ⟨_,rfl⟩ (by rw[AAb];exact ax (by lia)) (by rw[AAx,ACG];exact .inl h)
 rintro d hm S ⟨a,rfl⟩
 obtain⟨t,z,k',num,x,ds,rfl,_⟩:=hd d hm
 refine⟨[some (.tup [.int t,.tup [.str z,.int k'],.int num,.tup (.str x::ds)]),some (.str k)],⟨_,rfl⟩,λY Z hYZ=>?_⟩
 walk_at "dl"
 have e3:atI [D.int t,.tup [.str z,.int k'],.int num,.tup (.str x::ds)] 3=some (.tup (.str x::ds)):=az (j:=3) rfl
 rw[e3]
 dsimp only
 rw[at0]
 refine⟨⟨bb,bb⟩,?_⟩
 rw[cA]
 have e1:cU (.tup [.int t,.tup [.str z,.int k'],.int num,.tup (.str x::ds)])=x:=rfl
 rw[e1]at hYZ
 by_cases e:x=k
 ·rw[beq_iff_eq.mpr e]
  rw[decide_eq_true e]at hYZ
  exact da hYZ
 ·rw[beq_eq_false_iff_ne.mpr e]
  rw[decide_eq_false e]at hYZ
  exact cD hYZ
theorem dZ(T:Tops P w K mg base):Cal P w K mg base 1 "deeds_of_kind" cx aZ :=
 Cal.byD (N:=["log","kind"]) T.b T.f_deeds_of_kind (by walk_at "sc") io (by walk_at "dv") iO
def bA:DSp:=λds M R=>∃(a b c x r:D) (l:List D),ds=[.tup [a,b,c,.tup (x::r::l)]]/\R r M
theorem qD:de bA jG:=by rintro ds M R ⟨a,b,c,x,r,l,rfl,_⟩;rfl
def nC:DTS:=bE (dOp qIx (dOp qIx (ab 0) (dC (.int 3))) (dC (.int 1)))
theorem tw:WpT bA 1 nC:=by
 rintro ds M R ⟨a,b,c,x,r,l,rfl,h⟩
 simp only[nC]
 walk_at "dl"
 have e3:atI [a,b,c,.tup (x::r::l)] 3=some (.tup (x::r::l)):=az (j:=3) rfl
 rw[e3]
 dsimp only
 rw[at1]
 exact bD.now h
theorem ik(T:Tops P w K mg base):Cal P w K mg base 1 "room_of" jG bA :=
 Cal.byD (N:=["say"]) T.b T.f_room_of (by walk_at "sc") qD (by walk_at "dv") tw
def bV:DSp:=λds M R=>∃(a b c x r u:D) (l:List D),ds=[.tup [a,b,c,.tup (x::r::u::l)]]/\R u M
theorem oP:de bV ig:=by rintro ds M R ⟨a,b,c,x,r,u,l,rfl,_⟩;rfl
def kO:DTS:=bE (dOp qIx (dOp qIx (ab 0) (dC (.int 3))) (dC (.int 2)))
theorem pU:WpT bV 1 kO:=by
 rintro ds M R ⟨a,b,c,x,r,u,l,rfl,h⟩
 simp only[kO]
 walk_at "dl"
 have e3:atI [a,b,c,.tup (x::r::u::l)] 3=some (.tup (x::r::u::l)):=az (j:=3) rfl
 have e2:atI (x::r::u::l) 2=some u:=az (j:=2) rfl
 rw[e3]
 dsimp only
 rw[e2]
 exact bD.now h
theorem fQ(T:Tops P w K mg base):Cal P w K mg base 1 "under_of" ig bV :=
 Cal.byD (N:=["say"]) T.b T.f_under_of (by walk_at "sc") oP (by walk_at "dv") pU
def cL:DSp:=λds M R=>∃(ps:List (Str×Int)) (rs:List (Str×List Str)) (d:D) (q:Nat) (kvs:List (D×D)),ds=[aG ps rs,d,.ref q]/\aT ps rs d/\cU d=AA1 "say"/\M[q]?=some (.dkt kvs)/\(∀p∈kvs,aT ps rs p.2/\cU p.2=AA1 "say")/\R (.bl (iC rs kvs d)) M
theorem mK:de cL fP:=by rintro ds M R ⟨ps,rs,d,q,kvs,rfl,_⟩;rfl
def gs:DTS:=bE (dOrV (dOp qIs (ab 3) (dC .non)) (qT (dOp Cq (ab 3) (ab 2)) (dOp qEq (dCB bA (aa (mW (ab 2) (ab 3)) ag)) (dCB bA (aa (ab 1) ag)))))
def gu:DTS:=aB (aY (dCB bV (aa (ab 1) ag)) 3) (gs)
def jt:DTS:=aB (dIf (aK (dOp gI (dCB be (aa (ab 1) ag)) (dCB ck (aa (ab 0) (aa (dCB bA (aa (ab 1) ag)) ag))))) (bE (dC (.bl false))) bo) (gu)
theorem nq:WpT cL 4 jt:=by
 rintro ds M R ⟨ps,rs,d,q,kvs,rfl,hd,hk,hq,hv,h⟩
 obtain⟨t,z,k,num,r,u,s,rfl,_,_,hr,hu⟩:=gB hd hk
 simp only[jt]
 walk_at "dl"
 refine⟨_,_,_,_,rfl,_,_,_,_,_,_,rfl,ps,rs,r,rfl,hr,⟨bb,qf⟩,?_⟩
 rw[qK]
 have e0:iC rs kvs (.tup [.int t,.tup [.str z,.int k],.int num,.tup [.str (AA1 "say"),.str r,u,.str s]])=(decide (z∈uy rs r)&&(decide (u=.non)||match aM kvs u with
  | some e=>decide (cE e=r)
  | none=>false)):=rfl
 rw[e0]at h
 by_cases hm:z∈uy rs r
 ·rw[decide_eq_true hm]at h ⊢
  refine cD ?_
  simp only[gu,gs]
  walk_at "dl"
  refine⟨_,_,_,_,_,u,_,rfl,?_⟩
  rcases hu with rfl | hu
  ·walk_at "dl"
   refine bD.now ?_
   simpa using h
  ·obtain⟨t',z',k',rfl⟩:=hu
   rw[decide_eq_false (by intro e;cases e)]at h
   walk_at "dl"
   refine⟨kvs,hq,rfl,?_⟩
   cases hg:aM kvs (.tup [.int t',.tup [.str z',.int k']]) with
   | none =>
    rw[hg]at h
    exact cD (bD.now h)
   | some e =>
    rw[hg]at h
    obtain⟨he,hke⟩:=hv _ (bK hg)
    obtain⟨t2,z2,k2,n2,r2,u2,s2,e2,_⟩:=gB he hke
    dsimp only at e2
    subst e2
    refine da ⟨kvs,_,hq,rfl,hg,_,_,_,_,_,_,rfl,_,_,_,_,_,_,rfl,⟨bb,bb⟩,?_⟩
    rw[cA]
    refine bD.now ?_
    have e5:(r2==r)=decide (r2=r):=by
     by_cases e:r2=r
     ·rw[decide_eq_true e];exact beq_iff_eq.mpr e
     ·rw[decide_eq_false e];exact beq_eq_false_iff_ne.mpr e
    rw[e5]
    exact h
 ·rw[decide_eq_false hm]at h ⊢
  exact da (bD.now h)
theorem oF(T:Tops P w K mg base):Cal P w K mg base 2 "can_stand" fP cL :=
 Cal.byD (N:=["house","say","elders","under"]) T.b T.f_can_stand (by walk_at "sc") mK (by have:=mD T;have:=eN T;have:=ik T;have:=fQ T;walk_at "dv") nq
def aJ:DSp:=λds M R=>∃(ps:List (Str×Int)) (rs:List (Str×List Str)) (log:List D),ds=[aG ps rs,.tup log]/\(∀d∈log,aT ps rs d)/\log.length<=1000/\∀n B,M <+: B->B[n]?=some (.dkt (af rs log))->R (.ref n) B
theorem fT:de aJ bQ:=by rintro ds M R ⟨ps,rs,log,rfl,_⟩;rfl
theorem gi(hd:∀d∈log,aT ps rs d)(hl:∀d∈l,d∈kinds log (AA1 "say"))(t:TabK l kvs):∀p∈kvs,aT ps rs p.2/\cU p.2=AA1 "say":=λp hp=>by
 obtain⟨h1,h2⟩:=bd (hl _ (t.en p hp).2)
 exact⟨hd _ h1,h2⟩
def cr:DTS:=bE (ab 2)
def cu:DTS:=aB (lR (bT (dCB aZ (aa (ab 1) (aa (dC (.str "say")) ag)))) (au 3) (dIf (aK (dCB cL (aa (ab 0) (aa (ab 3) (aa (ab 2) ag))))) (mV (ab 2) (dCB bW (aa (ab 3) ag)) (ab 3)) bo)) (cr)
def cY:DTS:=aB (aY (pC) 2) (cu)
theorem gc:WpT aJ 4 cY:=by
 rintro ds M R ⟨ps,rs,log,rfl,hd,hl,h⟩
 simp only[cY,cu]
 walk_at "dl"
 refine⟨ps,rs,log,_,rfl,hd,hl,?_⟩
 have kl:=bJ (log:=log) (k:=AA1 "say")
 have km:∀d∈kinds log (AA1 "say"),aT ps rs d/\cU d=AA1 "say":=λd q=>⟨hd d (bd q).1,(bd q).2⟩
 have hk:aN rs (kinds log (AA1 "say"))=af rs log:=rfl
 generalize hK:kinds log (AA1 "say")=K at kl km hk
 refine⟨K,ay,λ_=>?_⟩
 refine bc (λi S M'=>∃a,M'=M++[.dkt (aN rs (K.take i)),.lst K]/\S=[some (aG ps rs),some (.tup log),some (.ref M.length),a]) ?_ ?_ ⟨_,by simp[aN],rfl⟩
 ·rintro S M' ⟨a,rfl,rfl⟩
  rw[ABl,hk]
  refine⟨.inl ?_,?_⟩
  ·have:(M++[MO.dkt []]).length=M.length+1:=by simp
   rw[this];exact sQ
  ·simp only[cr]
   walk_at "dl"
   exact .inl (h _ _ (AAf _ _) ip)
 ·rintro i y S M' hy ⟨a,rfl,rfl⟩ G hG
  have hm:=AAc hy
  have et:K.take (i+1)=K.take i++[y]:=by rw[ACE,hy];rfl
  rw[et,dJ]at hG
  have tb:=fj (rs:=rs) (K.take i)
  have hv:=gi hd (λd q=>hK ▸ List.mem_of_mem_take q) tb
  have tl:=tb.len
  rw[AB2]at tl
  generalize aN rs (K.take i)=kvs at hG hv tl
  obtain⟨dy,ky⟩:=km y hm
  refine⟨.inl ?_,?_⟩
  ·have:(M++[MO.dkt []]).length=M.length+1:=by simp
   rw[this];exact sQ
  walk_at "dl"
  refine⟨ps,rs,y,_,kvs,rfl,dy,ky,ip,hv,?_⟩
  unfold tK at hG
  cases hs:iC rs kvs y with
  | true =>
   rw[hs,if_pos rfl]at hG
   refine da ?_
   obtain⟨t,z,k,num,x,ds,rfl,_⟩:=dy
   refine⟨_,_,_,rfl,kvs,ip,rfl,aE (by lia),?_⟩
   rw[mh]
   exact Fgt.now (hG _ _ ⟨_,rfl,rfl⟩)
  | false =>
   rw[hs,if_neg (by decide)]at hG
   exact cD (Fgt.now (hG _ _ ⟨_,rfl,rfl⟩))
theorem bI(T:Tops P w K mg base):Cal P w K mg base 3 "says_that_count" bQ aJ :=
 Cal.byD (N:=["house","log","says","deed"]) T.b T.f_says_that_count (by walk_at "sc") fT (by have:=fR T;have:=dZ T;have:=oF T;walk_at "dv") gc
def bP:DSp:=λds M R=>∃(t:Int) (z:Str) (k num:Int) (x m:D) (l:List D) (q:Nat) (kvs:List (D×D)),ds=[.tup [.int t,.tup [.str z,.int k],.int num,.tup (x::m::l)],.ref q]/\St m/\M[q]?=some (.dkt kvs)/\(∀p∈kvs,NmK p.2)/\R (.bl (byW kvs (.tup [.int t,.tup [.str z,.int k],.int num,.tup (x::m::l)]))) M
theorem iR:de bP cS:=by rintro ds M R ⟨t,z,k,num,x,m,l,q,kvs,rfl,_⟩;rfl
def dW:DTS:=bE (qT (dOp Cq (ab 2) (ab 1)) (dOp qEq (dCB be (aa (ab 0) ag)) (dCB be (aa (mW (ab 1) (ab 2)) ag))))
def fI:DTS:=aB (aY (dOp qIx (dOp qIx (ab 0) (dC (.int 3))) (dC (.int 1))) 2) (dW)
theorem jg:WpT bP 3 fI:=by
 rintro ds M R ⟨t,z,k,num,x,m,l,q,kvs,rfl,hm,hq,hv,h⟩
 simp only[fI,dW]
 obtain⟨t',z',k',rfl⟩:=hm
 walk_at "dl"
 have e3:atI [D.int t,.tup [.str z,.int k],.int num,.tup (x::.tup [.int t',.tup [.str z',.int k']]::l)] 3=some (.tup (x::.tup [.int t',.tup [.str z',.int k']]::l)):=az (j:=3) rfl
 rw[e3]
 dsimp only
 rw[at1]
 refine⟨kvs,hq,rfl,?_⟩
 have e0:byW kvs (.tup [.int t,.tup [.str z,.int k],.int num,.tup (x::.tup [.int t',.tup [.str z',.int k']]::l)])=match aM kvs (.tup [.int t',.tup [.str z',.int k']]) with
  | some e=>decide (z=gO e)
  | none=>false:=rfl
 rw[e0]at h
 cases hg:aM kvs (.tup [.int t',.tup [.str z',.int k']]) with
 | none =>
  rw[hg]at h
  exact cD (bD.now h)
 | some e =>
  rw[hg]at h
  obtain⟨a,y,r1,r2,rfl⟩:=hv _ (bK hg)
  refine da ⟨_,_,_,_,rfl,kvs,_,hq,rfl,hg,_,_,_,_,rfl,⟨bb,bb⟩,?_⟩
  rw[cA]
  refine bD.now ?_
  have e5:(z==y)=decide (z=y):=by
   by_cases e:z=y
   ·rw[decide_eq_true e];exact beq_iff_eq.mpr e
   ·rw[decide_eq_false e];exact beq_eq_false_iff_ne.mpr e
  rw[e5]
  exact h
theorem jN(T:Tops P w K mg base):Cal P w K mg base 2 "is_by_writer" cS bP :=
 Cal.byD (N:=["deed","says","message"]) T.b T.f_is_by_writer (by walk_at "sc") iR (by have:=eN T;walk_at "dv") jg
def bq:DSp:=λds M R=>∃(ps:List (Str×Int)) (rs:List (Str×List Str)) (log:List D) (k:Str) (q:Nat) (kvs:List (D×D)),ds=[.tup log,.str k,.ref q]/\(∀d∈log,aT ps rs d)/\log.length<=1000/\(k=AA1 "change"\/k=AA1 "back")/\M[q]?=some (.dkt kvs)/\(∀p∈kvs,NmK p.2)/\R (.ref M.length) (M++[.lst ((kinds log k).filter (byW kvs))])
theorem jS:de bq du:=by rintro ds M R ⟨ps,rs,log,k,q,kvs,rfl,_⟩;rfl
theorem DX(h:aT ps rs d)(e:cU d=k)(hk:k=AA1 "change"\/k=AA1 "back"):∃(t:Int) (z:Str) (k num:Int) (x m:D) (l:List D),d=.tup [.int t,.tup [.str z,.int k],.int num,.tup (x::m::l)]/\St m:=by
 rcases hk with rfl | rfl
 ·obtain⟨t,z,k,num,m,s,rfl,hm⟩:=kn h e
  exact⟨t,z,k,num,_,m,_,rfl,hm⟩
 ·obtain⟨t,z,k,num,m,rfl,hm⟩:=xC h e
  exact⟨t,z,k,num,_,m,_,rfl,hm⟩
def gj:DTS:=bE (dLC 1 [2] (bT (dCB aZ (aa (ab 0) (aa (ab 1) ag)))) (au 0) (aK (dCB bP (aa (ab 0) (aa (ab 1) ag)))) (ab 0))
theorem kr:WpT bq 3 gj:=by
 rintro ds M R ⟨ps,rs,log,k,q,kvs,rfl,hd,hl,hk,hq,hv,h⟩
 simp only[gj]
 walk_at "dl"
 refine⟨ps,rs,log,k,rfl,hd,hl,_,ay,λ_=>?_⟩
 have kl:=bJ (log:=log) (k:=k)
 refine aR (byW kvs) id (λS=>∃a,S=[a,some (.ref q)]) ay _ _ _ ?_ ⟨_,rfl⟩ (by rw[AAb];exact ax (by lia)) ?_
 ·rintro d hm S ⟨a,rfl⟩
  obtain⟨h1,h2⟩:=bd hm
  obtain⟨t,z,k',num,x,m,l,rfl,hs⟩:=DX (hd d h1) h2 hk
  refine⟨[some (.tup [.int t,.tup [.str z,.int k'],.int num,.tup (x::m::l)]),some (.ref q)],⟨_,rfl⟩,λY Z hYZ=>?_⟩
  walk_at "dl"
  refine⟨t,z,k',num,x,m,l,q,kvs,rfl,hs,ac hq,hv,?_⟩
  cases hb:byW kvs (.tup [.int t,.tup [.str z,.int k'],.int num,.tup (x::m::l)]) with
  | true=>rw[hb]at hYZ;exact da hYZ
  | false=>rw[hb]at hYZ;exact cD hYZ
 ·rw[AAx,ACG,AAs]
  exact bD.lst h (by simp) (by simp) (aT.bels (ps:=ps) (rs:=rs) λd m=>hd d (bd (AAX.mp m).1).1)
theorem fK(T:Tops P w K mg base):Cal P w K mg base 3 "writers_own" du bq :=
 Cal.byD (N:=["log","kind","says"]) T.b T.f_writers_own (by walk_at "sc") jS (by have:=dZ T;have:=jN T;walk_at "dv") kr
def bO:DSp:=λds M R=>∃(ps:List (Str×Int)) (rs:List (Str×List Str)) (log:List D) (q:Nat) (kvs:List (D×D)),ds=[.tup log,.ref q]/\(∀d∈log,aT ps rs d)/\log.length<=1000/\M[q]?=some (.dkt kvs)/\(∀p∈kvs,NmK p.2)/\∀n B,M <+: B->B[n]?=some (.dkt (cJ kvs log))->R (.ref n) B
theorem iQ:de bO cR:=by rintro ds M R ⟨ps,rs,log,q,kvs,rfl,_⟩;rfl
theorem uk(ps:List (D×D))(h:p∈dictOf ps):p∈ps:=by
 revert h
 refine cI (P:=λps=>p∈dictOf ps->p∈ps) (λh=>h) (λps q ih h=>?_) ps
 rw[dG]at h
 rcases ff h with rfl | h
 ·simp
 ·exact AAW _ (ih h)
theorem kj(hd:∀d∈log,aT ps rs d):∀p∈cJ kvs log,∃s,p.2=.str s:=λp hp=>by
 obtain⟨d,hm,rfl⟩:=AAO.mp (uk _ hp)
 obtain⟨h1,h2⟩:=bd (AAX.mp hm).1
 obtain⟨t,z,k,num,m,s,rfl,hs⟩:=kn (hd d h1) h2
 exact⟨s,rfl⟩
def fH:DTS:=bE (dCB ie (aa (dLC 1 [] (bT (dCB bq (aa (ab 0) (aa (dC (.str "change")) (aa (ab 1) ag))))) (au 0) sV (gY (aa (dOp qIx (dOp qIx (ab 0) (dC (.int 3))) (dC (.int 1))) (aa (dOp qIx (dOp qIx (ab 0) (dC (.int 3))) (dC (.int 2))) ag)))) ag))
theorem jf:WpT bO 2 fH:=by
 rintro ds M R ⟨ps,rs,log,q,kvs,rfl,hd,hl,hq,hv,h⟩
 simp only[fH]
 walk_at "dl"
 refine⟨ps,rs,log,_,q,kvs,rfl,hd,hl,.inl rfl,hq,hv,_,ay,λ_=>?_⟩
 have kl:=bJ (log:=log) (k:=AA1 "change")
 have fl:=AB4 (byW kvs) (kinds log (AA1 "change"))
 have km:∀d∈(kinds log (AA1 "change")).filter (byW kvs),∃(t:Int) (z:Str) (k num:Int) (m:D) (s:Str),d=.tup [.int t,.tup [.str z,.int k],.int num,.tup [.str (AA1 "change"),m,.str s]]/\St m:=λd m=>by
  obtain⟨h1,h2⟩:=bd (AAX.mp m).1
  exact kn (hd d h1) h2
 have hc:dictOf (((kinds log (AA1 "change")).filter (byW kvs)).map λd=>(tW d,df d))=cJ kvs log:=rfl
 generalize (kinds log (AA1 "change")).filter (byW kvs)=F at fl km hc
 refine bZ (λd=>.tup [tW d,df d]) (λS=>∃a,S=[a]) ay _ _ _ (λd hm S hS=>?_) ⟨_,rfl⟩ (by rw[AAb];exact ax (by lia)) ?_
 ·obtain⟨a,rfl⟩:=hS
  obtain⟨t,z,k,num,m,s,rfl,_⟩:=km d hm
  refine⟨[some (.tup [.int t,.tup [.str z,.int k],.int num,.tup [.str (AA1 "change"),m,.str s]])],⟨_,rfl⟩,λY hY=>?_⟩
  walk_at "dl"
  have e3:atI [D.int t,.tup [.str z,.int k],.int num,.tup [.str (AA1 "change"),m,.str s]] 3=some (.tup [.str (AA1 "change"),m,.str s]):=az (j:=3) rfl
  rw[e3]
  dsimp only
  rw[at1]
  dsimp only
  rw[at2]
  exact⟨ax (by lia),hY⟩
 ·rw[AAx]
  have el:F.map (λd=>D.tup [tW d,df d])=(F.map λd=>(tW d,df d)).map λp=>.tup [p.1,p.2]:=by
   rw[AB6];rfl
  rw[el]
  refine⟨F.map λd=>(tW d,df d),ay,λp hm=>?_,by rw[AA6];lia,?_⟩
  ·obtain⟨d,hx,rfl⟩:=AAO.mp hm
   obtain⟨t,z,k,num,m,s,rfl,hs⟩:=km d hx
   obtain⟨ks,e⟩:=hs.tup
   exact⟨hs.key,by show fL m=true;rw[e];rfl⟩
  ·rw[hc]
   exact .inl (h _ _ ((dq.trans dq).trans dq) ae)
theorem jM(T:Tops P w K mg base):Cal P w K mg base 4 "last_changes" cR bO :=
 Cal.byD (N:=["log","says"]) T.b T.f_last_changes (by walk_at "sc") iQ (by have:=fK T;walk_at "dv") jf
def aA:DSp:=λds M R=>∃(ps:List (Str×Int)) (rs:List (Str×List Str)) (log:List D) (q:Nat) (kvs:List (D×D)),ds=[.tup log,.ref q]/\(∀d∈log,aT ps rs d)/\log.length<64/\M[q]?=some (.dkt kvs)/\(∀p∈kvs,NmK p.2)/\∀ys,(∀x∈ys,St x)->(∀x,x∈ys↔aO kvs log x)->ys.Nodup->(ys.Pairwise λa b=>¬enc eqN b<enc eqN a)->R (.ref M.length) (M++[.lst ys])
theorem eO:de aA bu:=by rintro ds M R ⟨ps,rs,log,q,kvs,rfl,_⟩;rfl
def cq:DTS:=bE (gZ (dLC 1 [] (bT (dCB bq (aa (ab 0) (aa (dC (.str "back")) (aa (ab 1) ag))))) (au 0) sV (dOp qIx (dOp qIx (ab 0) (dC (.int 3))) (dC (.int 1)))))
theorem fy:WpT aA 2 cq:=by
 rintro ds M R ⟨ps,rs,log,q,kvs,rfl,hd,hl,hq,hv,h⟩
 simp only[cq]
 walk_at "dl"
 refine⟨ps,rs,log,_,q,kvs,rfl,hd,by lia,.inr rfl,hq,hv,_,ay,λ_=>?_⟩
 have kl:=bJ (log:=log) (k:=AA1 "back")
 have fl:=AB4 (byW kvs) (kinds log (AA1 "back"))
 have km:∀d∈(kinds log (AA1 "back")).filter (byW kvs),∃(t:Int) (z:Str) (k num:Int) (m:D),d=.tup [.int t,.tup [.str z,.int k],.int num,.tup [.str (AA1 "back"),m]]/\St m:=λd m=>by
  obtain⟨h1,h2⟩:=bd (AAX.mp m).1
  exact xC (hd d h1) h2
 have hb:∀x,x∈((kinds log (AA1 "back")).filter (byW kvs)).map tW↔aO kvs log x:=λx=>by
  constructor
  ·intro hx
   obtain⟨d,m,rfl⟩:=AAO.mp hx
   exact⟨d,(AAX.mp m).1,(AAX.mp m).2,rfl⟩
  ·rintro⟨d,h1,h2,rfl⟩
   exact AAp (AAX.mpr ⟨h1,h2⟩)
 generalize (kinds log (AA1 "back")).filter (byW kvs)=F at fl km hb
 refine bZ tW (λS=>∃a,S=[a]) ay _ _ _ (λd hm S hS=>?_) ⟨_,rfl⟩ (by rw[AAb];exact ax (by lia)) ?_
 ·obtain⟨a,rfl⟩:=hS
  obtain⟨t,z,k,num,m,rfl,_⟩:=km d hm
  refine⟨[some (.tup [.int t,.tup [.str z,.int k],.int num,.tup [.str (AA1 "back"),m]])],⟨_,rfl⟩,λY hY=>?_⟩
  walk_at "dl"
  have e3:atI [D.int t,.tup [.str z,.int k],.int num,.tup [.str (AA1 "back"),m]] 3=some (.tup [.str (AA1 "back"),m]):=az (j:=3) rfl
  rw[e3]
  dsimp only
  rw[at1]
  exact hY
 ·rw[AAx]
  have hs:∀x∈F.map tW,St x:=λx hx=>by
   obtain⟨d,hm,rfl⟩:=AAO.mp hx
   obtain⟨t,z,k,num,m,rfl,hs⟩:=km d hm
   exact hs
  refine⟨8,_,AA8 _,.inl ⟨_,rfl,ay⟩,by rw[AA6];lia,λx hx=>?_,vp hs (by rw[AA6];lia),λys nd hy hr=>?_⟩
  ·obtain⟨ks,e⟩:=(hs x hx).tup
   exact⟨(hs x hx).key,by rw[e];rfl⟩
  ·have hys:∀x∈ys,St x:=λx hx=>hs x ((hy x).mp hx)
   rw[AAs,AAs]
   have up:ys.Pairwise λa b=>¬enc eqN b<enc eqN a:=(List.Pairwise.and_mem.mp hr).imp λ{a b} ⟨ha,hb,q⟩=>by
    have sa:=hys a ha
    have sb:=hys b hb
    have oa:okP eqN a=true:=by obtain⟨t,z,k,e⟩:=sa;rw[e];rfl
    have ob:okP eqN b=true:=by obtain⟨t,z,k,e⟩:=sb;rw[e];rfl
    rw[qw ob oa (sb.cm sa)]at q
    exact of_decide_eq_false q
   exact bD.lst (h ys hys (λx=>(hy x).trans (hb x)) nd up) (by simp) (by simp) (Bels.of λd m=>bH 2 d (hys d m).pl)
theorem bj(T:Tops P w K mg base):Cal P w K mg base 4 "stamps_taken_back" bu aA :=
 Cal.byD (N:=["log","says"]) T.b T.f_stamps_taken_back (by walk_at "sc") eO (by have:=fK T;walk_at "dv") fy
def cj:DSp:=λds M R=>∃(ps:List (Str×Int)) (rs:List (Str×List Str)) (d:D) (q:Nat) (tab:List (D×D)),ds=[d,.ref q]/\aT ps rs d/\cU d=AA1 "say"/\M[q]?=some (.dkt tab)/\R (Cr tab d) M
theorem kE:de cj eJ:=by rintro ds M R ⟨ps,rs,d,q,tab,rfl,_⟩;rfl
def fF:DTS:=bE (gY (aa (ab 2) (aa (dCB bA (aa (ab 0) ag)) (aa (dCB bV (aa (ab 0) ag)) (aa (dCB be (aa (ab 0) ag)) (aa (ab 3) (aa (dOp Cq (ab 2) (ab 1)) ag)))))))
def fG:DTS:=aB (aY (dMt gH (ab 1) (aa (ab 2) (aa (dOp qIx (dOp qIx (ab 0) (dC (.int 3))) (dC (.int 3))) ag))) 3) (fF)
def iz:DTS:=aB (aY (dCB bW (aa (ab 0) ag)) 2) (fG)
theorem lW:WpT cj 4 iz:=by
 rintro ds M R ⟨ps,rs,d,q,tab,rfl,hd,hk,hq,h⟩
 obtain⟨t,z,k,num,r,u,s,rfl,_⟩:=gB hd hk
 simp only[iz,fG]
 walk_at "dl"
 refine⟨_,_,_,rfl,⟨_,hq⟩,?_⟩
 have e3:atI [D.int t,.tup [.str z,.int k],.int num,.tup [.str (AA1 "say"),.str r,u,.str s]] 3=some (.tup [.str (AA1 "say"),.str r,u,.str s]):=az (j:=3) rfl
 have e4:atI [.str (AA1 "say"),.str r,u,.str s] 3=some (.str s):=az (j:=3) rfl
 rw[e3]
 dsimp only
 rw[e4]
 refine⟨tab,hq,rfl,?_⟩
 simp only[fF]
 walk_at "dl"
 refine⟨_,_,_,_,_,_,rfl,_,_,_,_,_,_,_,rfl,_,_,_,_,rfl,tab,hq,rfl,ax (by lia),bD.now h⟩
theorem mC(T:Tops P w K mg base):Cal P w K mg base 2 "message_of" eJ cj :=
 Cal.byD (N:=["say","changes","stamp","saying"]) T.b T.f_message_of (by walk_at "sc") kE (by have:=fR T;have:=eN T;have:=ik T;have:=fQ T;walk_at "dv") lW
def cg:DSp:=λds M R=>∃(ps:List (Str×Int)) (rs:List (Str×List Str)) (log:List D),ds=[aG ps rs,.tup log]/\(∀d∈log,aT ps rs d)/\log.length<64/\∀n B,M <+: B->B[n]?=some (.dkt (bz rs log))->R (.ref n) B
theorem kD:de cg eI:=by rintro ds M R ⟨ps,rs,log,rfl,_⟩;rfl
theorem lA{M:Mem}{l:List D}(h:∀x∈l,St x):l.all (okD M eqN)=true:=AAa.mpr λx hx=>(h x hx).ok
theorem lL(hx:St x)(h:∀x∈l,St x):inD M x l=decide (x∈l):=by
 unfold inD
 by_cases hm:x∈l
 ·rw[decide_eq_true hm]
  exact ADz.mpr ⟨x,hm,by rw[show eqN=28+2 from rfl,hx.eq hx];exact decide_eq_true rfl⟩
 ·rw[decide_eq_false hm]
  refine ABL.mpr λz=>?_
  obtain⟨y,hy,e⟩:=ADz.mp z
  rw[show eqN=28+2 from rfl,(h y hy).eq hx]at e
  exact hm (of_decide_eq_true e ▸ hy)
def fA:DTS:=bE (dCB ie (aa (dLC 1 [2,3] (sX (ab 2)) (au 0) (aK (dOp gI (ab 0) (ab 2))) (gY (aa (ab 0) (aa (mW (ab 1) (ab 0)) ag)))) ag))
def fB:DTS:=aB (aY (dCB aA (aa (ab 1) (aa (ab 2) ag))) 3) (fA)
def iy:DTS:=aB (aY (dCB aJ (aa (ab 0) (aa (ab 1) ag))) 2) (fB)
theorem lV:WpT cg 4 iy:=by
 rintro ds M R ⟨ps,rs,log,rfl,hd,hl,h⟩
 simp only[iy]
 walk_at "dl"
 refine⟨ps,rs,log,rfl,hd,by lia,λn B pB hB=>?_⟩
 have tb:=aW (rs:=rs) (log:=log)
 have kl:=bJ (log:=log) (k:=AA1 "say")
 have hv:=gi hd (λ_ q=>q) tb
 have tl:=tb.len
 have nd:=tb.nd
 have en:=tb.en
 have hsh:bz rs log=(af rs log).filter λp=>@decide (¬aO (af rs log) log p.1) (AA9 _):=rfl
 rw[hsh]at h
 clear hsh
 generalize af rs log=kvs at h tb tl hv nd en hB
 simp only[fB]
 walk_at "dl"
 refine⟨ps,rs,log,n,kvs,rfl,hd,hl,hB,λp hp=>(hv p hp).1.nm,λys hs hy _ _=>?_⟩
 simp only[fA]
 walk_at "dl"
 have hB2:(B++[MO.lst ys])[n]?=some (.dkt kvs):=ac hB
 refine⟨kvs,hB2,λ_=>?_⟩
 have sp:∀p∈kvs,St p.1:=λp hp=>by rw[(en p hp).1];exact(hv p hp).1.st
 refine aR (λk=>decide (k∉ys)) (λk=>.tup [k,(aM kvs k).getD .non]) (λS=>∃a,S=[a,some (.ref n),some (.ref B.length)]) hB2 _ _ _ ?_ ⟨_,rfl⟩ (by rw[AAb,AA6];exact ax (by lia)) ?_
 ·rintro x hm S ⟨a,rfl⟩
  obtain⟨p,hp,rfl⟩:=AAO.mp hm
  have sx:=sp p hp
  have hg:=fS nd hp
  refine⟨[some p.1,some (.ref n),some (.ref B.length)],⟨_,rfl⟩,λY Z hYZ=>?_⟩
  rw[hg]at hYZ
  obtain⟨ks,e⟩:=sx.tup
  have hk:=sx.key
  rw[e]at hYZ hg hk sx ⊢
  walk_at "dl"
  refine⟨ys,ay,⟨sx.ok,lA hs⟩,?_⟩
  rw[lL sx hs]
  by_cases hx:D.tup ks∈ys
  ·rw[decide_eq_true hx]
   rw[decide_eq_false (λz=>z hx)]at hYZ
   exact cD hYZ
  ·rw[decide_eq_false hx]
   rw[decide_eq_true hx,if_pos rfl]at hYZ
   exact da ⟨kvs,_,hB2,hk,hg,ax (by lia),hYZ⟩
 ·rw[AAx]
  have el:((kvs.map (·.1)).filter λk=>decide (k∉ys)).map (λk=>D.tup [k,(aM kvs k).getD .non])=(kvs.filter λp=>decide (p.1∉ys)).map λp=>.tup [p.1,p.2]:=by
   rw[List.filter_map,AB6]
   refine ACf λp hp=>?_
   show D.tup [p.1,(aM kvs p.1).getD .non]=_
   rw[fS nd (AAX.mp hp).1];rfl
  rw[el]
  have nd2:((kvs.filter λp=>decide (p.1∉ys)).map (·.1)).Nodup:=(AEF.map _).nodup nd
  refine⟨_,ay,λp hp=>?_,?_,?_⟩
  ·have sx:=sp p (AAX.mp hp).1
   obtain⟨ks,e⟩:=sx.tup
   exact⟨sx.key,by rw[e];rfl⟩
  ·have:=AB4 (λp:D×D=>decide (p.1∉ys)) kvs
   lia
  ·rw[xn _ nd2]
   refine .inl (h _ _ (((pB.trans dq).trans dq).trans dq) ?_)
   have ef:(kvs.filter λp=>decide (p.1∉ys))=kvs.filter λp=>@decide (¬aO kvs log p.1) (AA9 _):=ABw λp _=>by
    by_cases hb:aO kvs log p.1
    ·rw[decide_eq_false (show ¬¬p.1∈ys from λz=>z ((hy _).mpr hb)),@decide_eq_false _ (AA9 _) (λz=>z hb)]
    ·rw[decide_eq_true (show ¬p.1∈ys from λz=>hb ((hy _).mp z)),@decide_eq_true _ (AA9 _) hb]
   rw[←ef]
   exact ae
theorem mB(T:Tops P w K mg base):Cal P w K mg base 5 "says_shown" eI cg :=
 Cal.byD (N:=["house","log","says","backs"]) T.b T.f_says_shown (by walk_at "sc") kD (by have:=bI T;have:=bj T;walk_at "dv") lV
def br:DSp:=λds M R=>∃(ps:List (Str×Int)) (rs:List (Str×List Str)) (log:List D),ds=[aG ps rs,.tup log]/\(∀d∈log,aT ps rs d)/\log.length<64/\R (.ref M.length) (M++[.lst (ak rs log)])
theorem jT:de br dw:=by rintro ds M R ⟨ps,rs,log,rfl,_⟩;rfl
theorem eW(hd:∀d∈log,aT ps rs d):∀p∈bz rs log,p.1=stD p.2/\aT ps rs p.2/\cU p.2=AA1 "say":=λp hp=>by
 have h1:=(gz.mp hp).1
 have tb:=aW (rs:=rs) (log:=log)
 exact⟨(tb.en p h1).1,gi hd (λ_ q=>q) tb p h1⟩
theorem yz(hc:∀p∈ch,∃s,p.2=.str s)(hd:aT ps rs d)(hk:cU d=AA1 "say"):Bel n (Cr ch d):=by
 obtain⟨t,z,k,num,r,u,s,rfl,_,_,_,hu⟩:=gB hd hk
 have hub:Bel n u:=by
  rcases hu with rfl | hu
  ·exact .non
  ·exact bH 2 u hu.pl
 refine .tup (.cons (bH 2 _ (St.pl (n:=0) ⟨t,z,k,rfl⟩)) (.cons (.str _) (.cons hub (.cons (.str _) (.cons ?_ (.cons (.bl _) .nil))))))
 cases e:aM ch (stD (.tup [.int t,.tup [.str z,.int k],.int num,.tup [.str (AA1 "say"),.str r,u,.str s]])) with
 | none=>exact .str _
 | some v =>
  obtain⟨s',e'⟩:=hc _ (bK e)
  dsimp only at e'
  rw[e']
  exact .str _
def eA:DTS:=bE (dLC 1 [3] (pA (ab 2)) (au 0) sV (dCB cj (aa (ab 0) (aa (ab 1) ag))))
def eD:DTS:=aB (aY (dCB bO (aa (ab 1) (aa (ab 2) ag))) 3) (eA)
def gk:DTS:=aB (aY (dCB cg (aa (ab 0) (aa (ab 1) ag))) 2) (eD)
theorem kt:WpT br 4 gk:=by
 rintro ds M R ⟨ps,rs,log,rfl,hd,hl,h⟩
 simp only[gk]
 walk_at "dl"
 refine⟨ps,rs,log,rfl,hd,hl,λn B pB hB=>?_⟩
 have sv:=eW (rs:=rs) hd
 have sl:(bz rs log).length<=1000:=by
  have h1:=(aW (rs:=rs) (log:=log)).len
  have h2:=bJ (log:=log) (k:=AA1 "say")
  have h3:(bz rs log).length<=(af rs log).length:=AB4 _ _
  lia
 have hm:ak rs log=(bz rs log).map λp=>Cr (cJ (bz rs log) log) p.2:=rfl
 have hc:=kj (kvs:=bz rs log) hd
 simp only[eD]
 walk_at "dl"
 refine⟨ps,rs,log,n,bz rs log,rfl,hd,by lia,hB,λp hp=>(sv p hp).2.1.nm,λn2 B2 pB2 hB2=>?_⟩
 rw[hm]at h
 generalize bz rs log=T at sv sl hB hB2 h hc
 generalize cJ T log=ch at hB2 h hc
 have hBT:=bv pB2 hB
 have pM:=pB.trans pB2
 simp only[eA]
 walk_at "dl"
 refine⟨T,hBT,λ_=>?_⟩
 refine bZ (Cr ch) (λS=>∃a,S=[a,some (.ref n2)]) hBT _ _ _ (λd hm S hS=>?_) ⟨_,rfl⟩ (by rw[AAb,AA6];exact ax (by lia)) ?_
 ·obtain⟨a,rfl⟩:=hS
  obtain⟨p,hp,rfl⟩:=AAO.mp hm
  refine⟨[some p.2,some (.ref n2)],⟨_,rfl⟩,λY hY=>?_⟩
  walk_at "dl"
  exact⟨ps,rs,p.2,n2,ch,rfl,(sv p hp).2.1,(sv p hp).2.2,hB2,hY⟩
 ·rw[AAx,AB6]
  obtain⟨L,rfl⟩:=pM
  rw[AAs]
  refine bD.lst h (by simp) (by simp) (Bels.of λd hd'=>?_)
  obtain⟨p,hp,rfl⟩:=AAO.mp hd'
  exact yz hc (sv p hp).2.1 (sv p hp).2.2
theorem kx(T:Tops P w K mg base):Cal P w K mg base 6 "messages_of" dw br :=
 Cal.byD (N:=["house","log","says","changes"]) T.b T.f_messages_of (by walk_at "sc") jT (by have:=jM T;have:=mC T;have:=mB T;walk_at "dv") kt
def bL:DSp:=λds M R=>∃(ps:List (Str×Int)) (rs:List (Str×List Str)) (log:List D),ds=[aG ps rs,.tup log]/\(∀d∈log,aT ps rs d)/\log.length<64/\∀ys,BackL rs log ys->R (.ref M.length) (M++[.lst ys])
theorem kC:de bL eH:=by rintro ds M R ⟨ps,rs,log,rfl,_⟩;rfl
def ix:DTS:=bE (dCB aA (aa (ab 1) (aa (dCB aJ (aa (ab 0) (aa (ab 1) ag))) ag)))
theorem lU:WpT bL 2 ix:=by
 rintro ds M R ⟨ps,rs,log,rfl,hd,hl,h⟩
 simp only[ix]
 walk_at "dl"
 refine⟨ps,rs,log,rfl,hd,by lia,λn B pB hB=>?_⟩
 have tb:=aW (rs:=rs) (log:=log)
 have hv:=gi hd (λ_ q=>q) tb
 refine⟨ps,rs,log,n,af rs log,rfl,hd,hl,hB,λp hp=>(hv p hp).1.nm,λys hs hy nd r=>?_⟩
 obtain⟨L,rfl⟩:=pB
 rw[AAs]
 exact bD.lst (h ys ⟨hs,hy,nd,r⟩) (by simp) (by simp) (Bels.of λd m=>bH 2 d (hs d m).pl)
theorem mz(T:Tops P w K mg base):Cal P w K mg base 5 "taken_back" eH bL :=
 Cal.byD (N:=["house","log"]) T.b T.f_taken_back (by walk_at "sc") kC (by have:=bI T;have:=bj T;walk_at "dv") lU
def bh:DSp:=λds M R=>∃(ps:List (Str×Int)) (rs:List (Str×List Str)) (q:Nat) (r:Str) (kvs:List (D×D)),ds=[.ref q,.str r]/\M[q]?=some (.dkt kvs)/\(∀p∈kvs,aT ps rs p.2/\cU p.2=AA1 "say")/\kvs.length<=1000/\∀n B tab,M <+: B->TreeAt B n tab (aC r (kvs.map (·.2)))->R (.ref n) B
theorem gP:de bh ca:=by rintro ds M R ⟨ps,rs,q,r,kvs,rfl,_⟩;rfl
def cG:DTS:=bE (ab 2)
def cH:DTS:=aB (lR (pA (ab 0)) (au 3) (dIf (aK (dOp qEq (dCB bA (aa (ab 3) ag)) (ab 1))) (iT (dMl cw (dMm ou (ab 2) (aa (dCB bV (aa (ab 3) ag)) (aa (kg ag) ag))) (aa (dCB bW (aa (ab 3) ag)) ag))) bo)) (cG)
def dN:DTS:=aB (aY (zn) 2) (cH)
theorem ia:WpT bh 4 dN:=by
 rintro ds M R ⟨ps,rs,q,r,kvs,rfl,hq,hk,kl,h⟩
 simp only[dN,cH]
 walk_at "dl"
 refine⟨kvs,ac hq,λ_=>?_⟩
 have hqM:=aF hq
 refine bc (λi S M'=>∃(tab:List (D×D)) (a:Option D),M <+: M'/\TreeAt M' M.length tab (aC r ((kvs.map (·.2)).take i))/\tab.length<=i/\S=[some (.ref q),some (.str r),some (.ref M.length),a]) ?_ ?_ ⟨[],_,dq,⟨ae,λk d z=>(by cases z),λk _=>rfl,λ_ _ _ z=>(by cases z)⟩,AA8 _,rfl⟩
 ·rintro S M' ⟨tab,a,pM,tr,_,rfl⟩
  rw[ABl]at tr
  refine⟨bv pM hq,?_⟩
  simp only[cG]
  walk_at "dl"
  exact .inl (h _ _ _ pM tr)
 ·rintro i e S M' he ⟨tab,a,pM,tr,tl,rfl⟩ G hG
  have et:(kvs.map (·.2)).take (i+1)=(kvs.map (·.2)).take i++[e]:=by rw[ACE,he];rfl
  rw[et]at hG
  have hi:=(AA7.mp he).1
  rw[AA6]at hi
  have hm:=AAc he
  obtain⟨p,hp,rfl⟩:=AAO.mp hm
  obtain⟨dk,ks⟩:=hk p hp
  generalize p.2=e at he et hG dk ks
  refine⟨bv pM hq,?_⟩
  walk_at "dl"
  have kl':∀k,(aC r ((kvs.map (·.2)).take i) k).length<=i:=λk=>by
   unfold aC
   rw[AA6]
   refine AAy (AB4 _ _) ?_
   rw[AB2];lia
  generalize (kvs.map (·.2)).take i=es at tr hG kl'
  obtain⟨t,z,k,num,r',u,s,rfl,_,_,_,hu⟩:=gB dk ks
  have sn:∀k',aC r (es++[.tup [.int t,.tup [.str z,.int k],.int num,.tup [.str (AA1 "say"),.str r',u,.str s]]]) k'=if r'=r/\u=k' then aC r es k'++[.tup [.int t,.tup [.str z,.int k]]]else aC r es k':=λk'=>wG
  generalize es++[.tup [.int t,.tup [.str z,.int k],.int num,.tup [.str (AA1 "say"),.str r',u,.str s]]]=es' at sn hG
  have ku:ue u=true:=by
   rcases hu with rfl | ⟨t',z',k',rfl⟩
   ·rfl
   ·rfl
  refine⟨_,_,_,_,_,_,rfl,⟨bb,bb⟩,?_⟩
  rw[cA]
  by_cases hr:r'=r
  ·rw[beq_iff_eq.mpr hr]
   have s1:aC r es' u=aC r es u++[.tup [.int t,.tup [.str z,.int k]]]:=by rw[sn,if_pos ⟨hr,rfl⟩]
   have s2:∀k',k'≠u->aC r es' k'=aC r es k':=λk' ne=>by rw[sn,if_neg λw=>ne w.2.symm]
   refine da ⟨⟨_,tr.at_⟩,_,_,_,_,_,_,_,rfl,AAS _,tab,ac tr.at_,ku,aE (by lia),λy hy=>?_,λhn=>?_⟩
   ·obtain⟨m,rfl,nm,gm⟩:=tr.got u y hy
    refine⟨⟨_,.inl (ac gm)⟩,_,_,_,rfl,_,ac gm,aE (by have:=kl' u;lia),Fgt.now (hG _ _ ⟨tab,_,bG (pM.trans dq) (ACN nm),⟨ap (by lia) (ac tr.at_),λk' d hd=>?_,λk' hd=>?_,tr.one⟩,by lia,rfl⟩)⟩
    ·obtain⟨m',rfl,nm',gm'⟩:=tr.got k' d hd
     refine⟨m',rfl,nm',?_⟩
     by_cases e:k'=u
     ·subst e
      rw[hy]at hd
      obtain rfl:m=m':=by injection hd with hd;injection hd
      rw[bn (ac gm),s1]
     ·rw[s2 k' e]
      exact ap (λz=>e (tr.one _ _ _ (z ▸ hd) hy)) (ac gm')
    ·have e:k'≠u:=λz=>by rw[z,hy]at hd;cases hd
     rw[s2 k' e]
     exact tr.no k' hd
   ·have lM:M.length<M'.length:=aF tr.at_
    have g0:((M'++[MO.lst []]).set M.length (.dkm (tab++[(u,.ref M'.length)])))[M'.length]?=some (.lst []):=ap (by lia) ae
    have gt:∀k',aM (tab++[(u,.ref M'.length)]) k'=if k'=u then some (.ref M'.length)else aM tab k':=λk'=>by
     rw[←oz hn]
     by_cases e:k'=u
     ·rw[if_pos e,e,cf]
     ·rw[if_neg e,cy e]
    refine⟨⟨_,.inl g0⟩,_,_,_,rfl,_,g0,aE (by rw[AAb];lia),Fgt.now (hG _ _ ⟨tab++[(u,.ref M'.length)],_,bG (bG (pM.trans dq) (AA8 _)) (by lia),⟨ap (by lia) (bn (ac tr.at_)),λk' d hd=>?_,λk' hd=>?_,λk1 k2 m h1 h2=>?_⟩,by rw[AAB,AAY];lia,rfl⟩)⟩
    ·rw[gt]at hd
     by_cases e:k'=u
     ·rw[if_pos e]at hd
      subst e
      exact⟨M'.length,by injection hd with hd;exact hd.symm,lM,by rw[bn g0,s1,tr.no _ hn]⟩
     ·rw[if_neg e]at hd
      obtain⟨m',rfl,nm',gm'⟩:=tr.got k' d hd
      have:=aF gm'
      exact⟨m',rfl,nm',by rw[s2 k' e];exact ap (by lia) (ap (by lia) (ac gm'))⟩
    ·rw[gt]at hd
     by_cases e:k'=u
     ·rw[if_pos e]at hd;cases hd
     ·rw[if_neg e]at hd
      rw[s2 k' e]
      exact tr.no k' hd
    ·rw[gt]at h1 h2
     have old:∀k' m,aM tab k'=some (.ref m)->m<M'.length:=λk' m h'=>by
      obtain⟨m',e,_,gm'⟩:=tr.got k' _ h'
      injection e with e
      rw[e];exact aF gm'
     by_cases e1:k1=u<;>by_cases e2:k2=u
     ·rw[e1,e2]
     ·rw[if_pos e1]at h1;rw[if_neg e2]at h2
      have:=old _ _ h2
      injection h1 with h1;injection h1 with h1;lia
     ·rw[if_neg e1]at h1;rw[if_pos e2]at h2
      have:=old _ _ h1
      injection h2 with h2;injection h2 with h2;lia
     ·rw[if_neg e1]at h1;rw[if_neg e2]at h2
      exact tr.one _ _ _ h1 h2
  ·rw[beq_eq_false_iff_ne.mpr hr]
   have s0:∀k',aC r es' k'=aC r es k':=λk'=>by rw[sn,if_neg λw=>hr w.1]
   exact cD (Fgt.now (hG _ _ ⟨tab,_,pM,⟨tr.at_,λk' d hd=>by rw[s0];exact tr.got k' d hd,λk' hd=>by rw[s0];exact tr.no k' hd,tr.one⟩,by lia,rfl⟩))
theorem ij(T:Tops P w K mg base):Cal P w K mg base 2 "stamps_beneath" ca bh :=
 Cal.byD (N:=["says","room","beneath","say"]) T.b T.f_stamps_beneath (by walk_at "sc") gP (by have:=fR T;have:=ik T;have:=fQ T;walk_at "dv") ia
def bN:DSp:=λds M R=>∃(n:Int) (q:Nat) (xs:List D),ds=[.int n,.ref q]/\am M q xs/\(∀x∈xs,St x)/\R (.ref M.length) (M++[.lst (bB n xs)])
theorem kG:de bN eM:=by rintro ds M R ⟨n,q,xs,rfl,_⟩;rfl
theorem CW(h:∀x∈xs,St x):Bels k (bB n xs):=Bels.of λd hd=>by
 obtain⟨x,hx,rfl⟩:=AAO.mp hd
 exact .tup (.cons (.int _) (.cons (bH 2 _ (h x (List.mem_reverse.mp hx)).pl) .nil))
def iB:DTS:=bE (dLC 1 [0] (zm (aa (ab 1) ag)) (au 0) sV (gY (aa (ab 1) (aa (ab 0) ag))))
theorem lY:WpT bN 2 iB:=by
 rintro ds M R ⟨n,q,xs,rfl,hL,hs,h⟩
 simp only[iB]
 walk_at "dl"
 refine⟨xs,hL,λhl=>?_⟩
 refine bZ (λx=>.tup [.int n,x]) (λS=>∃a,S=[a,some (.int n)]) hL _ _ _ (λx hx S hS=>?_) ⟨_,rfl⟩ (by rw[AAb,ACj];lia) (.inl h)
 obtain⟨a,rfl⟩:=hS
 refine⟨[some x,some (.int n)],⟨_,rfl⟩,λY hY=>?_⟩
 walk_at "dl"
 exact⟨ax (by lia),hY⟩
theorem mE(T:Tops P w K mg base):Cal P w K mg base 1 "last_first" eM bN :=
 Cal.byD (N:=["depth","stamps"]) T.b T.f_last_first (by walk_at "sc") kG (by walk_at "dv") lY
def bM:DSp:=λds M R=>∃(n:Nat) (tab:List (D×D)) (es:List D) (r:Str),ds=[.ref n]/\TreeAt M n tab (aC r es)/\(∀e∈es,St (stD e)/\(df e=.non\/St (df e)))/\(es.map stD).Nodup/\es.length<=100/\∀out,RunW (aC r es) [] (bB 0 (aC r es .non)) out->(∀x∈out,∃k s,x=.tup [.int k,s]/\St s)->out.length<=es.length->R (.ref M.length) (M++[.lst out])
theorem iP:de bM cQ:=by rintro ds M R ⟨n,tab,es,r,rfl,_⟩;rfl
theorem tM(h:a<=1000):a<=sizeLine:=ax (by lia)
theorem iteT'{b:Bool}{A B:Prop}(e:b=true)(h:A):if b=true then A else B:=by rw[if_pos e];exact h
def dO:DTS:=bE (ab 1)
def dP:DTS:=iT (dMl ic (ab 2) (aa (dCB bN (aa (dOp ba (dOp qIx (ab 3) (dC (.int 0))) (dC (.int 1))) (aa (dMm lD (ab 0) (aa (dOp qIx (ab 3) (dC (.int 1))) (aa (kg ag) ag))) ag))) ag))
def dR:DTS:=aB (iT (dMl cw (ab 1) (aa (ab 3) ag))) (dP)
def dS:DTS:=aB (sW (aK (dOp qGt (dCB lE (aa (ab 2) ag)) (dC (.int 0)))) (aB (aY (dMl0 CZ (ab 2)) 3) (dR))) (dO)
def dU:DTS:=aB (aY (dCB bN (aa (dC (.int 0)) (aa (dMm lD (ab 0) (aa (dC .non) (aa (kg ag) ag))) ag))) 2) (dS)
def fE:DTS:=aB (aY (kg ag) 1) (dU)
theorem je:WpT bM 4 fE:=by
 rintro ds M R ⟨n,tab,es,r,rfl,tr,hs,nd,el,h⟩
 have p1:M <+: M++[MO.lst []]++[MO.lst []]:=dq.trans dq
 have g0:(M++[MO.lst []]++[MO.lst []])[(M++[MO.lst []]).length]?=some (.lst []):=ae
 have gr:(M++[MO.lst []]++[MO.lst []])[M.length]?=some (.lst []):=ac ae
 have kS:∀k,∀x∈aC r es k,St x:=λk x hx=>by
  obtain⟨e,he,rfl,_⟩:=fi.mp hx
  exact(hs e he).1
 simp only[fE,dU]
 walk_at "dl"
 refine⟨AAS _,⟨_,ac tr.at_⟩,AAS _,_,ac (ac tr.at_),rfl,?_⟩
 obtain⟨q,eq,gq⟩:=(tr.pre p1).kids (k:=.non) g0
 rw[eq]
 refine⟨0,q,_,rfl,.inl gq,kS _,?_⟩
 have lM:M.length<(M++[MO.lst []]++[MO.lst []]).length:=by simp
 have gt:(M++[MO.lst []]++[MO.lst []]++[MO.lst (bB 0 (aC r es .non))])[(M++[MO.lst []]++[MO.lst []]).length]?=some (.lst (bB 0 (aC r es .non))):=ae
 replace gr:=ac (a:=MO.lst (bB 0 (aC r es .non))) gr
 replace p1:=p1.trans (dq (mo:=MO.lst (bB 0 (aC r es .non))))
 generalize M++[MO.lst []]++[MO.lst []]++[MO.lst (bB 0 (aC r es .non))]=B at gt gr p1
 generalize (M++[MO.lst []]++[MO.lst []]).length=qt at gt lM
 have eS:∀e∈es,stD e≠.non:=λe he z=>by obtain⟨t,z',k,e'⟩:=(hs e he).1;rw[z]at e';cases e'
 simp only[dS]
 walk_at "dl"
 refine⟨λm S M'=>∃(rows todo:List D) (a:Option D),M <+: M'/\M'[M.length]?=some (.lst rows)/\M'[qt]?=some (.lst todo)/\TreeW r es rows todo/\(∀out,RunW (aC r es) rows todo out->RunW (aC r es) [] (bB 0 (aC r es .non)) out)/\m+rows.length=es.length/\S=[some (.ref n),some (.ref M.length),some (.ref qt),a],⟨es.length,[],_,_,p1,gr,gt,.start nd,λ_ z=>z,rfl,rfl⟩,?_⟩
 rintro m S M' ⟨rows,todo,a,pM,hr,ht,w,go,hm,rfl⟩
 have wl:=w.len
 walk_at "dl"
 refine⟨_,.inl ht,?_⟩
 have fin:∀x∈rows,∃k s,x=D.tup [.int k,s]/\St s:=λx hx=>by
  obtain⟨k,e,q1,q2,_⟩:=w.ok x (AAW _ hx)
  exact⟨k,_,q1,(hs e q2).1⟩
 rcases List.eq_nil_or_concat todo with rfl | ⟨todo',x,rfl⟩
 ·refine cD ?_
  simp only[dO]
  walk_at "dl"
  refine bD.chgL .refl (h rows (go _ .done) fin (by lia)) (AA8 _) hr pM (Bels.of λd hd=>?_)
  obtain⟨k,s,rfl,q⟩:=fin d hd
  exact .tup (.cons (.int _) (.cons (bH 2 _ q.pl) .nil))
 ·rw[List.concat_eq_append]at *
  have wo:=w.ok x (by simp)
  obtain⟨k,e,rfl,he,_⟩:=wo
  have w':=w.step nd eS
  have wl':=w'.len
  have go':∀out,RunW (aC r es) (rows++[.tup [.int k,stD e]]) (todo'++bB (k+1) (aC r es (stD e))) out->RunW (aC r es) [] (bB 0 (aC r es .non)) out:=λout z=>go out (by have:=RunW.step z;simpa using this)
  have ks:=yN (r:=r) (es:=es) (k:=stD e)
  have ke:ue (stD e)=true:=by obtain⟨t,z,k,q⟩:=(hs e he).1;rw[q];rfl
  have kse:=kS (stD e)
  rw[AAB,AAB,AAY]at wl'
  generalize stD e=s at *
  rw[AAB,AAY]at wl
  refine iteT' (decide_eq_true (by rw[AAB,AAY];lia)) ⟨⟨_,.inl ht⟩,todo',_,ht,?_⟩
  have pM1:=bG (x:=MO.lst todo') pM (ACN lM)
  have hr1:=ap (x:=MO.lst todo') (AAM lM) hr
  have ht1:=bn (a:=MO.lst todo') ht
  generalize M'.set qt (MO.lst todo')=M1 at pM1 hr1 ht1
  simp only[dR]
  walk_at "dl"
  refine⟨⟨_,.inl hr1⟩,_,hr1,aE (by lia),?_⟩
  have pM2:=bG (x:=MO.lst (rows++[.tup [.int k,s]])) pM1 (AA8 _)
  have hr2:=bn (a:=MO.lst (rows++[.tup [.int k,s]])) hr1
  have ht2:=ap (x:=MO.lst (rows++[.tup [.int k,s]])) (ABC (AAM lM)) ht1
  generalize M1.set M.length (MO.lst (rows++[.tup [.int k,s]]))=M2 at pM2 hr2 ht2
  simp only[dP]
  walk_at "dl"
  have tr2:=tr.pre pM2
  refine⟨⟨_,.inl ht2⟩,⟨_,tr2.at_⟩,AAS _,tab,ac tr2.at_,ke,?_⟩
  obtain⟨q',eq',gq'⟩:=(tr2.pre (dq (mo:=MO.lst []))).kids (k:=s) (q0:=M2.length) ae
  rw[eq']
  refine⟨k+1,q',_,rfl,.inl gq',kse,?_⟩
  have lq:=aF ht2
  refine⟨_,_,ac (ac ht2),ae,by rw[AAB];lia,tM (by unfold bB;rw[AA6,ACj];lia),m-1,?_,rows++[.tup [.int k,s]],_,_,bG ((pM2.trans dq).trans dq) (ACN lM),ap (AAM lM) (ac (ac hr2)),bn (ac (ac ht2)),w',go',?_,rfl⟩
  ·lia
  ·rw[AAB,AAY];lia
theorem jL(T:Tops P w K mg base):Cal P w K mg base 2 "rows_of_tree" cQ bM :=
 Cal.byD (N:=["beneath","rows","to_do","row"]) T.b T.f_rows_of_tree (by walk_at "sc") iP (by have:=mE T;walk_at "dv") je
def db:DSp:=λds M R=>∃(ps:List (Str×Int)) (rs:List (Str×List Str)) (log:List D) (r:Str),ds=[aG ps rs,.tup log,.str r]/\r∈rs.map (·.1)/\(∀d∈log,aT ps rs d)/\log.length<64/\∀out,RunW (aC r ((af rs log).map (·.2))) [] (bB 0 (aC r ((af rs log).map (·.2)) .non)) out->(∀x∈out,∃k s,x=.tup [.int k,s]/\St s)->R (.ref M.length) (M++[.lst (out.filter λx=>@decide (¬aO (af rs log) log (bf x)) (AA9 _))])
theorem qC:de db jF:=by rintro ds M R ⟨ps,rs,log,r,rfl,_⟩;rfl
def jh:DTS:=bE (dLC 1 [4] (bT (dCB bM (aa (dCB bh (aa (ab 3) (aa (ab 2) ag))) ag))) (au 0) (aK (dOp gI (dOp qIx (ab 0) (dC (.int 1))) (ab 1))) (ab 0))
def ji:DTS:=aB (aY (dCB aA (aa (ab 1) (aa (ab 3) ag))) 4) (jh)
def jk:DTS:=aB (aY (dCB aJ (aa (ab 0) (aa (ab 1) ag))) 3) (ji)
def nB:DTS:=aB (dIf (dNot (aK (dCB fu (aa (ab 0) (aa (ab 2) ag))))) (pD) bo) (jk)
theorem tu:WpT db 5 nB:=by
 rintro ds M R ⟨ps,rs,log,r,rfl,hr,hd,hl,h⟩
 simp only[nB]
 walk_at "dl"
 refine⟨ps,rs,r,rfl,hr,cD ?_⟩
 simp only[jk]
 walk_at "dl"
 refine⟨ps,rs,log,rfl,hd,by lia,λn B pB hB=>?_⟩
 have tb:=aW (rs:=rs) (log:=log)
 have hv:=gi hd (λ_ q=>q) tb
 have kl:=bJ (log:=log) (k:=AA1 "say")
 have tl:=tb.len
 simp only[ji]
 walk_at "dl"
 refine⟨ps,rs,log,n,af rs log,rfl,hd,hl,hB,λp hp=>(hv p hp).1.nm,λys hys hy ynd _=>?_⟩
 have gb:(B++[MO.lst ys])[B.length]?=some (.lst ys):=ae
 replace hB:=ac (a:=MO.lst ys) hB
 replace pB:=pB.trans (dq (mo:=MO.lst ys))
 generalize B++[MO.lst ys]=B1 at gb hB pB
 generalize B.length=qb at gb
 simp only[jh]
 walk_at "dl"
 refine⟨ps,rs,n,r,af rs log,rfl,hB,hv,by lia,λn2 B2 tab p2 tr=>?_⟩
 have eS:∀e∈(af rs log).map (·.2),St (stD e)/\(df e=.non\/St (df e)):=λe he=>by
  obtain⟨p,hp,rfl⟩:=AAO.mp he
  obtain⟨h1,h2⟩:=hv p hp
  generalize p.2=e at h1 h2
  obtain⟨t,z,k,num,r',u,s,rfl,_,_,_,hu⟩:=gB h1 h2
  exact⟨⟨t,z,k,rfl⟩,hu⟩
 have nd:(((af rs log).map (·.2)).map stD).Nodup:=by
  have:((af rs log).map (·.2)).map stD=(af rs log).map (·.1):=by
   rw[AB6]
   exact ACf λp hp=>(tb.en p hp).1.symm
  rw[this];exact tb.nd
 refine⟨n2,tab,_,r,rfl,tr,eS,nd,by rw[AA6];lia,λout hw ho ol=>?_⟩
 rw[AA6]at ol
 have gb2:=ac (a:=MO.lst out) (bv p2 gb)
 have pB2:=(pB.trans p2).trans (dq (mo:=MO.lst out))
 have go:(B2++[MO.lst out])[B2.length]?=some (.lst out):=ae
 generalize B2++[MO.lst out]=B3 at gb2 pB2 go
 refine⟨_,.inl go,λ_=>?_⟩
 refine aR (λx=>@decide (¬aO (af rs log) log (bf x)) (AA9 _)) id (λS=>∃a,S=[a,some (.ref qb)]) (.inl go) _ _ _ ?_ ⟨_,rfl⟩ (by rw[AAb];exact ax (by lia)) ?_
 ·rintro x hx S ⟨a,rfl⟩
  refine⟨[some x,some (.ref qb)],⟨_,rfl⟩,λY Z hYZ=>?_⟩
  obtain⟨k,s,rfl,hs⟩:=ho x hx
  walk_at "dl"
  refine⟨_,.inl gb2,⟨hs.ok,lA hys⟩,?_⟩
  rw[lL hs hys]
  by_cases hm:s∈ys
  ·rw[decide_eq_true hm]
   rw[show @decide (¬aO (af rs log) log (bf (.tup [.int k,s]))) (AA9 _)=false from @decide_eq_false _ (AA9 _) λz=>z ((hy s).mp hm)]at hYZ
   exact hYZ
  ·rw[decide_eq_false hm]
   rw[show @decide (¬aO (af rs log) log (bf (.tup [.int k,s]))) (AA9 _)=true from @decide_eq_true _ (AA9 _) λz=>hm ((hy s).mpr z)]at hYZ
   exact hYZ
 ·rw[AAx,ACG]
  refine bD.chgL .refl (h out hw ho) (by obtain⟨L,rfl⟩:=pB2;simp) ae (pB2.trans dq) (Bels.of λd hd'=>?_)
  obtain⟨k,s,rfl,q⟩:=ho d (AAX.mp hd').1
  exact .tup (.cons (.int _) (.cons (bH 2 _ q.pl) .nil))
theorem tQ(T:Tops P w K mg base):Cal P w K mg base 5 "rows_of" jF db :=
 Cal.byD (N:=["house","log","room","says","backs"]) T.b T.f_rows_of (by walk_at "sc") qC (by have:=tR T;have:=bI T;have:=bj T;have:=ij T;have:=jL T;walk_at "dv") tu
def An(ns:List Int)(k:Nat):Int:=ns.getD k 0
def dc:DSp:=λds M R=>∃(n:Nat) (ns:List Int) (k:Nat),ds=[.ref n,.int k]/\am M n (ns.map D.int)/\R (.int (An ns k)) M
theorem qF:de dc jI:=by rintro ds M R ⟨n,ns,k,rfl,_⟩;rfl
def jr:DTS:=bE (dC (.int 0))
def oh:DTS:=aB (dIf (aK (dOp qLt (ab 1) (dCB lE (aa (ab 0) ag)))) (bE (dOp qIx (ab 0) (ab 1))) bo) (jr)
theorem tD:WpT dc 2 oh:=by
 rintro ds M R ⟨n,ns,k,rfl,hL,h⟩
 simp only[oh,jr]
 walk_at "dl"
 refine⟨_,hL,?_⟩
 unfold An at h
 by_cases hk:k<ns.length
 ·rw[decide_eq_true (by simpa using hk)]
  refine da ⟨_,hL,?_⟩
  rw[az (v:=.int ns[k]) (by rw[AAT,AA5 hk];rfl)]
  rw[AAU,AA5 hk]at h
  exact bD.now h
 ·rw[decide_eq_false (by simpa using hk)]
  rw[AAU,ABP (by lia)]at h
  exact cD (bD.now h)
theorem tS(T:Tops P w K mg base):Cal P w K mg base 1 "_law_cell_at" jI dc :=
 Cal.byD (N:=["_law_script","_law_k"]) T.b T.f_cell_at (by walk_at "sc") qF (by walk_at "dv") tD
def cC:DSp:=λds M R=>∃(c:Int),ds=[.int c]/\∀n:Int,R (.ref M.length) (M++[.lst [.int n]])
theorem ub:de cC my:=by rintro ds M R ⟨c,rfl,_⟩;rfl
def kZ:DTS:=bE (kg (aa (ab 3) ag))
def lc:DTS:=aY (dOp ba (dOp mj (ab 3) (dC (.int 2147483587))) (dOp vF (dOp mj (ab 5) (dC (.int 69621))) (dC (.int 2147483587)))) 3
def lg:DTS:=aB (aY (dOp vF (dOp mj (ab 2) (ab 2)) (dC (.int 2147483629))) 5) (lc)
def lh:DTS:=aB (lR (dI (aa (dC (.int 16)) ag)) (au 4) (aB (aY (dOp vF (dOp ba (dOp ba (dOp mj (ab 2) (dC (.int 48271))) (dOp mj (dC (.int 7919)) (ab 4))) (dC (.int 11))) (dC (.int 2147483647))) 2) (lg))) (kZ)
def lp:DTS:=aB (aY (dC (.int 0)) 3) (lh)
def lu:DTS:=aB (aY (dOp vF (ab 1) (dC (.int 2147483647))) 2) (lp)
def lz:DTS:=aB (dIf (aK (dOp qEq (dOp vF (ab 0) (dC (.int 2))) (dC (.int 0)))) (bE (kg (aa (ab 1) ag))) bo) (lu)
def rU:DTS:=aB (aY (dOp qj (ab 0) (dC (.int 2))) 1) (lz)
theorem uD:WpT cC 6 rU:=by
 rintro ds M R ⟨c,rfl,h⟩
 simp only[rU,lz]
 walk_at "dl"
 refine⟨⟨by decide,by decide⟩,by decide,⟨rfl,rfl⟩,?_⟩
 generalize hb:eqD M eqN (.int (c % 2)) (.int 0)=b
 cases b with
 | true=>exact da ⟨ax (by lia),.inl (h _)⟩
 | false =>
  refine cD ?_
  simp only[lu,lp,lh]
  walk_at "dl"
  have r0:=su (a:=c / 2) (b:=2147483647) (by decide)
  have r1:=sw (a:=c / 2) (b:=2147483647) (by decide)
  refine⟨by decide,⟨by decide,by decide⟩,?_⟩
  refine bc (λi S M'=>M'=M/\∃(nu to:Int) (a b:Option D),0<=nu/\nu<2147483647/\S=[some (.int c),some (.int (c / 2)),some (.int nu),some (.int to),a,b]) ?_ ?_ ⟨rfl,_,_,_,_,r0,r1,rfl⟩
  ·rintro S M' ⟨rfl,nu,to,a,b,_,_,rfl⟩
   refine⟨trivial,?_⟩
   simp only[kZ]
   walk_at "dl"
   exact⟨ax (by lia),.inl (h _)⟩
  ·rintro i y S M' hy ⟨rfl,nu,to,a,b,n0,n1,rfl⟩ G hG
   obtain⟨hi,rfl⟩:=fe.mp hy
   refine⟨trivial,?_⟩
   walk_at "dl"
   refine⟨.inr ⟨by decide,by decide⟩,.inl ⟨by decide,by decide⟩,by decide,?_⟩
   have a0:=su (a:=nu*48271+7919*(0+(i:Int))+11) (b:=2147483647) (by decide)
   have a1:=sw (a:=nu*48271+7919*(0+(i:Int))+11) (b:=2147483647) (by decide)
   generalize (nu*48271+7919*(0+(i:Int))+11) % 2147483647=nv at a0 a1
   simp only[lg,lc]
   walk_at "dl"
   refine⟨.inl ⟨by lia,by lia⟩,by decide,.inr ⟨by decide,by decide⟩,.inr ⟨by decide,by decide⟩,by decide,?_⟩
   exact Fgt.now (hG _ _ ⟨rfl,_,_,_,_,a0,a1,rfl⟩)
theorem jO(T:Tops P w K mg base):Cal P w K mg base 1 "_law_digits" my cC :=
 Cal.byD (N:=["_law_cell","_law_rest","_law_number","_law_total","_law_k","_law_other"]) T.b T.f_digits (by walk_at "sc") ub (by walk_at "dv") uD
def aq:DSp:=λds M R=>∃(q:Nat) (m:Int),ds=[.ref q,.int m]/\HdP M q/\0<m/\m<100000000000/\∀i n:Int,0<=i->i<m->R (.int i) (M.set q (.lst [.int n]))
theorem yE:de aq vQ:=by rintro ds M R ⟨q,m,rfl,_⟩;rfl
def rD:DTS:=bE (ab 2)
def rE:DTS:=aB (dAsg (dOp qj (dOp qIx (ab 0) (dC (.int 0))) (ab 1)) (zi (ab 0) (dC (.int 0)))) (rD)
def zv:DTS:=aB (aY (dOp vF (dOp qIx (ab 0) (dC (.int 0))) (ab 1)) 2) (rE)
theorem As:WpT aq 3 zv:=by
 rintro ds M R ⟨q,m,rfl,⟨n,hq⟩,m0,m1,h⟩
 simp only[zv,rE,rD]
 walk_at "dl"
 refine⟨_,.inl hq,?_⟩
 rw[at0]
 refine⟨m0,_,.inl hq,?_⟩
 rw[at0]
 exact⟨⟨m0,by lia⟩,_,0,hq,rfl,.inl (h _ _ (su m0) (sw m0))⟩
theorem cT(T:Tops P w K mg base):Cal P w K mg base 1 "_law_take" vQ aq :=
 Cal.byD (N:=["_law_held","_law_many","_law_digit"]) T.b T.f_take (by walk_at "sc") yE (by walk_at "dv") As
def iw:DSp:=λds M R=>∃(q:Nat),ds=[.ref q]/\HdP M q/\∀(z:Str) (n:Int),z.length<=8->R (.str z) (M.set q (.lst [.int n]))
theorem yH:de iw vT:=by rintro ds M R ⟨q,rfl,_⟩;rfl
def rK:DTS:=bE (ab 2)
def rL:DTS:=aB (lR (dI (aa (dOp ba (dC (.int 1)) (dCB aq (aa (ab 0) (aa (dC (.int 8)) ag)))) ag)) (au 3) (aY (dOp ba (ab 2) (dOp qIx (ab 1) (dCB aq (aa (ab 0) (aa (dC (.int 26)) ag))))) 2)) (rK)
def rN:DTS:=aB (aY (dC (.str "")) 2) (rL)
def zy:DTS:=aB (aY (dC (.str "abcdefghijklmnopqrstuvwxyz")) 1) (rN)
theorem Av:WpT iw 4 zy:=by
 rintro ds M R ⟨q,rfl,hq,h⟩
 have ql:=hq.lt
 simp only[zy,rN,rL]
 walk_at "dl"
 refine⟨q,8,rfl,hq,by decide,by decide,λi n i0 i1=>?_⟩
 have g0:=hq.start.set (n:=n) ql
 generalize M.set q (.lst [.int n])=B0 at g0
 walk_at "dl"
 refine⟨⟨by lia,by lia⟩,?_⟩
 refine bc (λj S M'=>Hl M M' q/\∃(z:Str) (a:Option D),z.length=j/\S=[some (.ref q),some (.str (AA1 "abcdefghijklmnopqrstuvwxyz")),some (.str z),a]) ?_ ?_ ⟨g0,AA1 "",_,by decide +kernel,rfl⟩
 ·rintro S M' ⟨g,z,a,zl,rfl⟩
  refine⟨trivial,?_⟩
  simp only[rK]
  walk_at "dl"
  rw[gF]at zl
  exact g.fin (.str _) λn=>h z n (by lia)
 ·rintro j y S M' hy ⟨g,z,a,zl,rfl⟩ G hG
  have hj:=(fe.mp hy).1
  refine⟨trivial,?_⟩
  walk_at "dl"
  refine⟨q,26,rfl,g.hd ql,by decide,by decide,λk n k0 k1=>?_⟩
  have g1:=g.set (n:=n) ql
  generalize M'.set q (.lst [.int n])=B1 at g1
  walk_at "dl"
  have hl:(AA1 "abcdefghijklmnopqrstuvwxyz").cps.toList.length=26:=by decide +kernel
  have hz:(AA1 "abcdefghijklmnopqrstuvwxyz").length=26:=by decide +kernel
  obtain⟨j',hj',ej,_⟩:=eT (xs:=(AA1 "abcdefghijklmnopqrstuvwxyz").cps.toList) k0 (by rw[hl];exact k1)
  refine⟨by rw[hz];exact ax (by lia),?_⟩
  rw[ej]
  have o1:∀c:Nat,(⟨#[c]⟩:Str).length=1:=λ_=>rfl
  refine⟨by rw[o1];exact ax (by lia),Fgt.now (hG _ _ ⟨g1,_,_,?_,rfl⟩)⟩
  rw[bU,o1,zl]
theorem vX(T:Tops P w K mg base):Cal P w K mg base 2 "_law_name" vT iw :=
 Cal.byD (N:=["_law_held","_law_letters","_law_name_here","_law_k"]) T.b T.f_name (by walk_at "sc") yH (by have:=cT T;walk_at "dv") Av
def hZ:DSp:=λds M R=>∃(q:Nat) (m:Int),ds=[.ref q,.int m]/\HdP M q/\1<=m/\m<=4/\∀(xs:List Str) (n:Int),xs.Nodup->1<=xs.length->xs.length<=4->(∀x∈xs,x.length<=8)->R (.ref M.length) (M.set q (.lst [.int n])++[.lst (xs.map .str)])
theorem wm:de hZ qm:=by rintro ds M R ⟨q,m,rfl,_⟩;rfl
def jn:DTS:=bE (dCB jA (aa (ab 4) ag))
def jo:DTS:=dIf (aK (dOp gI (ab 6) (ab 4))) (iT (dMl cw (ab 4) (aa (ab 6) ag))) bo
def nD:DTS:=aB (dIf (aK (ab 2)) (aY (dSl (dSl (dOp ba (dSl (ab 3) eQ (hV (dC (.int 7)))) (ab 6)) eQ (hV (dOp ba (dCB lE (aa (ab 3) ag)) (ab 5)))) eQ (hV (dC (.int 8)))) 6) bo) (jo)
def nE:DTS:=aB (lR (mX (aa (dC (.int 1)) (aa (ab 1) ag))) (au 5) (aB (aY (dCB iw (aa (ab 0) ag)) 6) (nD))) (jn)
def nF:DTS:=aB (aY (kg (aa (ab 3) ag)) 4) (nE)
def nG:DTS:=aB (aY (dCB iw (aa (ab 0) ag)) 3) (nF)
def uH:DTS:=aB (aY (dOp qEq (dCB aq (aa (ab 0) (aa (dC (.int 2)) ag))) (dC (.int 1))) 2) (nG)
theorem xK:WpT hZ 7 uH:=by
 rintro ds M R ⟨q,m,rfl,hq,m1,m4,h⟩
 have ql:=hq.lt
 simp only[uH]
 walk_at "dl"
 refine⟨q,2,rfl,hq,by decide,by decide,λi n _ _=>?_⟩
 have g0:=hq.start.set (n:=n) ql
 generalize M.set q (.lst [.int n])=B0 at g0
 refine⟨⟨rfl,rfl⟩,?_⟩
 generalize eqD B0 eqN (.int i) (.int 1)=al
 simp only[nG]
 walk_at "dl"
 refine⟨q,rfl,g0.hd ql,λz n zl=>?_⟩
 have g1:=g0.set (n:=n) ql
 generalize B0.set q (.lst [.int n])=B1 at g1
 simp only[nF]
 walk_at "dl"
 refine⟨ax (by lia),?_⟩
 have g2:Hl M (B1++[MO.lst [D.str z]]) q:=g1.more
 have gp:(B1++[MO.lst [D.str z]])[B1.length]?=some (.lst ([z].map D.str)):=ae
 have pM:=g1.len
 generalize B1++[MO.lst [D.str z]]=B2 at g2 gp
 generalize B1.length=p at gp pM
 simp only[nE]
 walk_at "dl"
 refine⟨⟨by decide,by decide,by lia,by lia⟩,?_⟩
 refine bc (λj S M'=>Hl M M' q/\∃(xs:List Str) (a b:Option D),xs.Nodup/\1<=xs.length/\xs.length<=1+j/\(∀x∈xs,x.length<=8)/\M'[p]?=some (.lst (xs.map .str))/\S=[some (.ref q),some (.int m),some (.bl al),some (.str z),some (.ref p),a,b]) ?_ ?_ ⟨g2,[z],_,_,by simp,by simp,by simp,by simpa using zl,gp,rfl⟩
 ·rintro S M' ⟨g,xs,a,b,nd,x1,xl,x8,gp,rfl⟩
  rw[gF]at xl
  refine⟨trivial,?_⟩
  simp only[jn]
  walk_at "dl"
  refine⟨_,.inl gp,(xT (by lia)).g,λys hy _=>?_⟩
  obtain⟨zs,rfl,hp⟩:=oB hy
  have hl:=hp.length_eq
  exact(g.more (L:=[.lst (zs.map .str)])).finL g.len ae (rZ _) λn=>h zs n (hp.nodup_iff.mpr nd) (by lia) (by lia) λx hx=>x8 x (hp.mem_iff.mp hx)
 ·rintro j y S M' hy ⟨g,xs,a,b,nd,x1,xl,x8,gp,rfl⟩ G hG
  obtain⟨hj,rfl⟩:=fe.mp hy
  refine⟨trivial,?_⟩
  walk_at "dl"
  refine⟨q,rfl,g.hd ql,λy n yl=>?_⟩
  have g3:=g.set (n:=n) ql
  have gp3:(M'.set q (.lst [.int n]))[p]?=some (.lst (xs.map .str)):=ap (by lia) gp
  generalize M'.set q (.lst [.int n])=B3 at g3 gp3
  have fin:∀y:Str,y.length<=8->jo ⟨Fgt B2 G,bD M R,λS' M'=>jn (EE M R) S' M',Fgt B2 G⟩ [some (.ref q),some (.int m),some (.bl al),some (.str z),some (.ref p),some (.int (1+(j:Int))),some (.str y)] B3:=λy yl=>by
   simp only[jo]
   walk_at "dl"
   refine⟨_,.inl gp3,⟨bb,qf⟩,?_⟩
   rw[qK]
   by_cases hm:y∈xs
   ·rw[decide_eq_true hm]
    exact cD (Fgt.now (hG _ _ ⟨g3,xs,_,_,nd,x1,by lia,x8,gp3,rfl⟩))
   ·rw[decide_eq_false hm]
    refine da ⟨⟨_,.inl gp3⟩,_,gp3,aE (by rw[AA6];lia),?_⟩
    refine Fgt.now (hG _ _ ⟨g3.setO pM,xs++[y],_,_,?_,?_,?_,λx hx=>?_,?_,rfl⟩)
    ·exact ABv.mpr ⟨nd,by simp,λa ha b hb e=>hm (by rw[show b=y by simpa using hb]at e;exact e ▸ ha)⟩
    ·rw[AAB];lia
    ·rw[AAB,AAY];lia
    ·rcases AAl.mp hx with hx | hx
     ·exact x8 x hx
     ·rw[show x=y by simpa using hx];exact yl
    ·rw[AAm];exact bn gp3
  simp only[nD]
  walk_at "dl"
  cases al with
  | false=>exact cD (fin y yl)
  | true =>
   have s1:=Txt.slice_le z none (some 7)
   have s2:=Txt.slice_le (AE8 z none (some 7)++y) none (some ((z.length:Int)+(1+(j:Int))))
   rw[bU]at s2
   refine da ⟨ax (by lia),ax (by lia),ax (by lia),by rw[bU];exact ax (by lia),ax (by lia),?_⟩
   exact fin _ (xV _ 8)
theorem yn(T:Tops P w K mg base):Cal P w K mg base 3 "_law_names" qm hZ :=
 Cal.byD (N:=["_law_held","_law_many","_law_alike","_law_base","_law_names_here","_law_k","_law_name_here"]) T.b T.f_names (by walk_at "sc") wm (by have:=cT T;have:=vX T;walk_at "dv") xK
def jd:DSp:=λds M R=>∃(c:Int),ds=[.int c]/\∀ps rs,HouseF ps rs->R (aG ps rs) M
theorem wt:de jd qo:=by rintro ds M R ⟨c,rfl,_⟩;rfl
structure HsD(M B:Mem)(q p:Nat)(ns:List Str):Prop where
 pre:M <+: B
 qM:M.length<=q
 hd:HdP B q
 ne:p≠q
 nm:B[p]?=some (.lst (ns.map .str))
section
variable{M B:Mem}{q p m:Nat}{ns:List Str}{n:Int}{x:MO}
theorem HsD.set(g:HsD M B q p ns):HsD M (B.set q (.lst [.int n])) q p ns:=⟨bG g.pre g.qM,g.qM,⟨n,AAj g.hd.lt⟩,g.ne,ap g.ne g.nm⟩
theorem HsD.more(g:HsD M B q p ns):HsD M (B++L) q p ns:=⟨g.pre.trans (AAf _ _),g.qM,by obtain⟨n,h⟩:=g.hd;exact⟨n,bv (AAf _ _) h⟩,g.ne,bv (AAf _ _) g.nm⟩
theorem HsD.setO(g:HsD M B q p ns)(h1:M.length<=m)(h2:q≠m)(h3:p≠m):HsD M (B.set m x) q p ns:=⟨bG g.pre h1,g.qM,by obtain⟨n,h⟩:=g.hd;exact⟨n,ap h2 h⟩,g.ne,ap h3 g.nm⟩
end
def nI:DTS:=bE (gY (aa (ab 3) (aa (dCB fJ (aa (ab 4) ag)) ag)))
def nJ:DTS:=iT (dMl cw (ab 4) (aa (gY (aa (ab 5) (aa (dCB fJ (aa (ab 7) ag)) ag))) ag))
def nK:DTS:=aB (kh 1 [2,6] (dI (aa (dCB lE (aa (ab 2) ag)) ag)) (au 0) (aK (dOp qEq (dOp vF (dOp qj (ab 2) (dOp Cp (dC (.int 1)) (ab 0))) (dC (.int 2))) (dC (.int 1)))) (dOp qIx (ab 1) (ab 0)) 7) (nJ)
def jp:DTS:=aB (lR (bT (dCB hZ (aa (ab 1) (aa (dOp ba (dC (.int 1)) (dCB aq (aa (ab 1) (aa (dC (.int 4)) ag)))) ag)))) (au 5) (aB (aY (dOp ba (dC (.int 1)) (dCB aq (aa (ab 1) (aa (dOp CY (dOp Cp (dC (.int 1)) (dCB lE (aa (ab 2) ag))) (dC (.int 1))) ag)))) 6) (nK))) (nI)
def nL:DTS:=aB (aY (kg ag) 4) (jp)
def nM:DTS:=aB (aY (dCB fJ (aa (dLC 1 [1] (bT (ab 2)) (au 0) sV (gY (aa (ab 0) (aa (dOp ba (dC (.int 1)) (dCB aq (aa (ab 1) (aa (dC (.int 3)) ag)))) ag)))) ag)) 3) (nL)
def nN:DTS:=aB (aY (dCB hZ (aa (ab 1) (aa (dOp ba (dC (.int 1)) (dCB aq (aa (ab 1) (aa (dC (.int 4)) ag)))) ag))) 2) (nM)
def uY:DTS:=aB (aY (dCB cC (aa (ab 0) ag)) 1) (nN)
theorem BH(g:HsD M B q p ns)(n1:1<=ns.length)(n4:ns.length<=4)(rM:M.length<=r)(rq:r≠q)(rp:r≠p)(gr:B[r]?=some (.lst []))
  (h:∀rs:List (Str×List Str),1<=rs.length/\rs.length<=4->(rs.map (·.1)).Nodup->(∀r∈rs,r.2.length<=4)->R (aG ps rs) M) :
  jp (EE M R) [y0,some (.ref q),some (.ref p),some (.tup (ps.map gM)),some (.ref r),y5,y6,y7] B:=by
 simp only[jp]
 walk_at "dl"
 refine⟨q,4,rfl,g.hd,by decide,by decide,λi n i0 i1=>?_⟩
 have g0:=g.set (n:=n)
 have gr0:(B.set q (.lst [.int n]))[r]?=some (.lst []):=ap rq gr
 generalize B.set q (.lst [.int n])=B0 at g0 gr0
 refine⟨q,1+i,rfl,g0.hd,by lia,by lia,λws n wn w1 w4 w8=>?_⟩
 have g1:=g0.set (n:=n)
 have gr1:(B0.set q (.lst [.int n]))[r]?=some (.lst []):=ap rq gr0
 have bl:(B0.set q (.lst [.int n])).length=B0.length:=AAw ..
 have g2:=g1.more (L:=[.lst (ws.map .str)])
 have gr2:=ac (a:=.lst (ws.map .str)) gr1
 have gw:(B0.set q (.lst [.int n])++[.lst (ws.map .str)])[B0.length]?=some (.lst (ws.map .str)):=by rw[←bl];exact ae
 have wM:M.length<=B0.length:=g0.pre.length_le
 have wq:B0.length≠q:=by have:=g0.hd.lt;lia
 have wp:B0.length≠p:=by have:=aF g0.nm;lia
 have wr:B0.length≠r:=by have:=aF gr0;lia
 generalize B0.set q (.lst [.int n])++[.lst (ws.map .str)]=B2 at g2 gr2 gw
 generalize B0.length=w at gw wM wq wp wr
 refine⟨_,.inl gw,λ_=>?_⟩
 refine bc (λj S M'=>∃(rs:List (Str×List Str)) (a b c:Option D),HsD M M' q p ns/\M'[r]?=some (.lst (rs.map jz))/\M'[w]?=some (.lst (ws.map .str))/\rs.map (·.1)=ws.take j/\rs.length=j/\(∀x∈rs,x.2.length<=4)/\S=[y0,some (.ref q),some (.ref p),some (.tup (ps.map gM)),some (.ref r),a,b,c]) ?_ ?_ ⟨[],_,_,_,g2,gr2,gw,rfl,rfl,(λ_ z=>nomatch z),rfl⟩
 ·rintro S M' ⟨rs,a,b,c,g,gr,gw,hn,hl,hm,rfl⟩
  rw[AA6]at hn hl
  rw[ABl]at hn
  refine⟨.inl gw,?_⟩
  simp only[nI]
  walk_at "dl"
  refine⟨_,.inl gr,ax (by lia),?_⟩
  refine bD.keep (h rs ⟨by lia,by lia⟩ (by rw[hn];exact wn) hm) ?_ g.pre
  refine .tup (.cons (.tup (Bels.of λd hd=>?_)) (.cons (.tup (Bels.of λd hd=>?_)) .nil))
  ·obtain⟨x,_,rfl⟩:=AAO.mp hd
   exact .tup (.cons (.str _) (.cons (.int _) .nil))
  ·obtain⟨x,_,rfl⟩:=AAO.mp hd
   exact .tup (.cons (.str _) (.cons (.tup (rZ _)) .nil))
 ·rintro j y S M' hy ⟨rs,a,b,c,g,gr,gw,hn,hl,hm,rfl⟩ G hG
  rw[AAT]at hy
  obtain⟨s,hs,rfl⟩:=ABT.mp hy
  have hj:=(AA7.mp hs).1
  have et:ws.take (j+1)=ws.take j++[s]:=by rw[ACE,hs];rfl
  refine⟨.inl gw,?_⟩
  walk_at "dl"
  have pw:0<(1:Int)*2 ^ ns.length-1/\(1:Int)*2 ^ ns.length-1<100:=by
   have:ns.length=1\/ns.length=2\/ns.length=3\/ns.length=4:=by lia
   rcases this with e | e | e | e<;>rw[e]<;>decide
  refine⟨_,.inl g.nm,⟨by lia,by rw[AA6];lia,by decide⟩,?_⟩
  rw[AA6,ABY]
  refine⟨q,_,rfl,g.hd,pw.1,by lia,λi n i0 i1=>?_⟩
  have g3:=g.set (n:=n)
  have gr3:(M'.set q (.lst [.int n]))[r]?=some (.lst (rs.map jz)):=ap rq gr
  have gw3:(M'.set q (.lst [.int n]))[w]?=some (.lst (ws.map .str)):=ap wq gw
  generalize M'.set q (.lst [.int n])=B3 at g3 gr3 gw3
  simp only[nK]
  walk_at "dl"
  refine⟨_,.inl g3.nm,⟨by lia,by rw[AA6];lia⟩,?_⟩
  rw[AA6,ABY]
  refine mY (λys acc S M2=>∃(xs:List Str) (a2:Option D),acc=xs.map D.str/\xs.length+ys.length<=4/\(∀y∈ys,∃j:Nat,y=.int (0+(j:Int))/\j<ns.length)/\M2=B3/\S=[a2,some (.ref p),some (.int (1+i))]) ?_ ?_ _ _ _ _ ⟨[],_,rfl,by rw[AAb,gF];lia,λy' hy'=>?_,rfl,rfl⟩
  ·rintro acc S M2 ⟨xs,a2,rfl,xl4,_,rfl,rfl⟩
   rw[AAb,Nat.add_zero]at xl4
   refine⟨trivial,?_⟩
   simp only[nJ]
   walk_at "dl"
   have g4:=g3.more (L:=[.lst (xs.map .str)])
   have gr4:=ac (a:=.lst (xs.map .str)) gr3
   have gw4:=ac (a:=.lst (xs.map .str)) gw3
   refine⟨⟨_,.inl gr4⟩,_,ay,ax (by lia),_,gr4,aE (by rw[AA6];lia),?_⟩
   refine Fgt.now (hG _ _ ⟨rs++[(s,xs)],_,_,_,g4.setO rM (ABC rq) (ABC rp),?_,ap wr gw4,?_,?_,λx hx=>?_,rfl⟩)
   ·rw[AAm];exact bn gr4
   ·rw[AAm,hn,et];rfl
   ·rw[AAB,hl];rfl
   ·rcases AAl.mp hx with hx | hx
    ·exact hm x hx
    ·rw[show x=(s,xs) by simpa using hx];exact xl4
  ·rintro y' ys acc S M2 ⟨xs,a2,rfl,xl,hy',rfl,rfl⟩ K hK
   obtain⟨j,rfl,hj⟩:=hy' y' (by simp)
   rw[AAJ]at xl
   refine⟨trivial,?_⟩
   walk_at "dl"
   have e3:atI (ns.map D.str) (0+(j:Int))=some (.str (ns[j]'(by lia))):=by
    rw[Int.zero_add]
    exact az (by rw[AAT,AA5 (by lia)];rfl)
   have pw:Cn (1+i) (1*2 ^ (0+(j:Int)).toNat):=by
    rw[Int.zero_add,ABY]
    have:j=0\/j=1\/j=2\/j=3:=by lia
    rcases this with rfl | rfl | rfl | rfl<;>exact⟨by decide,by decide⟩
   refine⟨⟨by lia,by lia,by decide⟩,pw,by decide,⟨mG,mG⟩,?_⟩
   split
   ·refine⟨_,.inl g3.nm,?_⟩
    rw[e3]
    exact⟨by rw[AA6];exact aE (by lia),hK _ _ _ ⟨xs++[_],_,by simp;rfl,by rw[AAB,AAY];lia,λz hz'=>hy' z (AAA _ hz'),rfl,rfl⟩⟩
   ·exact hK _ _ _ ⟨xs,_,rfl,by lia,λz hz'=>hy' z (AAA _ hz'),rfl,rfl⟩
  ·obtain⟨j,hj⟩:=ABB hy'
   obtain⟨hlt,rfl⟩:=fe.mp hj
   exact⟨j,rfl,hlt⟩
theorem xL:WpT jd 8 uY:=by
 rintro ds M R ⟨c,rfl,h⟩
 simp only[uY]
 walk_at "dl"
 refine⟨c,rfl,λn=>?_⟩
 simp only[nN]
 walk_at "dl"
 refine⟨M.length,4,rfl,⟨n,ae⟩,by decide,by decide,λi n' i0 i1=>?_⟩
 rw[mh]
 refine⟨M.length,1+i,rfl,⟨n',ae⟩,by lia,by lia,λns n' nd n1 n4 n8=>?_⟩
 rw[mh]
 have e1:(M++[MO.lst [D.int n']]).length=M.length+1:=by simp
 have g:HsD M (M++[MO.lst [D.int n']]++[MO.lst (ns.map .str)]) M.length (M.length+1) ns:=⟨dq.trans dq,AA8 _,⟨n',ac ae⟩,by lia,by rw[←e1];exact ae⟩
 have e2:∀n:Int,(M++[MO.lst [D.int n]]).length=M.length+1:=λn=>by simp
 rw[e2]
 generalize M++[MO.lst [D.int n']]++[MO.lst (ns.map .str)]=B at g
 generalize hq:M.length=q at g
 generalize q+1=p at g
 simp only[nM]
 walk_at "dl"
 refine⟨_,.inl g.nm,λ_=>?_⟩
 refine mY (λys acc S M1=>∃(ps:List (Str×Int)) (a:Option D) (i:Nat),HsD M M1 q p ns/\acc=ps.map gM/\ps.length=i/\ps.map (·.1)=ns.take i/\(∀x∈ps,(1<=x.2/\x.2<=3)/\x.1.length<=8)/\ys=(ns.map D.str).drop i/\i<=ns.length/\S=[a,some (.ref q)]) ?_ ?_ _ _ _ _ ⟨[],_,0,g,rfl,rfl,rfl,(λ_ z=>nomatch z),by simp,AAS _,rfl⟩
 ·rintro acc S M1 ⟨ps,a,i,g,rfl,pi,pn,hp,hd,im,rfl⟩
  have hi:i=ns.length:=by
   have:=congrArg ABc hd
   rw[AAb,ABk,AA6]at this
   lia
  refine⟨.inl g.nm,_,ay,?_⟩
  simp only[nL]
  walk_at "dl"
  refine⟨AAS _,?_⟩
  have g2:=(g.more (L:=[.lst (ps.map gM)])).more (L:=[.lst []])
  have pl:=g.pre.length_le
  have ql:=g.hd.lt
  have pl2:=aF g.nm
  have el:(M1++[MO.lst (ps.map gM)]).length=M1.length+1:=by simp
  refine BH g2 n1 n4 (by rw[el];lia) (by rw[el];lia) (by rw[el];lia) ae λrs r1 rn r4=>h ps rs ⟨⟨by lia,by lia⟩,λx hx=>(hp x hx).1,λx hx=>(hp x hx).2,r1,by rw[pn];exact nd.sublist (List.take_sublist _ _),rn,r4⟩
 ·rintro y ys acc S M1 ⟨ps,a,i,g,rfl,pi,pn,hp,hd,im,rfl⟩ K hK
  have hi:i<ns.length:=by
   have:=congrArg ABc hd
   rw[AAJ,ABk,AA6]at this
   lia
  have hlt:i<(ns.map D.str).length:=by rw[AA6];exact hi
  rw[List.drop_eq_getElem_cons hlt]at hd
  injection hd with h1 h2
  rw[ACK]at h1
  subst h1
  refine⟨.inl g.nm,?_⟩
  walk_at "dl"
  refine⟨q,3,rfl,g.hd,by decide,by decide,λk n' k0 k1=>?_⟩
  refine⟨ax (by lia),by rw[AA6];exact aE (by lia),hK _ _ _ ⟨ps++[(ns[i],1+k)],_,i+1,g.set,by rw[AAm];rfl,by rw[AAB,pi];rfl,?_,λx hx=>?_,h2,by lia,rfl⟩⟩
  ·rw[AAm,pn,ACE,AA5 hi];rfl
  ·rcases AAl.mp hx with hx | hx
   ·exact hp x hx
   ·rw[show x=(ns[i],1+k) by simpa using hx]
    exact⟨⟨by show 1<=1+k;lia,by show 1+k<=3;lia⟩,n8 _ (AB8 hi)⟩
theorem yo(T:Tops P w K mg base):Cal P w K mg base 4 "_law_house" qo jd :=
 Cal.byD (N:=["_law_cell","_law_held","_law_names_here","_law_people","_law_rooms","_law_room","_law_bits","_law_members"]) T.b T.f_house (by walk_at "sc") wt (by have:=jO T;have:=cT T;have:=yn T;walk_at "dv") xL
def eV:DSp:=λds M R=>∃(q p:Nat) (xs:List Str),ds=[.ref q,.ref p]/\HdP M q/\p≠q/\am M p (xs.map .str)/\1<=xs.length/\xs.length<=1000/\(∀x∈xs,x.length<=8)/\∀(x:Str) (n:Int),R (.str x) (M.set q (.lst [.int n]))
theorem ua:de eV mw:=by rintro ds M R ⟨q,p,xs,rfl,_⟩;rfl
def kQ:DTS:=bE (dSl (ab 3) eQ (hV (dC (.int 60))))
def kR:DTS:=aY (dOp ba (ab 3) (dOp qIx (ab 6) (dCB aq (aa (ab 0) (aa (dC (.int 7)) ag))))) 3
def kT:DTS:=aB (aY (kg (aa (dOp ba (dC (.str "@")) (ab 5)) (aa (dOp ba (dOp ba (dC (.str "@")) (ab 5)) (dC (.str " "))) (aa (dOp ba (dOp ba (dC (.str "@")) (ab 5)) (dC (.str "x"))) (aa (ab 5) (aa (dC (.str "hi ")) (aa (dC (.str "@")) (aa (dOp ba (dC (.str "@")) (ab 5)) ag)))))))) 6) (kR)
def kU:DTS:=aB (lR (dI (aa (dOp ba (dC (.int 1)) (dCB aq (aa (ab 0) (aa (dC (.int 4)) ag)))) ag)) (au 4) (aB (aY (dOp qIx (ab 1) (dCB aq (aa (ab 0) (aa (dCB lE (aa (ab 1) ag)) ag)))) 5) (kT))) (kQ)
def kW:DTS:=bE (ab 3)
def kX:DTS:=aB (dIf (aK (dOp qEq (dCB aq (aa (ab 0) (aa (dC (.int 3)) ag))) (dC (.int 0)))) (aB (lR (dI (aa (dOp ba (dC (.int 1)) (dCB aq (aa (ab 0) (aa (dC (.int 60)) ag)))) ag)) (au 4) (aY (dOp ba (ab 3) (dOp qIx (ab 2) (dCB aq (aa (ab 0) (aa (dC (.int 94)) ag))))) 3)) (kW)) bo) (kU)
def kY:DTS:=aB (aY (dC (.str "")) 3) (kX)
def rF:DTS:=aB (aY (dC (.str " !\"#$&'()*+,-./0123456789:;<=>?@ABCDEFGHIJKLMNOPQRSTUVWXYZ[\\]^_`abcdefghijklmnopqrstuvwxyz{|}~")) 2) (kY)
theorem uC:WpT eV 7 rF:=by
 rintro ds M R ⟨q,p,xs,rfl,hq,pq,hL,x1,xl,x8,h⟩
 have ql:=hq.lt
 have hl:(AA1 " !\"#$&'()*+,-./0123456789:;<=>?@ABCDEFGHIJKLMNOPQRSTUVWXYZ[\\]^_`abcdefghijklmnopqrstuvwxyz{|}~").cps.toList.length=94:=by decide +kernel
 have hz:(AA1 " !\"#$&'()*+,-./0123456789:;<=>?@ABCDEFGHIJKLMNOPQRSTUVWXYZ[\\]^_`abcdefghijklmnopqrstuvwxyz{|}~").length=94:=by decide +kernel
 simp only[rF,kY,kX]
 generalize AA1 " !\"#$&'()*+,-./0123456789:;<=>?@ABCDEFGHIJKLMNOPQRSTUVWXYZ[\\]^_`abcdefghijklmnopqrstuvwxyz{|}~" = sg at hl hz
 walk_at "dl"
 refine⟨q,3,rfl,hq,by decide,by decide,λi n _ _=>?_⟩
 have g0:=hq.start.set (n:=n) ql
 generalize M.set q (.lst [.int n])=B0 at g0
 refine⟨⟨rfl,rfl⟩,?_⟩
 generalize eqD B0 eqN (.int i) (.int 0)=b
 have o1:∀c:Nat,(⟨#[c]⟩:Str).length=1:=λ_=>rfl
 cases b with
 | true =>
  refine da ⟨q,60,rfl,g0.hd ql,by decide,by decide,λi n i0 i1=>?_⟩
  have g1:=g0.set (n:=n) ql
  generalize B0.set q (.lst [.int n])=B1 at g1
  walk_at "dl"
  refine⟨⟨by lia,by lia⟩,?_⟩
  refine bc (λj S M'=>Hl M M' q/\∃(z:Str) (a:Option D),z.length=j/\S=[some (.ref q),some (.ref p),some (.str sg),some (.str z),a,none,none]) ?_ ?_ ⟨g1,AA1 "",_,by decide +kernel,rfl⟩
  ·rintro S M' ⟨g,z,a,zl,rfl⟩
   refine⟨trivial,?_⟩
   simp only[kW]
   walk_at "dl"
   exact g.fin (.str _) λn=>h z n
  ·rintro j y S M' hy ⟨g,z,a,zl,rfl⟩ G hG
   have hj:=(fe.mp hy).1
   refine⟨trivial,?_⟩
   walk_at "dl"
   refine⟨q,94,rfl,g.hd ql,by decide,by decide,λk n k0 k1=>?_⟩
   have g2:=g.set (n:=n) ql
   generalize M'.set q (.lst [.int n])=B2 at g2
   obtain⟨j',hj',ej,_⟩:=eT (xs:=sg.cps.toList) k0 (by rw[hl];exact k1)
   refine⟨by rw[hz];exact ax (by lia),?_⟩
   rw[ej]
   refine⟨by rw[o1];exact ax (by lia),Fgt.now (hG _ _ ⟨g2,_,_,?_,rfl⟩)⟩
   rw[bU,o1,zl]
 | false =>
  refine cD ?_
  simp only[kU]
  walk_at "dl"
  refine⟨q,4,rfl,g0.hd ql,by decide,by decide,λi n i0 i1=>?_⟩
  have g1:=g0.set (n:=n) ql
  generalize B0.set q (.lst [.int n])=B1 at g1
  walk_at "dl"
  refine⟨⟨by lia,by lia⟩,?_⟩
  refine bc (λj S M'=>Hl M M' q/\∃(z:Str) (a b c:Option D),z.length<=20*j/\S=[some (.ref q),some (.ref p),some (.str sg),some (.str z),a,b,c]) ?_ ?_ ⟨g1,AA1 "",_,_,_,by decide +kernel,rfl⟩
  ·rintro S M' ⟨g,z,a,b,c,zl,rfl⟩
   rw[gF]at zl
   refine⟨trivial,?_⟩
   simp only[kQ]
   walk_at "dl"
   exact⟨ax (by lia),g.fin (.str _) λn=>h _ n⟩
  ·rintro j y S M' hy ⟨g,z,a,b,c,zl,rfl⟩ G hG
   have hj:=(fe.mp hy).1
   have hL':=g.oldL pq hL
   refine⟨trivial,?_⟩
   walk_at "dl"
   refine⟨_,hL',q,_,rfl,g.hd ql,by rw[AA6];lia,by rw[AA6];lia,λk n k0 k1=>?_⟩
   have g2:=g.set (n:=n) ql
   have hL2:=g2.oldL pq hL
   generalize M'.set q (.lst [.int n])=B2 at g2 hL2
   obtain⟨j',hj',ej,_⟩:=eT (xs:=xs.map D.str) k0 k1
   rw[ACK]at ej
   have w8:=x8 _ (AB8 (by rw[AA6]at hj';exact hj'))
   refine⟨_,hL2,?_⟩
   rw[ej]
   generalize xs[j']'(by rw[AA6]at hj';exact hj')=w at w8
   have sa:(AA1 "@").length=1:=by decide +kernel
   have sb:(AA1 " ").length=1:=by decide +kernel
   have sx:(AA1 "x").length=1:=by decide +kernel
   have sh:(AA1 "hi ").length=3:=by decide +kernel
   simp only[kT]
   walk_at "dl"
   refine⟨by rw[sa];exact ax (by lia),by rw[sa];exact ax (by lia),by rw[bU,sa,sb];exact ax (by lia),by rw[sa];exact ax (by lia),by rw[bU,sa,sx];exact ax (by lia),by rw[sa];exact ax (by lia),ax (by lia),?_⟩
   simp only[kR]
   walk_at "dl"
   refine⟨q,7,rfl,(g2.more).hd ql,by decide,by decide,λk n k0 k1=>?_⟩
   have g3:=(g2.more (L:=[.lst [.str (AA1 "@" ++ w),.str (AA1 "@" ++ w++AA1 " "),.str (AA1 "@" ++ w++AA1 "x"),.str w,.str (AA1 "hi "),.str (AA1 "@"),.str (AA1 "@" ++ w)]])).set (n:=n) ql
   have gl:((B2++[MO.lst [.str (AA1 "@" ++ w),.str (AA1 "@" ++ w++AA1 " "),.str (AA1 "@" ++ w++AA1 "x"),.str w,.str (AA1 "hi "),.str (AA1 "@"),.str (AA1 "@" ++ w)]]).set q (.lst [.int n]))[B2.length]?=some (.lst [.str (AA1 "@" ++ w),.str (AA1 "@" ++ w++AA1 " "),.str (AA1 "@" ++ w++AA1 "x"),.str w,.str (AA1 "hi "),.str (AA1 "@"),.str (AA1 "@" ++ w)]):=ap (by have:=g2.len;lia) ae
   have ex:∃s:Str,atI [D.str (AA1 "@" ++ w),.str (AA1 "@" ++ w++AA1 " "),.str (AA1 "@" ++ w++AA1 "x"),.str w,.str (AA1 "hi "),.str (AA1 "@"),.str (AA1 "@" ++ w)] k=some (.str s)/\s.length<=20:=by
    have:k=0\/k=1\/k=2\/k=3\/k=4\/k=5\/k=6:=by lia
    rcases this with rfl | rfl | rfl | rfl | rfl | rfl | rfl
    ·exact⟨_,az (j:=0) rfl,by rw[bU,sa];lia⟩
    ·exact⟨_,az (j:=1) rfl,by rw[bU,bU,sa,sb];lia⟩
    ·exact⟨_,az (j:=2) rfl,by rw[bU,bU,sa,sx];lia⟩
    ·exact⟨_,az (j:=3) rfl,by lia⟩
    ·exact⟨_,az (j:=4) rfl,by rw[sh];lia⟩
    ·exact⟨_,az (j:=5) rfl,by rw[sa];lia⟩
    ·exact⟨_,az (j:=6) rfl,by rw[bU,sa];lia⟩
   obtain⟨s,es,sl⟩:=ex
   refine⟨_,.inl gl,?_⟩
   rw[es]
   refine⟨ax (by lia),Fgt.now (hG _ _ ⟨g3,_,_,_,_,?_,rfl⟩)⟩
   rw[bU];lia
theorem vV(T:Tops P w K mg base):Cal P w K mg base 2 "_law_saying" mw eV :=
 Cal.byD (N:=["_law_held","_law_names_here","_law_signs","_law_saying_here","_law_k","_law_name_here","_law_pieces"]) T.b T.f_saying (by walk_at "sc") ua (by have:=cT T;walk_at "dv") uC
def cB:DSp:=λds M R=>∃(q p s:Nat) (hs sts:List D),ds=[.ref q,.ref p,.ref s]/\HdP M q/\p≠q/\s≠q/\am M p hs/\(∀x∈hs,Hd x)/\1<=hs.length/\hs.length<=12/\am M s sts/\(∀x∈sts,St x)/\sts.length<=1000/\∀(d:D) (n:Int),St d->R d (M.set q (.lst [.int n]))
theorem yF:de cB vR:=by rintro ds M R ⟨q,p,s,hs,sts,rfl,_⟩;rfl
theorem St.bel(h:St d):Bel k d:=bH 2 d h.pl
def rG:DTS:=bE (dOp qIx (ab 2) (dCB aq (aa (ab 0) (aa (dCB lE (aa (ab 2) ag)) ag))))
def rH:DTS:=aB (dIf (aK (dOp qEq (ab 3) (dC (.int 1)))) (bE (gY (aa (dOp ba (dC (.int 1)) (dCB aq (aa (ab 0) (aa (dOp AL (dC (.int 10)) (dC (.int 9))) ag)))) (aa (dOp qIx (ab 1) (dCB aq (aa (ab 0) (aa (dCB lE (aa (ab 1) ag)) ag)))) ag)))) bo) (rG)
def rJ:DTS:=aB (dIf (dOr (aK (dOp qEq (ab 3) (dC (.int 0)))) (aK (dOp qEq (ab 2) (kg ag)))) (bE (gY (aa (dOp ba (dC (.int 1)) (dCB aq (aa (ab 0) (aa (dC (.int 70)) ag)))) (aa (dOp qIx (ab 1) (dCB aq (aa (ab 0) (aa (dCB lE (aa (ab 1) ag)) ag)))) ag)))) bo) (rH)
def zw:DTS:=aB (aY (dCB aq (aa (ab 0) (aa (dC (.int 8)) ag))) 3) (rJ)
theorem ms(ql:q<M.length)(pq:p≠q)(hp:am M p hs)(hh:∀x∈hs,Hd x)(h1:1<=hs.length)(h12:hs.length<=12)(h:∀(d:D) (n:Int),St d->R d (M.set q (.lst [.int n])))(g:Hl M B q)(ht:∀S B Q,Q (.int m) B->tm S B Q)(m0:0<m)(m1:m<100000000000) :
  (bE (gY (aa (dOp ba (dC (.int 1)) (dCB aq (aa (ab 0) (aa tm ag)))) (aa (dOp qIx (ab 1) (dCB aq (aa (ab 0) (aa (dCB lE (aa (ab 1) ag)) ag)))) ag)))) (EE M R) [some (.ref q),some (.ref p),y2,y3] B:=by
 walk_at "dl"
 refine ht _ _ _ ?_
 refine⟨q,m,rfl,g.hd ql,m0,m1,λi n i0 i1=>?_⟩
 have g1:=g.set (n:=n) ql
 generalize B.set q (.lst [.int n])=B1 at g1
 refine⟨hs,g1.oldL pq hp,q,_,rfl,g1.hd ql,by lia,by lia,λk n k0 k1=>?_⟩
 have g2:=g1.set (n:=n) ql
 generalize B1.set q (.lst [.int n])=B2 at g2
 obtain⟨j,hj,ej,_⟩:=eT (xs:=hs) k0 k1
 obtain⟨z,k2,ez⟩:=hh _ (AB8 hj)
 refine⟨hs,g2.oldL pq hp,?_⟩
 rw[ej]
 have:St (.tup [.int (1+i),hs[j]]):=⟨1+i,z,k2,by rw[ez]⟩
 exact⟨ax (by lia),g2.fin this.bel λn=>h _ n this⟩
theorem At:WpT cB 4 zw:=by
 rintro ds M R ⟨q,p,s,hs,sts,rfl,hq,pq,sq,hp,hh,h1,h12,hs',hst,sl,h⟩
 have ql:=hq.lt
 have ok29:∀{B:Mem},∀x∈sts,okD B 29 x=true:=λ{B} x hx=>by obtain⟨t,z,k,rfl⟩:=hst x hx;rfl
 simp only[zw]
 walk_at "dl"
 refine⟨q,8,rfl,hq,by decide,by decide,λi n _ _=>?_⟩
 have g0:=hq.start.set (n:=n) ql
 generalize M.set q (.lst [.int n])=B0 at g0
 simp only[rJ]
 walk_at "dl"
 refine⟨⟨rfl,rfl⟩,?_⟩
 generalize eqD B0 eqN (.int i) (.int 0)=b0
 cases b0 with
 | true=>exact da (ms (m:=70) (tm:=dC (.int 70)) (y2:=some (.ref s)) (y3:=some (.int i)) ql pq hp hh h1 h12 h g0 (λ_ _ _ q=>q) (by decide) (by decide))
 | false =>
  refine cD ?_
  obtain⟨okk,ee⟩:=iV (g0.oldL sq hs') ok29
  refine⟨AAS _,okk,?_⟩
  rw[ee]
  have g1:=g0.more (L:=[.lst []])
  generalize B0++[MO.lst []]=B1 at g1
  cases he:sts.isEmpty with
  | true=>exact da (ms (m:=70) (tm:=dC (.int 70)) (y2:=some (.ref s)) (y3:=some (.int i)) ql pq hp hh h1 h12 h g1 (λ_ _ _ q=>q) (by decide) (by decide))
  | false =>
   refine cD ?_
   simp only[rH]
   walk_at "dl"
   refine⟨⟨rfl,rfl⟩,?_⟩
   generalize eqD B1 eqN (.int i) (.int 1)=b1
   cases b1 with
   | true=>exact da (ms (m:=10 ^ Int.toNat 9) (tm:=dOp AL (dC (.int 10)) (dC (.int 9))) (y2:=some (.ref s)) (y3:=some (.int i)) ql pq hp hh h1 h12 h g1 (λ_ _ _ q=>⟨⟨by decide,by decide,by decide⟩,q⟩) (by decide) (by decide))
   | false =>
    refine cD ?_
    simp only[rG]
    walk_at "dl"
    have s1:1<=sts.length:=by
     cases sts with
     | nil=>cases he
     | cons x xs=>simp
    refine⟨sts,g1.oldL sq hs',q,_,rfl,g1.hd ql,by lia,by lia,λk n k0 k1=>?_⟩
    have g2:=g1.set (n:=n) ql
    generalize B1.set q (.lst [.int n])=B2 at g2
    obtain⟨j,hj,ej,_⟩:=eT (xs:=sts) k0 k1
    refine⟨sts,g2.oldL sq hs',?_⟩
    rw[ej]
    have hx:=hst _ (AB8 hj)
    exact g2.fin hx.bel λn=>h _ n hx
theorem vW(T:Tops P w K mg base):Cal P w K mg base 2 "_law_pick" vR cB :=
 Cal.byD (N:=["_law_held","_law_hands_here","_law_says","_law_way"]) T.b T.f_pick (by walk_at "sc") yF (by have:=cT T;walk_at "dv") At
def hX:DSp:=λds M R=>∃(q p t:Nat) (hs:List D) (kvs:List (D×D)),ds=[.ref q,.ref p,.ref t]/\HdP M q/\p≠q/\t≠q/\am M p hs/\(∀x∈hs,Hd x)/\hs.length<=12/\M[t]?=some (.dkt kvs)/\(∀x∈kvs,∃v:Int,x.2=.int v/\0<=v/\v<=1000)/\∀(vs:List D) (n:Int),kI 3 vs->R (.tup vs) (M.set q (.lst [.int n]))
theorem tZ:de hX mv:=by rintro ds M R ⟨q,p,t,hs,kvs,rfl,_⟩;rfl
theorem kI.snoc(h:kI n ds)(t:Pln n d):kI n (ds++[d]):=by
 unfold kI at h ⊢
 rw[List.all_append,h]
 simpa [Pln]using t
def kL:DTS:=bE (dCB fJ (aa (ab 3) ag))
def kM:DTS:=dIf (aK (dOp qGt (ab 5) (dC (.int 0)))) (iT (dMl cw (ab 3) (aa (gY (aa (ab 4) (aa (ab 5) ag))) ag))) bo
def kN:DTS:=aB (lR (bT (ab 1)) (au 4) (aB (aY (dCB aq (aa (ab 0) (aa (dOp ba (dMt gH (ab 2) (aa (ab 4) (aa (dC (.int 0)) ag))) (dC (.int 3))) ag))) 5) (kM))) (kL)
def rC:DTS:=aB (aY (kg ag) 3) (kN)
theorem uB:WpT hX 6 rC:=by
 rintro ds M R ⟨q,p,t,hs,kvs,rfl,hq,pq,tq,hp,hh,h12,ht,hv,h⟩
 have ql:=hq.lt
 simp only[rC,kN]
 walk_at "dl"
 refine⟨AAS _,_,hp.more _,λ_=>?_⟩
 have g0:Hl M (M++[MO.lst []]) q:=hq.start.more
 refine bc (λi S M'=>∃(vs:List D) (a b:Option D),Hl M M' q/\M'[M.length]?=some (.lst vs)/\kI 3 vs/\vs.length<=i/\S=[some (.ref q),some (.ref p),some (.ref t),some (.ref M.length),a,b]) ?_ ?_ ⟨[],_,_,g0,ae,.nil,AA8 _,rfl⟩
 ·rintro S M' ⟨vs,a,b,g,gv,pv,vl,rfl⟩
  refine⟨g.oldL pq hp,?_⟩
  simp only[kL]
  walk_at "dl"
  exact⟨_,.inl gv,g.fin (bH 4 _ (.tup pv)) λn=>h vs n pv⟩
 ·rintro i y S M' hy ⟨vs,a,b,g,gv,pv,vl,rfl⟩ G hG
  have hi:=(AA7.mp hy).1
  obtain⟨z,k,rfl⟩:=hh y (AAc hy)
  refine⟨g.oldL pq hp,?_⟩
  walk_at "dl"
  have gt:=g.old tq ht
  refine⟨⟨_,gt⟩,_,gt,rfl,?_⟩
  have hg:∃v:Int,(aM kvs (.tup [.str z,.int k])).getD (.int 0)=.int v/\0<=v/\v<=1000:=by
   cases e:aM kvs (.tup [.str z,.int k]) with
   | none=>exact⟨0,rfl,by decide,by decide⟩
   | some d=>exact hv _ (bK e)
  obtain⟨v,ev,v0,v1⟩:=hg
  rw[ev]
  refine⟨q,v+3,rfl,g.hd ql,by lia,by lia,λc n c0 c1=>?_⟩
  have g1:=g.set (n:=n) ql
  have gv1:(M'.set q (.lst [.int n]))[M.length]?=some (.lst vs):=ap (by lia) gv
  generalize M'.set q (.lst [.int n])=B1 at g1 gv1
  simp only[kM]
  walk_at "dl"
  by_cases hc:c > 0
  ·rw[decide_eq_true hc]
   refine da ⟨⟨_,.inl gv1⟩,ax (by lia),_,gv1,aE (by lia),?_⟩
   exact Fgt.now (hG _ _ ⟨_,_,_,g1.setO (AA8 _),bn gv1,pv.snoc (.tup (.cons (yV ⟨_,_,rfl⟩) (.cons (.int _) .nil))),by rw[AAB,AAY];lia,rfl⟩)
  ·rw[decide_eq_false hc]
   exact cD (Fgt.now (hG _ _ ⟨vs,_,_,g1,gv1,pv,by lia,rfl⟩))
theorem vU(T:Tops P w K mg base):Cal P w K mg base 2 "_law_vector" mv hX :=
 Cal.byD (N:=["_law_held","_law_hands_here","_law_done","_law_found","_law_hand","_law_count"]) T.b T.f_vector (by walk_at "sc") tZ (by have:=cT T;walk_at "dv") uB
def nh:DSp:=λds M R=>∃(q p s:Nat) (ps:List (Str×Int)) (rs:List (Str×List Str)) (hs sts:List D),ds=[.ref q,aG ps rs,.ref p,.ref s]/\HdP M q/\HouseF ps rs/\p≠q/\s≠q/\am M p hs/\(∀x∈hs,Hd x)/\1<=hs.length/\hs.length<=12/\am M s sts/\(∀x∈sts,St x)/\sts.length<=1000/\∀(d:D) (n:Int),Pln 4 d->R d (M.set q (.lst [.int n]))
theorem yD:de nh vP:=by rintro ds M R ⟨q,p,s,ps,rs,hs,sts,rfl,_⟩;rfl
def rj:DTS:=bE (gY (aa (dC (.str "under")) (aa (dCB cB (aa (ab 0) (aa (ab 2) (aa (ab 3) ag)))) ag)))
def rA:DTS:=aB (dIf (aK (dOp qEq (ab 4) (dC (.int 1)))) (bE (gY (aa (dC (.str "person")) (aa (dOp qIx (dOp qIx (dOp qIx (ab 1) (dC (.int 0))) (dCB aq (aa (ab 0) (aa (dCB lE (aa (dOp qIx (ab 1) (dC (.int 0))) ag)) ag)))) (dC (.int 0))) ag)))) bo) (rj)
def rB:DTS:=aB (dIf (aK (dOp qEq (ab 4) (dC (.int 0)))) (bE (gY (aa (dC (.str "room")) (aa (dOp qIx (dOp qIx (dOp qIx (ab 1) (dC (.int 1))) (dCB aq (aa (ab 0) (aa (dCB lE (aa (dOp qIx (ab 1) (dC (.int 1))) ag)) ag)))) (dC (.int 0))) ag)))) bo) (rA)
def zu:DTS:=aB (aY (dCB aq (aa (ab 0) (aa (dC (.int 3)) ag))) 4) (rB)
theorem Ar:WpT nh 5 zu:=by
 rintro ds M R ⟨q,p,s,ps,rs,hs,sts,rfl,hq,hf,pq,sq,hp,hh,h1,h12,hs',hst,sl,h⟩
 have ql:=hq.lt
 have l1:=hf.len
 have l2:=hf.rl
 simp only[zu,aG]
 walk_at "dl"
 refine⟨q,3,rfl,hq,by decide,by decide,λi n _ _=>?_⟩
 have g0:=hq.start.set (n:=n) ql
 generalize M.set q (.lst [.int n])=B0 at g0
 simp only[rB]
 walk_at "dl"
 refine⟨⟨rfl,rfl⟩,?_⟩
 generalize eqD B0 eqN (.int i) (.int 0)=b0
 cases b0 with
 | true =>
  refine da ⟨q,_,rfl,g0.hd ql,by rw[AA6];lia,by rw[AA6];lia,λk n k0 k1=>?_⟩
  have g1:=g0.set (n:=n) ql
  generalize B0.set q (.lst [.int n])=B1 at g1
  obtain⟨j,hj,ej,_⟩:=eT (xs:=rs.map jz) k0 k1
  rw[ACK]at ej
  walk_at "dl"
  rw[ej]
  unfold jz
  walk_at "dl"
  refine⟨ax (by lia),g1.fin (.tup (.cons (.str _) (.cons (.str _) .nil))) λn=>h _ n (.tup (.cons (.str _) (.cons (.str _) .nil)))⟩
 | false =>
  refine cD ?_
  simp only[rA]
  walk_at "dl"
  refine⟨⟨rfl,rfl⟩,?_⟩
  generalize eqD B0 eqN (.int i) (.int 1)=b1
  cases b1 with
  | true =>
   refine da ⟨q,_,rfl,g0.hd ql,by rw[AA6];lia,by rw[AA6];lia,λk n k0 k1=>?_⟩
   have g1:=g0.set (n:=n) ql
   generalize B0.set q (.lst [.int n])=B1 at g1
   obtain⟨j,hj,ej,_⟩:=eT (xs:=ps.map gM) k0 k1
   rw[ACK]at ej
   walk_at "dl"
   rw[ej]
   unfold gM
   walk_at "dl"
   refine⟨ax (by lia),g1.fin (.tup (.cons (.str _) (.cons (.str _) .nil))) λn=>h _ n (.tup (.cons (.str _) (.cons (.str _) .nil)))⟩
  | false =>
   refine cD ?_
   simp only[rj]
   walk_at "dl"
   refine⟨q,p,s,hs,sts,rfl,g0.hd ql,pq,sq,g0.oldL pq hp,hh,h1,h12,g0.oldL sq hs',hst,sl,λd n hd=>?_⟩
   have g1:=g0.set (n:=n) ql
   generalize B0.set q (.lst [.int n])=B1 at g1
   exact⟨ax (by lia),g1.fin (.tup (.cons (.str _) (.cons hd.bel .nil))) λn=>h _ n (.tup (.cons (.str _) (.cons hd.pl .nil)))⟩
theorem Bi(T:Tops P w K mg base):Cal P w K mg base 3 "_law_what" vP nh :=
 Cal.byD (N:=["_law_held","_law_house_here","_law_hands_here","_law_says","_law_way"]) T.b T.f_what (by walk_at "sc") yD (by have:=cT T;have:=vW T;walk_at "dv") Ar
def tp:DSp:=λds M R=>∃(q p s t:Nat) (ps:List (Str×Int)) (rs:List (Str×List Str)) (hs sts:List D) (kvs:List (D×D)),ds=[.ref q,aG ps rs,.ref p,.ref s,.ref t]/\HdP M q/\HouseF ps rs/\(p≠q/\s≠q/\t≠q)/\am M p hs/\(∀x∈hs,Hd x)/\1<=hs.length/\hs.length<=12/\am M s sts/\(∀x∈sts,St x)/\sts.length<=1000/\M[t]?=some (.dkt kvs)/\(∀x∈kvs,∃v:Int,x.2=.int v/\0<=v/\v<=1000)/\∀(x:Str) (dl:List D) (n:Int),kI 4 dl->ActK rs x dl->R (.tup (.str x::dl)) (M.set q (.lst [.int n]))
theorem Bv:de tp Bf:=by rintro ds M R ⟨q,p,s,t,ps,rs,hs,sts,kvs,rfl,_⟩;rfl
theorem eU(g:Hl M B q)(h:∀(x:Str) (dl:List D) (n:Int),kI 4 dl->ActK rs x dl->R (.tup (.str x::dl)) (M.set q (.lst [.int n])))(hp:kI 4 dl)(ha:ActK rs x dl):bD M R (.tup (.str x::dl)) B :=
 g.fin (bH 5 _ (.tup (.cons (.str _) hp))) λn=>h x dl n hp ha
theorem k_ne:AA1 "read"≠AA1 "say"/\AA1 "read"≠AA1 "change"/\AA1 "read"≠AA1 "back"/\AA1 "read"≠AA1 "like":=by decide +kernel
theorem k_ne2:AA1 "seen"≠AA1 "say"/\AA1 "seen"≠AA1 "change"/\AA1 "seen"≠AA1 "back"/\AA1 "seen"≠AA1 "like":=by decide +kernel
theorem k_ne3:AA1 "hush"≠AA1 "say"/\AA1 "hush"≠AA1 "change"/\AA1 "hush"≠AA1 "back"/\AA1 "hush"≠AA1 "like":=by decide +kernel
theorem k_ne4:AA1 "rung"≠AA1 "say"/\AA1 "rung"≠AA1 "change"/\AA1 "rung"≠AA1 "back"/\AA1 "rung"≠AA1 "like":=by decide +kernel
def rV:DTS:=bE (gY (aa (dC (.str "rung")) (aa (dCB cB (aa (ab 0) (aa (ab 2) (aa (ab 3) ag)))) ag)))
def rW:DTS:=aB (dIf (aK (dOp qEq (ab 5) (dC (.int 9)))) (bE (gY (aa (dC (.str "hush")) (aa (dCB nh (aa (ab 0) (aa (ab 1) (aa (ab 2) (aa (ab 3) ag))))) (aa (dOp qGt (dCB aq (aa (ab 0) (aa (dC (.int 3)) ag))) (dC (.int 0))) ag))))) bo) (rV)
def rX:DTS:=aB (dIf (aK (dOp qEq (ab 5) (dC (.int 8)))) (bE (gY (aa (dC (.str "seen")) (aa (dCB cB (aa (ab 0) (aa (ab 2) (aa (ab 3) ag)))) ag)))) bo) (rW)
def rY:DTS:=aB (dIf (aK (dOp qEq (ab 5) (dC (.int 7)))) (bE (gY (aa (dC (.str "read")) (aa (ab 7) (aa (dCB hX (aa (ab 0) (aa (ab 2) (aa (ab 4) ag)))) ag))))) bo) (rX)
def vb:DTS:=bE (gY (aa (dC (.str "like")) (aa (dCB cB (aa (ab 0) (aa (ab 2) (aa (ab 3) ag)))) (aa (ab 9) (aa (dOp qGt (dCB aq (aa (ab 0) (aa (dC (.int 3)) ag))) (dC (.int 0))) ag)))))
def vc:DTS:=aB (dIf (aK (dOp qEq (ab 5) (dC (.int 6)))) (aB (aY (dOp qIx (kg (aa (dC (.str "good")) (aa (dC (.str "no")) (aa (dCB iw (aa (ab 0) ag)) ag)))) (dCB aq (aa (ab 0) (aa (dC (.int 3)) ag)))) 9) (vb)) bo) (rY)
def vh:DTS:=aB (dIf (aK (dOp qEq (ab 5) (dC (.int 5)))) (bE (gY (aa (dC (.str "back")) (aa (dCB cB (aa (ab 0) (aa (ab 2) (aa (ab 3) ag)))) ag)))) bo) (vc)
def me:DTS:=aB (dIf (aK (dOp qEq (ab 5) (dC (.int 4)))) (bE (gY (aa (dC (.str "change")) (aa (dCB cB (aa (ab 0) (aa (ab 2) (aa (ab 3) ag)))) (aa (dCB eV (aa (ab 0) (aa (ab 6) ag))) ag))))) bo) (vh)
def qa:DTS:=bE (gY (aa (dC (.str "say")) (aa (ab 7) (aa (ab 8) (aa (dCB eV (aa (ab 0) (aa (ab 6) ag))) ag)))))
def qc:DTS:=aB (dIf (Fj (aK (dOp qGt (dCB aq (aa (ab 0) (aa (dC (.int 3)) ag))) (dC (.int 0)))) (aK (dOp qNe (ab 3) (kg ag)))) (aY (dCB cB (aa (ab 0) (aa (ab 2) (aa (ab 3) ag)))) 8) bo) (qa)
def vj:DTS:=aB (dIf (dOr (aK (dOp qLt (ab 5) (dC (.int 4)))) (Fj (aK (dOp qEq (ab 3) (kg ag))) (aK (dOp qLt (ab 5) (dC (.int 7)))))) (aB (aY (dC .non) 8) (qc)) bo) (me)
def vm:DTS:=aB (aY (dOp qIx (dOp qIx (dOp qIx (ab 1) (dC (.int 1))) (dCB aq (aa (ab 0) (aa (dCB lE (aa (dOp qIx (ab 1) (dC (.int 1))) ag)) ag)))) (dC (.int 0))) 7) (vj)
def vn:DTS:=aB (kh 2 [] (bT (dOp qIx (ab 1) (dC (.int 0)))) (qR 2 (eP (au 0) (eP (au 1) qS))) sV (ab 0) 6) (vm)
def CI:DTS:=aB (aY (dCB aq (aa (ab 0) (aa (dC (.int 11)) ag))) 5) (vn)
section
variable{M B:Mem}{R:DK}{q p s t w:Nat}{ps:List (Str×Int)}{rs:List (Str×List Str)}{hs sts:List D}{kvs:List (D×D)}{kind:Int}{xs:List Str}{room:Str}{y8 y9:Option D}
theorem act_6(ql:q<M.length)(hf:HouseF ps rs)(ne:p≠q/\s≠q/\t≠q)(hp:am M p hs)(hh:∀x∈hs,Hd x)(h1:1<=hs.length)(h12:hs.length<=12)(hs':am M s sts)(hst:∀x∈sts,St x)(sl:sts.length<=1000)(ht:M[t]?=some (.dkt kvs))(hv:∀x∈kvs,∃v:Int,x.2=.int v/\0<=v/\v<=1000)
  (g:Hl M B q) (wM:M.length<=w) (gw:B[w]?=some (.lst (xs.map .str))) (x1:1<=xs.length) (x4:xs.length<=4) (x8:∀x∈xs,x.length<=8)
  (h:∀(x:Str) (dl:List D) (n:Int),kI 4 dl->ActK rs x dl->R (.tup (.str x::dl)) (M.set q (.lst [.int n]))) :
  me (EE M R) [some (.ref q),some (aG ps rs),some (.ref p),some (.ref s),some (.ref t),some (.int kind),some (.ref w),some (.str room),y8,y9] B:=by
 have pk:∀{B:Mem}{Q:DK},Hl M B q->(∀(d:D) (B':Mem),St d->Hl M B' q->(∀j x,M.length<=j->B[j]?=some x->B'[j]?=some x)->Q d B')->cB [.ref q,.ref p,.ref s] B Q:=λ{B Q} g k =>
  ⟨q,p,s,hs,sts,rfl,g.hd ql,ne.1,ne.2.1,g.oldL ne.1 hp,hh,h1,h12,g.oldL ne.2.1 hs',hst,sl,λd n hd=>k d _ hd (g.set ql) λj x hj e=>ap (by lia) e⟩
 simp only[me]
 walk_at "dl"
 refine⟨⟨rfl,rfl⟩,?_⟩
 generalize eqD B eqN (.int kind) (.int 4)=b4
 cases b4 with
 | true =>
  refine da (pk g λd B1 hd g1 kp=>?_)
  refine⟨q,w,xs,rfl,g1.hd ql,by lia,.inl (kp _ _ wM gw),x1,by lia,x8,λz n=>?_⟩
  exact⟨ax (by lia),eU (g1.set ql) h (.cons hd.pl (.cons (.str _) .nil)) (.mkChange hd)⟩
 | false =>
 refine cD ?_
 simp only[vh]
 walk_at "dl"
 refine⟨⟨rfl,rfl⟩,?_⟩
 generalize eqD B eqN (.int kind) (.int 5)=b5
 cases b5 with
 | true=>exact da (pk g λd B1 hd g1 kp=>⟨ax (by lia),eU g1 h (.cons hd.pl .nil) (.mkBack hd)⟩)
 | false =>
 refine cD ?_
 simp only[vc]
 walk_at "dl"
 refine⟨⟨rfl,rfl⟩,?_⟩
 generalize eqD B eqN (.int kind) (.int 6)=b6
 cases b6 with
 | true =>
  refine da ⟨q,rfl,g.hd ql,λz n zl=>?_⟩
  have g1:=g.set (n:=n) ql
  generalize B.set q (.lst [.int n])=B1 at g1
  refine⟨ax (by lia),q,3,rfl,(g1.more).hd ql,by decide,by decide,λk n k0 k1=>?_⟩
  have g2:=(g1.more (L:=[.lst [.str (AA1 "good"),.str (AA1 "no"),.str z]])).set (n:=n) ql
  have gl:((B1++[MO.lst [.str (AA1 "good"),.str (AA1 "no"),.str z]]).set q (.lst [.int n]))[B1.length]?=some (.lst [.str (AA1 "good"),.str (AA1 "no"),.str z]):=ap (by have:=g1.len;lia) ae
  generalize (B1++[MO.lst [.str (AA1 "good"),.str (AA1 "no"),.str z]]).set q (.lst [.int n])=B2 at g2 gl
  have ex:∃s:Str,atI [D.str (AA1 "good"),.str (AA1 "no"),.str z] k=some (.str s):=by
   have:k=0\/k=1\/k=2:=by lia
   rcases this with rfl | rfl | rfl
   ·exact⟨_,az (j:=0) rfl⟩
   ·exact⟨_,az (j:=1) rfl⟩
   ·exact⟨_,az (j:=2) rfl⟩
  obtain⟨so,es⟩:=ex
  refine⟨_,.inl gl,?_⟩
  rw[es]
  simp only[vb]
  walk_at "dl"
  refine pk g2 λd B3 hd g3 kp=>?_
  refine⟨q,3,rfl,g3.hd ql,by decide,by decide,λk n k0 k1=>?_⟩
  exact⟨ax (by lia),eU (g3.set ql) h (.cons hd.pl (.cons (.str _) (.cons (.bl _) .nil))) (.mkLike hd)⟩
 | false =>
 refine cD ?_
 simp only[rY]
 walk_at "dl"
 refine⟨⟨rfl,rfl⟩,?_⟩
 generalize eqD B eqN (.int kind) (.int 7)=b7
 cases b7 with
 | true =>
  refine da ⟨q,p,t,hs,kvs,rfl,g.hd ql,ne.1,ne.2.2,g.oldL ne.1 hp,hh,h12,g.old ne.2.2 ht,hv,λvs n hvs=>?_⟩
  exact⟨ax (by lia),eU (g.set ql) h (.cons (.str _) (.cons (.tup hvs) .nil)) (.mkNone k_ne)⟩
 | false =>
 refine cD ?_
 simp only[rX]
 walk_at "dl"
 refine⟨⟨rfl,rfl⟩,?_⟩
 generalize eqD B eqN (.int kind) (.int 8)=b8
 cases b8 with
 | true=>exact da (pk g λd B1 hd g1 kp=>⟨ax (by lia),eU g1 h (.cons hd.pl .nil) (.mkNone k_ne2)⟩)
 | false =>
 refine cD ?_
 simp only[rW]
 walk_at "dl"
 refine⟨⟨rfl,rfl⟩,?_⟩
 generalize eqD B eqN (.int kind) (.int 9)=b9
 cases b9 with
 | true =>
  refine da ⟨q,p,s,ps,rs,hs,sts,rfl,g.hd ql,hf,ne.1,ne.2.1,g.oldL ne.1 hp,hh,h1,h12,g.oldL ne.2.1 hs',hst,sl,λd n hd=>?_⟩
  have g1:=g.set (n:=n) ql
  generalize B.set q (.lst [.int n])=B1 at g1
  refine⟨q,3,rfl,g1.hd ql,by decide,by decide,λk n k0 k1=>?_⟩
  exact⟨ax (by lia),eU (g1.set ql) h (.cons hd (.cons (.bl _) .nil)) (.mkNone k_ne3)⟩
 | false =>
 refine cD ?_
 simp only[rV]
 walk_at "dl"
 exact pk g λd B1 hd g1 kp=>⟨ax (by lia),eU g1 h (.cons hd.pl .nil) (.mkNone k_ne4)⟩
end
theorem Cz:WpT tp 10 CI:=by
 rintro ds M R ⟨q,p,s,t,ps,rs,hs,sts,kvs,rfl,hq,hf,ne,hp,hh,h1,h12,hs',hst,sl,ht,hv,h⟩
 have ql:=hq.lt
 have l1:=hf.len
 have l2:=hf.rl
 simp only[CI]
 walk_at "dl"
 refine⟨q,11,rfl,hq,by decide,by decide,λkind n _ _=>?_⟩
 have g0:=hq.start.set (n:=n) ql
 generalize M.set q (.lst [.int n])=B0 at g0
 simp only[vn,aG]
 walk_at "dl"
 intro _
 refine bZ (λd=>(match d with | .tup (x::_)=>x | _=>.non)) (λS=>∃a b,S=[a,b]) trivial _ _ _ (λx hx S hS=>?_) ⟨_,_,rfl⟩ (by rw[AAb,AA6];exact ax (by lia)) ?_
 ·obtain⟨a,b,rfl⟩:=hS
  obtain⟨y,_,rfl⟩:=AAO.mp hx
  refine⟨[some (.str y.1),some (.int y.2)],⟨_,_,rfl⟩,λY hY=>?_⟩
  unfold gM
  walk_at "dl"
  exact⟨trivial,hY⟩
 ·rw[AAx]
  have en:(ps.map gM).map (λd=>(match d with | .tup (x::_)=>x | _=>.non))=(ps.map (·.1)).map D.str:=by
   rw[AB6,AB6];rfl
  rw[en]
  have g1:=g0.more (L:=[.lst ((ps.map (·.1)).map D.str)])
  have gw:(B0++[MO.lst ((ps.map (·.1)).map D.str)])[B0.length]?=some (.lst ((ps.map (·.1)).map D.str)):=ae
  have wM:=g0.len
  have x8:∀x∈ps.map (·.1),x.length<=8:=λx hx=>by
   obtain⟨y,hy,rfl⟩:=AAO.mp hx
   exact hf.nm y hy
  have xl:(ps.map (·.1)).length=ps.length:=AA6 _
  generalize B0++[MO.lst ((ps.map (·.1)).map D.str)]=B1 at g1 gw
  generalize B0.length=w at gw wM
  generalize ps.map (·.1)=xs at gw x8 xl
  simp only[vm]
  walk_at "dl"
  refine⟨q,_,rfl,g1.hd ql,by rw[AA6];lia,by rw[AA6];lia,λk n k0 k1=>?_⟩
  have g2:=g1.set (n:=n) ql
  have gw2:(B1.set q (.lst [.int n]))[w]?=some (.lst (xs.map .str)):=ap (by lia) gw
  generalize B1.set q (.lst [.int n])=B2 at g2 gw2
  obtain⟨j,hj,ej,_⟩:=eT (xs:=rs.map jz) k0 k1
  rw[ACK]at ej
  have hj':j<rs.length:=by rw[AA6]at hj;exact hj
  have hr:(rs[j]'hj').1∈rs.map (·.1):=AAp (AB8 hj')
  walk_at "dl"
  rw[ej]
  unfold jz
  walk_at "dl"
  generalize (rs[j]'hj').1=room at hr
  have ok29:∀{B:Mem},∀x∈sts,okD B 29 x=true:=λ{B} x hx=>by obtain⟨t,z,k,rfl⟩:=hst x hx;rfl
  have six:∀{B:Mem}{y8 y9:Option D},Hl M B q->B[w]?=some (.lst (xs.map .str))->me (EE M R) [some (.ref q),some (aG ps rs),some (.ref p),some (.ref s),some (.ref t),some (.int kind),some (.ref w),some (.str room),y8,y9] B:=λg gw=>act_6 ql hf ne hp hh h1 h12 hs' hst sl ht hv g wM gw (by lia) (by lia) x8 h
  have four:∀{E:DEnds}{B:Mem}{y9:Option D},E.rt=bD M R->Hl M B q->B[w]?=some (.lst (xs.map .str))->qc E [some (.ref q),some (aG ps rs),some (.ref p),some (.ref s),some (.ref t),some (.int kind),some (.ref w),some (.str room),some .non,y9] B:=λ{E B y9} eR g gw=>by
   have five:∀{B:Mem}{u:D},Hl M B q->B[w]?=some (.lst (xs.map .str))->(u=.non\/St u)->qa E [some (.ref q),some (aG ps rs),some (.ref p),some (.ref s),some (.ref t),some (.int kind),some (.ref w),some (.str room),some u,y9] B:=λ{B u} g gw hu=>by
    simp only[qa]
    walk_at "dl"
    refine⟨q,w,xs,rfl,g.hd ql,by lia,.inl gw,by lia,by lia,x8,λz n=>?_⟩
    have up:Pln 4 u:=by
     rcases hu with rfl | hu
     ·exact .non
     ·exact hu.pl
    refine⟨ax (by lia),?_⟩
    rw[eR]
    exact eU (g.set ql) h (.cons (.str _) (.cons up (.cons (.str _) .nil))) (.mkSay hr hu)
   simp only[qc]
   walk_at "dl"
   refine⟨q,3,rfl,g.hd ql,by decide,by decide,λk n k0 k1=>?_⟩
   have g3:=g.set (n:=n) ql
   have gw3:(B.set q (.lst [.int n]))[w]?=some (.lst (xs.map .str)):=ap (by lia) gw
   generalize B.set q (.lst [.int n])=B3 at g3 gw3
   walk_at "dl"
   by_cases hk:k > 0
   ·rw[decide_eq_true hk]
    obtain⟨okk,ee⟩:=iV (g3.oldL ne.2.1 hs') ok29
    refine da ⟨AAS _,okk,?_⟩
    rw[ee]
    have g4:=g3.more (L:=[.lst []])
    have gw4:=ac (a:=.lst []) gw3
    generalize B3++[MO.lst []]=B4 at g4 gw4
    cases he:sts.isEmpty with
    | true=>exact cD (five g4 gw4 (.inl rfl))
    | false =>
     refine da ⟨q,p,s,hs,sts,rfl,g4.hd ql,ne.1,ne.2.1,g4.oldL ne.1 hp,hh,h1,h12,g4.oldL ne.2.1 hs',hst,sl,λd n hd=>?_⟩
     exact five (g4.set ql) (ap (by lia) gw4) (.inr hd)
   ·rw[decide_eq_false hk]
    exact cD (five g3 gw3 (.inl rfl))
  simp only[vj]
  walk_at "dl"
  by_cases h4:kind<4
  ·rw[decide_eq_true h4]
   exact da (four rfl g2 gw2)
  ·rw[decide_eq_false h4]
   obtain⟨okk,ee⟩:=iV (g2.oldL ne.2.1 hs') ok29
   refine cD ⟨AAS _,okk,?_⟩
   rw[ee]
   have g4:=g2.more (L:=[.lst []])
   have gw4:=ac (a:=.lst []) gw2
   generalize B2++[MO.lst []]=B4 at g4 gw4
   cases he:sts.isEmpty with
   | true =>
    refine da ?_
    by_cases h7:kind<7
    ·rw[decide_eq_true h7]
     exact da (four rfl g4 gw4)
    ·rw[decide_eq_false h7]
     exact cD (six g4 gw4)
   | false=>exact cD (six g4 gw4)
theorem DH(T:Tops P w K mg base):Cal P w K mg base 4 "_law_act" Bf tp :=
 Cal.byD (N:=["_law_held","_law_house_here","_law_hands_here","_law_says","_law_done","_law_kind","_law_names_here","_law_room","_law_under","_law_sort"]) T.b T.f_act (by walk_at "sc") Bv (by have:=cT T;have:=vX T;have:=vV T;have:=vW T;have:=vU T;have:=Bi T;walk_at "dv") Cz
def fv:DSp:=λds M R=>∃(ps:List (Str×Int)) (r:List D),ds=[.tup (.tup (ps.map gM)::r)]/\Few ps/\R (.ref M.length) (M++[.lst (ar ps)])
theorem wu:de fv qp:=by rintro ds M R ⟨ps,r,rfl,_⟩;rfl
def nO:DTS:=bE (ab 1)
def nQ:DTS:=aB (lR (bT (dOp qIx (ab 0) (dC (.int 0)))) (qR 2 (eP (au 2) (eP (au 3) qS))) (iT (dMl ic (ab 1) (aa (dLC 1 [2] (dI (aa (ab 3) ag)) (au 0) sV (gY (aa (ab 1) (aa (ab 0) ag)))) ag)))) (nO)
def uZ:DTS:=aB (aY (kg ag) 1) (nQ)
theorem xM:WpT fv 4 uZ:=by
 rintro ds M R ⟨ps,r,rfl,⟨h4,h3⟩,h⟩
 simp only[uZ,nQ]
 walk_at "dl"
 refine⟨AAS _,λ_=>?_⟩
 have hb:∀qs:List (Str×Int),(∀p∈qs,p∈ps)->qs.length<=4->(ar qs).length<=12:=λqs h1 h2=>by
  have:=lO (ps:=qs) λp hp=>h3 p (h1 p hp)
  lia
 refine jc (λys S M'=>∃qs rs a b L,ps=qs++rs/\ys=rs.map gM/\M'=M++.lst (ar qs)::L/\S=[some (.tup (.tup (ps.map gM)::r)),some (.ref M.length),a,b]) ?_ ?_ _ _ _ ⟨[],ps,_,_,[],rfl,rfl,rfl,rfl⟩
 ·rintro S M' ⟨qs,rs,a,b,L,e,hq,rfl,rfl⟩
  have:rs=[]:=by cases rs<;>simp_all
  subst this
  rw[ABI]at e
  subst e
  refine⟨trivial,?_⟩
  simp only[nO]
  walk_at "dl"
  exact bD.lst h (AA8 _) ip ug
 ·rintro x xs S M' ⟨qs,rs,a,b,L,e,hq,rfl,rfl⟩ G hG
  cases rs with
  | nil=>cases hq
  | cons p rs =>
   rw[AAi]at hq
   injection hq with e1 e2
   subst e1
   have hp:=h3 p (by rw[e];simp)
   refine⟨trivial,?_⟩
   unfold gM
   walk_at "dl"
   refine⟨trivial,⟨_,.inl ip⟩,⟨by lia,by lia⟩,?_⟩
   refine bZ (λk=>.tup [.str p.1,k]) (λS=>∃a,S=[a,some (.str p.1)]) trivial _ _ _ (λk hk S hS=>?_) ⟨_,rfl⟩ ?_ ?_
   ·obtain⟨a,rfl⟩:=hS
    refine⟨[some k,some (.str p.1)],⟨_,rfl⟩,λY hY=>?_⟩
    walk_at "dl"
    exact⟨ax (by lia),hY⟩
   ·simp only[AAb,gF]
    exact ax (by lia)
   ·rw[AAx]
    have eh:(pT 0 p.2.toNat).map (λk=>D.tup [.str p.1,k])=dE p:=rfl
    rw[eh]
    have l1:=hb qs (λz hz=>by rw[e];exact AAW _ hz) (by have:=congrArg ABc e;rw[AAB]at this;lia)
    have l2:(dE p).length<=3:=by rw[fW];lia
    rw[AAs,List.cons_append]
    refine⟨_,dE p,ip,?_,?_,ax (by lia),?_⟩
    ·rw[←List.cons_append,←AAs];exact ae
    ·rw[AAB,AAJ];lia
    ·rw[mh]
     refine Fgt.now (hG _ _ ⟨qs++[p],rs,_,_,L++[.lst (dE p)],by rw[AAs];exact e,e2,?_,rfl⟩)
     rw[show ar (qs++[p])=ar qs++dE p by simp[ar]]
theorem sk(T:Tops P w K mg base):Cal P w K mg base 1 "_law_hands" qp fv :=
 Cal.byD (N:=["_law_house_here","_law_found","_law_name_here","_law_many"]) T.b T.f_hands (by walk_at "sc") wu (by walk_at "dv") xM
structure LogS(ps:List (Str×Int))(rs:List (Str×List Str))(log:List D):Prop where
 dk:∀d∈log,aT ps rs d
 up:log.Pairwise λa b=>enc eqN (stD a)<enc eqN (stD b)
 len:log.length<=60
def tj:DSp:=λds M R=>∃(ps:List (Str×Int)) (rs:List (Str×List Str)) (p tq:Nat) (cs:List Int),ds=[.ref p,aG ps rs]/\HouseF ps rs/\am M p (cs.map .int)/\p≠tq/\cs.length<=60/\M[tq]?=some (.tb (AA1 "_law_log") false)/\∀log,LogS ps rs log->R (.tup log) (M.set tq (.tb (AA1 "_law_log") true))
theorem Bt:de tj Bc:=by rintro ds M R ⟨ps,rs,p,tq,cs,rfl,_⟩;rfl
def CD:D->Int
 | .tup (.int t::_)=>t
 | _=>0
def hdO:D->D
 | .tup (_::h::_)=>h
 | _=>.non
theorem jZ(hf:HouseF ps rs):Few ps/\1<=(ar ps).length/\(ar ps).length<=12:=by
 have few:Few ps:=⟨hf.len.2,λq hq=>⟨by have:=hf.many q hq;lia,(hf.many q hq).2⟩⟩
 have hln:=lO few.2
 refine⟨few,?_,by have:=few.1;lia⟩
 match ps,hf with
 | [],hf=>have:=hf.len.1;simp at this
 | p::ps,hf =>
  have:=(hf.many p (by simp)).1
  rw[ar,List.flatMap_cons,AAB,fW]
  lia
structure GenD(ps:List (Str×Int))(rs:List (Str×List Str))(deeds sts:List D)(las cnt:List (D×D))(n:Nat):Prop where
 dk:∀d∈deeds,aT ps rs d
 nd:(deeds.map stD).Nodup
 la:∀d∈deeds,∃v:Int,aM las (hdO d)=some (.int v)/\CD d<=v
 lv:∀x∈las,∃v:Int,x.2=.int v/\0<=v
 cv:∀x∈cnt,∃v:Int,x.2=.int v/\0<=v/\v<=n
 so:∀x∈sts,St x
 dl:deeds.length<=n
 sl:sts.length<=n
 ll:las.length<=n
 cl:cnt.length<=n
theorem GenD.next{ps:List (Str×Int)}{rs:List (Str×List Str)}{deeds sts sts':List D}{las cnt:List (D×D)}{n:Nat}{t num:Int}{z x:Str}{k c:Int}{dl:List D}(g:GenD ps rs deeds sts las cnt n)(hx:D.tup [.str z,.int k]∈ar ps)(t1:1<=t)(tv:∀v:Int,aM las (.tup [.str z,.int k])=some (.int v)->v<t)(c0:0<=c)(c1:c<=n)(hp:kI 4 dl)(ha:ActK rs x dl)
  (s1:∀x∈sts',St x) (s2:sts'.length<=n+1) :
  GenD ps rs (deeds++[.tup [.int t,.tup [.str z,.int k],.int num,.tup (.str x::dl)]]) sts' (cX las (.tup [.str z,.int k]) (.int t)) (cX cnt (.tup [.str z,.int k]) (.int (c+1))) (n+1):=by
 have h1:=g.dl
 have h2:=g.ll
 have h3:=g.cl
 refine⟨λd hd=>?_,?_,λd hd=>?_,λy hy=>?_,λy hy=>?_,s1,by rw[AAB,AAY];lia,s2,?_,?_⟩
 ·rcases AAl.mp hd with hd | hd
  ·exact g.dk d hd
  ·rw[show d=_ from by simpa using hd]
   exact⟨_,_,_,_,_,_,rfl,t1,hx,hp,ha⟩
 ·rw[AAm]
  refine ABv.mpr ⟨g.nd,by simp,λa ha b hb e=>?_⟩
  obtain⟨d,hd,rfl⟩:=AAO.mp ha
  rw[show b=_ from by simpa using hb]at e
  obtain⟨t',z',k',num',x',ds',rfl,_⟩:=g.dk d hd
  obtain⟨v,e1,e2⟩:=g.la _ hd
  simp only[stD,D.tup.injEq,ADV,D.int.injEq,D.str.injEq,and_true]at e
  obtain⟨rfl,rfl,rfl⟩:=e
  have:=tv v e1
  simp only[CD]at e2
  lia
 ·rcases AAl.mp hd with hd | hd
  ·obtain⟨v,e1,e2⟩:=g.la d hd
   by_cases e:hdO d=.tup [.str z,.int k]
   ·rw[e]at e1 ⊢
    exact⟨t,cf,by have:=tv v e1;lia⟩
   ·exact⟨v,by rw[cy e];exact e1,e2⟩
  ·rw[show d=_ from by simpa using hd]
   exact⟨t,cf,Int.le_refl _⟩
 ·rcases ff hy with rfl | hy
  ·exact⟨t,rfl,by lia⟩
  ·exact g.lv y hy
 ·rcases ff hy with rfl | hy
  ·exact⟨c+1,rfl,by lia,by lia⟩
  ·obtain⟨v,e1,e2,e3⟩:=g.cv y hy
   exact⟨v,e1,e2,by lia⟩
 ·have:=jB (kvs:=las) (k:=.tup [.str z,.int k]) (d:=.int t)
  lia
 ·have:=jB (kvs:=cnt) (k:=.tup [.str z,.int k]) (d:=.int (c+1))
  lia
structure LgD(M B:Mem)(hs deeds sts:List D)(las cnt:List (D×D)):Prop where
 pre:M <+: B
 hs:B[M.length]?=some (.lst hs)
 las:B[M.length+1]?=some (.dkt las)
 cnt:B[M.length+2]?=some (.dkt cnt)
 sts:B[M.length+3]?=some (.lst sts)
 deeds:B[M.length+4]?=some (.lst deeds)
section
variable{M B:Mem}{hs deeds sts:List D}{las cnt:List (D×D)}{q:Nat}{x:MO}
theorem LgD.more(g:LgD M B hs deeds sts las cnt):LgD M (B++L) hs deeds sts las cnt :=
 ⟨g.pre.trans (AAf _ _),bv (AAf _ _) g.hs,bv (AAf _ _) g.las,bv (AAf _ _) g.cnt,bv (AAf _ _) g.sts,bv (AAf _ _) g.deeds⟩
theorem LgD.lt(g:LgD M B hs deeds sts las cnt):M.length+5<=B.length:=aF g.deeds
theorem LgD.set(g:LgD M B hs deeds sts las cnt)(h:M.length+5<=q):LgD M (B.set q x) hs deeds sts las cnt :=
 ⟨bG g.pre (by lia),ap (by lia) g.hs,ap (by lia) g.las,ap (by lia) g.cnt,ap (by lia) g.sts,ap (by lia) g.deeds⟩
theorem LgD.setD(g:LgD M B hs deeds sts las cnt):LgD M (B.set (M.length+4) (.lst ds')) hs ds' sts las cnt :=
 ⟨bG g.pre (by lia),ap (by lia) g.hs,ap (by lia) g.las,ap (by lia) g.cnt,ap (by lia) g.sts,bn g.deeds⟩
theorem LgD.setS(g:LgD M B hs deeds sts las cnt):LgD M (B.set (M.length+3) (.lst ds')) hs deeds ds' las cnt :=
 ⟨bG g.pre (by lia),ap (by lia) g.hs,ap (by lia) g.las,ap (by lia) g.cnt,bn g.sts,ap (by lia) g.deeds⟩
theorem LgD.setC(g:LgD M B hs deeds sts las cnt):LgD M (B.set (M.length+2) (.dkt kvs)) hs deeds sts las kvs :=
 ⟨bG g.pre (by lia),ap (by lia) g.hs,ap (by lia) g.las,bn g.cnt,ap (by lia) g.sts,ap (by lia) g.deeds⟩
theorem LgD.setL(g:LgD M B hs deeds sts las cnt):LgD M (B.set (M.length+1) (.dkt kvs)) hs deeds sts kvs cnt :=
 ⟨bG g.pre (by lia),ap (by lia) g.hs,bn g.las,ap (by lia) g.cnt,ap (by lia) g.sts,ap (by lia) g.deeds⟩
end
theorem BE{kvs:List (D×D)}(h:∀x∈kvs,∃v:Int,x.2=.int v/\0<=v):∃vs:List Int,kvs.map (·.2)=vs.map D.int:=by
 induction kvs with
 | nil=>exact⟨[],rfl⟩
 | cons p kvs ih =>
  obtain⟨v,e,_⟩:=h p (by simp)
  obtain⟨vs,e2⟩:=ih λx hx=>h x (AAA _ hx)
  exact⟨v::vs,by rw[AAi,AAi,e,e2]⟩
def rO:DTS:=bE (dCB fJ (aa (jb "_law_log" ["_law_deed"] (dSl (ab 0) eQ (hV (dC (.int 2)))) (aa (ab 6) ag)) ag))
def rP:DTS:=dIf (aK (dOp qEq (dOp qIx (ab 12) (dC (.int 0))) (dC (.str "say")))) (iT (dMl cw (ab 5) (aa (gY (aa (ab 11) (aa (ab 9) ag))) ag))) bo
def rQ:DTS:=aB (mV (ab 4) (ab 9) (dOp ba (dMt gH (ab 4) (aa (ab 9) (aa (dC (.int 0)) ag))) (dC (.int 1)))) (rP)
def rR:DTS:=aB (mV (ab 3) (ab 9) (ab 11)) (rQ)
def rS:DTS:=aB (iT (dMl cw (ab 6) (aa (gY (aa (ab 11) (aa (ab 9) (aa (dMt gH (ab 4) (aa (ab 9) (aa (dC (.int 0)) ag))) (aa (ab 12) ag))))) ag))) (rR)
def md:DTS:=aB (aY (dCB tp (aa (ab 8) (aa (ab 1) (aa (ab 2) (aa (ab 5) (aa (ab 4) ag)))))) 12) (rS)
def uI:DTS:=aB (dIf (aK (dOp qEq (ab 10) (dC (.int 3)))) (aY (dOp ba (dC (.int 1)) (dCB vG (aa (dOp ba (kg (aa (dC (.int 0)) ag)) (hW (ab 3))) ag))) 11) bo) (md)
def uJ:DTS:=aB (aY (dOp ba (dOp ba (dMt gH (ab 3) (aa (ab 9) (aa (dC (.int 0)) ag))) (dC (.int 1))) (dCB aq (aa (ab 8) (aa (dOp qIx (kg (aa (dC (.int 3)) (aa (dC (.int 6)) (aa (dOp AL (dC (.int 10)) (dC (.int 7))) (aa (dC (.int 1)) ag))))) (ab 10)) ag)))) 11) (uI)
def uK:DTS:=aB (aY (dCB aq (aa (ab 8) (aa (dC (.int 4)) ag))) 10) (uJ)
def pY:DTS:=aB (aY (dOp qIx (ab 2) (dCB aq (aa (ab 8) (aa (dCB lE (aa (ab 2) ag)) ag)))) 9) (uK)
def uL:DTS:=aB (lR (bT (ab 0)) (au 7) (aB (aY (dCB cC (aa (ab 7) ag)) 8) (pY))) (rO)
def uM:DTS:=aB (aY (kg ag) 6) (uL)
def uN:DTS:=aB (aY (kg ag) 5) (uM)
def uO:DTS:=aB (aY (pC) 4) (uN)
def uP:DTS:=aB (aY (pC) 3) (uO)
def CF:DTS:=aB (aY (dCB fv (aa (ab 1) ag)) 2) (uP)
theorem zI{M B:Mem}{E:DEnds}{deeds sts hs:List D}{las cnt:List (D×D)}{n q:Nat}{t way:Int}{z:Str}{k:Int}{ps:List (Str×Int)}{rs:List (Str×List Str)}{y0 y7 y12:Option D}(g:LgD M B hs deeds sts las cnt)(G:GenD ps rs deeds sts las cnt n)(hf:HouseF ps rs)(hh:∀x∈hs,Hd x)(h1:1<=hs.length)(h12:hs.length<=12)(n60:n<60)(hd:HdP B q)(qM:M.length+5<=q)(hx:D.tup [.str z,.int k]∈ar ps)(t1:1<=t)(tv:∀v:Int,aM las (.tup [.str z,.int k])=some (.int v)->v<t)
  (hE:∀deeds' sts' las' cnt' B' y,LgD M B' hs deeds' sts' las' cnt'->GenD ps rs deeds' sts' las' cnt' (n+1)->E.nx [y0,some (aG ps rs),some (.ref M.length),some (.ref (M.length+1)),some (.ref (M.length+2)),some (.ref (M.length+3)),some (.ref (M.length+4)),y7,some (.ref q),some (.tup [.str z,.int k]),some (.int way),some (.int t),y] B') :
  md E [y0,some (aG ps rs),some (.ref M.length),some (.ref (M.length+1)),some (.ref (M.length+2)),some (.ref (M.length+3)),some (.ref (M.length+4)),y7,some (.ref q),some (.tup [.str z,.int k]),some (.int way),some (.int t),y12] B:=by
 have dl:=G.dl
 have sl:=G.sl
 have ll:=G.ll
 have cl:=G.cl
 simp only[md]
 walk_at "dl"
 refine⟨q,_,_,_,ps,rs,hs,sts,cnt,rfl,hd,hf,⟨by lia,by lia,by lia⟩,.inl g.hs,hh,h1,h12,.inl g.sts,G.so,by lia,g.cnt,λx hx=>by obtain⟨v,e1,e2,e3⟩:=G.cv x hx;exact⟨v,e1,e2,by lia⟩,λx dl' n' hp ha=>?_⟩
 have g1:=g.set (x:=.lst [.int n']) qM
 generalize B.set q (.lst [.int n'])=B1 at g1
 have hg:∃c:Int,(aM cnt (.tup [.str z,.int k])).getD (.int 0)=.int c/\0<=c/\c<=n:=by
  cases e:aM cnt (.tup [.str z,.int k]) with
  | none=>exact⟨0,rfl,by decide,by lia⟩
  | some d=>exact G.cv _ (bK e)
 obtain⟨c,ec,c0,c1⟩:=hg
 simp only[rS]
 walk_at "dl"
 refine⟨⟨_,.inl g1.deeds⟩,⟨_,g1.cnt⟩,_,g1.cnt,rfl,?_⟩
 rw[ec]
 refine⟨ax (by lia),_,g1.deeds,aE (by lia),?_⟩
 have g2:=g1.setD (ds':=deeds++[.tup [.int t,.tup [.str z,.int k],.int c,.tup (.str x::dl')]])
 generalize B1.set (M.length+4) _=B2 at g2
 simp only[rR]
 walk_at "dl"
 refine⟨_,g2.las,rfl,aE (by lia),?_⟩
 have g3:=g2.setL (kvs:=cX las (.tup [.str z,.int k]) (.int t))
 generalize B2.set (M.length+1) _=B3 at g3
 simp only[rQ]
 walk_at "dl"
 refine⟨⟨_,g3.cnt⟩,_,g3.cnt,rfl,?_⟩
 rw[ec]
 refine⟨_,g3.cnt,rfl,aE (by lia),?_⟩
 have g4:=g3.setC (kvs:=cX cnt (.tup [.str z,.int k]) (.int (c+1)))
 generalize B3.set (M.length+2) _=B4 at g4
 simp only[rP]
 walk_at "dl"
 refine⟨⟨bb,bb⟩,?_⟩
 generalize eqD B4 eqN (.str x) (.str (AA1 "say"))=bs
 cases bs with
 | true =>
  refine da ⟨⟨_,.inl g4.sts⟩,ax (by lia),_,g4.sts,aE (by lia),?_⟩
  refine hE _ _ _ _ _ _ g4.setS (G.next hx t1 tv c0 c1 hp ha (λy hy=>?_) (by rw[AAB,AAY];lia))
  rcases AAl.mp hy with hy | hy
  ·exact G.so y hy
  ·rw[show y=_ from by simpa using hy];exact⟨_,_,_,rfl⟩
 | false=>exact cD (hE _ _ _ _ _ _ g4 (G.next hx t1 tv c0 c1 hp ha G.so (by lia)))
theorem yC{M B:Mem}{E:DEnds}{deeds sts:List D}{las cnt:List (D×D)}{n:Nat}{cell:Int}{ps:List (Str×Int)}{rs:List (Str×List Str)}{y0 y8 y9 y10 y11 y12:Option D}(g:LgD M B (ar ps) deeds sts las cnt)(G:GenD ps rs deeds sts las cnt n)(hf:HouseF ps rs)(n60:n<60)
  (hE:∀deeds' sts' las' cnt' B' a b c d y,LgD M B' (ar ps) deeds' sts' las' cnt'->GenD ps rs deeds' sts' las' cnt' (n+1)->E.nx [y0,some (aG ps rs),some (.ref M.length),some (.ref (M.length+1)),some (.ref (M.length+2)),some (.ref (M.length+3)),some (.ref (M.length+4)),some (.int cell),a,b,c,d,y] B') :
  (aB (aY (dCB cC (aa (ab 7) ag)) 8) (pY)) E [y0,some (aG ps rs),some (.ref M.length),some (.ref (M.length+1)),some (.ref (M.length+2)),some (.ref (M.length+3)),some (.ref (M.length+4)),some (.int cell),y8,y9,y10,y11,y12] B:=by
 obtain⟨few,n1,n12⟩:=jZ hf
 have hh:∀x∈ar ps,Hd x:=iZ
 have ll:=G.ll
 walk_at "dl"
 refine⟨cell,rfl,λn'=>?_⟩
 have hd0:HdP (B++[MO.lst [.int n']]) B.length:=⟨n',ae⟩
 have g0:=g.more (L:=[.lst [.int n']])
 have qM:=g.lt
 generalize B++[MO.lst [D.int n']]=B0 at g0 hd0
 generalize B.length=q at hd0 qM
 have ql:=hd0.lt
 have hl0:=hd0.start
 have keep:∀{C:Mem},Hl B0 C q->LgD M C (ar ps) deeds sts las cnt:=λ{C} h=>by
  obtain⟨n2,L,rfl⟩:=h
  exact(g0.set (x:=.lst [.int n2]) qM).more
 simp only[pY]
 walk_at "dl"
 refine⟨_,.inl g0.hs,q,_,rfl,hd0,by lia,by lia,λi m i0 i1=>?_⟩
 have h1:=hl0.set (n:=m) ql
 generalize B0.set q (.lst [.int m])=B1 at h1
 obtain⟨j,hj,ej,_⟩:=eT (xs:=ar ps) i0 i1
 have hx:=AB8 hj
 refine⟨_,.inl (keep h1).hs,?_⟩
 rw[ej]
 obtain⟨z,k,ez⟩:=hh _ hx
 rw[ez]at hx ⊢
 simp only[uK]
 walk_at "dl"
 refine⟨q,4,rfl,h1.hd ql,by decide,by decide,λway m w0 w1=>?_⟩
 have h2:=h1.set (n:=m) ql
 generalize B1.set q (.lst [.int m])=B2 at h2
 have hl:∃v:Int,(aM las (.tup [.str z,.int k])).getD (.int 0)=.int v/\0<=v/\∀u:Int,aM las (.tup [.str z,.int k])=some (.int u)->u=v:=by
  cases e:aM las (.tup [.str z,.int k]) with
  | none=>exact⟨0,rfl,by decide,λu w=>by cases w⟩
  | some d =>
   obtain⟨v,ev,v0⟩:=G.lv _ (bK e)
   exact⟨v,ev,v0,λu w=>by rw[show d=.int v from ev]at w;cases w;rfl⟩
 obtain⟨v,ev,v0,vu⟩:=hl
 simp only[uJ]
 walk_at "dl"
 refine⟨⟨_,(keep h2).las⟩,_,(keep h2).las,rfl,?_⟩
 rw[ev]
 have ex:∃m:Int,atI [D.int 3,.int 6,.int (10 ^ Int.toNat 7),.int 1] way=some (.int m)/\0<m/\m<100000000000:=by
  have:way=0\/way=1\/way=2\/way=3:=by lia
  rcases this with rfl | rfl | rfl | rfl
  ·exact⟨_,az (j:=0) rfl,by decide,by decide⟩
  ·exact⟨_,az (j:=1) rfl,by decide,by decide⟩
  ·exact⟨_,az (j:=2) rfl,by decide,by decide⟩
  ·exact⟨_,az (j:=3) rfl,by decide,by decide⟩
 obtain⟨m0,em,mp,ml⟩:=ex
 refine⟨⟨by decide,by decide,by decide⟩,ax (by lia),_,ay,?_⟩
 rw[em]
 refine⟨q,m0,rfl,(h2.more).hd ql,mp,ml,λa m a0 a1=>?_⟩
 have h3:=(h2.more (L:=[.lst [D.int 3,.int 6,.int (10 ^ Int.toNat 7),.int 1]])).set (n:=m) ql
 generalize (B2++[MO.lst [D.int 3,.int 6,.int (10 ^ Int.toNat 7),.int 1]]).set q (.lst [.int m])=B3 at h3
 simp only[uI]
 walk_at "dl"
 refine⟨⟨rfl,rfl⟩,?_⟩
 generalize eqD B3 eqN (.int way) (.int 3)=b3
 cases b3 with
 | false =>
  refine cD ?_
  exact zI (keep h3) G hf hh n1 n12 n60 (h3.hd ql) qM hx (by lia) (λu w=>by rw[vu u w];lia) λd' s' l' c' B' y g' G'=>hE _ _ _ _ _ _ _ _ _ _ g' G'
 | true =>
  obtain⟨vs,evs⟩:=BE G.lv
  have vl:vs.length=las.length:=by have:=congrArg ABc evs;rw[AA6,AA6]at this;exact this.symm
  have h4:=h3.more (L:=[.lst [.int 0]])
  have g4:=keep h4
  have e0:(B3++[MO.lst [D.int 0]])[B3.length]?=some (.lst [.int 0]):=ae
  generalize B3++[MO.lst [D.int 0]]=B4 at h4 g4 e0
  generalize B3.length=r4 at e0
  refine da ⟨ax (by lia),_,g4.las,?_⟩
  rw[evs]
  have h5:=h4.more (L:=[.lst (vs.map .int)])
  have e5:=ac (a:=.lst (vs.map .int)) e0
  have e6:(B4++[MO.lst (vs.map .int)])[B4.length]?=some (.lst (vs.map .int)):=ae
  generalize B4++[MO.lst (vs.map .int)]=B5 at h5 e5 e6
  generalize B4.length=r5 at e6
  refine⟨_,_,e5,e6,ax (by rw[AA6,AAY];lia),?_⟩
  have h6:=h5.more (L:=[.lst ([.int 0]++vs.map .int)])
  have e7:(B5++[MO.lst ([D.int 0]++vs.map .int)])[B5.length]?=some (.lst ((0::vs).map .int)):=ae
  generalize B5++[MO.lst ([D.int 0]++vs.map .int)]=B6 at h6 e7
  refine⟨0::vs,.inl e7,by simp,λmx mm mall=>?_⟩
  have mx0:=mall 0 (by simp)
  refine zI (keep h6) G hf hh n1 n12 n60 (h6.hd ql) qM hx (by lia) (λu w=>?_) λd' s' l' c' B' y g' G'=>hE _ _ _ _ _ _ _ _ _ _ g' G'
  have hu:D.int u∈las.map (·.2):=AAp (f:=(·.2)) (bK w)
  rw[evs]at hu
  obtain⟨u',hu',eu⟩:=AAO.mp hu
  cases eu
  have:=mall u (AAA _ hu')
  lia
theorem Cw:WpT tj 13 CF:=by
 rintro ds M R ⟨ps,rs,p,tq,cs,rfl,hf,hp,pt,cl,ht,h⟩
 obtain⟨few,n1,n12⟩:=jZ hf
 simp only[CF,aG]
 walk_at "dl"
 refine⟨ps,_,rfl,few,?_⟩
 simp only[uP,uO,uN,uM]
 walk_at "dl"
 refine⟨AAS _,AAS _,?_⟩
 have e1:(M++[MO.lst (ar ps)]).length=M.length+1:=by simp
 have e2:(M++[MO.lst (ar ps)]++[MO.dkt []]).length=M.length+2:=by simp
 have e3:(M++[MO.lst (ar ps)]++[MO.dkt []]++[MO.dkt []]).length=M.length+3:=by simp
 have e4:(M++[MO.lst (ar ps)]++[MO.dkt []]++[MO.dkt []]++[MO.lst []]).length=M.length+4:=by simp
 rw[e1,e2,e3,e4]
 have g0:LgD M (M++[MO.lst (ar ps)]++[MO.dkt []]++[MO.dkt []]++[MO.lst []]++[MO.lst []]) (ar ps) [] [] [] []:=by
  refine⟨(((dq.trans dq).trans dq).trans dq).trans dq,ac (ac (ac (ac ae))),?_,?_,?_,?_⟩
  ·rw[←e1];exact ac (ac (ac ae))
  ·rw[←e2];exact ac (ac ae)
  ·rw[←e3];exact ac ae
  ·rw[←e4];exact ae
 generalize M++[MO.lst (ar ps)]++[MO.dkt []]++[MO.dkt []]++[MO.lst []]++[MO.lst []]=B0 at g0
 simp only[uL]
 walk_at "dl"
 refine⟨_,qy g0.pre hp,λ_=>?_⟩
 refine bc (λi S M'=>∃(deeds sts:List D) (las cnt:List (D×D)) (a b c d e f:Option D),LgD M M' (ar ps) deeds sts las cnt/\GenD ps rs deeds sts las cnt i/\S=[some (.ref p),some (aG ps rs),some (.ref M.length),some (.ref (M.length+1)),some (.ref (M.length+2)),some (.ref (M.length+3)),some (.ref (M.length+4)),a,b,c,d,e,f]) ?_ ?_ ⟨[],[],[],[],_,_,_,_,_,_,g0,⟨(λ_ z=>nomatch z),.nil,(λ_ z=>nomatch z),(λ_ z=>nomatch z),(λ_ z=>nomatch z),(λ_ z=>nomatch z),AA8 _,AA8 _,AA8 _,AA8 _⟩,rfl⟩
 ·rintro S M' ⟨deeds,sts,las,cnt,a,b,c,d,e,f,g,G,rfl⟩
  rw[AA6]at G
  have dl:=G.dl
  refine⟨qy g.pre hp,?_⟩
  simp only[rO]
  walk_at "dl"
  have tl:=aF ht
  have gd:(M'.set tq (.tb (AA1 "_law_log") true))[M.length+4]?=some (.lst deeds):=ap (by lia) g.deeds
  have hS:∀x∈deeds.map stD,St x:=λx hx=>by
   obtain⟨d,hd,rfl⟩:=AAO.mp hx
   exact(G.dk d hd).st
  refine⟨tq,deeds,stD,bv g.pre ht,.inr ⟨_,rfl,.inl gd⟩,λd hd=>?_,(vp hS (by rw[AA6];lia)).g,λys hy hr=>?_⟩
  ·obtain⟨t,z,k,num,x,ds,rfl,_⟩:=G.dk d hd
   walk_at "dl"
   exact .inl ⟨rfl,rfl⟩
  ·have ml:M'.length=(M'.set tq (.tb (AA1 "_law_log") true)).length:=(AAw ..).symm
   refine⟨ys,by rw[ml];exact ay,?_⟩
   have hk:∀d∈ys,aT ps rs d:=λd hd=>G.dk d (hy.mem_iff.mp hd)
   have nd:(ys.map stD).Nodup:=(hy.map _).nodup_iff.mpr G.nd
   have ls:LogS ps rs ys:=by
    refine⟨hk,?_,by rw[hy.length_eq];lia⟩
    have n2:ys.Pairwise λa b=>stD a≠stD b:=List.pairwise_map.mp (ABn.mp nd)
    refine(List.Pairwise.and_mem.mp (hr.and n2)).imp λ{a b} ⟨ha,hb,q1,q2⟩=>?_
    have sa:=(hk a ha).st
    have sb:=(hk b hb).st
    have oa:okP eqN (stD a)=true:=by obtain⟨t,z,k,e⟩:=sa;rw[e];rfl
    have ob:okP eqN (stD b)=true:=by obtain⟨t,z,k,e⟩:=sb;rw[e];rfl
    rw[qw ob oa (sb.cm sa)]at q1
    have q3:=of_decide_eq_false q1
    refine AB3 λq4=>q2 ?_
    exact xk (M:=[]) oa ob (sa.cm sb) (List.le_antisymm (List.not_lt.mp q3) (List.not_lt.mp q4))
   obtain⟨L,hL⟩:=g.pre
   have eB:M'.set tq (.tb (AA1 "_law_log") true)=M.set tq (.tb (AA1 "_law_log") true)++L:=by rw[←hL,List.set_append_left _ _ tl]
   rw[eB]
   refine bD.chg (Chg.set .refl .nil) (h ys ls) (.tup (aT.bels hk)) ?_
   rw[AAs]
   exact AAf _ _
 ·rintro i y S M' hy ⟨deeds,sts,las,cnt,a,b,c,d,e,f,g,G,rfl⟩ K hK
  rw[AAT]at hy
  obtain⟨cell,hc,rfl⟩:=ABT.mp hy
  have hi:=(AA7.mp hc).1
  refine⟨qy g.pre hp,?_⟩
  simp only[au,List.set_cons_zero,List.set_cons_succ]
  exact yC g G hf (by lia) λd' s' l' c' B' a b c d y g' G'=>Fgt.now (hK _ _ ⟨d',s',l',c',_,_,_,_,_,_,g',G',rfl⟩)
theorem DF(T:Tops P w K mg base):Cal P w K mg base 8 "_law_log" Bc tj :=
 Cal.byL (N:=["_law_cells","_law_house_here","_law_hands_here","_law_last","_law_done","_law_says","_law_deeds","_law_cell","_law_held","_law_hand","_law_way","_law_time","_law_act_here"]) T.b T.f_log (by walk_at "sc") Bt (by have:=T.bm;have:=jO T;have:=cT T;have:=DH T;have:=sk T;walk_at "dvl") Cw
noncomputable def inB(cnt:List (D×D))(d:D):Bool:=match d,aM cnt (hdO d) with
 | .tup [_,_,.int n,_],some (.int c)=>decide (n<c)
 | _,_=>false
def kq:DSp:=λds M R=>∃(ps:List (Str×Int)) (rs:List (Str×List Str)) (log:List D) (q:Nat) (cnt:List (D×D)),ds=[.tup log,.ref q]/\(∀d∈log,aT ps rs d)/\log.length<=1000/\M[q]?=some (.dkt cnt)/\(∀h∈ar ps,∃c:Int,aM cnt h=some (.int c))/\R (.tup (log.filter (inB cnt))) M
theorem yG:de kq vS:=by rintro ds M R ⟨ps,rs,log,q,cnt,rfl,_⟩;rfl
def zx:DTS:=bE (dCB fJ (aa (dLC 1 [1] (bT (ab 0)) (au 0) (aK (dOp qLt (dOp qIx (ab 0) (dC (.int 2))) (mW (ab 1) (dOp qIx (ab 0) (dC (.int 1)))))) (ab 0)) ag))
theorem Au:WpT kq 2 zx:=by
 rintro ds M R ⟨ps,rs,log,q,cnt,rfl,hd,hl,gq,hc,h⟩
 simp only[zx]
 walk_at "dl"
 intro _
 refine aR (inB cnt) id (λS=>∃a,S=[a,some (.ref q)]) trivial _ _ _ ?_ ⟨_,rfl⟩ (by rw[AAb];exact ax (by lia)) ?_
 ·rintro d hm S ⟨a,rfl⟩
  obtain⟨t,z,k,num,x,ds,rfl,_,hh,_⟩:=hd d hm
  refine⟨[some (.tup [.int t,.tup [.str z,.int k],.int num,.tup (.str x::ds)]),some (.ref q)],⟨_,rfl⟩,λY Z hYZ=>?_⟩
  obtain⟨c,ec⟩:=hc _ hh
  have eb:inB cnt (.tup [.int t,.tup [.str z,.int k],.int num,.tup (.str x::ds)])=decide (num<c):=by
   unfold inB hdO
   rw[ec]
  rw[eb]at hYZ
  walk_at "dl"
  exact⟨_,_,gq,rfl,ec,hYZ⟩
 ·rw[AAx,ACG]
  refine⟨_,ay,bD.keep h (.tup (Bels.of λd hd'=>bH 6 _ (hd d (AAX.mp hd').1).pl)) dq⟩
theorem Bj(T:Tops P w K mg base):Cal P w K mg base 1 "_law_part" vS kq :=
 Cal.byD (N:=["_law_log_here","_law_counts"]) T.b T.f_part (by walk_at "sc") yG (by walk_at "dv") Au
def fx:DSp:=λds M R=>∃(ps:List (Str×Int)) (rs:List (Str×List Str)) (log:List D) (p:D->Bool),ds=[aG ps rs,.tup (log.filter p),.tup log]/\LogS ps rs log/\R (.bl true) M
theorem wv:de fx qq:=by rintro ds M R ⟨ps,rs,log,p,rfl,_⟩;rfl
theorem iq{α:Type}{p:α->Bool}{x:α}:[x].filter p=if p x=true then[x]else[]:=by rw[AC9];rfl
theorem uo(hu:∀d∈l,df d=.non\/St (df d))(hS:∀d∈l,St (stD d))(h:Ris l):aN rs l=(l.filter λd=>@decide (Stn rs l d) (AA9 _)).map λd=>(stD d,d):=by
 revert h hu hS
 refine cI (P:=λl=>(∀d∈l,df d=.non\/St (df d))->(∀d∈l,St (stD d))->Ris l->aN rs l=(l.filter λd=>@decide (Stn rs l d) (AA9 _)).map λd=>(stD d,d)) (λ_ _ _=>rfl) (λl x ih hu hS h=>?_) l
 obtain⟨h1,_,h3⟩:=AE1.mp h
 have lx:∀y∈l,enc eqN (stD y)<enc eqN (stD x):=λy hy=>h3 y hy x (by simp)
 have ih':=ih (λd hd=>hu d (AAW _ hd)) (λd hd=>hS d (AAW _ hd)) h1
 have ci:=xt (rs:=rs) hu hS h x (by simp)
 have nx:stD x∉(aN rs l).map (·.1):=λz=>by
  obtain⟨p,hp,e⟩:=AAO.mp z
  obtain⟨e1,e2⟩:=(fj (rs:=rs) l).en p hp
  have:=lx p.2 e2
  rw[←e1,e]at this
  exact ABG _ this
 have ef:(l.filter λd=>@decide (Stn rs (l++[x]) d) (AA9 _))=l.filter λd=>@decide (Stn rs l d) (AA9 _):=ABw λd hd=>(@decide_eq_decide _ _ (AA9 _) (AA9 _)).mpr ⟨λz=>z.less lx hd,Stn.more⟩
 rw[ACR,AAm,ef,←ih',iq]
 rw[dJ]at ci ⊢
 unfold tK at ci ⊢
 split at ci
 ·rename_i e
  rw[cf]at ci
  rw[if_pos e,mn nx,@decide_eq_true _ (AA9 _) (ci.mp rfl)]
  rfl
 ·rename_i e
  have gn:aM (aN rs l) (stD x)=none:=by
   cases e':aM (aN rs l) (stD x) with
   | none=>rfl
   | some v=>exact absurd (AAp (f:=(·.1)) (bK e')) nx
  rw[gn]at ci
  rw[if_neg e,@decide_eq_false _ (AA9 _) λz=>by cases ci.mpr z]
  exact(ABI _).symm
theorem BackL.uni(a:BackL rs log xs)(b:BackL rs log ys):xs=ys:=by
 have p:xs.Perm ys:=(List.perm_ext_iff_of_nodup a.nd b.nd).mpr λx=>(a.mem x).trans (b.mem x).symm
 refine List.Perm.eq_of_pairwise (le:=λa b=>¬enc eqN b<enc eqN a) (λx y hx hy h1 h2=>?_) a.up b.up p
 have sx:=a.st x hx
 have sy:=b.st y hy
 have ox:okP eqN x=true:=by obtain⟨t,z,k,e⟩:=sx;rw[e];rfl
 have oy:okP eqN y=true:=by obtain⟨t,z,k,e⟩:=sy;rw[e];rfl
 exact xk (M:=[]) ox oy (sx.cm sy) (List.le_antisymm (List.not_lt.mp h1) (List.not_lt.mp h2))
theorem BackL.len{rs:List (Str×List Str)}{log ys:List D}(b:BackL rs log ys):ys.length<=log.length:=by
 have h:∀x∈ys,x∈(kinds log (AA1 "back")).map tW:=λx hx=>by
  obtain⟨d,hd,_,rfl⟩:=(b.mem x).mp hx
  exact AAp hd
 have:=oH b.nd h
 rw[AA6]at this
 exact AAy this bJ
theorem sts_self{M:Mem}{xs:List D}(h:∀x∈xs,St x):∀x∈xs,okD M 29 x=true/\eqD M 29 x x=true:=λx hx=>vJ 2 29 x (by decide) (h x hx).pl
theorem vD(hi:am M i xs)(hj:am M j xs)(h:∀x∈xs,okD M 29 x=true/\eqD M 29 x x=true):(okD M eqN (.ref i)=true/\okD M eqN (.ref j)=true)/\eqD M eqN (.ref i) (.ref j)=true :=
 ⟨⟨mF (n:=29) hi λx hx=>(h x hx).1,mF (n:=29) hj λx hx=>(h x hx).1⟩,(sS (n:=29) hi hj).trans (mR λx hx=>(h x hx).2)⟩
theorem msgD_pl(hd:∀d∈log,aT ps rs d):∀x∈ak rs log,Pln 3 x:=λx hx=>by
 obtain⟨p,hp,rfl⟩:=AAO.mp hx
 obtain⟨_,h2,h3⟩:=eW hd p hp
 generalize p.2=d at h2 h3
 obtain⟨t,z,k,num,r,u,s,rfl,_,_,_,hu⟩:=gB h2 h3
 have hub:Pln 2 u:=by
  rcases hu with rfl | hu
  ·exact .non
  ·exact hu.pl
 refine .tup (.cons (St.pl (n:=0) ⟨t,z,k,rfl⟩) (.cons (.str _) (.cons hub (.cons (.str _) (.cons ?_ (.cons (.bl _) .nil))))))
 cases e:aM (cJ (bz rs log) log) (stD (.tup [.int t,.tup [.str z,.int k],.int num,.tup [.str (AA1 "say"),.str r,u,.str s]])) with
 | none=>exact .str _
 | some v =>
  obtain⟨s',e'⟩:=kj hd _ (bK e)
  dsimp only at e'
  rw[e']
  exact .str _
def hd0:D->D
 | .tup (x::_)=>x
 | d=>d
theorem EJ(hd:∀d∈log,aT ps rs d):(ak rs log).map hd0=(bz rs log).map (·.1):=by
 unfold ak
 rw[AB6]
 refine ACf λp hp=>?_
 exact(eW hd p hp).1.symm
theorem iI:(ak rs log).length<=log.length:=by
 unfold ak
 rw[AA6]
 exact AAy (AB4 _ _) (AAy aW.len bJ)
theorem iG:(bB n xs).filter (λr=>kp (bf r))=bB n (xs.filter kp):=by
 unfold bB
 rw[List.filter_map,List.filter_reverse]
 rfl
theorem RunW.part(hg:∀x,g x=(f x).filter kp)(hn:∀x,x≠.non->kp x=false->∀y∈f x,kp y=false)(hz:∀x,∀y∈f x,y≠.non)(h:RunW f rows todo out):(∀r∈todo,bf r≠.non)->RunW g (rows.filter λr=>kp (bf r)) (todo.filter λr=>kp (bf r)) (out.filter λr=>kp (bf r)):=by
 induction h with
 | done=>exact λ_=>.done
 | @step rows todo out n x h ih =>
  intro ht
  have hx:x≠.non:=ht (.tup [.int n,x]) (by simp)
  have ih:=ih λr hr=>by
   rcases AAl.mp hr with hr | hr
   ·exact ht r (AAW _ hr)
   ·obtain⟨s,hs,rfl⟩:=gD.mp hr
    exact hz x s hs
  rw[ACR,ACR,iG,←hg,iq]at ih
  rw[ACR,iq]
  cases e:kp x with
  | true =>
   rw[if_pos (show kp (bf (.tup [.int n,x]))=true from e)]at ih ⊢
   exact .step ih
  | false =>
   have e0:g x=[]:=by rw[hg];exact List.filter_eq_nil_iff.mpr λy hy=>by rw[hn x hx e y hy];decide
   rw[if_neg (show ¬kp (bf (.tup [.int n,x]))=true from λz=>by rw[show kp (bf (.tup [.int n,x]))=false from e]at z;cases z)]at ih ⊢
   rw[e0,ABI]at ih
   rw[ABI]
   simpa [bB]using ih
section
variable{ps:List (Str×Int)}{rs:List (Str×List Str)}{log:List D}{p:D->Bool}
theorem Stn.sub'(hs:∀d∈l',d∈l)(h:Stn rs l' d):Stn rs l d:=by
 induction h with
 | top h m u=>exact .top (hs _ h) m u
 | sub h m _ u o r ih=>exact .sub (hs _ h) m ih u o r
theorem LogS.part(hl:LogS ps rs log):LogS ps rs (log.filter p):=⟨λd hd=>hl.dk d (AAX.mp hd).1,AD7 _ hl.up,AAy (AB4 _ _) hl.len⟩
theorem bR:kinds (log.filter p) k=(kinds log k).filter p:=by
 unfold kinds
 rw[ABN,ABN]
 exact ABw λd _=>Bool.and_comm _ _
theorem LogS.es(hl:LogS ps rs log):af rs log=((kinds log (AA1 "say")).filter λd=>@decide (Stn rs (kinds log (AA1 "say")) d) (AA9 _)).map λd=>(stD d,d):=by
 have hk:∀d∈kinds log (AA1 "say"),aT ps rs d/\cU d=AA1 "say":=λd q=>⟨hl.dk d (bd q).1,(bd q).2⟩
 refine uo (λd q=>?_) (λd q=>(hk d q).1.st) (AD7 _ hl.up)
 obtain⟨t,z,k,num,r,u,s,rfl,_,_,_,hu⟩:=gB (hk d q).1 (hk d q).2
 exact hu
theorem LogS.mem(hl:LogS ps rs log):e∈(af rs log).map (·.2)↔Stn rs (kinds log (AA1 "say")) e:=by
 rw[hl.es,AB6]
 constructor
 ·intro h
  obtain⟨d,hd,rfl⟩:=AAO.mp h
  exact @of_decide_eq_true _ (AA9 _) (AAX.mp hd).2
 ·intro h
  exact AAO.mpr ⟨e,AAX.mpr ⟨h.mem,@decide_eq_true _ (AA9 _) h⟩,rfl⟩
theorem LogS.get(hl:LogS ps rs log):aM (af rs log) k=some e↔k=stD e/\Stn rs (kinds log (AA1 "say")) e:=by
 constructor
 ·intro h
  exact⟨(xa aW h).1,hl.mem.mp (AAp (f:=(·.2)) (bK h))⟩
 ·rintro⟨rfl,h⟩
  obtain⟨q,hq,e1⟩:=AAO.mp (hl.mem.mpr h)
  obtain⟨h1,_⟩:=aW.en q hq
  have:=fS aW.nd hq
  rw[h1,e1]at this
  exact this
theorem LogS.get_part(hl:LogS ps rs log)(h:aM (af rs (log.filter p)) k=some e):aM (af rs log) k=some e:=by
 obtain⟨h1,h2⟩:=hl.part.get.mp h
 rw[bR]at h2
 exact hl.get.mpr ⟨h1,h2.sub' λd hd=>(AAX.mp hd).1⟩
theorem LogS.byw(hl:LogS ps rs log)(h:byW (af rs (log.filter p)) d=true):byW (af rs log) d=true:=by
 unfold byW at h ⊢
 cases e:aM (af rs (log.filter p)) (tW d) with
 | none=>rw[e]at h;cases h
 | some v =>
  rw[e]at h
  rw[hl.get_part e]
  exact h
theorem LogS.backed(hl:LogS ps rs log)(h:aO (af rs (log.filter p)) (log.filter p) x):aO (af rs log) log x:=by
 obtain⟨d,hd,h1,h2⟩:=h
 rw[bR]at hd
 exact⟨d,(AAX.mp hd).1,hl.byw h1,h2⟩
noncomputable def sM(rs:List (Str×List Str))(part:List D)(s:D):Bool:=@decide (∃e∈(af rs part).map (·.2),stD e=s) (AA9 _)
theorem LogS.kids(hl:LogS ps rs log)(r:Str)(k:D):aC r ((af rs (log.filter p)).map (·.2)) k=(aC r ((af rs log).map (·.2)) k).filter (sM rs (log.filter p)):=by
 have e1:(af rs (log.filter p)).map (·.2)=((af rs log).map (·.2)).filter λe=>sM rs (log.filter p) (stD e):=by
  have m1:∀l:List D,(l.map λd=>(stD d,d)).map (·.2)=l:=λl=>by rw[AB6];exact ACG _
  rw[hl.es,hl.part.es,m1,m1,bR,ABN,ABN]
  refine ABw λe he=>?_
  have rl:Ris (kinds log (AA1 "say")):=AD7 _ hl.up
  have kp:sM rs (log.filter p) (stD e)=true↔Stn rs ((kinds log (AA1 "say")).filter p) e:=by
   unfold sM
   rw[@decide_eq_true_iff _ (AA9 _)]
   constructor
   ·rintro⟨e',h1,h2⟩
    have h3:=hl.part.mem.mp h1
    rw[bR]at h3
    rw[←rl.one e' (AAX.mp h3.mem).1 e he h2]
    exact h3
   ·intro h1
    exact⟨e,hl.part.mem.mpr (by rw[bR];exact h1),rfl⟩
  by_cases q:Stn rs ((kinds log (AA1 "say")).filter p) e
  ·rw[kp.mpr q,@decide_eq_true _ (AA9 _) q,@decide_eq_true _ (AA9 _) (q.sub' λd hd=>(AAX.mp hd).1),(AAX.mp q.mem).2]
  ·have:sM rs (log.filter p) (stD e)=false:=ABL.mpr λz=>q (kp.mp z)
   rw[this,@decide_eq_false _ (AA9 _) q]
   rfl
 rw[e1]
 generalize (af rs log).map (·.2)=es
 unfold aC
 rw[List.filter_map,ABN,ABN]
 congr 1
 exact ABw λe _=>Bool.and_comm _ _
theorem LogS.run(hl:LogS ps rs log)(h:RunW (aC r ((af rs log).map (·.2))) [] (bB 0 (aC r ((af rs log).map (·.2)) .non)) out):RunW (aC r ((af rs (log.filter p)).map (·.2))) [] (bB 0 (aC r ((af rs (log.filter p)).map (·.2)) .non)) (out.filter λx=>sM rs (log.filter p) (bf x)):=by
 have hS:∀e∈(af rs log).map (·.2),stD e≠.non:=λe he z=>by
  have:=hl.mem.mp he
  obtain⟨t,z',k,e'⟩:=(hl.dk e (bd this.mem).1).st
  rw[z]at e';cases e'
 have hz:∀x,∀y∈aC r ((af rs log).map (·.2)) x,y≠.non:=λx y hy=>by
  obtain⟨e,he,rfl,_⟩:=fi.mp hy
  exact hS e he
 have:=RunW.part (g:=aC r ((af rs (log.filter p)).map (·.2))) (kp:=sM rs (log.filter p)) (hl.kids r) (λx hx hk y hy=>?_) hz h (λq hq=>by
  obtain⟨s,hs,rfl⟩:=gD.mp hq
  exact hz _ s hs)
 ·rw[iG,←hl.kids r]at this
  exact this
 ·obtain⟨e,he,rfl,_,hu⟩:=fi.mp hy
  refine ABL.mpr λz=>?_
  have rl:Ris (kinds log (AA1 "say")):=AD7 _ hl.up
  obtain⟨e',h1,h2⟩:=@of_decide_eq_true _ (AA9 _) z
  have h3:=hl.part.mem.mp h1
  rw[bR]at h3
  have:e'=e:=rl.one e' (AAX.mp h3.mem).1 e (hl.mem.mp he).mem h2
  subst this
  cases h3 with
  | top _ _ u=>exact hx (hu.symm.trans u)
  | @sub _ e2 _ _ s u _ _ =>
   have:sM rs (log.filter p) x=true:=@decide_eq_true _ (AA9 _) ⟨e2,hl.part.mem.mpr (by rw[bR];exact s),u.symm.trans hu⟩
   rw[hk]at this;cases this
end
theorem zG(hl:LogS ps rs log)(hm:m∈ak rs log):∃(e:D) (t:Int) (z:Str) (k:Int) (v:D) (b:Bool),aM (af rs log) (stD e)=some e/\¬aO (af rs log) log (stD e)/\stD e=.tup [.int t,.tup [.str z,.int k]]/\m=.tup [.tup [.int t,.tup [.str z,.int k]],.str (cE e),df e,.str (gO e),v,.bl b]/\(df e=.non\/St (df e)):=by
 obtain⟨q,hq,rfl⟩:=AAO.mp hm
 obtain⟨h1,h2,h3⟩:=eW hl.dk q hq
 have hq':=gz.mp hq
 have hg:=fS aW.nd hq'.1
 rw[h1]at hg hq'
 generalize q.2=e at hg hq' h2 h3
 obtain⟨t,z,k,num,r,u,s,rfl,_,_,_,hu⟩:=gB h2 h3
 exact⟨_,t,z,k,_,_,hg,hq'.2,rfl,rfl,hu⟩
theorem DM(hl:LogS ps rs log)(hg:aM (af rs log) (stD e)=some e)(hb:¬aO (af rs log) log (stD e)):∃(v:D) (b:Bool),D.tup [stD e,.str (cE e),df e,.str (gO e),v,.bl b]∈ak rs log:=by
 have:(stD e,e)∈bz rs log:=gz.mpr ⟨bK hg,hb⟩
 exact⟨_,_,AAp (f:=λp:D×D=>Cr (cJ (bz rs log) log) p.2) this⟩
def nR:DTS:=bE (dC (.bl true))
def nS:DTS:=dIf (aK (dOp qNe (dLC 1 [10] (bT (dCB db (aa (ab 0) (aa (ab 2) (aa (ab 7) ag))))) (au 0) (aK (dOp qIn (dOp qIx (ab 0) (dC (.int 1))) (ab 1))) (ab 0)) (ab 9))) (bE (dC (.bl false))) bo
def nT:DTS:=aB (aY (dLC 1 [] (bT (ab 9)) (au 0) sV (dOp qIx (ab 0) (dC (.int 1)))) 10) (nS)
def nU:DTS:=aB (lR (bT (dOp qIx (ab 0) (dC (.int 1)))) (qR 2 (eP (au 7) (eP (au 8) qS))) (aB (kh 1 [6] (bT (dCB db (aa (ab 0) (aa (ab 1) (aa (ab 7) ag))))) (au 0) (aK (dOp gI (dOp qIx (ab 0) (dC (.int 1))) (ab 1))) (ab 0) 9) (nT))) (nR)
def nV:DTS:=aB (dIf (aK (dOp qNe (dLC 1 [6] (bT (dCB bL (aa (ab 0) (aa (ab 1) ag)))) (au 0) (aK (dOp gI (ab 0) (ab 1))) (ab 0)) (kg ag))) (bE (dC (.bl false))) bo) (nU)
def nW:DTS:=aB (lR (bT (ab 3)) (au 5) (dIf (aK (dOp gI (dOp qIx (ab 5) (dC (.int 0))) (ab 6))) (dIf (dOr (aK (dOp mi (dOp qIx (ab 5) (dC (.int 0))) (ab 4))) (aK (dOp qNe (dSl (mW (ab 4) (dOp qIx (ab 5) (dC (.int 0)))) (hV (dC (.int 1))) (hV (dC (.int 4)))) (dSl (ab 5) (hV (dC (.int 1))) (hV (dC (.int 4))))))) (bE (dC (.bl false))) bo) bo)) (nV)
def nX:DTS:=aB (aY (dCB bL (aa (ab 0) (aa (ab 2) ag))) 6) (nW)
def nY:DTS:=aB (lR (bT (dCB br (aa (ab 0) (aa (ab 2) ag)))) (au 5) (mV (ab 4) (dOp qIx (ab 5) (dC (.int 0))) (ab 5))) (nX)
def nZ:DTS:=aB (aY (pC) 4) (nY)
def va:DTS:=aB (aY (dCB br (aa (ab 0) (aa (ab 1) ag))) 3) (nZ)
theorem xN:WpT fx 11 va:=by
 rintro ds M R ⟨ps,rs,log,p,rfl,hl,h⟩
 have l60:=hl.len
 have hp:=hl.part (p:=p)
 have p60:=hp.len
 have bk:∀x,aO (af rs (log.filter p)) (log.filter p) x->aO (af rs log) log x:=λx=>hl.backed
 have gp:∀k e,aM (af rs (log.filter p)) k=some e->aM (af rs log) k=some e:=λk e=>hl.get_part
 have run:∀r out,RunW (aC r ((af rs log).map (·.2))) [] (bB 0 (aC r ((af rs log).map (·.2)) .non)) out->RunW (aC r ((af rs (log.filter p)).map (·.2))) [] (bB 0 (aC r ((af rs (log.filter p)).map (·.2)) .non)) (out.filter λx=>sM rs (log.filter p) (bf x)):=λr out=>hl.run
 generalize log.filter p=part at hp p60 bk gp run
 have ml:=iI (rs:=rs) (log:=log)
 have ml':=iI (rs:=rs) (log:=part)
 simp only[va]
 walk_at "dl"
 refine⟨ps,rs,part,rfl,hp.dk,by lia,?_⟩
 have g3:(M++[MO.lst (ak rs part)])[M.length]?=some (.lst (ak rs part)):=ae
 have pM0:M <+: M++[MO.lst (ak rs part)]:=dq
 generalize M++[MO.lst (ak rs part)]=B1 at g3 pM0
 generalize M.length=q3 at g3
 simp only[nZ,nY]
 walk_at "dl"
 refine⟨ps,rs,log,rfl,hl.dk,by lia,_,ay,λ_=>?_⟩
 have q34:=aF g3
 have g5:(B1++[MO.dkt []]++[MO.lst (ak rs log)])[(B1++[MO.dkt []]).length]?=some (.lst (ak rs log)):=ae
 have g4:(B1++[MO.dkt []]++[MO.lst (ak rs log)])[B1.length]?=some (.dkt []):=ac ae
 have q45:B1.length≠(B1++[MO.dkt []]).length:=by simp
 have p1:B1 <+: B1++[MO.dkt []]++[MO.lst (ak rs log)]:=dq.trans dq
 generalize B1++[MO.dkt []]++[MO.lst (ak rs log)]=B2 at g5 g4 p1
 generalize (B1++[MO.dkt []]).length=q5 at g5 q45
 have fnd:((ak rs log).map hd0).Nodup:=by rw[EJ hl.dk];exact sf
 refine bc (λi S M'=>∃a:Option D,B1 <+: M'/\M'[B1.length]?=some (.dkt (((ak rs log).take i).map λm=>(hd0 m,m)))/\M'[q5]?=some (.lst (ak rs log))/\S=[some (aG ps rs),some (.tup part),some (.tup log),some (.ref q3),some (.ref B1.length),a,none,none,none,none,none]) ?_ ?_ ⟨_,p1,g4,g5,rfl⟩
 ·rintro S M' ⟨a,pM,ga,g5,rfl⟩
  rw[ABl]at ga
  refine⟨.inl g5,?_⟩
  simp only[nX]
  walk_at "dl"
  refine⟨ps,rs,log,rfl,hl.dk,by lia,λgone bg=>?_⟩
  dsimp only
  have g3b:=ac (a:=MO.lst gone) (bv pM g3)
  have gab:=ac (a:=MO.lst gone) ga
  have g6:(M'++[MO.lst gone])[M'.length]?=some (.lst gone):=ae
  have pB:=(pM0.trans pM).trans (dq (mo:=MO.lst gone))
  generalize M'++[MO.lst gone]=B3 at g3b gab g6 pB
  generalize M'.length=q6 at g6
  have gl:=bg.len
  simp only[nW]
  walk_at "dl"
  refine⟨_,.inl g3b,λ_=>?_⟩
  refine bc (λi S M'=>∃a:Option D,M'=B3/\S=[some (aG ps rs),some (.tup part),some (.tup log),some (.ref q3),some (.ref B1.length),a,some (.ref q6),none,none,none,none]) ?_ ?_ ⟨_,rfl,rfl⟩
  ·rintro S M' ⟨a,rfl,rfl⟩
   refine⟨.inl g3b,?_⟩
   simp only[nV]
   walk_at "dl"
   refine⟨ps,rs,part,rfl,hp.dk,by lia,λys bp=>⟨_,ay,λ_=>?_⟩⟩
   have g6b:=ac (a:=MO.lst ys) g6
   have gy:(M'++[MO.lst ys])[M'.length]?=some (.lst ys):=ae
   replace pB:=pB.trans (dq (mo:=MO.lst ys))
   have yl:=bp.len
   generalize M'++[MO.lst ys]=B4 at g6b gy pB
   refine aR (λ_=>false) id (λS=>∃a,S=[a,some (.ref q6)]) (.inl gy) _ _ _ ?_ ⟨_,rfl⟩ (by rw[AAb];exact ax (by lia)) ?_
   ·rintro x hx S ⟨a,rfl⟩
    refine⟨[some x,some (.ref q6)],⟨_,rfl⟩,λY Z hYZ=>?_⟩
    have hxs:=bp.st x hx
    walk_at "dl"
    refine⟨_,.inl g6b,⟨hxs.ok,lA bg.st⟩,?_⟩
    rw[lL hxs bg.st,decide_eq_true ((bg.mem x).mpr (bk x ((bp.mem x).mp hx)))]
    exact hYZ
   rw[AAx,ACG,List.filter_eq_nil_iff.mpr λ_ _=>by decide]
   have g6c:=ac (a:=MO.lst []) g6b
   have ge:(B4++[MO.lst []])[B4.length]?=some (.lst []):=ae
   replace pB:=pB.trans (dq (mo:=MO.lst []))
   generalize B4++[MO.lst []]=B5 at g6c ge pB
   obtain⟨okn,en⟩:=iV (M:=B5) (.inl ge) λ_ z=>nomatch z
   refine⟨AAS _,okn,?_⟩
   rw[en]
   refine cD ?_
   replace g6c:=ac (a:=MO.lst []) g6c
   replace pB:=pB.trans (dq (mo:=MO.lst []))
   generalize B5++[MO.lst []]=B6 at g6c pB
   simp only[nU,aG]
   walk_at "dl"
   intro _
   refine bc (λi S M'=>∃(b c d e:Option D),M <+: M'/\M'[q6]?=some (.lst gone)/\S=[some (aG ps rs),some (.tup part),some (.tup log),some (.ref q3),some (.ref B1.length),a,some (.ref q6),b,c,d,e]) ?_ ?_ ⟨_,_,_,_,pB,g6c,rfl⟩
   ·rintro S M' ⟨b,c,d,e,pM,_,rfl⟩
    refine⟨trivial,?_⟩
    simp only[nR]
    walk_at "dl"
    exact bD.bl h pM
   ·rintro i y S M' hy ⟨b,c,d,e,pM,g6,rfl⟩ G hG
    obtain⟨pr,hpr,rfl⟩:=AAO.mp (AAc hy)
    have hr:pr.1∈rs.map (·.1):=AAp hpr
    refine⟨trivial,?_⟩
    unfold jz
    walk_at "dl"
    refine⟨trivial,ps,rs,part,pr.1,rfl,hr,hp.dk,by lia,λout1 h1 k1=>⟨_,ay,λz1=>?_⟩⟩
    have k1':∀x∈out1.filter λx=>@decide (¬aO (af rs part) part (bf x)) (AA9 _),∃k s,x=.tup [.int k,s]/\St s:=λx hx=>k1 x (AAX.mp hx).1
    generalize hL1:(out1.filter λx=>@decide (¬aO (af rs part) part (bf x)) (AA9 _))=L1 at z1 k1'
    have g6b:=ac (a:=MO.lst L1) g6
    have gl1:(M'++[MO.lst L1])[M'.length]?=some (.lst L1):=ae
    have pM1:=pM.trans (dq (mo:=MO.lst L1))
    generalize M'++[MO.lst L1]=B7 at g6b gl1 pM1
    refine aR (λx=>decide (bf x∉gone)) id (λS=>∃a,S=[a,some (.ref q6)]) (.inl gl1) _ _ _ ?_ ⟨_,rfl⟩ (by rw[AAb];lia) ?_
    ·rintro x hx S ⟨a,rfl⟩
     refine⟨[some x,some (.ref q6)],⟨_,rfl⟩,λY Z hYZ=>?_⟩
     obtain⟨k,s,rfl,hs⟩:=k1' x hx
     walk_at "dl"
     refine⟨_,.inl g6b,⟨hs.ok,lA bg.st⟩,?_⟩
     rw[lL hs bg.st]
     by_cases hm:s∈gone
     ·rw[decide_eq_true hm]
      rw[show decide (bf (.tup [.int k,s])∉gone)=false from decide_eq_false λz=>z hm]at hYZ
      exact hYZ
     ·rw[decide_eq_false hm]
      rw[show decide (bf (.tup [.int k,s])∉gone)=true from decide_eq_true hm]at hYZ
      exact hYZ
    rw[AAx,ACG]
    have k2':∀x∈L1.filter λx=>decide (bf x∉gone),∃k s,x=.tup [.int k,s]/\St s:=λx hx=>k1' x (AAX.mp hx).1
    have z2:(L1.filter λx=>decide (bf x∉gone)).length<=sizeLine:=AAy (AB4 _ _) z1
    generalize hL2:(L1.filter λx=>decide (bf x∉gone))=L2 at k2' z2
    have g9:(B7++[MO.lst L2])[B7.length]?=some (.lst L2):=ae
    replace g6b:=ac (a:=MO.lst L2) g6b
    replace pM1:=pM1.trans (dq (mo:=MO.lst L2))
    generalize B7++[MO.lst L2]=B8 at g9 g6b pM1
    generalize B7.length=q9 at g9
    simp only[nT]
    walk_at "dl"
    refine⟨_,.inl g9,λ_=>?_⟩
    refine bZ bf (λS=>∃a,S=[a]) (.inl g9) _ _ _ (λx hx S hS=>?_) ⟨_,rfl⟩ (by rw[AAb];lia) ?_
    ·obtain⟨a,rfl⟩:=hS
     obtain⟨k,s,rfl,hs⟩:=k2' x hx
     refine⟨[some (.tup [.int k,s])],⟨_,rfl⟩,λY hY=>?_⟩
     walk_at "dl"
     exact hY
    rw[AAx]
    have ks:∀x∈L2.map bf,St x:=λx hx=>by
     obtain⟨y,hy,rfl⟩:=AAO.mp hx
     obtain⟨k,s,rfl,hs⟩:=k2' y hy
     exact hs
    have g10:(B8++[MO.lst (L2.map bf)])[B8.length]?=some (.lst (L2.map bf)):=ae
    replace g9:=ac (a:=MO.lst (L2.map bf)) g9
    replace g6b:=ac (a:=MO.lst (L2.map bf)) g6b
    replace pM1:=pM1.trans (dq (mo:=MO.lst (L2.map bf)))
    generalize B8++[MO.lst (L2.map bf)]=B9 at g10 g9 g6b pM1
    generalize B8.length=q10 at g10
    simp only[nS]
    walk_at "dl"
    refine⟨ps,rs,log,pr.1,rfl,hr,hl.dk,by lia,λout2 h2 k2=>⟨_,ay,λz3=>?_⟩⟩
    have e12:=h1.uni (run _ _ h2)
    have k3':∀x∈out2.filter λx=>@decide (¬aO (af rs log) log (bf x)) (AA9 _),∃k s,x=.tup [.int k,s]/\St s:=λx hx=>k2 x (AAX.mp hx).1
    have eL:(out2.filter λx=>@decide (¬aO (af rs log) log (bf x)) (AA9 _)).filter (λx=>decide (bf x∈L2.map bf))=L2:=by
     have e2:L2=out2.filter λx=>@decide (sM rs part (bf x)=true/\¬aO (af rs part) part (bf x)/\bf x∉gone) (AA9 _):=by
      rw[←hL2,←hL1,e12,ABN,ABN]
      refine ABw λx _=>?_
      by_cases c1:sM rs part (bf x)=true<;>by_cases c2:aO (af rs part) part (bf x)<;>by_cases c3:bf x∈gone<;>simp[c1,c2,c3]
     have m2:∀x,x∈L2↔x∈out2/\(sM rs part (bf x)=true/\¬aO (af rs part) part (bf x)/\bf x∉gone):=λx=>by
      rw[e2,List.mem_filter,@decide_eq_true_iff _ (AA9 _)]
     rw[ABN]
     refine Eq.trans (ABw λx hx=>?_) e2.symm
     have m3:bf x∈L2.map bf↔(sM rs part (bf x)=true/\¬aO (af rs part) part (bf x)/\bf x∉gone):=by
      constructor
      ·intro z
       obtain⟨y,hy,e⟩:=AAO.mp z
       have:=((m2 y).mp hy).2
       rw[e]at this
       exact this
      ·exact λz=>AAp ((m2 x).mpr ⟨hx,z⟩)
     by_cases c:sM rs part (bf x)=true/\¬aO (af rs part) part (bf x)/\bf x∉gone
     ·rw[decide_eq_true (m3.mpr c),@decide_eq_true _ (AA9 _) c,@decide_eq_true _ (AA9 _) (λz=>c.2.2 ((bg.mem _).mpr z))]
      rfl
     ·rw[decide_eq_false λz=>c (m3.mp z),@decide_eq_false _ (AA9 _) c]
      rfl
    generalize (out2.filter λx=>@decide (¬aO (af rs log) log (bf x)) (AA9 _))=L3 at z3 k3' eL
    have gl3:(B9++[MO.lst L3])[B9.length]?=some (.lst L3):=ae
    replace g9:=ac (a:=MO.lst L3) g9
    replace g10:=ac (a:=MO.lst L3) g10
    replace g6b:=ac (a:=MO.lst L3) g6b
    replace pM1:=pM1.trans (dq (mo:=MO.lst L3))
    generalize B9++[MO.lst L3]=B10 at gl3 g10 g9 g6b pM1
    refine aR (λx=>decide (bf x∈L2.map bf)) id (λS=>∃a,S=[a,some (.ref q10)]) (.inl gl3) _ _ _ ?_ ⟨_,rfl⟩ (by rw[AAb];lia) ?_
    ·rintro x hx S ⟨a,rfl⟩
     refine⟨[some x,some (.ref q10)],⟨_,rfl⟩,λY Z hYZ=>?_⟩
     obtain⟨k,s,rfl,hs⟩:=k3' x hx
     walk_at "dl"
     refine⟨_,.inl g10,⟨hs.ok,lA ks⟩,?_⟩
     rw[lL hs ks]
     by_cases hm:s∈L2.map bf
     ·rw[decide_eq_true hm]
      rw[show decide (bf (.tup [.int k,s])∈L2.map bf)=true from decide_eq_true hm]at hYZ
      exact hYZ
     ·rw[decide_eq_false hm]
      rw[show decide (bf (.tup [.int k,s])∈L2.map bf)=false from decide_eq_false hm]at hYZ
      exact hYZ
    rw[AAx,ACG,eL]
    obtain⟨okk,ee⟩:=vD (M:=B10++[MO.lst L2]) (i:=B10.length) (j:=q9) ay (.inl (ac g9)) λx hx=>by
     obtain⟨k,s,rfl,hs⟩:=k2' x hx
     exact vJ 3 29 _ (by decide) (.tup (.cons (.int _) (.cons hs.pl .nil)))
    refine⟨okk,?_⟩
    rw[ee]
    exact cD (Fgt.now (hG _ _ ⟨_,_,_,_,pM1.trans dq,ac g6b,rfl⟩))
  ·rintro i m S M' hy ⟨a,rfl,rfl⟩ G hG
   refine⟨.inl g3b,?_⟩
   obtain⟨e,t,z,k,v,b,hg,hb,es,rfl,hu⟩:=zG hp (AAc hy)
   have hst:St (.tup [.int t,.tup [.str z,.int k]]):=⟨_,_,_,rfl⟩
   walk_at "dl"
   refine⟨_,.inl g6,⟨hst.ok,lA bg.st⟩,?_⟩
   rw[lL hst bg.st]
   by_cases hin:D.tup [.int t,.tup [.str z,.int k]]∈gone
   ·rw[decide_eq_true hin]
    exact Fgt.now (hG _ _ ⟨_,rfl,rfl⟩)
   ·rw[decide_eq_false hin]
    have nb:¬aO (af rs log) log (stD e):=λq=>hin (by rw[←es];exact(bg.mem _).mpr q)
    obtain⟨v',b',hm'⟩:=DM hl (gp _ _ hg) nb
    rw[es]at hm'
    have ga':aM ((ak rs log).map λm=>(hd0 m,m)) (.tup [.int t,.tup [.str z,.int k]])=some (.tup [.tup [.int t,.tup [.str z,.int k]],.str (cE e),df e,.str (gO e),v',.bl b']):=by
     have:=fS (kvs:=(ak rs log).map λm=>(hd0 m,m)) (by rw[AB6];exact fnd) (AAp (f:=λm=>(hd0 m,m)) hm')
     exact this
    refine da ⟨_,gab,rfl,?_⟩
    rw[ga']
    refine cD ⟨_,_,gab,rfl,ga',?_⟩
    walk_at "dl"
    have ec:∀(v:D) (b:Bool),cutD [.tup [.int t,.tup [.str z,.int k]],.str (cE e),df e,.str (gO e),v,.bl b] (some 1) (some 4)=[.str (cE e),df e,.str (gO e)]:=λ_ _=>rfl
    rw[ec,ec]
    obtain⟨o1,e1⟩:=vJ (M:=M') 3 eqN (.tup [.str (cE e),df e,.str (gO e)]) (by decide) (.tup (.cons (.str _) (.cons (hu.elim (λq=>by rw[q];exact .non) λq=>q.pl) (.cons (.str _) .nil))))
    refine⟨⟨o1,o1⟩,?_⟩
    rw[e1]
    exact cD (Fgt.now (hG _ _ ⟨_,rfl,rfl⟩))
 ·rintro i y S M' hy ⟨a,pM,ga,g5,rfl⟩ G hG
  have hm:=AAc hy
  have hi:=(AA7.mp hy).1
  have et:(ak rs log).take (i+1)=(ak rs log).take i++[y]:=by rw[ACE,hy];rfl
  rw[et,AAm,List.map_singleton]at hG
  refine⟨.inl g5,?_⟩
  have ny:hd0 y∉(((ak rs log).take i).map λm=>(hd0 m,m)).map (·.1):=λz=>by
   rw[AB6]at z
   have f:=fnd
   rw[←ADw (i+1) (ak rs log),et,AAm,AAm]at f
   have f1:=(ABv.mp (ABv.mp f).1).2.2
   exact f1 _ z _ (by simp) rfl
  obtain⟨e,t,z,k,v,b,_,_,_,ey,_⟩:=zG hl hm
  have pn:cX (((ak rs log).take i).map λm=>(hd0 m,m)) (.tup [.int t,.tup [.str z,.int k]]) y=(((ak rs log).take i).map λm=>(hd0 m,m))++[(hd0 y,y)]:=by
   have:=mn (d:=y) ny
   rw[show hd0 y=_ from congrArg hd0 ey]at this
   rw[show hd0 y=_ from congrArg hd0 ey]
   exact this
  rw[ey]at hG pn ⊢
  walk_at "dl"
  refine⟨_,ga,rfl,aE (by rw[AA6,AB2];lia),?_⟩
  rw[pn]
  exact Fgt.now (hG _ _ ⟨_,bG pM (AA8 _),bn ga,ap (ABC q45) g5,rfl⟩)
theorem yp(T:Tops P w K mg base):Cal P w K mg base 7 "_law_grown" qq fx :=
 Cal.byD (N:=["_law_house_here","_law_part_here","_law_log_here","_law_before","_law_after","_law_message","_law_gone","_law_room","_law_members","_law_rows","_law_known"]) T.b T.f_grown (by walk_at "sc") wv (by have:=kx T;have:=mz T;have:=tQ T;walk_at "dv") xN
theorem Bu:de (uc (AA1 "_law_log")) Be:=by rintro ds M R ⟨ns,mo,_,_,rfl,_⟩;rfl
def CntH(cnt:List (D×D)):Prop:=∀x∈cnt,∃c:Int,x.2=.int c
theorem CntH.put(k:CntH cnt):CntH (cX cnt h (.int c)):=λx hx=>by
 rcases ff hx with rfl | hx
 ·exact⟨c,rfl⟩
 ·exact k x hx
theorem BG(hc:aM cnt h=some (.int c))(hd:aT ps rs d)(hi:inB cnt d=true):inB (cX cnt h (.int (c+1))) d=true:=by
 obtain⟨t,z,k,num,x,ds,rfl,_⟩:=hd
 unfold inB at hi ⊢
 by_cases e:hdO (.tup [.int t,.tup [.str z,.int k],.int num,.tup (.str x::ds)])=h
 ·rw[e,cf]
  rw[e,hc]at hi
  have:=of_decide_eq_true hi
  exact decide_eq_true (by lia)
 ·rw[cy e]
  exact hi
def rT:DTS:=bE (qT (dCB fx (aa (ab 1) (aa (ab 6) (aa (ab 2) ag)))) (qT (dCB fx (aa (ab 1) (aa (ab 6) (aa (ab 8) ag)))) (dCB fx (aa (ab 1) (aa (ab 8) (aa (ab 2) ag))))))
def uQ:DTS:=aB (aY (dCB kq (aa (ab 2) (aa (ab 4) ag))) 8) (rT)
def uR:DTS:=aB (mV (ab 4) (ab 5) (dOp ba (mW (ab 4) (ab 5)) (dC (.int 1)))) (uQ)
def uS:DTS:=aB (aY (dOp qIx (ab 7) (dCB aq (aa (ab 3) (aa (dCB lE (aa (ab 7) ag)) ag)))) 5) (uR)
def uT:DTS:=aB (aY (dCB fv (aa (ab 1) ag)) 7) (uS)
def uU:DTS:=aB (aY (dCB kq (aa (ab 2) (aa (ab 4) ag))) 6) (uT)
def uV:DTS:=aB (lR (bT (dCB fv (aa (ab 1) ag))) (au 5) (mV (ab 4) (ab 5) (dCB aq (aa (ab 3) (aa (dOp ba (dC (.int 1)) (dCB lE (aa (dLC 1 [5] (bT (ab 2)) (au 0) (aK (dOp qEq (dOp qIx (ab 0) (dC (.int 1))) (ab 1))) (ab 0)) ag))) ag))))) (uU)
def uW:DTS:=aB (aY (pC) 4) (uV)
def pZ:DTS:=aB (aY (dCB cC (aa (dCB dc (aa (ab 0) (aa (dC (.int 1)) ag))) ag)) 3) (uW)
def uX:DTS:=aB (aY (dCB tj (aa (dSl (ab 0) (hV (dC (.int 2))) (hV (dC (.int 62)))) (aa (ab 1) ag))) 2) (pZ)
def CG:DTS:=aB (aY (dCB jd (aa (dCB dc (aa (ab 0) (aa (dC (.int 0)) ag))) ag)) 1) (uX)
theorem Cy:WpT (uc (AA1 "_law_log")) 9 CG:=by
 rintro ds M R ⟨ns,mo,h63,⟨hmo,hml⟩,rfl,rfl,h⟩
 have hL0:am [mo,.tb (AA1 "_law_log") false] 0 (ns.map D.int):=by
  have:=jR (M:=[mo,.tb (AA1 "_law_log") false]) (n:=0) (mo:=mo) rfl hml
  rw[hmo]at this
  exact this
 simp only[CG]
 walk_at "dl"
 refine⟨0,ns,0,rfl,hL0,_,rfl,λps rs hf=>?_⟩
 obtain⟨few,n1,n12⟩:=jZ hf
 simp only[uX]
 walk_at "dl"
 refine⟨_,hL0,?_⟩
 have ec:∃cs:List Int,cutD (ns.map D.int) (some 2) (some 62)=cs.map D.int/\cs.length<=60:=by
  unfold cutD
  refine⟨(ns.drop (HT.sIx (ns.map D.int).length 0 (some 2))).take (HT.sIx (ns.map D.int).length (ns.map D.int).length (some 62)-HT.sIx (ns.map D.int).length 0 (some 2)),by rw[List.map_take,List.map_drop],?_⟩
  rw[AB2]
  unfold HT.sIx
  simp
  lia
 obtain⟨cs,ec,cl⟩:=ec
 rw[ec]
 refine⟨ps,rs,2,1,cs,rfl,hf,.inl rfl,by decide,cl,rfl,λlog hl=>?_⟩
 have l60:=hl.len
 have hL:am ([mo,.tb (AA1 "_law_log") true,.lst (cs.map D.int)]:Mem) 0 (ns.map D.int):=by
  have:=jR (M:=[mo,.tb (AA1 "_law_log") true,.lst (cs.map D.int)]) (n:=0) (mo:=mo) rfl hml
  rw[hmo]at this
  exact this
 show pZ _ _ ([mo,.tb (AA1 "_law_log") true,.lst (cs.map D.int)]:Mem)
 generalize ([mo,.tb (AA1 "_law_log") true,.lst (cs.map D.int)]:Mem)=B0 at hL
 simp only[pZ]
 walk_at "dl"
 refine⟨0,ns,1,rfl,hL,_,rfl,λn0=>?_⟩
 have q0:HdP (B0++[MO.lst [.int n0]]) B0.length:=⟨n0,ae⟩
 generalize B0++[MO.lst [.int n0]]=B1 at q0
 generalize B0.length=q3 at q0
 simp only[uW,uV]
 walk_at "dl"
 refine⟨ps,_,rfl,few,_,ay,λ_=>?_⟩
 have hq:=q0.lt
 have g4:(B1++[MO.dkt []]++[MO.lst (ar ps)])[B1.length]?=some (.dkt []):=ac ae
 have g5:(B1++[MO.dkt []]++[MO.lst (ar ps)])[(B1++[MO.dkt []]).length]?=some (.lst (ar ps)):=ae
 have g3:HdP (B1++[MO.dkt []]++[MO.lst (ar ps)]) q3:=by
  obtain⟨m,e⟩:=q0
  exact⟨m,ac (ac e)⟩
 have q34:q3≠B1.length:=by lia
 have q45:B1.length≠(B1++[MO.dkt []]).length:=by simp
 have q35:q3≠(B1++[MO.dkt []]).length:=by simp;lia
 generalize B1++[MO.dkt []]++[MO.lst (ar ps)]=B2 at g4 g5 g3
 generalize B1.length=q4 at g4 q34 q45
 generalize (B1++[MO.dkt []]).length=q5 at g5 q45 q35
 refine bc (λi S M'=>∃(a:Option D) (cnt:List (D×D)),M'[q4]?=some (.dkt cnt)/\M'[q5]?=some (.lst (ar ps))/\HdP M' q3/\CntH cnt/\(∀x∈(ar ps).take i,∃c:Int,aM cnt x=some (.int c))/\cnt.length<=i/\S=[some (.ref 0),some (aG ps rs),some (.tup log),some (.ref q3),some (.ref q4),a,none,none,none]) ?_ ?_ ⟨_,[],g4,g5,g3,(λ_ z=>nomatch z),(λ_ z=>nomatch z),AA8 _,rfl⟩
 ·rintro S M' ⟨a,cnt,g4,g5,g3,kc,hc,kl,rfl⟩
  rw[ABl]at hc
  refine⟨.inl g5,?_⟩
  simp only[uU]
  walk_at "dl"
  refine⟨ps,rs,log,q4,cnt,rfl,hl.dk,by lia,g4,hc,?_⟩
  simp only[uT,aG]
  walk_at "dl"
  refine⟨ps,_,rfl,few,?_⟩
  have g7:(M'++[MO.lst (ar ps)])[M'.length]?=some (.lst (ar ps)):=ae
  have l4:=aF g4
  have l3:=g3.lt
  replace g4:=ac (a:=MO.lst (ar ps)) g4
  replace g3:HdP (M'++[MO.lst (ar ps)]) q3:=by
   obtain⟨m,e⟩:=g3
   exact⟨m,ac e⟩
  have q37:q3≠M'.length:=by lia
  generalize M'++[MO.lst (ar ps)]=B3 at g7 g4 g3
  generalize M'.length=q7 at g7 q37
  simp only[uS]
  walk_at "dl"
  refine⟨_,.inl g7,q3,_,rfl,g3,by lia,by lia,λi n i0 i1=>?_⟩
  have g7':=ap (x:=MO.lst [.int n]) (ABC q37) g7
  have g4':=ap (x:=MO.lst [.int n]) (ABC q34) g4
  generalize B3.set q3 (MO.lst [.int n])=B4 at g7' g4'
  dsimp only
  refine⟨_,.inl g7',?_⟩
  obtain⟨j,hj,ej,_⟩:=eT (xs:=ar ps) i0 i1
  rw[ej]
  dsimp only
  have hm:=AB8 hj
  generalize (ar ps)[j]=y at hm
  obtain⟨z,k,rfl⟩:=iZ y hm
  obtain⟨c,ec'⟩:=hc _ hm
  simp only[uR]
  walk_at "dl"
  refine⟨_,_,g4',rfl,ec',?_⟩
  walk_at "dl"
  refine⟨_,g4',rfl,aE (by lia),?_⟩
  have hc':∀x∈ar ps,∃c':Int,aM (cX cnt (.tup [.str z,.int k]) (.int (c+1))) x=some (.int c'):=λx hx=>by
   by_cases e:x=.tup [.str z,.int k]
   ·rw[e,cf];exact⟨_,rfl⟩
   ·rw[cy e];exact hc x hx
  have em:(log.filter (inB (cX cnt (.tup [.str z,.int k]) (.int (c+1))))).filter (inB cnt)=log.filter (inB cnt):=by
   rw[ABN]
   refine ABw λd hd=>?_
   cases e:inB cnt d with
   | false=>rfl
   | true=>rw[BG ec' (hl.dk d hd) e];rfl
  replace g4':=bn (a:=MO.dkt (cX cnt (.tup [.str z,.int k]) (.int (c+1)))) g4'
  generalize B4.set q4 (MO.dkt (cX cnt (.tup [.str z,.int k]) (.int (c+1))))=B5 at g4'
  generalize cX cnt (.tup [.str z,.int k]) (.int (c+1))=cnt' at *
  simp only[uQ]
  walk_at "dl"
  refine⟨ps,rs,log,q4,cnt',rfl,hl.dk,by lia,g4',hc',?_⟩
  simp only[rT]
  walk_at "dl"
  refine⟨ps,rs,log,inB cnt,rfl,hl,?_⟩
  walk_at "ifs"
  refine⟨ps,rs,log.filter (inB cnt'),inB cnt,by rw[em];rfl,hl.part,?_⟩
  walk_at "ifs"
  exact⟨ps,rs,log,inB cnt',rfl,hl,.inl (h _)⟩
 ·rintro i y S M' hy ⟨a,cnt,g4,g5,g3,kc,hc,kl,rfl⟩ G hG
  have hm:=AAc hy
  have hi:=(AA7.mp hy).1
  have et:(ar ps).take (i+1)=(ar ps).take i++[y]:=by rw[ACE,hy];rfl
  rw[et]at hG
  obtain⟨z,k,rfl⟩:=iZ y hm
  refine⟨.inl g5,?_⟩
  walk_at "dl"
  intro _
  refine aR (λd=>eqD M' eqN (hdO d) (.tup [.str z,.int k])) id (λS=>∃a,S=[a,some (.tup [.str z,.int k])]) trivial _ _ _ ?_ ⟨_,rfl⟩ (by rw[AAb];exact ax (by lia)) ?_
  ·rintro d hm S ⟨a,rfl⟩
   obtain⟨t',z',k',num',x,ds,rfl,_⟩:=hl.dk d hm
   refine⟨[some (.tup [.int t',.tup [.str z',.int k'],.int num',.tup (.str x::ds)]),some (.tup [.str z,.int k])],⟨_,rfl⟩,λY Z hYZ=>?_⟩
   walk_at "dl"
   exact⟨⟨rfl,rfl⟩,hYZ⟩
  ·have ll:([]++List.map id (List.filter (λd=>eqD M' eqN (hdO d) (.tup [.str z,.int k])) log)).length<=60:=by
    rw[AAx,ACG]
    exact AAy (AB4 _ _) l60
   generalize []++List.map id (List.filter (λd=>eqD M' eqN (hdO d) (.tup [.str z,.int k])) log)=ws at ll
   have l4:=aF g4
   have l3:=g3.lt
   have g3':HdP (M'++[MO.lst ws]) q3:=by
    obtain⟨m,e⟩:=g3
    exact⟨m,ac e⟩
   have g3s:=g3'.lt
   refine⟨_,ay,q3,_,rfl,g3',by lia,by lia,λj n _ _=>⟨cnt,ap (ABC q34) (ac g4),rfl,aE (by lia),Fgt.now (hG _ _ ⟨_,cX cnt (.tup [.str z,.int k]) (.int j),bn (ap (ABC q34) (ac g4)),ap (ABC q45) (ap (ABC q35) (ac g5)),⟨n,ap q34 (AAj g3s)⟩,kc.put,λx hx=>?_,?_,rfl⟩)⟩⟩
   ·by_cases e:x=.tup [.str z,.int k]
    ·rw[e,cf];exact⟨_,rfl⟩
    ·rw[cy e]
     rcases AAl.mp hx with hx | hx
     ·exact hc x hx
     ·exact absurd (AC4.mp hx) e
   ·have:=jB (kvs:=cnt) (k:=.tup [.str z,.int k]) (d:=.int j)
    lia
theorem ok_law(T:Tops P w K mg base)(F:Fun K "law" "law" (top 46) f fd):FnOk P w K mg base CX0 9 f fd Be (spL K (uc "_law_log")) :=
 yX (N:=["_law_script","_law_house_here","_law_log_here","_law_held","_law_counts","_law_hand","_law_part_here","_law_hands_here","_law_more"]) T.b F (by walk_at "sc") Bu (by have:=tS T;have:=jO T;have:=cT T;have:=yo T;have:=sk T;have:=DF T;have:=Bj T;have:=yp T;walk_at "dv") Cy
end
end LW
namespace PySem.W.Fast
def tw10059819011350799722:=0
def tw1007020221014872245:=0
def tw10071778691301618917:=0
def tw1010249738209623307:=0
def tw1012219316366076192:=0
def tw10237669883951848032:=0
def tw10292772921848588852:=0
def tw10391396012963454620:=0
def tw10397913736539712144:=0
def tw10476375135127954825:=0
def tw10493979676979250487:=0
def tw10498031010544613549:=0
def tw10521412767502044225:=0
def tw10598713631791833935:=0
def tw10671096647032481752:=0
def tw10805757364775553139:=0
def tw10857059818230442890:=0
def tw10881024634788669654:=0
def tw1091253844638513797:=0
def tw11076526870927016649:=0
def tw11084179093305983016:=0
def tw11111924871748928957:=0
def tw11335723706083915953:=0
def tw11742624986076577099:=0
def tw11761400303308064318:=0
def tw11792488342048884792:=0
def tw11830420681501069623:=0
def tw11946070230852125115:=0
def tw12142315837037404839:=0
def tw12152061133995474962:=0
def tw12222805682580106751:=0
def tw12259982666173327519:=0
def tw12304375354107592288:=0
def tw12415222972259737784:=0
def tw12788488931599937480:=0
def tw12858658340031039722:=0
def tw13043473363673572741:=0
def tw1304552376803471231:=0
def tw13070656918085408539:=0
def tw13074455149286118846:=0
def tw13110749644371935311:=0
def tw13114108705659424373:=0
def tw13156748250287046864:=0
def tw13170025980902021697:=0
def tw13313401299967622956:=0
def tw13341279281777284693:=0
def tw13524962963663290903:=0
def tw13535069008398287420:=0
def tw13571432783498161599:=0
def tw13578296745005563520:=0
def tw13604355168838343985:=0
def tw13667622193047516441:=0
def tw13777754909671915669:=0
def tw13801478407193530783:=0
def tw13857757878205156628:=0
def tw13892308564714148345:=0
def tw13937471784125583372:=0
def tw13976284259704437609:=0
def tw14096078981716172829:=0
def tw14205680088450453200:=0
def tw14256094148679349232:=0
def tw14310664578358241308:=0
def tw14326219589739510889:=0
def tw14327865359214944218:=0
def tw1449957651864066700:=0
def tw14549881042314053669:=0
def tw14553325399995975050:=0
def tw14691218692701181523:=0
def tw14712350849582343123:=0
def tw14764051216240695620:=0
def tw14770746521218943661:=0
def tw14791836407166634006:=0
def tw14868011442250557791:=0
def tw15207901794088877947:=0
def tw15298256754832251324:=0
def tw15525971792444613602:=0
def tw15580669795287004790:=0
def tw15591372541285267240:=0
def tw15614350094799322591:=0
def tw1571080916160775307:=0
def tw15751419324444382628:=0
def tw15793407521721706881:=0
def tw15890556600819630630:=0
def tw15993817900702217186:=0
def tw16205784992897197671:=0
def tw16283875059142046320:=0
def tw16404971598176089256:=0
def tw164960826201735041:=0
def tw16624034895183874030:=0
def tw16638436472933933792:=0
def tw16690427612892674321:=0
def tw16719169674317612334:=0
def tw16724665011712671978:=0
def tw17046685075563462714:=0
def tw17071016839575935856:=0
def tw17086476430858325836:=0
def tw17110488057056393393:=0
def tw17117318289221958206:=0
def tw17145119276468028093:=0
def tw1718213980091453086:=0
def tw17277467858678427858:=0
def tw17286131384691939239:=0
def tw17365718725145285946:=0
def tw17498945295793615032:=0
def tw176927598149110545:=0
def tw17743496397895615353:=0
def tw17745914578702985435:=0
def tw17760272282900873785:=0
def tw17765166084622055778:=0
def tw17854984227607549873:=0
def tw17936745634925877674:=0
def tw17967674557885847915:=0
def tw17969415698224473495:=0
def tw17976487538705946781:=0
def tw18091834281692218156:=0
def tw18228617904412945591:=0
def tw18230573231511388911:=0
def tw1826020968094298662:=0
def tw18362411925481371459:=0
def tw18444511062245513414:=0
def tw18444969696839791293:=0
def tw1902758939440917141:=0
def tw1919966548847092642:=0
def tw1962519436476928402:=0
def tw205224809375452443:=0
def tw2153345851920156139:=0
def tw2234241141931915035:=0
def tw2270722567912581133:=0
def tw2271880330912006208:=0
def tw2378837160291047881:=0
def tw2388549988171982028:=0
def tw2478641740718620743:=0
def tw2524691461535069966:=0
def tw2565535098632373668:=0
def tw2635307494414602759:=0
def tw2678772266856075728:=0
def tw2684665022227415428:=0
def tw2691563383336841118:=0
def tw269546687792001604:=0
def tw2771580981548436197:=0
def tw2832495436043238254:=0
def tw2837145570455935544:=0
def tw293676069883887964:=0
def tw2947841996638370358:=0
def tw304468104728799765:=0
def tw3183259934254647847:=0
def tw3330961025756170933:=0
def tw339348683730265473:=0
def tw3473861665553145150:=0
def tw3532308789491822990:=0
def tw3751878168669076231:=0
def tw3752221879973738863:=0
def tw3817938077684722110:=0
def tw3825232757870599930:=0
def tw3897712595383821067:=0
def tw39431034336657098:=0
def tw39597255778048733:=0
def tw4013947410779441725:=0
def tw4088637963877431390:=0
def tw4130357119643547172:=0
def tw429048381818799085:=0
def tw438185739557198615:=0
def tw4388663516013681849:=0
def tw4426405990383318671:=0
def tw4502725848521891655:=0
def tw4512469635096935222:=0
def tw4610620746441538463:=0
def tw469584585829105843:=0
def tw4704107140870932938:=0
def tw4884736618257366050:=0
def tw4955586772654356478:=0
def tw5034117520868086035:=0
def tw5062271536483708566:=0
def tw5118217682782675605:=0
def tw5135116229341962070:=0
def tw514278850682182826:=0
def tw5181860502807104884:=0
def tw5241077971288494589:=0
def tw5262472883666375939:=0
def tw5342890429931851088:=0
def tw5374313736721554527:=0
def tw5402685407474240851:=0
def tw5525401330218421976:=0
def tw5547372367717578348:=0
def tw5605671747471407017:=0
def tw5618971779320479509:=0
def tw5679175173315675171:=0
def tw5900386659458689771:=0
def tw6072333636784875422:=0
def tw6168323838922673149:=0
def tw6388866625448079863:=0
def tw6466992739264661864:=0
def tw6539825742514898260:=0
def tw6599415674324316007:=0
def tw6656140316344268740:=0
def tw6703197765661944143:=0
def tw6735511436580997286:=0
def tw6992673989298791390:=0
def tw7096096973514375568:=0
def tw7103127739678287454:=0
def tw7198042108045792039:=0
def tw7288015617061039914:=0
def tw733647221483617862:=0
def tw7341952139608901917:=0
def tw7351085021087923440:=0
def tw7426537907205842718:=0
def tw7559852846720097269:=0
def tw758413065291977630:=0
def tw7648974325898561149:=0
def tw7846168034671021702:=0
def tw7852775410465261870:=0
def tw7890381928311026851:=0
def tw7954990361773539561:=0
def tw8004720214839456102:=0
def tw8049999937735716254:=0
def tw8286411322911161454:=0
def tw8506593466726258876:=0
def tw8527680736628235523:=0
def tw853784995586185187:=0
def tw86133622347316423:=0
def tw868024922506167745:=0
def tw8717029963121577280:=0
def tw887972509223409859:=0
def tw8884596035038071355:=0
def tw8895967260794370796:=0
def tw8927966046512782160:=0
def tw8949524562341386936:=0
def tw8989002157813861237:=0
def tw9023129771869063145:=0
def tw9047097050209146400:=0
def tw9058118767845361686:=0
def tw9076039196412491341:=0
def tw9076280994847129375:=0
def tw9109097066334686019:=0
def tw911701412267276777:=0
def tw9159111177538688454:=0
def tw924218618544175120:=0
def tw9248388131708662227:=0
def tw9279828342531893323:=0
def tw9292095202428865241:=0
def tw9355994986209552330:=0
def tw9438357274569171443:=0
def tw9576743235417309079:=0
def tw9608661353329381598:=0
def tw9623482419251924726:=0
def tw9645518309851337304:=0
def tw967877926755260127:=0
def tw9754568568068994046:=0
end PySem.W.Fast
local macro_rules | `(tactic| walk_at "f1")=>`(tactic| (refine' L2.fnat_mk (by assumption) (by assumption) ?a ?l ?c ?k (λ_ _ _ _ _ _ us hl=>match us,hl with | [_],_=>rfl);(case a=>k_is);(case l=>k_is);(case c=>k_is);(case k=>k_is)))
local macro_rules | `(tactic| walk_at "f2")=>`(tactic| (refine' L2.fnat_mk (by assumption) (by assumption) ?a ?l ?c ?k (λ_ _ _ _ _ _ us hl=>match us,hl with | [_,_],_=>rfl);(case a=>k_is);(case l=>k_is);(case c=>k_is);(case k=>k_is)))
local macro_rules | `(tactic| walk_at "f3")=>`(tactic| (refine' L2.fnat_mk (by assumption) (by assumption) ?a ?l ?c ?k (λ_ _ _ _ _ _ us hl=>match us,hl with | [_,_,_],_=>rfl);(case a=>k_is);(case l=>k_is);(case c=>k_is);(case k=>k_is)))
local macro_rules | `(tactic| walk_at "f4")=>`(tactic| (refine' L2.fnat_mk (by assumption) (by assumption) ?a ?l ?c ?k (λ_ _ _ _ _ _ us hl=>match us,hl with | [_,_,_,_],_=>rfl);(case a=>k_is);(case l=>k_is);(case c=>k_is);(case k=>k_is)))
local macro_rules | `(tactic| walk_at "f5")=>`(tactic| (refine' L2.fnat_mk (by assumption) (by assumption) ?a ?l ?c ?k (λ_ _ _ _ _ _ us hl=>match us,hl with | [_,_,_,_,_],_=>rfl);(case a=>k_is);(case l=>k_is);(case c=>k_is);(case k=>k_is)))
open PySem PySem.W PyProof.Rows
set_option maxRecDepth 100000 in
set_option maxHeartbeats 0 in
theorem PySem.Challenge.cw_talkmarks_k25_whole_later_logs_holds : PySem.Challenge.rw_talkmarks_k25_whole_later_logs.Holds := by
 w_on; o_law; k_head; (case hw=>w_witness2)
 k_fill
 refine L2.law_walkL (z:="_law_log") (l:=PySem.Challenge.rw_talkmarks_k25_whole_later_logs) (k:=9) (st:=LW.top 46) (x:="_law_script") rfl rfl rfl ⟨rfl,by decide,by decide⟩ (fun w h Y=>PySem.W.km_in_of Y) (fun _=>by kernel_rfl) rfl (fun _=>rfl) ?F (fun _ _ _ _ _ _ _=>rfl)
 case F =>
  intro w mg h KX G
  have T:∀ P base,L2.BMain mg base→LW.Tops P w (L2.KOf KX) mg base:=by
   intro P base bm
   dsimp only [L2.KOf]
   constructor
   ·walk_at "f1"
   ·walk_at "f2"
   ·walk_at "f2"
   ·walk_at "f1"
   ·walk_at "f1"
   ·walk_at "f2"
   ·walk_at "f1"
   ·walk_at "f1"
   ·walk_at "f3"
   ·walk_at "f2"
   ·walk_at "f2"
   ·walk_at "f3"
   ·walk_at "f2"
   ·walk_at "f2"
   ·walk_at "f2"
   ·walk_at "f2"
   ·walk_at "f2"
   ·walk_at "f2"
   ·walk_at "f2"
   ·walk_at "f2"
   ·walk_at "f1"
   ·walk_at "f3"
   ·walk_at "f2"
   ·walk_at "f1"
   ·walk_at "f2"
   ·walk_at "f1"
   ·walk_at "f2"
   ·walk_at "f1"
   ·walk_at "f2"
   ·walk_at "f3"
   ·walk_at "f3"
   ·walk_at "f4"
   ·walk_at "f5"
   ·walk_at "f1"
   ·walk_at "f2"
   ·walk_at "f2"
   ·walk_at "f3"
   ·walk_at "f1"
   ·unfold LW.B_ LW.C_
    iterate 9 (refine' L2.TopB.b ?tq ?_; (case tq=>refine' PySem.W.mg_none_of KX G ?tr; (case tr=>k_is)))
    exact .nil
   ·exact bm
  refine ⟨?_,fun base f fd bm F=>LW.ok_law (T _ base bm) F⟩
  try dsimp only [L2.KOf]
  walk_at "f1"
